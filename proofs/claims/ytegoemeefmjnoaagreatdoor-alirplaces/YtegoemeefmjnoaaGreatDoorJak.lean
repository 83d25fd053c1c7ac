import Derived.Test.YtegoemeefmjnoaaGreatDoorJah
import Derived.Test.YtegoemeefmjnoaaGreatDoorJaj
set_option linter.unusedVariables false
set_option linter.unusedSimpArgs false
namespace Go.Proofs.YtegoemeefmjnoaaGreatDoor
open Go.ChangeShapes Go.WideShapes Go.ChangeAt Go.RowKit Go.Maps
theorem SlM.look {w b c sl} (h : SlM w (some b) c sl) {a : Int} (ha : Fits a) : (Instr.lookup 78 (.map (some b)) (.int .i64 a) true).run Tryz.prog w = .ok (.tuple #[.int .i64 ((sl a).getD 0), .bool (sl a).isSome]) w := by
 obtain ⟨D, d1, d2⟩ := h.yes b rfl
 obtain ⟨v, ps, hr, hv⟩ := d1.look_ok law3 Tryz.underlying78 (zero3 w) (plainElem_int Tryz.underlying3 (by decide)) (keyOf_int_mk Tryz.underlying3 ha.wf)
 obtain ⟨x, rfl, hc, _⟩ := plainElem_int_inv Tryz.underlying3 hv
 obtain ⟨g1, g2⟩ := d2 a ha
 rw [g1] at hr
 have hx := congrArg Prod.fst hc
 simp only at hx
 rw [g2] at hx
 cases hx
 exact hr
theorem SlM.put {w b c sl} (h : SlM w (some b) c sl) {a x : Int} (ha : Fits a) (hx : Fits x) (hc : c < 1000000000) : ∃ w', (Instr.mapUpdate 78 (.map (some b)) (.int .i64 a) (.int .i64 x)).run Tryz.prog w = .ok () w' /\ SlM w' (some b) (c + 1) (upd sl a (some x)) /\ Only (fun k => k = b) w w' := by
 obtain ⟨D, d1, d2⟩ := h.yes b rfl
 obtain ⟨w', hr, own, gr⟩ := d1.update law3 Tryz.underlying78 (by unfold maxLen; omega) (keyOf_int_mk Tryz.underlying3 ha.wf) (plainElem_int Tryz.underlying3 hx.wf)
 refine ⟨w', hr, ⟨fun q => (by cases q), fun b' hb' => ?_⟩, (Only.of_grown gr).mono fun k _ hk => by cases hk; rfl⟩
 cases hb'
 refine ⟨_, own, fun y hy => ?_⟩
 unfold upd
 by_cases e : y = a
 ·subst e
  simp only [if_true]
  exact ⟨has_put_same d1.isMap (show WideAt.IsKeyLit (Lit.int .i64 _) from trivial) _, atKey_put_same d1.isMap (show WideAt.IsKeyLit (Lit.int .i64 _) from trivial) _ _⟩
 ·rw [atKey_put_other (key_ne e), has_put_other (key_ne e), if_neg e]
  exact d2 y hy
set_option maxRecDepth 100000 in
theorem fGet_some {s Q t w b F g} (h : FB s Q t w b F (some g)) (n : Int) (hn : Fits n) :
 Calls Tryz.prog 52 #[.pointer (some ⟨b, 0, none⟩), .agg #[.int .i64 2, .int .i64 n]] w fun e w' => e = .returned (.int .i64 ((F.sl n).getD (-1))) /\ Below w.heap.size w w' := by
 have hlt := h.lt
 have c0 : w.cell? ⟨b, 11, none⟩ = some (.map (some g)) := cell_arr h.box (by rw [List.getElem?_toArray]; exact fav_sl h.rg)
 have HB : Hid _ := below_newA w (.cells #[.int .i64 2, .int .i64 n] 24)
 have HL : ∀ q : Nat, (Instr.lookup 78 (.map (some g)) (.int .i64 n) true).run Tryz.prog ((w.alloc (.cells #[.int .i64 2, .int .i64 n] 24)).drewN q) = .ok (.tuple #[.int .i64 ((F.sl n).getD 0), .bool (F.sl n).isSome]) ((w.alloc (.cells #[.int .i64 2, .int .i64 n] 24)).drewN q) := fun q => (h.sm.move (w' := (w.alloc (.cells #[.int .i64 2, .int .i64 n] 24)).drewN q) fun k hk => (below_drawnA HB.out q).block k (h.sm.lt hk).1).look hn
 clear h
 cases hs : F.sl n with
 | none =>
   rw [hs] at HL
   go_enter Tryz.func52, Tryz.ntmps52
   go_wp2_with fail
   go_quiet (fail)
   go_wp2_with fail
   go_ret
   exact ⟨rfl, by first | exact HB.out | exact below_drawnA HB.out _⟩
 | some x =>
   rw [hs] at HL
   simp only [Option.getD_some, Option.isSome_some] at HL
   go_enter Tryz.func52, Tryz.ntmps52
   go_wp2_with fail
   go_quiet (fail)
   go_wp2_with fail
   go_ret
   exact ⟨rfl, by first | exact HB.out | exact below_drawnA HB.out _⟩
theorem fGet_any {s Q t w b F m} (h : FB s Q t w b F m) (l : Int × Int) (x : Int) (hx : F.get l = some x) :
 Calls Tryz.prog 52 #[.pointer (some ⟨b, 0, none⟩), .agg #[.int .i64 l.1, .int .i64 l.2]] w fun e w' => e = .returned (.int .i64 x) /\ Below w.heap.size w w' := by
 obtain ⟨k, n⟩ := l
 simp only
 unfold Fa.get at hx
 simp only at hx
 by_cases k1 : k = 1
 ·subst k1
  rw [if_pos rfl] at hx
  by_cases h0 : 0 <= n
  ·rw [if_pos h0] at hx
   obtain ⟨q, rfl⟩ : ∃ q : Nat, n = (q : Int) := ⟨n.toNat, by omega⟩
   rw [Int.toNat_natCast] at hx
   exact fGet_reg h q x hx
  ·rw [if_neg h0] at hx; cases hx
 ·rw [if_neg k1] at hx
  by_cases k2 : k = 2
  ·subst k2
   rw [if_pos rfl] at hx
   split at hx
   ·next hf =>
    cases hx
    have hn := fitsB_iff.1 hf
    cases m with
    | none => rw [h.sm.no rfl n]; exact fGet_none h n hn
    | some g => exact fGet_some h n hn
   ·cases hx
  ·rw [if_neg k2] at hx
   cases hx
   exact fGet_else h.lt k n k1 k2
theorem FB.setRg {s Q t w b F m} (h : FB s Q t w b F m) {q : Nat} (hq : q < 8) (x : Int) : FB s Q t (w.setCell ⟨b, 3 + q, none⟩ (.int .i64 x)) b { F with rg := F.rg.set q x } m /\ Only (fun k => k = b) w (w.setCell ⟨b, 3 + q, none⟩ (.int .i64 x)) :=
 ⟨⟨box_set h.box (fav_setRg (by rw [h.rg]; exact hq) x), by simp [h.rg], h.sm.move fun g hg => heap_set_other (h.ne hg)⟩, Only.of_set w ⟨b, 3 + q, none⟩ (.int .i64 x)⟩
set_option maxRecDepth 100000 in
theorem fSet_reg {s Q t w b F m} (h : FB s Q t w b F m) (q : Nat) (hq : q < 8) (x : Int) :
 Calls Tryz.prog 57 #[.pointer (some ⟨b, 0, none⟩), .agg #[.int .i64 1, .int .i64 (q : Int)], .int .i64 x] w fun e w' => e = .returned (.tuple #[]) /\ FB s Q t w' b { F with rg := F.rg.set q x } m /\ Only (fun k => k = b) w w' := by
 have hlt := h.lt
 obtain ⟨W, hW⟩ : ∃ W, W = w.alloc (.cells #[.int .i64 1, .int .i64 (q : Int)] 24) := ⟨_, rfl⟩
 have hb : Below w.heap.size w W := by rw [hW]; exact below_newA w _
 have hx : W.heap[w.heap.size]? = some (.cells #[.int .i64 1, .int .i64 (q : Int)] 24 (0, 0)) := by rw [hW]; exact heap_alloc_new _ _
 have l1 : w.heap.size < W.heap.size := (gl hx)
 have y0 : W.cell? ⟨w.heap.size, 0, none⟩ = some (.int .i64 1) := cell_arr hx rfl
 have y1 : W.cell? ⟨w.heap.size, 1, none⟩ = some (.int .i64 (q : Int)) := cell_arr hx rfl
 obtain ⟨cb, hcb⟩ : ∃ cb, cb = w.heap.size := ⟨_, rfl⟩
 have h2 := h.below hb
 obtain ⟨v, hv⟩ : ∃ v, F.rg[q]? = some v := ⟨F.rg[q]'(by rw [h.rg]; exact hq), by simp [h.rg, hq]⟩
 have c0 : W.cell? ⟨b, 3 + q, none⟩ = some (.int .i64 v) := cell_arr h2.box (by rw [List.getElem?_toArray]; exact fav_rg hv)
 have f0 : W.frozen? ⟨b, 3 + q, none⟩ = false := fz_of h2.box
 have hlt2 := h2.lt
 have HFI : Hid (FB s Q t ((W.setCell ⟨b, 3 + q, none⟩ (.int .i64 x)).drew) b { F with rg := F.rg.set q x } m /\ Only (fun k => k = b) w ((W.setCell ⟨b, 3 + q, none⟩ (.int .i64 x)).drew)) := by
  have q1 := h2.setRg hq x
  exact ⟨q1.1.below (Below.refl _ _).drew, ((Only.of_below hb _).trans q1.2 (fun _ _ e => e)).trans (Only.of_below (Below.refl _ _).drew (fun k => k = b)) (fun _ _ e => e)⟩
 have hqi : (q : Int) < 8 := by omega
 rw [<- hcb] at y0 y1 l1
 have HCB : Hid (cb = w.heap.size) := hcb
 clear h h2 hb hx hv
 go_enter Tryz.func57, Tryz.ntmps57
 go_upto_region 1 with fail
 rw [<- hW, <- hcb]
 clear hW hcb
 go_wp2_with fail
 go_region
 go_wp2_with fail
 exact bodyPost_end (v := .tuple #[]) (by simp [results, Tryz.results57, go_sem]) rfl ⟨rfl, HFI.out⟩
set_option maxRecDepth 100000 in
theorem fSet_else {w : World} {b : Nat} (hlt : b < w.heap.size) (k n x : Int) (h1 : ¬ k = 1) (h2 : ¬ k = 2) :
 Calls Tryz.prog 57 #[.pointer (some ⟨b, 0, none⟩), .agg #[.int .i64 k, .int .i64 n], .int .i64 x] w fun e w' => e = .returned (.tuple #[]) /\ Below w.heap.size w w' := by
 have HB : Hid _ := below_newA w (.cells #[.int .i64 k, .int .i64 n] 24)
 have t1 : (k == 1) = false := by simp [h1]
 have t2 : (k == 2) = false := by simp [h2]
 clear h1 h2
 go_enter Tryz.func57, Tryz.ntmps57
 go_wp2_with fail
 exact bodyPost_end (v := .tuple #[]) (by simp [results, Tryz.results57, go_sem]) rfl ⟨rfl, HB.out⟩
theorem FB.setSl {s Q t w b F g w'} (h : FB s Q t w b F (some g)) {n x : Int} (hs : SlM w' (some g) (F.c + 1) (upd F.sl n (some x))) (ho : Only (fun k => k = g) w w') : FB s Q t w' b { F with sl := upd F.sl n (some x), c := F.c + 1 } (some g) :=
 ⟨(ho.block b h.lt (fun e => h.ne rfl e.symm)).trans h.box, h.rg, hs⟩
set_option maxRecDepth 100000 in
theorem fSet_some {s Q t w b F g} (h : FB s Q t w b F (some g)) (n x : Int) (hn : Fits n) (hx : Fits x) (hc : F.c < 1000000000) :
 Calls Tryz.prog 57 #[.pointer (some ⟨b, 0, none⟩), .agg #[.int .i64 2, .int .i64 n], .int .i64 x] w fun e w' => e = .returned (.tuple #[]) /\ FB s Q t w' b { F with sl := upd F.sl n (some x), c := F.c + 1 } (some g) /\ Only (fun k => k = b \/ k = g) w w' := by
 have hlt := h.lt
 obtain ⟨W, hW⟩ : ∃ W, W = w.alloc (.cells #[.int .i64 2, .int .i64 n] 24) := ⟨_, rfl⟩
 have hb : Below w.heap.size w W := by rw [hW]; exact below_newA w _
 have hx1 : W.heap[w.heap.size]? = some (.cells #[.int .i64 2, .int .i64 n] 24 (0, 0)) := by rw [hW]; exact heap_alloc_new _ _
 have l1 : w.heap.size < W.heap.size := (gl hx1)
 have y0 : W.cell? ⟨w.heap.size, 0, none⟩ = some (.int .i64 2) := cell_arr hx1 rfl
 have y1 : W.cell? ⟨w.heap.size, 1, none⟩ = some (.int .i64 n) := cell_arr hx1 rfl
 obtain ⟨cb, hcb⟩ : ∃ cb, cb = w.heap.size := ⟨_, rfl⟩
 have h2 := (h.below hb).below (Below.refl _ _).drew
 have c0 : W.cell? ⟨b, 11, none⟩ = some (.map (some g)) := cell_arr (h.below hb).box (by rw [List.getElem?_toArray]; exact fav_sl h.rg)
 have hlt2 : b < W.heap.size := h2.lt
 obtain ⟨w9, hrun, hs9, ho9⟩ := h2.sm.put hn hx hc
 have HFI : Hid (FB s Q t w9 b { F with sl := upd F.sl n (some x), c := F.c + 1 } (some g) /\ Only (fun k => k = b \/ k = g) w w9) := ⟨h2.setSl hs9 ho9, ((Only.of_below hb (fun k => k = b \/ k = g)).trans (Only.of_below (Below.refl _ _).drew (fun k => k = b \/ k = g)) (fun _ _ e => e)).trans (ho9.mono (F' := fun k => k = b \/ k = g) fun _ _ e => .inr e) (fun _ _ e => e)⟩
 rw [<- hcb] at y0 y1 l1
 have heq : ∀ W : World, (binOp .eql 78 (.map (some g)) (.map none)).run Tryz.prog W = .ok (.bool false) W := fun _ => by kernel_rfl
 clear h h2 hb hx1 hs9 ho9 hc
 go_enter Tryz.func57, Tryz.ntmps57
 go_upto_region 1 with fail
 rw [<- hW, <- hcb]
 clear hW hcb
 go_upto_region 7 with fail
 have S8 : (fun w' : World => w'.cell? ⟨b, 11, none⟩ = some (.map (some g)) /\ w'.cell? ⟨cb, 1, none⟩ = some (.int .i64 n) /\ b < w'.heap.size /\ cb < w'.heap.size) W.drew := ⟨c0, y1, hlt2, l1⟩
 refine lec_start (S := fun w' : World => w'.cell? ⟨b, 11, none⟩ = some (.map (some g)) /\ w'.cell? ⟨cb, 1, none⟩ = some (.int .i64 n) /\ b < w'.heap.size /\ cb < w'.heap.size) (z := 7) (by kernel_rfl) ?_
 show lec _ _ _ _ _ 8 _ _ _
 try simp only [List.size_toArray, List.length_cons, List.length_nil, Array.replicate]
 refine lec_takeP (i := 0) (v := ?v0z) rfl (by kernel_rfl) (by kernel_rfl) (by kernel_rfl) (by kernel_rfl) (fun _ _ _ h => h) (.inl ⟨by rfl, ?hy0z⟩) S8 ?rest0z
 case hy0z =>
  rintro w' _
  go_simp
  all_goals with_reducible rfl
 try simp only [Act.put, List.getElem_toArray, List.getElem_cons_succ, List.getElem_cons_zero, List.setIfInBounds_toArray, List.set_cons_zero, List.set_cons_succ]
 refine lec_takeP (i := 1) (v := ?v1z) rfl (by kernel_rfl) (by kernel_rfl) (by kernel_rfl) (by kernel_rfl) (fun _ _ _ h => h) (.inl ⟨by rfl, ?hy1z⟩) S8 ?rest1z
 case hy1z =>
  rintro w' _
  go_simp
  all_goals with_reducible rfl
 try simp only [Act.put, List.getElem_toArray, List.getElem_cons_succ, List.getElem_cons_zero, List.setIfInBounds_toArray, List.set_cons_zero, List.set_cons_succ]
 refine lec_takeP (i := 2) (v := ?v2z) rfl (by kernel_rfl) (by kernel_rfl) (by kernel_rfl) (by kernel_rfl) (fun _ _ _ h => h) (.inl ⟨by rfl, ?hy2z⟩) S8 ?rest2z
 case hy2z =>
  rintro w' _
  go_simp
  all_goals with_reducible rfl
 try simp only [Act.put, List.getElem_toArray, List.getElem_cons_succ, List.getElem_cons_zero, List.setIfInBounds_toArray, List.set_cons_zero, List.set_cons_succ]
 refine lec_takeT [7] (i := 3) (v := ?v3z) rfl (by kernel_rfl) (by kernel_rfl) (by kernel_rfl) (by kernel_rfl) (fun _ _ _ h => h) (.inl ⟨by rfl, ?hy3z⟩) S8 ?rest3z
 case hy3z =>
  rintro w' ⟨h1, h2, h3, h4⟩
  go_simp
  all_goals with_reducible rfl
 try simp only [Act.put, List.getElem_toArray, List.getElem_cons_succ, List.getElem_cons_zero, List.setIfInBounds_toArray, List.set_cons_zero, List.set_cons_succ]
 refine lec_takeP (i := 4) (v := ?v4z) rfl (by kernel_rfl) (by kernel_rfl) (by kernel_rfl) (by kernel_rfl) (fun _ _ _ h => h) (.inl ⟨by rfl, ?hy4z⟩) S8 ?rest4z
 case hy4z =>
  rintro w' _
  go_simp
  all_goals with_reducible rfl
 try simp only [Act.put, List.getElem_toArray, List.getElem_cons_succ, List.getElem_cons_zero, List.setIfInBounds_toArray, List.set_cons_zero, List.set_cons_succ]
 refine lec_takeT [7] (i := 5) (v := ?v5z) rfl (by kernel_rfl) (by kernel_rfl) (by kernel_rfl) (by kernel_rfl) (fun _ _ _ h => h) (.inl ⟨by rfl, ?hy5z⟩) S8 ?rest5z
 case hy5z =>
  rintro w' ⟨h1, h2, h3, h4⟩
  go_simp
  all_goals with_reducible rfl
 try simp only [Act.put, List.getElem_toArray, List.getElem_cons_succ, List.getElem_cons_zero, List.setIfInBounds_toArray, List.set_cons_zero, List.set_cons_succ]
 refine lec_takeP (i := 6) (v := ?v6z) rfl (by kernel_rfl) (by kernel_rfl) (by kernel_rfl) (by kernel_rfl) (fun _ _ _ h => h) (.inl ⟨by rfl, ?hy6z⟩) S8 ?rest6z
 case hy6z =>
  rintro w' _
  go_simp
  all_goals with_reducible rfl
 try simp only [Act.put, List.getElem_toArray, List.getElem_cons_succ, List.getElem_cons_zero, List.setIfInBounds_toArray, List.set_cons_zero, List.set_cons_succ]
 refine lec_one (i := 7) rfl (by kernel_rfl) ?_
 intro K7 hK7
 rw [if_pos (by rfl)]
 go_simp
 refine hK7 _ _ (fun h => by cases h) ?_
 clear hK7
 try simp only [Act.put, List.getElem_toArray, List.getElem_cons_succ, List.getElem_cons_zero, List.setIfInBounds_toArray, List.set_cons_zero, List.set_cons_succ]
 refine lec_done (by kernel_rfl) ?_
 clear S8
 go_wp2_with fail
 exact bodyPost_end (v := .tuple #[]) (by simp [results, Tryz.results57, go_sem]) rfl ⟨rfl, HFI.out⟩
set_option maxRecDepth 100000 in
theorem fSet_new {s Q t w b F} (h : FB s Q t w b F none) (n x : Int) (hn : Fits n) (hx : Fits x) (hc : F.c < 1000000000) :
 Calls Tryz.prog 57 #[.pointer (some ⟨b, 0, none⟩), .agg #[.int .i64 2, .int .i64 n], .int .i64 x] w fun e w' => e = .returned (.tuple #[]) /\ FB s Q t w' b { F with sl := upd F.sl n (some x), c := F.c + 1 } (some (w.heap.size + 1)) /\ Only (fun k => k = b) w w' := by
 have hlt := h.lt
 obtain ⟨W, hW⟩ : ∃ W, W = w.alloc (.cells #[.int .i64 2, .int .i64 n] 24) := ⟨_, rfl⟩
 have hb : Below w.heap.size w W := by rw [hW]; exact below_newA w _
 have hx1 : W.heap[w.heap.size]? = some (.cells #[.int .i64 2, .int .i64 n] 24 (0, 0)) := by rw [hW]; exact heap_alloc_new _ _
 have l1 : w.heap.size < W.heap.size := (gl hx1)
 have hWs : W.heap.size = w.heap.size + 1 := by rw [hW]; simp
 have y0 : W.cell? ⟨w.heap.size, 0, none⟩ = some (.int .i64 2) := cell_arr hx1 rfl
 obtain ⟨cb, hcb⟩ : ∃ cb, cb = w.heap.size := ⟨_, rfl⟩
 have h2 := h.below hb
 have c0 : W.cell? ⟨b, 11, none⟩ = some (.map none) := cell_arr h2.box (by rw [List.getElem?_toArray]; exact fav_sl h.rg)
 have f0 : W.frozen? ⟨b, 11, none⟩ = false := fz_of h2.box
 have hlt2 : b < W.heap.size := h2.lt
 obtain ⟨W3, hW3⟩ : ∃ W3, W3 = (W.setCell ⟨b, 11, none⟩ (.map (some W.heap.size))).alloc (.map #[] 0) := ⟨_, rfl⟩
 obtain ⟨g, hg⟩ : ∃ g, g = W.heap.size := ⟨_, rfl⟩
 have hgb : g ≠ b := by omega
 have h3 : FB s Q t W3 b F (some g) := by
  have hsz : (W.setCell ⟨b, 11, none⟩ (.map (some W.heap.size))).heap.size = W.heap.size := by simp [World.setCell]
  have hbx : (W.setCell ⟨b, 11, none⟩ (.map (some W.heap.size))).heap[b]? = some (.cells (fav s F (some g) ++ Q).toArray t (0, 0)) := box_set h2.box (by rw [<- hg]; exact fav_setSl h.rg)
  refine ⟨by rw [hW3, heap_alloc_old _ _ (by rw [hsz]; exact hlt2)]; exact hbx, h.rg, ⟨fun q => (by cases q), fun b' hb' => ?_⟩⟩
  cases hb'
  have own := World.ownsMap_made (W.setCell ⟨b, 11, none⟩ (.map (some W.heap.size))) Tryz.prog 3 (plainElem (H := Unit) Tryz.prog 3)
  rw [hsz, <- hg] at own
  refine ⟨_, (by rw [hW3, <- hg]; exact own.mono (Nat.zero_le _)), fun y hy => ?_⟩
  rw [h.sm.no rfl y]
  exact ⟨rfl, rfl⟩
 have ho3 : Only (fun k => k = b) w W3 := by
  rw [hW3]
  exact ((Only.of_below hb (fun k => k = b)).trans (Only.of_set W ⟨b, 11, none⟩ _) (fun _ _ e => e)).trans (Only.of_below (below_newA _ (.map #[] 0)) (fun k => k = b)) (fun _ _ e => e)
 have hlt3 : b < W3.heap.size := h3.lt
 have c3 : W3.cell? ⟨b, 11, none⟩ = some (.map (some g)) := cell_arr h3.box (by rw [List.getElem?_toArray]; exact fav_sl h.rg)
 have hcbb : cb ≠ b := by omega
 have hk3 : W3.heap[cb]? = some (.cells #[.int .i64 2, .int .i64 n] 24 (0, 0)) := by rw [hW3, heap_alloc_old _ _ (by simp [World.setCell]; omega), heap_set_other hcbb, hcb]; exact hx1
 have y3 : W3.cell? ⟨cb, 1, none⟩ = some (.int .i64 n) := cell_arr hk3 rfl
 have l3 : cb < W3.heap.size := (gl hk3)
 have h4 := h3.below (Below.refl _ _).drew
 obtain ⟨w9, hrun, hs9, ho9⟩ := h4.sm.put hn hx hc
 have HFI : Hid (FB s Q t w9 b { F with sl := upd F.sl n (some x), c := F.c + 1 } (some (w.heap.size + 1)) /\ Only (fun k => k = b) w w9) := by
  refine ⟨by rw [<- hWs, <- hg]; exact h4.setSl hs9 ho9, ⟨ho9.os.trans ho3.os, ho9.tape.trans ho3.tape, ho9.output.trans ho3.output, Nat.le_trans ho3.size ho9.size, fun k hk hn => ?_⟩⟩
  exact (ho9.block k (Nat.lt_of_lt_of_le hk ho3.size) (by omega)).trans (ho3.block k hk hn)
 have hmm := @run_makeMap Tryz.prog
 have heq : ∀ W : World, (binOp .eql 78 (.map none) (.map none)).run Tryz.prog W = .ok (.bool true) W := fun _ => by kernel_rfl
 rw [<- hcb] at y0 l1
 have HG : Hid (g = W.heap.size) := hg
 have HW3 : Hid _ := hW3
 clear hW3
 clear h h2 h3 h4 hb hx1 hs9 ho9 ho3 hc hk3 hg hWs hcbb hgb
 go_enter Tryz.func57, Tryz.ntmps57
 go_upto_region 1 with fail
 rw [<- hW, <- hcb]
 clear hW hcb
 go_upto_region 7 with fail
 rw [<- HW3.out]
 clear HW3 c0 f0 y0 hmm heq
 have S8 : (fun w' : World => w'.cell? ⟨b, 11, none⟩ = some (.map (some g)) /\ w'.cell? ⟨cb, 1, none⟩ = some (.int .i64 n) /\ b < w'.heap.size /\ cb < w'.heap.size) W3.drew := ⟨c3, y3, hlt3, l3⟩
 refine lec_start (S := fun w' : World => w'.cell? ⟨b, 11, none⟩ = some (.map (some g)) /\ w'.cell? ⟨cb, 1, none⟩ = some (.int .i64 n) /\ b < w'.heap.size /\ cb < w'.heap.size) (z := 7) (by kernel_rfl) ?_
 show lec _ _ _ _ _ 8 _ _ _
 try simp only [List.size_toArray, List.length_cons, List.length_nil, Array.replicate]
 refine lec_takeP (i := 0) (v := ?v0z) rfl (by kernel_rfl) (by kernel_rfl) (by kernel_rfl) (by kernel_rfl) (fun _ _ _ h => h) (.inl ⟨by rfl, ?hy0z⟩) S8 ?rest0z
 case hy0z =>
  rintro w' _
  go_simp
  all_goals with_reducible rfl
 try simp only [Act.put, List.getElem_toArray, List.getElem_cons_succ, List.getElem_cons_zero, List.setIfInBounds_toArray, List.set_cons_zero, List.set_cons_succ]
 refine lec_takeP (i := 1) (v := ?v1z) rfl (by kernel_rfl) (by kernel_rfl) (by kernel_rfl) (by kernel_rfl) (fun _ _ _ h => h) (.inl ⟨by rfl, ?hy1z⟩) S8 ?rest1z
 case hy1z =>
  rintro w' _
  go_simp
  all_goals with_reducible rfl
 try simp only [Act.put, List.getElem_toArray, List.getElem_cons_succ, List.getElem_cons_zero, List.setIfInBounds_toArray, List.set_cons_zero, List.set_cons_succ]
 refine lec_takeP (i := 2) (v := ?v2z) rfl (by kernel_rfl) (by kernel_rfl) (by kernel_rfl) (by kernel_rfl) (fun _ _ _ h => h) (.inl ⟨by rfl, ?hy2z⟩) S8 ?rest2z
 case hy2z =>
  rintro w' _
  go_simp
  all_goals with_reducible rfl
 try simp only [Act.put, List.getElem_toArray, List.getElem_cons_succ, List.getElem_cons_zero, List.setIfInBounds_toArray, List.set_cons_zero, List.set_cons_succ]
 refine lec_takeT [7] (i := 3) (v := ?v3z) rfl (by kernel_rfl) (by kernel_rfl) (by kernel_rfl) (by kernel_rfl) (fun _ _ _ h => h) (.inl ⟨by rfl, ?hy3z⟩) S8 ?rest3z
 case hy3z =>
  rintro w' ⟨h1, h2, h3, h4⟩
  go_simp
  all_goals with_reducible rfl
 try simp only [Act.put, List.getElem_toArray, List.getElem_cons_succ, List.getElem_cons_zero, List.setIfInBounds_toArray, List.set_cons_zero, List.set_cons_succ]
 refine lec_takeP (i := 4) (v := ?v4z) rfl (by kernel_rfl) (by kernel_rfl) (by kernel_rfl) (by kernel_rfl) (fun _ _ _ h => h) (.inl ⟨by rfl, ?hy4z⟩) S8 ?rest4z
 case hy4z =>
  rintro w' _
  go_simp
  all_goals with_reducible rfl
 try simp only [Act.put, List.getElem_toArray, List.getElem_cons_succ, List.getElem_cons_zero, List.setIfInBounds_toArray, List.set_cons_zero, List.set_cons_succ]
 refine lec_takeT [7] (i := 5) (v := ?v5z) rfl (by kernel_rfl) (by kernel_rfl) (by kernel_rfl) (by kernel_rfl) (fun _ _ _ h => h) (.inl ⟨by rfl, ?hy5z⟩) S8 ?rest5z
 case hy5z =>
  rintro w' ⟨h1, h2, h3, h4⟩
  go_simp
  all_goals with_reducible rfl
 try simp only [Act.put, List.getElem_toArray, List.getElem_cons_succ, List.getElem_cons_zero, List.setIfInBounds_toArray, List.set_cons_zero, List.set_cons_succ]
 refine lec_takeP (i := 6) (v := ?v6z) rfl (by kernel_rfl) (by kernel_rfl) (by kernel_rfl) (by kernel_rfl) (fun _ _ _ h => h) (.inl ⟨by rfl, ?hy6z⟩) S8 ?rest6z
 case hy6z =>
  rintro w' _
  go_simp
  all_goals with_reducible rfl
 try simp only [Act.put, List.getElem_toArray, List.getElem_cons_succ, List.getElem_cons_zero, List.setIfInBounds_toArray, List.set_cons_zero, List.set_cons_succ]
 refine lec_one (i := 7) rfl (by kernel_rfl) ?_
 intro K7 hK7
 rw [if_pos (by rfl)]
 go_simp
 refine hK7 _ _ (fun h => by cases h) ?_
 clear hK7
 try simp only [Act.put, List.getElem_toArray, List.getElem_cons_succ, List.getElem_cons_zero, List.setIfInBounds_toArray, List.set_cons_zero, List.set_cons_succ]
 refine lec_done (by kernel_rfl) ?_
 clear S8
 go_wp2_with fail
 exact bodyPost_end (v := .tuple #[]) (by simp [results, Tryz.results57, go_sem]) rfl ⟨rfl, HFI.out⟩
theorem fSet_any {s Q t w b F m} (h : FB s Q t w b F m) (l : Int × Int) (x : Int) (F' : Fa) (hF : F.set l x = some F') :
 Calls Tryz.prog 57 #[.pointer (some ⟨b, 0, none⟩), .agg #[.int .i64 l.1, .int .i64 l.2], .int .i64 x] w fun e w' => e = .returned (.tuple #[]) /\ ∃ m', FB s Q t w' b F' m' /\ Only (fun k => k = b \/ m = some k) w w' /\ (m' = m \/ (m = none /\ ∃ g, m' = some g /\ w.heap.size <= g)) := by
 obtain ⟨k, n⟩ := l
 simp only
 unfold Fa.set at hF
 simp only at hF
 by_cases k1 : k = 1
 ·subst k1
  rw [if_pos rfl] at hF
  split at hF
  ·next h0 =>
   cases hF
   obtain ⟨q, rfl⟩ : ∃ q : Nat, n = (q : Int) := ⟨n.toNat, by omega⟩
   rw [Int.toNat_natCast, h.rg] at h0
   rw [Int.toNat_natCast]
   refine (fSet_reg h q h0.2 x).mono ?_
   rintro e w' ⟨rfl, h1, h2⟩
   exact ⟨rfl, m, h1, h2.mono fun _ _ e => .inl e, .inl rfl⟩
  ·cases hF
 ·rw [if_neg k1] at hF
  by_cases k2 : k = 2
  ·subst k2
   rw [if_pos rfl] at hF
   split at hF
   ·next h0 =>
    cases hF
    simp only [Bool.and_eq_true, fitsB_iff, decide_eq_true_eq] at h0
    cases m with
    | none =>
      refine (fSet_new h n x h0.1 h0.2.1 h0.2.2).mono ?_
      rintro e w' ⟨rfl, h1, h2⟩
      exact ⟨rfl, _, h1, h2.mono fun _ _ e => .inl e, .inr ⟨rfl, _, rfl, Nat.le_succ _⟩⟩
    | some g =>
      refine (fSet_some h n x h0.1 h0.2.1 h0.2.2).mono ?_
      rintro e w' ⟨rfl, h1, h2⟩
      exact ⟨rfl, _, h1, h2.mono fun _ _ e => e.imp id (fun q => by rw [q]), .inl rfl⟩
   ·cases hF
  ·rw [if_neg k2] at hF
   cases hF
   refine (fSet_else h.lt k n x k1 k2).mono ?_
   rintro e w' ⟨rfl, hb⟩
   exact ⟨rfl, m, h.below hb, Only.of_below hb _, .inl rfl⟩
theorem list8 {α : Type} {L : List α} (h : L.length = 8) : ∃ a b c d e f g i, L = [a, b, c, d, e, f, g, i] := by
 match L, h with
 | [a, b, c, d, e, f, g, i], _ => exact ⟨a, b, c, d, e, f, g, i, rfl⟩
structure KpS (s : Ast) (Q : List Value) (t : TypeId) (w0 : World) (b hb : Nat) (F : Fa) (m : Option Nat) (R : List Int) (w : World) : Prop where
 fb : FB s Q t w b { F with rg := R } m
 hd : w.heap[hb]? = some (.cells (F.rg.map (Value.int .i64)).toArray 77 (0, 0))
 on : Only (fun k => k = b) w0 w
 ne : hb ≠ b /\ w0.heap.size <= hb
theorem KpS.set {s Q t w0 b hb F m R w} (h : KpS s Q t w0 b hb F m R w) {q : Nat} (hq : q < 8) (x : Int) : KpS s Q t w0 b hb F m (R.set q x) (w.setCell ⟨b, 3 + q, none⟩ (.int .i64 x)) :=
 have e := h.fb.setRg hq x
 ⟨e.1, (heap_set_other h.ne.1).trans h.hd, h.on.trans e.2 (fun _ _ q => q), h.ne⟩
theorem KpS.cell {s Q t w0 b hb F m R w} (h : KpS s Q t w0 b hb F m R w) {q : Nat} (hq : q < 8) : (∃ v, w.cell? ⟨b, 3 + q, none⟩ = some (.int .i64 v)) /\ w.frozen? ⟨b, 3 + q, none⟩ = false /\ b < w.heap.size := by
 have hl : R.length = 8 := h.fb.rg
 exact ⟨⟨_, cell_arr h.fb.box (by rw [List.getElem?_toArray]; exact fav_rg (F := { F with rg := R }) (n := q) (x := R[q]'(by omega)) (by simp [hl, hq]))⟩, fz_of h.fb.box, h.fb.lt⟩
theorem KpS.below {s Q t w0 b hb F m R w w'} (h : KpS s Q t w0 b hb F m R w) (hb2 : Below w.heap.size w w') : KpS s Q t w0 b hb F m R w' :=
 ⟨h.fb.below hb2, (hb2.block _ (gl h.hd)).trans h.hd, h.on.trans (Only.of_below hb2 (fun k => k = b)) (fun _ _ q => q), h.ne⟩
theorem lost_next {R : List Int} (h : R.length = 8) {i : Nat} (hi : i < 8) : (List.replicate i (-1) ++ R.drop i).set i (-1) = List.replicate (i + 1) (-1) ++ R.drop (i + 1) := by
 rw [List.set_append_right _ _ (by simp)]
 simp only [List.length_replicate, Nat.sub_self]
 rw [List.drop_eq_getElem_cons (by omega), List.set_cons_zero, List.replicate_succ', List.append_assoc]
 rfl
set_option maxRecDepth 100000 in
set_option maxHeartbeats 4000000 in
theorem fKeep_any {s Q t w b F m} (h : FB s Q t w b F m) {sa : Option Addr} {sn sc : Nat} {S : List Int} (hS : Ints w sa sc S) (hn : sn = S.length) (hsb : ∀ ib io, sa = some ⟨ib, io, none⟩ -> S ≠ [] -> ib ≠ b) (F' : Fa) (hF : F.keep S = some F') :
 Calls Tryz.prog 42 #[.pointer (some ⟨b, 0, none⟩), .slice sa sn sc] w fun e w' => e = .returned (.tuple #[]) /\ FB s Q t w' b F' m /\ Only (fun k => k = b) w w' := by
 obtain ⟨r0, r1, r2, r3, r4, r5, r6, r7, hr⟩ := list8 h.rg
 unfold Fa.keep at hF
 by_cases hall : (S.all (fun k => decide (0 <= k) && decide (k < 8))) = true
 case neg => rw [if_neg hall] at hF; cases hF
 rw [if_pos hall] at hF
 cases hF
 have hlt := h.lt
 have hbx := h.box
 unfold fav at hbx
 rw [hr] at hbx
 have k3 : w.cell? ⟨b, 3, none⟩ = some (.int .i64 r0) := cell_arr hbx rfl
 have k4 : w.cell? ⟨b, 3 + 1, none⟩ = some (.int .i64 r1) := cell_arr hbx rfl
 have k5 : w.cell? ⟨b, 3 + 2, none⟩ = some (.int .i64 r2) := cell_arr hbx rfl
 have k6 : w.cell? ⟨b, 3 + 3, none⟩ = some (.int .i64 r3) := cell_arr hbx rfl
 have k7 : w.cell? ⟨b, 3 + 4, none⟩ = some (.int .i64 r4) := cell_arr hbx rfl
 have k8 : w.cell? ⟨b, 3 + 5, none⟩ = some (.int .i64 r5) := cell_arr hbx rfl
 have k9 : w.cell? ⟨b, 3 + 6, none⟩ = some (.int .i64 r6) := cell_arr hbx rfl
 have k10 : w.cell? ⟨b, 3 + 7, none⟩ = some (.int .i64 r7) := cell_arr hbx rfl
 obtain ⟨hb, hhb⟩ : ∃ hb, hb = w.heap.size := ⟨_, rfl⟩
 obtain ⟨W, hW⟩ : ∃ W, W = w.alloc (.cells #[.int .i64 r0, .int .i64 r1, .int .i64 r2, .int .i64 r3, .int .i64 r4, .int .i64 r5, .int .i64 r6, .int .i64 r7] 77) := ⟨_, rfl⟩
 have bW : Below w.heap.size w W := by rw [hW]; exact below_newA w _
 have HK0 : Hid (KpS s Q t w b hb F m F.rg W) := by
  refine ⟨h.below bW, ?_, Only.of_below bW _, by omega, by omega⟩
  rw [hW, hhb, hr]
  exact heap_alloc_new w _
 have HRG : Hid (F.rg.length = 8) := h.rg
 have HALL : Hid (∀ k ∈ S, 0 <= k /\ k < 8) := fun k hk => by
  have := List.all_eq_true.1 hall k hk
  simpa using this
 have HBT : Hid (∀ wr, Only (fun k => k = b) w wr -> Ints wr sa sc S) := fun wr ho => by
  refine ⟨hS.le, hS.mx, fun hne => ?_⟩
  obtain ⟨ib, io, ea, hA⟩ := hS.out hne
  have hib : ib ≠ b := hsb ib io ea hne
  have hk := ho.block ib hA.lt hib
  exact ⟨ib, io, ea, ⟨Nat.lt_of_lt_of_le hA.lt ho.size, fun i hi => (World.cell?_of_block (w := w) hk).trans (hA.cell i hi)⟩⟩
 have HN : Hid (sn = S.length) := hn
 have hsl : sn <= sc /\ sc <= 9223372036854775807 := by have := hS.le; have := hS.mx; omega
 have hnm : sn <= 9223372036854775807 := by omega
 have HHB : Hid (hb = w.heap.size) := hhb
 clear hS hsb hall hn h hbx bW hr
 go_enter Tryz.func42, Tryz.ntmps42
 go_upto_region 1 with fail
 rw [<- hW, <- hhb]
 clear hW hhb k3 k4 k5 k6 k7 k8 k9 k10
 go_wp2_with fail
 go_loopw [12] (fun v wr => ∃ i : Nat, i <= 8 /\ v = .int .i64 (i : Int) /\ Hid (KpS s Q t w b hb F m (List.replicate i (-1) ++ F.rg.drop i) wr)) (fun v _ => 8 - (intOf v).toNat)
 case atStart => exact ⟨0, by omega, rfl, HK0⟩
 case round =>
  clear HK0
  obtain ⟨i, hi, rfl, HK⟩ := hrel
  obtain ⟨wq, rfl⟩ : ∃ wq, wq = wr := ⟨_, rfl⟩
  by_cases hi8 : i < 8
  ·have hii : (i : Int) < 8 := by omega
   obtain ⟨⟨v0, c0⟩, f0, hbl⟩ := HK.out.cell hi8
   have HKN : Hid (KpS s Q t w b hb F m (List.replicate (i + 1) (-1) ++ F.rg.drop (i + 1)) (wq.setCell ⟨b, 3 + i, none⟩ (.int .i64 (-1)))) := by
    have := HK.out.set hi8 (-1)
    rw [lost_next HRG.out hi8] at this
    exact this
   clear HK
   go_wp2_with fail
   go_roundw
   case rel => exact ⟨i + 1, by omega, by first | rfl | go_num, HKN.out⟩
   case measure => simp [intOf]; try omega
  ·obtain rfl : i = 8 := by omega
   have HK8 : Hid (KpS s Q t w b hb F m (keeps F.rg (S.take 0)) wq) := by
    have := HK.out
    rw [List.drop_of_length_le (by rw [HRG.out]; omega), List.append_nil] at this
    exact this
   clear HK hi8 hi
   go_wp2_with fail
   go_loopw [23] (fun v wr => ∃ j : Nat, j <= sn /\ v = .int .i64 (j : Int) /\ Hid (KpS s Q t w b hb F m (keeps F.rg (S.take j)) wr)) (fun v _ => sn - (intOf v).toNat)
   case atStart => exact ⟨0, by omega, rfl, HK8⟩
   case round =>
    clear HK8
    obtain ⟨j, hj, rfl, HK⟩ := hrel
    by_cases hjn : j < sn
    ·have hji : (j : Int) < (sn : Int) := by omega
     have hjS : j < S.length := by have := HN.out; omega
     obtain ⟨ib, io, ea, kc⟩ := (HBT.out wr HK.out.on).at hjS
     obtain ⟨k, hk⟩ : ∃ k : Nat, S[j] = (k : Int) := ⟨S[j].toNat, by have := HALL.out _ (List.getElem_mem hjS); omega⟩
     have hk8 : k < 8 := by have := HALL.out _ (List.getElem_mem hjS); omega
     have hki : (k : Int) < 8 := by omega
     rw [hk] at kc
     subst ea
     have hil : ib < wr.heap.size := block_lt_of_cell kc
     obtain ⟨x, hx⟩ : ∃ x, F.rg[k]? = some x := ⟨F.rg[k]'(by rw [HRG.out]; exact hk8), by simp [HRG.out, hk8]⟩
     have c1 : wr.cell? ⟨hb, k, none⟩ = some (.int .i64 x) := cell_arr HK.out.hd (by rw [List.getElem?_toArray, List.getElem?_map, hx]; rfl)
     have hhl : hb < wr.heap.size := (gl HK.out.hd)
     obtain ⟨⟨v0, c0⟩, f0, hbl⟩ := HK.out.cell hk8
     have HKN : Hid (KpS s Q t w b hb F m (keeps F.rg (S.take (j + 1))) ((wr.setCell ⟨b, 3 + k, none⟩ (.int .i64 x)).drew)) := by
      have := (HK.out.set hk8 x).below (Below.refl _ _).drew
      have e : (keeps F.rg (S.take j)).set k x = keeps F.rg (S.take (j + 1)) := by
       unfold keeps
       rw [List.take_add_one, List.foldl_append]
       have e1 : S[j]?.toList = [S[j]] := by simp [hjS]
       rw [e1]
       simp [hk, List.getD, hx]
      rw [e] at this
      exact this
     have HJS : Hid (j < S.length) := hjS
     clear HK hx hk hjS hk8
     go_wp2_with fail
     go_region
     go_wp2_with fail
     go_roundw
     case rel => exact ⟨j + 1, by omega, by first | rfl | go_num, HKN.out⟩
     case measure => simp [intOf]; try omega
    ·have HKF := HK.out
     rw [List.take_of_length_le (by have := HN.out; omega)] at HKF
     have HFI : Hid (FB s Q t wr b { F with rg := keeps F.rg S } m /\ Only (fun k => k = b) w wr) := ⟨HKF.fb, HKF.on⟩
     clear HKF HK
     go_wp2_with fail
     exact bodyPost_end (v := .tuple #[]) (by simp [results, Tryz.results42, go_sem]) rfl ⟨rfl, HFI.out⟩
end Go.Proofs.YtegoemeefmjnoaaGreatDoor
