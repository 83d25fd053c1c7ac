import Derived.Test.YtegoemeefmjnoaaGreatDoorJan
set_option linter.unusedVariables false
set_option linter.unusedSimpArgs false
namespace Go.Proofs.YtegoemeefmjnoaaGreatDoor
open Go.ChangeShapes Go.WideShapes Go.ChangeAt Go.RowKit Go.Maps
theorem wpList_store_partA {ops : Array Oper} {rest : List Oper} {o : Oper} {a : Act} {w : World} {Q : Exit -> Act -> World -> Prop} (hgd : o.guard = none) (x y : Operand) (t : TypeId) (ho : o.op = .store t x y)
 (g off : Nat) (A : Array Value) (ty : TypeId) (hg : w.heap[g]? = some (.cells A ty (0, 0))) (cs : List Value) (hx : a.eval x = .pointer (some ⟨g, off, none⟩)) (hy : a.eval y = .agg cs.toArray) (hsz : (Tryz.prog.info? t).map (fun i => (i.size, i.zero.isSome)) = some (cs.length, true)) (h1 : ∀ u ∈ cs, u.oneCell' = true) (hlen : off + cs.length <= A.size)
 (h : wpList Tryz.prog ops Q rest (a.put o.dst undef) (w.setRow g (A.toList.take off ++ cs ++ A.toList.drop (off + cs.length)).toArray)) : wpList Tryz.prog ops Q (o :: rest) a w := by
 have hst := run_storeCells_at (P := Tryz.prog) g off ty cs 0 A w hg (by simpa using hlen) h1
 refine wpList_plain hgd fun _ hK => ?_
 obtain ⟨i0, hi, hz⟩ := Option.map_eq_some_iff.1 hsz
 unfold Oper.wp execOp
 have hz1 : i0.size = cs.length := congrArg Prod.fst hz
 have hrun : (storeVar t ⟨g, off, none⟩ (.agg cs.toArray)).run Tryz.prog w = .ok () (w.setRow g (A.toList.take off ++ cs ++ A.toList.drop (off + cs.length)).toArray) := by
  simp only [Nat.add_zero] at hst
  rw [<- hst]
  simp [storeVar, sizeOf, typeInfo, hi, Value.cells, hz1]
 simp only [ho, hx, hy, Instr.storeAt, Instr.sureAddr, Sem.run_bind, Sem.run_pure, Result.andThen_ok, hrun]
 exact hK _ _ h
theorem fav_one (s : Ast) (F : Fa) (m : Option Nat) : ∀ u ∈ fav s F m, u.oneCell' = true := by
 intro u hu
 simp only [fav, List.mem_cons, List.mem_append, List.mem_map, List.not_mem_nil, or_false] at hu
 rcases hu with rfl | rfl | rfl | ⟨x, _, rfl⟩ | rfl <;> rfl
theorem info_fr : (Tryz.prog.info? 80).map (fun i => (i.size, i.zero.isSome)) = some (12, true) := by kernel_rfl
theorem info_fr3 : (Tryz.prog.info? 80).map (fun i => (i.zero, i.size, i.bytes)) = some (some (.agg #[.pointer none, .pointer none, .int .i64 0, .int .i64 0, .int .i64 0, .int .i64 0, .int .i64 0, .int .i64 0, .int .i64 0, .int .i64 0, .int .i64 0, .map none]), 12, 96) := by kernel_rfl
theorem mDeepW {s P Q d w V} (h : Wm s P Q d w V) (k : Int) :
 Calls Tryz.prog 41 #[.pointer (some ⟨s.mb, s.o + 1, none⟩), .int .i64 k] w fun e w' => e = .returned (.tuple #[]) /\ Wm s P Q d w' { V with deep := max V.deep k } /\ Only (fun k => k = s.mb) w w' := by
 have T := h.cells
 refine (told_deep w (o := s.o + 1) (k := k) T.c7 (T.fz _)).mono ?_
 rintro e w' ⟨rfl, rfl⟩
 exact ⟨rfl, (h.deeper _).1, Only.of_set w ⟨s.mb, s.o + 1 + 6, none⟩ _⟩
theorem cons_take {X Y : List Value} (h : X.length = 12) : (X ++ Y).toArray.toList.take 0 = [] /\ (X ++ Y).toArray.toList.drop (0 + 12) = Y := by
 constructor
 ·rfl
 ·simp [<- h]
set_option maxRecDepth 100000 in
set_option maxHeartbeats 4000000 in
theorem mBegin_gen {FS s X wd vw mw w W V} (h : Mrs FS s X wd vw mw w W V) (hX : X.length = 12) (F : Fa) (m : Option Nat) (hrg : F.rg.length = 8) (hsm : SlM w m F.c F.sl) (hnd : ∀ g, m = some g -> some g ∉ mw) (hhi : ∀ g, m = some g -> s.ws.hi <= g) (hl : W.length <= 1000000000000) :
 Calls Tryz.prog 25 #[.pointer (some ⟨s.ws.mb, 0, none⟩), .agg (fav s F m).toArray] w fun e w' => e = .returned (.tuple #[]) /\ Mca FS s ⟨wd, m, mw, vw⟩ w' ⟨F, W, { V with deep := max V.deep ((W.length : Int) + 1) }⟩ /\ Only (fun k => k = s.ws.mb) w w' := by
 obtain ⟨W0, hW0⟩ : ∃ W0, W0 = w.alloc (.cells (fav s F m).toArray 80) := ⟨_, rfl⟩
 have b0 : Below w.heap.size w W0 := by rw [hW0]; exact below_newA w _
 have hbx : W0.heap[w.heap.size]? = some (.cells (fav s F m).toArray 80 (0, 0)) := by rw [hW0]; exact heap_alloc_new w _
 have hlt := h.wm.cells.lt
 have hbox : W0.heap[s.ws.mb]? = some (.cells (X ++ ([vw, fnv s] ++ wcs s.ws wd V)).toArray s.ws.t (0, 0)) := by
  have := (b0.block _ hlt).trans h.wm.box
  simpa using this
 obtain ⟨W1, hW1⟩ : ∃ W1, W1 = W0.setRow s.ws.mb ((X ++ ([vw, fnv s] ++ wcs s.ws wd V)).toArray.toList.take 0 ++ fav s F m ++ (X ++ ([vw, fnv s] ++ wcs s.ws wd V)).toArray.toList.drop (0 + (fav s F m).length)).toArray := ⟨_, rfl⟩
 have hb1 : W1.heap[s.ws.mb]? = some (.cells (fav s F m ++ ([vw, fnv s] ++ wcs s.ws wd V)).toArray s.ws.t (0, 0)) := by
  have e := setRow_heap W0 s.ws.mb _ ((X ++ ([vw, fnv s] ++ wcs s.ws wd V)).toArray.toList.take 0 ++ fav s F m ++ (X ++ ([vw, fnv s] ++ wcs s.ws wd V)).toArray.toList.drop (0 + (fav s F m).length)).toArray _ _ hbox
  rw [hW1, e, fav_len hrg, (cons_take hX).1, (cons_take hX).2]
  simp
 have o1 : Only (fun k => k = s.ws.mb) w W1 := by rw [hW1]; exact (Only.of_below b0 _).trans (only_setRowA W0 s.ws.mb _) (fun _ _ e => e)
 have kk1 : ∀ k, k < w.heap.size -> k ≠ s.ws.mb -> W1.heap[k]? = w.heap[k]? := fun k h1 h2 => o1.block k h1 h2
 have HM1 : Hid (Mca FS s ⟨wd, m, mw, vw⟩ W1 ⟨F, W, V⟩) := ⟨h.move hb1 (fav_len hrg) o1.size (fun k h1 h2 _ => kk1 k h1 h2), hrg, hsm.move fun g hg => kk1 g (hsm.lt hg).1 (fun e => (hsm.lt hg).2 _ _ _ (e ▸ h.wm.box)), hnd, hhi⟩
 have HO1 : Hid _ := o1
 obtain ⟨r0, r1, r2, r3, r4, r5, r6, r7, hr⟩ := list8 hrg
 have ef : fav s F m = [.pointer (some ⟨s.fb, s.fo + F.fi * 5, none⟩), .pointer (some ⟨s.bb F.fi, s.bo F.fi + F.bk * 5, none⟩), .int .i64 (F.bh : Int), .int .i64 r0, .int .i64 r1, .int .i64 r2, .int .i64 r3, .int .i64 r4, .int .i64 r5, .int .i64 r6, .int .i64 r7, .map m] := by simp [fav, hr]
 rw [ef] at hbx hW0 hW1 ⊢
 have k0 : W0.cell? ⟨w.heap.size, 0, none⟩ = some (.pointer (some ⟨s.fb, s.fo + F.fi * 5, none⟩)) := cell_arr hbx rfl
 have k1 : W0.cell? ⟨w.heap.size, 1, none⟩ = some (.pointer (some ⟨s.bb F.fi, s.bo F.fi + F.bk * 5, none⟩)) := cell_arr hbx rfl
 have k2 : W0.cell? ⟨w.heap.size, 2, none⟩ = some (.int .i64 (F.bh : Int)) := cell_arr hbx rfl
 have k3 : W0.cell? ⟨w.heap.size, 3, none⟩ = some (.int .i64 r0) := cell_arr hbx rfl
 have k4 : W0.cell? ⟨w.heap.size, 4, none⟩ = some (.int .i64 r1) := cell_arr hbx rfl
 have k5 : W0.cell? ⟨w.heap.size, 5, none⟩ = some (.int .i64 r2) := cell_arr hbx rfl
 have k6 : W0.cell? ⟨w.heap.size, 6, none⟩ = some (.int .i64 r3) := cell_arr hbx rfl
 have k7 : W0.cell? ⟨w.heap.size, 7, none⟩ = some (.int .i64 r4) := cell_arr hbx rfl
 have k8 : W0.cell? ⟨w.heap.size, 8, none⟩ = some (.int .i64 r5) := cell_arr hbx rfl
 have k9 : W0.cell? ⟨w.heap.size, 9, none⟩ = some (.int .i64 r6) := cell_arr hbx rfl
 have k10 : W0.cell? ⟨w.heap.size, 10, none⟩ = some (.int .i64 r7) := cell_arr hbx rfl
 have k11 : W0.cell? ⟨w.heap.size, 11, none⟩ = some (.map m) := cell_arr hbx rfl
 have l0 : w.heap.size < W0.heap.size := (gl hbx)
 obtain ⟨va, vc, ev, _, hvc⟩ := own_slice h.wai.row.out
 have hzl : (List.zipWith (fav s) W mw).length = W.length := by simp [h.wai.len]
 rw [hzl] at ev
 have HC1 : Hid (W1.drew.cell? ⟨s.ws.mb, 12, none⟩ = some (.slice va W.length vc) /\ s.ws.mb < W1.drew.heap.size) := ⟨by rw [<- ev]; exact HM1.out.cells.c12, HM1.out.cells.lt⟩
 have ho : s.ws.o + 1 = 15 := by rw [h.ty.2]
 have HDP : Hid (Calls Tryz.prog 41 #[.pointer (some ⟨s.ws.mb, 15, none⟩), .int .i64 ((W.length : Int) + 1)] W1.drew fun e w' => e = .returned (.tuple #[]) /\ Mca FS s ⟨wd, m, mw, vw⟩ w' ⟨F, W, { V with deep := max V.deep ((W.length : Int) + 1) }⟩ /\ Only (fun k => k = s.ws.mb) w w') := by
  have hd := HM1.out.below (Below.refl _ _).drew
  have := mDeepW hd.rs.wm ((W.length : Int) + 1)
  rw [ho] at this
  refine this.mono ?_
  rintro e w' ⟨rfl, q1, q2⟩
  have hc := hd.wv q1 ⟨q2.mono fun k _ e => .inl e, fun k e => .inl e⟩
  exact ⟨rfl, hc.1, (HO1.out.trans (Only.of_below (Below.refl _ _).drew (fun k => k = s.ws.mb)) (fun _ _ e => e)).trans q2 (fun _ _ e => e)⟩
 have HBX : Hid _ := hbox
 have hXl : (X ++ ([vw, fnv s] ++ wcs s.ws wd V)).toArray.size = 24 := by simp [hX, wcs]
 have HO : Hid (∀ u ∈ ([.pointer (some ⟨s.fb, s.fo + F.fi * 5, none⟩), .pointer (some ⟨s.bb F.fi, s.bo F.fi + F.bk * 5, none⟩), .int .i64 (F.bh : Int), .int .i64 r0, .int .i64 r1, .int .i64 r2, .int .i64 r3, .int .i64 r4, .int .i64 r5, .int .i64 r6, .int .i64 r7, .map m] : List Value), u.oneCell' = true) := by rw [<- ef]; exact fav_one s F m
 have hlt0 : s.ws.mb < W0.heap.size := by have := b0.size; omega
 obtain ⟨cb, hcb⟩ : ∃ cb, cb = w.heap.size := ⟨_, rfl⟩
 have HW1 : Hid _ := hW1
 generalize (X ++ ([vw, fnv s] ++ wcs s.ws wd V)).toArray = AX at *
 generalize s.ws.mb = mb at *
 generalize s.ws.t = tt at *
 generalize hvn : W.length = vn at *
 have hw1 : IntKind.i64.wrap ((vn : Int) + 1) = (vn : Int) + 1 := by rw [IntKind.wrap_i64]; omega
 rw [<- hcb] at k0 k1 k2 k3 k4 k5 k6 k7 k8 k9 k10 k11 l0
 clear h hsm hbx hbox hb1 o1 kk1 hr ef hrg hnd hhi b0 hW1 hX ho ev hzl HM1 HO1
 go_enter Tryz.func25, Tryz.ntmps25
 go_upto_region 1 with fail
 rw [<- hW0, <- hcb]
 clear hW0 hcb
 go_upto_region 2 with (refine wpList_store_partA rfl _ _ 80 rfl mb 0 AX tt HBX.out [.pointer (some ⟨s.fb, s.fo + F.fi * 5, none⟩), .pointer (some ⟨s.bb F.fi, s.bo F.fi + F.bk * 5, none⟩), .int .i64 (F.bh : Int), .int .i64 r0, .int .i64 r1, .int .i64 r2, .int .i64 r3, .int .i64 r4, .int .i64 r5, .int .i64 r6, .int .i64 r7, .map m] rfl rfl info_fr HO.out (by rw [hXl]; simp) ?_; rw [<- HW1.out]; clear HW1)
 have S8 : (fun w' : World => w'.cell? ⟨mb, 12, none⟩ = some (.slice va vn vc) /\ mb < w'.heap.size) W1.drew := HC1.out
 clear k0 k1 k2 k3 k4 k5 k6 k7 k8 k9 k10 k11 l0
 refine lec_start (S := fun w' : World => w'.cell? ⟨mb, 12, none⟩ = some (.slice va vn vc) /\ mb < w'.heap.size) (z := 10) (by kernel_rfl) ?_
 show lec _ _ _ _ _ 11 _ _ _
 try simp only [List.size_toArray, List.length_cons, List.length_nil, Array.replicate]
 refine lec_takeP (i := 0) (v := ?v0z) rfl (by kernel_rfl) (by kernel_rfl) (by kernel_rfl) (by kernel_rfl) (fun _ _ _ h => h) (.inl ⟨by rfl, ?hy0z⟩) S8 ?rest0z
 case hy0z =>
  rintro w' _
  go_simp
  all_goals with_reducible rfl
 try simp only [Act.put, List.getElem_toArray, List.getElem_cons_succ, List.getElem_cons_zero, List.setIfInBounds_toArray, List.set_cons_zero, List.set_cons_succ]
 refine lec_takeP (i := 1) (v := ?v1z) rfl (by kernel_rfl) (by kernel_rfl) (by kernel_rfl) (by kernel_rfl) (fun _ _ _ h => h) (.inl ⟨by rfl, ?hy1z⟩) S8 ?rest1z
 case hy1z =>
  rintro w' _
  go_simp
  all_goals with_reducible rfl
 try simp only [Act.put, List.getElem_toArray, List.getElem_cons_succ, List.getElem_cons_zero, List.setIfInBounds_toArray, List.set_cons_zero, List.set_cons_succ]
 refine lec_takeP (i := 2) (v := ?v2z) rfl (by kernel_rfl) (by kernel_rfl) (by kernel_rfl) (by kernel_rfl) (fun _ _ _ h => h) (.inl ⟨by rfl, ?hy2z⟩) S8 ?rest2z
 case hy2z =>
  rintro w' _
  go_simp
  all_goals with_reducible rfl
 try simp only [Act.put, List.getElem_toArray, List.getElem_cons_succ, List.getElem_cons_zero, List.setIfInBounds_toArray, List.set_cons_zero, List.set_cons_succ]
 refine lec_takeP (i := 3) (v := ?v3z) rfl (by kernel_rfl) (by kernel_rfl) (by kernel_rfl) (by kernel_rfl) (fun _ _ _ h => h) (.inl ⟨by rfl, ?hy3z⟩) S8 ?rest3z
 case hy3z =>
  rintro w' _
  go_simp
  all_goals with_reducible rfl
 try simp only [Act.put, List.getElem_toArray, List.getElem_cons_succ, List.getElem_cons_zero, List.setIfInBounds_toArray, List.set_cons_zero, List.set_cons_succ]
 refine lec_takeP (i := 4) (v := ?v4z) rfl (by kernel_rfl) (by kernel_rfl) (by kernel_rfl) (by kernel_rfl) (fun _ _ _ h => h) (.inl ⟨by rfl, ?hy4z⟩) S8 ?rest4z
 case hy4z =>
  rintro w' _
  go_simp
  all_goals with_reducible rfl
 try simp only [Act.put, List.getElem_toArray, List.getElem_cons_succ, List.getElem_cons_zero, List.setIfInBounds_toArray, List.set_cons_zero, List.set_cons_succ]
 refine lec_takeP (i := 5) (v := ?v5z) rfl (by kernel_rfl) (by kernel_rfl) (by kernel_rfl) (by kernel_rfl) (fun _ _ _ h => h) (.inl ⟨by rfl, ?hy5z⟩) S8 ?rest5z
 case hy5z =>
  rintro w' _
  go_simp
  all_goals with_reducible rfl
 try simp only [Act.put, List.getElem_toArray, List.getElem_cons_succ, List.getElem_cons_zero, List.setIfInBounds_toArray, List.set_cons_zero, List.set_cons_succ]
 refine lec_takeP (i := 6) (v := ?v6z) rfl (by kernel_rfl) (by kernel_rfl) (by kernel_rfl) (by kernel_rfl) (fun _ _ _ h => h) (.inl ⟨by rfl, ?hy6z⟩) S8 ?rest6z
 case hy6z =>
  rintro w' _
  go_simp
  all_goals with_reducible rfl
 try simp only [Act.put, List.getElem_toArray, List.getElem_cons_succ, List.getElem_cons_zero, List.setIfInBounds_toArray, List.set_cons_zero, List.set_cons_succ]
 refine lec_takeT [8, 9, 10] (i := 7) (v := ?v7z) rfl (by kernel_rfl) (by kernel_rfl) (by kernel_rfl) (by kernel_rfl) (fun _ _ _ h => h) (.inl ⟨by rfl, ?hy7z⟩) S8 ?rest7z
 case hy7z =>
  rintro w' ⟨h1, h2⟩
  go_simp
  all_goals with_reducible rfl
 try simp only [Act.put, List.getElem_toArray, List.getElem_cons_succ, List.getElem_cons_zero, List.setIfInBounds_toArray, List.set_cons_zero, List.set_cons_succ]
 refine lec_takeP (i := 8) (v := ?v8z) rfl (by kernel_rfl) (by kernel_rfl) (by kernel_rfl) (by kernel_rfl) (fun _ _ _ h => h) (.inl ⟨by rfl, ?hy8z⟩) S8 ?rest8z
 case hy8z =>
  rintro w' _
  go_simp
  all_goals with_reducible rfl
 try simp only [Act.put, List.getElem_toArray, List.getElem_cons_succ, List.getElem_cons_zero, List.setIfInBounds_toArray, List.set_cons_zero, List.set_cons_succ]
 refine lec_takeP (i := 9) (v := ?v9z) rfl (by kernel_rfl) (by kernel_rfl) (by kernel_rfl) (by kernel_rfl) (fun _ _ _ h => h) (.inl ⟨by rfl, ?hy9z⟩) S8 ?rest9z
 case hy9z =>
  rintro w' _
  go_simp
  all_goals with_reducible rfl
 try simp only [Act.put, List.getElem_toArray, List.getElem_cons_succ, List.getElem_cons_zero, List.setIfInBounds_toArray, List.set_cons_zero, List.set_cons_succ]
 refine lec_one (i := 10) rfl (by kernel_rfl) ?_
 intro K10 hK10
 rw [if_pos (by rfl)]
 go_simp
 refine Calls.mono HDP.out ?_
 rintro e w5 ⟨rfl, h5⟩
 have H5 : Hid _ := h5
 clear h5
 go_simp
 refine hK10 _ _ (fun h => by cases h) ?_
 clear hK10
 try simp only [Act.put, List.getElem_toArray, List.getElem_cons_succ, List.getElem_cons_zero, List.setIfInBounds_toArray, List.set_cons_zero, List.set_cons_succ]
 refine lec_done (by kernel_rfl) ?_
 clear S8 HDP HC1
 go_wp2_with fail
 exact bodyPost_end (v := .tuple #[]) (by simp [results, Tryz.results25, go_sem]) rfl ⟨rfl, H5.out⟩
theorem row_pop {w w' : World} {B e z b c : Nat} {xs : List (List Value)} {x : List Value} (h : Row w B e z (.slice (some ⟨b, 0, none⟩) (xs.length + 1) c) (xs ++ [x])) {A A' : Array Value} (hA : w.heap[b]? = some (.cells A e (0, 0))) (hA' : w'.heap[b]? = some (.cells A' e (0, 0))) (hsz : A'.size = A.size) (hp : A'.toList.take (xs.length * z) = A.toList.take (xs.length * z)) : Row w' B e z (.slice (some ⟨b, 0, none⟩) xs.length c) xs := by
 have hl : ∀ y ∈ xs, y.length = z := fun y hy => h.len y (by simp [hy])
 refine ⟨?_, hl⟩
 have e0 : (xs ++ [x]).length = xs.length + 1 := by simp
 have ho := h.out
 rw [e0] at ho
 rcases ho.2 with ⟨q, _⟩ | ⟨g, cap, cur, q, e2, e3, e4, e5, e6, e7⟩
 ·cases q
 ·cases q
  rw [hA] at e3
  cases e3
  refine ⟨flat_len xs hl, .inr ⟨b, c, A', rfl, e2, hA', by omega, e5, by omega, ?_⟩⟩
  rw [hp]
  have := congrArg (List.take (xs.length * z)) e7
  rw [List.take_take, Nat.min_eq_left (Nat.mul_le_mul_right _ (by omega))] at this
  rw [this]
  simp [List.take_append, flat_len xs hl]
set_option maxRecDepth 100000 in
theorem mBack_end {FS s d w M} (h : Mca FS s d w M) (hw : M.wait = []) (v : Int) :
 Calls Tryz.prog 53 #[.pointer (some ⟨s.ws.mb, 0, none⟩), .int .i64 v] w fun e w' => e = .returned (.tuple #[]) /\ ∃ d', Mca FS s d' w' { M with wv := { M.wv with fin := 1 } } /\ FooA s d d' w w' := by
 obtain ⟨va, vc, ev, _, hvc⟩ := own_slice h.rs.wai.row.out
 have hzl : (List.zipWith (fav s) M.wait d.mw).length = 0 := by simp [hw]
 rw [hzl] at ev
 have c12 := h.cells.c12
 have hlt := h.cells.lt
 rw [ev] at c12
 have ho : s.ws.o + 1 = 15 := by rw [h.rs.ty.2]
 have HEX : Hid (Calls Tryz.prog 66 #[.pointer (some ⟨s.ws.mb, 15, none⟩)] w fun e w' => e = .returned (.tuple #[]) /\ ∃ d', Mca FS s d' w' { M with wv := { M.wv with fin := 1 } } /\ FooA s d d' w w') := by
  have := mExitW h.rs.wm
  rw [ho] at this
  refine this.mono ?_
  rintro e w' ⟨rfl, d', q1, q2⟩
  exact ⟨rfl, _, h.wv q1 q2⟩
 generalize s.ws.mb = mb at *
 clear h ev hzl hw ho
 go_enter Tryz.func53, Tryz.ntmps53
 go_wp2_with (go_at_call 66; refine Calls.mono HEX.out ?_; rintro e w2 ⟨rfl, h2⟩; have H2 : Hid _ := h2; clear h2)
 exact bodyPost_ret (v := .tuple #[]) (by simp [results, Tryz.results53, go_sem]) rfl ⟨rfl, H2.out⟩
structure Pop (FS : List Af) (s : Ast) (d : Ady) (w : World) (M : Ma) (F : Fa) (W' : List Fa) (w3 : World) : Prop where
 out : ∃ d', Mca FS s d' w3 { M with here := F, wait := W' } /\ FooA s d d' w w3
def zfr : List Value := [.pointer none, .pointer none, .int .i64 0, .int .i64 0, .int .i64 0, .int .i64 0, .int .i64 0, .int .i64 0, .int .i64 0, .int .i64 0, .int .i64 0, .map none]
theorem zfr_one : ∀ u ∈ zfr, u.oneCell' = true := by
 have h : zfr.all (fun u => u.oneCell') = true := by kernel_rfl
 exact fun u hu => List.all_eq_true.1 h u hu
theorem Mca.pop {FS s d w M} (h : Mca FS s d w M) {W' : List Fa} {F : Fa} (hw : M.wait = W' ++ [F]) : ∃ vb vc A m, d.vw = .slice (some ⟨vb, 0, none⟩) (W'.length + 1) vc /\ W'.length + 1 <= vc /\ vc <= 9223372036854775807 /\ vb ≠ s.ws.mb /\ vb < w.heap.size /\ F.rg.length = 8 /\ w.heap[vb]? = some (.cells A 80 (0, 0)) /\ W'.length * 12 + 12 <= A.size /\ (∀ r u, (fav s F m)[r]? = some u -> w.cell? ⟨vb, W'.length * 12 + r, none⟩ = some u)
 /\ ∀ w1 w2 w3, w1 = w.setRow s.ws.mb ((fav s M.here d.mh ++ ([d.vw, fnv s] ++ wcs s.ws d.wd M.wv)).toArray.toList.take 0 ++ fav s F m ++ (fav s M.here d.mh ++ ([d.vw, fnv s] ++ wcs s.ws d.wd M.wv)).toArray.toList.drop (0 + (fav s F m).length)).toArray -> w2 = w1.setRow vb (A.toList.take (W'.length * 12) ++ zfr ++ A.toList.drop (W'.length * 12 + zfr.length)).toArray -> w3 = w2.setCell ⟨s.ws.mb, 12, none⟩ (.slice (some ⟨vb, 0, none⟩) W'.length vc) ->
   w1.heap[vb]? = some (.cells A 80 (0, 0)) /\ w1.cell? ⟨s.ws.mb, 12, none⟩ = some d.vw /\ w2.cell? ⟨s.ws.mb, 12, none⟩ = some d.vw /\ s.ws.mb < w1.heap.size /\ vb < w1.heap.size /\ s.ws.mb < w2.heap.size /\ vb < w2.heap.size /\ w2.frozen? ⟨s.ws.mb, 12, none⟩ = false /\ Pop FS s d w M F W' w3 := by
 have hlen : d.mw.length = W'.length + 1 := by rw [h.rs.wai.len, hw]; simp
 obtain ⟨mw', m, hmw⟩ : ∃ mw' m, d.mw = mw' ++ [m] := ⟨d.mw.dropLast, d.mw.getLast (by intro q; rw [q] at hlen; simp at hlen), (List.dropLast_concat_getLast _).symm⟩
 have hml : mw'.length = W'.length := by rw [hmw] at hlen; simpa using hlen
 have hz : List.zipWith (fav s) M.wait d.mw = List.zipWith (fav s) W' mw' ++ [fav s F m] := by
  rw [hw, hmw, List.zipWith_append hml.symm]; rfl
 have hzl : (List.zipWith (fav s) W' mw').length = W'.length := by simp [hml]
 have hrow := h.rs.wai.row
 rw [hz] at hrow
 obtain ⟨vb, vc, A, ev, q1, q2, q3, q4⟩ := hrow.some (by simp)
 have e1 : (List.zipWith (fav s) W' mw' ++ [fav s F m]).length = W'.length + 1 := by rw [List.length_append, hzl]; rfl
 rw [e1] at ev q1
 have hhi := h.rs.wm.rest.hi
 have hvm : vb ≠ s.ws.mb := by omega
 have hvl : vb < w.heap.size := (gl q4)
 have hFr : F.rg.length = 8 := h.rs.wai.rg F (by rw [hw]; simp)
 have hsz : A.size = vc * 12 := by
  rcases hrow.out.2 with ⟨q, _⟩ | ⟨g, cap, cur, q, _, r3, _, _, r6, _⟩
  ·rw [ev] at q; cases q
  ·rw [ev, e1] at q
   cases q
   rw [q4] at r3
   cases r3
   exact r6
 have hAs : W'.length * 12 + 12 <= A.size := by
  have : (W'.length + 1) * 12 <= vc * 12 := Nat.mul_le_mul_right 12 q1
  omega
 refine ⟨vb, vc, A, m, ev, q1, q2, hvm, hvl, hFr, q4, hAs, ?_, ?_⟩
 ·intro r u hu
  have hr : r < 12 := by rw [<- fav_len (s := s) (m := m) hFr]; exact (List.getElem?_eq_some_iff.1 hu).1
  rw [ev] at hrow
  exact hrow.cell e1.symm (i := W'.length) (by rw [e1]; omega) hr (by rw [List.getElem_append_right (by omega)]; simpa [hzl] using hu)
 ·rintro w1 w2 w3 hw1 hw2 hw3
  have hfl := fav_len (s := s) (m := m) hFr
  have b1 : w1.heap[s.ws.mb]? = some (.cells (fav s F m ++ ([d.vw, fnv s] ++ wcs s.ws d.wd M.wv)).toArray s.ws.t (0, 0)) := by
   have e := setRow_heap w s.ws.mb _ ((fav s M.here d.mh ++ ([d.vw, fnv s] ++ wcs s.ws d.wd M.wv)).toArray.toList.take 0 ++ fav s F m ++ (fav s M.here d.mh ++ ([d.vw, fnv s] ++ wcs s.ws d.wd M.wv)).toArray.toList.drop (0 + (fav s F m).length)).toArray _ _ h.boxQ
   rw [hw1, e, hfl, (cons_take (fav_len h.rg)).1, (cons_take (fav_len h.rg)).2]
   simp
  have v1 : w1.heap[vb]? = some (.cells A 80 (0, 0)) := by rw [hw1, heap_setRow_otherA hvm]; exact q4
  have b2 : w2.heap[s.ws.mb]? = some (.cells (fav s F m ++ ([d.vw, fnv s] ++ wcs s.ws d.wd M.wv)).toArray s.ws.t (0, 0)) := by rw [hw2, heap_setRow_otherA (fun e => hvm e.symm)]; exact b1
  have v2 : w2.heap[vb]? = some (.cells (A.toList.take (W'.length * 12) ++ zfr ++ A.toList.drop (W'.length * 12 + zfr.length)).toArray 80 (0, 0)) := by rw [hw2]; exact setRow_heap w1 vb _ _ _ _ v1
  have s1 : w1.heap.size = w.heap.size := by rw [hw1]; simp
  have s2 : w2.heap.size = w.heap.size := by rw [hw2]; simp [s1]
  have s3 : w3.heap.size = w.heap.size := by rw [hw3]; simp [World.setCell, s2]
  have c1 := fav_vw (s := s) (m := m) (a := d.vw) (b := fnv s) (Q := wcs s.ws d.wd M.wv) hFr
  have hmb : s.ws.mb < w.heap.size := h.cells.lt
  refine ⟨v1, cell_arr b1 (by rw [List.getElem?_toArray]; exact c1.1), cell_arr b2 (by rw [List.getElem?_toArray]; exact c1.1), by omega, by omega, by omega, by omega, fz_of b2, ?_⟩
  have kk : ∀ k, k ≠ s.ws.mb -> k ≠ vb -> w3.heap[k]? = w.heap[k]? := fun k h1 h2 => by rw [hw3, heap_set_other h1, hw2, heap_setRow_otherA h2, hw1, heap_setRow_otherA h1]
  have hown : d.vw.ownBlock = some vb := by rw [ev]; rfl
  have v3 : w3.heap[vb]? = some (.cells (A.toList.take (W'.length * 12) ++ zfr ++ A.toList.drop (W'.length * 12 + zfr.length)).toArray 80 (0, 0)) := by rw [hw3, heap_set_other hvm]; exact v2
  have mapne : ∀ g, some g ∈ d.mw -> g ≠ s.ws.mb /\ g ≠ vb := fun g hg => ⟨fun e => (h.rs.wai.map hg).2 _ _ _ (e ▸ h.boxQ), fun e => (h.rs.wai.map hg).2 _ _ _ (e ▸ q4)⟩
  have hmem : ∀ g, m = some g -> some g ∈ d.mw := fun g hg => by rw [hmw, hg]; simp
  have hmem' : ∀ g, some g ∈ mw' -> some g ∈ d.mw := fun g hg => by rw [hmw]; simp [hg]
  have hWl : W'.length < M.wait.length := by rw [hw]; simp
  have hsmF := h.rs.wai.sm W'.length hWl
  have eF : M.wait[W'.length] = F := by simp [hw]
  have em : d.mw.getD W'.length none = m := by rw [hmw]; simp [List.getD, <- hml]
  rw [eF, em] at hsmF
  have hrow3 : Row w3 s.ws.hi 80 12 (.slice (some ⟨vb, 0, none⟩) W'.length vc) (List.zipWith (fav s) W' mw') := by
   have hr := hrow
   rw [ev, <- hzl] at hr
   have := row_pop hr q4 v3 (by simp [zfr]; omega) (by rw [hzl]; simp only [List.toList_toArray, List.append_assoc]; rw [List.take_append_of_le_length (by simp; omega), List.take_take, Nat.min_self])
   rw [hzl] at this
   exact this
  have hwai : Wai s w3 (.slice (some ⟨vb, 0, none⟩) W'.length vc) W' mw' := by
   refine ⟨hrow3, hml, fun G hG => h.rs.wai.rg G (by rw [hw]; simp [hG]), fun i hi => ?_, fun i j g h1 h2 => h.rs.wai.nd i j g ?_ ?_, fun g hg => h.rs.wai.hi g (hmem' g hg)⟩
   ·have hi' : i < M.wait.length := by omega
    have hsm := h.rs.wai.sm i hi'
    have e1 : M.wait[i] = W'[i] := by simp [hw, List.getElem_append_left hi]
    have e2 : d.mw.getD i none = mw'.getD i none := by
     have him : i < mw'.length := by omega
     simp [List.getD, hmw, List.getElem?_append_left him]
    rw [e1, e2] at hsm
    refine hsm.move fun b hb => ?_
    have hbm : some b ∈ mw' := by
     have him : i < mw'.length := by omega
     rw [<- hb]
     simp [List.getD, him]
    exact kk b (mapne b (hmem' b hbm)).1 (mapne b (hmem' b hbm)).2
   ·rw [hmw, List.getElem?_append_left (List.getElem?_eq_some_iff.1 h1).1]; exact h1
   ·rw [hmw, List.getElem?_append_left (List.getElem?_eq_some_iff.1 h2).1]; exact h2
  have hbox3 : w3.heap[s.ws.mb]? = some (.cells (fav s F m ++ ([.slice (some ⟨vb, 0, none⟩) W'.length vc, fnv s] ++ wcs s.ws d.wd M.wv)).toArray s.ws.t (0, 0)) := by
   rw [hw3]
   refine box_set b2 ?_
   rw [List.set_append_right _ _ (by omega), hfl]
   rfl
  have hst : ∀ k, s.ws.st k \/ CF s.ws.hb s.ws.hm s.ws.hn k \/ d.wd.ve.ownBlock = some k -> k ≠ s.ws.mb -> k ≠ vb := fun k h1 h2 => by
   rcases h1 with q | q | q
   ·have := hhi.2.2.2 k q; omega
   ·have := hhi.2.2.1 k q; omega
   ·exact fun e => own_apart h.rs.wm.rest.ev.out h.rs.wai.row.out (by decide) k q (by rw [e]; exact hown)
  refine ⟨⟨d.wd, m, mw', .slice (some ⟨vb, 0, none⟩) W'.length vc⟩, ⟨⟨h.rs.fns, h.rs.ty, h.rs.wm.around (P' := fav s F m ++ [.slice (some ⟨vb, 0, none⟩) W'.length vc, fnv s]) (Q' := []) (by rw [hbox3]; simp) (by simp [hfl, h.rs.ty.2]) (by omega) (fun k h1 h2 h3 => kk k h2 (hst k h3 h2)), hwai⟩, hFr, hsmF.move fun g hg => kk g (mapne g (hmem g hg)).1 (mapne g (hmem g hg)).2, fun g hg hmm => ?_, fun g hg => h.rs.wai.hi g (hmem g hg)⟩, ⟨⟨?_, ?_, ?_, by omega, fun k hk hn => kk k (fun e => hn (.inl (.inl e))) (fun e => hn (.inr (.inl (by rw [e]; exact hown))))⟩, fun k hk => .inl ?_⟩⟩
  ·obtain ⟨i, hi, hi2, _⟩ := mem_at hmm
   have := h.rs.wai.nd i mw'.length g (by rw [hmw, List.getElem?_append_left hi]; exact hi2) (by rw [hmw]; simp; exact hg)
   have hi9 : i < mw'.length := hi
   omega
  ·rw [hw3, hw2, hw1]; rfl
  ·rw [hw3, hw2, hw1]; rfl
  ·rw [hw3, hw2, hw1]; rfl
  ·rcases hk with q | q | q | q
   ·exact .inl q
   ·refine .inr (.inl ?_)
    rw [hown]
    exact q
   ·exact .inr (.inr (.inr (hmem k q)))
   ·exact .inr (.inr (.inr (hmem' k q)))
end Go.Proofs.YtegoemeefmjnoaaGreatDoor
