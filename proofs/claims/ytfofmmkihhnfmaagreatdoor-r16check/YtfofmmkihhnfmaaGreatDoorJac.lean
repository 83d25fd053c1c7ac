import Derived.Deep.Cut
import Derived.Test.YtfofmmkihhnfmaaGreatDoorJab
set_option linter.unusedVariables false
set_option linter.unusedSimpArgs false
namespace Go.Proofs.YtfofmmkihhnfmaaGreatDoor
open Go.ChangeShapes Go.WideShapes Go.ChangeAt Go.RowKit
theorem evc_z (E : List (Int × Int)) : ∀ y ∈ E.map evc, y.length = 2 := fun y hy => by
 obtain ⟨e, _, rfl⟩ := List.mem_map.1 hy
 rfl
theorem evc_one (E : List (Int × Int)) : ∀ u ∈ (E.map evc).flatten, u.oneCell' = true := fun u hu => by
 obtain ⟨l, hl, hu⟩ := List.mem_flatten.1 hu
 obtain ⟨e, _, rfl⟩ := List.mem_map.1 hl
 simp [evc] at hu
 rcases hu with rfl | rfl <;> rfl
theorem add_noneR (b o j : Nat) : (⟨b, o, none⟩ : Addr).add j = ⟨b, o + j, none⟩ := by
 cases j with
 | zero => rfl
 | succ j => simp [Addr.add]
structure Evs (w : World) (ao : Option Addr) (c : Nat) (E : List (Int × Int)) : Prop where
 le : E.length <= c
 mx : c <= 9223372036854775807
 nil : ao = none -> E = []
 out : E ≠ [] -> ∃ b o, ao = some ⟨b, o, none⟩ /\ b < w.heap.size /\ ∀ j u, (E.map evc).flatten[j]? = some u -> w.cell? ((⟨b, o, none⟩ : Addr).add j) = some u
theorem row_empty (w : World) (e : TypeId) (z : Nat) : Row (w.alloc (.cells #[] e)) w.heap.size e z (.slice (some ⟨w.heap.size, 0, none⟩) 0 0) [] := by
 refine Row.mk ?_ (by simp)
 exact ⟨by simp, .inr ⟨w.heap.size, 0, #[], rfl, Nat.le_refl _, heap_alloc_new _ _, Nat.le_refl _, by unfold maxLen; omega, by simp, by simp⟩⟩
set_option maxRecDepth 10000 in
set_option maxHeartbeats 1000000 in
theorem clone_ev (w : World) {ao : Option Addr} {n c : Nat} {E : List (Int × Int)} (hE : Evs w ao c E) (hn : n = E.length) (hsz : n <= 10000000) :
 Calls Tryz.prog 108 #[.slice ao n c] w fun e w' => ∃ v, e = .returned v /\ Row w' w.heap.size 62 2 v (E.map evc) /\ Below w.heap.size w w' := by
 cases ao with
 | none =>
   have e := hE.nil rfl
   subst e
   simp at hn
   subst hn
   have heq : ∀ w : World, (binOp .eql 36 (.slice none 0 c) (.slice none 0 0)).run Tryz.prog w = .ok (.bool true) w := fun _ => by kernel_rfl
   go_enter Tryz.func108, Tryz.ntmps108
   go_wp2_with fail
   go_ret
   exact ⟨_, rfl, Row.nil _ _ _ _, Below.refl _ _⟩
 | some ad =>
   obtain ⟨W, hW⟩ : ∃ W, W = w.alloc (.cells #[] 62) := ⟨_, rfl⟩
   have hR : Row W w.heap.size 62 2 (.slice (some ⟨w.heap.size, 0, none⟩) 0 0) [] := by rw [hW]; exact row_empty w _ 2
   have hb : Below w.heap.size w W := by rw [hW]; exact (Below.refl _ _).alloc (Nat.le_refl _) _
   have HR : Hid _ := hR
   have HB : Hid _ := hb
   have heq : ∀ w : World, (binOp .eql 36 (.slice (some ad) n c) (.slice none 0 0)).run Tryz.prog w = .ok (.bool false) w := fun _ => by kernel_rfl
   have hBs : w.heap.size <= W.heap.size := hb.size
   have HC : Hid (E.map evc ≠ [] -> ∃ a2, some ad = some a2 /\ ∀ j u, (E.map evc).flatten[j]? = some u -> W.cell? (a2.add j) = some u) := fun hne => by
    obtain ⟨b, o, e, hlt, hc⟩ := hE.out (fun q => hne (by rw [q]; rfl))
    refine ⟨ad, rfl, fun j u hu => ?_⟩
    have := hc j u hu
    cases e
    rw [add_noneR] at this ⊢
    exact (hb.cell (p := ⟨b, o + j, none⟩) hlt).trans this
   have HN : Hid (n = (E.map evc).length) := by show _ = _; simp [hn]
   have hlx : ([] : List (List Value)).length + n <= 1000000000 := by simp; omega
   have hcc : n <= c /\ c <= 9223372036854775807 := by have := hE.le; have := hE.mx; omega
   clear hE hn hR hb
   go_enter Tryz.func108, Tryz.ntmps108
   go_wp2_with (first
    | (at_builtin; rw [<- hW]; refine wpList_step fun K hK => ?_; refine step_append_rowsG rfl _ _ 36 62 2 _ 16 rfl Tryz.underlying36 info_ev rfl (by decide) (by decide) w.heap.size (.slice (some ⟨w.heap.size, 0, none⟩) 0 0) [] rfl HR.out (some ad) n c rfl (E.map evc) HN.out (evc_z E) HC.out (evc_one E) hlx hBs ?_; intro v7 w7 h7 g7; refine hK _ _ ?_; clear hK
       have H7 : Hid (Row w7 w.heap.size 62 2 v7 (E.map evc)) := by rw [List.nil_append] at h7; exact h7
       have B7 : Hid (Below w.heap.size w w7) := HB.out.trans g7.bel
       clear h7 g7)
    | go_in)
   go_ret
   exact ⟨_, rfl, H7.out, B7.out⟩
theorem evs_of {w : World} {B : Nat} {v : Value} {E : List (Int × Int)} (h : Row w B 62 2 v (E.map evc)) : ∃ ao c, v = .slice ao E.length c /\ Evs w ao c E := by
 rcases Nat.eq_zero_or_pos E.length with h0 | h0
 ·obtain ⟨ao, c, e, h1, h2⟩ := own_slice h.out
  have hE : E = [] := List.length_eq_zero_iff.1 h0
  subst hE
  exact ⟨ao, c, by simpa using e, by simp, h2, fun _ => rfl, fun q => absurd rfl q⟩
 ·obtain ⟨b, c, cs, e, h1, h2, h3, h4⟩ := h.some (by simpa using h0)
  have hl : (E.map evc).length = E.length := by simp
  subst e
  rw [hl] at h1
  refine ⟨_, c, by rw [hl], h1, h2, fun q => (by cases q), fun _ => ⟨b, 0, rfl, (gl h4), fun j u hu => ?_⟩⟩
  rw [add_noneR, Nat.zero_add]
  have hj : j < (E.map evc).flatten.length := (List.getElem?_eq_some_iff.1 hu).1
  rw [own_cell h.out j (by rw [<- flat_len _ (evc_z E)]; exact hj)]
  exact hu
theorem box_seven {w : World} {gb : Nat} {t : TypeId} {x0 x1 x2 x3 x4 x5 x6 : Value} (h : w.heap[gb]? = some (.cells #[x0, x1, x2, x3, x4, x5, x6] t (0, 0))) (a b c d e f g : Value) : (((((((w.setCell ⟨gb, 0, none⟩ a).setCell ⟨gb, 1, none⟩ b).setCell ⟨gb, 2, none⟩ c).setCell ⟨gb, 3, none⟩ d).setCell ⟨gb, 4, none⟩ e).setCell ⟨gb, 5, none⟩ f).setCell ⟨gb, 6, none⟩ g).heap[gb]? = some (.cells #[a, b, c, d, e, f, g] t (0, 0)) := by
 have h0 := heap_set_at (i := 0) (v := a) h
 have h1 := heap_set_at (i := 1) (v := b) h0
 have h2 := heap_set_at (i := 2) (v := c) h1
 have h3 := heap_set_at (i := 3) (v := d) h2
 have h4 := heap_set_at (i := 4) (v := e) h3
 have h5 := heap_set_at (i := 5) (v := f) h4
 have h6 := heap_set_at (i := 6) (v := g) h5
 rw [h6]; rfl
set_option maxRecDepth 10000 in
set_option maxHeartbeats 2000000 in
theorem told_outcome (w : World) {mb o B : Nat} {v : Value} {E : List (Int × Int)} {x1 x2 x3 x4 x5 x6 : Int} (c0 : w.cell? ⟨mb, o, none⟩ = some v) (c1 : w.cell? ⟨mb, o + 1, none⟩ = some (.int .i64 x1)) (c2 : w.cell? ⟨mb, o + 2, none⟩ = some (.int .i64 x2)) (c3 : w.cell? ⟨mb, o + 3, none⟩ = some (.int .i64 x3)) (c4 : w.cell? ⟨mb, o + 4, none⟩ = some (.int .i64 x4)) (c5 : w.cell? ⟨mb, o + 5, none⟩ = some (.int .i64 x5)) (c6 : w.cell? ⟨mb, o + 6, none⟩ = some (.int .i64 x6)) (hR : Row w B 62 2 v (E.map evc)) (hn : E.length <= 1048576) :
 Calls Tryz.prog 71 #[.pointer (some ⟨mb, o, none⟩)] w fun e w' => ∃ v', e = .returned (.agg #[v', .int .i64 x1, .int .i64 x2, .int .i64 x3, .int .i64 x4, .int .i64 x5, .int .i64 x6]) /\ Row w' w.heap.size 62 2 v' (E.map evc) /\ Below w.heap.size w w' := by
 obtain ⟨ao, c, rfl, hE⟩ := evs_of hR
 have hmb : mb < w.heap.size := block_lt_of_cell c0
 obtain ⟨W1, hW1⟩ : ∃ W, W = (w.alloc (.cells #[.slice none 0 0, .int .i64 0, .int .i64 0, .int .i64 0, .int .i64 0, .int .i64 0, .int .i64 0] 38)).alloc (.cells #[.slice ao E.length c, .int .i64 x1, .int .i64 x2, .int .i64 x3, .int .i64 x4, .int .i64 x5, .int .i64 x6] 38) := ⟨_, rfl⟩
 have b1 : Below w.heap.size w W1 := by rw [hW1]; exact ((Below.refl _ _).alloc (Nat.le_refl _) _).alloc (by simp) _
 have k0 : W1.heap[w.heap.size]? = some (.cells #[.slice none 0 0, .int .i64 0, .int .i64 0, .int .i64 0, .int .i64 0, .int .i64 0, .int .i64 0] 38 (0, 0)) := by rw [hW1, heap_alloc_old _ _ (by simp)]; exact heap_alloc_new _ _
 have k1 : W1.heap[w.heap.size + 1]? = some (.cells #[.slice ao E.length c, .int .i64 x1, .int .i64 x2, .int .i64 x3, .int .i64 x4, .int .i64 x5, .int .i64 x6] 38 (0, 0)) := by
  have := heap_alloc_new (w.alloc (.cells #[.slice none 0 0, .int .i64 0, .int .i64 0, .int .i64 0, .int .i64 0, .int .i64 0, .int .i64 0] 38)) (.cells #[.slice ao E.length c, .int .i64 x1, .int .i64 x2, .int .i64 x3, .int .i64 x4, .int .i64 x5, .int .i64 x6] 38)
  rw [hW1]; simpa using this
 have hE1 : Evs W1 ao c E := ⟨hE.le, hE.mx, hE.nil, fun hne => by
  obtain ⟨b, o2, e, hlt, hc⟩ := hE.out hne
  refine ⟨b, o2, e, by have := b1.size; omega, fun j u hu => ?_⟩
  have := hc j u hu
  rw [add_noneR] at this ⊢
  exact (b1.cell (p := ⟨b, o2 + j, none⟩) hlt).trans this⟩
 have HCL : Hid _ := clone_ev W1 hE1 rfl (by omega)
 have HB1 : Hid _ := b1
 have HK0 : Hid _ := k0
 have HK1 : Hid _ := k1
 have hs1 : w.heap.size + 1 < W1.heap.size := (gl k1)
 have y0 : W1.cell? ⟨w.heap.size + 1, 0, none⟩ = some (.slice ao E.length c) := cell_arr k1 rfl
 obtain ⟨n, hnE⟩ : ∃ n, n = E.length := ⟨_, rfl⟩
 rw [<- hnE] at c0 hW1 y0
 have HNE : Hid (n = E.length) := hnE
 rw [<- hnE] at HCL
 clear hR hE hE1 b1 k0 k1 hnE
 go_enter Tryz.func71, Tryz.ntmps71
 go_upto_region 2 with fail
 rw [<- hW1]
 clear hW1 c0 c1 c2 c3 c4 c5 c6
 try simp only [World.alloc_size]
 go_wp2_with fail
 refine Calls.mono HCL.out ?_
 rintro e w2 ⟨v2, rfl, hR2, b2⟩
 obtain ⟨ao2, cc2, rfl, _⟩ := evs_of hR2
 have q1 := (b2.block _ hs1).trans HK1.out
 have q0 := (b2.block w.heap.size (by omega)).trans HK0.out
 obtain ⟨W3, hW3⟩ : ∃ W, W = w2.setCell ⟨w.heap.size + 1, 0, none⟩ (.slice ao2 E.length cc2) := ⟨_, rfl⟩
 have q1' : W3.heap[w.heap.size + 1]? = some (.cells #[.slice ao2 E.length cc2, .int .i64 x1, .int .i64 x2, .int .i64 x3, .int .i64 x4, .int .i64 x5, .int .i64 x6] 38 (0, 0)) := by
  have := heap_set_at (i := 0) (v := .slice ao2 E.length cc2) q1
  rw [hW3, this]; rfl
 have q0' : W3.heap[w.heap.size]? = some (.cells #[.slice none 0 0, .int .i64 0, .int .i64 0, .int .i64 0, .int .i64 0, .int .i64 0, .int .i64 0] 38 (0, 0)) := by rw [hW3, heap_set_other (by omega)]; exact q0
 obtain ⟨W4, hW4⟩ : ∃ W, W = ((((((W3.setCell ⟨w.heap.size, 0, none⟩ (.slice ao2 E.length cc2)).setCell ⟨w.heap.size, 1, none⟩ (.int .i64 x1)).setCell ⟨w.heap.size, 2, none⟩ (.int .i64 x2)).setCell ⟨w.heap.size, 3, none⟩ (.int .i64 x3)).setCell ⟨w.heap.size, 4, none⟩ (.int .i64 x4)).setCell ⟨w.heap.size, 5, none⟩ (.int .i64 x5)).setCell ⟨w.heap.size, 6, none⟩ (.int .i64 x6) := ⟨_, rfl⟩
 have HRX : Hid (W4.heap[w.heap.size]? = some (.cells #[.slice ao2 E.length cc2, .int .i64 x1, .int .i64 x2, .int .i64 x3, .int .i64 x4, .int .i64 x5, .int .i64 x6] 38 (0, 0))) := by rw [hW4]; exact box_seven q0' _ _ _ _ _ _ _
 have HR4 : Hid (Row W4 w.heap.size 62 2 (.slice ao2 E.length cc2) (E.map evc)) := by
  have hr : Row w2 w.heap.size 62 2 (.slice ao2 E.length cc2) (E.map evc) := by
   refine ⟨⟨hR2.out.1, ?_⟩, hR2.len⟩
   rcases hR2.out.2 with q | ⟨g, cap, cur, e1, e2, e3⟩
   ·exact .inl q
   ·exact .inr ⟨g, cap, cur, e1, by omega, e3⟩
  refine hr.move fun g hg => ?_
  have n1 : g ≠ w.heap.size + 1 := fun q => own_not hr.out q1 (by decide) (q ▸ hg)
  have n0 : g ≠ w.heap.size := fun q => own_not hr.out q0 (by decide) (q ▸ hg)
  rw [hW4, heap_set_other n0, heap_set_other n0, heap_set_other n0, heap_set_other n0, heap_set_other n0, heap_set_other n0, heap_set_other n0, hW3, heap_set_other n1]
 have HB4 : Hid (Below w.heap.size w W4) := by
  have b3 : Below w.heap.size w w2 := HB1.out.trans (b2.mono HB1.out.size)
  rw [hW4, hW3]
  exact (((((((b3.setCell (by show w.heap.size <= w.heap.size + 1; omega) _).setCell (Nat.le_refl _) _).setCell (Nat.le_refl _) _).setCell (Nat.le_refl _) _).setCell (Nat.le_refl _) _).setCell (Nat.le_refl _) _).setCell (Nat.le_refl _) _).setCell (Nat.le_refl _) _
 have s0 : w2.cell? ⟨w.heap.size + 1, 0, none⟩ = some (.slice ao n c) := by rw [HNE.out]; exact cell_arr q1 rfl
 have f0 : w2.frozen? ⟨w.heap.size + 1, 0, none⟩ = false := fz_of q1
 have hs2 : w.heap.size + 1 < w2.heap.size := by have := b2.size; omega
 have HW4 : Hid _ := hW4
 have HQ1 : Hid _ := q1'
 have HQ0 : Hid _ := q0'
 clear hR2 b2 q1 q0 hW4 q1' q0' y0
 go_upto_region 3 with fail
 rw [<- hW3]
 clear hW3 s0 f0
 have z0 : W3.cell? ⟨w.heap.size + 1, 0, none⟩ = some (.slice ao2 E.length cc2) := cell_arr HQ1.out rfl
 have z1 : W3.cell? ⟨w.heap.size + 1, 1, none⟩ = some (.int .i64 x1) := cell_arr HQ1.out rfl
 have z2 : W3.cell? ⟨w.heap.size + 1, 2, none⟩ = some (.int .i64 x2) := cell_arr HQ1.out rfl
 have z3 : W3.cell? ⟨w.heap.size + 1, 3, none⟩ = some (.int .i64 x3) := cell_arr HQ1.out rfl
 have z4 : W3.cell? ⟨w.heap.size + 1, 4, none⟩ = some (.int .i64 x4) := cell_arr HQ1.out rfl
 have z5 : W3.cell? ⟨w.heap.size + 1, 5, none⟩ = some (.int .i64 x5) := cell_arr HQ1.out rfl
 have z6 : W3.cell? ⟨w.heap.size + 1, 6, none⟩ = some (.int .i64 x6) := cell_arr HQ1.out rfl
 have t0 : W3.cell? ⟨w.heap.size, 0, none⟩ = some (.slice none 0 0) := cell_arr HQ0.out rfl
 have t1 : W3.cell? ⟨w.heap.size, 1, none⟩ = some (.int .i64 0) := cell_arr HQ0.out rfl
 have t2 : W3.cell? ⟨w.heap.size, 2, none⟩ = some (.int .i64 0) := cell_arr HQ0.out rfl
 have t3 : W3.cell? ⟨w.heap.size, 3, none⟩ = some (.int .i64 0) := cell_arr HQ0.out rfl
 have t4 : W3.cell? ⟨w.heap.size, 4, none⟩ = some (.int .i64 0) := cell_arr HQ0.out rfl
 have t5 : W3.cell? ⟨w.heap.size, 5, none⟩ = some (.int .i64 0) := cell_arr HQ0.out rfl
 have t6 : W3.cell? ⟨w.heap.size, 6, none⟩ = some (.int .i64 0) := cell_arr HQ0.out rfl
 have u0 : W3.frozen? ⟨w.heap.size, 0, none⟩ = false := fz_of HQ0.out
 have u1 : W3.frozen? ⟨w.heap.size, 1, none⟩ = false := fz_of HQ0.out
 have u2 : W3.frozen? ⟨w.heap.size, 2, none⟩ = false := fz_of HQ0.out
 have u3 : W3.frozen? ⟨w.heap.size, 3, none⟩ = false := fz_of HQ0.out
 have u4 : W3.frozen? ⟨w.heap.size, 4, none⟩ = false := fz_of HQ0.out
 have u5 : W3.frozen? ⟨w.heap.size, 5, none⟩ = false := fz_of HQ0.out
 have u6 : W3.frozen? ⟨w.heap.size, 6, none⟩ = false := fz_of HQ0.out
 go_wp2_with fail
 rw [<- HW4.out]
 refine bodyPost_ret (v := .agg #[.slice ao2 E.length cc2, .int .i64 x1, .int .i64 x2, .int .i64 x3, .int .i64 x4, .int .i64 x5, .int .i64 x6]) ?_ rfl ⟨_, rfl, HR4.out, HB4.out⟩
 exact results_cell_row Tryz.results71 _ _ w.heap.size 38 _ (0, 0) _ rfl HRX.out Tryz.underlying38 rfl (by kernel_rfl)
theorem only_setR {F : Nat -> Prop} {w w1 : World} (h : Only F w w1) (a : Addr) (ha : F a.block) (v : Value) : Only F w (w1.setCell a v) := h.trans (Only.of_set w1 a v) fun i _ e => by
 have : i = a.block := e
 rw [this]; exact ha
theorem only_sevenR {w w1 : World} {gb : Nat} (h : Only (fun k => k = gb) w w1) (a b c d e f g : Value) : Only (fun k => k = gb) w (((((((w1.setCell ⟨gb, 0, none⟩ a).setCell ⟨gb, 1, none⟩ b).setCell ⟨gb, 2, none⟩ c).setCell ⟨gb, 3, none⟩ d).setCell ⟨gb, 4, none⟩ e).setCell ⟨gb, 5, none⟩ f).setCell ⟨gb, 6, none⟩ g) := by
 have S : ∀ {W : World}, Only (fun k => k = gb) w W -> ∀ (i : Nat) (v : Value), Only (fun k => k = gb) w (W.setCell ⟨gb, i, none⟩ v) := fun h i v => only_setR (F := fun k => k = gb) h ⟨gb, i, none⟩ rfl v
 exact S (S (S (S (S (S (S h 0 a) 1 b) 2 c) 3 d) 4 e) 5 f) 6 g
structure OpensR (g : Nat) : Prop where
 out : ∀ args w, (callFunc g args).run Tryz.prog w = .ok (.enter g args) w
theorem OpensR.of {g : Nat} {fn : Func} {c : Code} (hf : Tryz.prog.funcs[g]? = some fn) (hname : (fn.name == "runtime.NumGoroutine") = false) (hb : fn.body = some c) : OpensR g := by
 refine ⟨fun args w => ?_⟩
 have h1 : fn.name ≠ "runtime.NumGoroutine" := by simpa using hname
 simp [callFunc, hf, h1, hb, mark]
structure ToldAt (w : World) (B mb o : Nat) (E : List (Int × Int)) (x1 x2 x3 x4 x5 x6 : Int) : Prop where
 c0 : ∃ v, w.cell? ⟨mb, o, none⟩ = some v /\ Row w B 62 2 v (E.map evc)
 c1 : w.cell? ⟨mb, o + 1, none⟩ = some (.int .i64 x1)
 c2 : w.cell? ⟨mb, o + 2, none⟩ = some (.int .i64 x2)
 c3 : w.cell? ⟨mb, o + 3, none⟩ = some (.int .i64 x3)
 c4 : w.cell? ⟨mb, o + 4, none⟩ = some (.int .i64 x4)
 c5 : w.cell? ⟨mb, o + 5, none⟩ = some (.int .i64 x5)
 c6 : w.cell? ⟨mb, o + 6, none⟩ = some (.int .i64 x6)
 few : E.length <= 1048576
theorem ToldAt.outcome {w B mb o E x1 x2 x3 x4 x5 x6} (h : ToldAt w B mb o E x1 x2 x3 x4 x5 x6) : Calls Tryz.prog 71 #[.pointer (some ⟨mb, o, none⟩)] w fun e w' => ∃ v', e = .returned (.agg #[v', .int .i64 x1, .int .i64 x2, .int .i64 x3, .int .i64 x4, .int .i64 x5, .int .i64 x6]) /\ Row w' w.heap.size 62 2 v' (E.map evc) /\ Below w.heap.size w w' := by
 obtain ⟨v, h0, hR⟩ := h.c0
 exact told_outcome w h0 h.c1 h.c2 h.c3 h.c4 h.c5 h.c6 hR h.few
theorem results_row_tmp {P : Program} {fn : Func} {p u : Tmp} {ty : TypeId} (h : fn.results = #[.cell p ty, .tmp u]) (tmps : Array Value) (w : World) (g : Nat) (t : TypeId) (cs : Array Value) (fr : Nat × Nat) (d : TypeDesc)
 (hp : tmps.getD p undef = .pointer (some ⟨g, 0, none⟩)) (hg : w.heap[g]? = some (.cells cs t fr))
 (hu : P.underlying ty = some d) (hd : (match d with | .struct _ | .array _ _ => true | _ => false) = true) (hi : (P.info? ty).map (·.size) = some cs.size) :
 (results fn tmps).run P w = .ok (.tuple #[.agg cs, tmps.getD u undef]) w := by
 rw [results_cell_tmp h, hp]
 simp [asAddr, run_loadVar_row w g t ty cs fr d hg hu hd hi, Result.andThen]
def FinR (N fuel : Nat) (I : Nat -> World -> Prop) (J : World -> Prop) (W : World) : Prop := if N < fuel then J W else I fuel W
set_option maxRecDepth 100000 in
set_option maxHeartbeats 4000000 in
theorem told_run (w : World) {mb o B fuel N g : Nat} (fs : Array Value) (eg : OpensR g) (hf : fuel <= 1099511627776) (I : Nat -> World -> Prop) (J : World -> Prop) {E : List (Int × Int)} {x1 x2 x3 x4 x5 x6 : Int}
 (h0 : I 0 (w.alloc (.cells #[.slice none 0 0, .int .i64 0, .int .i64 0, .int .i64 0, .int .i64 0, .int .i64 0, .int .i64 0] 38)))
 (hI : ∀ k W, k < N -> I k W -> Calls Tryz.prog g (fs ++ (#[] ++ #[])) W fun e w' => e = .returned (.bool true) /\ I (k + 1) w')
 (hN : ∀ W, I N W -> Calls Tryz.prog g (fs ++ (#[] ++ #[])) W fun e w' => e = .returned (.bool false) /\ J w')
 (hJ : ∀ W, FinR N fuel I J W -> ToldAt W B mb o E x1 x2 x3 x4 x5 x6 /\ W.heap[w.heap.size]? = some (.cells #[.slice none 0 0, .int .i64 0, .int .i64 0, .int .i64 0, .int .i64 0, .int .i64 0, .int .i64 0] 38 (0, 0))) :
 Calls Tryz.prog 31 #[.pointer (some ⟨mb, o, none⟩), .int .i64 fuel, .func (.func g) fs #[]] w fun e w' => ∃ v' wF, e = .returned (.tuple #[.agg #[v', .int .i64 x1, .int .i64 x2, .int .i64 x3, .int .i64 x4, .int .i64 x5, .int .i64 x6], .int .i64 0]) /\ FinR N fuel I J wF /\ Row w' wF.heap.size 62 2 v' (E.map evc) /\ Only (fun k => k = w.heap.size) wF w' := by
 have H0 : Hid _ := h0
 have HI : Hid _ := hI
 have HN : Hid _ := hN
 have HJ : Hid _ := hJ
 have hd1 : decide ((fuel : Int) < 0) = false := by simp
 have hd2 : decide (1099511627776 < (fuel : Int)) = false := by simp; omega
 clear h0 hI hN hJ
 go_enter Tryz.func31, Tryz.ntmps31
 go_wp2_with fail
 clear hd1 hd2
 go_loopw [1] (fun v wr => ∃ k : Nat, k <= fuel /\ k <= N /\ v = .int .i64 ((fuel - k : Nat) : Int) /\ Hid (I k wr)) (fun v _ => (intOf v).toNat)
 case atStart => exact ⟨0, by omega, by omega, rfl, H0⟩
 case round =>
  clear H0
  obtain ⟨k, hk, hkN, rfl, HK⟩ := hrel
  obtain ⟨wq, rfl⟩ : ∃ wq, wq = wr := ⟨_, rfl⟩
  by_cases hz : k = fuel
  ·have HFIN : Hid (FinR N fuel I J wq) := by
    show if N < fuel then J wq else I fuel wq
    rw [if_neg (by omega)]
    rw [<- hz]
    exact HK.out
   have e0 : ((fuel - k : Nat) : Int) = 0 := by omega
   rw [e0]
   clear e0 HK hz
   obtain ⟨T, kr⟩ := HJ.out wq HFIN.out
   have HOC : Hid _ := T.outcome
   have HKR : Hid _ := kr
   clear T kr HI HN HJ
   go_wp2_with fail
   refine Calls.mono HOC.out ?_
   rintro e w2 ⟨v2, rfl, hR2, b2⟩
   obtain ⟨ao2, cc2, rfl, _⟩ := evs_of hR2
   have hwf : w.heap.size < wq.heap.size := (gl HKR.out)
   have q0 := (b2.block w.heap.size hwf).trans HKR.out
   obtain ⟨W4, hW4⟩ : ∃ W, W = ((((((w2.setCell ⟨w.heap.size, 0, none⟩ (.slice ao2 E.length cc2)).setCell ⟨w.heap.size, 1, none⟩ (.int .i64 x1)).setCell ⟨w.heap.size, 2, none⟩ (.int .i64 x2)).setCell ⟨w.heap.size, 3, none⟩ (.int .i64 x3)).setCell ⟨w.heap.size, 4, none⟩ (.int .i64 x4)).setCell ⟨w.heap.size, 5, none⟩ (.int .i64 x5)).setCell ⟨w.heap.size, 6, none⟩ (.int .i64 x6) := ⟨_, rfl⟩
   have HRX : Hid (W4.heap[w.heap.size]? = some (.cells #[.slice ao2 E.length cc2, .int .i64 x1, .int .i64 x2, .int .i64 x3, .int .i64 x4, .int .i64 x5, .int .i64 x6] 38 (0, 0))) := by rw [hW4]; exact box_seven q0 _ _ _ _ _ _ _
   have hsame : ∀ g, g ≠ w.heap.size -> W4.heap[g]? = w2.heap[g]? := fun g n0 => by
    rw [hW4, heap_set_other n0, heap_set_other n0, heap_set_other n0, heap_set_other n0, heap_set_other n0, heap_set_other n0, heap_set_other n0]
   have HR4 : Hid (Row W4 wq.heap.size 62 2 (.slice ao2 E.length cc2) (E.map evc)) := hR2.move fun g hg => hsame g fun q => own_not hR2.out q0 (by decide) (q ▸ hg)
   have HSM : Hid (Only (fun k => k = w.heap.size) wq W4) := by rw [hW4]; exact only_sevenR (Only.of_below b2 _) _ _ _ _ _ _ _
   have t0 : w2.cell? ⟨w.heap.size, 0, none⟩ = some (.slice none 0 0) := cell_arr q0 rfl
   have t1 : w2.cell? ⟨w.heap.size, 1, none⟩ = some (.int .i64 0) := cell_arr q0 rfl
   have t2 : w2.cell? ⟨w.heap.size, 2, none⟩ = some (.int .i64 0) := cell_arr q0 rfl
   have t3 : w2.cell? ⟨w.heap.size, 3, none⟩ = some (.int .i64 0) := cell_arr q0 rfl
   have t4 : w2.cell? ⟨w.heap.size, 4, none⟩ = some (.int .i64 0) := cell_arr q0 rfl
   have t5 : w2.cell? ⟨w.heap.size, 5, none⟩ = some (.int .i64 0) := cell_arr q0 rfl
   have t6 : w2.cell? ⟨w.heap.size, 6, none⟩ = some (.int .i64 0) := cell_arr q0 rfl
   have u0 : w2.frozen? ⟨w.heap.size, 0, none⟩ = false := fz_of q0
   have u1 : w2.frozen? ⟨w.heap.size, 1, none⟩ = false := fz_of q0
   have u2 : w2.frozen? ⟨w.heap.size, 2, none⟩ = false := fz_of q0
   have u3 : w2.frozen? ⟨w.heap.size, 3, none⟩ = false := fz_of q0
   have u4 : w2.frozen? ⟨w.heap.size, 4, none⟩ = false := fz_of q0
   have u5 : w2.frozen? ⟨w.heap.size, 5, none⟩ = false := fz_of q0
   have u6 : w2.frozen? ⟨w.heap.size, 6, none⟩ = false := fz_of q0
   have HW4 : Hid _ := hW4
   clear hR2 b2 q0 hW4 hsame
   go_wp2_with fail
   rw [<- HW4.out]
   refine bodyPost_ret (v := .tuple #[.agg #[.slice ao2 E.length cc2, .int .i64 x1, .int .i64 x2, .int .i64 x3, .int .i64 x4, .int .i64 x5, .int .i64 x6], .int .i64 0]) ?_ rfl ⟨_, wq, rfl, HFIN.out, HR4.out, HSM.out⟩
   exact results_row_tmp Tryz.results31 _ _ w.heap.size 38 _ (0, 0) _ rfl HRX.out Tryz.underlying38 rfl (by kernel_rfl)
  ·obtain ⟨q, hq⟩ : ∃ q : Nat, fuel - k = q + 1 := ⟨fuel - k - 1, by omega⟩
   rw [hq]
   have hqb : q + 1 <= 1099511627776 := by omega
   have HQ : Hid (fuel - k = q + 1) := hq
   clear hq
   by_cases hN2 : k = N
   ·have HST : Hid (Calls Tryz.prog g (fs ++ (#[] ++ #[])) wq fun e w' => e = .returned (.bool false) /\ J w') := HN.out wq (by rw [<- hN2]; exact HK.out)
    have HLT : Hid (N < fuel) := by show N < fuel; omega
    clear HK hN2
    go_wp2_with fail
    rw [eg.out]
    refine Calls.mono HST.out ?_
    rintro e w1 ⟨rfl, hj⟩
    have HFIN : Hid (FinR N fuel I J w1) := by
     show if N < fuel then J w1 else I fuel w1
     rw [if_pos HLT.out]
     exact hj
    clear hj
    obtain ⟨T, kr⟩ := HJ.out w1 HFIN.out
    have HOC : Hid _ := T.outcome
    have HKR : Hid _ := kr
    clear T kr HI HN HJ
    go_wp2_with fail
    refine Calls.mono HOC.out ?_
    rintro e w2 ⟨v2, rfl, hR2, b2⟩
    obtain ⟨ao2, cc2, rfl, _⟩ := evs_of hR2
    have hwf : w.heap.size < w1.heap.size := (gl HKR.out)
    have q0 := (b2.block w.heap.size hwf).trans HKR.out
    obtain ⟨W4, hW4⟩ : ∃ W, W = ((((((w2.setCell ⟨w.heap.size, 0, none⟩ (.slice ao2 E.length cc2)).setCell ⟨w.heap.size, 1, none⟩ (.int .i64 x1)).setCell ⟨w.heap.size, 2, none⟩ (.int .i64 x2)).setCell ⟨w.heap.size, 3, none⟩ (.int .i64 x3)).setCell ⟨w.heap.size, 4, none⟩ (.int .i64 x4)).setCell ⟨w.heap.size, 5, none⟩ (.int .i64 x5)).setCell ⟨w.heap.size, 6, none⟩ (.int .i64 x6) := ⟨_, rfl⟩
    have HRX : Hid (W4.heap[w.heap.size]? = some (.cells #[.slice ao2 E.length cc2, .int .i64 x1, .int .i64 x2, .int .i64 x3, .int .i64 x4, .int .i64 x5, .int .i64 x6] 38 (0, 0))) := by rw [hW4]; exact box_seven q0 _ _ _ _ _ _ _
    have hsame : ∀ g, g ≠ w.heap.size -> W4.heap[g]? = w2.heap[g]? := fun g n0 => by
     rw [hW4, heap_set_other n0, heap_set_other n0, heap_set_other n0, heap_set_other n0, heap_set_other n0, heap_set_other n0, heap_set_other n0]
    have HR4 : Hid (Row W4 w1.heap.size 62 2 (.slice ao2 E.length cc2) (E.map evc)) := hR2.move fun g hg => hsame g fun q => own_not hR2.out q0 (by decide) (q ▸ hg)
    have HSM : Hid (Only (fun k => k = w.heap.size) w1 W4) := by rw [hW4]; exact only_sevenR (Only.of_below b2 _) _ _ _ _ _ _ _
    have t0 : w2.cell? ⟨w.heap.size, 0, none⟩ = some (.slice none 0 0) := cell_arr q0 rfl
    have t1 : w2.cell? ⟨w.heap.size, 1, none⟩ = some (.int .i64 0) := cell_arr q0 rfl
    have t2 : w2.cell? ⟨w.heap.size, 2, none⟩ = some (.int .i64 0) := cell_arr q0 rfl
    have t3 : w2.cell? ⟨w.heap.size, 3, none⟩ = some (.int .i64 0) := cell_arr q0 rfl
    have t4 : w2.cell? ⟨w.heap.size, 4, none⟩ = some (.int .i64 0) := cell_arr q0 rfl
    have t5 : w2.cell? ⟨w.heap.size, 5, none⟩ = some (.int .i64 0) := cell_arr q0 rfl
    have t6 : w2.cell? ⟨w.heap.size, 6, none⟩ = some (.int .i64 0) := cell_arr q0 rfl
    have u0 : w2.frozen? ⟨w.heap.size, 0, none⟩ = false := fz_of q0
    have u1 : w2.frozen? ⟨w.heap.size, 1, none⟩ = false := fz_of q0
    have u2 : w2.frozen? ⟨w.heap.size, 2, none⟩ = false := fz_of q0
    have u3 : w2.frozen? ⟨w.heap.size, 3, none⟩ = false := fz_of q0
    have u4 : w2.frozen? ⟨w.heap.size, 4, none⟩ = false := fz_of q0
    have u5 : w2.frozen? ⟨w.heap.size, 5, none⟩ = false := fz_of q0
    have u6 : w2.frozen? ⟨w.heap.size, 6, none⟩ = false := fz_of q0
    have HW4 : Hid _ := hW4
    clear hR2 b2 q0 hW4 hsame
    go_wp2_with fail
    rw [<- HW4.out]
    refine bodyPost_ret (v := .tuple #[.agg #[.slice ao2 E.length cc2, .int .i64 x1, .int .i64 x2, .int .i64 x3, .int .i64 x4, .int .i64 x5, .int .i64 x6], .int .i64 0]) ?_ rfl ⟨_, w1, rfl, HFIN.out, HR4.out, HSM.out⟩
    exact results_row_tmp Tryz.results31 _ _ w.heap.size 38 _ (0, 0) _ rfl HRX.out Tryz.underlying38 rfl (by kernel_rfl)
   ·have HST : Hid (Calls Tryz.prog g (fs ++ (#[] ++ #[])) wq fun e w' => e = .returned (.bool true) /\ I (k + 1) w') := HI.out k wq (by omega) HK.out
    clear HK
    go_wp2_with fail
    rw [eg.out]
    refine Calls.mono HST.out ?_
    rintro e w1 ⟨rfl, hj⟩
    have HJ1 : Hid (I (k + 1) w1) := hj
    clear hj
    go_wp2_with fail
    go_roundw
    case rel => exact ⟨k + 1, by omega, by omega, by first | go_num | (congr 1; have := HQ.out; omega), HJ1.out⟩
    case measure => simp [intOf]; try omega
end Go.Proofs.YtfofmmkihhnfmaaGreatDoor
namespace Go.Proofs.YtfofmmkihhnfmaaGreatDoor
open Go.ChangeShapes Go.WideShapes Go.ChangeAt Go.RowKit Go.Maps
structure AtI (w : World) (b o : Nat) (M : List Int) : Prop where
 lt : b < w.heap.size
 cell : ∀ i (h : i < M.length), w.cell? ⟨b, o + i, none⟩ = some (.int .i64 M[i])
structure Ints (w : World) (ao : Option Addr) (cap : Nat) (L : List Int) : Prop where
 le : L.length <= cap
 mx : cap <= 9223372036854775807
 out : L ≠ [] -> ∃ b o, ao = some ⟨b, o, none⟩ /\ AtI w b o L
theorem AtI.below {w w' b o M K} (h : AtI w b o M) (hb : Below K w w') (hK : b < K) : AtI w' b o M :=
 ⟨by have := hb.size; have := h.lt; omega, fun i hi => by rw [hb.cell (p := ⟨b, o + i, none⟩) hK]; exact h.cell i hi⟩
theorem Ints.below {w w' ao cap L K} (h : Ints w ao cap L) (hb : Below K w w') (hK : w.heap.size <= K) : Ints w' ao cap L :=
 ⟨h.le, h.mx, fun hn => by
  obtain ⟨b, o, e, hA⟩ := h.out hn
  exact ⟨b, o, e, hA.below hb (Nat.lt_of_lt_of_le hA.lt hK)⟩⟩
theorem AtI.drop {w b o M} (h : AtI w b o M) (k : Nat) : AtI w b (o + k) (M.drop k) := by
 refine ⟨h.lt, fun i hi => ?_⟩
 have hi' : k + i < M.length := by simp at hi; omega
 have := h.cell (k + i) hi'
 rw [Nat.add_assoc, this]; simp
theorem OwnI.ints {w B v n L} (h : OwnI w B v n L) : ∃ ao c, v = .slice ao n c /\ Ints w ao c L := by
 obtain ⟨ao, c, e, h1, h2⟩ := own_slice h.out
 subst e
 refine ⟨ao, c, rfl, by rw [<- h.len]; exact h1, h2, fun hn => ?_⟩
 have hp : 0 < n := by rw [h.len]; exact List.length_pos_iff.2 hn
 obtain ⟨g, c', e, _, _, hB, hg⟩ := own_some h.out hp
 cases e
 refine ⟨g, 0, rfl, hg, fun i hi => ?_⟩
 have := own_cell h.out i (by rw [h.len]; omega)
 rw [Nat.zero_add, this]
 simp [ivs, hi]
end Go.Proofs.YtfofmmkihhnfmaaGreatDoor
