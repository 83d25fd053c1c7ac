import Derived.Test.YtfbkopjncmkbiabGreatDoorKbb
set_option linter.unusedVariables false
set_option linter.unusedSimpArgs false
namespace Go.Proofs.YtfbkopjncmkbiabGreatDoor
open Go.ChangeShapes Go.WideShapes Go.ChangeAt Go.RowKit Go.Maps
theorem info_ac : (Tryz.prog.info? 64).map (fun i => (i.zero, i.size, i.bytes)) = some (some (.agg #[.pointer none, .int .i64 0, .int .i64 0, .int .i64 0]), 4, 32) := by kernel_rfl
theorem Mach.not_foot {FS s d w M} (h : Mach FS s d w M) {k : Nat} {A : Array Value} {t : TypeId} {f : Nat × Nat} (hk : w.heap[k]? = some (.cells A t f)) (h1 : t ≠ 71) (h2 : t ≠ 84) (h3 : t ≠ 64) (h4 : t ≠ 3) (h5 : t ≠ 45) : ¬ foot s d k := by
 obtain ⟨D, ⟨es, cl, d1, _⟩, _⟩ := h.rest.ch.o1
 obtain ⟨E, ⟨es2, cl2, e1, _⟩, _⟩ := h.rest.ch.o2
 rintro (rfl | (rfl | rfl | rfl) | q | q | q | q)
 ·have := h.box; rw [hk] at this; cases this; exact h1 rfl
 ·have := h.rest.ch.box; rw [hk] at this; cases this; exact h2 rfl
 ·rw [hk] at d1; cases d1
 ·rw [hk] at e1; cases e1
 ·exact own_not h.rest.wait.out hk (fun e => h3 e.symm) q
 ·exact own_not h.rest.nums.out hk (fun e => h4 e.symm) q
 ·exact own_not h.rest.phis.out hk (fun e => h4 e.symm) q
 ·exact own_not h.rest.ev.out hk (fun e => h5 e.symm) q
structure CallS (w W : World) (v : Vl) (ka : Option Addr) (kl kc : Nat) (A : List Int) : Prop where
 low : Below w.heap.size w W
 vb : W.heap[w.heap.size]? = some (.cells #[.int .i64 v.op, .int .i64 v.ty, .int .i64 v.imm, .slice ka kl kc] 25 (0, 0))
 ab : W.heap[w.heap.size + 1]? = some (.cells (ivs A).toArray 101 (0, 0))
 len : A.length = 8
theorem CallS.below {w W W' v ka kl kc A} (h : CallS w W v ka kl kc A) (hb : Below W.heap.size W W') : CallS w W' v ka kl kc A :=
 ⟨h.low.trans (hb.mono h.low.size), (hb.block _ (gl h.vb)).trans h.vb, (hb.block _ (gl h.ab)).trans h.ab, h.len⟩
theorem CallS.put {w W v ka kl kc A} (h : CallS w W v ka kl kc A) (i : Nat) (x : Int) : CallS w (W.setCell ⟨w.heap.size + 1, i, none⟩ (.int .i64 x)) v ka kl kc (A.set i x) := by
 refine ⟨h.low.setCell (show w.heap.size <= (⟨w.heap.size + 1, i, none⟩ : Addr).block by show _ <= _ + 1; omega) _, (heap_set_other (by omega)).trans h.vb, ?_, by simpa using h.len⟩
 have := heap_set_at (i := i) (v := .int .i64 x) h.ab
 rw [this]
 simp [ivs, List.map_set]
theorem CallS.cell {w W v ka kl kc A} (h : CallS w W v ka kl kc A) (i : Nat) (hi : i < 8) : W.cell? ⟨w.heap.size + 1, i, none⟩ = some (.int .i64 (A.getD i 0)) := by
 have hl := h.len
 exact cell_arr h.ab (by simp [ivs, List.getD, show i < A.length by omega])
def Ms.argsO (M : Ms) (v : Vl) : Option (List Int) := allO (v.args.map M.num)
def Ms.call (FS : List Fu) (M : Ms) (v : Vl) : Option Ms :=
 match M.argsO v with
 | none => none
 | some X => if v.imm < 0 then none else Ms.begin FS { M with wait := M.wait ++ [M.here] } v.imm.toNat X
theorem allO_some {α : Type} {f : α -> Option Int} : ∀ {L : List α} {X : List Int}, allO (L.map f) = some X -> X.length = L.length /\ ∀ i (h : i < L.length), f L[i] = X[i]?
 | [], X, h => by simp only [List.map_nil, allO] at h; cases h; exact ⟨rfl, fun i h => by simp at h⟩
 | a :: L, X, h => by
   simp only [List.map_cons] at h
   cases e : f a with
   | none => rw [e] at h; simp only [allO] at h; cases h
   | some x =>
     rw [e] at h
     simp only [allO, Option.map_eq_some_iff] at h
     obtain ⟨Y, h1, rfl⟩ := h
     have ih := allO_some h1
     refine ⟨by simp [ih.1], fun i hi => ?_⟩
     cases i with
     | zero => simpa using e
     | succ i => simpa using ih.2 i (by simpa using hi)
set_option maxRecDepth 100000 in
theorem run_cutA (a : Addr) (k : Nat) (hk : k <= 8) (w : World) : (Instr.sliceAt 101 (.pointer (some a)) none (some (.int .i64 (k : Int))) none).run Tryz.prog w = .ok (.slice (some a) k 8) w := by
 have e8 : Tryz.prog.arrayLen 101 = 8 := by kernel_rfl
 have := run_sliceAt_array_h (P := Tryz.prog) (t := 101) (a := a) w Tryz.underlying101 .i64 (k : Int) (by omega) (by rw [e8]; omega)
 have hs : (sizeOf (Tryz.prog.elem 101)).run Tryz.prog w = .ok 1 w := by kernel_rfl
 rw [this, hs, e8]
 simp [Result.andThen, slicedAt]
 cases a
 rfl
structure WtS (mb fb q : Nat) (bk bh fst : Int) (va : Option Addr) (wl vc : Nat) (w : World) : Prop where
 h1 : w.cell? ⟨mb, 34, none⟩ = some (.pointer (some ⟨fb, q, none⟩))
 h2 : w.cell? ⟨mb, 35, none⟩ = some (.int .i64 bk)
 h3 : w.cell? ⟨mb, 36, none⟩ = some (.int .i64 bh)
 h4 : w.cell? ⟨mb, 37, none⟩ = some (.int .i64 fst)
 h5 : w.cell? ⟨mb, 38, none⟩ = some (.slice va wl vc)
theorem McC.wts {s d w M} (h : McC s d w M) {va : Option Addr} {wl vc : Nat} (e : d.vw = .slice va wl vc) : WtS s.mb s.fb (s.fo + M.here.fi * 5) (M.here.bk : Int) (M.here.bh : Int) (M.here.fst : Int) va wl vc w := ⟨h.c34, h.c35, h.c36, h.c37, by rw [<- e]; exact h.c38⟩
set_option maxRecDepth 100000 in
set_option maxHeartbeats 4000000 in
theorem mCall_any {FS s d w M} (h : Mach FS s d w M) (v : Vl) (ka : Option Addr) (kl kc : Nat) (hkl : kl = v.args.length) (hI : Ints w ka kc v.args) (h8 : kl <= 8) (M' : Ms) (hM : M.call FS v = some M') (hP : ∀ f ∈ FS, ∀ p ∈ f.params, p < 262144) (hl : M.nums.length <= 900000000) (hwl : M.wait.length <= 900000000) :
 Calls Tryz.prog 31 #[.pointer (some ⟨s.mb, 0, none⟩), .agg #[.int .i64 v.op, .int .i64 v.ty, .int .i64 v.imm, .slice ka kl kc]] w fun e w' => e = .returned (.tuple #[.int .i64 0, .bool false]) /\ ∃ d', Mach FS s d' w' M' /\ Foo s d d' w w' := by
 obtain ⟨w1, hw1⟩ : ∃ w1, w1 = (w.alloc (.cells #[.int .i64 v.op, .int .i64 v.ty, .int .i64 v.imm, .slice ka kl kc] 25)).alloc (.cells #[.int .i64 0, .int .i64 0, .int .i64 0, .int .i64 0, .int .i64 0, .int .i64 0, .int .i64 0, .int .i64 0] 101) := ⟨_, rfl⟩
 have c1 : CallS w w1 v ka kl kc (List.replicate 8 0) := by
  rw [hw1]
  refine ⟨((Below.refl _ _).alloc (Nat.le_refl _) _).alloc (by simp) _, ?_, ?_, rfl⟩
  ·rw [heap_alloc_old _ _ (by simp)]; exact heap_alloc_new _ _
  ·have := heap_alloc_new (w.alloc (.cells #[.int .i64 v.op, .int .i64 v.ty, .int .i64 v.imm, .slice ka kl kc] 25)) (.cells #[.int .i64 0, .int .i64 0, .int .i64 0, .int .i64 0, .int .i64 0, .int .i64 0, .int .i64 0, .int .i64 0] 101)
   have e : (w.alloc (.cells #[.int .i64 v.op, .int .i64 v.ty, .int .i64 v.imm, .slice ka kl kc] 25)).heap.size = w.heap.size + 1 := by simp
   rw [e] at this
   exact this
 unfold Ms.call at hM
 cases hX : M.argsO v with
 | none => rw [hX] at hM; cases hM
 | some X =>
 rw [hX] at hM
 simp only at hM
 by_cases him : v.imm < 0
 ·rw [if_pos him] at hM; cases hM
 rw [if_neg him] at hM
 have hXs := allO_some hX
 have hXl : X.length = kl := by rw [hXs.1, hkl]
 have hkc : kl <= kc /\ kc <= 9223372036854775807 := by have := hI.le; have := hI.mx; omega
 obtain ⟨g, hg⟩ : ∃ g, g = w.heap.size := ⟨_, rfl⟩
 have HARG : Hid (∀ (k : Nat) (W : World) (A : List Int), k < kl -> CallS w W v ka kl kc A -> Calls Tryz.prog 59 #[.pointer (some ⟨s.mb, 0, none⟩), .agg #[.int .i64 v.op, .int .i64 v.ty, .int .i64 v.imm, .slice ka kl kc], .int .i64 (k : Int)] W fun e w' => e = .returned (.int .i64 (X.getD k 0)) /\ CallS w w' v ka kl kc A) := by
  intro k W A hk hC
  have hkv : k < v.args.length := by omega
  have hx : M.arg v k = some (X.getD k 0) := by
   unfold Ms.arg
   rw [dif_pos hkv, hXs.2 k hkv]
   simp [List.getD, show k < X.length by omega]
  exact (mArg_any (h.below hC.low) v ka kl kc hkl (hI.below hC.low (Nat.le_refl _)) k (by omega) _ hx (by omega)).mono fun e w' q => ⟨q.1, hC.below q.2⟩
 have HROW : Hid (∀ (W : World) (A : List Int), CallS w W v ka kl kc A -> s.mb < W.heap.size /\ W.cell? ⟨g, 0, none⟩ = some (.int .i64 v.op) /\ W.cell? ⟨g, 1, none⟩ = some (.int .i64 v.ty) /\ W.cell? ⟨g, 2, none⟩ = some (.int .i64 v.imm) /\ W.cell? ⟨g, 3, none⟩ = some (.slice ka kl kc) /\ g + 1 < W.heap.size) := by
  intro W A hC
  rw [hg]
  exact ⟨(h.below hC.low).cells.lt, cell_arr hC.vb rfl, cell_arr hC.vb rfl, cell_arr hC.vb rfl, cell_arr hC.vb rfl, (gl hC.ab)⟩
 have HST : Hid (∀ (k : Nat) (W : World) (A : List Int), k < kl -> CallS w W v ka kl kc A -> W.cell? ⟨g + 1, k, none⟩ = some (.int .i64 (A.getD k 0)) /\ W.frozen? ⟨g + 1, k, none⟩ = false /\ CallS w (W.setCell ⟨g + 1, k, none⟩ (.int .i64 (X.getD k 0))) v ka kl kc (A.set k (X.getD k 0))) := by
  intro k W A hk hC
  rw [hg]
  exact ⟨hC.cell k (by omega), fz_of hC.ab, hC.put k _⟩
 have HNX : Hid (∀ k, k < kl -> (X.take k ++ List.replicate (8 - k) 0).set k (X.getD k 0) = X.take (k + 1) ++ List.replicate (8 - (k + 1)) 0) := by
  intro k hk
  have hkx : k < X.length := by omega
  apply List.ext_getElem?
  intro i
  by_cases hik : i = k
  ·subst hik
   rw [List.getElem?_set_self (by simp; omega), List.getElem?_append_left (by simp; omega)]
   simp [List.getD, hkx]
  ·rw [List.getElem?_set_ne (by omega)]
   by_cases hlt : i < k
   ·rw [List.getElem?_append_left (by simp; omega), List.getElem?_append_left (by simp; omega)]
    simp [hlt, show i < k + 1 by omega]
   ·rw [List.getElem?_append_right (by simp; omega), List.getElem?_append_right (by simp; omega)]
    simp only [List.length_take, List.getElem?_replicate, show min k X.length = k by omega, show min (k + 1) X.length = k + 1 by omega]
    by_cases h9 : i < 8
    ·rw [if_pos (by omega), if_pos (by omega)]
    ·rw [if_neg (by omega), if_neg (by omega)]
 have HC0 : Hid (CallS w w1 v ka kl kc (X.take 0 ++ List.replicate (8 - 0) 0)) := by show CallS _ _ _ _ _ _ _; simpa using c1
 obtain ⟨nf, hnf⟩ : ∃ nf : Nat, v.imm = (nf : Int) := ⟨v.imm.toNat, by omega⟩
 rw [hnf, Int.toNat_natCast] at hM
 have hff : ∃ f, FS[nf]? = some f := by
  unfold Ms.begin at hM
  cases e : FS[nf]? with
  | none => rw [e] at hM; cases hM
  | some f => exact ⟨f, rfl⟩
 obtain ⟨f, hff⟩ := hff
 have hfP := hP f (List.mem_of_getElem? hff)
 obtain ⟨va, vc, ev, hv1, hv2⟩ := own_slice h.rest.wait.out
 have hwlen : (M.wait.map (acv s)).length = M.wait.length := List.length_map ..
 rw [hwlen] at ev hv1
 obtain ⟨wl, hwle⟩ : ∃ wl, wl = M.wait.length := ⟨_, rfl⟩
 rw [<- hwle] at ev hv1 hwl
 obtain ⟨rws, hwr⟩ : ∃ rws, rws = M.wait.map (acv s) := ⟨_, rfl⟩
 obtain ⟨ac, hac⟩ : ∃ ac : List Value, ac = acv s M.here := ⟨_, rfl⟩
 have HFIN : Hid (∀ (w3 : World) (A : List Int), CallS w w3 v ka kl kc A -> A.take kl = X ->
  (Row (w3.drew.alloc (.cells ac.toArray 64)) s.hi 64 4 (.slice va wl vc) rws /\ rws.length + 1 <= 1000000000 /\ s.hi <= (w3.drew.alloc (.cells ac.toArray 64)).heap.size /\ WtS s.mb s.fb (s.fo + M.here.fi * 5) (M.here.bk : Int) (M.here.bh : Int) (M.here.fst : Int) va wl vc w3.drew /\ WtS s.mb s.fb (s.fo + M.here.fi * 5) (M.here.bk : Int) (M.here.bh : Int) (M.here.fst : Int) va wl vc (w3.drew.alloc (.cells ac.toArray 64)) /\ s.mb < w3.heap.size)
  /\ ∀ v6 w6, Row w6 s.hi 64 4 v6 (rws ++ [ac]) -> GI s.hi (w3.drew.alloc (.cells ac.toArray 64)) w6 (.slice va wl vc) v6 -> WtS s.mb s.fb (s.fo + M.here.fi * 5) (M.here.bk : Int) (M.here.bh : Int) (M.here.fst : Int) va wl vc w6 /\ w6.frozen? ⟨s.mb, 38, none⟩ = false /\ s.mb < w6.heap.size /\ ∃ w7, w7 = w6.setCell ⟨s.mb, 38, none⟩ v6 /\ s.mb < w7.heap.size /\ g + 1 < w7.heap.size /\ w7.drew.cell? ⟨g, 2, none⟩ = some (.int .i64 v.imm) /\ w7.drew.cell? ⟨g, 3, none⟩ = some (.slice ka kl kc) /\ Hid (Calls Tryz.prog 16 #[.pointer (some ⟨s.mb, 0, none⟩), .int .i64 v.imm, .slice (some ⟨g + 1, 0, none⟩) kl 8] w7.drew fun e w' => e = .returned (.tuple #[]) /\ (∃ d', Mach FS s d' w' M' /\ Foo s d d' w w') /\ w'.cell? ⟨g, 2, none⟩ = some (.int .i64 v.imm) /\ w'.cell? ⟨g, 3, none⟩ = some (.slice ka kl kc))) := by
  intro w3 A hC hAX
  have h3 := h.below hC.low
  obtain ⟨w4, hw4⟩ : ∃ w4, w4 = w3.drew.alloc (.cells ac.toArray 64) := ⟨_, rfl⟩
  rw [<- hw4]
  have bd : Below w3.heap.size w3 w4 := by rw [hw4]; exact ((Below.refl _ _).drew).alloc (by simp) _
  have h4 := h3.below bd
  have hC4 := hC.below bd
  refine ⟨⟨?_, by rw [hwr, hwlen]; omega, h4.rest.hi.2, (h3.below (Below.refl _ _).drew).cells.wts ev, h4.cells.wts ev, h3.cells.lt⟩, ?_⟩
  ·have := h4.rest.wait
   rw [ev, <- hwr] at this
   exact this
  intro v6 w6 h6 g6
  have R := h4.rest.setWait (v' := v6) (wait' := M.wait ++ [M.here]) (by rw [ev]; exact g6) (by rw [List.map_append, <- hwr, List.map_singleton, <- hac]; exact h6)
  have box6 := R.2.1.trans h4.box
  have hmb6 := (gl box6)
  have nf1 := h4.not_foot hC4.vb (by decide) (by decide) (by decide) (by decide) (by decide)
  have nf2 := h4.not_foot hC4.ab (by decide) (by decide) (by decide) (by decide) (by decide)
  have vb6 := (R.2.2.only.block _ (gl hC4.vb) nf1).trans hC4.vb
  have ab6 := (R.2.2.only.block _ (gl hC4.ab) nf2).trans hC4.ab
  have hne1 : w.heap.size ≠ s.mb := fun e => nf1 (.inl e)
  have hne2 : w.heap.size + 1 ≠ s.mb := fun e => nf2 (.inl e)
  have mc6 : McC s d w6 M := ⟨cell_arr box6 rfl, cell_arr box6 rfl, cell_arr box6 rfl, cell_arr box6 rfl, cell_arr box6 rfl, cell_arr box6 rfl, cell_arr box6 rfl, cell_arr box6 rfl, cell_arr box6 rfl, hmb6⟩
  refine ⟨mc6.wts ev, fz_of box6, hmb6, w6.setCell ⟨s.mb, 38, none⟩ v6, rfl, ?_⟩
  have vb7 : (w6.setCell ⟨s.mb, 38, none⟩ v6).heap[w.heap.size]? = _ := (heap_set_other hne1).trans vb6
  have ab7 : (w6.setCell ⟨s.mb, 38, none⟩ v6).heap[w.heap.size + 1]? = _ := (heap_set_other hne2).trans ab6
  have h7 : Mach FS s { d with vw := v6 } (w6.setCell ⟨s.mb, 38, none⟩ v6) { M with wait := M.wait ++ [M.here] } := ⟨box_at box6 rfl, R.1.set 38 v6⟩
  have f7 : Foo s d { d with vw := v6 } w (w6.setCell ⟨s.mb, 38, none⟩ v6) := (Foo.of_below hC.low).trans ((Foo.of_below bd).trans (R.2.2.trans (Foo.set s _ w6 38 v6)))
  generalize w6.setCell ⟨s.mb, 38, none⟩ v6 = w7 at vb7 ab7 h7 f7 ⊢
  have b8 : Below w7.heap.size w7 w7.drew := (Below.refl _ _).drew
  have h8' := h7.below b8
  have vb8 := (b8.block _ (gl vb7)).trans vb7
  have ab8 := (b8.block _ (gl ab7)).trans ab7
  have mf1 := h8'.not_foot vb8 (by decide) (by decide) (by decide) (by decide) (by decide)
  have mf2 := h8'.not_foot ab8 (by decide) (by decide) (by decide) (by decide) (by decide)
  refine ⟨h7.cells.lt, by rw [hg]; exact (gl ab7), by rw [hg]; exact cell_arr vb8 rfl, by rw [hg]; exact cell_arr vb8 rfl, ?_⟩
  rw [hnf]
  refine (mBegin_any h8' nf f hff X (some ⟨g + 1, 0, none⟩) kl 8 hXl.symm (fun w' ho => ?_) M' hM hfP hl (by simp; omega)).mono ?_
  ·have ab9 := (ho.block _ (gl ab8) mf2).trans ab8
   refine ⟨by omega, by omega, fun _ => ⟨g + 1, 0, rfl, by rw [hg]; exact (gl ab9), fun i hi => ?_⟩⟩
   rw [hg]
   refine cell_arr ab9 ?_
   have hl8 := hC4.len
   have e1 : X[i] = A[i]'(by omega) := by
    have : (A.take kl)[i]? = X[i]? := by rw [hAX]
    rw [List.getElem?_take, if_pos (by omega)] at this
    rw [List.getElem?_eq_getElem hi, List.getElem?_eq_getElem (by omega)] at this
    exact (Option.some.inj this).symm
   simp [ivs, e1, show i < A.length by omega]
  ·rintro e w' ⟨rfl, d', q1, q2⟩
   have vb9 := (q2.only.block _ (gl vb8) mf1).trans vb8
   refine ⟨rfl, ⟨d', q1, f7.trans ((Foo.of_below b8).trans q2)⟩, ?_, ?_⟩
   ·rw [hg, <- hnf]; exact cell_arr vb9 rfl
   ·rw [hg]; exact cell_arr vb9 rfl
 have hac2 : ac = [.pointer (some ⟨s.fb, s.fo + M.here.fi * 5, none⟩), .int .i64 (M.here.bk : Int), .int .i64 (M.here.bh : Int), .int .i64 (M.here.fst : Int)] := hac
 have HTK : Hid (∀ k, k <= kl -> (X.take k ++ List.replicate (8 - k) 0).take k = X.take k) := by
  intro k hk
  rw [List.take_append_of_le_length (by simp; omega), List.take_take, Nat.min_self]
 have HXT : Hid (X.take kl = X) := by show _ = _; rw [<- hXl]; exact List.take_length
 obtain ⟨x0, y0, y1, y2, y3, y4⟩ := HROW.out w1 _ HC0.out
 clear hwlen hwle hac hwr hX hXs hXl hM hff hfP hP hI h c1 hkl ev hl
 generalize s.mb = mb at *
 generalize s.hi = hi at *
 generalize s.fo + M.here.fi * 5 = q at *
 generalize s.fb = fb at *
 generalize (M.here.bk : Int) = bk at *
 generalize (M.here.bh : Int) = bh at *
 generalize (M.here.fst : Int) = fst at *
 subst hac2
 clear him hnf
 go_enter Tryz.func31, Tryz.ntmps31
 go_upto_region 2 with fail
 rw [<- hw1]
 clear hw1
 rw [<- hg]
 clear hg
 go_wp2_with fail
 clear x0 y0 y1 y2 y3 y4
 go_loopw [11] (fun u wr => ∃ k : Nat, k <= kl /\ u = .int .i64 k /\ Hid (CallS w wr v ka kl kc (X.take k ++ List.replicate (8 - k) 0))) (fun u _ => kl - (intOf u).toNat)
 case atStart => exact ⟨0, by omega, rfl, HC0⟩
 case round =>
  clear HC0
  obtain ⟨k, hk, rfl, HK⟩ := hrel
  by_cases hlk : k < kl
  ·obtain ⟨x0, y0, y1, y2, y3, y4⟩ := HROW.out wr _ HK.out
   have HAR : Hid _ := HARG.out k wr _ hlk HK.out
   have HS2 : Hid (∀ W, CallS w W v ka kl kc (X.take k ++ List.replicate (8 - k) 0) -> mb < W.heap.size /\ g + 1 < W.heap.size /\ W.cell? ⟨g + 1, k, none⟩ = some (.int .i64 ((X.take k ++ List.replicate (8 - k) 0).getD k 0)) /\ W.frozen? ⟨g + 1, k, none⟩ = false /\ Hid (CallS w (W.setCell ⟨g + 1, k, none⟩ (.int .i64 (X.getD k 0))) v ka kl kc (X.take (k + 1) ++ List.replicate (8 - (k + 1)) 0))) := fun W hW => by
    have q := HST.out k W _ hlk hW
    have q2 := HROW.out W _ hW
    refine ⟨q2.1, q2.2.2.2.2.2, q.1, q.2.1, ?_⟩
    have := q.2.2
    rw [HNX.out k hlk] at this
    exact this
   generalize (X.take k ++ List.replicate (8 - k) 0).getD k 0 = z at HS2
   have hk8 : (k : Int) < 8 := by omega
   generalize X.getD k 0 = xk at HAR HS2
   clear HK HFIN HROW HST HNX HARG HTK HXT
   go_wp2_with (go_at_call 59; refine Calls.mono HAR.out ?_; rintro e w2 ⟨rfl, hb2⟩; obtain ⟨z1, z2, z3, z4, H5⟩ := HS2.out w2 hb2; clear hb2)
   go_roundw
   case rel => exact ⟨k + 1, by omega, by go_num, H5.out⟩
   case measure => simp [intOf]; omega
  ·have hkn : k = kl := by omega
   subst hkn
   have HF3 : Hid _ := HFIN.out wr _ HK.out (by rw [HTK.out k (Nat.le_refl _)]; exact HXT.out)
   obtain ⟨w3, hw3⟩ : ∃ w3, w3 = wr := ⟨_, rfl⟩
   rw [<- hw3] at HF3 ⊢
   obtain ⟨⟨r1, r2, r3, S0, S1, hmw⟩, hput⟩ := HF3.out
   have HRW : Hid _ := r1
   have HLX : Hid _ := r2
   have HHI : Hid _ := r3
   have PUT : Hid _ := hput
   have HCN : Hid (∀ j u, ([.pointer (some ⟨fb, q, none⟩), .int .i64 bk, .int .i64 bh, .int .i64 fst] : List Value)[j]? = some u -> (w3.drew.alloc (.cells #[.pointer (some ⟨fb, q, none⟩), .int .i64 bk, .int .i64 bh, .int .i64 fst] 64)).cell? ((⟨w3.heap.size, 0, none⟩ : Addr).add j) = some u) := cells_newR w3.drew [.pointer (some ⟨fb, q, none⟩), .int .i64 bk, .int .i64 bh, .int .i64 fst] _
   clear HK HFIN HROW HST HNX HARG HTK HXT HF3 r1 r2 r3 hput hw3
   go_wp2_with fail
   refine led_start (S := WtS mb fb q bk bh fst va wl vc) (z := 16) (by kernel_rfl) ?_
   refine led_t (i := 0) (v := ?v0) rfl (by kernel_rfl) (.inl ⟨by rfl, ?hy0⟩) S0 ?rest0
   case hy0 =>
    rintro w' ⟨h1, h2, h3, h4, h5⟩
    go_simp
    all_goals with_reducible rfl
   try simp only [Act.put, List.getElem_toArray, List.getElem_cons_succ, List.getElem_cons_zero, List.setIfInBounds_toArray, List.set_cons_zero, List.set_cons_succ]
   refine led_t (i := 1) (v := ?v1) rfl (by kernel_rfl) (.inl ⟨by rfl, ?hy1⟩) S0 ?rest1
   case hy1 =>
    rintro w' ⟨h1, h2, h3, h4, h5⟩
    go_simp
    all_goals with_reducible rfl
   try simp only [Act.put, List.getElem_toArray, List.getElem_cons_succ, List.getElem_cons_zero, List.setIfInBounds_toArray, List.set_cons_zero, List.set_cons_succ]
   refine led_t (i := 2) (v := ?v2) rfl (by kernel_rfl) (.inl ⟨by rfl, ?hy2⟩) S0 ?rest2
   case hy2 =>
    rintro w' ⟨h1, h2, h3, h4, h5⟩
    go_simp
    all_goals with_reducible rfl
   try simp only [Act.put, List.getElem_toArray, List.getElem_cons_succ, List.getElem_cons_zero, List.setIfInBounds_toArray, List.set_cons_zero, List.set_cons_succ]
   refine led_t (i := 3) (v := ?v3) rfl (by kernel_rfl) (.inl ⟨by rfl, ?hy3⟩) S0 ?rest3
   case hy3 =>
    rintro w' ⟨h1, h2, h3, h4, h5⟩
    go_simp
    all_goals with_reducible rfl
   try simp only [Act.put, List.getElem_toArray, List.getElem_cons_succ, List.getElem_cons_zero, List.setIfInBounds_toArray, List.set_cons_zero, List.set_cons_succ]
   refine led_t (i := 4) (v := ?v4) rfl (by kernel_rfl) (.inl ⟨by rfl, ?hy4⟩) S0 ?rest4
   case hy4 =>
    rintro w' ⟨h1, h2, h3, h4, h5⟩
    go_simp
    all_goals with_reducible rfl
   try simp only [Act.put, List.getElem_toArray, List.getElem_cons_succ, List.getElem_cons_zero, List.setIfInBounds_toArray, List.set_cons_zero, List.set_cons_succ]
   refine led_t (i := 5) (v := ?v5) rfl (by kernel_rfl) (.inl ⟨by rfl, ?hy5⟩) S0 ?rest5
   case hy5 =>
    rintro w' ⟨h1, h2, h3, h4, h5⟩
    go_simp
    all_goals with_reducible rfl
   try simp only [Act.put, List.getElem_toArray, List.getElem_cons_succ, List.getElem_cons_zero, List.setIfInBounds_toArray, List.set_cons_zero, List.set_cons_succ]
   refine led_t (i := 6) (v := ?v6) rfl (by kernel_rfl) (.inl ⟨by rfl, ?hy6⟩) S0 ?rest6
   case hy6 =>
    rintro w' ⟨h1, h2, h3, h4, h5⟩
    go_simp
    all_goals with_reducible rfl
   try simp only [Act.put, List.getElem_toArray, List.getElem_cons_succ, List.getElem_cons_zero, List.setIfInBounds_toArray, List.set_cons_zero, List.set_cons_succ]
   refine led_t (i := 7) (v := ?v7) rfl (by kernel_rfl) (.inl ⟨by rfl, ?hy7⟩) S0 ?rest7
   case hy7 =>
    rintro w' ⟨h1, h2, h3, h4, h5⟩
    go_simp
    all_goals with_reducible rfl
   try simp only [Act.put, List.getElem_toArray, List.getElem_cons_succ, List.getElem_cons_zero, List.setIfInBounds_toArray, List.set_cons_zero, List.set_cons_succ]
   refine led_t (i := 8) (v := ?v8) rfl (by kernel_rfl) (.inl ⟨by rfl, ?hy8⟩) S0 ?rest8
   case hy8 =>
    rintro w' ⟨h1, h2, h3, h4, h5⟩
    go_simp
    all_goals with_reducible rfl
   try simp only [Act.put, List.getElem_toArray, List.getElem_cons_succ, List.getElem_cons_zero, List.setIfInBounds_toArray, List.set_cons_zero, List.set_cons_succ]
   refine led_t (i := 9) (v := ?v9) rfl (by kernel_rfl) (.inl ⟨by rfl, ?hy9⟩) S0 ?rest9
   case hy9 =>
    rintro w' ⟨h1, h2, h3, h4, h5⟩
    go_simp
    all_goals with_reducible rfl
   try simp only [Act.put, List.getElem_toArray, List.getElem_cons_succ, List.getElem_cons_zero, List.setIfInBounds_toArray, List.set_cons_zero, List.set_cons_succ]
   refine led_t (i := 10) (v := ?v10) rfl (by kernel_rfl) (.inl ⟨by rfl, ?hy10⟩) S0 ?rest10
   case hy10 =>
    rintro w' ⟨h1, h2, h3, h4, h5⟩
    go_simp
    all_goals with_reducible rfl
   try simp only [Act.put, List.getElem_toArray, List.getElem_cons_succ, List.getElem_cons_zero, List.setIfInBounds_toArray, List.set_cons_zero, List.set_cons_succ]
   refine led_one (i := 11) rfl (by kernel_rfl) ?_
   intro K1 hK1
   rw [if_pos (by rfl)]
   go_simp
   refine hK1 _ _ (fun _ => S1) ?_
   clear hK1
   try simp only [Act.put, List.getElem_toArray, List.getElem_cons_succ, List.getElem_cons_zero, List.setIfInBounds_toArray, List.set_cons_zero, List.set_cons_succ]
   refine led_one (i := 12) rfl (by kernel_rfl) ?_
   intro K2 hK2
   refine step_append_row rfl _ _ 65 64 4 _ 32 rfl Tryz.underlying65 info_ac rfl (by decide) (by decide) hi (.slice va wl vc) rws (by simp [Act.eval]) HRW.out w3.heap.size (by simp [Act.eval]) [.pointer (some ⟨fb, q, none⟩), .int .i64 bk, .int .i64 bh, .int .i64 fst] rfl HCN.out (fun u hu => by simp at hu; rcases hu with rfl | rfl | rfl | rfl <;> rfl) HLX.out HHI.out ?_
   intro v6 w6 h6 g6
   have S6 := PUT.out v6 w6 h6 g6
   refine hK2 _ _ (fun _ => S6.1) ?_
   clear hK2
   obtain ⟨a6, c6, e6, _, _⟩ := own_slice h6.out
   obtain ⟨n6, hn6⟩ : ∃ n, n = (rws ++ [([.pointer (some ⟨fb, q, none⟩), .int .i64 bk, .int .i64 bh, .int .i64 fst] : List Value)]).length := ⟨_, rfl⟩
   rw [<- hn6] at e6
   clear hn6
   subst e6
   have T6 := S6.1
   have T65 := T6.h5
   have F6 := S6.2.1
   have X6 := S6.2.2.1
   have P6 : Hid _ := S6.2.2.2
   clear h6 g6 S6
   try simp only [Act.put, List.getElem_toArray, List.getElem_cons_succ, List.getElem_cons_zero, List.setIfInBounds_toArray, List.set_cons_zero, List.set_cons_succ]
   refine led_one (i := 13) rfl (by kernel_rfl) ?_
   intro K3 hK3
   rw [if_pos (by rfl)]
   go_simp
   refine hK3 _ _ (fun _ => T6) ?_
   clear hK3
   try simp only [Act.put, List.getElem_toArray, List.getElem_cons_succ, List.getElem_cons_zero, List.setIfInBounds_toArray, List.set_cons_zero, List.set_cons_succ]
   refine led_one (i := 14) rfl (by kernel_rfl) ?_
   intro K4 hK4
   rw [if_pos (by rfl)]
   go_simp
   refine hK4 _ _ (fun _ => T6) ?_
   clear hK4
   try simp only [Act.put, List.getElem_toArray, List.getElem_cons_succ, List.getElem_cons_zero, List.setIfInBounds_toArray, List.set_cons_zero, List.set_cons_succ]
   refine led_one (i := 15) rfl (by kernel_rfl) ?_
   intro K5 hK5
   rw [if_pos (by rfl)]
   go_simp
   refine hK5 _ _ (fun _ => T6) ?_
   clear hK5
   try simp only [Act.put, List.getElem_toArray, List.getElem_cons_succ, List.getElem_cons_zero, List.setIfInBounds_toArray, List.set_cons_zero, List.set_cons_succ]
   refine led_one (i := 16) rfl (by kernel_rfl) ?_
   intro K7 hK7
   rw [if_pos (by rfl)]
   go_simp
   refine hK7 _ _ (fun h => absurd rfl h) ?_
   clear hK7
   refine led_done (by kernel_rfl) ?_
   obtain ⟨w7, hw7, x7, x8, y2, y3, HBG⟩ := P6.out
   rw [<- hw7]
   clear hw7 P6 PUT S0 S1 T6 T65 F6 X6 HRW HLX HHI HCN hmw
   go_wp2_with fail
   have hcutA := run_cutA ⟨g + 1, 0, none⟩ k (by omega)
   go_region_held (fun W => W.cell? ⟨g, 2, none⟩ = some (.int .i64 v.imm) /\ W.cell? ⟨g, 3, none⟩ = some (.slice ka k kc))
    (first | exact ⟨y2, y3⟩ | exact S9)
    (first | (go_at_call 16; refine Calls.mono HBG.out ?_; rintro e w9 ⟨rfl, h9, S9⟩; have H9 : Hid _ := h9; clear h9))
   all_goals
    go_wp2_with fail
    go_ret2
    exact ⟨rfl, H9.out⟩
end Go.Proofs.YtfbkopjncmkbiabGreatDoor
