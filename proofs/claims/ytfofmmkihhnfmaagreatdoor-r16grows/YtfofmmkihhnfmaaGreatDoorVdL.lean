import Derived.Test.YtfofmmkihhnfmaaGreatDoorVdK
set_option linter.unusedVariables false
set_option linter.unusedSimpArgs false
namespace Go.Proofs.YtfofmmkihhnfmaaGreatDoor
open Go.ChangeShapes Go.WideShapes Go.ChangeAt Go.RowKit Go.Maps

/-- What was told of a run, in a box of its own. -/
structure SpO (W : World) (lo p : Nat) (ao : Option Addr) (c : Nat) (R : Rv) : Prop where
  box : W.heap[p]? = some (.cells #[.slice ao R.ev.length c, .int .i64 R.fin, .int .i64 R.kd, .int .i64 R.vl, .int .i64 R.steps, .int .i64 R.words, .int .i64 R.deep] 38 (0, 0))
  row : Row W lo 62 2 (.slice ao R.ev.length c) (R.ev.map evc)
  le : lo ≤ p
theorem SpO.lt {W lo p ao c R} (h : SpO W lo p ao c R) : p < W.heap.size := (Array.getElem?_eq_some_iff.1 h.box).1
theorem SpO.apart {W W' lo p ao c R} {F : Nat → Prop} (h : SpO W lo p ao c R) (ho : Only F W W') (hF : ∀ k, F k → k < lo) : SpO W' lo p ao c R :=
  ⟨(ho.block p h.lt fun q => by have := hF p q; have := h.le; omega).trans h.box, h.row.move fun g hg => by
    obtain ⟨z1, z2⟩ := own_block h.row.out hg
    exact ho.block g z2 fun q => by have := hF g q; omega, h.le⟩
theorem SpO.below {W W' lo p ao c R} (h : SpO W lo p ao c R) (hb : Below W.heap.size W W') : SpO W' lo p ao c R :=
  h.apart (F := fun _ => False) (Only.of_below hb _) fun _ q => q.elim
theorem SpO.evs {W lo p ao c R} (h : SpO W lo p ao c R) : Evs W ao c R.ev := by
  obtain ⟨a', c', e, hE⟩ := evs_of h.row
  cases e
  exact hE
theorem rowR_lower {w : World} {B B' : Nat} {e : TypeId} {z : Nat} {v : Value} {xs : List (List Value)} (h : Row w B e z v xs) (hB : B' ≤ B) : Row w B' e z v xs := by
  refine ⟨⟨h.out.1, h.out.2.imp id ?_⟩, h.len⟩
  rintro ⟨g, cap, cur, e1, e2, e3, e4⟩
  exact ⟨g, cap, cur, e1, Nat.le_trans hB e2, e3, e4⟩
/-- It is put into a box. -/
theorem SpO.new {W lo ao c} {R : Rv} (h : Row W lo 62 2 (.slice ao R.ev.length c) (R.ev.map evc)) (hl : lo ≤ W.heap.size) {W' : World} (hW : W' = W.alloc (.cells #[.slice ao R.ev.length c, .int .i64 R.fin, .int .i64 R.kd, .int .i64 R.vl, .int .i64 R.steps, .int .i64 R.words, .int .i64 R.deep] 38)) : SpO W' lo W.heap.size ao c R :=
  ⟨by rw [hW]; exact heap_alloc_new _ _, h.keep (by rw [hW]; exact below_newR W _), hl⟩
theorem MB.low_min {s w R X B0 B} (h : MB s w R X B0 B) : MB s w R X B0 (min B w.heap.size) :=
  ⟨h.le, h.all, fun q => (h.low q).cap.mono fun k hk => hk.1.imp id fun z => ⟨z.1, by have := hk.2; omega⟩⟩
theorem MB.below {s w w' R X B0 B} (h : MB s w R X B0 B) (hb : Below w.heap.size w w') : MB s w' R X B0 B :=
  h.apart (F := fun _ => False) (Only.of_below hb _) fun _ q => q.elim
/-- A step more of a run. -/
theorem smG_one (C : List Ri) (FS : List Rf) (S room : Int) (i : Nat) (R : Rv) : smG C FS S room (i + 1) R = ((smG C FS S room i R).stp C FS S room).2 := by
  rw [smG_add]
  show (if _ then _ else _) = _
  split
  · rfl
  · rfl
theorem call_steps0 (S : Int) (f : Rf) (I : List Int) : ((Rv.zero I).call S f (-1)).steps = 0 := by
  unfold Rv.call
  split <;> rfl
theorem pre_get {A B : List (Int × Int)} (h : A <+: B) {i : Nat} (hi : i < A.length) : ∃ hb : i < B.length, B[i] = A[i] := by
  obtain ⟨t, rfl⟩ := h
  exact ⟨by rw [List.length_append]; omega, List.getElem_append_left hi⟩
end Go.Proofs.YtfofmmkihhnfmaaGreatDoor
