import Derived.Test.YtddcpbidlbiamaaHkB
import Derived.Test.YtddcpbidlbiamaaHpW
set_option linter.unusedVariables false
set_option linter.unusedSimpArgs false
namespace Go.Proofs.Ytddcpbidlbiamaa
open Go.ChangeShapes Go.WideShapes Go.ChangeAt Go.RowKit

/-- A list of numbers that came in. -/
theorem sizes_view {H : Type} {enc : TypeId × Value → H} {W : World} {fuel : Nat} {a0 : Option Addr} {len0 cap0 : Nat} {x : DataW H × List MemPlace} (h : DataW.trod enc Try.prog W 0 (fun _ => true) true fuel 32 [.slice a0 len0 cap0] = some x) :
    cap0 ≤ 9223372036854775807 ∧ len0 ≤ cap0 ∧ ∃ z : Nat → Int, 0 < len0 → ∃ b off, a0 = some ⟨b, off, none⟩ ∧ Szs W b off len0 z := by
  rcases Deep.open_slice Try.underlying32 h with ⟨h0, _⟩ | ⟨a, len, cap, m, n, D, Pl, hcs, _, hl, hm, hmm, _, hx⟩
  · simp at h0
    obtain ⟨rfl, rfl, rfl⟩ := h0
    exact ⟨by omega, by omega, fun _ => 0, fun h => by omega⟩
  · simp at hcs
    obtain ⟨rfl, rfl, rfl⟩ := hcs
    have c3 : Try.prog.cellsOf 3 = 1 := by kernel_rfl
    rw [c3] at hx
    have hml : len0 ≤ m := by rw [hmm]; simp; exact hl
    have each : ∀ i, i < len0 → ∃ q : Int, W.cell? (a.add i) = some (.int .i64 q) ∧ Fits q := by
      intro i hi
      obtain ⟨cs', h1, h2⟩ := hx i (by omega)
      obtain ⟨_, hlen, hcell⟩ := World.cells?_some h1
      match cs', hlen with
      | [v0], _ =>
        obtain ⟨n0, e0, _, z0⟩ := DataW.trod_int Try.underlying3 h2
        simp at e0
        subst e0
        have q0 := hcell 0 (by omega)
        rw [Deep.add_add] at q0
        exact ⟨n0, by simpa using q0, wf_fits z0⟩
    obtain ⟨q, hq⟩ := Deep.choose_lt each
    unfold maxLen at hm
    refine ⟨by omega, hl, q, fun hpos => ?_⟩
    obtain ⟨b, off, spot⟩ := a
    have hspot : spot = none := by simpa [Addr.add] using World.cell?_spot (hq 0 hpos).1
    subst hspot
    have hb : b < W.heap.size := block_lt_of_cell (hq 0 hpos).1
    refine ⟨b, off, rfl, hb, fun i hi => ?_, fun i hi => (hq i hi).2⟩
    have := (hq i hi).1
    rw [add_plain] at this
    exact this

theorem puts_view {H : Type} {enc : TypeId × Value → H} {W : World} {fuel : Nat} {a0 : Option Addr} {len0 cap0 : Nat} {x : DataW H × List MemPlace} (h : DataW.trod enc Try.prog W 0 (fun _ => true) true fuel 33 [.slice a0 len0 cap0] = some x) :
    cap0 ≤ 9223372036854775807 ∧ len0 ≤ cap0 ∧ ∃ zb zi zv : Nat → Int, 0 < len0 → ∃ b off, a0 = some ⟨b, off, none⟩ ∧ Pts W b off len0 zb zi zv := by
  rcases Deep.open_slice Try.underlying33 h with ⟨h0, _⟩ | ⟨a, len, cap, m, n, D, Pl, hcs, _, hl, hm, hmm, _, hx⟩
  · simp at h0
    obtain ⟨rfl, rfl, rfl⟩ := h0
    exact ⟨by omega, by omega, fun _ => 0, fun _ => 0, fun _ => 0, fun h => by omega⟩
  · simp at hcs
    obtain ⟨rfl, rfl, rfl⟩ := hcs
    have ce : Try.prog.cellsOf 41 = 3 := by kernel_rfl
    have c3 : Try.prog.cellsOf 3 = 1 := by kernel_rfl
    rw [ce] at hx
    have hml : len0 ≤ m := by rw [hmm]; simp; exact hl
    have each : ∀ i, i < len0 → ∃ q : Int × Int × Int, (W.cell? (a.add (i * 3)) = some (.int .i64 q.1) ∧ W.cell? (a.add (i * 3 + 1)) = some (.int .i64 q.2.1) ∧ W.cell? (a.add (i * 3 + 2)) = some (.int .i64 q.2.2)) ∧ Fits q.1 ∧ Fits q.2.1 ∧ Fits q.2.2 := by
      intro i hi
      obtain ⟨cs', h1, h2⟩ := hx i (by omega)
      obtain ⟨_, hlen, hcell⟩ := World.cells?_some h1
      obtain ⟨xs, k, hk, hxy, _, hxl, hf⟩ := DataW.trod_struct Try.underlying41 h2
      match cs', hlen with
      | [v0, v1, v2], _ =>
        have g0 := hf 0 _ rfl
        have g1 := hf 1 _ rfl
        have g2 := hf 2 _ rfl
        simp [c3] at g0 g1 g2
        match xs, hxl with
        | [y0, y1, y2], _ =>
          obtain ⟨n0, e0, _, z0⟩ := DataW.trod_int Try.underlying3 (show DataW.trod enc Try.prog W 0 _ true k 3 _ = some y0 from g0)
          obtain ⟨n1, e1, _, z1⟩ := DataW.trod_int Try.underlying3 (show DataW.trod enc Try.prog W 0 _ true k 3 _ = some y1 from g1)
          obtain ⟨n2, e2, _, z2⟩ := DataW.trod_int Try.underlying3 (show DataW.trod enc Try.prog W 0 _ true k 3 _ = some y2 from g2)
          simp at e0 e1 e2
          subst e0 e1 e2
          have q0 := hcell 0 (by omega)
          have q1 := hcell 1 (by omega)
          have q2 := hcell 2 (by omega)
          rw [Deep.add_add] at q0 q1 q2
          exact ⟨(n0, n1, n2), ⟨by simpa using q0, by simpa using q1, by simpa using q2⟩, wf_fits z0, wf_fits z1, wf_fits z2⟩
    obtain ⟨q, hq⟩ := Deep.choose_lt each
    unfold maxLen at hm
    refine ⟨by omega, hl, fun i => (q i).1, fun i => (q i).2.1, fun i => (q i).2.2, fun hpos => ?_⟩
    obtain ⟨b, off, spot⟩ := a
    have hspot : spot = none := by simpa [Addr.add] using World.cell?_spot (hq 0 hpos).1.1
    subst hspot
    have hb : b < W.heap.size := block_lt_of_cell (hq 0 hpos).1.1
    refine ⟨b, off, rfl, hb, fun i hi => ?_, fun i hi => (hq i hi).2⟩
    have := (hq i hi).1
    simp only [add_plain] at this
    simpa [Nat.add_assoc] using this
end Go.Proofs.Ytddcpbidlbiamaa
