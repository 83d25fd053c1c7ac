import Derived.Test.YtmddjfofedpggaaDoorLxBm
import Derived.Test.YtmddjfofedpggaaDoorLxV
set_option linter.unusedVariables false
namespace Go.Proofs.YtmddjfofedpggaaDoor
open Go.ChangeShapes Go.WideShapes Go.ChangeAt Go.RowKit

theorem pieces_view {H : Type} {enc : TypeId × Value → H} {W : World} {fuel : Nat} {ao : Option Addr} {len cap : Nat} {x : DataW H × List MemPlace} (h : DataW.trod enc Tryd.prog W 0 (fun _ => true) true fuel 36 [.slice ao len cap] = some x) :
    len ≤ 9223372036854775807 ∧ ∃ (K N G : Nat → Int), 0 < len → ∃ b o, ao = some ⟨b, o, none⟩ ∧ Pcs W b o len K N G := by
  rcases Deep.open_slice Tryd.underlying36 h with ⟨h0, _⟩ | ⟨a, len', cap', m, n, D, Pl, e, _, hl, hm, hmm, rfl, hx⟩
  · cases h0
    exact ⟨by omega, fun _ => 0, fun _ => 0, fun _ => 0, fun h => by omega⟩
  · simp at e
    obtain ⟨rfl, rfl, rfl⟩ := e
    have hcap : cap ≤ 9223372036854775807 := hm
    have ce : Tryd.prog.cellsOf 39 = 3 := by kernel_rfl
    have c3 : Tryd.prog.cellsOf 3 = 1 := by kernel_rfl
    rw [ce] at hx
    have hml : len ≤ m := by rw [hmm]; simp; exact hl
    have each : ∀ i, i < len → ∃ q : Int × Int × Int, (W.cell? (a.add (i * 3)) = some (.int .i64 q.1) ∧ W.cell? (a.add (i * 3 + 1)) = some (.int .i64 q.2.1) ∧ W.cell? (a.add (i * 3 + 2)) = some (.int .i64 q.2.2)) ∧ (Lit.int .i64 q.2.1).wf = true := by
      intro i hi
      obtain ⟨cs', h1, h2⟩ := hx i (by omega)
      obtain ⟨_, hlen, hcell⟩ := World.cells?_some h1
      obtain ⟨xs, k, hk, hxy, _, hxl, hf⟩ := DataW.trod_struct Tryd.underlying39 h2
      match cs', hlen with
      | [v0, v1, v2], _ =>
        have g0 := hf 0 _ rfl
        have g1 := hf 1 _ rfl
        have g2 := hf 2 _ rfl
        simp [c3] at g0 g1 g2
        match xs, hxl with
        | [y0, y1, y2], _ =>
          obtain ⟨n0, e0, _, _⟩ := DataW.trod_int Tryd.underlying3 (show DataW.trod enc Tryd.prog W 0 _ true k 3 _ = some y0 from g0)
          obtain ⟨n1, e1, _, z1⟩ := DataW.trod_int Tryd.underlying3 (show DataW.trod enc Tryd.prog W 0 _ true k 3 _ = some y1 from g1)
          obtain ⟨n2, e2, _, _⟩ := DataW.trod_int Tryd.underlying3 (show DataW.trod enc Tryd.prog W 0 _ true k 3 _ = some y2 from g2)
          simp at e0 e1 e2
          subst e0 e1 e2
          have q0 := hcell 0 (by omega)
          have q1 := hcell 1 (by omega)
          have q2 := hcell 2 (by omega)
          rw [Deep.add_add] at q0 q1 q2
          exact ⟨(n0, n1, n2), ⟨by simpa using q0, by simpa using q1, by simpa using q2⟩, z1⟩
    obtain ⟨q, hq⟩ := Deep.choose_lt each
    refine ⟨by omega, fun i => (q i).1, fun i => (q i).2.1, fun i => (q i).2.2, fun h0 => ?_⟩
    obtain ⟨b, off, spot⟩ := a
    have hspot : spot = none := by simpa [Addr.add] using World.cell?_spot (hq 0 h0).1.1
    subst hspot
    refine ⟨b, off, rfl, block_lt_of_cell (hq 0 h0).1.1, fun i hi => ?_, fun i hi => bounds_i64 (hq i hi).2⟩
    have := (hq i hi).1
    rw [add_plain, add_plain, add_plain] at this
    simpa [Nat.add_assoc] using this
end Go.Proofs.YtmddjfofedpggaaDoor
