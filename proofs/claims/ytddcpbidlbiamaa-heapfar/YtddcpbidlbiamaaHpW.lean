import Derived.Test.YtddcpbidlbiamaaHpV
import Derived.Deep.Slices
import Derived.OpenShut
import Derived.ChangeOld
set_option linter.unusedVariables false
set_option linter.unusedSimpArgs false
namespace Go.Proofs.Ytddcpbidlbiamaa
open Go.ChangeShapes Go.WideShapes Go.ChangeAt Go.RowKit

theorem wf_fits {a : Int} (h : (Lit.int .i64 a).wf = true) : Fits a := by
  have := bounds_i64 h
  exact this

/-- The reading of a list of calls: where it lies, cell by cell. -/
theorem script_cells {H : Type} {enc : TypeId × Value → H} {W : World} {fuel : Nat} {cs : List Value} {x : DataW H × List MemPlace} (h : DataW.trod enc Try.prog W 0 (fun _ => true) true fuel 22 cs = some x) :
    cs = [.slice none 0 0] ∨ ∃ (a : Addr) (len cap : Nat) (s : Nat → O), cs = [.slice (some a) len cap] ∧ cap ≤ maxLen ∧ len ≤ cap ∧
      (∀ i, i < len → W.cell? (a.add (i * 6)) = some (.int .i64 (s i).k) ∧ W.cell? (a.add (i * 6 + 1)) = some (.int .i64 (s i).who) ∧ W.cell? (a.add (i * 6 + 2)) = some (.int .i64 (s i).near) ∧ W.cell? (a.add (i * 6 + 3)) = some (.int .i64 (s i).a) ∧ W.cell? (a.add (i * 6 + 4)) = some (.int .i64 (s i).i) ∧ W.cell? (a.add (i * 6 + 5)) = some (.int .i64 (s i).v)) ∧
      (∀ i, i < len → (s i).Ok) := by
  rcases Deep.open_slice Try.underlying22 h with ⟨h0, _⟩ | ⟨a, len, cap, m, n, D, Pl, rfl, _, hl, hm, hmm, _, hx⟩
  · exact Or.inl h0
  · right
    have ce : Try.prog.cellsOf 30 = 6 := by kernel_rfl
    have c3 : Try.prog.cellsOf 3 = 1 := by kernel_rfl
    rw [ce] at hx
    have hml : len ≤ m := by rw [hmm]; simp; exact hl
    have each : ∀ i, i < len → ∃ q : O, (W.cell? (a.add (i * 6)) = some (.int .i64 q.k) ∧ W.cell? (a.add (i * 6 + 1)) = some (.int .i64 q.who) ∧ W.cell? (a.add (i * 6 + 2)) = some (.int .i64 q.near) ∧ W.cell? (a.add (i * 6 + 3)) = some (.int .i64 q.a) ∧ W.cell? (a.add (i * 6 + 4)) = some (.int .i64 q.i) ∧ W.cell? (a.add (i * 6 + 5)) = some (.int .i64 q.v)) ∧ q.Ok := by
      intro i hi
      obtain ⟨cs', h1, h2⟩ := hx i (by omega)
      obtain ⟨_, hlen, hcell⟩ := World.cells?_some h1
      obtain ⟨xs, k, hk, hxy, _, hxl, hf⟩ := DataW.trod_struct Try.underlying30 h2
      match cs', hlen with
      | [v0, v1, v2, v3, v4, v5], _ =>
        have g0 := hf 0 _ rfl
        have g1 := hf 1 _ rfl
        have g2 := hf 2 _ rfl
        have g3 := hf 3 _ rfl
        have g4 := hf 4 _ rfl
        have g5 := hf 5 _ rfl
        simp [c3] at g0 g1 g2 g3 g4 g5
        match xs, hxl with
        | [y0, y1, y2, y3, y4, y5], _ =>
          obtain ⟨n0, e0, _, _⟩ := DataW.trod_int Try.underlying3 (show DataW.trod enc Try.prog W 0 _ true k 3 _ = some y0 from g0)
          obtain ⟨n1, e1, _, _⟩ := DataW.trod_int Try.underlying3 (show DataW.trod enc Try.prog W 0 _ true k 3 _ = some y1 from g1)
          obtain ⟨n2, e2, _, z2⟩ := DataW.trod_int Try.underlying3 (show DataW.trod enc Try.prog W 0 _ true k 3 _ = some y2 from g2)
          obtain ⟨n3, e3, _, z3⟩ := DataW.trod_int Try.underlying3 (show DataW.trod enc Try.prog W 0 _ true k 3 _ = some y3 from g3)
          obtain ⟨n4, e4, _, z4⟩ := DataW.trod_int Try.underlying3 (show DataW.trod enc Try.prog W 0 _ true k 3 _ = some y4 from g4)
          obtain ⟨n5, e5, _, z5⟩ := DataW.trod_int Try.underlying3 (show DataW.trod enc Try.prog W 0 _ true k 3 _ = some y5 from g5)
          simp at e0 e1 e2 e3 e4 e5
          subst e0 e1 e2 e3 e4 e5
          have q0 := hcell 0 (by omega)
          have q1 := hcell 1 (by omega)
          have q2 := hcell 2 (by omega)
          have q3 := hcell 3 (by omega)
          have q4 := hcell 4 (by omega)
          have q5 := hcell 5 (by omega)
          rw [Deep.add_add] at q0 q1 q2 q3 q4 q5
          exact ⟨⟨n0, n1, n2, n3, n4, n5⟩, ⟨by simpa using q0, by simpa using q1, by simpa using q2, by simpa using q3, by simpa using q4, by simpa using q5⟩, ⟨wf_fits z3, wf_fits z4, wf_fits z5, wf_fits z2⟩⟩
    haveI : Inhabited O := ⟨⟨0, 0, 0, 0, 0, 0⟩⟩
    obtain ⟨q, hq⟩ := Deep.choose_lt each
    exact ⟨a, len, cap, q, rfl, hm, hl, fun i hi => (hq i hi).1, fun i hi => (hq i hi).2⟩

theorem add_plain (b off k : Nat) : (⟨b, off, none⟩ : Addr).add k = ⟨b, off + k, none⟩ := by
  unfold Addr.add
  split <;> simp_all
/-- A list of calls that came in. -/
theorem script_view {H : Type} {enc : TypeId × Value → H} {W : World} {fuel : Nat} {a0 : Option Addr} {len0 cap0 : Nat} {x : DataW H × List MemPlace} (h : DataW.trod enc Try.prog W 0 (fun _ => true) true fuel 22 [.slice a0 len0 cap0] = some x) :
    cap0 ≤ 9223372036854775807 ∧ len0 ≤ cap0 ∧ ∃ s : Nat → O, 0 < len0 → ∃ b off, a0 = some ⟨b, off, none⟩ ∧ Scr W b off len0 s := by
  rcases script_cells h with hcs | ⟨a, l, c, s, hcs, hc, hl, hcell, hwf⟩
  · simp at hcs
    obtain ⟨rfl, rfl, rfl⟩ := hcs
    exact ⟨by omega, by omega, fun _ => ⟨0, 0, 0, 0, 0, 0⟩, fun h => by omega⟩
  · simp at hcs
    obtain ⟨rfl, rfl, rfl⟩ := hcs
    unfold maxLen at hc
    refine ⟨by omega, hl, s, fun hpos => ?_⟩
    obtain ⟨b, off, spot⟩ := a
    have hspot : spot = none := by simpa [Addr.add] using World.cell?_spot (hcell 0 hpos).1
    subst hspot
    have hb : b < W.heap.size := block_lt_of_cell (hcell 0 hpos).1
    refine ⟨b, off, rfl, hb, fun i hi => ?_, hwf⟩
    have := hcell i hi
    simp only [add_plain] at this
    simpa [Nat.add_assoc] using this

theorem own : ownKnob Try.prog.godebug = none := by kernel_rfl
theorem laidOut : laidOutB Try.prog = true := by kernel_rfl
theorem below_same {W w' : World} (h : Below W.heap.size W w') {p : MemPlace} (hp : p.block < W.heap.size) : W.sameAt w' p := by
  cases p with
  | cell b o => exact World.cell?_of_block (w := W) (h.block _ hp)
  | map b => exact h.block _ hp
end Go.Proofs.Ytddcpbidlbiamaa
