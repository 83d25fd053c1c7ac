import Derived.Test.YtpgbkkllnbahpaaScN
import Derived.SizedLaws
import Derived.Deep.Slices
import Derived.OpenShut
import Derived.ChangeOld
import Derived.ChangeSlices
import Derived.Lib.SmallJoins
set_option linter.unusedVariables false
set_option linter.unusedSimpArgs false
namespace Go.Proofs.Ytpgbkkllnbahpaa
open Go.ChangeShapes Go.WideShapes Go.ChangeAt Go.RowKit Go.Maps

theorem wf_fitV {a : Int} (h : (Lit.int .i64 a).wf = true) : -9223372036854775808 ≤ a ∧ a ≤ 9223372036854775807 := by
  have := bounds_i64 h
  exact this
theorem own : ownKnob Try.prog.godebug = none := by kernel_rfl
theorem laidOut : laidOutB Try.prog = true := by kernel_rfl
theorem below_same {W w' : World} (h : Below W.heap.size W w') {p : MemPlace} (hp : p.block < W.heap.size) : W.sameAt w' p := by
  cases p with
  | cell b o => exact World.cell?_of_block (w := W) (h.block _ hp)
  | map b => exact h.block _ hp
set_option maxRecDepth 20000 in
set_option maxHeartbeats 1000000 in
/-- A slice of intervals that came in. -/
theorem ivs_view {H : Type} {enc : TypeId × Value → H} {W : World} {fuel : Nat} {cs : List Value} {x : DataW H × List MemPlace} (h : DataW.trod enc Try.prog W 0 (fun _ => true) true fuel 22 cs = some x) :
    ∃ (ao : Option Addr) (cap : Nat) (N : List Iv), cs = [.slice ao N.length cap] ∧ Ivs W ao cap N := by
  rcases Deep.open_slice Try.underlying22 h with ⟨h0, _⟩ | ⟨a, len, cap, m, n, D, Pl, rfl, _, hl, hm, hmm, rfl, hx⟩
  · exact ⟨none, 0, [], h0, ⟨Nat.le_refl _, by decide, by simp, fun h => absurd rfl h⟩⟩
  · have ce : Try.prog.cellsOf 35 = 3 := by kernel_rfl
    have c3 : Try.prog.cellsOf 3 = 1 := by kernel_rfl
    rw [ce] at hx
    have hml : len ≤ m := by rw [hmm]; simp; exact hl
    have each : ∀ i, i < len → ∃ q : Iv, W.cell? (a.add (i * 3)) = some (.int .i64 q.1) ∧ W.cell? (a.add (i * 3 + 1)) = some (.int .i64 q.2.1) ∧ W.cell? (a.add (i * 3 + 2)) = some (.int .i64 q.2.2) ∧ FitV q := by
      intro i hi
      obtain ⟨cs', h1, h2⟩ := hx i (by omega)
      obtain ⟨_, hlen, hcell⟩ := World.cells?_some h1
      obtain ⟨xs, k, hk, hxy, _, hxl, hf⟩ := DataW.trod_struct Try.underlying35 h2
      match cs', hlen with
      | [v0, v1, v2], _ =>
        have g0 := hf 0 _ rfl
        have g1 := hf 1 _ rfl
        have g2 := hf 2 _ rfl
        simp [c3] at g0 g1 g2
        match xs, hxl with
        | [y0, y1, y2], _ =>
          obtain ⟨n0, e0, _, w0⟩ := DataW.trod_int Try.underlying3 (show DataW.trod enc Try.prog W 0 _ true k 3 _ = some y0 from g0)
          obtain ⟨n1, e1, _, w1⟩ := DataW.trod_int Try.underlying3 (show DataW.trod enc Try.prog W 0 _ true k 3 _ = some y1 from g1)
          obtain ⟨n2, e2, _, w2⟩ := DataW.trod_int Try.underlying3 (show DataW.trod enc Try.prog W 0 _ true k 3 _ = some y2 from g2)
          simp at e0 e1 e2
          subst e0 e1 e2
          have hc : ∀ j (hj : j < 3), W.cell? (a.add (i * 3 + j)) = some ([Value.int .i64 n0, .int .i64 n1, .int .i64 n2][j]'(by simpa using hj)) := by
            intro j hj
            have := hcell j (by omega)
            rw [Deep.add_add] at this
            rw [this]; simp
          exact ⟨(n0, n1, n2), hc 0 (by omega), hc 1 (by omega), hc 2 (by omega), ⟨wf_fitV w0, wf_fitV w1, wf_fitV w2⟩⟩
    haveI : Inhabited Iv := ⟨(0, 0, 0)⟩
    obtain ⟨q, hq⟩ := Deep.choose_lt each
    refine ⟨some a, cap, (List.range len).map q, by simp, ⟨by simpa using hl, by unfold maxLen at hm; omega, fun m hm => ?_, fun hne => ?_⟩⟩
    · obtain ⟨i, hi, rfl⟩ := List.mem_map.1 hm
      exact (hq i (by simpa using hi)).2.2.2
    · have hl0 : 0 < len := by
        rcases Nat.eq_zero_or_pos len with h | h
        · subst h; simp at hne
        · exact h
      obtain ⟨b, off, spot⟩ := a
      obtain ⟨c00, _⟩ := hq 0 hl0
      have hspot : spot = none := by simpa [Addr.add] using World.cell?_spot c00
      subst hspot
      refine ⟨b, off, rfl, by have := block_lt_of_cell c00; simpa [Addr.add] using this, fun i hi => ?_⟩
      have hi' : i < len := by simpa using hi
      obtain ⟨d0, d1, d2, _⟩ := hq i hi'
      simp only [add_none, ← Nat.add_assoc] at d0 d1 d2
      have e : ((List.range len).map q)[i] = q i := by simp
      rw [e]
      exact ⟨d0, d1, d2⟩
end Go.Proofs.Ytpgbkkllnbahpaa
