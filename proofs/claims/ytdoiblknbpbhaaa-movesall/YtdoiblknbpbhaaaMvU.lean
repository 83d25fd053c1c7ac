import Derived.Test.YtdoiblknbpbhaaaMvT
import Derived.SizedLaws
import Derived.Deep.Slices
import Derived.OpenShut
import Derived.ChangeOld
import Derived.ChangeSlices
import Derived.Lib.SmallJoins
set_option linter.unusedVariables false
set_option linter.unusedSimpArgs false
namespace Go.Proofs.Ytdoiblknbpbhaaa
open Go.ChangeShapes Go.WideShapes Go.ChangeAt Go.RowKit Go.Maps

theorem wf_fits {a : Int} (h : (Lit.int .i64 a).wf = true) : Fits a := by
  have := bounds_i64 h
  exact this
theorem own : ownKnob Try.prog.godebug = none := by kernel_rfl
theorem below_same {W w' : World} (h : Below W.heap.size W w') {p : MemPlace} (hp : p.block < W.heap.size) : W.sameAt w' p := by
  cases p with
  | cell b o => exact World.cell?_of_block (w := W) (h.block _ hp)
  | map b => exact h.block _ hp
/-- A place that came in, as cells. -/
theorem loc_view {H : Type} {enc : TypeId × Value → H} {W : World} {fuel : Nat} {v0 v1 : Value} {x : DataW H × List MemPlace} (h : DataW.trod enc Try.prog W 0 (fun _ => true) true fuel 24 [v0, v1] = some x) :
    ∃ p : Lc, v0 = .int .i64 p.1 ∧ v1 = .int .i64 p.2 ∧ FitL p := by
  have c3 : Try.prog.cellsOf 3 = 1 := by kernel_rfl
  obtain ⟨xs, k, hk, hxy, _, hxl, hf⟩ := DataW.trod_struct Try.underlying24 h
  have g0 := hf 0 _ rfl
  have g1 := hf 1 _ rfl
  simp [c3] at g0 g1
  match xs, hxl with
  | [y0, y1], _ =>
    obtain ⟨n0, e0, _, w0⟩ := DataW.trod_int Try.underlying3 (show DataW.trod enc Try.prog W 0 _ true k 3 _ = some y0 from g0)
    obtain ⟨n1, e1, _, w1⟩ := DataW.trod_int Try.underlying3 (show DataW.trod enc Try.prog W 0 _ true k 3 _ = some y1 from g1)
    simp at e0 e1
    exact ⟨(n0, n1), e0, e1, ⟨wf_fits w0, wf_fits w1⟩⟩
set_option maxRecDepth 20000 in
set_option maxHeartbeats 1000000 in
/-- A slice of moves that came in. -/
theorem moves_view {H : Type} {enc : TypeId × Value → H} {W : World} {fuel : Nat} {cs : List Value} {x : DataW H × List MemPlace} (h : DataW.trod enc Try.prog W 0 (fun _ => true) true fuel 22 cs = some x) :
    ∃ (ao : Option Addr) (cap : Nat) (N : List Mv), cs = [.slice ao N.length cap] ∧ Mvs W ao cap N := by
  rcases Deep.open_slice Try.underlying22 h with ⟨h0, _⟩ | ⟨a, len, cap, m, n, D, Pl, rfl, _, hl, hm, hmm, rfl, hx⟩
  · exact ⟨none, 0, [], h0, ⟨Nat.le_refl _, by decide, by simp, fun h => absurd rfl h⟩⟩
  · have ce : Try.prog.cellsOf 36 = 4 := by kernel_rfl
    have c2 : Try.prog.cellsOf 24 = 2 := by kernel_rfl
    rw [ce] at hx
    have hml : len ≤ m := by rw [hmm]; simp; exact hl
    have each : ∀ i, i < len → ∃ q : Mv, W.cell? (a.add (i * 4)) = some (.int .i64 q.1.1) ∧ W.cell? (a.add (i * 4 + 1)) = some (.int .i64 q.1.2) ∧ W.cell? (a.add (i * 4 + 2)) = some (.int .i64 q.2.1) ∧ W.cell? (a.add (i * 4 + 3)) = some (.int .i64 q.2.2) ∧ FitM q := by
      intro i hi
      obtain ⟨cs', h1, h2⟩ := hx i (by omega)
      obtain ⟨_, hlen, hcell⟩ := World.cells?_some h1
      obtain ⟨xs, k, hk, hxy, _, hxl, hf⟩ := DataW.trod_struct Try.underlying36 h2
      match cs', hlen with
      | [v0, v1, v2, v3], _ =>
        have g0 := hf 0 _ rfl
        have g1 := hf 1 _ rfl
        simp [c2] at g0 g1
        match xs, hxl with
        | [y0, y1], _ =>
          obtain ⟨p, e0, e1, f0⟩ := loc_view (show DataW.trod enc Try.prog W 0 _ true k 24 [v0, v1] = some y0 from g0)
          obtain ⟨q, e2, e3, f1⟩ := loc_view (show DataW.trod enc Try.prog W 0 _ true k 24 [v2, v3] = some y1 from g1)
          subst e0 e1 e2 e3
          have hc : ∀ j (hj : j < 4), W.cell? (a.add (i * 4 + j)) = some ([Value.int .i64 p.1, .int .i64 p.2, .int .i64 q.1, .int .i64 q.2][j]'(by simpa using hj)) := by
            intro j hj
            have := hcell j (by omega)
            rw [Deep.add_add] at this
            rw [this]; simp
          exact ⟨(p, q), hc 0 (by omega), hc 1 (by omega), hc 2 (by omega), hc 3 (by omega), ⟨f0, f1⟩⟩
    haveI : Inhabited Mv := ⟨((0, 0), (0, 0))⟩
    obtain ⟨q, hq⟩ := Deep.choose_lt each
    refine ⟨some a, cap, (List.range len).map q, by simp, ⟨by simpa using hl, by unfold maxLen at hm; omega, fun m hm => ?_, fun hne => ?_⟩⟩
    · obtain ⟨i, hi, rfl⟩ := List.mem_map.1 hm
      exact (hq i (by simpa using hi)).2.2.2.2
    · have hl0 : 0 < len := by
        rcases Nat.eq_zero_or_pos len with h | h
        · subst h; simp at hne
        · exact h
      obtain ⟨b, off, spot⟩ := a
      obtain ⟨c00, _⟩ := hq 0 hl0
      have hspot : spot = none := by simpa [Addr.add] using World.cell?_spot c00
      subst hspot
      refine ⟨b, off, rfl, by have := block_lt_of_cell c00; simpa [Addr.add] using this, fun i hi => ?_⟩
      have hi' : i < len := by simpa using hi
      obtain ⟨d0, d1, d2, d3, _⟩ := hq i hi'
      simp only [add_none, ← Nat.add_assoc] at d0 d1 d2 d3
      have e : ((List.range len).map q)[i] = q i := by simp
      rw [e]
      exact ⟨d0, d1, d2, d3⟩
theorem loc_open {H : Type} {enc : TypeId × Value → H} {W : World} {r : Reach} {b0 : Nat} {v : Value} {d : DataW H} {p : List MemPlace} (hv : Value.okWide Try.prog W r b0 24 v) (h : DataW.Trod enc Try.prog W 0 (fun _ => true) true 24 v d p) :
    ∃ t : Lc, v = .agg #[.int .i64 t.1, .int .i64 t.2] ∧ FitL t := by
  obtain ⟨v0, v1, y0, y1, n, rfl, rfl, rfl, h0, h1⟩ := Joins.open_agg2 Try.underlying24 (by kernel_rfl) (by kernel_rfl) hv h
  obtain ⟨n0, e0, _, w0⟩ := DataW.trod_int Try.underlying3 h0
  obtain ⟨n1, e1, _, w1⟩ := DataW.trod_int Try.underlying3 h1
  simp only [List.cons.injEq, and_true] at e0 e1
  subst e0 e1
  exact ⟨(n0, n1), rfl, wf_fits w0, wf_fits w1⟩
end Go.Proofs.Ytdoiblknbpbhaaa
