import Derived.Test.YtplpgeocidllfaaOrH
import Derived.SizedLaws
import Derived.Deep.Slices
import Derived.OpenShut
import Derived.ChangeOld
import Derived.ChangeSlices
set_option linter.unusedVariables false
set_option linter.unusedSimpArgs false
namespace Go.Proofs.Ytplpgeocidllfaa
open Go.ChangeShapes Go.WideShapes Go.ChangeAt Go.RowKit Go.Maps

theorem wf_fits {a : Int} (h : (Lit.int .i64 a).wf = true) : Fits a := by
  have := bounds_i64 h
  exact this
/-- A slice of numbers that came in. -/
theorem ints_view {H : Type} {enc : TypeId × Value → H} {W : World} {fuel : Nat} {ao : Option Addr} {len cap : Nat} {x : DataW H × List MemPlace} (h : DataW.trod enc Try.prog W 0 (fun _ => true) true fuel 27 [.slice ao len cap] = some x) (hw : ∀ n ∈ x.1.weights Try.prog 27, n ≤ reachBytes) :
    ∃ T : List Int, len = T.length ∧ Ints W ao cap T ∧ (ao = none → cap = 0) ∧ len ≤ 17592186043904 := by
  have b5 : Try.prog.bytesOf 3 = 8 := by kernel_rfl
  rcases open_ints Try.underlying27 Try.underlying3 (by kernel_rfl) h with ⟨h0, _⟩ | ⟨a, l, c, zs, e, _, h2, h3, h4, rfl, h5, h6⟩
  · cases h0
    exact ⟨[], rfl, ⟨by simp, by omega, fun h => absurd rfl h⟩, fun _ => rfl, by omega⟩
  · cases e
    simp only [if_true] at h4
    have hl : (zs.take len).length = len := by simp; omega
    refine ⟨zs.take len, hl.symm, ⟨by omega, by have := h3; unfold maxLen at this; omega, fun hne => ?_⟩, fun h => (by cases h), ?_⟩
    · have hl0 : 0 < len := by
        rcases Nat.eq_zero_or_pos len with h | h
        · subst h; simp at hne
        · exact h
      obtain ⟨b, off, spot⟩ := a
      have hspot : spot = none := by simpa [Addr.add] using World.cell?_spot (h5 0 (by omega))
      subst hspot
      refine ⟨b, off, rfl, by have := block_lt_of_cell (h5 0 (by omega)); simpa [Addr.add] using this, fun i hi => ?_⟩
      have hi' : i < zs.length := by rw [hl] at hi; omega
      have := h5 i hi'
      rw [add_none] at this
      rw [this]
      simp [hi']
    · have := hw (len * 8 + (cap - len) * 8) (by simp [DataW.weights, Try.underlying27, b5, lits, h4, Nat.add_mul, Nat.min_eq_left h2])
      unfold reachBytes at this
      omega
theorem ints_slice {H : Type} {enc : TypeId × Value → H} {W : World} {fuel : Nat} {v : Value} {x : DataW H × List MemPlace} (h : DataW.trod enc Try.prog W 0 (fun _ => true) true fuel 27 [v] = some x) : ∃ (ao : Option Addr) (cap len : Nat), v = .slice ao len cap := by
  rcases open_ints Try.underlying27 Try.underlying3 (by kernel_rfl) h with ⟨h0, _⟩ | ⟨a, l, c, zs, e, _⟩
  · simp only [List.cons.injEq, and_true] at h0
    exact ⟨none, 0, 0, h0⟩
  · simp only [List.cons.injEq, and_true] at e
    exact ⟨some a, c, l, e⟩
theorem own : ownKnob Try.prog.godebug = none := by kernel_rfl
theorem laidOut : laidOutB Try.prog = true := by kernel_rfl
theorem below_same {W w' : World} (h : Below W.heap.size W w') {p : MemPlace} (hp : p.block < W.heap.size) : W.sameAt w' p := by
  cases p with
  | cell b o => exact World.cell?_of_block (w := W) (h.block _ hp)
  | map b => exact h.block _ hp
/-- The rows' slices: where one has no place it has no room. -/
def RZ (w : World) (ao : Option Addr) (n : Nat) : Prop := ∀ b o i m c, ao = some ⟨b, o, none⟩ → i < n → w.cell? ⟨b, o + i, none⟩ = some (.slice none m c) → c = 0
theorem weights_all {H : Type} (P : Program) (e : TypeId) : ∀ (l : List (DataW H)) (d : DataW H), d ∈ l → ∀ n ∈ d.weights P e, n ∈ DataW.weightsAll P e l
  | d' :: l, d, hd, n, hn => by
    simp only [DataW.weightsAll, List.mem_append]
    rcases List.mem_cons.1 hd with rfl | hd
    · exact .inl hn
    · exact .inr (weights_all P e l d hd n hn)
/-- A list of lists of numbers that came in. -/
theorem irow_view {H : Type} {enc : TypeId × Value → H} {W : World} {fuel : Nat} {ao : Option Addr} {len cap : Nat} {x : DataW H × List MemPlace} (h : DataW.trod enc Try.prog W 0 (fun _ => true) true fuel 22 [.slice ao len cap] = some x) (hw : ∀ n ∈ x.1.weights Try.prog 22, n ≤ reachBytes) :
    ∃ Ls : List (List Int), len = Ls.length ∧ IRow W ao cap Ls ∧ RZ W ao len ∧ (∀ l ∈ Ls, l.length ≤ 17592186043904) ∧ len ≤ 17592186043904 := by
  have b5 : Try.prog.bytesOf 27 = 24 := by kernel_rfl
  rcases Deep.open_slice1 Try.underlying22 (by kernel_rfl) h with ⟨h0, _⟩ | ⟨a, len', cap', m, n, V, D, Pl, e, _, hl, hm, hmm, rfl, hx⟩
  · cases h0
    exact ⟨[], rfl, ⟨by simp, by omega, fun h => absurd rfl h⟩, fun b o i m c e => (by cases e), by simp, by omega⟩
  · simp only [List.cons.injEq, Value.slice.injEq, and_true] at e
    obtain ⟨rfl, rfl, rfl⟩ := e
    have hml : len ≤ m := by rw [hmm]; simp; exact hl
    have hwl : len ≤ 17592186043904 := by
      simp only [DataW.weights, Try.underlying22, b5] at hw
      have := hw _ (List.mem_cons_self)
      simp [reachBytes] at this
      omega
    have hwr : ∀ i, i < len → ∀ k ∈ (D i).weights Try.prog 27, k ≤ reachBytes := fun i hi k hk => by
      refine hw k ?_
      simp only [DataW.weights, Try.underlying22, List.mem_cons, List.mem_append]
      refine .inr (.inl (weights_all _ _ _ (D i) ?_ k hk))
      exact List.mem_map.2 ⟨i, List.mem_range.2 hi, rfl⟩
    have each : ∀ i, i < len → ∃ q : Option Addr × Nat × List Int, W.cell? (a.add i) = some (.slice q.1 q.2.2.length q.2.1) ∧ Ints W q.1 q.2.1 q.2.2 ∧ (q.1 = none → q.2.1 = 0) ∧ q.2.2.length ≤ 17592186043904 := by
      intro i hi
      obtain ⟨h1, h2⟩ := hx i (by omega)
      obtain ⟨b, c, T, hv⟩ := ints_slice h2
      rw [hv] at h1 h2
      obtain ⟨T2, e1, h3, h4, h5⟩ := ints_view h2 (hwr i hi)
      exact ⟨(b, c, T2), by rw [h1, e1], h3, h4, by simp only; omega⟩
    haveI : Inhabited (Option Addr × Nat × List Int) := ⟨(none, 0, [])⟩
    obtain ⟨q, hq⟩ := Deep.choose_lt each
    refine ⟨(List.range len).map fun i => (q i).2.2, by simp, ⟨by simpa using hl, by unfold maxLen at hm; omega, fun hne => ?_⟩, fun b o i m' c' e hi hc => ?_, fun l hl => ?_, hwl⟩
    · have h0 : 0 < len := by
        rcases Nat.eq_zero_or_pos len with h | h
        · subst h; simp at hne
        · exact h
      obtain ⟨b, off, spot⟩ := a
      have hspot : spot = none := by simpa [Addr.add] using World.cell?_spot (hq 0 h0).1
      subst hspot
      refine ⟨b, off, rfl, by have := block_lt_of_cell (hq 0 h0).1; simpa [Addr.add] using this, fun i hi => ?_⟩
      have hi' : i < len := by simpa using hi
      have h1 := (hq i hi').1
      rw [add_none] at h1
      refine ⟨(q i).1, (q i).2.1, by rw [h1]; simp, by simpa using (hq i hi').2.1⟩
    · cases e
      have h1 := hq i hi
      rw [add_none, hc] at h1
      have h2 := Option.some.inj h1.1
      injection h2 with e1 e2 e3
      rw [e3]
      exact h1.2.2.1 e1.symm
    · simp only [List.mem_map, List.mem_range] at hl
      obtain ⟨i, hi, rfl⟩ := hl
      exact (hq i hi).2.2.2
end Go.Proofs.Ytplpgeocidllfaa
