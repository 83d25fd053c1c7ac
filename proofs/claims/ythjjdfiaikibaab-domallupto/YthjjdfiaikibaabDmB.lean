import Derived.Test.YthjjdfiaikibaabDmA
set_option linter.unusedVariables false
set_option linter.unusedSimpArgs false
namespace Go.Proofs.Ythjjdfiaikibaab
open Go.ChangeShapes Go.WideShapes Go.ChangeAt Go.RowKit Go.Maps

/-- A slice of slices of numbers. -/
structure IRow (w : World) (ao : Option Addr) (cap : Nat) (Ls : List (List Int)) : Prop where
  le : Ls.length ≤ cap
  mx : cap ≤ 9223372036854775807
  out : Ls ≠ [] → ∃ b o, ao = some ⟨b, o, none⟩ ∧ b < w.heap.size ∧ ∀ i (h : i < Ls.length), ∃ a' c', w.cell? ⟨b, o + i, none⟩ = some (.slice a' Ls[i].length c') ∧ Ints w a' c' Ls[i]
theorem IRow.below {w w' ao cap L K} (h : IRow w ao cap L) (hb : Below K w w') (hK : w.heap.size ≤ K) : IRow w' ao cap L :=
  ⟨h.le, h.mx, fun hn => by
    obtain ⟨b, o, e, h1, h2⟩ := h.out hn
    refine ⟨b, o, e, by have := hb.size; omega, fun i hi => ?_⟩
    obtain ⟨a', c', h3, h4⟩ := h2 i hi
    exact ⟨a', c', by rw [hb.cell (p := ⟨b, o + i, none⟩) (by show b < K; omega)]; exact h3, h4.below hb hK⟩⟩
def goodP (Ls : List (List Int)) : Bool := decide (0 < Ls.length) && Ls.all fun l => l.all fun x => decide (0 ≤ x ∧ x < Ls.length)
/-- The cells of a list of numbers that is not empty. -/
theorem Ints.at {w ao cap L} (h : Ints w ao cap L) {j : Nat} (hj : j < L.length) : ∃ b o, ao = some ⟨b, o, none⟩ ∧ w.cell? ⟨b, o + j, none⟩ = some (.int .i64 L[j]) := by
  obtain ⟨b, o, e, hA⟩ := h.out (by intro e; rw [e] at hj; simp at hj)
  exact ⟨b, o, e, hA.cell j hj⟩
theorem IRow.at {w ao cap L} (h : IRow w ao cap L) {j : Nat} (hj : j < L.length) : ∃ b o a' c', ao = some ⟨b, o, none⟩ ∧ w.cell? ⟨b, o + j, none⟩ = some (.slice a' L[j].length c') ∧ Ints w a' c' L[j] := by
  obtain ⟨b, o, e, _, hA⟩ := h.out (by intro e; rw [e] at hj; simp at hj)
  obtain ⟨a', c', h1, h2⟩ := hA j hj
  exact ⟨b, o, a', c', e, h1, h2⟩

set_option maxHeartbeats 1000000 in
theorem same_any (w : World) (a1 a2 : Option Addr) (c1 c2 n1 n2 : Nat) (L1 L2 : List Int) (hn1 : n1 = L1.length) (hn2 : n2 = L2.length) (h1 : Ints w a1 c1 L1) (h2 : Ints w a2 c2 L2) :
    Calls Try.prog 7 #[.slice a1 n1 c1, .slice a2 n2 c2] w fun e w' => e = .returned (.bool (decide (L1 = L2))) ∧ Below w.heap.size w w' := by
  have b1 : n1 ≤ 9223372036854775807 := by have := h1.le; have := h1.mx; omega
  have b2 : n2 ≤ 9223372036854775807 := by have := h2.le; have := h2.mx; omega
  have HN1 : Hid (n1 = L1.length) := hn1
  have HN2 : Hid (n2 = L2.length) := hn2
  clear hn1 hn2
  obtain ⟨R, hR⟩ : ∃ R, R = decide (L1 = L2) := ⟨_, rfl⟩
  rw [← hR]
  have HR : Hid (R = decide (L1 = L2)) := hR
  have H1 : Hid (Ints w a1 c1 L1) := h1
  have H2 : Hid (Ints w a2 c2 L2) := h2
  clear hR h1 h2
  by_cases hne : n1 = n2
  · subst hne
    go_enter Try.func7, Try.ntmps7
    go_wp2_with fail
    go_loopw [5] (fun v wr => ∃ j : Nat, j ≤ n1 ∧ v = .int .i64 j ∧ Hid (Below w.heap.size w wr) ∧ Hid (L1.take j = L2.take j)) (fun v _ => n1 - (intOf v).toNat)
    case atStart => exact ⟨0, by omega, rfl, Below.refl _ _, rfl⟩
    case round =>
      obtain ⟨j, hj, rfl, HB, HT⟩ := hrel
      by_cases hlt : j < n1
      · have hj1 : j < L1.length := by have := HN1.out; omega
        have hj2 : j < L2.length := by have := HN2.out; omega
        obtain ⟨g1, o1, rfl, k1⟩ := (H1.out.below HB.out (Nat.le_refl _)).at hj1
        obtain ⟨g2, o2, rfl, k2⟩ := (H2.out.below HB.out (Nat.le_refl _)).at hj2
        obtain ⟨x, hx⟩ : ∃ x, x = L1[j] := ⟨_, rfl⟩
        obtain ⟨y, hy⟩ : ∃ y, y = L2[j] := ⟨_, rfl⟩
        rw [← hx] at k1
        rw [← hy] at k2
        have HX : Hid (x = L1[j]) := hx
        have HY : Hid (y = L2[j]) := hy
        clear hx hy
        by_cases hxy : x = y
        · subst hxy
          go_wp2_with fail
          go_quiet (fail)
          go_wp2_with fail
          go_roundw
          case rel =>
            refine ⟨j + 1, by omega, by go_num, ?_, ?_⟩
            · first | exact HB.out | exact HB.out.drew | exact below_drewN HB.out _
            · show _ = _
              rw [List.take_add_one, List.take_add_one, HT.out]
              simp [hj1, hj2, ← HX.out, ← HY.out]
          case measure => simp [intOf]; omega
        · have hf : R = false := by
            rw [HR.out]
            refine decide_eq_false fun e => hxy ?_
            rw [HX.out, HY.out]
            simp [e]
          subst hf
          go_wp2_with fail
          go_quiet (fail)
          go_wp2_with fail
          go_ret
          exact ⟨rfl, by first | exact HB.out | exact HB.out.drew | exact below_drewN HB.out _⟩
      · have ht : R = true := by
          rw [HR.out]
          refine decide_eq_true ?_
          have := HT.out
          rwa [List.take_of_length_le (by have := HN1.out; omega), List.take_of_length_le (by have := HN2.out; omega)] at this
        subst ht
        go_wp2_with fail
        go_ret
        exact ⟨rfl, HB.out⟩
  · have hf : R = false := by
      rw [HR.out]
      refine decide_eq_false fun e => hne ?_
      rw [HN1.out, HN2.out, e]
    subst hf
    go_enter Try.func7, Try.ntmps7
    go_wp2_with fail
    go_ret
    exact ⟨rfl, Below.refl _ _⟩
end Go.Proofs.Ythjjdfiaikibaab
