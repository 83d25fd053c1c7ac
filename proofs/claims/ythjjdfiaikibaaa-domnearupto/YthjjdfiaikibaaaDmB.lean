import Derived.Test.YthjjdfiaikibaaaDmA
set_option linter.unusedVariables false
set_option linter.unusedSimpArgs false
namespace Go.Proofs.Ythjjdfiaikibaaa
open Go.ChangeShapes Go.WideShapes Go.ChangeAt Go.RowKit Go.Maps

/-- A slice of slices of numbers. -/
structure IRow (w : World) (ao : Option Addr) (cap : Nat) (Ls : List (List Int)) : Prop where
  le : Ls.length ≤ cap
  mx : cap ≤ 9223372036854775807
  out : Ls ≠ [] → ∃ b o, ao = some ⟨b, o, none⟩ ∧ b < w.heap.size ∧ ∀ i (h : i < Ls.length), ∃ a' c', w.cell? ⟨b, o + i, none⟩ = some (.slice a' Ls[i].length c') ∧ Ints w a' c' Ls[i]
theorem IRow.below {w w' ao cap L K} (h : IRow w ao cap L) (hb : Below K w w') (hK : w.heap.size ≤ K) : IRow w' ao cap L :=
  ⟨h.le, h.mx, fun hn => by
    obtain ⟨b, o, e, h1, h2⟩ := h.out hn
    refine ⟨b, o, e, by have := hb.size; omega, fun i hi => ?_⟩
    obtain ⟨a', c', h3, h4⟩ := h2 i hi
    exact ⟨a', c', by rw [hb.cell (p := ⟨b, o + i, none⟩) (by show b < K; omega)]; exact h3, h4.below hb hK⟩⟩
def goodP (Ls : List (List Int)) : Bool := decide (0 < Ls.length) && Ls.all fun l => l.all fun x => decide (0 ≤ x ∧ x < Ls.length)
/-- The cells of a list of numbers that is not empty. -/
theorem Ints.at {w ao cap L} (h : Ints w ao cap L) {j : Nat} (hj : j < L.length) : ∃ b o, ao = some ⟨b, o, none⟩ ∧ w.cell? ⟨b, o + j, none⟩ = some (.int .i64 L[j]) := by
  obtain ⟨b, o, e, hA⟩ := h.out (by intro e; rw [e] at hj; simp at hj)
  exact ⟨b, o, e, hA.cell j hj⟩
theorem IRow.at {w ao cap L} (h : IRow w ao cap L) {j : Nat} (hj : j < L.length) : ∃ b o a' c', ao = some ⟨b, o, none⟩ ∧ w.cell? ⟨b, o + j, none⟩ = some (.slice a' L[j].length c') ∧ Ints w a' c' L[j] := by
  obtain ⟨b, o, e, _, hA⟩ := h.out (by intro e; rw [e] at hj; simp at hj)
  obtain ⟨a', c', h1, h2⟩ := hA j hj
  exact ⟨b, o, a', c', e, h1, h2⟩

set_option maxHeartbeats 1000000 in
theorem refOver_any (w : World) (ao : Option Addr) (n c : Nat) (T : List Int) (hn : n = T.length) (h : Ints w ao c T) (a b : Int) : Calls Try.prog 20 #[.slice ao n c, .int .i64 a, .int .i64 b] w fun e w' => e = .returned (.bool (overP T a b)) ∧ w' = w := by
  have hmx : n ≤ 9223372036854775807 := by have := h.le; have := h.mx; omega
  obtain ⟨R, hR⟩ : ∃ R, R = overP T a b := ⟨_, rfl⟩
  rw [← hR]
  have HR : Hid (R = overP T a b) := hR
  have HN : Hid (n = T.length) := hn
  clear hR
  by_cases hab : (0 ≤ a ∧ a < n) ∧ (0 ≤ b ∧ b < n)
  · obtain ⟨⟨ha0, ha1⟩, hb0, hb1⟩ := hab
    have hpos : 0 < n := by omega
    obtain ⟨g, o, rfl, hA⟩ := h.out (by intro e; rw [e] at hn; simp at hn; omega)
    have hcell : ∀ k : Nat, k < n → w.cell? ⟨g, o + k, none⟩ = some (.int .i64 (T.getD k 0)) := fun k h1 => by
      have hk : k < T.length := by omega
      rw [hA.cell k hk]; simp [hk]
    have HC : Hid (∀ k : Nat, k < n → w.cell? ⟨g, o + k, none⟩ = some (.int .i64 (T.getD k 0))) := hcell
    have hov : Hid (ovr T a (n - 0) b false = R) := by
      have := HR.out
      rw [this]; simp only [overP]
      rw [if_pos (by rw [← HN.out]; exact ⟨⟨ha0, ha1⟩, hb0, hb1⟩), Nat.sub_zero, HN.out]
      exact rfl
    have na0 : ¬ a < 0 := by omega
    have na1 : ¬ (n : Int) ≤ a := by omega
    have nb0 : ¬ b < 0 := by omega
    have nb1 : ¬ (n : Int) ≤ b := by omega
    have HAB : Hid (0 ≤ b ∧ b < n) := ⟨hb0, hb1⟩
    clear h hA hcell hn HR ha0 ha1 hb0 hb1
    go_enter Try.func20, Try.ntmps20
    go_wp2_with fail
    go_loopw [2, 8, 9] (fun bv mv iv wr => ∃ (k x : Nat) (m : Bool), k ≤ n ∧ x < n ∧ bv = .int .i64 (x : Int) ∧ mv = .bool m ∧ iv = .int .i64 k ∧ wr = w ∧ Hid (ovr T a (n - k) x m = R)) (fun _ _ iv _ => n - (intOf iv).toNat)
    case atStart => exact ⟨0, b.toNat, false, by omega, by have := HAB.out; omega, by rw [Int.toNat_of_nonneg HAB.out.1], rfl, rfl, rfl, by rw [Int.toNat_of_nonneg HAB.out.1]; exact hov⟩
    case round =>
      obtain ⟨k, x, m, hk, hx1, rfl, rfl, rfl, rfl, HO⟩ := hrel
      by_cases hlt : k < n
      · have hc := HC.out x (by omega)
        have hstep : Hid ((if 0 ≤ T.getD x 0 ∧ T.getD x 0 < n then ovr T a (n - (k + 1)) (T.getD x 0) (m || decide (a = x)) else (m || decide (a = x))) = R) := by
          have := HO.out
          rw [show n - k = (n - (k + 1)) + 1 by omega] at this
          rw [ovr, ← HN.out] at this
          exact this
        generalize T.getD x 0 = y at hc hstep
        have key : ∀ m2 : Bool, (m || decide (a = (x : Int))) = m2 → Hid ((if 0 ≤ y ∧ y < n then ovr T a (n - (k + 1)) y m2 else m2) = R) := fun m2 e => by rw [← e]; exact hstep
        clear hstep HO hov
        by_cases hax : (x : Int) = a
        · have K := key true (by simp [hax])
          clear key
          subst hax
          by_cases hy : 0 ≤ y ∧ y < n
          · have HS : Hid _ := (if_pos hy).symm.trans K.out
            clear K
            have hy0 : ¬ y < 0 := by omega
            have hy1 : ¬ (n : Int) ≤ y := by omega
            have HY : Hid (0 ≤ y ∧ y < n) := hy
            clear hy
            go_wp2_with fail
            go_roundw
            case rel => exact ⟨k + 1, y.toNat, true, by omega, by have := HY.out; omega, by rw [Int.toNat_of_nonneg HY.out.1], rfl, by go_num, by first | rfl | trivial, by rw [Int.toNat_of_nonneg HY.out.1]; exact HS⟩
            case measure => simp [intOf]; omega
          · have h2 := (if_neg hy).symm.trans K.out
            subst h2
            clear K
            by_cases hy0 : y < 0
            · go_wp2_with fail
              go_ret
              exact ⟨rfl, rfl⟩
            · have hy1 : (n : Int) ≤ y := by omega
              go_wp2_with fail
              go_ret
              exact ⟨rfl, rfl⟩
        · have K := key m (by simp; intro e; exact absurd e.symm hax)
          clear key
          by_cases hy : 0 ≤ y ∧ y < n
          · have HS : Hid _ := (if_pos hy).symm.trans K.out
            clear K
            have hy0 : ¬ y < 0 := by omega
            have hy1 : ¬ (n : Int) ≤ y := by omega
            have HY : Hid (0 ≤ y ∧ y < n) := hy
            clear hy
            go_wp2_with fail
            go_roundw
            case rel => exact ⟨k + 1, y.toNat, m, by omega, by have := HY.out; omega, by rw [Int.toNat_of_nonneg HY.out.1], rfl, by go_num, by first | rfl | trivial, by rw [Int.toNat_of_nonneg HY.out.1]; exact HS⟩
            case measure => simp [intOf]; omega
          · have h2 := (if_neg hy).symm.trans K.out
            subst h2
            clear K
            by_cases hy0 : y < 0
            · go_wp2_with fail
              go_ret
              exact ⟨rfl, rfl⟩
            · have hy1 : (n : Int) ≤ y := by omega
              go_wp2_with fail
              go_ret
              exact ⟨rfl, rfl⟩
      · have hkn : k = n := by omega
        subst hkn
        have h2 := HO.out
        rw [Nat.sub_self] at h2
        simp only [ovr] at h2
        subst h2
        go_wp2_with fail
        go_ret
        exact ⟨rfl, rfl⟩
  · have hf : R = false := by rw [HR.out]; simp only [overP]; rw [if_neg (by rw [← HN.out]; exact hab)]
    subst hf
    have hc : a < 0 ∨ (0 ≤ a ∧ n ≤ a) ∨ (0 ≤ a ∧ a < n ∧ b < 0) ∨ (0 ≤ a ∧ a < n ∧ 0 ≤ b ∧ n ≤ b) := by omega
    clear h hn HR hab
    rcases hc with h1 | ⟨h1, h2⟩ | ⟨h1, h2, h3⟩ | ⟨h1, h2, h3, h4⟩
    · go_enter Try.func20, Try.ntmps20
      go_wp2_with fail
      go_ret
      exact ⟨rfl, rfl⟩
    · go_enter Try.func20, Try.ntmps20
      go_wp2_with fail
      go_ret
      exact ⟨rfl, rfl⟩
    · go_enter Try.func20, Try.ntmps20
      go_wp2_with fail
      go_ret
      exact ⟨rfl, rfl⟩
    · go_enter Try.func20, Try.ntmps20
      go_wp2_with fail
      go_ret
      exact ⟨rfl, rfl⟩

set_option maxHeartbeats 1000000 in
theorem same_any (w : World) (a1 a2 : Option Addr) (c1 c2 n1 n2 : Nat) (L1 L2 : List Int) (hn1 : n1 = L1.length) (hn2 : n2 = L2.length) (h1 : Ints w a1 c1 L1) (h2 : Ints w a2 c2 L2) :
    Calls Try.prog 17 #[.slice a1 n1 c1, .slice a2 n2 c2] w fun e w' => e = .returned (.bool (decide (L1 = L2))) ∧ Below w.heap.size w w' := by
  have b1 : n1 ≤ 9223372036854775807 := by have := h1.le; have := h1.mx; omega
  have b2 : n2 ≤ 9223372036854775807 := by have := h2.le; have := h2.mx; omega
  have HN1 : Hid (n1 = L1.length) := hn1
  have HN2 : Hid (n2 = L2.length) := hn2
  clear hn1 hn2
  obtain ⟨R, hR⟩ : ∃ R, R = decide (L1 = L2) := ⟨_, rfl⟩
  rw [← hR]
  have HR : Hid (R = decide (L1 = L2)) := hR
  have H1 : Hid (Ints w a1 c1 L1) := h1
  have H2 : Hid (Ints w a2 c2 L2) := h2
  clear hR h1 h2
  by_cases hne : n1 = n2
  · subst hne
    go_enter Try.func17, Try.ntmps17
    go_wp2_with fail
    go_loopw [5] (fun v wr => ∃ j : Nat, j ≤ n1 ∧ v = .int .i64 j ∧ Hid (Below w.heap.size w wr) ∧ Hid (L1.take j = L2.take j)) (fun v _ => n1 - (intOf v).toNat)
    case atStart => exact ⟨0, by omega, rfl, Below.refl _ _, rfl⟩
    case round =>
      obtain ⟨j, hj, rfl, HB, HT⟩ := hrel
      by_cases hlt : j < n1
      · have hj1 : j < L1.length := by have := HN1.out; omega
        have hj2 : j < L2.length := by have := HN2.out; omega
        obtain ⟨g1, o1, rfl, k1⟩ := (H1.out.below HB.out (Nat.le_refl _)).at hj1
        obtain ⟨g2, o2, rfl, k2⟩ := (H2.out.below HB.out (Nat.le_refl _)).at hj2
        obtain ⟨x, hx⟩ : ∃ x, x = L1[j] := ⟨_, rfl⟩
        obtain ⟨y, hy⟩ : ∃ y, y = L2[j] := ⟨_, rfl⟩
        rw [← hx] at k1
        rw [← hy] at k2
        have HX : Hid (x = L1[j]) := hx
        have HY : Hid (y = L2[j]) := hy
        clear hx hy
        by_cases hxy : x = y
        · subst hxy
          go_wp2_with fail
          go_quiet (fail)
          go_wp2_with fail
          go_roundw
          case rel =>
            refine ⟨j + 1, by omega, by go_num, ?_, ?_⟩
            · first | exact HB.out | exact HB.out.drew | exact below_drewN HB.out _
            · show _ = _
              rw [List.take_add_one, List.take_add_one, HT.out]
              simp [hj1, hj2, ← HX.out, ← HY.out]
          case measure => simp [intOf]; omega
        · have hf : R = false := by
            rw [HR.out]
            refine decide_eq_false fun e => hxy ?_
            rw [HX.out, HY.out]
            simp [e]
          subst hf
          go_wp2_with fail
          go_quiet (fail)
          go_wp2_with fail
          go_ret
          exact ⟨rfl, by first | exact HB.out | exact HB.out.drew | exact below_drewN HB.out _⟩
      · have ht : R = true := by
          rw [HR.out]
          refine decide_eq_true ?_
          have := HT.out
          rwa [List.take_of_length_le (by have := HN1.out; omega), List.take_of_length_le (by have := HN2.out; omega)] at this
        subst ht
        go_wp2_with fail
        go_ret
        exact ⟨rfl, HB.out⟩
  · have hf : R = false := by
      rw [HR.out]
      refine decide_eq_false fun e => hne ?_
      rw [HN1.out, HN2.out, e]
    subst hf
    go_enter Try.func17, Try.ntmps17
    go_wp2_with fail
    go_ret
    exact ⟨rfl, Below.refl _ _⟩
end Go.Proofs.Ythjjdfiaikibaaa
