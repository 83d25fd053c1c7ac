import Derived.Test.YthjjdfiaikibaabHpC
set_option linter.unusedVariables false
set_option linter.unusedSimpArgs false
namespace Go.Proofs.Ythjjdfiaikibaab
open Go.ChangeShapes Go.WideShapes Go.ChangeAt Go.RowKit Go.Maps

/-- Numbers in block b from o on. -/
structure AtI (w : World) (b o : Nat) (M : List Int) : Prop where
  lt : b < w.heap.size
  cell : ∀ i (h : i < M.length), w.cell? ⟨b, o + i, none⟩ = some (.int .i64 M[i])
/-- A slice of numbers that holds L. -/
structure Ints (w : World) (ao : Option Addr) (cap : Nat) (L : List Int) : Prop where
  le : L.length ≤ cap
  mx : cap ≤ 9223372036854775807
  out : L ≠ [] → ∃ b o, ao = some ⟨b, o, none⟩ ∧ AtI w b o L
theorem AtI.below {w w' b o M K} (h : AtI w b o M) (hb : Below K w w') (hK : b < K) : AtI w' b o M :=
  ⟨by have := hb.size; have := h.lt; omega, fun i hi => by rw [hb.cell (p := ⟨b, o + i, none⟩) hK]; exact h.cell i hi⟩
theorem Ints.below {w w' ao cap L K} (h : Ints w ao cap L) (hb : Below K w w') (hK : w.heap.size ≤ K) : Ints w' ao cap L :=
  ⟨h.le, h.mx, fun hn => by
    obtain ⟨b, o, e, hA⟩ := h.out hn
    exact ⟨b, o, e, hA.below hb (Nat.lt_of_lt_of_le hA.lt hK)⟩⟩
theorem AtI.drop {w b o M} (h : AtI w b o M) (k : Nat) : AtI w b (o + k) (M.drop k) := by
  refine ⟨h.lt, fun i hi => ?_⟩
  have hi' : k + i < M.length := by simp at hi; omega
  have := h.cell (k + i) hi'
  rw [Nat.add_assoc, this]; simp
theorem OwnI.ints {w B v n L} (h : OwnI w B v n L) : ∃ ao c, v = .slice ao n c ∧ Ints w ao c L := by
  obtain ⟨ao, c, e, h1, h2⟩ := own_slice h.out
  subst e
  refine ⟨ao, c, rfl, by rw [← h.len]; exact h1, h2, fun hn => ?_⟩
  have hp : 0 < n := by rw [h.len]; exact List.length_pos_iff.2 hn
  obtain ⟨g, c', e, _, _, hB, hg⟩ := own_some h.out hp
  cases e
  refine ⟨g, 0, rfl, hg, fun i hi => ?_⟩
  have := own_cell h.out i (by rw [h.len]; omega)
  rw [Nat.zero_add, this]
  simp [ivs, hi]

theorem within_any (w : World) (ao : Option Addr) (n c : Nat) (i : Int) : Calls Try.prog 22 #[.slice ao n c, .int .i64 i] w fun e w' => e = .returned (.bool (decide (0 ≤ i ∧ i < n))) ∧ w' = w := by
  by_cases h0 : 0 ≤ i
  · by_cases h1 : i < n
    · go_enter Try.func22, Try.ntmps22
      go_wp2
      go_ret
      exact ⟨by simp [h0, h1], rfl⟩
    · go_enter Try.func22, Try.ntmps22
      go_wp2
      go_ret
      exact ⟨by simp [h0, h1], rfl⟩
  · go_enter Try.func22, Try.ntmps22
    go_wp2
    go_ret
    exact ⟨by simp; omega, rfl⟩
theorem withins_any (w : World) (ao : Option Addr) (n c : Nat) (i : Int) : Calls Try.prog 27 #[.slice ao n c, .int .i64 i] w fun e w' => e = .returned (.bool (decide (0 ≤ i ∧ i < n))) ∧ w' = w := by
  by_cases h0 : 0 ≤ i
  · by_cases h1 : i < n
    · go_enter Try.func27, Try.ntmps27
      go_wp2
      go_ret
      exact ⟨by simp [h0, h1], rfl⟩
    · go_enter Try.func27, Try.ntmps27
      go_wp2
      go_ret
      exact ⟨by simp [h0, h1], rfl⟩
  · go_enter Try.func27, Try.ntmps27
    go_wp2
    go_ret
    exact ⟨by simp; omega, rfl⟩
/-- Along the way up: what Over tells. -/
def ovr (T : List Int) (a : Int) : Nat → Int → Bool → Bool
  | 0, _, _ => false
  | k + 1, b, m => if 0 ≤ T.getD b.toNat 0 ∧ T.getD b.toNat 0 < T.length then ovr T a k (T.getD b.toNat 0) (m || decide (a = b)) else (m || decide (a = b))
def overP (T : List Int) (a b : Int) : Bool := if (0 ≤ a ∧ a < T.length) ∧ (0 ≤ b ∧ b < T.length) then ovr T a T.length b false else false

set_option maxHeartbeats 1000000 in
theorem over_any (w : World) (ao : Option Addr) (n c : Nat) (T : List Int) (hn : n = T.length) (h : Ints w ao c T) (a b : Int) : Calls Try.prog 8 #[.slice ao n c, .int .i64 a, .int .i64 b] w fun e w' => e = .returned (.bool (overP T a b)) ∧ w' = w := by
  have hmx : n ≤ 9223372036854775807 := by have := h.le; have := h.mx; omega
  obtain ⟨R, hR⟩ : ∃ R, R = overP T a b := ⟨_, rfl⟩
  rw [← hR]
  have HR : Hid (R = overP T a b) := hR
  have HN : Hid (n = T.length) := hn
  clear hR
  by_cases ha : 0 ≤ a ∧ a < n
  · by_cases hb : 0 ≤ b ∧ b < n
    · have hpos : 0 < n := by omega
      obtain ⟨g, o, rfl, hA⟩ := h.out (by intro e; rw [e] at hn; simp at hn; omega)
      have hcell : ∀ k : Int, 0 ≤ k → k < n → w.cell? ⟨g, o + k.toNat, none⟩ = some (.int .i64 (T.getD k.toNat 0)) := fun k h0 h1 => by
        have hk : k.toNat < T.length := by omega
        rw [hA.cell k.toNat hk]; simp [hk]
      have HC : Hid (∀ k : Int, 0 ≤ k → k < n → w.cell? ⟨g, o + k.toNat, none⟩ = some (.int .i64 (T.getD k.toNat 0))) := hcell
      have hov : Hid (ovr T a (n - 0) b false = R) := by
        have := HR.out
        rw [this]; simp only [overP]
        rw [if_pos (by rw [← HN.out]; exact ⟨ha, hb⟩), Nat.sub_zero, HN.out]
        exact rfl
      clear h hA hcell hn
      go_enter Try.func8, Try.ntmps8
      go_wp2_with fail
      refine (within_any w _ n c a).mono ?_
      rintro e w' ⟨rfl, rfl⟩
      rw [show (decide (0 ≤ a ∧ a < (n : Int))) = true from decide_eq_true ha]
      go_wp2_with fail
      refine (within_any w' _ n c b).mono ?_
      rintro e w'' ⟨rfl, rfl⟩
      rw [show (decide (0 ≤ b ∧ b < (n : Int))) = true from decide_eq_true hb]
      go_wp2_with fail
      obtain ⟨b', rfl⟩ : ∃ b' : Nat, b = (b' : Int) := ⟨b.toNat, by omega⟩
      go_loopw [2, 7, 20] (fun bv mv iv wr => ∃ (k x : Nat) (m : Bool), k ≤ n ∧ x < n ∧ bv = .int .i64 (x : Int) ∧ mv = .bool m ∧ iv = .int .i64 k ∧ wr = w'' ∧ Hid (ovr T a (n - k) x m = R)) (fun _ _ iv _ => n - (intOf iv).toNat)
      case atStart => exact ⟨0, b', false, by omega, by omega, rfl, rfl, rfl, rfl, hov⟩
      case round =>
        obtain ⟨k, x, m, hk, hx1, rfl, rfl, rfl, rfl, HO⟩ := hrel
        by_cases hlt : k < n
        · have hc := HC.out x (by omega) (by omega)
          rw [Int.toNat_natCast] at hc
          have hstep : Hid ((if 0 ≤ T.getD x 0 ∧ T.getD x 0 < n then ovr T a (n - (k + 1)) (T.getD x 0) (m || decide (a = x)) else (m || decide (a = x))) = R) := by
            have := HO.out
            rw [show n - k = (n - (k + 1)) + 1 by omega] at this
            rw [ovr, ← HN.out] at this
            exact this
          generalize T.getD x 0 = y at hc hstep
          have hm : (m = true) ∨ (m = false ∧ a = (x : Int)) ∨ (m = false ∧ ¬ a = (x : Int)) := by
            cases m <;> simp <;> omega
          have key : ∀ m2 : Bool, (m || decide (a = (x : Int))) = m2 → Hid ((if 0 ≤ y ∧ y < n then ovr T a (n - (k + 1)) y m2 else m2) = R) := fun m2 e => by rw [← e]; exact hstep
          clear hstep HO
          rcases hm with rfl | ⟨rfl, hax⟩ | ⟨rfl, hax⟩
          · have K := key true (by simp)
            clear key
            go_wp2_with fail
            refine (within_any _ _ n c y).mono ?_
            rintro e w3 ⟨rfl, rfl⟩
            by_cases hy : 0 ≤ y ∧ y < n
            · rw [show (decide (0 ≤ y ∧ y < (n : Int))) = true from decide_eq_true hy]
              have HS : Hid _ := (if_pos hy).symm.trans K.out
              clear K
              obtain ⟨y', rfl⟩ : ∃ y' : Nat, y = (y' : Int) := ⟨y.toNat, by omega⟩
              go_wp2_with fail
              go_roundw
              case rel => exact ⟨k + 1, y', true, by omega, by omega, rfl, (by first | rfl | simp [hax]), by go_num, by first | rfl | trivial, HS⟩
              case measure => simp [intOf]; omega
            · rw [show (decide (0 ≤ y ∧ y < (n : Int))) = false from decide_eq_false hy]
              have h2 := (if_neg hy).symm.trans K.out
              subst h2
              go_wp2_with fail
              go_ret
              exact ⟨rfl, rfl⟩
          · have K := key true (by simp [hax])
            clear key
            subst hax
            go_wp2_with fail
            refine (within_any _ _ n c y).mono ?_
            rintro e w3 ⟨rfl, rfl⟩
            by_cases hy : 0 ≤ y ∧ y < n
            · rw [show (decide (0 ≤ y ∧ y < (n : Int))) = true from decide_eq_true hy]
              have HS : Hid _ := (if_pos hy).symm.trans K.out
              clear K
              obtain ⟨y', rfl⟩ : ∃ y' : Nat, y = (y' : Int) := ⟨y.toNat, by omega⟩
              go_wp2_with fail
              go_roundw
              case rel => exact ⟨k + 1, y', true, by omega, by omega, rfl, (by first | rfl | simp [hax]), by go_num, by first | rfl | trivial, HS⟩
              case measure => simp [intOf]; omega
            · rw [show (decide (0 ≤ y ∧ y < (n : Int))) = false from decide_eq_false hy]
              have h2 := (if_neg hy).symm.trans K.out
              subst h2
              go_wp2_with fail
              go_ret
              exact ⟨rfl, rfl⟩
          · have K := key false (by simp [hax])
            clear key
            go_wp2_with fail
            refine (within_any _ _ n c y).mono ?_
            rintro e w3 ⟨rfl, rfl⟩
            by_cases hy : 0 ≤ y ∧ y < n
            · rw [show (decide (0 ≤ y ∧ y < (n : Int))) = true from decide_eq_true hy]
              have HS : Hid _ := (if_pos hy).symm.trans K.out
              clear K
              obtain ⟨y', rfl⟩ : ∃ y' : Nat, y = (y' : Int) := ⟨y.toNat, by omega⟩
              go_wp2_with fail
              go_roundw
              case rel => exact ⟨k + 1, y', false, by omega, by omega, rfl, (by first | rfl | simp [hax]), by go_num, by first | rfl | trivial, HS⟩
              case measure => simp [intOf]; omega
            · rw [show (decide (0 ≤ y ∧ y < (n : Int))) = false from decide_eq_false hy]
              have h2 := (if_neg hy).symm.trans K.out
              subst h2
              go_wp2_with fail
              go_ret
              exact ⟨by simp [Array.getD, hax], rfl⟩
        · have hkn : k = n := by omega
          subst hkn
          have h2 := HO.out
          rw [Nat.sub_self] at h2
          simp only [ovr] at h2
          subst h2
          go_wp2_with fail
          go_ret
          exact ⟨rfl, rfl⟩
    · have hf : R = false := by rw [HR.out]; simp only [overP]; rw [if_neg (by rw [← HN.out]; exact fun h => hb h.2)]
      subst hf
      clear h hn
      go_enter Try.func8, Try.ntmps8
      go_wp2_with fail
      refine (within_any w _ n c a).mono ?_
      rintro e w' ⟨rfl, rfl⟩
      rw [show (decide (0 ≤ a ∧ a < (n : Int))) = true from decide_eq_true ha]
      go_wp2_with fail
      refine (within_any w' _ n c b).mono ?_
      rintro e w'' ⟨rfl, rfl⟩
      rw [show (decide (0 ≤ b ∧ b < (n : Int))) = false from decide_eq_false hb]
      go_wp2_with fail
      go_ret
      exact ⟨rfl, rfl⟩
  · have hf : R = false := by rw [HR.out]; simp only [overP]; rw [if_neg (by rw [← HN.out]; exact fun h => ha h.1)]
    subst hf
    clear h hn
    go_enter Try.func8, Try.ntmps8
    go_wp2_with fail
    refine (within_any w _ n c a).mono ?_
    rintro e w' ⟨rfl, rfl⟩
    rw [show (decide (0 ≤ a ∧ a < (n : Int))) = false from decide_eq_false ha]
    go_wp2_with fail
    go_ret
    exact ⟨rfl, rfl⟩
end Go.Proofs.Ythjjdfiaikibaab
