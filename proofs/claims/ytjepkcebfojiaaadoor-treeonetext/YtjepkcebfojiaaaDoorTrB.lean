import Derived.Test.YtjepkcebfojiaaaDoorTrA
import Derived.Test.YtjepkcebfojiaaaDoorLyA
set_option linter.unusedVariables false
set_option linter.unusedSimpArgs false
namespace Go.Proofs.YtjepkcebfojiaaaDoor
open Go.ChangeShapes Go.WideShapes Go.ChangeAt Go.RowKit

/-- Numbers in block b from o on. -/
structure AtI (w : World) (b o : Nat) (M : List Int) : Prop where
  lt : b < w.heap.size
  cell : ∀ i (h : i < M.length), w.cell? ⟨b, o + i, none⟩ = some (.int .i64 M[i])
/-- A slice of numbers that holds L. -/
structure Ints (w : World) (ao : Option Addr) (cap : Nat) (L : List Int) : Prop where
  le : L.length ≤ cap
  mx : cap ≤ 9223372036854775807
  out : L ≠ [] → ∃ b o, ao = some ⟨b, o, none⟩ ∧ AtI w b o L

theorem AtI.below {w w' b o M K} (h : AtI w b o M) (hb : Below K w w') (hK : b < K) : AtI w' b o M :=
  ⟨by have := hb.size; have := h.lt; omega, fun i hi => by rw [hb.cell (p := ⟨b, o + i, none⟩) hK]; exact h.cell i hi⟩
theorem Ints.below {w w' ao cap L K} (h : Ints w ao cap L) (hb : Below K w w') (hK : w.heap.size ≤ K) : Ints w' ao cap L :=
  ⟨h.le, h.mx, fun hn => by
    obtain ⟨b, o, e, hA⟩ := h.out hn
    exact ⟨b, o, e, hA.below hb (Nat.lt_of_lt_of_le hA.lt hK)⟩⟩
theorem AtI.drop {w b o M} (h : AtI w b o M) (k : Nat) : AtI w b (o + k) (M.drop k) := by
  refine ⟨h.lt, fun i hi => ?_⟩
  have hi' : k + i < M.length := by simp at hi; omega
  have := h.cell (k + i) hi'
  rw [Nat.add_assoc, this]; simp
theorem AtI.take {w b o M} (h : AtI w b o M) (k : Nat) : AtI w b o (M.take k) := by
  refine ⟨h.lt, fun i hi => ?_⟩
  have hi' : i < M.length := by simp at hi; omega
  rw [h.cell i hi']; simp
theorem Ints.drewN {w ao cap L} (h : Ints w ao cap L) (q : Nat) : Ints (w.drewN q) ao cap L := h.below (below_drewN (Below.refl w.heap.size w) q) (Nat.le_refl _)

theorem take_succ_eq {L1 L2 : List Int} {j : Nat} (h1 : j < L1.length) (h2 : j < L2.length) (h : L1.take j = L2.take j) (e : L1[j] = L2[j]) : L1.take (j + 1) = L2.take (j + 1) := by
  rw [List.take_add_one, List.take_add_one, h]; simp [h1, h2, e]

set_option maxHeartbeats 1000000 in
theorem equal_any (w : World) (a1 a2 : Option Addr) (c1 c2 n1 n2 : Nat) (L1 L2 : List Int) (hn1 : n1 = L1.length) (hn2 : n2 = L2.length) (h1 : Ints w a1 c1 L1) (h2 : Ints w a2 c2 L2) :
    Calls Tryd.prog 22 #[.slice a1 n1 c1, .slice a2 n2 c2] w fun e w' => e = .returned (.bool (decide (L1 = L2))) ∧ ∃ m, w' = w.drewN m := by
  have b1 : n1 ≤ 9223372036854775807 := by have := h1.le; have := h1.mx; omega
  have b2 : n2 ≤ 9223372036854775807 := by have := h2.le; have := h2.mx; omega
  have HN1 : Hid (n1 = L1.length) := hn1
  have HN2 : Hid (n2 = L2.length) := hn2
  clear hn1 hn2
  obtain ⟨R, hR⟩ : ∃ R, R = decide (L1 = L2) := ⟨_, rfl⟩
  rw [← hR]
  have HR : Hid (R = decide (L1 = L2)) := hR
  clear hR
  by_cases hne : n1 = n2
  · subst hne
    go_enter Tryd.func22, Tryd.ntmps22
    go_wp2
    go_loopw [13] (fun v wr => ∃ j q : Nat, j ≤ n1 ∧ v = .int .i64 j ∧ wr = w.drewN q ∧ Hid (L1.take j = L2.take j)) (fun v _ => n1 - (intOf v).toNat)
    case atStart => exact ⟨0, 0, by omega, rfl, rfl, rfl⟩
    case round =>
      obtain ⟨j, q, hj, rfl, rfl, HT⟩ := hrel
      by_cases hlt : j < n1
      · obtain ⟨g1, o1, rfl, k1⟩ := h1.out (by intro e; have := HN1.out; simp [e] at this; omega)
        obtain ⟨g2, o2, rfl, k2⟩ := h2.out (by intro e; have := HN2.out; simp [e] at this; omega)
        have p1 := k1.cell j (HN1.out ▸ hlt)
        have p2 := k2.cell j (HN2.out ▸ hlt)
        obtain ⟨x1, hx1⟩ : ∃ x, x = L1[j]'(HN1.out ▸ hlt) := ⟨_, rfl⟩
        obtain ⟨x2, hx2⟩ : ∃ x, x = L2[j]'(HN2.out ▸ hlt) := ⟨_, rfl⟩
        rw [← hx1] at p1
        rw [← hx2] at p2
        have HX1 : Hid (x1 = L1[j]'(HN1.out ▸ hlt)) := hx1
        have HX2 : Hid (x2 = L2[j]'(HN2.out ▸ hlt)) := hx2
        clear hx1 hx2 k1 k2
        by_cases hx : x1 = x2
        · have HTT : Hid (L1.take (j + 1) = L2.take (j + 1)) := take_succ_eq (HN1.out ▸ hlt) (HN2.out ▸ hlt) HT.out (by rw [← HX1.out, ← HX2.out, hx])
          clear HX1 HX2
          subst hx
          go_wp2
          go_quiet (fail)
          go_wp2
          go_roundw
          case rel => exact ⟨j + 1, _, by omega, by go_num, rfl, HTT⟩
          case measure => simp [intOf]; omega
        · have HF : Hid (R = false) := by
            have hne : L1 ≠ L2 := fun e => by subst e; exact hx (by rw [HX1.out, HX2.out])
            show R = false
            rw [HR.out]; simp [hne]
          clear HX1 HX2
          go_wp2
          go_quiet (fail)
          go_wp2
          go_ret
          exact ⟨ret_b HF.out.symm, _, World.drewN_drewN _ _ _⟩
      · have hj2 : j = n1 := by omega
        subst hj2
        have HF : Hid (R = true) := by
          have h := HT.out
          rw [List.take_of_length_le (by have := HN1.out; omega), List.take_of_length_le (by have := HN2.out; omega)] at h
          show R = true
          rw [HR.out]; simp [h]
        go_wp2
        go_ret
        exact ⟨ret_b HF.out.symm, _, rfl⟩
  · have HF : Hid (R = false) := by
      have hne : L1 ≠ L2 := fun e => hne (by rw [HN1.out, HN2.out, e])
      show R = false
      rw [HR.out]; simp [hne]
    go_enter Tryd.func22, Tryd.ntmps22
    go_wp2
    go_ret
    exact ⟨ret_b HF.out.symm, 0, rfl⟩
end Go.Proofs.YtjepkcebfojiaaaDoor
