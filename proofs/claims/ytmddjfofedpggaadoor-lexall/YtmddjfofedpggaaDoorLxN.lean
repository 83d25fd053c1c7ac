import Derived.Test.YtmddjfofedpggaaDoorLxM
set_option linter.unusedVariables false
namespace Go.Proofs.YtmddjfofedpggaaDoor
open Go.ChangeShapes Go.WideShapes Go.ChangeAt Go.RowKit

/-- A list of texts that came in: the cell of text i holds a slice that holds L i. -/
structure Txts (w : World) (b o m : Nat) (A : Nat → Option Addr) (C : Nat → Nat) (L : Nat → List UInt8) : Prop where
  lt : b < w.heap.size
  cell : ∀ i, i < m → w.cell? ⟨b, o + i, none⟩ = some (.slice (A i) (L i).length (C i))
  nil : ∀ i, i < m → A i = none → C i = 0
  txt : ∀ i, i < m → Txt w (A i) (C i) (L i)
  reach : ∀ i, i < m → (L i).length ≤ 140737488351232
theorem Txts.below {w w' b o m A C L B} (h : Txts w b o m A C L) (hb : Below B w w') (hB : w.heap.size ≤ B) : Txts w' b o m A C L :=
  ⟨by have := h.lt; have := hb.size; omega, fun i hi => by rw [hb.cell (p := ⟨b, o + i, none⟩) (by show b < B; have := h.lt; omega)]; exact h.cell i hi, h.nil, fun i hi => (h.txt i hi).below hb hB, h.reach⟩

set_option maxHeartbeats 2000000 in
theorem lexAll_any (w : World) (hTab : Tab w) (ao : Option Addr) (m cap : Nat) (hm : m ≤ 9223372036854775807) (A : Nat → Option Addr) (C : Nat → Nat) (L : Nat → List UInt8) (hT : 0 < m → ∃ b o, ao = some ⟨b, o, none⟩ ∧ Txts w b o m A C L) :
    Calls Tryd.prog 4 #[.slice ao m cap] w fun e w' => e = .returned (.bool true) ∧ Below w.heap.size w w' := by
  have HT : Hid (0 < m → ∃ b o, ao = some ⟨b, o, none⟩ ∧ Txts w b o m A C L) := hT
  clear hT
  go_enter Tryd.func4, Tryd.ntmps4
  go_wp2
  go_loop [3, 4] (fun s c => ∃ i n : Nat, i ≤ m ∧ s = .int .i64 n ∧ c = .int .i64 i ∧ n ≤ 1048576 + 140737488351232 + 1 ∧ i ≤ n ∧ Hid (n ≤ 1048576 → ∀ j, j < i → (L j).length ≤ n)) (fun _ c => m - (intOf c).toNat)
  case atStart => exact ⟨0, 0, by omega, rfl, rfl, by omega, by omega, fun _ j hj => by omega⟩
  case round =>
    obtain ⟨i, n, hi, rfl, rfl, hn, hin, HJ⟩ := hrel
    by_cases hc : i < m ∧ n ≤ 1048576
    · obtain ⟨hlt, hn1⟩ := hc
      obtain ⟨b, o, rfl, hX⟩ := HT.out (by omega)
      have hcell := hX.cell i hlt
      have hr := hX.reach i hlt
      obtain ⟨l, hl⟩ : ∃ l, l = (L i).length := ⟨_, rfl⟩
      rw [← hl] at hcell hr
      have HL : Hid (l = (L i).length) := hl
      clear hl
      go_wp2_with fail
      go_round
      case rel => exact ⟨i + 1, n + l + 1, by omega, by go_num, by go_num, by omega, by omega, fun hb j hj => by
        rcases Nat.lt_succ_iff_lt_or_eq.1 hj with h | rfl
        · have := HJ.out hn1 j h; omega
        · have := HL.out; omega⟩
      case measure => simp [intOf]; omega
    · by_cases hbig : 1048576 < n
      · have hf : ¬ (n : Int) ≤ 1048576 := by omega
        by_cases him : i < m
        all_goals
          go_wp2_with fail
          go_ret
          exact ⟨rfl, Below.refl _ _⟩
      · have him : i = m := by omega
        subst him
        have HS := HJ.out (by omega)
        have HJ2 : Hid (∀ j, j < i → (L j).length ≤ n) := HS
        clear HS
        go_wp2_with fail
        refine (alive_any _ hTab).mono ?_
        rintro e w1 ⟨rfl, hb1⟩
        go_wp2_with fail
        go_loopw [5, 6] (fun k c wr => ∃ j : Nat, j ≤ i ∧ k = .bool true ∧ c = .int .i64 j ∧ Below w.heap.size w wr) (fun _ c _ => i - (intOf c).toNat)
        case atStart => exact ⟨0, by omega, rfl, rfl, hb1⟩
        case round =>
          obtain ⟨j, hj, rfl, rfl, hbr⟩ := hrel
          by_cases hlt : j < i
          · obtain ⟨b, o, rfl, hX⟩ := HT.out (by omega)
            have hX2 := hX.below hbr (Nat.le_refl _)
            have hcell := hX2.cell j hlt
            obtain ⟨l, hl⟩ : ∃ l, l = (L j).length := ⟨_, rfl⟩
            rw [← hl] at hcell
            have HL : Hid (l = (L j).length) := hl
            clear hl
            go_wp2_with fail
            refine (told_any _ (hTab.below hbr hTab.1) (A j) (C j) l (L j) HL.out (hX2.txt j hlt) (hX2.nil j hlt) (by have := HL.out; have := HJ2.out j hlt; omega)).mono ?_
            rintro e w2 ⟨rfl, hb2⟩
            go_wp2_with fail
            go_roundw
            case rel => exact ⟨j + 1, by omega, rfl, by go_num, hbr.trans (hb2.mono hbr.size)⟩
            case measure => simp [intOf]; omega
          · go_wp2_with fail
            go_ret
            exact ⟨rfl, hbr⟩
end Go.Proofs.YtmddjfofedpggaaDoor
