import Derived.Test.YteiambniddddpaaDoorLxB
set_option linter.unusedVariables false
namespace Go.Proofs.YteiambniddddpaaDoor
open Go.ChangeShapes Go.WideShapes Go.ChangeAt Go.RowKit

/-- A slice of bytes that holds the text L. -/
def Txt (w : World) (ao : Option Addr) (cap : Nat) (L : List UInt8) : Prop :=
  L.length ≤ cap ∧ cap ≤ 9223372036854775807 ∧ (L ≠ [] → ∃ b o, ao = some ⟨b, o, none⟩ ∧ At w b o L)

theorem Txt.at {w ao cap L} (h : Txt w ao cap L) {j : Nat} (hj : j < L.length) : ∃ b o, ao = some ⟨b, o, none⟩ ∧ At w b o L :=
  h.2.2 (fun e => by simp [e] at hj)

theorem sk_com : ∀ l : List UInt8, sk true l = if (cm l).2 = true then ((cm l).1 + (sk false (l.drop (cm l).1)).1, (sk false (l.drop (cm l).1)).2) else ((cm l).1, false)
  | [] => by simp [sk, cm]
  | c :: l => by
    have ih := sk_com l
    by_cases h8 : cl c = 8
    · simp [sk, cm, h8, Nat.add_comm]
    · by_cases h0 : cl c = 0
      · simp [sk, cm, h0]
      · have e1 : sk true (c :: l) = ((sk true l).1 + 1, (sk true l).2) := by simp [sk, h8, h0]
        have e2 : cm (c :: l) = ((cm l).1 + 1, (cm l).2) := by simp [cm, h8, h0]
        rw [e1, e2, ih]
        by_cases hb : (cm l).2 = true
        · simp [hb]; omega
        · simp [hb]

theorem cl47 : cl 47 = 4 := by decide

theorem two_prefix (x : UInt8) (l : List UInt8) : ([47, 47] : List UInt8).isPrefixOf (x :: l) = decide (x = 47 ∧ l.head? = some 47) := by
  cases l with
  | nil => simp [List.isPrefixOf]
  | cons y l =>
    simp [List.isPrefixOf]
    rw [Bool.eq_iff_iff]
    simp
    constructor
    · rintro ⟨h1, h2⟩; exact ⟨h1.symm, h2.symm⟩
    · rintro ⟨h1, h2⟩; exact ⟨h1.symm, h2.symm⟩

theorem sk_two {x : UInt8} {l : List UInt8} (hc : cl x ≠ 8) (hd : cl x ≠ 12) : sk false (x :: l) = if ([47, 47] : List UInt8).isPrefixOf (x :: l) = true then sk true (x :: l) else (0, true) := by
  rw [two_prefix]
  by_cases h : x = 47 ∧ l.head? = some 47
  · obtain ⟨rfl, h⟩ := h
    simp [sk, cl47, h]
  · simp [sk, hc, hd, h]

theorem cm_pos {x : UInt8} {l : List UInt8} (h : ([47, 47] : List UInt8).isPrefixOf (x :: l) = true) : 0 < (cm (x :: l)).1 := by
  rw [two_prefix] at h
  simp at h
  rw [h.1]
  simp [cm, cl47]

theorem starts_at (w : World) (b o c m : Nat) (M S : List UInt8) (P : Bool) (hA : At w b o M) (hc : m ≤ c) (hm : c ≤ 9223372036854775807) (hS : S.length ≤ 8) (hl : m = M.length) (hP : S.isPrefixOf M = P) :
    Calls Tryd.prog 40 #[.slice (some ⟨b, o, none⟩) m c, .string (bs S)] w fun e w' => e = .returned (.bool P) ∧ w' = w := by
  subst hl hP
  exact starts_any w b o c M S hA hc hm hS
theorem com_at (w : World) (b o c n : Nat) (L : List UInt8) (hA : At w b o L) (hn : n = L.length) (hm : n ≤ 9223372036854775807) (k : Nat) (hk : k ≤ n) (R : Nat) (B : Bool) (hR : k + (cm (L.drop k)).1 = R) (hB : (cm (L.drop k)).2 = B) :
    Calls Tryd.prog 41 #[.slice (some ⟨b, o, none⟩) n c, .int .i64 k] w fun e w' =>
      e = .returned (.tuple #[.int .i64 (R : Int), .int .i64 (if B = true then 0 else 20)]) ∧ w' = w := by
  subst hn hR hB
  exact com_any w b o c L hA hm k hk

set_option maxHeartbeats 800000 in
theorem blank_any (w : World) (ao : Option Addr) (cap : Nat) (L : List UInt8) (hT : Txt w ao cap L) (k : Nat) (hk : k ≤ L.length) :
    Calls Tryd.prog 24 #[.slice ao L.length cap, .int .i64 k] w fun e w' =>
      e = .returned (.tuple #[.int .i64 ((k + (sk false (L.drop k)).1 : Nat) : Int), .int .i64 (if (sk false (L.drop k)).2 = true then 0 else 20)]) ∧ w' = w := by
  obtain ⟨R, hR⟩ : ∃ R, R = k + (sk false (L.drop k)).1 := ⟨_, rfl⟩
  obtain ⟨E, hE⟩ : ∃ E : Int, E = if (sk false (L.drop k)).2 = true then 0 else 20 := ⟨_, rfl⟩
  rw [← hR, ← hE]
  have HR : Hid (k + (sk false (L.drop k)).1 = R ∧ (if (sk false (L.drop k)).2 = true then (0 : Int) else 20) = E) := ⟨hR.symm, hE.symm⟩
  clear hR hE
  obtain ⟨n, hn⟩ : ∃ n, n = L.length := ⟨_, rfl⟩
  have hc1 := hT.1
  have hc2 := hT.2.1
  rw [← hn] at hc1 hk ⊢
  have HN : Hid (n = L.length) := hn
  clear hn
  have HA : Hid (Txt w ao cap L) := hT
  clear hT
  go_enter Tryd.func24, Tryd.ntmps24
  go_wp2
  go_loop [1] (fun v => ∃ j : Nat, j ≤ n ∧ v = .int .i64 j ∧ Hid (j + (sk false (L.drop j)).1 = R ∧ (if (sk false (L.drop j)).2 = true then (0 : Int) else 20) = E)) (fun v => n - (intOf v).toNat)
  case atStart => exact ⟨k, hk, rfl, HR⟩
  case round =>
    obtain ⟨j, hj, rfl, HJ⟩ := hrel
    by_cases hlt : j < n
    · obtain ⟨b, o, rfl, hA⟩ := HA.out.at (HN.out ▸ hlt)
      obtain ⟨x, hx⟩ : ∃ x, x = L[j]'(HN.out ▸ hlt) := ⟨_, rfl⟩
      have hcell := hA.2 j (HN.out ▸ hlt)
      rw [← hx] at hcell
      have HD : Hid (L.drop j = x :: L.drop (j + 1)) := by rw [hx]; exact List.drop_eq_getElem_cons _
      clear hx
      have HA' : Hid (At w b o L) := hA
      clear hA
      by_cases hs : cl x = 8 ∨ cl x = 12
      · have H2 : j + 1 + (sk false (L.drop (j + 1))).1 = R ∧ (if (sk false (L.drop (j + 1))).2 = true then (0 : Int) else 20) = E := by
          have H := HJ.out
          rw [HD.out] at H
          simp only [sk, hs, if_true] at H
          exact ⟨by omega, H.2⟩
        have H3 : Hid _ := H2
        clear H2
        rcases hs with hs | hs
        all_goals
          go_wp2_with (go_at_call 39; refine (cls_any _ _).mono ?_; rintro e w' ⟨rfl, rfl⟩)
          go_round
          case rel => exact ⟨j + 1, by omega, by go_num, H3⟩
          case measure => simp [intOf]; omega
      · have HX : Hid (¬ (cl x = 8 ∨ cl x = 12)) := hs
        have hcl : cl x = 7 ∨ cl x = 6 ∨ cl x = 4 ∨ cl x = 0 := by have := cl_cases x; omega
        clear hs
        obtain ⟨P, hP⟩ : ∃ P, ([47, 47] : List UInt8).isPrefixOf (L.drop j) = P := ⟨_, rfl⟩
        obtain ⟨R1, hR1⟩ : ∃ R1, j + (cm (L.drop j)).1 = R1 := ⟨_, rfl⟩
        obtain ⟨B1, hB1⟩ : ∃ B1, (cm (L.drop j)).2 = B1 := ⟨_, rfl⟩
        have HC : Hid (([47, 47] : List UInt8).isPrefixOf (L.drop j) = P ∧ j + (cm (L.drop j)).1 = R1 ∧ (cm (L.drop j)).2 = B1) := ⟨hP, hR1, hB1⟩
        clear hP hR1 hB1
        have HS : Hid (sk false (L.drop j) = if P = true then (if B1 = true then (R1 - j + (sk false (L.drop R1)).1, (sk false (L.drop R1)).2) else (R1 - j, false)) else (0, true)) := by
          obtain ⟨e1, e2, e3⟩ := HC.out
          have e4 := sk_two (l := L.drop (j + 1)) (fun e => HX.out (.inl e)) (fun e => HX.out (.inr e))
          rw [← HD.out, e1, sk_com, e3] at e4
          rw [e4, List.drop_drop, e2, show (cm (L.drop j)).1 = R1 - j by omega]
          exact rfl
        have hle : R1 ≤ n := by
          have := cm_le (L.drop j); simp at this; have := HN.out; have := HC.out.2.1; omega
        cases P
        · have H := HJ.out
          rw [HS.out] at H
          simp at H
          have H3 : Hid _ := H
          clear H
          rcases hcl with hcl | hcl | hcl | hcl
          all_goals
            go_wp2_with (first
              | (go_at_call 39; refine (cls_any _ _).mono ?_; rintro e w' ⟨rfl, rfl⟩)
              | (go_at_call 40; refine (starts_at _ b (o + j) (cap - j) (n - j) (L.drop j) [47, 47] false (HA'.out.drop j) (by omega) (by omega) (by decide) (by have := HN.out; simp; omega) HC.out.1).mono ?_; rintro e w' ⟨rfl, rfl⟩))
          all_goals
            go_ret2
            exact ⟨ret_two (by have := H3.out; omega) H3.out.2, rfl⟩
        · have hpos : j < R1 := by
            have := HC.out.1; rw [HD.out] at this; have := cm_pos this; rw [← HD.out] at this; have := HC.out.2.1; omega
          cases B1
          · have H := HJ.out
            rw [HS.out] at H
            simp at H
            have H3 : Hid _ := H
            clear H
            rcases hcl with hcl | hcl | hcl | hcl
            all_goals
              go_wp2_with (first
                | (go_at_call 39; refine (cls_any _ _).mono ?_; rintro e w' ⟨rfl, rfl⟩)
                | (go_at_call 40; refine (starts_at _ b (o + j) (cap - j) (n - j) (L.drop j) [47, 47] true (HA'.out.drop j) (by omega) (by omega) (by decide) (by have := HN.out; simp; omega) HC.out.1).mono ?_; rintro e w' ⟨rfl, rfl⟩)
                | (go_at_call 41; refine (com_at _ b o cap n L HA'.out HN.out (by omega) j (by omega) R1 false HC.out.2.1 HC.out.2.2).mono ?_; rintro e w' ⟨rfl, rfl⟩))
            all_goals
              go_ret2
              exact ⟨ret_two (by have := H3.out; omega) (by simpa using H3.out.2), rfl⟩
          · have H := HJ.out
            rw [HS.out] at H
            simp only [if_true] at H
            have H3 : Hid (R1 + (sk false (L.drop R1)).1 = R ∧ (if (sk false (L.drop R1)).2 = true then (0 : Int) else 20) = E) := ⟨by omega, H.2⟩
            clear H
            rcases hcl with hcl | hcl | hcl | hcl
            all_goals
              go_wp2_with (first
                | (go_at_call 39; refine (cls_any _ _).mono ?_; rintro e w' ⟨rfl, rfl⟩)
                | (go_at_call 40; refine (starts_at _ b (o + j) (cap - j) (n - j) (L.drop j) [47, 47] true (HA'.out.drop j) (by omega) (by omega) (by decide) (by have := HN.out; simp; omega) HC.out.1).mono ?_; rintro e w' ⟨rfl, rfl⟩)
                | (go_at_call 41; refine (com_at _ b o cap n L HA'.out HN.out (by omega) j (by omega) R1 true HC.out.2.1 HC.out.2.2).mono ?_; rintro e w' ⟨rfl, rfl⟩))
            all_goals
              go_round
              case rel => exact ⟨R1, hle, rfl, H3⟩
              case measure => simp [intOf]; omega
    · go_wp2
      go_ret2
      have H := HJ.out
      rw [List.drop_of_length_le (by have := HN.out; omega)] at H
      simp [sk] at H
      exact ⟨ret_two (by omega) H.2, rfl⟩
end Go.Proofs.YteiambniddddpaaDoor
