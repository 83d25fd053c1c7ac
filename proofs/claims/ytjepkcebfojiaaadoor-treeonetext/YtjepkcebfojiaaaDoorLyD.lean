import Derived.Test.YtjepkcebfojiaaaDoorLyH
import Derived.Test.YtjepkcebfojiaaaDoorLyC
set_option linter.unusedVariables false
set_option linter.unusedSimpArgs false
namespace Go.Proofs.YtjepkcebfojiaaaDoor
open Go.ChangeShapes Go.WideShapes Go.ChangeAt Go.RowKit

/-- Lists no longer than memory bears. -/
structure Rch (N : List Nd) : Prop where
  out : ∀ (i : Nat) (h : i < N.length), (N[i]).kids.length ≤ 140737488351232 ∧ (N[i]).name.length ≤ 140737488351232

/-- What fits answers. -/
structure FitR (nn fn : Nat) (N : List Nd) (e : Ending) : Prop where
  out : ∃ R : Bool, e = .returned (.bool R) ∧ (R = true → nn + fn ≤ 120000 ∧ ∀ n ∈ N, n.kids.length ≤ 120000)
/-- The kids of the first i nodes are counted. -/
structure KLe (N : List Nd) (i n : Nat) : Prop where
  out : ∀ (j : Nat) (h : j < N.length), j < i → (N[j]).kids.length ≤ n
theorem KLe.next {N i n m kl} (h : KLe N i n) (hi : i < N.length) (hk : kl = (N[i]).kids.length) (hm : n + kl ≤ m) : KLe N (i + 1) m := ⟨fun j hj hji => by
  by_cases e : j = i
  · subst e; omega
  · have := h.out j hj (by omega); omega⟩
theorem KLe.fin {N i n} (h : KLe N i n) (hi : N.length ≤ i) (hn : n ≤ 120000) : ∀ x ∈ N, x.kids.length ≤ 120000 := by
  intro x hx
  obtain ⟨j, hj, rfl⟩ := List.mem_iff_getElem.1 hx
  have := h.out j hj (by omega)
  omega

set_option maxRecDepth 10000 in
set_option maxHeartbeats 4000000 in
theorem fits3_any (w : World) (no : Option Addr) (nc nn : Nat) (fo : Option Addr) (fc fn : Nat) (N : List Nd) (hnn : nn = N.length) (hN : Nodes w no nc N) (hR : Rch N) (hn1 : nn ≤ 140737488351232) (hf1 : fn ≤ 140737488351232) :
    Calls Tryd.prog 6 #[.agg #[.slice no nn nc, .slice fo fn fc]] w fun e w' => FitR nn fn N e ∧ Below w.heap.size w w' := by
  have HNN : Hid (nn = N.length) := hnn
  have hl : nn ≤ nc := by have := hN.le; omega
  clear hnn
  go_enter Tryd.func6, Tryd.ntmps6
  go_wp2_with fail
  go_loopw [3, 4, 5] (fun a b c wr => ∃ i n d q : Nat, i ≤ nn ∧ a = .int .i64 n ∧ b = .int .i64 d ∧ c = .int .i64 i ∧ d ≤ i ∧ nn + fn ≤ n ∧ n ≤ 120000 + 422212465053696 ∧ KLe N i n ∧ wr = (w.alloc (.cells #[.slice no nn nc, .slice fo fn fc] 25)).drewN q) (fun _ _ c _ => nn - (intOf c).toNat)
  case atStart => exact ⟨0, nn + fn, 0, 0, by omega, by go_num, rfl, rfl, by omega, by omega, by omega, ⟨fun j hj h => by omega⟩, rfl⟩
  case round =>
    obtain ⟨i, n, d, q, hi, rfl, rfl, rfl, hd, hnf, hnm, HKE, rfl⟩ := hrel
    by_cases hc : i < nn ∧ n ≤ 120000
    · obtain ⟨hlt, hn2⟩ := hc
      obtain ⟨b, o, rfl, hbl, hAt⟩ := hN.out (by intro e; have := HNN.out; simp [e] at this; omega)
      obtain ⟨ka, kc, c0, c1, c2, c3, c4, c5, c6, c7, c8, c9, hK⟩ := (hAt i (HNN.out ▸ hlt)).out
      have hr := hR.out i (HNN.out ▸ hlt)
      obtain ⟨nd, hnd⟩ : ∃ nd, nd = N[i]'(HNN.out ▸ hlt) := ⟨_, rfl⟩
      rw [← hnd] at c0 c8 c9 hr
      obtain ⟨s, hs⟩ : ∃ s, s = bs nd.name := ⟨_, rfl⟩
      have hsz : s.size = nd.name.length := by rw [hs, bs_size]
      rw [← hs] at c8
      obtain ⟨nl, hnl⟩ : ∃ nl, nl = nd.name.length := ⟨_, rfl⟩
      rw [← hnl] at hsz hr
      obtain ⟨kl, hkl⟩ : ∃ kl, kl = nd.kids.length := ⟨_, rfl⟩
      rw [← hkl] at c9 hr
      obtain ⟨hr1, hr2⟩ := hr
      have HKE2 : KLe N (i + 1) (n + kl + nl / 64) := HKE.next (kl := kl) (HNN.out ▸ hlt) (by rw [hkl, hnd]) (by omega)
      obtain ⟨kk, hkk⟩ : ∃ kk, kk = nd.kind := ⟨_, rfl⟩
      rw [← hkk] at c0
      have hb1 : b < w.heap.size := hbl
      clear hnd hs hnl hkl hkk hAt hK c1 c2 c3 c4 c5 c6 c7
      have hq1 : nl / 64 ≤ 140737488351232 := by omega
      by_cases hk3 : kk = 3
      · subst hk3
        go_wp2_with fail
        go_quiet (fail)
        go_wp2_with fail
        go_roundw
        case rel => exact ⟨i + 1, n + kl + nl / 64, d + 1, _, by omega, by go_num, by go_num, by go_num, by omega, by omega, by omega, HKE2, by first | rfl | exact World.drewN_drewN _ _ _⟩
        case measure => simp [intOf]; omega
      · go_wp2_with fail
        go_quiet (fail)
        go_wp2_with fail
        go_roundw
        case rel => exact ⟨i + 1, n + kl + nl / 64, d, _, by omega, by go_num, by go_num, by go_num, by omega, by omega, by omega, HKE2, by first | rfl | exact World.drewN_drewN _ _ _⟩
        case measure => simp [intOf]; omega
    · by_cases hbig : 120000 < n
      · have hf : ¬ (n : Int) ≤ 120000 := by omega
        by_cases him : i < nn
        all_goals
          go_wp2_with fail
          go_ret
          exact ⟨⟨⟨false, rfl, fun h => by cases h⟩⟩, below_drewN ((Below.refl _ _).alloc (Nat.le_refl _) _) _⟩
      · have him : nn = i := by omega
        subst him
        have hn3 : n ≤ 120000 := by omega
        have hd3 : d ≤ 120000 := by omega
        have hdn : d * n ≤ 14400000000 := Nat.mul_le_mul hd3 hn3
        obtain ⟨m, hm⟩ : ∃ m, m = d * n := ⟨_, rfl⟩
        have hmI : (d : Int) * (n : Int) = (m : Int) := by rw [hm]; simp
        rw [← hm] at hdn
        clear hm hc
        go_wp2_with fail
        go_ret
        exact ⟨⟨⟨_, rfl, fun _ => ⟨by omega, HKE.fin (by have := HNN.out; omega) hn3⟩⟩⟩, below_drewN ((Below.refl _ _).alloc (Nat.le_refl _) _) _⟩

end Go.Proofs.YtjepkcebfojiaaaDoor
namespace Go.Proofs.YtjepkcebfojiaaaDoor
open Go.ChangeShapes Go.WideShapes Go.ChangeAt Go.RowKit

theorem tmod_slot (i : Int) (n : Nat) (hn : 0 < n) : (¬ Int.tmod i n < 0 ∧ i % (n : Int) = Int.tmod i n) ∨ (Int.tmod i n < 0 ∧ i % (n : Int) = Int.tmod i n + n) := by
  have h1 := Int.emod_nonneg i (show (n : Int) ≠ 0 by omega)
  have h2 := Int.emod_lt_of_pos i (show (0 : Int) < n by omega)
  have h3 : Int.tmod i n < n := Int.tmod_lt_of_pos i (by omega)
  have h4 : -(n : Int) < Int.tmod i n := Int.lt_tmod_of_pos i (by omega)
  have h5 : (n : Int) * Int.tdiv i n + Int.tmod i n = i := Int.mul_tdiv_add_tmod i n
  have h6 : (n : Int) * (i / n) + i % n = i := Int.mul_ediv_add_emod i n
  have h7 : (n : Int) * (Int.tdiv i n - i / n) = i % n - Int.tmod i n := by rw [Int.mul_sub]; omega
  by_cases hneg : Int.tmod i n < 0
  · right
    refine ⟨hneg, ?_⟩
    have hq : Int.tdiv i n - i / n = 1 := by
      have ha : 0 < Int.tdiv i n - i / n := by
        apply Classical.byContradiction
        intro hh
        have : (n : Int) * (Int.tdiv i n - i / n) ≤ 0 := Int.mul_nonpos_of_nonneg_of_nonpos (by omega) (by omega)
        omega
      have hb : Int.tdiv i n - i / n < 2 := by
        apply Classical.byContradiction
        intro hh
        have : (n : Int) * 2 ≤ (n : Int) * (Int.tdiv i n - i / n) := Int.mul_le_mul_of_nonneg_left (by omega) (by omega)
        omega
      omega
    rw [hq] at h7
    omega
  · left
    refine ⟨hneg, ?_⟩
    have hq : Int.tdiv i n - i / n = 0 := by
      have ha : -1 < Int.tdiv i n - i / n := by
        apply Classical.byContradiction
        intro hh
        have : (n : Int) * (Int.tdiv i n - i / n) ≤ (n : Int) * (-1) := Int.mul_le_mul_of_nonneg_left (by omega) (by omega)
        omega
      have hb : Int.tdiv i n - i / n < 1 := by
        apply Classical.byContradiction
        intro hh
        have : (n : Int) * 1 ≤ (n : Int) * (Int.tdiv i n - i / n) := Int.mul_le_mul_of_nonneg_left (by omega) (by omega)
        omega
      omega
    rw [hq] at h7
    omega

end Go.Proofs.YtjepkcebfojiaaaDoor
