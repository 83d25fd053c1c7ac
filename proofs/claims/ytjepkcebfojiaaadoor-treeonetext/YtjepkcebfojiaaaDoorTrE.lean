import Derived.Test.YtjepkcebfojiaaaDoorTrD
import Derived.Test.YtjepkcebfojiaaaDoorLyC
import Derived.Lib.ConvBytes
set_option linter.unusedVariables false
set_option linter.unusedSimpArgs false
namespace Go.Proofs.YtjepkcebfojiaaaDoor
open Go.ChangeShapes Go.WideShapes Go.ChangeAt Go.RowKit

theorem conv_bytes (w : World) (S : List UInt8) (s : ByteArray) (hs : s = bs S) (hl : S.length ≤ 4194304) : ∃ c w', (convert 9 28 (.string s)).run Tryd.prog w = .ok (.slice (some ⟨w.heap.size, 0, none⟩) S.length c) w' ∧ Below w.heap.size w w' ∧ At w' w.heap.size 0 S ∧ S.length ≤ c ∧ c ≤ 9223372036854775807 := by
  subst hs
  refine ⟨_, _, Lib.run_convert_string_bytes (P := Tryd.prog) w 9 28 5 (bs S) Tryd.underlying9 Tryd.underlying28 Tryd.underlying5 |>.trans (by rw [bs_size]), ?_, ?_, ?_, ?_⟩
  · exact ⟨rfl, rfl, rfl, by rw [Lib.bytesWorld_size]; omega, fun k hk => Lib.bytesWorld_at_old w _ _ k hk⟩
  · refine ⟨by rw [Lib.bytesWorld_size]; omega, fun i hi => ?_⟩
    have := Lib.bytesWorld_cell w 5 (bs S) i (by rw [bs_size]; exact hi)
    rw [Nat.zero_add, this]
    simp [bs, List.getD, hi]
  · exact grownCap_ge _ _ _ _
  · exact grownCap_le_maxLen _ _ _ _ (by unfold maxLen; omega)

structure NmR (S : List UInt8) (ts : List T) (p e : Nat) : Prop where
  out : Lexes 0 S ts p e
theorem NmR.one {S ts p e} (h : NmR S ts p e) (hl : S.length ≤ 64) (h1 : ts.length = 1) : nmOk S = decide (((ts.map T.name).getD 0 []) = S) := by
  match ts, h, h1 with
  | [t], h, _ =>
    simp only [List.map_cons, List.map_nil, List.getD_cons_zero]
    by_cases e : t.name = S
    · rw [lex_nmOk hl h.out e]; simp [e]
    · rw [show decide (t.name = S) = false by simp [e], ← Bool.not_eq_true]
      intro hk
      have := (nmOk_lex hk).one h.out
      have := this.1
      simp at this
      exact e (by rw [← this])
theorem NmR.not {S ts p e} (h : NmR S ts p e) (h1 : ts.length ≠ 1) : nmOk S = false := by
  rw [← Bool.not_eq_true]
  intro hk
  have := ((nmOk_lex hk).one h.out).1
  rw [← this] at h1
  simp at h1
theorem nmOk_long {S : List UInt8} (h : 64 < S.length) : nmOk S = false := by
  have : ¬ S.length ≤ 64 := by omega
  simp [nmOk, this]

set_option maxRecDepth 10000 in
set_option maxHeartbeats 1000000 in
theorem fits_any (w : World) (hTab : Tab w) (S : List UInt8) : Calls Tryd.prog 47 #[.string (bs S)] w fun e w' => e = .returned (.bool (nmOk S)) ∧ Below w.heap.size w w' := by
  have hsz := bs_size S
  obtain ⟨s, hs⟩ : ∃ s, s = bs S := ⟨_, rfl⟩
  obtain ⟨n, hn⟩ : ∃ n, n = S.length := ⟨_, rfl⟩
  obtain ⟨R, hR⟩ : ∃ R, R = nmOk S := ⟨_, rfl⟩
  rw [← hs, ← hn] at hsz
  rw [← hs, ← hR]
  have HS : Hid (s = bs S ∧ n = S.length ∧ R = nmOk S) := ⟨hs, hn, hR⟩
  by_cases hl : n ≤ 64
  · obtain ⟨c, w1, hcv, hb1, hA, hc1, hc2⟩ := conv_bytes w S s hs (by omega)
    rw [← hn] at hcv hc1
    clear hs hn hR
    have hTab1 := hTab.below hb1 hTab.1
    have hT1 := Txt.of_at hA (by have := HS.out.2.1; omega) hc2
    have HT : Hid (Tab w1 ∧ Txt w1 (some ⟨w.heap.size, 0, none⟩) c S) := ⟨hTab1, hT1⟩
    clear hA hTab1 hT1 hTab
    go_enter Tryd.func47, Tryd.ntmps47
    go_wp2_with fail
    refine (tokens_at _ HT.out.1 _ c n S HS.out.2.1 HT.out.2 (by omega)).mono ?_
    rintro e w2 ⟨ts, p, ee, v, hLx, rfl, hown, hb2⟩
    obtain ⟨ao, cap, rfl, hv1, hv2, hv3⟩ := hown.view
    have HL : NmR S ts p ee := ⟨hLx⟩
    have hbb : Below w.heap.size w w2 := hb1.trans (hb2.mono hb1.size)
    clear hLx hown hb2 hb1 hcv
    by_cases hk : ts.length = 1
    · have H1 : Hid (R = decide ((ts.map T.name).getD 0 [] = S)) := by
        show R = _
        rw [HS.out.2.2]; exact HL.one (by have := HS.out.2.1; omega) hk
      obtain ⟨g, rfl, hg, hcells⟩ := hv3.out (by intro e; simp [e] at hk)
      obtain ⟨_, _, _, p3⟩ := hcells 0 (by omega)
      obtain ⟨nm, hnm⟩ : ∃ nm, nm = bs (ts[0]'(by omega)).name := ⟨_, rfl⟩
      rw [← hnm] at p3
      have HNM : Hid (nm = bs ((ts.map T.name).getD 0 [])) := by
        show nm = _
        rw [hnm]
        match ts, hk with
        | [t], _ => rfl
      clear hnm hcells
      rw [hk] at hv1 ⊢
      simp only [Nat.zero_mul, Nat.zero_add] at p3
      go_wp2_with fail
      go_ret
      refine ⟨ret_b ?_, hbb⟩
      rw [H1.out, HNM.out, HS.out.1, bs_toList, bs_toList]
      rw [Bool.eq_iff_iff]; simp
    · have H1 : Hid (R = false) := by
        show R = _
        rw [HS.out.2.2]; exact HL.not hk
      obtain ⟨k, hkk⟩ : ∃ k, k = ts.length := ⟨_, rfl⟩
      rw [← hkk] at hk hv1 ⊢
      have hki : ¬ (k : Int) = 1 := by omega
      clear hkk
      go_wp2_with fail
      go_ret
      exact ⟨ret_b H1.out.symm, hbb⟩
  · have hR' : Hid (R = false) := by show R = false; rw [hR]; exact nmOk_long (by omega)
    clear hs hn hR
    go_enter Tryd.func47, Tryd.ntmps47
    go_wp2
    go_ret
    exact ⟨ret_b hR'.out.symm, Below.refl _ _⟩

theorem nameFits_any (w : World) (hTab : Tab w) (b : Bool) (S : List UInt8) : Calls Tryd.prog 36 #[.bool b, .string (bs S)] w fun e w' => e = .returned (.bool (nmFits b S)) ∧ Below w.heap.size w w' := by
  have HT : Hid (Tab w) := hTab
  clear hTab
  cases b
  · have HR : Hid (nmFits false S = decide (S = [])) := by show _ = _; simp [nmFits]
    obtain ⟨s, hs⟩ : ∃ s, s = bs S := ⟨_, rfl⟩
    obtain ⟨R, hR⟩ : ∃ R, R = nmFits false S := ⟨_, rfl⟩
    rw [← hs, ← hR]
    have HS : Hid (s = bs S ∧ R = nmFits false S) := ⟨hs, hR⟩
    clear hs hR
    go_enter Tryd.func36, Tryd.ntmps36
    go_wp2
    go_ret
    refine ⟨ret_b ?_, Below.refl _ _⟩
    rw [HS.out.2, HR.out, HS.out.1, bs_toList]
    cases S <;> simp
    all_goals rfl
  · go_enter Tryd.func36, Tryd.ntmps36
    go_wp2_with fail
    refine (fits_any w HT.out S).mono ?_
    rintro e w1 ⟨rfl, hb⟩
    go_wp2_with fail
    go_ret
    exact ⟨ret_b (by simp [nmFits]), hb⟩
end Go.Proofs.YtjepkcebfojiaaaDoor
