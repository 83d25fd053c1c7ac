import Derived.Test.YtddcpbidlbiamaaHpY
set_option linter.unusedVariables false
set_option linter.unusedSimpArgs false
namespace Go.Proofs.Ytddcpbidlbiamaa
open Go.ChangeShapes Go.WideShapes Go.ChangeAt Go.RowKit

set_option maxHeartbeats 8000000 in
set_option maxRecDepth 100000 in
theorem far_any (w : World) (k first i v : Int) (hk : Fits k) (hf : Fits first) (hi : Fits i) (hv : Fits v) :
    Calls Try.prog 7 #[.int .i64 k, .int .i64 first, .int .i64 i, .int .i64 v] w fun e w' => e = .returned (.bool true) ∧ Below w.heap.size w w' := by
  have FI := show Hid (Fits i) from hi
  have FV := show Hid (Fits v) from hv
  have FK := show Hid (Fits k) from hk
  have HSL := show Hid _ from slot_any first 1000 (by omega) (by omega) hf
  obtain ⟨k1, k2⟩ := hk
  obtain ⟨i1, i2⟩ := hi
  obtain ⟨v1, v2⟩ := hv
  clear hf
  go_enter Try.func7, Try.ntmps7
  go_wp2_with fail
  refine (alive_any _).mono ?_
  rintro e w1 ⟨rfl, hb1⟩
  go_wp2_with fail
  refine (new_any _).mono ?_
  rintro e w2 ⟨rfl, hC2, hb2, hs2⟩
  have HF := show Hid _ from fs_new hb1 hC2 hb2
  clear hC2 hb2 hs2 hb1
  generalize w1.heap.size + 1 + 1 = h at *
  generalize w1.heap.size + 1 = n at *
  generalize w1.heap.size = m at *
  go_wp2_with fail
  refine (HSL.out _).mono ?_
  rintro e w2' ⟨rfl, r, rfl, hr⟩
  have hr9 : r ≤ 999 := by omega
  clear HSL hr
  go_wp2_with fail
  refine (make_yes _ HF.out.ch (by omega) (r : Int) (by omega) (by omega)).mono ?_
  rintro e w3 ⟨rfl, hC3, hO3⟩
  have HF3 : Hid (∃ ln f, FSt w w3 h m n ((r : Int) + 1) ln f 1) := ⟨_, _, by
    have := HF.out.next hC3 hO3
    rw [show (0 : Int) + r + 1 = r + 1 by omega] at this
    exact this⟩
  clear HF hC3 hO3
  obtain ⟨ln, f, hF3⟩ := HF3.out
  have HF3 := show Hid _ from hF3
  clear hF3
  by_cases hfit : 0 ≤ k ∧ k ≤ 4611686018427387904 - r - 2
  · obtain ⟨g1, g2⟩ := hfit
    go_wp2_with fail
    refine (make_yes _ HF3.out.ch (by omega) k g1 (by omega)).mono ?_
    rintro e w4 ⟨rfl, hC4, hO4⟩
    have HF4 := show Hid _ from HF3.out.next hC4 hO4
    clear HF3 hC4 hO4
    have hln : upd ln ((r : Int) + 1 + 1) (some k) ((r : Int) + 1 + 1) = some k := by simp [upd]
    generalize upd ln ((r : Int) + 1 + 1) (some k) = ln4 at *
    have HLN := show Hid (ln4 ((r : Int) + 1 + 1) = some k) from hln
    clear hln
    have hb0 : ¬ (r : Int) + 1 + 1 = 0 := by omega
    by_cases hin : 0 ≤ i ∧ i < k
    · obtain ⟨j1, j2⟩ := hin
      have hinb : inB ln4 ((r : Int) + 1 + 1) i := by unfold inB; rw [HLN.out]; exact ⟨j1, j2⟩
      have HIN := show Hid _ from hinb
      clear hinb
      go_wp2_with fail
      refine (set_yes _ HF4.out.ch (by omega) _ i v (by unfold Fits; omega) FI.out FV.out HIN.out).mono ?_
      rintro e w5 ⟨rfl, hC5, hO5⟩
      have HF5 := show Hid _ from HF4.out.next hC5 hO5
      clear HF4 hC5 hO5
      have hfv : upd f ((r : Int) + 1 + 1 + 1 + i) v ((r : Int) + 1 + 1 + 1 + i) = v := by simp [upd]
      have hget := get_yes _ HF5.out.ch _ i (by unfold Fits; omega) FI.out HIN.out
      rw [hfv] at hget
      generalize upd f ((r : Int) + 1 + 1 + 1 + i) v = f5 at *
      clear hfv
      have hlen := len_any _ HF5.out.ch ((r : Int) + 1 + 1) (by unfold Fits; omega) hb0
      rw [HLN.out] at hlen
      simp only [Option.getD_some, Option.isSome_some] at hlen
      have hwd := words_any _ HF5.out.ch
      have hno := make_no _ HF5.out.ch (4611686018427387904 - r - 2 - k) (by unfold Fits; omega) (by omega)
      go_wp2_with fail
      refine hget.mono ?_
      rintro e w6 ⟨rfl, rfl⟩
      clear hget
      go_wp2_with fail
      refine hlen.mono ?_
      rintro e w7 ⟨rfl, rfl⟩
      clear hlen
      go_wp2_with (first | (go_at_call 19; refine hwd.mono ?_; rintro e w8 ⟨rfl, rfl⟩))
      refine hno.mono ?_
      rintro e w9 ⟨rfl, rfl⟩
      clear hno
      by_cases hlast : k = 4611686018427387904 - r - 2
      · subst hlast
        go_wp2_with fail
        refine (make_no _ HF5.out.ch 0 (by unfold Fits; omega) (by omega)).mono ?_
        rintro e w10 ⟨rfl, rfl⟩
        go_wp2_with fail
        go_ret
        exact ⟨rfl, HF5.out.bel⟩
      · go_wp2_with fail
        refine (make_yes _ HF5.out.ch (by omega) 0 (by omega) (by omega)).mono ?_
        rintro e w10 ⟨rfl, hC10, hO10⟩
        have HF10 := show Hid _ from HF5.out.next hC10 hO10
        have hwe := words_any _ hC10
        clear hC10 hO10
        go_wp2_with (first | (go_at_call 19; refine hwe.mono ?_; rintro e w8 ⟨rfl, rfl⟩))
        go_ret
        exact ⟨rfl, HF10.out.bel⟩
    · have hnin : ¬ inB ln4 ((r : Int) + 1 + 1) i := by unfold inB; rw [HLN.out]; exact hin
      have hset := set_no _ HF4.out.ch ((r : Int) + 1 + 1) i v (by unfold Fits; omega) FI.out hnin
      have hget := get_no _ HF4.out.ch ((r : Int) + 1 + 1) i (by unfold Fits; omega) FI.out hnin
      have hlen := len_any _ HF4.out.ch ((r : Int) + 1 + 1) (by unfold Fits; omega) hb0
      rw [HLN.out] at hlen
      simp only [Option.getD_some, Option.isSome_some] at hlen
      have hwd := words_any _ HF4.out.ch
      have hno := make_no _ HF4.out.ch (4611686018427387904 - r - 2 - k) (by unfold Fits; omega) (by omega)
      have HF5 := show Hid _ from HF4.out
      clear HF4 hnin
      rcases (show i < 0 ∨ (0 ≤ i ∧ k ≤ i) by omega) with j1 | ⟨j1, j2⟩
      · clear hin
        go_wp2_with fail
        refine hset.mono ?_
        rintro e w5 ⟨rfl, rfl⟩
        clear hset
        go_wp2_with fail
        refine hget.mono ?_
        rintro e w6 ⟨rfl, rfl⟩
        clear hget
        go_wp2_with fail
        refine hlen.mono ?_
        rintro e w7 ⟨rfl, rfl⟩
        clear hlen
        go_wp2_with (first | (go_at_call 19; refine hwd.mono ?_; rintro e w8 ⟨rfl, rfl⟩))
        refine hno.mono ?_
        rintro e w9 ⟨rfl, rfl⟩
        clear hno
        by_cases hlast : k = 4611686018427387904 - r - 2
        · subst hlast
          go_wp2_with fail
          refine (make_no _ HF5.out.ch 0 (by unfold Fits; omega) (by omega)).mono ?_
          rintro e w10 ⟨rfl, rfl⟩
          go_wp2_with fail
          go_ret
          exact ⟨rfl, HF5.out.bel⟩
        · go_wp2_with fail
          refine (make_yes _ HF5.out.ch (by omega) 0 (by omega) (by omega)).mono ?_
          rintro e w10 ⟨rfl, hC10, hO10⟩
          have HF10 := show Hid _ from HF5.out.next hC10 hO10
          have hwe := words_any _ hC10
          clear hC10 hO10
          go_wp2_with (first | (go_at_call 19; refine hwe.mono ?_; rintro e w8 ⟨rfl, rfl⟩))
          go_ret
          exact ⟨rfl, HF10.out.bel⟩
      · clear hin
        go_wp2_with fail
        refine hset.mono ?_
        rintro e w5 ⟨rfl, rfl⟩
        clear hset
        go_wp2_with fail
        refine hget.mono ?_
        rintro e w6 ⟨rfl, rfl⟩
        clear hget
        go_wp2_with fail
        refine hlen.mono ?_
        rintro e w7 ⟨rfl, rfl⟩
        clear hlen
        go_wp2_with (first | (go_at_call 19; refine hwd.mono ?_; rintro e w8 ⟨rfl, rfl⟩))
        refine hno.mono ?_
        rintro e w9 ⟨rfl, rfl⟩
        clear hno
        by_cases hlast : k = 4611686018427387904 - r - 2
        · subst hlast
          go_wp2_with fail
          refine (make_no _ HF5.out.ch 0 (by unfold Fits; omega) (by omega)).mono ?_
          rintro e w10 ⟨rfl, rfl⟩
          go_wp2_with fail
          go_ret
          exact ⟨rfl, HF5.out.bel⟩
        · go_wp2_with fail
          refine (make_yes _ HF5.out.ch (by omega) 0 (by omega) (by omega)).mono ?_
          rintro e w10 ⟨rfl, hC10, hO10⟩
          have HF10 := show Hid _ from HF5.out.next hC10 hO10
          have hwe := words_any _ hC10
          clear hC10 hO10
          go_wp2_with (first | (go_at_call 19; refine hwe.mono ?_; rintro e w8 ⟨rfl, rfl⟩))
          go_ret
          exact ⟨rfl, HF10.out.bel⟩
  · have hno := make_no _ HF3.out.ch k FK.out (by omega)
    rcases (show k < 0 ∨ (0 ≤ k ∧ 4611686018427387904 - r - 2 < k) by omega) with j1 | ⟨j1, j2⟩
    · clear hfit
      go_wp2_with fail
      refine hno.mono ?_
      rintro e w4 ⟨rfl, rfl⟩
      clear hno
      go_wp2_with fail
      refine (make_yes _ HF3.out.ch (by omega) 1 (by omega) (by omega)).mono ?_
      rintro e w5 ⟨rfl, hC5, hO5⟩
      have HF5 := show Hid _ from HF3.out.next hC5 hO5
      have hwe := words_any _ hC5
      clear hC5 hO5
      go_wp2_with (first | (go_at_call 19; refine hwe.mono ?_; rintro e w8 ⟨rfl, rfl⟩))
      go_ret
      exact ⟨rfl, HF5.out.bel⟩
    · have hdk : decide (k ≤ 4611686018427387904 - (r : Int) - 2) = false := by simp; omega
      clear hfit
      go_wp2_with fail
      refine hno.mono ?_
      rintro e w4 ⟨rfl, rfl⟩
      clear hno
      go_wp2_with fail
      refine (make_yes _ HF3.out.ch (by omega) 1 (by omega) (by omega)).mono ?_
      rintro e w5 ⟨rfl, hC5, hO5⟩
      have HF5 := show Hid _ from HF3.out.next hC5 hO5
      have hwe := words_any _ hC5
      clear hC5 hO5
      go_wp2_with (first | (go_at_call 19; refine hwe.mono ?_; rintro e w8 ⟨rfl, rfl⟩))
      go_ret
      exact ⟨rfl, HF5.out.bel⟩
end Go.Proofs.Ytddcpbidlbiamaa
