import Derived.Test.YtfofmmkihhnfmaaGreatDoorVeB
set_option linter.unusedVariables false
set_option linter.unusedSimpArgs false
namespace Go.Proofs.YtfofmmkihhnfmaaGreatDoor
open Go.ChangeShapes Go.WideShapes Go.ChangeAt Go.RowKit Go.Maps


theorem ret_b {a b : Bool} (h : a = b) : Ending.returned (.bool a) = .returned (.bool b) := by rw [h]
theorem rLetter_any (c : UInt8) (w : World) : Calls Tryz.prog 76 #[.int .u8 c.toNat] w fun e w' => e = .returned (.bool (decide (cl c = 6))) ∧ w = w' := by
  have hb : c.toNat < 256 := c.toNat_lt
  obtain ⟨n, hn⟩ : ∃ n, n = c.toNat := ⟨_, rfl⟩
  obtain ⟨B, hB⟩ : ∃ B, B = decide (cl c = 6) := ⟨_, rfl⟩
  rw [← hB]
  have hc := cl_cases c
  have HB : (B = true ∧ ((65 ≤ n ∧ n ≤ 90) ∨ (97 ≤ n ∧ n ≤ 122) ∨ n = 95)) ∨ (B = false ∧ ¬ (65 ≤ n ∧ n ≤ 90) ∧ ¬ (97 ≤ n ∧ n ≤ 122) ∧ n ≠ 95) := by
    rw [hB, hn]; simp; omega
  rw [← hn]
  rw [← hn] at hb
  clear hn hB hc
  rcases HB with ⟨rfl, h | h | h⟩ | ⟨rfl, h1, h2, h3⟩
  all_goals (try subst h)
  all_goals
    go_enter Tryz.func76, Tryz.ntmps76
    go_wp2
  all_goals (try go_ret)
  all_goals first | exact ⟨rfl, rfl⟩ | (exfalso; omega) | (exact ⟨ret_bool (by first | (simp; omega) | omega), rfl⟩) | trace_state
theorem rDigit_any (c : UInt8) (w : World) : Calls Tryz.prog 74 #[.int .u8 c.toNat] w fun e w' => e = .returned (.bool (decide (cl c = 7))) ∧ w = w' := by
  have hb : c.toNat < 256 := c.toNat_lt
  obtain ⟨n, hn⟩ : ∃ n, n = c.toNat := ⟨_, rfl⟩
  obtain ⟨B, hB⟩ : ∃ B, B = decide (cl c = 7) := ⟨_, rfl⟩
  rw [← hB]
  have hc := cl_cases c
  have HB : (B = true ∧ (48 ≤ n ∧ n ≤ 57)) ∨ (B = false ∧ ¬ (48 ≤ n ∧ n ≤ 57)) := by
    rw [hB, hn]; simp; omega
  rw [← hn]
  rw [← hn] at hb
  clear hn hB hc
  rcases HB with ⟨rfl, h1, h2⟩ | ⟨rfl, h⟩
  all_goals
    go_enter Tryz.func74, Tryz.ntmps74
    go_wp2
  all_goals (try go_ret)
  all_goals first | exact ⟨rfl, rfl⟩ | (exfalso; omega) | (exact ⟨ret_bool (by first | (simp; omega) | omega), rfl⟩) | trace_state

def rArr : Array Value := (WORDS.map fun s => Value.string (bs s)).toArray
set_option maxRecDepth 20000 in
theorem rWords_any (w : World) : Calls Tryz.prog 111 #[] w fun e w' => e = .returned (.agg rArr) ∧ Below w.heap.size w w' := by
  go_enter Tryz.func111, Tryz.ntmps111
  go_wp2_with (first | (refine wpList_store_row rfl 138 _ _ rfl _ _ rfl rfl 138 _ (heap_alloc_last _ _) (by kernel_rfl) rfl (by kernel_rfl) ?_; rw [World.setRow_alloc_new]) | fail)
  refine bodyPost_ret (v := .agg rArr) ?_ rfl ⟨rfl, (Below.refl _ _).alloc (Nat.le_refl _) _⟩
  exact results_cell_row Tryz.results111 _ _ w.heap.size 138 _ (0, 0) _ rfl (heap_alloc_last _ _) Tryz.underlying138 rfl (by kernel_rfl)
theorem rArr_at (i : Nat) (hi : i < 18) : rArr[i]? = some (.string (bs (WORDS.getD i []))) := by
  have hl : i < WORDS.length := hi
  simp [rArr, List.getD, List.getElem?_eq_getElem hl]

/-- None of the first j words is the text. -/
structure RWN (S : List UInt8) (j : Nat) (s : ByteArray) (R : Bool) : Prop where
  eq : s = bs S
  out : ∀ i, i < j → WORDS.getD i [] ≠ S
  res : WORDS.contains S = R
theorem RWN.hit {S j s R} (h : RWN S j s R) (hj : j < 18) (he : WORDS.getD j [] = S) : true = R := by
  rw [← h.res]
  symm
  rw [List.contains_iff_mem, ← he]
  have hl : j < WORDS.length := hj
  simp only [List.getD, List.getElem?_eq_getElem hl, Option.getD_some]
  exact List.getElem_mem hl
theorem RWN.miss {S s R} (h : RWN S 18 s R) : false = R := by
  rw [← h.res]
  symm
  rw [← Bool.not_eq_true, List.contains_iff_mem]
  intro hm
  obtain ⟨i, hi, he⟩ := List.mem_iff_getElem.1 hm
  refine h.out i hi ?_
  simp only [List.getD, List.getElem?_eq_getElem hi, Option.getD_some]
  exact he
set_option maxRecDepth 20000 in
set_option maxHeartbeats 2000000 in
theorem rIsWord_any (w : World) (S : List UInt8) (s : ByteArray) (hs : s = bs S) (R : Bool) (hR : WORDS.contains S = R) :
    Calls Tryz.prog 75 #[.string s] w fun e w' => e = .returned (.bool R) ∧ Below w.heap.size w w' := by
  have HS : RWN S 0 s R := ⟨hs, fun i hi => by omega, hR⟩
  clear hs hR
  go_enter Tryz.func75, Tryz.ntmps75
  go_wp2_with (first
    | (go_at_call 111; refine (rWords_any _).mono ?_; rintro e u ⟨rfl, hb2⟩)
    | (refine wpList_store_row rfl 138 _ _ rfl _ _ rfl rfl 138 _ (heap_alloc_last _ _) (by kernel_rfl) rfl (by kernel_rfl) ?_; rw [World.setRow_alloc_new]))
  have hsz := hb2.size
  have hgW : (u.alloc (.cells rArr 138)).heap[u.heap.size]? = some (.cells rArr 138 (0, 0)) := heap_alloc_last _ _
  have hB : Below w.heap.size w (u.alloc (.cells rArr 138)) := hb2.alloc (by omega) _
  obtain ⟨wl, hwl⟩ : ∃ wl, wl = u.alloc (.cells rArr 138) := ⟨_, rfl⟩
  rw [← hwl] at hgW hB ⊢
  clear hwl hb2
  go_loop [4] (fun v => ∃ j : Nat, j ≤ 18 ∧ v = .int .i64 j ∧ RWN S j s R) (fun v => 18 - (intOf v).toNat)
  case atStart => exact ⟨0, by omega, rfl, HS⟩
  case round =>
    obtain ⟨j, hj, rfl, HJ⟩ := hrel
    by_cases hlt : j < 18
    · have hcl := cell_arr hgW (rArr_at j hlt)
      obtain ⟨y, hy⟩ : ∃ y, y = bs (WORDS.getD j []) := ⟨_, rfl⟩
      rw [← hy] at hcl
      have HY : Hid (y = bs (WORDS.getD j [])) := hy
      clear hy
      have HG : Hid _ := hgW
      clear hgW
      by_cases he : (y.toList == s.toList) = true
      · have HE : Hid (true = R) := by
          rw [HY.out, HJ.eq, bs_toList, bs_toList] at he
          exact HJ.hit hlt (by simpa using he)
        go_wp2_with fail
        go_ret
        exact ⟨ret_b HE.out, hB⟩
      · have HE : RWN S (j + 1) s R := ⟨HJ.eq, by
          rw [HY.out, HJ.eq, bs_toList, bs_toList] at he
          intro i hi
          rcases Nat.lt_succ_iff_lt_or_eq.1 hi with h | rfl
          · exact HJ.out i h
          · simpa using he, HJ.res⟩
        go_wp2_with fail
        go_round
        case rel => exact ⟨j + 1, by omega, by go_num, HE⟩
        case measure => simp [intOf]; omega
    · have hj : j = 18 := by omega
      subst hj
      have HE : Hid (false = R) := HJ.miss
      go_wp2_with fail
      go_ret
      exact ⟨ret_b HE.out, hB⟩

theorem isNm_iff (c : UInt8) : isNm c = (decide (cl c = 7) || decide (cl c = 6)) := by simp [isNm]; rfl
/-- The first j bytes are letters or digits. -/
structure NmT (S : List UInt8) (j : Nat) (R : Bool) : Prop where
  ok : ∀ i (h : i < S.length), i < j → isNm S[i] = true
  res : nmOk S = R
theorem NmT.hit {S j R} (h : NmT S j R) (hj : j < S.length) (hf : isNm S[j] = false) : false = R := by
  rw [← h.res]
  symm
  rw [← Bool.not_eq_true]
  intro hn
  simp only [nmOk, Bool.and_eq_true] at hn
  have := List.all_eq_true.1 hn.1.2 S[j] (List.getElem_mem hj)
  rw [hf] at this
  cases this
theorem NmT.fin {S j R} (h : NmT S j R) (hj : S.length ≤ j) (h0 : 0 < S.length) (h1 : S.length ≤ 64) (h2 : ¬ cl S[0] = 7) (h3 : WORDS.contains S = false) : true = R := by
  rw [← h.res]
  symm
  have ha : S.all isNm = true := List.all_eq_true.2 fun x hx => by
    obtain ⟨i, hi, rfl⟩ := List.mem_iff_getElem.1 hx
    exact h.ok i hi (by omega)
  have hd := h.ok 0 h0 (by omega)
  rw [isNm_iff] at hd
  simp [h2] at hd
  simp only [nmOk, Bool.and_eq_true, decide_eq_true_eq, Bool.not_eq_true']
  refine ⟨⟨⟨h1, ?_⟩, ha⟩, h3⟩
  cases S with
  | nil => simp at h0
  | cons a S => simpa using hd
theorem nmOk_no {S : List UInt8} {R : Bool} (hR : nmOk S = R) (h : S.length = 0 ∨ 64 < S.length ∨ (∃ h : 0 < S.length, cl S[0] = 7) ∨ WORDS.contains S = true) : false = R := by
  rw [← hR]
  symm
  rw [← Bool.not_eq_true]
  intro hn
  simp only [nmOk, Bool.and_eq_true, decide_eq_true_eq, Bool.not_eq_true'] at hn
  obtain ⟨⟨⟨h1, h2⟩, h3⟩, h4⟩ := hn
  rcases h with h | h | ⟨h, h5⟩ | h
  · rw [List.length_eq_zero_iff.1 h] at h2
    cases h2
  · omega
  · cases S with
    | nil => simp at h
    | cons a S => simp at h2 h5; omega
  · rw [h] at h4; cases h4
theorem bs_get (S : List UInt8) (k : Nat) (h : k < (bs S).size) : (bs S)[k] = S[k]'(by rw [bs_size] at h; exact h) := by
  simp [bs]
  rfl
set_option maxRecDepth 20000 in
set_option maxHeartbeats 4000000 in
theorem rIsName_any (w : World) (S : List UInt8) (s : ByteArray) (hs : s = bs S) (hsl : S.length ≤ 1000000000000000) (R : Bool) (hR : nmOk S = R) :
    Calls Tryz.prog 33 #[.string s] w fun e w' => e = .returned (.bool R) ∧ Below w.heap.size w w' := by
  have hsz : s.size = S.length := by rw [hs, bs_size]
  obtain ⟨n, hn⟩ : ∃ n, n = S.length := ⟨_, rfl⟩
  rw [← hn] at hsz hsl
  have HN : Hid (n = S.length) := hn
  have HS : Hid (s = bs S) := hs
  have HR : Hid (nmOk S = R) := hR
  clear hn hs hR
  by_cases h0 : n = 0
  · go_enter Tryz.func33, Tryz.ntmps33
    go_wp2_with fail
    go_ret
    exact ⟨ret_b (nmOk_no HR.out (.inl (by have := HN.out; omega))), Below.refl _ _⟩
  by_cases h64 : 64 < n
  · go_enter Tryz.func33, Tryz.ntmps33
    go_wp2_with fail
    go_ret
    exact ⟨ret_b (nmOk_no HR.out (.inr (.inl (by have := HN.out; omega)))), Below.refl _ _⟩
  have hp : 0 < n := by omega
  obtain ⟨c, hc⟩ : ∃ c, c = S[0]'(by have := HN.out; omega) := ⟨_, rfl⟩
  have HC : Hid (c = S[0]'(by have := HN.out; omega)) := hc
  have hget : ∀ h : 0 < s.size, s[0]'h = c := fun h => by
    have hs := HS.out
    subst hs
    rw [bs_get, hc]
  clear hc
  obtain ⟨D, hD⟩ : ∃ D, decide (cl c = 7) = D := ⟨_, rfl⟩
  have DIG : ∀ w, Calls Tryz.prog 74 #[.int .u8 c.toNat] w fun e w' => e = .returned (.bool D) ∧ w = w' := fun w => by rw [← hD]; exact rDigit_any c w
  have HD : Hid (decide (cl c = 7) = D) := hD
  clear hD
  cases D
  case true =>
    go_enter Tryz.func33, Tryz.ntmps33
    go_wp2_with (first | (go_at_call 74; refine (DIG _).mono ?_; rintro e w' ⟨rfl, rfl⟩))
    go_ret
    exact ⟨ret_b (nmOk_no HR.out (.inr (.inr (.inl ⟨by have := HN.out; omega, by rw [← HC.out]; exact of_decide_eq_true HD.out⟩)))), Below.refl _ _⟩
  obtain ⟨W, hW⟩ : ∃ W, WORDS.contains S = W := ⟨_, rfl⟩
  have WRD : ∀ w, Calls Tryz.prog 75 #[.string s] w fun e w' => e = .returned (.bool W) ∧ Below w.heap.size w w' := fun w => rIsWord_any w S s HS.out W hW
  have HW : Hid (WORDS.contains S = W) := hW
  clear hW
  cases W
  case true =>
    go_enter Tryz.func33, Tryz.ntmps33
    go_wp2_with (first
      | (go_at_call 74; refine (DIG _).mono ?_; rintro e w' ⟨rfl, rfl⟩)
      | (go_at_call 75; refine (WRD _).mono ?_; rintro e w1 ⟨rfl, hb1⟩))
    go_ret
    exact ⟨ret_b (nmOk_no HR.out (.inr (.inr (.inr HW.out)))), hb1⟩
  have q0 : ¬ (n : Int) = 0 := by omega
  have q1 : ¬ 64 < (n : Int) := by omega
  go_enter Tryz.func33, Tryz.ntmps33
  go_wp2_with (first
    | (go_at_call 74; refine (DIG _).mono ?_; rintro e w' ⟨rfl, rfl⟩)
    | (go_at_call 75; refine (WRD _).mono ?_; rintro e w1 ⟨rfl, hb1⟩))
  have hq0 : ((n : Int) == 0) = false := by simpa using h0
  simp only [hq0]
  clear hq0
  go_loop [3] (fun v => ∃ j : Nat, j ≤ n ∧ v = .int .i64 j ∧ NmT S j R) (fun v => n - (intOf v).toNat)
  case atStart => exact ⟨0, by omega, rfl, ⟨fun i h hi => by omega, HR.out⟩⟩
  case round =>
    obtain ⟨j, hj, rfl, HJ⟩ := hrel
    by_cases hlt : j < n
    · obtain ⟨x, hx⟩ : ∃ x, x = S[j]'(by have := HN.out; omega) := ⟨_, rfl⟩
      have HX : Hid (x = S[j]'(by have := HN.out; omega)) := hx
      have hgj : ∀ h : j < s.size, s[j]'h = x := fun h => by
        have hs := HS.out
        subst hs
        rw [bs_get, hx]
      clear hx
      obtain ⟨P, hP⟩ : ∃ P, decide (cl x = 6) = P := ⟨_, rfl⟩
      have LET : ∀ w, Calls Tryz.prog 76 #[.int .u8 x.toNat] w fun e w' => e = .returned (.bool P) ∧ w = w' := fun w => by rw [← hP]; exact rLetter_any x w
      have HP : Hid (decide (cl x = 6) = P) := hP
      clear hP
      obtain ⟨Z, hZ⟩ : ∃ Z, decide (cl x = 7) = Z := ⟨_, rfl⟩
      have DI2 : ∀ w, Calls Tryz.prog 74 #[.int .u8 x.toNat] w fun e w' => e = .returned (.bool Z) ∧ w = w' := fun w => by rw [← hZ]; exact rDigit_any x w
      have HZ : Hid (decide (cl x = 7) = Z) := hZ
      clear hZ
      have HE : (Z || P) = true → NmT S (j + 1) R := fun hzp => ⟨fun i h hi => by
          rcases Nat.lt_succ_iff_lt_or_eq.1 hi with h1 | rfl
          · exact HJ.ok i h h1
          · rw [← HX.out, isNm_iff, HP.out, HZ.out]; exact hzp, HJ.res⟩
      cases P <;> cases Z
      all_goals
        go_wp2_with (first
          | (go_at_call 76; refine (LET _).mono ?_; rintro e w' ⟨rfl, rfl⟩)
          | (go_at_call 74; refine (DI2 _).mono ?_; rintro e w' ⟨rfl, rfl⟩))
      · go_ret
        exact ⟨ret_b (HJ.hit (by have := HN.out; omega) (by rw [← HX.out, isNm_iff, HP.out, HZ.out]; rfl)), hb1⟩
      all_goals
        go_round
        case rel => exact ⟨j + 1, by omega, by go_num, HE rfl⟩
        case measure => simp [intOf]; omega
    · obtain rfl : j = n := by omega
      go_wp2_with fail
      go_ret
      exact ⟨ret_b (HJ.fin (by have := HN.out; omega) (by have := HN.out; omega) (by have := HN.out; omega) (by rw [← HC.out]; exact of_decide_eq_false HD.out) HW.out), hb1⟩
end Go.Proofs.YtfofmmkihhnfmaaGreatDoor
