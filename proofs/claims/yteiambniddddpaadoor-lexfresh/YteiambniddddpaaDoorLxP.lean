import Derived.Test.YteiambniddddpaaDoorLxI
set_option linter.unusedVariables false
namespace Go.Proofs.YteiambniddddpaaDoor

/-- Nothing, or a blank ahead. -/
def Blk (Y : List UInt8) : Prop := ∀ y, Y.head? = some y → cl y = 8 ∨ cl y = 12
theorem Blk.nil : Blk [] := fun y h => by cases h
theorem Blk.cons {y : UInt8} {Y : List UInt8} (h : cl y = 8 ∨ cl y = 12) : Blk (y :: Y) := fun z hz => by simp at hz; subst hz; exact h
theorem Blk.not47 {Y : List UInt8} (h : Blk Y) : Y.head? ≠ some 47 := fun e => by have := h 47 e; rw [cl47] at this; omega

theorem sk_t8 {c : UInt8} {l : List UInt8} (h : cl c = 8) (b : Bool) : sk b (c :: l) = ((sk false l).1 + 1, (sk false l).2) := by cases b <;> simp [sk, h]
theorem sk_t0 {c : UInt8} {l : List UInt8} (h : cl c = 0) : sk true (c :: l) = (0, false) := by simp [sk, h]
theorem sk_tt {c : UInt8} {l : List UInt8} (h : cl c ≠ 8) (h0 : cl c ≠ 0) : sk true (c :: l) = ((sk true l).1 + 1, (sk true l).2) := by simp [sk, h, h0]
theorem sk_fb {c : UInt8} {l : List UInt8} (h : cl c = 8 ∨ cl c = 12) : sk false (c :: l) = ((sk false l).1 + 1, (sk false l).2) := by simp [sk, h]
theorem sk_fc {l : List UInt8} (h : l.head? = some 47) : sk false (47 :: l) = ((sk true l).1 + 1, (sk true l).2) := by simp [sk, cl47, h]
theorem sk_ff {c : UInt8} {l : List UInt8} (h : ¬ (cl c = 8 ∨ cl c = 12)) (hc : ¬ (c = 47 ∧ l.head? = some 47)) : sk false (c :: l) = (0, true) := by simp [sk, h, hc]

theorem pair_succ {a : Nat × Bool} {n : Nat} {t : Bool} (h : (a.1 + 1, a.2) = (n, t)) : ∃ m, n = m + 1 ∧ a = (m, t) := by
  obtain ⟨x, y⟩ := a
  simp at h
  exact ⟨x, h.1.symm, by rw [h.2]⟩

theorem head_ext {l Y : List UInt8} {q : Nat} (hY : Y.head? ≠ some 47) (h : l.head? ≠ some 47) : (l.take q ++ Y).head? ≠ some 47 := by
  cases q with
  | zero => simpa using hY
  | succ q => cases l with
    | nil => simpa using hY
    | cons c l => simpa using h

theorem sk_stop : ∀ (b : Bool) (l Y : List UInt8) (n q : Nat), sk b l = (n, true) → n < l.length → n < q → Y.head? ≠ some 47 → sk b (l.take q ++ Y) = (n, true)
  | b, [], Y, n, q, h, hn, _, _ => by simp at hn
  | b, c :: l, Y, n, 0, h, hn, hq, hY => by omega
  | true, c :: l, Y, n, q + 1, h, hn, hq, hY => by
    show sk true (c :: (l.take q ++ Y)) = _
    by_cases h8 : cl c = 8
    · rw [sk_t8 h8] at h ⊢
      obtain ⟨m, rfl, h2⟩ := pair_succ h
      rw [sk_stop false l Y m q h2 (by simp at hn; omega) (by omega) hY]
    · by_cases h0 : cl c = 0
      · rw [sk_t0 h0] at h; cases h
      · rw [sk_tt h8 h0] at h ⊢
        obtain ⟨m, rfl, h2⟩ := pair_succ h
        rw [sk_stop true l Y m q h2 (by simp at hn; omega) (by omega) hY]
  | false, c :: l, Y, n, q + 1, h, hn, hq, hY => by
    show sk false (c :: (l.take q ++ Y)) = _
    by_cases hb : cl c = 8 ∨ cl c = 12
    · rw [sk_fb hb] at h ⊢
      obtain ⟨m, rfl, h2⟩ := pair_succ h
      rw [sk_stop false l Y m q h2 (by simp at hn; omega) (by omega) hY]
    · by_cases hc : c = 47 ∧ l.head? = some 47
      · obtain ⟨rfl, hh⟩ := hc
        rw [sk_fc hh] at h
        obtain ⟨m, rfl, h2⟩ := pair_succ h
        rw [sk_fc (by
          cases q with
          | zero => omega
          | succ q => cases l with
            | nil => simp at hh
            | cons d l => simpa using hh), sk_stop true l Y m q h2 (by simp at hn; omega) (by omega) hY]
      · rw [sk_ff hb hc] at h
        cases h
        refine sk_ff hb ?_
        rintro ⟨rfl, h2⟩
        exact head_ext hY (fun e => hc ⟨rfl, e⟩) h2

theorem sk_pos {l : List UInt8} {n : Nat} {t : Bool} (hh : l.head? = some 47) (h : sk true l = (n, t)) : 0 < n := by
  cases l with
  | nil => simp at hh
  | cons c l =>
    simp at hh
    subst hh
    rw [sk_tt (by rw [cl47]; omega) (by rw [cl47]; omega)] at h
    obtain ⟨m, rfl, _⟩ := pair_succ h
    omega

theorem sk_pass : ∀ (b : Bool) (l Y : List UInt8) (n : Nat), sk b l = (n, true) → n < l.length → sk b (l.take n ++ Y) = (n + (sk false Y).1, (sk false Y).2)
  | b, [], Y, n, h, hn => by simp at hn
  | true, c :: l, Y, n, h, hn => by
    by_cases h8 : cl c = 8
    · rw [sk_t8 h8] at h
      obtain ⟨m, rfl, h2⟩ := pair_succ h
      show sk true (c :: (l.take m ++ Y)) = _
      rw [sk_t8 h8, sk_pass false l Y m h2 (by simp at hn; omega)]
      simp; omega
    · by_cases h0 : cl c = 0
      · rw [sk_t0 h0] at h; cases h
      · rw [sk_tt h8 h0] at h
        obtain ⟨m, rfl, h2⟩ := pair_succ h
        show sk true (c :: (l.take m ++ Y)) = _
        rw [sk_tt h8 h0, sk_pass true l Y m h2 (by simp at hn; omega)]
        simp; omega
  | false, c :: l, Y, n, h, hn => by
    by_cases hb : cl c = 8 ∨ cl c = 12
    · rw [sk_fb hb] at h
      obtain ⟨m, rfl, h2⟩ := pair_succ h
      show sk false (c :: (l.take m ++ Y)) = _
      rw [sk_fb hb, sk_pass false l Y m h2 (by simp at hn; omega)]
      simp; omega
    · by_cases hc : c = 47 ∧ l.head? = some 47
      · obtain ⟨rfl, hh⟩ := hc
        rw [sk_fc hh] at h
        obtain ⟨m, rfl, h2⟩ := pair_succ h
        have hm := sk_pos hh h2
        show sk false (47 :: (l.take m ++ Y)) = _
        rw [sk_fc (by
          cases m with
          | zero => omega
          | succ q => cases l with
            | nil => simp at hh
            | cons d l => simpa using hh), sk_pass true l Y m h2 (by simp at hn; omega)]
        simp; omega
      · rw [sk_ff hb hc] at h
        cases h
        simp

theorem sk_take : ∀ (b : Bool) (l : List UInt8), sk b (l.take (sk b l).1) = ((sk b l).1, true)
  | b, [] => by cases b <;> simp [sk]
  | true, c :: l => by
    by_cases h8 : cl c = 8
    · rw [sk_t8 h8]
      show sk true (c :: l.take (sk false l).1) = _
      rw [sk_t8 h8, sk_take false l]
    · by_cases h0 : cl c = 0
      · rw [sk_t0 h0]; simp [sk]
      · rw [sk_tt h8 h0]
        show sk true (c :: l.take (sk true l).1) = _
        rw [sk_tt h8 h0, sk_take true l]
  | false, c :: l => by
    by_cases hb : cl c = 8 ∨ cl c = 12
    · rw [sk_fb hb]
      show sk false (c :: l.take (sk false l).1) = _
      rw [sk_fb hb, sk_take false l]
    · by_cases hc : c = 47 ∧ l.head? = some 47
      · obtain ⟨rfl, hh⟩ := hc
        have hm := sk_pos hh (show sk true l = ((sk true l).1, (sk true l).2) from rfl)
        rw [sk_fc hh]
        show sk false (47 :: l.take (sk true l).1) = _
        rw [sk_fc (by
          obtain ⟨q, hq⟩ : ∃ q, (sk true l).1 = q + 1 := ⟨(sk true l).1 - 1, by omega⟩
          rw [hq]
          cases l with
          | nil => simp at hh
          | cons d l => simpa using hh), sk_take true l]
      · rw [sk_ff hb hc]; simp [sk]

theorem cl10 : cl 10 = 8 := by decide
theorem sk_end : ∀ (b : Bool) (l m : List UInt8), sk b l = (l.length, true) → sk b (l ++ 10 :: m) = (l.length + 1 + (sk false m).1, (sk false m).2)
  | b, [], m, _ => by show sk b (10 :: m) = _; rw [sk_t8 cl10]; simp; omega
  | true, c :: l, m, h => by
    show sk true (c :: (l ++ 10 :: m)) = _
    by_cases h8 : cl c = 8
    · rw [sk_t8 h8] at h ⊢
      obtain ⟨k, hk, h2⟩ := pair_succ h
      have e : k = l.length := by simpa using hk.symm
      subst e
      rw [sk_end false l m h2]
      simp; omega
    · by_cases h0 : cl c = 0
      · rw [sk_t0 h0] at h; cases h
      · rw [sk_tt h8 h0] at h ⊢
        obtain ⟨k, hk, h2⟩ := pair_succ h
        have e : k = l.length := by simpa using hk.symm
        subst e
        rw [sk_end true l m h2]
        simp; omega
  | false, c :: l, m, h => by
    show sk false (c :: (l ++ 10 :: m)) = _
    by_cases hb : cl c = 8 ∨ cl c = 12
    · rw [sk_fb hb] at h ⊢
      obtain ⟨k, hk, h2⟩ := pair_succ h
      have e : k = l.length := by simpa using hk.symm
      subst e
      rw [sk_end false l m h2]
      simp; omega
    · by_cases hc : c = 47 ∧ l.head? = some 47
      · obtain ⟨rfl, hh⟩ := hc
        rw [sk_fc hh] at h
        obtain ⟨k, hk, h2⟩ := pair_succ h
        have e : k = l.length := by simpa using hk.symm
        subst e
        rw [sk_fc (by cases l with | nil => simp at hh | cons d l => simpa using hh), sk_end true l m h2]
        simp; omega
      · rw [sk_ff hb hc] at h; cases h

theorem sk_bad : ∀ (b : Bool) (l Y : List UInt8) (n : Nat), sk b l = (n, false) → sk b (l ++ Y) = (n, false) ∧ n < l.length
  | b, [], Y, n, h => by cases b <;> simp [sk] at h
  | true, c :: l, Y, n, h => by
    show sk true (c :: (l ++ Y)) = _ ∧ _
    by_cases h8 : cl c = 8
    · rw [sk_t8 h8] at h ⊢
      obtain ⟨m, rfl, h2⟩ := pair_succ h
      have := sk_bad false l Y m h2
      rw [this.1]; exact ⟨rfl, by simp; exact this.2⟩
    · by_cases h0 : cl c = 0
      · rw [sk_t0 h0] at h ⊢; cases h; exact ⟨rfl, by simp⟩
      · rw [sk_tt h8 h0] at h ⊢
        obtain ⟨m, rfl, h2⟩ := pair_succ h
        have := sk_bad true l Y m h2
        rw [this.1]; exact ⟨rfl, by simp; exact this.2⟩
  | false, c :: l, Y, n, h => by
    show sk false (c :: (l ++ Y)) = _ ∧ _
    by_cases hb : cl c = 8 ∨ cl c = 12
    · rw [sk_fb hb] at h ⊢
      obtain ⟨m, rfl, h2⟩ := pair_succ h
      have := sk_bad false l Y m h2
      rw [this.1]; exact ⟨rfl, by simp; exact this.2⟩
    · by_cases hc : c = 47 ∧ l.head? = some 47
      · obtain ⟨rfl, hh⟩ := hc
        rw [sk_fc hh] at h
        obtain ⟨m, rfl, h2⟩ := pair_succ h
        have := sk_bad true l Y m h2
        rw [sk_fc (by cases l with | nil => simp at hh | cons d l => simpa using hh), this.1]; exact ⟨rfl, by simp; exact this.2⟩
      · rw [sk_ff hb hc] at h; cases h

theorem sk_at : ∀ (b : Bool) (l : List UInt8) (n : Nat), sk b l = (n, true) → n < l.length → sk false (l.drop n) = (0, true)
  | b, [], n, h, hn => by simp at hn
  | true, c :: l, n, h, hn => by
    by_cases h8 : cl c = 8
    · rw [sk_t8 h8] at h
      obtain ⟨m, rfl, h2⟩ := pair_succ h
      simpa using sk_at false l m h2 (by simp at hn; omega)
    · by_cases h0 : cl c = 0
      · rw [sk_t0 h0] at h; cases h
      · rw [sk_tt h8 h0] at h
        obtain ⟨m, rfl, h2⟩ := pair_succ h
        simpa using sk_at true l m h2 (by simp at hn; omega)
  | false, c :: l, n, h, hn => by
    by_cases hb : cl c = 8 ∨ cl c = 12
    · rw [sk_fb hb] at h
      obtain ⟨m, rfl, h2⟩ := pair_succ h
      simpa using sk_at false l m h2 (by simp at hn; omega)
    · by_cases hc : c = 47 ∧ l.head? = some 47
      · obtain ⟨rfl, hh⟩ := hc
        rw [sk_fc hh] at h
        obtain ⟨m, rfl, h2⟩ := pair_succ h
        simpa using sk_at true l m h2 (by simp at hn; omega)
      · have h' := h
        rw [sk_ff hb hc] at h
        cases h
        simpa using h'

theorem tw_ext {p : UInt8 → Bool} : ∀ (l Y : List UInt8) (q : Nat), (l.takeWhile p).length ≤ q → (∀ y, Y.head? = some y → p y = false) → (l.take q ++ Y).takeWhile p = l.takeWhile p
  | [], Y, q, _, hY => by
    cases Y with
    | nil => simp
    | cons y Y => simp [hY y rfl]
  | c :: l, Y, q, h, hY => by
    by_cases hp : p c = true
    · simp only [List.takeWhile_cons, hp, if_true, List.length_cons] at h
      obtain ⟨r, rfl⟩ : ∃ r, q = r + 1 := ⟨q - 1, by omega⟩
      show (c :: (l.take r ++ Y)).takeWhile p = _
      simp only [List.takeWhile_cons, hp, if_true]
      rw [tw_ext l Y r (by omega) hY]
    · cases q with
      | zero => cases Y with
        | nil => simp [hp]
        | cons y Y => simp [hp, hY y rfl]
      | succ r => simp [hp]

theorem sg_clean : ∀ i, i < 29 → ∀ y ∈ SIGNS.getD i [], ¬ (cl y = 8 ∨ cl y = 12) := by decide
theorem prefix_ext {S l Y : List UInt8} {q : Nat} (hS : ∀ y ∈ S, ¬ (cl y = 8 ∨ cl y = 12)) (hY : Blk Y) (h : S <+: l.take q ++ Y) : S <+: l.take q := by
  by_cases hl : S.length ≤ (l.take q).length
  · exact List.prefix_of_prefix_length_le h (List.prefix_append _ _) hl
  · obtain ⟨R, hR⟩ := List.prefix_of_prefix_length_le (List.prefix_append (l.take q) Y) h (by omega)
    obtain ⟨Z, hZ⟩ := h
    rw [← hR, List.append_assoc] at hZ
    have hZ' := List.append_cancel_left hZ
    cases R with
    | nil => exfalso; simp at hR; rw [← hR] at hl; simp at hl
    | cons r R =>
      exfalso
      exact hS r (by rw [← hR]; simp) (hY r (by rw [← hZ']; rfl))

theorem bst_mono (l : List UInt8) (i : Nat) : ∀ d, (bst l i).2 ≤ (bst l (i + d)).2
  | 0 => Nat.le_refl _
  | d + 1 => by
    have ih := bst_mono l i d
    show _ ≤ (bst l (i + d + 1)).2
    rw [bst]
    split
    · rename_i h; have := h.1; simp only; omega
    · exact ih

theorem bst_ext {l Y : List UInt8} {q : Nat} (hY : Blk Y) (hq : (bst l 29).2 ≤ q) : ∀ i, i ≤ 29 → bst (l.take q ++ Y) i = bst l i
  | 0, _ => rfl
  | i + 1, hi => by
    have ih := bst_ext hY hq i (by omega)
    rw [bst, bst, ih]
    have hiff : ((bst l i).2 < (SIGNS.getD i []).length ∧ (SIGNS.getD i []).isPrefixOf (l.take q ++ Y) = true) ↔ ((bst l i).2 < (SIGNS.getD i []).length ∧ (SIGNS.getD i []).isPrefixOf l = true) := by
      constructor
      · rintro ⟨h1, h2⟩
        rw [List.isPrefixOf_iff_prefix] at h2 ⊢
        exact ⟨h1, (prefix_ext (sg_clean i (by omega)) hY h2).trans (List.take_prefix _ _)⟩
      · rintro ⟨h1, h2⟩
        refine ⟨h1, ?_⟩
        have hm : (bst l (i + 1)).2 ≤ (bst l 29).2 := by
          have := bst_mono l (i + 1) (28 - i)
          rwa [show i + 1 + (28 - i) = 29 by omega] at this
        rw [bst, if_pos ⟨h1, h2⟩] at hm
        rw [List.isPrefixOf_iff_prefix] at h2 ⊢
        have : SIGNS.getD i [] <+: l.take q := List.prefix_take_iff.2 ⟨h2, by simp only at hm; omega⟩
        exact this.trans (List.prefix_append _ _)
    simp only [hiff]

theorem tk_ext {l Y : List UInt8} {q : Nat} (hl : l ≠ []) (hY : Blk Y) (h : ∀ t m, tk l = .ok (t, m) → m ≤ q) (he : ∀ e, tk l = .error e → l.length ≤ q) : tk (l.take q ++ Y) = tk l := by
  cases l with
  | nil => exact absurd rfl hl
  | cons c l =>
    have hq : 0 < q := by
      cases ht : tk (c :: l) with
      | ok p => have := tk_ok (t := p.1) (m := p.2) (by rw [ht]); have := h p.1 p.2 (by rw [ht]); omega
      | error e => have := he e ht; simp at this; omega
    obtain ⟨r, rfl⟩ : ∃ r, q = r + 1 := ⟨q - 1, by omega⟩
    have e0 : (c :: l).take (r + 1) ++ Y = c :: (l.take r ++ Y) := rfl
    by_cases h7 : cl c = 7
    · have hw : ((c :: l).takeWhile isDg).length ≤ r + 1 := by
        cases hv : numVal ((c :: l).takeWhile isDg) with
        | none =>
          have := he 22 (by simp only [tk, h7, if_true, hv])
          have h2 := (List.takeWhile_prefix (p := isDg) (l := c :: l)).length_le
          omega
        | some v => exact h ⟨2, v, []⟩ _ (by simp only [tk, h7, if_true, hv])
      have e1 := tw_ext (p := isDg) (c :: l) Y (r + 1) hw (fun y hy => by have := hY y hy; simp [isDg]; omega)
      rw [e0] at e1 ⊢
      simp only [tk, h7, if_true, e1]
    · by_cases h6 : cl c = 6
      · have hw : ((c :: l).takeWhile isNm).length ≤ r + 1 := by
          by_cases h64 : 64 < ((c :: l).takeWhile isNm).length
          · have := he 21 (by simp [tk, h6, h64])
            have h2 := (List.takeWhile_prefix (p := isNm) (l := c :: l)).length_le
            omega
          · exact h (nameTk ((c :: l).takeWhile isNm)) _ (by rw [tk, if_neg h7, if_pos h6, if_neg h64])
        have e1 := tw_ext (p := isNm) (c :: l) Y (r + 1) hw (fun y hy => by have := hY y hy; simp [isNm]; omega)
        rw [e0] at e1 ⊢
        rw [tk, tk, if_neg h7, if_neg h7, if_pos h6, if_pos h6, e1]
      · have hw : (bst (c :: l) 29).2 ≤ r + 1 := by
          by_cases hb : (bst (c :: l) 29).2 = 0
          · omega
          · exact h ⟨(bst (c :: l) 29).1, 0, []⟩ _ (by rw [tk, if_neg h7, if_neg h6, if_neg hb])
        have e1 := bst_ext (l := c :: l) hY hw 29 (by omega)
        rw [e0] at e1 ⊢
        rw [tk, tk, if_neg h7, if_neg h7, if_neg h6, if_neg h6, e1]
end Go.Proofs.YteiambniddddpaaDoor
