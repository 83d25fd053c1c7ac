import Derived.Test.YteiambniddddpaaDoorLxY
set_option linter.unusedVariables false
namespace Go.Proofs.YteiambniddddpaaDoor
open Go.ChangeShapes Go.WideShapes Go.ChangeAt Go.RowKit

/-- What a text may go on with: the text so far is read to its end. -/
structure BR (X : List UInt8) (ts : List T) : Prop where
  out : ∀ Y, Blk Y → ∀ ts' p e, Lexes X.length Y ts' p e → Lexes 0 (X ++ Y) (ts ++ ts') p e
theorem BR.nil : BR [] [] := ⟨fun Y _ ts' p e h => h⟩

/-- A token's bytes: they stand for it wherever a blank or the end comes behind. -/
structure Spell (S : List UInt8) (t : Tk) : Prop where
  ne : S ≠ []
  tok : ∀ Y, Blk Y → tk (S ++ Y) = .ok (t, S.length)
  free : ∀ Y, Blk Y → sk false (S ++ Y) = (0, true)

theorem BR.next {X ts g S t} (h : BR X ts) (hg : Gap g) (hS : Spell S t) : BR (X ++ g ++ S) (ts ++ [⟨t.kind, X.length + g.length, t.val, t.name⟩]) := by
  refine ⟨fun Y hY ts' p e hl => ?_⟩
  have h1 := h.out (g ++ (S ++ Y)) (hg.app _)
  have e1 := hg.pass (S ++ Y)
  rw [hS.free Y hY] at e1
  have hd : (g ++ (S ++ Y)).drop g.length = S ++ Y := by simp
  have hS0 : 0 < S.length := List.length_pos_iff.2 hS.ne
  have h2 := Lexes.tok (k := X.length) (l := g ++ (S ++ Y)) (n := g.length) (t := t) (m := S.length) (ts := ts') (p := p) (e := e) (by simpa using e1) (by simp; omega) (by rw [hd]; exact hS.tok Y hY)
    (by rw [← List.drop_drop, hd, List.drop_left]; simpa [Nat.add_assoc] using hl)
  have h3 := h1 _ _ _ h2
  simpa using h3

theorem BR.done {X ts} (h : BR X ts) : Lexes 0 X ts 0 0 := by
  have := h.out [] Blk.nil [] 0 0 (.fin (by simp [sk]))
  simpa using this

def TAIL : List UInt8 := [32, 47, 47, 32, 116, 104, 101, 32, 101, 110, 100, 44, 32, 119, 105, 116, 104, 111, 117, 116, 32, 97, 32, 108, 105, 110, 101, 39, 115]
theorem BR.tail {X ts} (h : BR X ts) : Lexes 0 (X ++ TAIL) ts 0 0 := by
  have := h.out TAIL (.cons (.inr (by decide))) [] 0 0 (.fin (by decide))
  simpa using this

theorem tw_self {p : UInt8 → Bool} : ∀ {S : List UInt8}, (∀ c ∈ S, p c = true) → S.takeWhile p = S
  | [], _ => rfl
  | c :: S, h => by rw [List.takeWhile_cons, if_pos (h c (by simp)), tw_self (fun x hx => h x (by simp [hx]))]
theorem tw_all {p : UInt8 → Bool} {S Y : List UInt8} (h : ∀ c ∈ S, p c = true) (hY : ∀ y, Y.head? = some y → p y = false) : (S ++ Y).takeWhile p = S := by
  have := tw_ext (p := p) S Y S.length ((List.takeWhile_prefix (p := p)).length_le) hY
  rw [List.take_length] at this
  rw [this, tw_self h]

theorem spell_num {v : Nat} (h : v ≤ 9223372036854775807) : Spell (dec v) ⟨2, v, []⟩ := by
  cases hd : dec v with
  | nil => exact absurd hd (dec_ne v)
  | cons c l =>
    have hall := dec_dg v
    rw [hd] at hall
    have h7 : cl c = 7 := hall c (by simp)
    refine ⟨by simp, fun Y hY => ?_, fun Y hY => ?_⟩
    · have e : ((c :: l) ++ Y).takeWhile isDg = c :: l := tw_all (fun x hx => by simp [isDg, hall x hx]) (fun y hy => by have := hY y hy; simp [isDg]; omega)
      have e' : (c :: (l ++ Y)).takeWhile isDg = c :: l := e
      show tk (c :: (l ++ Y)) = _
      have hn := dec_num h
      rw [hd] at hn
      rw [tk, if_pos h7, e', hn]
    · exact sk_ff (by omega) (by rintro ⟨rfl, _⟩; rw [cl47] at h7; omega)

theorem spell_name {S : List UInt8} {c : UInt8} {l : List UInt8} (hc : S = c :: l) (h6 : cl c = 6) (hall : ∀ x ∈ S, isNm x = true) (hlen : S.length ≤ 64) : Spell S (nameTk S) := by
  subst hc
  refine ⟨by simp, fun Y hY => ?_, fun Y hY => ?_⟩
  · have e : ((c :: l) ++ Y).takeWhile isNm = c :: l := tw_all hall (fun y hy => by have := hY y hy; simp [isNm]; omega)
    have e' : (c :: (l ++ Y)).takeWhile isNm = c :: l := e
    show tk (c :: (l ++ Y)) = _
    rw [tk, if_neg (by omega), if_pos h6, e', if_neg (by omega)]
  · exact sk_ff (by omega) (by rintro ⟨rfl, _⟩; rw [cl47] at h6; omega)

theorem word_facts : ∀ i, i < 18 → (WORDS.getD i []).length ≤ 64 ∧ (∀ x ∈ WORDS.getD i [], isNm x = true) ∧ (∀ x ∈ WORDS.getD i [], cl x ≠ 7) ∧ ((WORDS.getD i []).head?.map cl = some 6) ∧ WORDS.findIdx? (· == WORDS.getD i []) = some i := by decide
theorem spell_word {i : Nat} (hi : i < 18) : Spell (WORDS.getD i []) ⟨10 + i, 0, []⟩ := by
  obtain ⟨h1, h2, _, h4, h5⟩ := word_facts i hi
  cases hw : WORDS.getD i [] with
  | nil => rw [hw] at h4; simp at h4
  | cons c l =>
    rw [hw] at h1 h2 h4 h5
    have := spell_name (S := c :: l) rfl (by simpa using h4) h2 h1
    have e : nameTk (c :: l) = ⟨10 + i, 0, []⟩ := by simp [nameTk, h5]
    rwa [e] at this

theorem sign_facts : ∀ i, i < 29 → bst (SIGNS.getD i []) 29 = (40 + i, (SIGNS.getD i []).length) ∧ ((SIGNS.getD i []).head?.map cl = some 4) ∧ ¬ ([47, 47] : List UInt8).isPrefixOf (SIGNS.getD i []) = true := by decide +kernel
theorem spell_sign {i : Nat} (hi : i < 29) : Spell (SIGNS.getD i []) ⟨40 + i, 0, []⟩ := by
  obtain ⟨h1, h2, h3⟩ := sign_facts i hi
  have h0 := (signs_len i hi).2
  cases hw : SIGNS.getD i [] with
  | nil => rw [hw] at h2; simp at h2
  | cons c l =>
    rw [hw] at h1 h2 h0 h3
    have h4 : cl c = 4 := by simpa using h2
    refine ⟨by simp, fun Y hY => ?_, fun Y hY => ?_⟩
    · have e := bst_ext (l := c :: l) (Y := Y) (q := (c :: l).length) hY (by rw [h1]; exact Nat.le_refl _) 29 (by omega)
      rw [List.take_length, h1] at e
      have e' : bst (c :: (l ++ Y)) 29 = _ := e
      show tk (c :: (l ++ Y)) = _
      rw [tk, if_neg (by omega), if_neg (by omega), e', if_neg (by simp)]
      rfl
    · refine sk_ff (by omega) ?_
      rintro ⟨rfl, hh⟩
      apply h3
      rw [two_prefix]
      cases l with
      | nil => exact absurd hh hY.not47
      | cons d l => simpa using hh
end Go.Proofs.YteiambniddddpaaDoor
