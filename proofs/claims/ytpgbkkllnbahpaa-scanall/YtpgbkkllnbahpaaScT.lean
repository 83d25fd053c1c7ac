import Derived.Test.YtpgbkkllnbahpaaScS
set_option linter.unusedVariables false
set_option linter.unusedSimpArgs false
namespace Go.Proofs.Ytpgbkkllnbahpaa

theorem wth_cons {α : Type} (p : α → Bool) (x a : α) (l : List α) : wth p x (a :: l) = if p a = true then x :: a :: l else a :: wth p x l := by
  unfold wth
  rw [List.findIdx_cons]
  cases h : p a <;> simp
theorem wth_sorted {α : Type} {R : α → α → Prop} (tr : ∀ a b c, R a b → R b c → R a c) {p : α → Bool} {x : α} : ∀ (l : List α), l.Pairwise R → (∀ o ∈ l, p o = true → R x o) → (∀ o ∈ l, p o = false → R o x) → (wth p x l).Pairwise R
  | [], _, _, _ => by simp [wth]
  | a :: l, h, h1, h2 => by
    rw [wth_cons]
    obtain ⟨ha, hl⟩ := List.pairwise_cons.1 h
    split
    · next q =>
      have := h1 a (by simp) q
      refine List.pairwise_cons.2 ⟨fun o ho => ?_, h⟩
      rcases List.mem_cons.1 ho with rfl | ho
      · exact this
      · exact tr _ _ _ this (ha o ho)
    · next q =>
      refine List.pairwise_cons.2 ⟨fun o ho => ?_, wth_sorted tr l hl (fun o ho => h1 o (by simp [ho])) (fun o ho => h2 o (by simp [ho]))⟩
      rcases wth_mem.1 ho with rfl | ho
      · exact h2 a (by simp) (by simpa using q)
      · exact ha o ho
theorem aft_iff {a b : Iv} : aft a b = true ↔ a.2.2 < b.2.2 ∨ (b.2.2 = a.2.2 ∧ a.1 < b.1) := by simp [aft]
theorem aft_trans (a b c : Iv) (h1 : aft a b = true) (h2 : aft b c = true) : aft a c = true := by
  rw [aft_iff] at *
  omega
theorem aft_irr (a : Iv) : aft a a = false := by
  cases h : aft a a with
  | false => rfl
  | true => rw [aft_iff] at h; omega
theorem aft_total {a b : Iv} (h : a.1 ≠ b.1) (hf : aft a b = false) : aft b a = true := by
  have : ¬ aft a b = true := by rw [hf]; simp
  rw [aft_iff] at this ⊢
  omega
theorem fre_inv (F : Int) (pl : List Lc) (r : Int) : ∀ (a : List Iv) (sp : List Int), a.Pairwise (fun x y => aft x y = true) → sp.Pairwise (· < ·) → (∀ y ∈ a, 0 ≤ (plc pl y.1).2 ∧ (plc pl y.1).2 < r) → (∀ q, q ∈ sp ↔ 0 ≤ q ∧ q < r ∧ ∀ y ∈ a, (plc pl y.1).2 ≠ q) → (∀ y ∈ a, ∀ z ∈ a, (plc pl y.1).2 = (plc pl z.1).2 → y = z) →
    (∀ y, y ∈ (fre F pl a sp).1 ↔ y ∈ a ∧ F ≤ y.2.2) ∧ (fre F pl a sp).1.Pairwise (fun x y => aft x y = true) ∧ (fre F pl a sp).2.Pairwise (· < ·) ∧ (∀ q, q ∈ (fre F pl a sp).2 ↔ 0 ≤ q ∧ q < r ∧ ∀ y ∈ (fre F pl a sp).1, (plc pl y.1).2 ≠ q)
  | [], sp, _, h2, _, h4, _ => ⟨by simp [fre], by simp [fre], by simpa [fre] using h2, by simpa [fre] using h4⟩
  | x :: a, sp, h1, h2, h3, h4, h5 => by
    obtain ⟨ha, hl⟩ := List.pairwise_cons.1 h1
    unfold fre
    split
    · next hx =>
      have hne : ∀ z ∈ a, (plc pl z.1).2 ≠ (plc pl x.1).2 := fun z hz e => by
        have := h5 z (by simp [hz]) x (by simp) e
        subst this
        have := ha z hz
        rw [aft_irr] at this
        cases this
      obtain ⟨k1, k2, k3, k4⟩ := fre_inv F pl r a (wth (fun o => decide ((plc pl x.1).2 < o)) (plc pl x.1).2 sp) hl
        (wth_sorted (R := fun a b : Int => a < b) (p := fun o => decide ((plc pl x.1).2 < o)) (x := (plc pl x.1).2) (fun a b c h h' => Int.lt_trans h h') sp h2 (fun o _ q => by simpa using q) (fun o ho q => by
          have h6 : o ≠ (plc pl x.1).2 := fun e => ((h4 o).1 ho).2.2 x (by simp) e.symm
          simp at q
          omega))
        (fun y hy => h3 y (by simp [hy]))
        (fun q => by
          rw [wth_mem, h4]
          constructor
          · rintro (rfl | ⟨q1, q2, q3⟩)
            · exact ⟨(h3 x (by simp)).1, (h3 x (by simp)).2, hne⟩
            · exact ⟨q1, q2, fun y hy => q3 y (by simp [hy])⟩
          · rintro ⟨q1, q2, q3⟩
            by_cases e : q = (plc pl x.1).2
            · exact .inl e
            · refine .inr ⟨q1, q2, fun y hy => ?_⟩
              rcases List.mem_cons.1 hy with rfl | hy
              · exact fun e' => e e'.symm
              · exact q3 y hy)
        (fun y hy z hz => h5 y (by simp [hy]) z (by simp [hz]))
      refine ⟨fun y => ?_, k2, k3, k4⟩
      rw [k1]
      constructor
      · rintro ⟨q1, q2⟩; exact ⟨by simp [q1], q2⟩
      · rintro ⟨q1, q2⟩
        rcases List.mem_cons.1 q1 with rfl | q1
        · omega
        · exact ⟨q1, q2⟩
    · next hx =>
      refine ⟨fun y => ⟨fun hy => ⟨hy, ?_⟩, fun hy => hy.1⟩, h1, h2, h4⟩
      rcases List.mem_cons.1 hy with rfl | hy
      · omega
      · have := aft_iff.1 (ha y hy)
        omega
/-- What the lists of the statements are. -/
structure G1 (L : List Iv) (m : Nat) : Prop where
  reg : ∀ x ∈ L, 0 ≤ x.1 ∧ x.1 < (m : Int)
  ft : ∀ x ∈ L, x.2.1 ≤ x.2.2
  up : L.Pairwise (fun a b => a.2.1 ≤ b.2.1)
  once : (L.map (·.1)).Nodup
structure Inv (L : List Iv) (r : Nat) (i : Nat) (F : Int) (s : SS) : Prop where
  act : ∀ y, y ∈ s.act ↔ y ∈ L.take i ∧ (plc s.pl y.1).1 = 1 ∧ F ≤ y.2.2
  srt : s.act.Pairwise (fun a b => aft a b = true)
  spm : ∀ q, q ∈ s.sp ↔ 0 ≤ q ∧ q < (r : Int) ∧ ∀ y ∈ s.act, (plc s.pl y.1).2 ≠ q
  sps : s.sp.Pairwise (· < ·)
  dis : ∀ y ∈ s.act, ∀ z ∈ s.act, (plc s.pl y.1).2 = (plc s.pl z.1).2 → y = z
  kin : ∀ y ∈ L.take i, ((plc s.pl y.1).1 = 1 ∧ 0 ≤ (plc s.pl y.1).2 ∧ (plc s.pl y.1).2 < (r : Int)) ∨ ((plc s.pl y.1).1 = 2 ∧ 0 ≤ (plc s.pl y.1).2 ∧ (plc s.pl y.1).2 < (s.sl : Int))
theorem Inv.init (L : List Iv) (r n : Nat) (F : Int) : Inv L r 0 F (SS.init n r) := by
  refine ⟨by simp [SS.init], by simp [SS.init], fun q => ?_, ?_, by simp [SS.init], by simp⟩
  · simp only [SS.init, List.mem_map, List.mem_range]
    constructor
    · rintro ⟨k, hk, rfl⟩
      exact ⟨by omega, by omega, by simp⟩
    · rintro ⟨h1, h2, _⟩
      exact ⟨q.toNat, by omega, by omega⟩
  · simp only [SS.init]
    rw [List.pairwise_map]
    exact List.pairwise_lt_range.imp fun h => by omega
theorem Inv.free {L r i F s} (h : Inv L r i F s) {F' : Int} (hF : F ≤ F') : Inv L r i F' (s.free F') := by
  obtain ⟨k1, k2, k3, k4⟩ := fre_inv F' s.pl r s.act s.sp h.srt h.sps (fun y hy => by
    obtain ⟨q1, q2, _⟩ := (h.act y).1 hy
    rcases h.kin y q1 with q | q
    · exact q.2
    · omega) h.spm h.dis
  refine ⟨fun y => ?_, k2, k4, k3, fun y hy z hz => h.dis y ((k1 y).1 hy).1 z ((k1 z).1 hz).1, h.kin⟩
  show y ∈ (fre F' s.pl s.act s.sp).1 ↔ _
  rw [k1, h.act]
  constructor
  · rintro ⟨⟨q1, q2, _⟩, q3⟩; exact ⟨q1, q2, q3⟩
  · rintro ⟨q1, q2, q3⟩; exact ⟨⟨q1, q2, by omega⟩, q3⟩
theorem plc_set {pl : List Lc} {a b : Int} {p : Lc} (ha : 0 ≤ a ∧ a < (pl.length : Int)) (hb : 0 ≤ b) : plc (pl.set a.toNat p) b = if b = a then p else plc pl b := by
  unfold plc
  simp only [List.getD_eq_getElem?_getD, List.getElem?_set]
  by_cases e : b = a
  · subst e
    rw [if_pos rfl, if_pos rfl, if_pos (by omega)]
    rfl
  · rw [if_neg (by omega), if_neg e]
theorem mem_dropLast {l : List Iv} (hs : l.Pairwise (fun a b => aft a b = true)) (hne : l ≠ []) (y : Iv) : y ∈ l.dropLast ↔ y ∈ l ∧ y ≠ lastOf l := by
  have e := List.dropLast_concat_getLast hne
  have el : lastOf l = l.getLast hne := by
    unfold lastOf
    rw [List.getLastD_eq_getLast?, List.getLast?_eq_some_getLast hne]
    rfl
  rw [el]
  have hs' := hs
  rw [← e, List.pairwise_append] at hs'
  constructor
  · intro h
    refine ⟨(List.dropLast_sublist _).mem h, fun q => ?_⟩
    have := hs'.2.2 y h (l.getLast hne) (by simp)
    rw [q, aft_irr] at this
    cases this
  · rintro ⟨h1, h2⟩
    rw [← e] at h1
    rcases List.mem_append.1 h1 with q | q
    · exact q
    · simp at q; exact absurd q h2
theorem lastOf_mem {l : List Iv} (hne : l ≠ []) : lastOf l ∈ l := by
  unfold lastOf
  rw [List.getLastD_eq_getLast?, List.getLast?_eq_some_getLast hne]
  exact List.getLast_mem hne
theorem lastOf_max {l : List Iv} (hs : l.Pairwise (fun a b => aft a b = true)) (hne : l ≠ []) : ∀ y ∈ l, y ≠ lastOf l → aft y (lastOf l) = true := by
  intro y hy hn
  have e := List.dropLast_concat_getLast hne
  have el : lastOf l = l.getLast hne := by
    unfold lastOf
    rw [List.getLastD_eq_getLast?, List.getLast?_eq_some_getLast hne]
    rfl
  have hd := (mem_dropLast hs hne y).2 ⟨hy, hn⟩
  rw [← e, List.pairwise_append] at hs
  rw [el]
  exact hs.2.2 y hd _ (by simp)
end Go.Proofs.Ytpgbkkllnbahpaa
