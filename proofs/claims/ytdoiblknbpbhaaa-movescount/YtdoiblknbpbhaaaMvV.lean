import Derived.Test.YtdoiblknbpbhaaaMvT
set_option linter.unusedVariables false
set_option linter.unusedSimpArgs false
namespace Go.Proofs.Ytdoiblknbpbhaaa

/-- What each place holds when the moves have been done one behind the other. -/
def ex (h : Lc → Int) : List Mv → Lc → Int
  | [], p => h p
  | m :: r, p => ex (fun q => if q = m.1 then h m.2 else h q) r p
theorem ex_app (h : Lc → Int) (L M : List Mv) (p : Lc) : ex h (L ++ M) p = ex (ex h L) M p := by
  induction L generalizing h with
  | nil => rfl
  | cons a L ih => exact ih _
theorem ex_snoc (h : Lc → Int) (L : List Mv) (m : Mv) (p : Lc) : ex h (L ++ [m]) p = if p = m.1 then ex h L m.2 else ex h L p := by
  rw [ex_app]; rfl
/-- Behind some of the document's steps: what is left reads what its move is to get; what was put has it. -/
structure XI (h : Lc → Int) (t : Lc) (A0 left out : List Mv) : Prop where
  gd : Gd t left
  sub : ∀ m ∈ left, ∃ o ∈ A0, o.1 = m.1
  l1 : ∀ m ∈ left, ∀ o ∈ A0, o.1 = m.1 → ex h out m.2 = h o.2
  l2 : ∀ o ∈ A0, o.1 ∉ left.map Prod.fst → ex h out o.1 = h o.2
  l3 : ∀ p, p ≠ t → (∀ o ∈ A0, o.1 ≠ p) → ex h out p = h p
  to_ : ∀ m ∈ out, m.1 = t ∨ ∃ o ∈ A0, o.1 = m.1
  o : out.length + 2 * left.length ≤ 2 * A0.length + (left.map Prod.snd).count t
theorem XI.start {h : Lc → Int} {t : Lc} {A0 : List Mv} (g : Gd t A0) : XI h t A0 A0 [] := by
  refine ⟨g, fun m hm => ⟨m, hm, rfl⟩, fun m hm o ho e => ?_, fun o ho hn => absurd (List.mem_map_of_mem ho) hn, fun p _ _ => rfl, by simp, by simp⟩
  obtain ⟨i, hi, rfl⟩ := List.getElem_of_mem hm
  obtain ⟨j, hj, rfl⟩ := List.getElem_of_mem ho
  have := g.inj hj hi e
  subst this
  rfl
theorem XI.step {h : Lc → Int} {t : Lc} {A0 left out : List Mv} (g0 : Gd t A0) (H : XI h t A0 left out) : XI h t A0 (ds t (left, out)).1 (ds t (left, out)).2 := by
  by_cases hne : left = []
  · subst hne; exact H
  · have hg := (ds_less (out := out) H.gd hne).1
    rcases fre_cases (fre left) left with hf | ⟨X, m, Y, rfl, h1, h2⟩
    · obtain ⟨m, r, rfl⟩ := List.exists_cons_of_ne_nil hne
      have hc := none_free H.gd.nd hf t
      rw [List.count_eq_zero_of_not_mem H.gd.nt] at hc
      have hnt := List.count_eq_zero.1 hc
      have hm2 : m.2 ≠ t := fun e => hnt (by rw [← e]; simp)
      rw [ds_temp hf] at hg ⊢
      refine ⟨hg, fun x hx => ?_, fun x hx o ho e => ?_, fun o ho hn => ?_, fun p hp hn => ?_, fun x hx => ?_, ?_⟩
      · rcases List.mem_cons.1 hx with rfl | hx
        · exact H.sub m (by simp)
        · exact H.sub x (by simp [hx])
      · rw [ex_snoc]
        rcases List.mem_cons.1 hx with rfl | hx
        · rw [if_pos rfl]
          exact H.l1 m (by simp) o ho e
        · have : x.2 ≠ t := fun e => hnt (by rw [← e]; exact List.mem_map_of_mem (by simp [hx]))
          rw [if_neg this]
          exact H.l1 x (by simp [hx]) o ho e
      · have hot : o.1 ≠ t := fun e => g0.nt (by rw [← e]; exact List.mem_map_of_mem ho)
        rw [ex_snoc, if_neg hot]
        exact H.l2 o ho (by simpa using hn)
      · rw [ex_snoc, if_neg hp]
        exact H.l3 p hp hn
      · rcases List.mem_append.1 hx with hx | hx
        · exact H.to_ x hx
        · simp at hx; subst hx; exact .inl rfl
      · have := H.o
        simp only [List.map_cons, cons_count, List.length_append, List.length_cons, List.length_nil] at this ⊢
        rw [one_self]
        rw [one_ne hm2] at this
        omega
    · rw [ds_put h1 h2] at hg ⊢
      have hfr : ∀ x ∈ X ++ m :: Y, x.2 ≠ m.1 := fun x hx e => by
        have : rd (X ++ m :: Y) m.1 = true := List.any_eq_true.2 ⟨x, hx, by simpa using e⟩
        simp [fre, this] at h2
      have hmX : ∀ x ∈ X ++ Y, x ∈ X ++ m :: Y := fun x hx => by
        rcases List.mem_append.1 hx with hx | hx
        · simp [hx]
        · simp [hx]
      have hmm : m ∈ X ++ m :: Y := by simp
      refine ⟨hg, fun x hx => H.sub x (hmX x hx), fun x hx o ho e => ?_, fun o ho hn => ?_, fun p hp hn => ?_, fun x hx => ?_, ?_⟩
      · rw [ex_snoc, if_neg (hfr x (hmX x hx))]
        exact H.l1 x (hmX x hx) o ho e
      · rw [ex_snoc]
        by_cases e : o.1 = m.1
        · rw [if_pos e]
          exact H.l1 m hmm o ho e
        · rw [if_neg e]
          refine H.l2 o ho fun hm => hn ?_
          simp only [List.map_append, List.map_cons, List.mem_append, List.mem_cons] at hm ⊢
          rcases hm with hm | hm | hm
          · exact .inl hm
          · exact absurd hm e
          · exact .inr hm
      · rw [ex_snoc]
        obtain ⟨o, ho, e⟩ := H.sub m hmm
        rw [if_neg (fun e2 => hn o ho (by rw [e, e2]))]
        exact H.l3 p hp hn
      · rcases List.mem_append.1 hx with hx | hx
        · exact H.to_ x hx
        · simp at hx; subst hx; exact .inr (H.sub x hmm)
      · have := H.o
        simp only [List.map_append, List.map_cons, List.count_append, cons_count, List.length_append, List.length_cons, List.length_nil] at this ⊢
        have := one_le m.2 t
        omega
theorem XI.run {h : Lc → Int} {t : Lc} {A0 : List Mv} (g0 : Gd t A0) : ∀ (n : Nat) (left out : List Mv), XI h t A0 left out → XI h t A0 (dn t n (left, out)).1 (dn t n (left, out)).2
  | 0, left, out, H => H
  | n + 1, left, out, H => by
    have := H.step g0
    exact XI.run g0 n _ _ this
/-- P1303 of what is answered. -/
theorem ord_does {t : Lc} {l : List Mv} (g : Gd t l) (h : Lc → Int) : (∀ m ∈ l, ex h (ord t l) m.1 = h m.2) ∧ (∀ p, p ≠ t → p ∉ l.map Prod.fst → ex h (ord t l) p = h p) ∧ (∀ m ∈ ord t l, m.1 = t ∨ m.1 ∈ l.map Prod.fst) ∧ (ord t l).length ≤ 2 * l.length := by
  have H := XI.run (h := h) g.lft (3 * (lft l).length) (lft l) [] (XI.start g.lft)
  rw [ord_run g] at H
  have hl : (lft l).length ≤ l.length := List.length_filter_le _ _
  have hin : ∀ o ∈ lft l, o ∈ l := fun o ho => (List.mem_filter.1 ho).1
  refine ⟨fun m hm => ?_, fun p hp hn => H.l3 p hp fun o ho e => hn (by rw [← e]; exact List.mem_map_of_mem (hin o ho)), fun m hm => ?_, ?_⟩
  · by_cases hs : stays m = true
    · have e : m.2 = m.1 := by simpa [stays] using hs
      rw [e]
      refine H.l3 _ (fun e2 => g.nt (by rw [← e2]; exact List.mem_map_of_mem hm)) fun o ho e2 => ?_
      obtain ⟨i, hi, rfl⟩ := List.getElem_of_mem (hin o ho)
      obtain ⟨j, hj, rfl⟩ := List.getElem_of_mem hm
      have := g.inj hi hj e2
      subst this
      have := (List.mem_filter.1 ho).2
      simp [hs] at this
    · have hml : m ∈ lft l := List.mem_filter.2 ⟨hm, by simpa using hs⟩
      exact H.l2 m hml (by simp)
  · rcases H.to_ m hm with e | ⟨o, ho, e⟩
    · exact .inl e
    · exact .inr (by rw [← e]; exact List.mem_map_of_mem (hin o ho))
  · have := H.o
    simp at this
    omega
end Go.Proofs.Ytdoiblknbpbhaaa
