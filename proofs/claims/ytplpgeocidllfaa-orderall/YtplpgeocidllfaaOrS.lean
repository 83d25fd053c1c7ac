import Derived.Test.YtplpgeocidllfaaOrM
set_option linter.unusedVariables false
set_option linter.unusedSimpArgs false
namespace Go.Proofs.Ytplpgeocidllfaa

theorem orun_inv {Ls : List (List Int)} (hg : goodP Ls = true) {I : OS → Prop} (hI : ∀ s, OI Ls s → s.way ≠ [] → I s → I (stp Ls s)) : ∀ (k : Nat) (s : OS), OI Ls s → I s → I (orun Ls k s)
  | 0, s, _, h => h
  | k + 1, s, ho, h => by
    by_cases hw : s.way = []
    · rw [orun_end _ _ _ hw]; exact h
    · rw [orun_more _ _ _ hw]
      exact orun_inv hg hI k _ (ho.step hg hw).1 (hI s ho hw h)
/-- An entry that is a branch to two parts. -/
def sh (by' : Int) (l : List Int) : List Int := l.map (· + by')
def wyL (Y N : List (List Int)) : List (List Int) := [1, 1 + (Y.length : Int)] :: (Y.map (sh 1) ++ N.map (sh (1 + (Y.length : Int))))
theorem wyL_len (Y N : List (List Int)) : (wyL Y N).length = 1 + Y.length + N.length := by simp [wyL]; omega
theorem wy_zero (Y N : List (List Int)) : rowOf (wyL Y N) 0 = [1, 1 + (Y.length : Int)] := by simp [rowOf, wyL]
theorem wy_yes {Y N : List (List Int)} {x : Int} (h1 : 1 ≤ x) (h2 : x ≤ Y.length) : rowOf (wyL Y N) x = sh 1 (rowOf Y (x - 1)) := by
  obtain ⟨k, rfl⟩ : ∃ k : Nat, x = (k : Int) + 1 := ⟨(x - 1).toNat, by omega⟩
  have hk : k < Y.length := by omega
  have e1 : ((k : Int) + 1).toNat = k + 1 := by omega
  have e2 : ((k : Int) + 1 - 1).toNat = k := by omega
  simp only [rowOf, wyL, e1, e2, List.getD_cons_succ]
  rw [List.getD, List.getElem?_append_left (by simpa using hk), List.getD]
  simp [hk]
theorem wy_no {Y N : List (List Int)} {x : Int} (h1 : (Y.length : Int) < x) : rowOf (wyL Y N) x = sh (1 + (Y.length : Int)) (rowOf N (x - 1 - Y.length)) := by
  obtain ⟨k, rfl⟩ : ∃ k : Nat, x = (k : Int) + 1 + Y.length := ⟨(x - 1 - Y.length).toNat, by omega⟩
  have e1 : ((k : Int) + 1 + Y.length).toNat = (Y.length + k) + 1 := by omega
  have e2 : ((k : Int) + 1 + Y.length - 1 - Y.length).toNat = k := by omega
  simp only [rowOf, wyL, e1, e2, List.getD_cons_succ]
  rw [List.getD, List.getElem?_append_right (by simp), List.getD]
  simp only [List.length_map, Nat.add_sub_cancel_left, List.getElem?_map]
  cases N[k]? <;> simp [sh]
theorem sh_mem {by' y : Int} {l : List Int} : y ∈ sh by' l ↔ y - by' ∈ l := by
  simp only [sh, List.mem_map]
  exact ⟨fun ⟨a, h, e⟩ => by rw [← e]; simpa using h, fun h => ⟨_, h, by omega⟩⟩
theorem wy_good {Y N : List (List Int)} (hy : goodP Y = true) (hn : goodP N = true) : goodP (wyL Y N) = true := by
  have p1 := goodP_pos hy
  have p2 := goodP_pos hn
  unfold goodP
  rw [wyL_len]
  simp only [Bool.and_eq_true, decide_eq_true_eq, List.all_eq_true]
  refine ⟨by omega, fun l hl x hx => ?_⟩
  simp only [wyL, List.mem_cons, List.mem_append, List.mem_map] at hl
  rcases hl with rfl | ⟨a, ha, rfl⟩ | ⟨a, ha, rfl⟩
  · simp at hx
    rcases hx with rfl | rfl
    · omega
    · omega
  · rw [sh_mem] at hx
    obtain ⟨k, hk, rfl⟩ := List.mem_iff_getElem.1 ha
    obtain ⟨j, hj, e⟩ := List.mem_iff_getElem.1 hx
    have := goodP_yes hy hk hj
    omega
  · rw [sh_mem] at hx
    obtain ⟨k, hk, rfl⟩ := List.mem_iff_getElem.1 ha
    obtain ⟨j, hj, e⟩ := List.mem_iff_getElem.1 hx
    have := goodP_yes hn hk hj
    omega
theorem wy_step_no {Y N : List (List Int)} (hn : goodP N = true) {x y : Int} (h1 : (Y.length : Int) < x) (hy : y ∈ rowOf (wyL Y N) x) : (Y.length : Int) < y := by
  rw [wy_no h1, sh_mem] at hy
  have := row_good hn hy
  omega
theorem wy_step_yes {Y N : List (List Int)} (hg : goodP Y = true) {x y : Int} (h1 : 1 ≤ x) (h2 : x ≤ Y.length) (hy : y ∈ rowOf (wyL Y N) x) : 1 ≤ y ∧ y ≤ Y.length ∧ y - 1 ∈ rowOf Y (x - 1) := by
  rw [wy_yes h1 h2, sh_mem] at hy
  have := row_good hg hy
  exact ⟨by omega, by omega, hy⟩
/-- How the visit of such a one goes: the last way's part, the first way's, the entry. -/
def Ph (a : Int) (s : OS) : Prop :=
  (s.way = [(0, 2)] ∧ s.out = [] ∧ s.vis = [0]) ∨
  (∃ r, s.way = (0, 1) :: r ∧ (∀ p ∈ r, a < p.1) ∧ (∀ x ∈ s.out, a < x) ∧ ∀ x ∈ s.vis, x = 0 ∨ a < x) ∨
  (∃ r N Y, s.way = (0, 0) :: r ∧ (∀ p ∈ r, 1 ≤ p.1 ∧ p.1 ≤ a) ∧ s.out = N ++ Y ∧ (∀ x ∈ N, a < x) ∧ ∀ x ∈ Y, 1 ≤ x ∧ x ≤ a) ∨
  (∃ N Y, s.way = [] ∧ s.out = N ++ Y ++ [0] ∧ (∀ x ∈ N, a < x) ∧ ∀ x ∈ Y, 1 ≤ x ∧ x ≤ a)
theorem ph_step {Y N : List (List Int)} (hy : goodP Y = true) (hn : goodP N = true) (s : OS) (ho : OI (wyL Y N) s) (hw : s.way ≠ []) (h : Ph Y.length s) : Ph Y.length (stp (wyL Y N) s) := by
  have p1 := goodP_pos hy
  obtain ⟨vis, way, out⟩ := s
  rcases h with ⟨h1, h2, h3⟩ | ⟨r, h1, h2, h3, h4⟩ | ⟨r, M, Z, h1, h2, h3, h4, h5⟩ | ⟨M, Z, h1, _⟩
  · simp only at h1 h2 h3
    subst h1 h2 h3
    have e := stp_go (wyL Y N) [0] [] 0 1 []
    simp only [List.nil_append] at e
    rw [e, wy_zero]
    refine .inr (.inl ?_)
    simp only [vst, List.getD_cons_succ, List.getD_cons_zero]
    rw [if_neg (by simp; omega)]
    refine ⟨[(1 + (Y.length : Int), _)], rfl, ?_, by simp, ?_⟩
    · intro p hp; simp at hp; subst hp; simp only; omega
    · intro x hx; simp at hx; rcases hx with rfl | rfl
      · exact .inl rfl
      · right; omega
  · simp only at h1 h3 h4
    subst h1
    rcases List.eq_nil_or_concat r with he | ⟨st, ⟨b, l⟩, he⟩
    · subst he
      have e := stp_go (wyL Y N) vis [] 0 0 out
      simp only [List.nil_append] at e
      rw [e, wy_zero]
      refine .inr (.inr (.inl ?_))
      simp only [vst, List.getD_cons_zero]
      rw [if_neg (fun h => by have := h4 1 h; omega)]
      refine ⟨[(1, _)], out, [], rfl, ?_, by simp, h3, by simp⟩
      intro p hp; simp at hp; subst hp; simp only; omega
    · rw [List.concat_eq_append] at he
      subst he
      have hb := h2 (b, l) (by simp)
      simp only at hb
      refine .inr (.inl ?_)
      cases l with
      | zero =>
        have e := stp_pop (wyL Y N) vis ((0, 1) :: st) b out
        simp only [List.cons_append] at e
        rw [e]
        refine ⟨st, rfl, fun p hp => h2 p (by simp; exact .inl hp), fun x hx => ?_, h4⟩
        simp only [List.mem_append, List.mem_singleton] at hx
        rcases hx with hx | rfl
        · exact h3 x hx
        · exact hb
      | succ l =>
        have e := stp_go (wyL Y N) vis ((0, 1) :: st) b l out
        simp only [List.cons_append] at e
        rw [e]
        have hll := ho.lft (b, l + 1) (by simp)
        simp only at hll
        have hx := wy_step_no hn hb (row_mem (Ls := wyL Y N) (b := b) (j := l) (by omega))
        simp only [vst]
        split
        · refine ⟨st ++ [(b, l)], rfl, fun p hp => ?_, h3, h4⟩
          simp only [List.mem_append, List.mem_singleton] at hp
          rcases hp with hp | rfl
          · exact h2 p (by simp; exact .inl hp)
          · exact hb
        · refine ⟨st ++ [(b, l)] ++ [_], rfl, fun p hp => ?_, h3, fun x hx' => ?_⟩
          · simp only [List.mem_append, List.mem_singleton] at hp
            rcases hp with (hp | rfl) | rfl
            · exact h2 p (by simp; exact .inl hp)
            · exact hb
            · exact hx
          · simp only [List.mem_append, List.mem_singleton] at hx'
            rcases hx' with hx' | rfl
            · exact h4 x hx'
            · exact .inr hx
  · simp only at h1 h3
    subst h1 h3
    rcases List.eq_nil_or_concat r with he | ⟨st, ⟨b, l⟩, he⟩
    · subst he
      have e := stp_pop (wyL Y N) vis [] 0 (M ++ Z)
      simp only [List.nil_append] at e
      rw [e]
      exact .inr (.inr (.inr ⟨M, Z, rfl, rfl, h4, h5⟩))
    · rw [List.concat_eq_append] at he
      subst he
      have hb := h2 (b, l) (by simp)
      simp only at hb
      refine .inr (.inr (.inl ?_))
      cases l with
      | zero =>
        have e := stp_pop (wyL Y N) vis ((0, 0) :: st) b (M ++ Z)
        simp only [List.cons_append] at e
        rw [e]
        refine ⟨st, M, Z ++ [b], rfl, fun p hp => h2 p (by simp; exact .inl hp), by simp, h4, fun x hx => ?_⟩
        simp only [List.mem_append, List.mem_singleton] at hx
        rcases hx with hx | rfl
        · exact h5 x hx
        · exact hb
      | succ l =>
        have e := stp_go (wyL Y N) vis ((0, 0) :: st) b l (M ++ Z)
        simp only [List.cons_append] at e
        rw [e]
        have hll := ho.lft (b, l + 1) (by simp)
        simp only at hll
        have hx := wy_step_yes hy hb.1 hb.2 (row_mem (Ls := wyL Y N) (b := b) (j := l) (by omega))
        simp only [vst]
        split
        · refine ⟨st ++ [(b, l)], M, Z, rfl, fun p hp => ?_, rfl, h4, h5⟩
          simp only [List.mem_append, List.mem_singleton] at hp
          rcases hp with hp | rfl
          · exact h2 p (by simp; exact .inl hp)
          · exact hb
        · refine ⟨st ++ [(b, l)] ++ [_], M, Z, rfl, fun p hp => ?_, rfl, h4, h5⟩
          simp only [List.mem_append, List.mem_singleton] at hp
          rcases hp with (hp | rfl) | rfl
          · exact h2 p (by simp; exact .inl hp)
          · exact hb
          · exact ⟨hx.1, hx.2.1⟩
  · exact absurd h1 hw
theorem wy_line {Y N : List (List Int)} (hy : goodP Y = true) (hn : goodP N = true) : ∃ P Q, linP (wyL Y N) = 0 :: (P ++ Q) ∧ (∀ x ∈ P, 1 ≤ x ∧ x ≤ Y.length) ∧ ∀ x ∈ Q, (Y.length : Int) < x := by
  have hg := wy_good hy hn
  have h0 : Ph Y.length (os0 (wyL Y N)) := .inl ⟨by simp [os0, wy_zero], rfl, rfl⟩
  have h1 : Ph Y.length (orP (wyL Y N)) := orun_inv hg (fun s ho hw h => ph_step hy hn s ho hw h) _ _ (OI.zero hg) h0
  obtain ⟨_, hw⟩ := orP_oi hg
  rw [linP, if_pos hg]
  rcases h1 with ⟨e, _⟩ | ⟨r, e, _⟩ | ⟨r, M, Z, e, _⟩ | ⟨M, Z, _, e, h4, h5⟩
  · rw [hw] at e; cases e
  · rw [hw] at e; cases e
  · rw [hw] at e; cases e
  · refine ⟨Z.reverse, M.reverse, by rw [e]; simp, fun x hx => h5 x (by simpa using hx), fun x hx => h4 x (by simpa using hx)⟩
theorem len_le_of_sub : ∀ (l1 l2 : List Int), l1.Nodup → (∀ x ∈ l1, x ∈ l2) → l1.length ≤ l2.length
  | [], l2, _, _ => by simp
  | a :: l, l2, hd, hs => by
    have h1 := hs a (by simp)
    have hd' := List.nodup_cons.1 hd
    have h2 := len_le_of_sub l (l2.erase a) hd'.2 fun x hx => by
      have hne : x ≠ a := fun e => hd'.1 (e ▸ hx)
      exact (List.mem_erase_of_ne hne).2 (hs x (by simp [hx]))
    rw [List.length_erase_of_mem h1] at h2
    have := List.length_pos_of_mem h1
    simp
    omega
theorem wy_up {Y N : List (List Int)} (hy : goodP Y = true) : ∀ {k : Nat} {x z : Int}, 0 ≤ x → x < Y.length → Wk Y k x z → Wk (wyL Y N) k (x + 1) (z + 1)
  | 0, x, z, _, _, e => by have : x = z := e; subst this; rfl
  | k + 1, x, z, h0, h1, ⟨c, hc, hk⟩ => by
    have hr := row_good hy hc
    refine ⟨c + 1, ?_, wy_up hy hr.1 hr.2 hk⟩
    rw [wy_yes (by omega) (by omega), sh_mem]
    simpa using hc
/-- What the first way leads to. -/
theorem wy_reach {Y N : List (List Int)} (hy : goodP Y = true) (hn : goodP N = true) {x : Int} (h1 : 1 ≤ x) (h2 : x ≤ Y.length) : Rc (wyL Y N) 0 x ↔ Rc Y 0 (x - 1) := by
  have p1 := goodP_pos hy
  constructor
  · intro h
    have := h.closed (S := fun z => z = 0 ∨ (Y.length : Int) < z ∨ ((1 ≤ z ∧ z ≤ Y.length) ∧ Rc Y 0 (z - 1))) (fun z hz y hyy => ?_) (.inl rfl)
    · rcases this with h | h | h
      · omega
      · omega
      · exact h.2
    · rcases hz with rfl | hz | ⟨hz, hr⟩
      · rw [wy_zero] at hyy
        simp at hyy
        rcases hyy with rfl | rfl
        · exact .inr (.inr ⟨by omega, Rc.refl _ _⟩)
        · right; left; omega
      · exact .inr (.inl (wy_step_no hn hz hyy))
      · obtain ⟨q1, q2, q3⟩ := wy_step_yes hy hz.1 hz.2 hyy
        exact .inr (.inr ⟨⟨q1, q2⟩, hr.trans (Rc.edge q3)⟩)
  · rintro ⟨k, hk⟩
    have h3 := wy_up (N := N) hy (x := 0) (by omega) (by omega) hk
    have e : x - 1 + 1 = x := by omega
    rw [e] at h3
    refine (Rc.edge (a := 0) (b := 1) ?_).trans ⟨k, by simpa using h3⟩
    rw [wy_zero]; simp
/-- The line's first part is as long as what the first way leads to. -/
theorem wy_count {Y N : List (List Int)} (hy : goodP Y = true) (hn : goodP N = true) {P Q : List Int} (e : linP (wyL Y N) = 0 :: (P ++ Q)) (hP : ∀ x ∈ P, 1 ≤ x ∧ x ≤ Y.length) (hQ : ∀ x ∈ Q, (Y.length : Int) < x) (ml : List Int) (hm : ∀ x, x ∈ ml ↔ Rc Y 0 x) :
    P.length = ((List.range Y.length).filter fun i : Nat => decide ((i : Int) ∈ ml)).length ∧ 0 < Q.length := by
  have hg := wy_good hy hn
  have hnd := lin_nodup hg
  rw [e] at hnd
  have hmem := fun x => lin_mem hg x
  rw [e] at hmem
  have hPn : P.Nodup := (List.nodup_append.1 (List.nodup_cons.1 hnd).2).1
  have hin : ∀ x : Int, 1 ≤ x → x ≤ Y.length → (x ∈ P ↔ x - 1 ∈ ml) := by
    intro x h1 h2
    rw [hm, ← wy_reach hy hn h1 h2, ← hmem x]
    simp only [List.mem_cons, List.mem_append]
    constructor
    · intro h; exact .inr (.inl h)
    · rintro (h | h | h)
      · omega
      · exact h
      · have := hQ x h; omega
  refine ⟨Nat.le_antisymm ?_ ?_, ?_⟩
  · have := len_le_of_sub P (((List.range Y.length).filter fun i : Nat => decide ((i : Int) ∈ ml)).map fun i : Nat => (i : Int) + 1) hPn fun x hx => by
      have h1 := hP x hx
      simp only [List.mem_map, List.mem_filter, List.mem_range, decide_eq_true_eq]
      refine ⟨(x - 1).toNat, ⟨by omega, ?_⟩, by omega⟩
      rw [show (((x - 1).toNat : Nat) : Int) = x - 1 by omega]
      exact (hin x h1.1 h1.2).1 hx
    simpa using this
  · have hnd2 : (((List.range Y.length).filter fun i : Nat => decide ((i : Int) ∈ ml)).map fun i : Nat => (i : Int) + 1).Nodup := by
      refine List.pairwise_map.2 (List.Pairwise.imp ?_ (List.Pairwise.filter _ (List.nodup_range (n := Y.length))))
      intro a b hab e2
      exact hab (by omega)
    have := len_le_of_sub _ P hnd2 fun x hx => by
      simp only [List.mem_map, List.mem_filter, List.mem_range, decide_eq_true_eq] at hx
      obtain ⟨i, ⟨hi, hi2⟩, rfl⟩ := hx
      exact (hin _ (by omega) (by omega)).2 (by simpa using hi2)
    simpa using this
  · have h1 : (1 + (Y.length : Int)) ∈ (0 : Int) :: (P ++ Q) := (hmem _).2 (Rc.edge (by rw [wy_zero]; simp))
    simp only [List.mem_cons, List.mem_append] at h1
    rcases h1 with h | h | h
    · omega
    · have := hP _ h; omega
    · exact List.length_pos_of_mem h
end Go.Proofs.Ytplpgeocidllfaa
