set_option linter.unusedVariables false
set_option linter.unusedSimpArgs false
namespace Go.Proofs.Ytdoiblknbpbhaaa
abbrev Lc := Int × Int
/-- A move: where to, where from. -/
abbrev Mv := Lc × Lc
def rd (A : List Mv) (p : Lc) : Bool := A.any (fun x => x.2 == p)
def fre (A : List Mv) (m : Mv) : Bool := !rd A m.1
/-- One step of the document's. -/
def ds (t : Lc) (s : List Mv × List Mv) : List Mv × List Mv :=
  match s.1 with
  | [] => s
  | m :: r => if (m :: r).findIdx (fre (m :: r)) = (m :: r).length then ((m.1, t) :: r, s.2 ++ [(t, m.2)]) else ((m :: r).eraseIdx ((m :: r).findIdx (fre (m :: r))), s.2 ++ [(m :: r).getD ((m :: r).findIdx (fre (m :: r))) m])
def dn (t : Lc) : Nat → List Mv × List Mv → List Mv × List Mv
  | 0, s => s
  | n + 1, s => dn t n (ds t s)
def stays (m : Mv) : Bool := m.2 == m.1
def lft (l : List Mv) : List Mv := l.filter (fun m => !stays m)
def ord (t : Lc) (l : List Mv) : List Mv := (dn t (3 * (lft l).length) (lft l, [])).2
theorem dn_nil (t : Lc) (n : Nat) (out : List Mv) : dn t n ([], out) = ([], out) := by
  induction n with
  | zero => rfl
  | succ n ih => exact ih
theorem dn_add (t : Lc) (n k : Nat) (s : List Mv × List Mv) : dn t (n + k) s = dn t k (dn t n s) := by
  induction n generalizing s with
  | zero => simp [dn]
  | succ n ih => rw [show n + 1 + k = (n + k) + 1 by omega]; exact ih (ds t s)
theorem dn_more {t : Lc} {n : Nat} {s : List Mv × List Mv} (h : (dn t n s).1 = []) (k : Nat) (hk : n ≤ k) : dn t k s = dn t n s := by
  rw [show k = n + (k - n) by omega, dn_add]
  generalize dn t n s = u at h ⊢
  obtain ⟨a, b⟩ := u
  simp only at h
  subst h
  exact dn_nil t _ b
theorem dn_step {t : Lc} {n : Nat} {s u : List Mv × List Mv} (h : dn t n s = u) : dn t (n + 1) s = ds t u := by
  rw [dn_add, h]; rfl
/-- Of two lists of one length, no count of the first one above the second one's, all counts are the same. -/
theorem count_same : ∀ (A B : List Lc), (∀ p, A.count p ≤ B.count p) → A.length = B.length → ∀ p, A.count p = B.count p
  | [], B, _, hl, p => by
    have : B = [] := List.length_eq_zero_iff.1 (by simpa using hl.symm)
    subst this; rfl
  | a :: A, B, h, hl, p => by
    have hm : a ∈ B := List.count_pos_iff.1 (by have := h a; simp at this; omega)
    have hl2 : A.length = (B.erase a).length := by rw [List.length_erase_of_mem hm]; simp at hl; omega
    have ih := count_same A (B.erase a) (fun q => by
      have := h q
      rw [List.count_erase]
      rw [List.count_cons] at this
      by_cases e : a = q
      · subst e; simp at this ⊢; omega
      · have e3 : (a == q) = false := by simpa using e
        simp [e3] at this ⊢; exact this) hl2 p
    rw [List.count_erase] at ih
    rw [List.count_cons]
    have hp := List.count_pos_iff.2 hm
    by_cases e : a = p
    · subst e; simp at ih ⊢; omega
    · have e3 : (a == p) = false := by simpa using e
      simp [e3] at ih ⊢; exact ih
theorem rd_iff {A : List Mv} {p : Lc} : rd A p = true ↔ 0 < (A.map Prod.snd).count p := by
  rw [List.count_pos_iff]
  unfold rd
  simp [List.any_eq_true]
theorem count_nodup {A : List Lc} (h : A.Nodup) (p : Lc) : A.count p ≤ 1 := List.nodup_iff_count.1 h p
/-- Where no move is free, each place is read as often as it is set. -/
theorem none_free {A : List Mv} (hn : (A.map Prod.fst).Nodup) (h : ∀ m ∈ A, fre A m = false) (p : Lc) : (A.map Prod.snd).count p = (A.map Prod.fst).count p := by
  refine (count_same (A.map Prod.fst) (A.map Prod.snd) (fun q => ?_) (by simp) p).symm
  by_cases hq : q ∈ A.map Prod.fst
  · obtain ⟨m, hm, rfl⟩ := List.mem_map.1 hq
    have h1 := count_nodup hn m.1
    have h2 : rd A m.1 = true := by have := h m hm; simpa [fre] using this
    have := rd_iff.1 h2
    omega
  · rw [List.count_eq_zero_of_not_mem hq]; omega
theorem findIdx_here {X Y : List Mv} {m : Mv} {p : Mv → Bool} (hX : ∀ x ∈ X, p x = false) (hm : p m = true) : (X ++ m :: Y).findIdx p = X.length := by
  induction X with
  | nil => simp [List.findIdx_cons, hm]
  | cons a X ih =>
    rw [List.cons_append, List.findIdx_cons, hX a (by simp)]
    simp [ih (fun x hx => hX x (by simp [hx]))]
theorem findIdx_none {X : List Mv} {p : Mv → Bool} (hX : ∀ x ∈ X, p x = false) : X.findIdx p = X.length := by
  induction X with
  | nil => rfl
  | cons a X ih => rw [List.findIdx_cons, hX a (by simp)]; simp [ih (fun x hx => hX x (by simp [hx]))]
theorem ds_put {t : Lc} {X Y out : List Mv} {m : Mv} (hX : ∀ x ∈ X, fre (X ++ m :: Y) x = false) (hm : fre (X ++ m :: Y) m = true) : ds t (X ++ m :: Y, out) = (X ++ Y, out ++ [m]) := by
  have hi := findIdx_here (Y := Y) hX hm
  have hl : ¬ X.length = (X ++ m :: Y).length := by simp
  have hg : ∀ d, (X ++ m :: Y).getD X.length d = m := fun d => by simp [List.getD_eq_getElem?_getD]
  have he : (X ++ m :: Y).eraseIdx X.length = X ++ Y := by rw [List.eraseIdx_append_of_length_le (Nat.le_refl _)]; simp
  unfold ds
  split
  · rename_i e; simp at e
  · rename_i a r e
    simp only at e
    rw [← e, hi, if_neg hl, hg, he]
theorem ds_temp {t : Lc} {m : Mv} {r out : List Mv} (h : ∀ x ∈ m :: r, fre (m :: r) x = false) : ds t (m :: r, out) = ((m.1, t) :: r, out ++ [(t, m.2)]) := by
  show (if (m :: r).findIdx (fre (m :: r)) = (m :: r).length then ((m.1, t) :: r, out ++ [(t, m.2)]) else ((m :: r).eraseIdx ((m :: r).findIdx (fre (m :: r))), out ++ [(m :: r).getD ((m :: r).findIdx (fre (m :: r))) m])) = _
  rw [if_pos (findIdx_none h)]
def mu (t : Lc) (A : List Mv) : Nat := 2 * A.length + (A.filter (fun m => m.2 != t)).length
structure Gd (t : Lc) (A : List Mv) : Prop where
  nd : (A.map Prod.fst).Nodup
  nt : t ∉ A.map Prod.fst
theorem fre_cases (p : Mv → Bool) (A : List Mv) : (∀ x ∈ A, p x = false) ∨ ∃ X m Y, A = X ++ m :: Y ∧ (∀ x ∈ X, p x = false) ∧ p m = true := by
  induction A with
  | nil => left; simp
  | cons a A ih =>
    by_cases h : p a = true
    · right; exact ⟨[], a, A, rfl, by simp, h⟩
    · have h' : p a = false := by simpa using h
      rcases ih with e | ⟨X, m, Y, e1, e2, e3⟩
      · left; intro x hx; rcases List.mem_cons.1 hx with rfl | hx
        · exact h'
        · exact e x hx
      · right; refine ⟨a :: X, m, Y, by rw [e1]; rfl, ?_, e3⟩
        intro x hx; rcases List.mem_cons.1 hx with rfl | hx
        · exact h'
        · exact e2 x hx
theorem ds_less {t : Lc} {A out : List Mv} (g : Gd t A) (hne : A ≠ []) : Gd t (ds t (A, out)).1 ∧ mu t (ds t (A, out)).1 < mu t A := by
  rcases fre_cases (fre A) A with h | ⟨X, m, Y, rfl, h1, h2⟩
  · obtain ⟨m, r, rfl⟩ := List.exists_cons_of_ne_nil hne
    rw [ds_temp h]
    refine ⟨⟨by simpa using g.nd, by simpa using g.nt⟩, ?_⟩
    have hc := none_free g.nd h t
    rw [List.count_eq_zero_of_not_mem g.nt] at hc
    have hm : m.2 ≠ t := fun e => by
      have := List.count_eq_zero.1 hc
      exact this (by rw [← e]; simp)
    have e1 : (m.2 != t) = true := by simpa using hm
    simp [mu, e1]
  · rw [ds_put h1 h2]
    have hs : (X ++ Y).Sublist (X ++ m :: Y) := List.Sublist.append_left (List.sublist_cons_self m Y) X
    refine ⟨⟨g.nd.sublist (hs.map _), fun h => g.nt ((hs.map _).subset h)⟩, ?_⟩
    have := (hs.filter (fun m => m.2 != t)).length_le
    simp only [mu, List.length_append, List.length_cons] at this ⊢
    omega
theorem dn_end {t : Lc} : ∀ (n : Nat) (A out : List Mv), Gd t A → mu t A ≤ n → (dn t n (A, out)).1 = []
  | n, [], out, _, _ => by rw [dn_nil]
  | 0, a :: A, out, _, h => by simp [mu] at h
  | n + 1, a :: A, out, g, h => by
    obtain ⟨g', hl⟩ := ds_less (out := out) g (by simp)
    show (dn t n (ds t (a :: A, out))).1 = []
    generalize ds t (a :: A, out) = u at g' hl ⊢
    obtain ⟨x, y⟩ := u
    exact dn_end n x y g' (by simp only at hl; omega)
theorem mu_le (t : Lc) (A : List Mv) : mu t A ≤ 3 * A.length := by
  have := List.length_filter_le (fun m : Mv => m.2 != t) A
  unfold mu; omega
theorem Gd.lft {t : Lc} {l : List Mv} (g : Gd t l) : Gd t (lft l) :=
  ⟨g.nd.sublist (List.filter_sublist.map _), fun h => g.nt ((List.filter_sublist.map _).subset h)⟩
theorem ord_run {t : Lc} {l : List Mv} (g : Gd t l) : dn t (3 * (lft l).length) (lft l, []) = ([], ord t l) := by
  have := dn_end (3 * (lft l).length) (lft l) [] g.lft (mu_le t _)
  unfold ord
  generalize dn t (3 * (lft l).length) (lft l, []) = u at this ⊢
  obtain ⟨a, b⟩ := u
  simp only at this
  rw [this]
theorem ord_of {t : Lc} {l out : List Mv} {n : Nat} (g : Gd t l) (h : dn t n (lft l, []) = ([], out)) : out = ord t l := by
  have h1 := ord_run g
  have e1 := dn_more (by rw [h]) (n + 3 * (lft l).length) (by omega)
  have e2 := dn_more (by rw [h1]) (n + 3 * (lft l).length) (by omega)
  rw [h] at e1
  rw [h1] at e2
  rw [e1] at e2
  exact (Prod.mk.inj e2).2
/-- What the program has left of l. -/
structure Lf (t : Lc) (l A : List Mv) : Prop where
  gd : Gd t l
  fl : ∃ q : Mv → Bool, A = l.filter q
  mv : ∀ m ∈ A, m.2 ≠ m.1
theorem Gd.nodup {t : Lc} {l : List Mv} (g : Gd t l) : l.Nodup := (List.pairwise_map.1 g.nd).imp (fun h e => h (by rw [e]))
theorem Gd.inj {t : Lc} {l : List Mv} (g : Gd t l) {i j : Nat} (hi : i < l.length) (hj : j < l.length) (e : l[i].1 = l[j].1) : i = j := by
  have h : (l.map Prod.fst)[i]'(by simpa using hi) = (l.map Prod.fst)[j]'(by simpa using hj) := by simpa using e
  have hp := List.pairwise_iff_getElem.1 g.nd
  rcases Nat.lt_trichotomy i j with hl | hl | hl
  · exact absurd h (hp i j (by simpa using hi) (by simpa using hj) hl)
  · exact hl
  · exact absurd h.symm (hp j i (by simpa using hj) (by simpa using hi) hl)
theorem Lf.nodup {t : Lc} {l A : List Mv} (h : Lf t l A) : A.Nodup := by
  obtain ⟨q, rfl⟩ := h.fl
  exact h.gd.nodup.sublist List.filter_sublist
theorem Lf.sub {t : Lc} {l A : List Mv} (h : Lf t l A) : A.Sublist l := by
  obtain ⟨q, rfl⟩ := h.fl
  exact List.filter_sublist
theorem Lf.tos {t : Lc} {l A : List Mv} (h : Lf t l A) : (A.map Prod.fst).Nodup := h.gd.nd.sublist (h.sub.map _)
theorem Lf.erase {t : Lc} {l A : List Mv} (h : Lf t l A) (m : Mv) : Lf t l (A.erase m) := by
  refine ⟨h.gd, ?_, fun x hx => h.mv x (List.mem_of_mem_erase hx)⟩
  rw [h.nodup.erase_eq_filter]
  obtain ⟨q, rfl⟩ := h.fl
  exact ⟨_, List.filter_filter⟩
theorem Lf.start {t : Lc} {l : List Mv} (g : Gd t l) : Lf t l (lft l) := ⟨g, ⟨_, rfl⟩, fun m hm => by
  have := (List.mem_filter.1 hm).2
  simpa [stays] using this⟩
theorem split_at {l : List Mv} {i : Nat} (hi : i < l.length) : l = l.take i ++ l[i] :: l.drop (i + 1) := by
  rw [← List.drop_eq_getElem_cons hi, List.take_append_drop]
theorem Lf.split {t : Lc} {l A : List Mv} (h : Lf t l A) {i : Nat} (hi : i < l.length) (hm : l[i] ∈ A) : ∃ X Y, A = X ++ l[i] :: Y ∧ (∀ x ∈ X, ∃ j, ∃ hj : j < i, x = l[j]'(by omega)) := by
  obtain ⟨q, e⟩ := h.fl
  have hq : q l[i] = true := by rw [e] at hm; exact (List.mem_filter.1 hm).2
  refine ⟨(l.take i).filter q, (l.drop (i + 1)).filter q, ?_, ?_⟩
  · rw [e]
    conv => lhs; rw [split_at hi]
    rw [List.filter_append, List.filter_cons, if_pos hq]
  · intro x hx
    obtain ⟨k, hk, e2⟩ := List.getElem_of_mem (List.mem_filter.1 hx).1
    have hk2 : k < i := by rw [List.length_take] at hk; omega
    exact ⟨k, hk2, by rw [← e2]; simp⟩
theorem erase_mid {X Y : List Mv} {m : Mv} (hn : (X ++ m :: Y).Nodup) : (X ++ m :: Y).erase m = X ++ Y := by
  have h : m ∉ X := fun h => by
    rw [List.nodup_append] at hn
    exact hn.2.2 m h m (by simp) rfl
  rw [List.erase_append_right _ h, List.erase_cons_head]
theorem put_step {t : Lc} {l A out : List Mv} (h : Lf t l A) {i : Nat} (hi : i < l.length) (hm : l[i] ∈ A) (hf : fre A l[i] = true) (hb : ∀ j, ∀ hj : j < i, l[j]'(by omega) ∈ A → fre A (l[j]'(by omega)) = false) : ds t (A, out) = (A.erase l[i], out ++ [l[i]]) := by
  obtain ⟨X, Y, e, hX⟩ := h.split hi hm
  have hX' : ∀ x ∈ X, fre A x = false := fun x hx => by
    obtain ⟨j, hj, e2⟩ := hX x hx
    rw [e2]
    exact hb j hj (by rw [← e2, e]; simp [hx])
  have hn := h.nodup
  rw [e] at hf hX' hn ⊢
  rw [ds_put hX' hf, erase_mid hn]
theorem new_free {t : Lc} {l A : List Mv} (h : Lf t l A) {m x : Mv} (hf : fre (A.erase m) x = true) (hn : fre A x = false) : x.1 = m.2 := by
  have h1 : rd A x.1 = true := by simpa [fre] using hn
  obtain ⟨y, hy, e⟩ := List.any_eq_true.1 h1
  have e' : y.2 = x.1 := by simpa using e
  by_cases hym : y = m
  · rw [← hym, e']
  · have hy2 : y ∈ A.erase m := h.nodup.mem_erase_iff.2 ⟨hym, hy⟩
    have : rd (A.erase m) x.1 = true := List.any_eq_true.2 ⟨y, hy2, e⟩
    simp [fre, this] at hf
def Bal (A : List Mv) : Prop := ∀ p, (A.map Prod.snd).count p = (A.map Prod.fst).count p
theorem Lf.bal {t : Lc} {l A : List Mv} (h : Lf t l A) (hb : ∀ j, ∀ hj : j < l.length, l[j] ∈ A → fre A l[j] = false) : Bal A := by
  refine none_free h.tos fun m hm => ?_
  obtain ⟨j, hj, rfl⟩ := List.getElem_of_mem (h.sub.subset hm)
  exact hb j hj hm
def one (a b : Lc) : Nat := if a = b then 1 else 0
theorem one_pos {a b : Lc} : 0 < one a b ↔ a = b := by unfold one; by_cases h : a = b <;> simp [h]
theorem one_le (a b : Lc) : one a b ≤ 1 := by unfold one; by_cases h : a = b <;> simp [h]
theorem one_self (a : Lc) : one a a = 1 := by simp [one]
theorem one_ne {a b : Lc} (h : a ≠ b) : one a b = 0 := by simp [one, h]
theorem cons_count (a : Lc) (A : List Lc) (p : Lc) : (a :: A).count p = A.count p + one a p := by
  rw [List.count_cons]; unfold one; by_cases h : a = p <;> simp [h]
/-- In a circle whose first move is m: what is left besides, a the place that must be set next. -/
def Cy (A : List Mv) (m : Mv) (a : Lc) : Prop := ∀ p, (A.map Prod.snd).count p + one a p = (A.map Prod.fst).count p + one m.1 p
theorem head_of {t : Lc} {l A : List Mv} (h : Lf t l A) {i : Nat} (hi : i < l.length) (hm : l[i] ∈ A) (hb : ∀ j, ∀ hj : j < i, l[j]'(by omega) ∉ A) : A = l[i] :: A.erase l[i] := by
  obtain ⟨X, Y, e, hX⟩ := h.split hi hm
  have : X = [] := by
    cases X with
    | nil => rfl
    | cons x X =>
      obtain ⟨j, hj, e2⟩ := hX x (by simp)
      exact absurd (by rw [← e2, e]; simp) (hb j hj)
  subst this
  rw [List.nil_append] at e
  rw [e, List.erase_cons_head]
theorem Bal.busy {A : List Mv} (h : Bal A) {x : Mv} (hx : x ∈ A) : fre A x = false := by
  have : 0 < (A.map Prod.snd).count x.1 := by
    rw [h x.1]; exact List.count_pos_iff.2 (List.mem_map_of_mem hx)
  have := rd_iff.2 this
  simp [fre, this]
theorem circle_start {t : Lc} {A out : List Mv} {m : Mv} (h : Bal (m :: A)) : ds t (m :: A, out) = ((m.1, t) :: A, out ++ [(t, m.2)]) ∧ Cy A m m.2 :=
  ⟨ds_temp fun x hx => h.busy hx, fun p => by have := h p; simp only [List.map_cons, cons_count] at this; exact this⟩
theorem circle_next {t : Lc} {l A : List Mv} {m : Mv} {a : Lc} (h : Lf t l (m :: A)) (hc : Cy A m a) : ∃ s, ∃ hs : s < l.length, l[s].1 = a ∧ (l[s] = m ∨ l[s] ∈ A) := by
  have := hc a
  rw [one_self] at this
  by_cases e : m.1 = a
  · obtain ⟨s, hs, e2⟩ := List.getElem_of_mem (h.sub.subset (by simp : m ∈ m :: A))
    exact ⟨s, hs, by rw [e2, e], .inl e2⟩
  · rw [one_ne e] at this
    obtain ⟨x, hx, e1⟩ := List.mem_map.1 (List.count_pos_iff.1 (by omega : 0 < (A.map Prod.fst).count a))
    obtain ⟨s, hs, e2⟩ := List.getElem_of_mem (h.sub.subset (by simp [hx] : x ∈ m :: A))
    exact ⟨s, hs, by rw [e2, e1], .inr (by rw [e2]; exact hx)⟩
theorem count_erase_map (f : Mv → Lc) {A : List Mv} {x : Mv} (hx : x ∈ A) (p : Lc) : (A.map f).count p = ((A.erase x).map f).count p + one (f x) p := by
  rw [((List.perm_cons_erase hx).map f).count_eq, List.map_cons, cons_count]
theorem circle_put {t : Lc} {l A out : List Mv} {m x : Mv} (h : Lf t l (m :: A)) (hc : Cy A m x.1) (hx : x ∈ A) : ds t ((m.1, t) :: A, out) = ((m.1, t) :: A.erase x, out ++ [x]) ∧ Cy (A.erase x) m x.2 := by
  have hn := h.nodup
  have htos := h.tos
  have htx : t ≠ x.1 := fun e => h.gd.nt (by rw [e]; exact List.mem_map_of_mem (h.sub.subset (by simp [hx])))
  rw [List.map_cons, List.nodup_cons] at htos
  have hne : m.1 ≠ x.1 := fun e => htos.1 (by rw [e]; exact List.mem_map_of_mem hx)
  refine ⟨?_, fun p => ?_⟩
  · obtain ⟨X, Y, e⟩ := List.append_of_mem hx
    have hA : A.Nodup := (List.nodup_cons.1 hn).2
    have he : A.erase x = X ++ Y := by rw [e] at hA ⊢; exact erase_mid hA
    rw [he]
    have := ds_put (t := t) (X := (m.1, t) :: X) (Y := Y) (out := out) (m := x) ?_ ?_
    · rw [e]; exact this
    · intro y hy
      have hrd : 0 < (A.map Prod.snd).count y.1 := by
        have := hc y.1
        rcases List.mem_cons.1 hy with rfl | hy
        · simp only at this ⊢
          rw [one_self, one_ne hne.symm] at this
          omega
        · have hyA : y ∈ A := by rw [e]; simp [hy]
          have hyx : x.1 ≠ y.1 := fun e2 => by
            have hnA : (A.map Prod.fst).Nodup := htos.2
            rw [e, List.map_append, List.map_cons, List.nodup_append] at hnA
            exact hnA.2.2 y.1 (List.mem_map_of_mem hy) x.1 (by simp) e2.symm
          have h1 : 0 < (A.map Prod.fst).count y.1 := List.count_pos_iff.2 (List.mem_map_of_mem hyA)
          rw [one_ne hyx] at this
          omega
      have h2 : rd ((m.1, t) :: X ++ x :: Y) y.1 = true := by
        rw [rd_iff, List.cons_append, ← e, List.map_cons, cons_count]
        omega
      unfold fre
      rw [h2]
      rfl
    · have h0 : ¬ rd ((m.1, t) :: X ++ x :: Y) x.1 = true := by
        rw [rd_iff, List.cons_append, ← e, List.map_cons, cons_count]
        have := hc x.1
        rw [one_self, one_ne hne] at this
        have h1 := count_nodup htos.2 x.1
        rw [one_ne htx]
        omega
      simpa [fre] using h0
  · have := hc p
    rw [count_erase_map Prod.snd hx, count_erase_map Prod.fst hx] at this
    omega
theorem circle_last {t : Lc} {l A out : List Mv} {m : Mv} (h : Lf t l (m :: A)) (hc : Cy A m m.1) : ds t ((m.1, t) :: A, out) = (A, out ++ [(m.1, t)]) ∧ Bal A := by
  have hb : Bal A := fun p => by have := hc p; omega
  have htos := h.tos
  rw [List.map_cons, List.nodup_cons] at htos
  have htx : t ≠ m.1 := fun e => h.gd.nt (by rw [e]; exact List.mem_map_of_mem (h.sub.subset (by simp)))
  refine ⟨?_, hb⟩
  have := ds_put (t := t) (X := []) (Y := A) (out := out) (m := (m.1, t)) (by simp) ?_
  · exact this
  · have h0 : ¬ rd ([] ++ (m.1, t) :: A) (m.1, t).1 = true := by
      rw [rd_iff, List.nil_append, List.map_cons, cons_count, hb, List.count_eq_zero_of_not_mem htos.1, one_ne htx]
      omega
    simpa [fre] using h0
end Go.Proofs.Ytdoiblknbpbhaaa
