import Derived.Test.YtdoiblknbpbhaaaMvCa
set_option linter.unusedVariables false
set_option linter.unusedSimpArgs false
namespace Go.Proofs.Ytdoiblknbpbhaaa

/-- Which move sets what number k reads: none, or the last such one. -/
def nxC (l : List Mv) (k j : Nat) : Bool := decide ((l.getD j ((0, 0), (0, 0))).1 = (l.getD k ((0, 0), (0, 0))).2) && !stays (l.getD j ((0, 0), (0, 0)))
def nxU (l : List Mv) (k : Nat) : Nat → Option Nat
  | 0 => none
  | j + 1 => if nxC l k j = true then some j else nxU l k j
def nxI (l : List Mv) (k : Nat) : Option Nat := nxU l k l.length
theorem nxU_some {l : List Mv} {k : Nat} : ∀ {n j : Nat}, nxU l k n = some j → j < n ∧ nxC l k j = true
  | n + 1, j, h => by
    unfold nxU at h
    split at h
    · cases h; exact ⟨by omega, by assumption⟩
    · have := nxU_some h; exact ⟨by omega, this.2⟩
theorem nxU_none {l : List Mv} {k : Nat} : ∀ {n : Nat}, nxU l k n = none → ∀ j, j < n → nxC l k j = false
  | 0, _, j, hj => by omega
  | n + 1, h, j, hj => by
    unfold nxU at h
    split at h
    · cases h
    · rename_i hc
      by_cases e : j = n
      · subst e; simpa using hc
      · exact nxU_none h j (by omega)
theorem gD {l : List Mv} {j : Nat} (h : j < l.length) : l.getD j ((0, 0), (0, 0)) = l[j] := by simp [List.getD_eq_getElem?_getD, h]
theorem nx_sg {t : Lc} {l : List Mv} (g : Gd t l) {k : Nat} (hk : k < l.length) : sg (lft l) l[k] = (nxI l k).map (fun j => l.getD j ((0, 0), (0, 0))) ∧ ∀ j, nxI l k = some j → j < l.length := by
  have key : ∀ j, ∀ hj : j < l.length, (nxC l k j = true ↔ (l[j] ∈ lft l ∧ l[j].1 = l[k].2)) := fun j hj => by
    unfold nxC
    rw [gD hj, gD hk]
    simp only [Bool.and_eq_true, decide_eq_true_eq, Bool.not_eq_true', lft, List.mem_filter, List.getElem_mem, true_and]
    exact and_comm
  cases h : nxI l k with
  | none =>
    refine ⟨?_, fun j hj => by cases hj⟩
    cases e : sg (lft l) l[k] with
    | none => rfl
    | some x =>
      obtain ⟨hx, e1⟩ := sg_mem e
      obtain ⟨j, hj, rfl⟩ := List.getElem_of_mem (List.mem_filter.1 hx).1
      have := nxU_none h j hj
      rw [(key j hj).2 ⟨hx, e1⟩] at this
      cases this
  | some j =>
    obtain ⟨hj, hc⟩ := nxU_some h
    refine ⟨?_, fun j' hj' => by cases hj'; exact hj⟩
    obtain ⟨h1, h2⟩ := (key j hj).1 hc
    rw [sg_of g.lft h1 h2]
    simp [hj, List.getD_eq_getElem?_getD]
/-- The law's walk from move i: has it come back, and met no lower number? -/
def cyL (l : List Mv) (i : Nat) : Nat → Nat → Bool → Bool
  | 0, _, _ => false
  | f + 1, k, le => match nxI l k with
    | none => false
    | some j => if j = i then (le && decide (i ≤ j)) else cyL l i f j (le && decide (i ≤ j))
def cyB (l : List Mv) (i : Nat) : Bool := cyL l i (l.length + 1) i true
theorem pos_le {t : Lc} {l : List Mv} (g : Gd t l) {i j : Nat} (hi : i < l.length) (hj : j < l.length) (mi : l[i] ∈ lft l) (mj : l[j] ∈ lft l) : ((lft l).map Prod.fst).idxOf l[i].1 ≤ ((lft l).map Prod.fst).idxOf l[j].1 ↔ i ≤ j := by
  have lt : ∀ {a b : Nat} (ha : a < l.length) (hb : b < l.length), l[a] ∈ lft l → l[b] ∈ lft l → a < b → ((lft l).map Prod.fst).idxOf l[a].1 < ((lft l).map Prod.fst).idxOf l[b].1 := fun {a b} ha hb ma mb hab => by
    refine two_sub g.lft.nd ?_
    have h1 : [l[a], l[b]].Sublist l := by
      have h2 := split_at ha
      have h3 : l[b] ∈ l.drop (a + 1) := by
        rw [List.mem_drop_iff_getElem]
        exact ⟨b - (a + 1), by omega, by simp [show a + 1 + (b - (a + 1)) = b by omega]⟩
      have h4 : [l[a], l[b]].Sublist (l[a] :: l.drop (a + 1)) := List.Sublist.cons_cons _ (List.singleton_sublist.2 h3)
      rw [← List.drop_eq_getElem_cons ha] at h4
      exact h4.trans (List.drop_sublist a l)
    have h5 := (h1.filter (fun m => !stays m)).map Prod.fst
    have e : [l[a], l[b]].filter (fun m => !stays m) = [l[a], l[b]] := List.filter_eq_self.2 fun x hx => by
      simp only [List.mem_cons, List.not_mem_nil, or_false] at hx
      rcases hx with rfl | rfl
      · exact (List.mem_filter.1 ma).2
      · exact (List.mem_filter.1 mb).2
    rw [e] at h5
    exact h5
  constructor
  · intro h
    rcases Nat.lt_or_ge j i with h1 | h1
    · have := lt hj hi mj mi h1; omega
    · exact h1
  · intro h
    by_cases e : i = j
    · subst e; exact Nat.le_refl _
    · exact Nat.le_of_lt (lt hi hj mi mj (by omega))
theorem cyL_sound {t : Lc} {l : List Mv} (g : Gd t l) {i : Nat} (hi : i < l.length) (mi : l[i] ∈ lft l) : ∀ (f k s : Nat) (le : Bool), ∀ hk : k < l.length, og (lft l) l[i] s = some l[k] → (le = true → ∀ r j, r ≤ s → ∀ hj : j < l.length, og (lft l) l[i] r = some l[j] → i ≤ j) → cyL l i f k le = true → ∃ p, s < p ∧ og (lft l) l[i] p = some l[i] ∧ ∀ r j, r ≤ p → ∀ hj : j < l.length, og (lft l) l[i] r = some l[j] → i ≤ j
  | 0, k, s, le, hk, ho, hl, h => by simp [cyL] at h
  | f + 1, k, s, le, hk, ho, hl, h => by
    unfold cyL at h
    obtain ⟨hs, hlt⟩ := nx_sg g hk
    cases e : nxI l k with
    | none => rw [e] at h; simp at h
    | some j =>
      rw [e] at h hs
      have hj := hlt j e
      simp only [Option.map_some, gD hj] at hs
      have ho2 : og (lft l) l[i] (s + 1) = some l[j] := by show (og (lft l) l[i] s).bind (sg (lft l)) = _; rw [ho]; exact hs
      have grow : (le && decide (i ≤ j)) = true → ∀ r j', r ≤ s + 1 → ∀ hj' : j' < l.length, og (lft l) l[i] r = some l[j'] → i ≤ j' := fun hle r j' hr hj' hor => by
        simp only [Bool.and_eq_true, decide_eq_true_eq] at hle
        by_cases er : r = s + 1
        · subst er
          rw [ho2] at hor
          have : l[j] = l[j'] := by injection hor
          have := g.inj hj hj' (by rw [this])
          omega
        · exact hl hle.1 r j' (by omega) hj' hor
      simp only at h
      by_cases eji : j = i
      · rw [if_pos eji] at h
        exact ⟨s + 1, by omega, by rw [ho2]; simp [eji], grow h⟩
      · rw [if_neg eji] at h
        obtain ⟨p, hp, h1, h2⟩ := cyL_sound g hi mi f j (s + 1) _ hj ho2 grow h
        exact ⟨p, by omega, h1, h2⟩
theorem cyL_full {t : Lc} {l : List Mv} (g : Gd t l) {i : Nat} (hi : i < l.length) {p : Nat} (hp : og (lft l) l[i] p = some l[i]) (hmin : ∀ q, 1 ≤ q → q < p → og (lft l) l[i] q ≠ some l[i]) (hle : ∀ r j, ∀ hj : j < l.length, og (lft l) l[i] r = some l[j] → i ≤ j) : ∀ (f k s : Nat), ∀ hk : k < l.length, og (lft l) l[i] s = some l[k] → s < p → p ≤ s + f → cyL l i f k true = true
  | 0, k, s, hk, ho, h1, h2 => by omega
  | f + 1, k, s, hk, ho, h1, h2 => by
    unfold cyL
    obtain ⟨hs, hlt⟩ := nx_sg g hk
    have hdef : ∃ y, og (lft l) l[i] (s + 1) = some y := by
      cases e : og (lft l) l[i] (s + 1) with
      | some y => exact ⟨y, rfl⟩
      | none =>
        have : og (lft l) l[i] (s + 1 + (p - (s + 1))) = none := by rw [og_add, e]; rfl
        rw [show s + 1 + (p - (s + 1)) = p by omega, hp] at this
        cases this
    obtain ⟨y, hy⟩ := hdef
    have hy2 : sg (lft l) l[k] = some y := by
      have : (og (lft l) l[i] s).bind (sg (lft l)) = some y := hy
      rw [ho] at this
      exact this
    rw [hy2] at hs
    cases e : nxI l k with
    | none => rw [e] at hs; simp at hs
    | some j =>
      have hj := hlt j e
      rw [e] at hs
      simp only [Option.map_some, gD hj, Option.some.injEq] at hs
      subst hs
      have hij := hle (s + 1) j hj hy
      simp only [hij, decide_true, Bool.and_true]
      by_cases eji : j = i
      · rw [if_pos eji]
      · rw [if_neg eji]
        have hsp : s + 1 < p := by
          rcases Nat.lt_or_ge (s + 1) p with h | h
          · exact h
          · have : s + 1 = p := by omega
            rw [this, hp] at hy
            have e2 : l[i] = l[j] := by injection hy
            exact absurd (g.inj hi hj (by rw [e2])) (fun h => eji h.symm)
        exact cyL_full g hi hp hmin hle f j (s + 1) hj hy hsp (by omega)
theorem cyB_iff {t : Lc} {l : List Mv} (g : Gd t l) {i : Nat} (hi : i < l.length) (mi : l[i] ∈ lft l) : cyB l i = true ↔ Ls (lft l) l[i] := by
  constructor
  · intro h
    obtain ⟨p, hp, h1, h2⟩ := cyL_sound g hi mi (l.length + 1) i 0 true hi rfl (fun _ r j hr hj ho => by
      have : r = 0 := by omega
      subst this
      have e : l[i] = l[j] := by injection ho
      have := g.inj hi hj (by rw [e])
      omega) h
    refine ⟨mi, ⟨p, by omega, h1⟩, fun s x hx => ?_⟩
    have hxm := og_mem mi hx
    obtain ⟨j, hj, rfl⟩ := List.getElem_of_mem (List.mem_filter.1 hxm).1
    refine (pos_le g hi hj mi hxm).2 ?_
    have e : og (lft l) l[i] (s % p) = some l[j] := by
      have h3 := og_mul h1 (s / p)
      have h4 : s = s / p * p + s % p := by rw [Nat.mul_comm]; exact (Nat.div_add_mod s p).symm
      rw [h4, og_add, h3] at hx
      exact hx
    exact h2 (s % p) j (Nat.le_of_lt (Nat.mod_lt _ (by omega))) hj e
  · intro h
    obtain ⟨p0, hp0, hc0⟩ := h.cyc
    obtain ⟨p, ⟨hp1, hpc⟩, hmin⟩ : ∃ p, (1 ≤ p ∧ og (lft l) l[i] p = some l[i]) ∧ ∀ q, 1 ≤ q → q < p → og (lft l) l[i] q ≠ some l[i] := by
      have : ∀ n, ∀ p, p ≤ n → 1 ≤ p → og (lft l) l[i] p = some l[i] → ∃ p, (1 ≤ p ∧ og (lft l) l[i] p = some l[i]) ∧ ∀ q, 1 ≤ q → q < p → og (lft l) l[i] q ≠ some l[i] := fun n => by
        induction n with
        | zero => intro p h1 h2; omega
        | succ n ih =>
          intro p h1 h2 h3
          by_cases hq : ∃ q, 1 ≤ q ∧ q < p ∧ og (lft l) l[i] q = some l[i]
          · obtain ⟨q, q1, q2, q3⟩ := hq
            exact ih q (by omega) q1 q3
          · exact ⟨p, ⟨h2, h3⟩, fun q q1 q2 q3 => hq ⟨q, q1, q2, q3⟩⟩
      exact this p0 p0 (Nat.le_refl _) hp0 hc0
    have hall : ∀ s, s < p → ∃ x, og (lft l) l[i] s = some x := fun s hs => by
      cases e : og (lft l) l[i] s with
      | some y => exact ⟨y, rfl⟩
      | none =>
        have : og (lft l) l[i] (s + (p - s)) = none := by rw [og_add, e]; rfl
        rw [show s + (p - s) = p by omega, hpc] at this
        cases this
    have hpl : p ≤ l.length := by
      have hn : ((List.range p).map (fun s => (og (lft l) l[i] s).getD l[i])).Nodup := by
        refine List.pairwise_map.2 (List.pairwise_iff_getElem.2 fun a b ha hb hab e => ?_)
        simp only [List.getElem_range] at e
        simp at ha hb
        obtain ⟨x, hx⟩ := hall a ha
        obtain ⟨y, hy⟩ := hall b hb
        rw [hx, hy] at e
        simp at e
        subst e
        have h5 : og (lft l) l[i] (a + (p - b)) = some l[i] := by
          rw [og_add, hx]
          have h6 : og (lft l) l[i] (b + (p - b)) = some l[i] := by rw [show b + (p - b) = p by omega]; exact hpc
          rw [og_add, hy] at h6
          exact h6
        exact hmin (a + (p - b)) (by omega) (by omega) h5
      have := sub_len _ l hn (fun x hx => by
        obtain ⟨s, hs, rfl⟩ := List.mem_map.1 hx
        obtain ⟨y, hy⟩ := hall s (by simpa using hs)
        rw [hy]
        exact (List.mem_filter.1 (og_mem mi hy)).1)
      simpa using this
    refine cyL_full g hi hpc hmin (fun r j hj ho => ?_) (l.length + 1) i 0 hi rfl (by omega) (by omega)
    exact (pos_le g hi hj mi (og_mem mi ho)).1 (h.least r _ ho)
/-- How many circles the law counts. -/
def ciN (l : List Mv) : Nat → Nat
  | 0 => 0
  | i + 1 => ciN l i + (if (!stays (l.getD i ((0, 0), (0, 0))) && cyB l i) = true then 1 else 0)
theorem ciN_take {t : Lc} {l : List Mv} (g : Gd t l) (f : Mv → Bool) (hf : ∀ i, ∀ hi : i < l.length, l[i] ∈ lft l → f l[i] = cyB l i) : ∀ n, n ≤ l.length → ciN l n = ((lft (l.take n)).filter f).length
  | 0, _ => rfl
  | n + 1, h => by
    have hn : n < l.length := by omega
    have ih := ciN_take g f hf n (by omega)
    unfold ciN
    rw [ih, gD hn]
    have e : lft (l.take (n + 1)) = lft (l.take n) ++ (if stays l[n] = true then [] else [l[n]]) := by
      unfold lft
      rw [List.take_succ_eq_append_getElem hn, List.filter_append]
      congr 1
      by_cases h : stays l[n] = true
      · simp [h]
      · simp [h]
    rw [e, List.filter_append, List.length_append]
    congr 1
    by_cases hs : stays l[n] = true
    · simp [hs]
    · have hm : l[n] ∈ lft l := List.mem_filter.2 ⟨List.getElem_mem hn, by simpa using hs⟩
      have hs' : stays l[n] = false := by simpa using hs
      rw [hs', hf n hn hm |>.symm]
      by_cases hfn : f l[n] = true <;> simp [hfn]
theorem count_law {t : Lc} {l : List Mv} (g : Gd t l) (ht : t ∉ l.map Prod.snd) : (ord t l).length = (lft l).length + ciN l l.length := by
  let f : Mv → Bool := fun m => cyB l (l.idxOf m)
  have hix : ∀ i, ∀ hi : i < l.length, l.idxOf l[i] = i := fun i hi => by
    have h1 : l.idxOf l[i] < l.length := List.idxOf_lt_length_of_mem (List.getElem_mem hi)
    have h2 := List.getElem_idxOf h1
    exact g.inj h1 hi (by rw [h2])
  have hf : ∀ i, ∀ hi : i < l.length, l[i] ∈ lft l → f l[i] = cyB l i := fun i hi _ => by show cyB l (l.idxOf l[i]) = _; rw [hix i hi]
  rw [ciN_take g f hf l.length (Nat.le_refl _), List.take_length]
  refine ord_count g ht f fun x hx => ?_
  obtain ⟨i, hi, rfl⟩ := List.getElem_of_mem (List.mem_filter.1 hx).1
  rw [hf i hi hx]
  exact cyB_iff g hi hx
end Go.Proofs.Ytdoiblknbpbhaaa
