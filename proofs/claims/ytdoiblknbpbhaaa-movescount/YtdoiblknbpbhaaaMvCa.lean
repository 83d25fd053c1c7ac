import Derived.Test.YtdoiblknbpbhaaaMvV
set_option linter.unusedVariables false
set_option linter.unusedSimpArgs false
namespace Go.Proofs.Ytdoiblknbpbhaaa

/-- The move that sets what a move reads. -/
def sg (A : List Mv) (m : Mv) : Option Mv := A.find? (fun x => x.1 == m.2)
def og (A : List Mv) (m : Mv) : Nat → Option Mv
  | 0 => some m
  | s + 1 => (og A m s).bind (sg A)
theorem sg_mem {A : List Mv} {m x : Mv} (h : sg A m = some x) : x ∈ A ∧ x.1 = m.2 := by
  unfold sg at h
  exact ⟨List.mem_of_find?_eq_some h, by simpa using List.find?_some h⟩
theorem sg_of {t : Lc} {A : List Mv} (g : Gd t A) {m x : Mv} (hx : x ∈ A) (e : x.1 = m.2) : sg A m = some x := by
  cases h : sg A m with
  | none =>
    unfold sg at h
    have := List.find?_eq_none.1 h x hx
    simp [e] at this
  | some y =>
    obtain ⟨hy, e2⟩ := sg_mem h
    obtain ⟨i, hi, rfl⟩ := List.getElem_of_mem hx
    obtain ⟨j, hj, rfl⟩ := List.getElem_of_mem hy
    have := g.inj hj hi (by rw [e2, e])
    subst this
    rfl
theorem og_add (A : List Mv) (m : Mv) (a b : Nat) : og A m (a + b) = (og A m a).bind (fun x => og A x b) := by
  induction b with
  | zero => cases h : og A m a <;> simp [og, h]
  | succ b ih =>
    rw [← Nat.add_assoc]
    show (og A m (a + b)).bind (sg A) = _
    rw [ih]
    cases og A m a <;> rfl
theorem og_mem {A : List Mv} {m : Mv} (hm : m ∈ A) : ∀ {s : Nat} {x : Mv}, og A m s = some x → x ∈ A
  | 0, x, h => by cases h; exact hm
  | s + 1, x, h => by
    unfold og at h
    cases e : og A m s with
    | none => rw [e] at h; cases h
    | some y => rw [e] at h; exact (sg_mem h).1
theorem og_mul {A : List Mv} {m : Mv} {p : Nat} (h : og A m p = some m) : ∀ k, og A m (k * p) = some m
  | 0 => by simp [og]
  | k + 1 => by rw [Nat.succ_mul, og_add, og_mul h k]; exact h
theorem og_before {A : List Mv} {m y : Mv} {s : Nat} (h : og A m (s + 1) = some y) : ∃ x, og A m s = some x ∧ sg A x = some y := by
  unfold og at h
  cases e : og A m s with
  | none => rw [e] at h; cases h
  | some x => rw [e] at h; exact ⟨x, rfl, h⟩
/-- A move that is the first of a circle. -/
structure Ls (A : List Mv) (m : Mv) : Prop where
  mem : m ∈ A
  cyc : ∃ p, 1 ≤ p ∧ og A m p = some m
  least : ∀ s x, og A m s = some x → (A.map Prod.fst).idxOf m.1 ≤ (A.map Prod.fst).idxOf x.1
/-- In a circle each one is read by another one. -/
theorem cyc_pred {A : List Mv} {m x : Mv} {p s : Nat} (hp : 1 ≤ p) (h : og A m p = some m) (hx : og A m s = some x) : ∃ r y, og A m r = some y ∧ y.2 = x.1 := by
  have h2 : og A m (p + s) = some x := by rw [og_add, h]; exact hx
  obtain ⟨q, hq⟩ : ∃ q, p + s = q + 1 := ⟨p + s - 1, by omega⟩
  rw [hq] at h2
  obtain ⟨y, hy, e⟩ := og_before h2
  exact ⟨q, y, hy, (sg_mem e).2.symm⟩
theorem cyc_back {A : List Mv} {m x : Mv} {p s : Nat} (hp : 1 ≤ p) (h : og A m p = some m) (hx : og A m s = some x) : ∃ r, og A x r = some m := by
  have h2 := og_mul h s
  have e : s * p = s + s * (p - 1) := by
    obtain ⟨q, rfl⟩ : ∃ q, p = q + 1 := ⟨p - 1, by omega⟩
    rw [Nat.add_sub_cancel, Nat.mul_succ, Nat.add_comm]
  rw [e, og_add, hx] at h2
  exact ⟨_, h2⟩
theorem sub_len : ∀ (A B : List Mv), A.Nodup → (∀ x ∈ A, x ∈ B) → A.length ≤ B.length
  | [], B, _, _ => by simp
  | a :: A, B, hn, hs => by
    have hb := hs a (by simp)
    rw [List.nodup_cons] at hn
    have := sub_len A (B.erase a) hn.2 (fun x hx => (List.mem_erase_of_ne (fun e : x = a => hn.1 (by rw [← e]; exact hx))).2 (hs x (by simp [hx])))
    rw [List.length_erase_of_mem hb] at this
    have := List.length_pos_of_mem hb
    simp
    omega
/-- A way within a list comes back to where it was. -/
theorem pigeon (L : List Mv) (f : Nat → Mv) (hf : ∀ s, f s ∈ L) : ∃ a b, a < b ∧ f a = f b := by
  refine Classical.byContradiction fun h => ?_
  have hne : ∀ a b, a < b → f a ≠ f b := fun a b hab e => h ⟨a, b, hab, e⟩
  have hn : ((List.range (L.length + 1)).map f).Nodup := by
    refine List.pairwise_map.2 (List.pairwise_iff_getElem.2 fun i j hi hj hij => ?_)
    simp only [List.getElem_range]
    exact hne i j hij
  have := sub_len _ L hn (fun x hx => by obtain ⟨s, _, rfl⟩ := List.mem_map.1 hx; exact hf s)
  simp at this
  omega
theorem two_sub {L : List Lc} (hn : L.Nodup) {a b : Lc} (h : [a, b].Sublist L) : L.idxOf a < L.idxOf b := by
  induction L with
  | nil => cases h
  | cons c L ih =>
    rw [List.nodup_cons] at hn
    cases h with
    | cons _ h =>
      have ha : a ∈ L := h.subset (by simp)
      have hb : b ∈ L := h.subset (by simp)
      have hca : c ≠ a := fun e => hn.1 (e ▸ ha)
      have hcb : c ≠ b := fun e => hn.1 (e ▸ hb)
      rw [List.idxOf_cons, List.idxOf_cons]
      have e1 : (c == a) = false := by simpa using hca
      have e2 : (c == b) = false := by simpa using hcb
      rw [e1, e2]
      have := ih hn.2 h
      simp only [cond_false]
      omega
    | cons_cons _ h =>
      have hb : b ∈ L := h.subset (by simp)
      have hab : a ≠ b := fun e => hn.1 (e ▸ hb)
      have e2 : (a == b) = false := by simpa using hab
      rw [List.idxOf_cons, List.idxOf_cons, e2]
      simp
theorem filter_one {A : List Mv} (hn : A.Nodup) {m : Mv} (hm : m ∈ A) {p q : Mv → Bool} (h : ∀ x ∈ A, x ≠ m → q x = p x) (hq : q m = true) (hp : p m = false) : (A.filter q).length = (A.filter p).length + 1 := by
  induction A with
  | nil => cases hm
  | cons a A ih =>
    rw [List.nodup_cons] at hn
    rw [List.filter_cons, List.filter_cons]
    by_cases e : a = m
    · subst e
      rw [if_pos hq, hp]
      have : A.filter q = A.filter p := List.filter_congr fun x hx => h x (by simp [hx]) (fun e => hn.1 (e ▸ hx))
      simp [this]
    · have hm' : m ∈ A := by
        rcases List.mem_cons.1 hm with h | h
        · exact absurd h.symm e
        · exact h
      have := ih hn.2 hm' (fun x hx => h x (by simp [hx]))
      rw [h a (by simp) e]
      by_cases hpa : p a = true
      · simp [hpa]; omega
      · simp [hpa]; omega
/-- Behind some of the document's steps: as many moves to the temporary as firsts of circles are no more left. -/
structure CI (t : Lc) (A left out : List Mv) : Prop where
  gd : Gd t left
  sub : ∀ x ∈ left, x ∈ A ∨ x.2 = t
  so : (left.map Prod.fst).Sublist (A.map Prod.fst)
  len : ∀ f : Mv → Bool, (∀ x ∈ A, f x = true ↔ (Ls A x ∧ x ∉ left)) → out.length + left.length = A.length + (A.filter f).length
  int : ∀ m, Ls A m → m ∈ left → ∀ s x, og A m s = some x → x ∈ left
theorem CI.start {t : Lc} {A : List Mv} (g : Gd t A) : CI t A A [] := by
  refine ⟨g, fun x hx => .inl hx, List.Sublist.refl _, fun f hf => ?_, fun m hm _ s x hx => og_mem hm.mem hx⟩
  have : A.filter f = [] := List.filter_eq_nil_iff.2 fun x hx h => ((hf x hx).1 h).2 hx
  simp [this]
theorem CI.step {t : Lc} {A left out : List Mv} (g : Gd t A) (ht : t ∉ A.map Prod.snd) (H : CI t A left out) : CI t A (ds t (left, out)).1 (ds t (left, out)).2 := by
  by_cases hne : left = []
  · subst hne; exact H
  · have hg := (ds_less (out := out) H.gd hne).1
    rcases fre_cases (fre left) left with hf | ⟨X, m, Y, rfl, h1, h2⟩
    · obtain ⟨m, r, rfl⟩ := List.exists_cons_of_ne_nil hne
      have hb := none_free H.gd.nd hf
      have hnt : t ∉ (m :: r).map Prod.snd := by
        have := hb t
        rw [List.count_eq_zero_of_not_mem H.gd.nt] at this
        exact List.count_eq_zero.1 this
      have orig : ∀ x ∈ m :: r, x ∈ A := fun x hx => by
        rcases H.sub x hx with h | h
        · exact h
        · exact absurd (List.mem_map.2 ⟨x, hx, h⟩) hnt
      have nextL : ∀ x ∈ m :: r, ∃ y ∈ m :: r, sg A x = some y := fun x hx => by
        have h3 : 0 < ((m :: r).map Prod.snd).count x.2 := List.count_pos_iff.2 (List.mem_map_of_mem hx)
        rw [hb] at h3
        obtain ⟨y, hy, e⟩ := List.mem_map.1 (List.count_pos_iff.1 h3)
        exact ⟨y, hy, sg_of g (orig y hy) e⟩
      have inj : ∀ x ∈ m :: r, ∀ y ∈ m :: r, x.2 = y.2 → x = y := fun x hx y hy e => by
        refine Classical.byContradiction fun hxy => ?_
        have hx2 : y ∈ (m :: r).erase x := (List.mem_erase_of_ne (fun e => hxy e.symm)).2 hy
        have c1 := count_erase_map Prod.snd hx x.2
        have c2 : 0 < (((m :: r).erase x).map Prod.snd).count x.2 := List.count_pos_iff.2 (by rw [e]; exact List.mem_map_of_mem hx2)
        have c3 := hb x.2
        have c4 := count_nodup H.gd.nd x.2
        rw [one_self] at c1
        omega
      have all : ∀ s, ∃ x ∈ m :: r, og A m s = some x := fun s => by
        induction s with
        | zero => exact ⟨m, by simp, rfl⟩
        | succ s ih =>
          obtain ⟨x, hx, e⟩ := ih
          obtain ⟨y, hy, e2⟩ := nextL x hx
          exact ⟨y, hy, by unfold og; rw [e]; exact e2⟩
      have hcy : ∃ p, 1 ≤ p ∧ og A m p = some m := by
        obtain ⟨a, b, hab, e⟩ := pigeon (m :: r) (fun s => (all s).choose) (fun s => (all s).choose_spec.1)
        have ea := (all a).choose_spec.2
        have eb := (all b).choose_spec.2
        have e : (all a).choose = (all b).choose := e
        rw [e] at ea
        have back : ∀ a d : Nat, og A m a = og A m (a + d) → og A m 0 = og A m d := fun a => by
          induction a with
          | zero => intro d h; rw [Nat.zero_add] at h; exact h
          | succ a ih =>
            intro d h
            refine ih d ?_
            obtain ⟨x, hx, ex⟩ := all a
            obtain ⟨y, hy, ey⟩ := all (a + d)
            obtain ⟨z, hz, ez⟩ := all (a + 1)
            have ez2 : og A m (a + d + 1) = some z := by rw [show a + d + 1 = a + 1 + d by omega, ← h]; exact ez
            obtain ⟨x', hx', sx⟩ := og_before ez
            obtain ⟨y', hy', sy⟩ := og_before ez2
            rw [ex] at hx'; cases hx'
            rw [ey] at hy'; cases hy'
            have := inj x hx y hy (by rw [← (sg_mem sx).2, ← (sg_mem sy).2])
            rw [ex, ey, this]
        have h0 := back a (b - a) (by rw [show a + (b - a) = b by omega]; exact ea.trans eb.symm)
        exact ⟨b - a, by omega, h0.symm⟩
      have hLs : Ls A m := by
        refine ⟨orig m (by simp), hcy, fun s x hx => ?_⟩
        obtain ⟨y, hy, e⟩ := all s
        rw [hx] at e
        cases e
        rcases List.mem_cons.1 hy with rfl | hy
        · exact Nat.le_refl _
        · refine Nat.le_of_lt (two_sub g.nd (List.Sublist.trans ?_ H.so))
          rw [List.map_cons]
          exact List.Sublist.cons_cons _ (List.singleton_sublist.2 (List.mem_map_of_mem hy))
      have hm2 : m.2 ≠ t := fun e => hnt (by rw [← e]; simp)
      have hmr : m ∉ r := (List.nodup_cons.1 H.gd.nodup).1
      rw [ds_temp hf] at hg ⊢
      have hml : m ∉ (m.1, t) :: r := fun h => by
        rcases List.mem_cons.1 h with h | h
        · exact hm2 (by rw [h])
        · exact hmr h
      refine ⟨hg, fun x hx => ?_, by simpa using H.so, fun f hf' => ?_, fun m' hm' hin s x hx => ?_⟩
      · rcases List.mem_cons.1 hx with rfl | hx
        · exact .inr rfl
        · exact H.sub x (by simp [hx])
      · have hiff : ∀ x ∈ A, x ≠ m → (x ∉ (m.1, t) :: r ↔ x ∉ m :: r) := fun x hx hxm => by
          simp only [List.mem_cons, not_or]
          constructor
          · exact fun h => ⟨hxm, h.2⟩
          · exact fun h => ⟨fun e => ht (List.mem_map.2 ⟨x, hx, by rw [e]⟩), h.2⟩
        have hfm : f m = true := (hf' m (orig m (by simp))).2 ⟨hLs, hml⟩
        have hc := filter_one (p := fun x => f x && !(x == m)) g.nodup (orig m (by simp)) (fun x hx hxm => by simp [hxm]) hfm (by simp)
        have := H.len (fun x => f x && !(x == m)) (fun x hx => by
          by_cases e : x = m
          · subst e
            simp
          · simp only [Bool.and_eq_true, Bool.not_eq_true', beq_eq_false_iff_ne]
            rw [hf' x hx, hiff x hx e]
            exact ⟨fun h => h.1, fun h => ⟨h, e⟩⟩)
        rw [hc]
        simp only [List.length_append, List.length_cons, List.length_nil] at this ⊢
        omega
      · have hin' : m' ∈ m :: r := by
          rcases List.mem_cons.1 hin with h | h
          · exact absurd (List.mem_map.2 ⟨m', hm'.mem, by rw [h]⟩) ht
          · simp [h]
        have hx' := H.int m' hm' hin' s x hx
        rcases List.mem_cons.1 hx' with e | h
        · exfalso
          subst e
          obtain ⟨p, hp, hcp⟩ := hm'.cyc
          obtain ⟨q, hq⟩ := cyc_back hp hcp hx
          have l1 := hm'.least s x hx
          have l2 := hLs.least q m' hq
          have e1 : (A.map Prod.fst).idxOf m'.1 = (A.map Prod.fst).idxOf x.1 := by omega
          have i1 : (A.map Prod.fst).idxOf m'.1 < (A.map Prod.fst).length := List.idxOf_lt_length_of_mem (List.mem_map_of_mem hm'.mem)
          have i2 : (A.map Prod.fst).idxOf x.1 < (A.map Prod.fst).length := List.idxOf_lt_length_of_mem (List.mem_map_of_mem hLs.mem)
          have g1 := List.getElem_idxOf i1
          have g2 := List.getElem_idxOf i2
          have e2 : m'.1 = x.1 := by rw [← g1, ← g2]; simp only [e1]
          have e3 : m' = x := by
            obtain ⟨i, hi, rfl⟩ := List.getElem_of_mem hm'.mem
            obtain ⟨j, hj, rfl⟩ := List.getElem_of_mem hLs.mem
            have := g.inj hi hj e2
            subst this
            rfl
          rw [e3] at hin
          exact hml hin
        · simp [h]
    · have hmm : m ∈ X ++ m :: Y := by simp
      have hXY : ∀ x, x ∈ X ++ Y → x ∈ X ++ m :: Y := fun x hx => by
        rcases List.mem_append.1 hx with hx | hx
        · simp [hx]
        · simp [hx]
      have hrd : ∀ y ∈ X ++ m :: Y, y.2 ≠ m.1 := fun y hy e => by
        have : rd (X ++ m :: Y) m.1 = true := List.any_eq_true.2 ⟨y, hy, by simpa using e⟩
        simp [fre, this] at h2
      have hno : ∀ m', Ls A m' → m' ∈ X ++ m :: Y → ∀ s x, og A m' s = some x → x ≠ m := fun m' hL hin s x hx e => by
        subst e
        obtain ⟨p, hp, hcp⟩ := hL.cyc
        obtain ⟨q, y, hy, e2⟩ := cyc_pred hp hcp hx
        exact hrd y (H.int m' hL hin q y hy) e2
      have hin : ∀ x, x ∈ X ++ m :: Y → x ≠ m → x ∈ X ++ Y := fun x hx hne => by
        simp only [List.mem_append, List.mem_cons] at hx ⊢
        rcases hx with h | h | h
        · exact .inl h
        · exact absurd h hne
        · exact .inr h
      rw [ds_put h1 h2] at hg ⊢
      refine ⟨hg, fun x hx => H.sub x (hXY x hx), ?_, fun f hf' => ?_, fun m' hL hm' s x hx => hin x (H.int m' hL (hXY m' hm') s x hx) (hno m' hL (hXY m' hm') s x hx)⟩
      · refine List.Sublist.trans ?_ H.so
        exact (List.Sublist.append_left (List.sublist_cons_self m Y) X).map _
      · have := H.len f (fun x hx => by
          rw [hf' x hx]
          constructor
          · exact fun h => ⟨h.1, fun hx2 => h.2 (hin x hx2 (hno x h.1 hx2 0 x rfl))⟩
          · exact fun h => ⟨h.1, fun hx2 => h.2 (hXY x hx2)⟩)
        simp only [List.length_append, List.length_cons, List.length_nil] at this ⊢
        omega
theorem CI.run {t : Lc} {A : List Mv} (g : Gd t A) (ht : t ∉ A.map Prod.snd) : ∀ (n : Nat) (left out : List Mv), CI t A left out → CI t A (dn t n (left, out)).1 (dn t n (left, out)).2
  | 0, _, _, H => H
  | n + 1, _, _, H => CI.run g ht n _ _ (H.step g ht)
/-- One move for each that does not stay, and one for each circle. -/
theorem ord_count {t : Lc} {l : List Mv} (g : Gd t l) (ht : t ∉ l.map Prod.snd) (f : Mv → Bool) (hf : ∀ x ∈ lft l, f x = true ↔ Ls (lft l) x) : (ord t l).length = (lft l).length + ((lft l).filter f).length := by
  have ht' : t ∉ (lft l).map Prod.snd := fun h => ht ((List.filter_sublist.map _).subset h)
  have H := CI.run g.lft ht' (3 * (lft l).length) (lft l) [] (CI.start g.lft)
  rw [ord_run g] at H
  have := H.len f (fun x hx => by rw [hf x hx]; simp)
  simpa using this
end Go.Proofs.Ytdoiblknbpbhaaa
