import Derived.Test.YthjjdfiaikibaaaDmR
import Derived.Test.YthjjdfiaikibaaaDoA
set_option linter.unusedVariables false
set_option linter.unusedSimpArgs false
namespace Go.Proofs.Ythjjdfiaikibaaa
open Go.ChangeShapes Go.WideShapes Go.ChangeAt Go.RowKit Go.Maps

/-- The forest, of which the places behind t hang. -/
structure FQ (n : Nat) (p sd : Nat → Nat) (t : Nat) (f : Fo) : Prop where
  up : ∀ x, x < n → t < x → 0 ≤ gn f.up x
  ua : ∀ x, x < n → t < x → Anc p (gn f.up x).toNat x ∧ (gn f.up x).toNat < x
  ba : ∀ x, x < n → t < x → Anc p (gn f.best x).toNat x ∧ (gn f.up x).toNat < (gn f.best x).toNat
  mn : ∀ x, x < n → t < x → ∀ u, Anc p u x → (gn f.up x).toNat < u → t < u ∧ sd (gn f.best x).toNat ≤ sd u
  fr : ∀ x, x ≤ t → x < n → gn f.up x < 0
  fb : ∀ x, x ≤ t → x < n → gn f.best x = x
theorem FQ.stp {n p sd t f} {door : List Int} (hp : ∀ v, p v ≤ v) (h : FQ n p sd t f) (hf : FI n door f) (hd : ∀ x, x < n → t < x → gn door x = sd x) {low : Nat} (hl : low < n) (h1 : t < low) (h2 : t < (gn f.up low).toNat) : FQ n p sd t (stp door low f) := by
  obtain ⟨a1, a2⟩ := h.ua low hl h1
  obtain ⟨b1, b2⟩ := h.ba low hl h1
  have han : (gn f.up low).toNat < n := by omega
  obtain ⟨c1, c2⟩ := h.ua _ han h2
  obtain ⟨e1, e2⟩ := h.ba _ han h2
  have hbl := b1.le hp
  have hel := e1.le hp
  have hbd : gn door (gn f.best low).toNat = sd (gn f.best low).toNat := hd _ (by omega) (by omega)
  have hbt := (h.mn _ han h2 _ e1 e2).1
  have hed : gn door (gn f.best (gn f.up low).toNat).toNat = sd (gn f.best (gn f.up low).toNat).toNat := hd _ (by omega) hbt
  have hup : ∀ x, gn (Go.Proofs.Ythjjdfiaikibaaa.stp door low f).up x = if x = low then gn f.up (gn f.up low).toNat else gn f.up x := fun x => gn_set (by rw [hf.lu]; exact hl)
  have hbo : ∀ x, x ≠ low → gn (Go.Proofs.Ythjjdfiaikibaaa.stp door low f).best x = gn f.best x := by
    intro x hx
    unfold Go.Proofs.Ythjjdfiaikibaaa.stp
    simp only
    split
    · rw [gn_set (by rw [hf.lb]; exact hl), if_neg hx]
    · rfl
  have hbi : (gn (Go.Proofs.Ythjjdfiaikibaaa.stp door low f).best low = gn f.best (gn f.up low).toNat ∧ sd (gn f.best (gn f.up low).toNat).toNat ≤ sd (gn f.best low).toNat) ∨ (gn (Go.Proofs.Ythjjdfiaikibaaa.stp door low f).best low = gn f.best low ∧ sd (gn f.best low).toNat ≤ sd (gn f.best (gn f.up low).toNat).toNat) := by
    unfold Go.Proofs.Ythjjdfiaikibaaa.stp
    simp only
    split
    · next hc => left; rw [gn_set (by rw [hf.lb]; exact hl), if_pos rfl]; exact ⟨rfl, by omega⟩
    · next hc => right; exact ⟨rfl, by omega⟩
  refine ⟨fun x hx ht => ?_, fun x hx ht => ?_, fun x hx ht => ?_, fun x hx ht u hu hlt => ?_, fun x hx hn => ?_, fun x hx hn => by rw [hbo x (by omega)]; exact h.fb x hx hn⟩
  · rw [hup]; split
    · exact h.up _ han h2
    · exact h.up x hx ht
  · rw [hup]; split
    · next e => subst e; exact ⟨c1.trans a1, by omega⟩
    · exact h.ua x hx ht
  · by_cases e : x = low
    · subst e
      rw [hup, if_pos rfl]
      rcases hbi with ⟨q1, q2⟩ | ⟨q1, q2⟩
      · rw [q1]; exact ⟨e1.trans a1, e2⟩
      · rw [q1]; exact ⟨b1, by omega⟩
    · rw [hup, if_neg e, hbo x e]; exact h.ba x hx ht
  · by_cases e : x = low
    · subst e
      rw [hup, if_pos rfl] at hlt
      have key : t < u ∧ (sd (gn f.best (gn f.up x).toNat).toNat ≤ sd u ∨ sd (gn f.best x).toNat ≤ sd u) := by
        by_cases hc : (gn f.up x).toNat < u
        · have := h.mn x hx ht u hu hc; exact ⟨this.1, .inr this.2⟩
        · have := h.mn _ han h2 u (hu.lin hp a1 (by omega)) hlt; exact ⟨this.1, .inl this.2⟩
      refine ⟨key.1, ?_⟩
      rcases hbi with ⟨q1, q2⟩ | ⟨q1, q2⟩ <;> rw [q1] <;> rcases key.2 with k | k <;> omega
    · rw [hup, if_neg e] at hlt
      rw [hbo x e]; exact h.mn x hx ht u hu hlt
  · rw [hup]; split
    · next e => omega
    · exact h.fr x hx hn
theorem FQ.fold {n p sd t f} {door : List Int} (hp : ∀ v, p v ≤ v) (h : FQ n p sd t f) (hf : FI n door f) (hd : ∀ x, x < n → t < x → gn door x = sd x) : ∀ (q x : Nat), x < q → x < n → t < x → FQ n p sd t ((wayUp f.up q x).foldr (Go.Proofs.Ythjjdfiaikibaaa.stp door) f) ∧ gn ((wayUp f.up q x).foldr (Go.Proofs.Ythjjdfiaikibaaa.stp door) f).up (gn ((wayUp f.up q x).foldr (Go.Proofs.Ythjjdfiaikibaaa.stp door) f).up x).toNat < 0
  | 0, _, hq, _, _ => by omega
  | q + 1, x, hq, hx, ht => by
    have hu := h.ua x hx ht
    have h0 := h.up x hx ht
    have hfi := (fold_ok hf _ (way_le hf (q + 1) x hx h0).2 (way_ok hf (q + 1) x hx h0)).1
    by_cases h1 : 0 ≤ gn f.up (gn f.up x).toNat
    · have e : wayUp f.up (q + 1) x = x :: wayUp f.up q (gn f.up x).toNat := by simp [wayUp, h1]
      have ht2 : t < (gn f.up x).toNat := by
        apply Classical.byContradiction
        intro hc
        have := h.fr _ (by omega) (show (gn f.up x).toNat < n by omega)
        omega
      obtain ⟨i1, i2⟩ := FQ.fold hp h hf hd q (gn f.up x).toNat (by omega) (by omega) ht2
      have hl := way_le hf q (gn f.up x).toNat (by omega) h1
      have hfi1 := (fold_ok hf _ hl.2 (way_ok hf q _ (by omega) h1)).1
      have hxn : x ∉ wayUp f.up q (gn f.up x).toNat := fun hm => by have := hl.1 x hm; omega
      have eo := fold_other door f x _ hxn
      rw [e, List.foldr_cons]
      generalize hF : (wayUp f.up q (gn f.up x).toNat).foldr (Go.Proofs.Ythjjdfiaikibaaa.stp door) f = F at i1 i2 hfi1 eo ⊢
      have hr := FQ.stp hp i1 hfi1 hd hx ht (by rw [eo]; exact ht2)
      refine ⟨hr, ?_⟩
      have hup : ∀ z, gn (Go.Proofs.Ythjjdfiaikibaaa.stp door x F).up z = if z = x then gn F.up (gn F.up x).toNat else gn F.up z := fun z => gn_set (by rw [hfi1.lu]; exact hx)
      rw [hup x, if_pos rfl, eo]
      have := i1.ua _ (show (gn f.up x).toNat < n by omega) ht2
      rw [hup, if_neg (by omega)]
      exact i2
    · have e : wayUp f.up (q + 1) x = [] := by simp [wayUp, h1]
      rw [e, List.foldr_nil]
      exact ⟨h, by omega⟩
theorem lst_ok {n p sd t f} {door : List Int} (hp : ∀ v, p v ≤ v) (h : FQ n p sd t f) (hf : FI n door f) (hd : ∀ x, x < n → t < x → gn door x = sd x) {x : Nat} (hx : x < n) :
    FQ n p sd t (lst door f x).2 ∧ (x ≤ t → (lst door f x).1 = x) ∧ (t < x → Anc p (lst door f x).1 x ∧ t < (lst door f x).1 ∧ ∀ u, Anc p u x → t < u → sd (lst door f x).1 ≤ sd u) := by
  by_cases ht : t < x
  · have h0 := h.up x hx ht
    have e : lst door f x = ((gn (shorten door f x).best x).toNat, shorten door f x) := by unfold lst; rw [if_neg (by omega)]
    rw [e]
    obtain ⟨h1, h2⟩ := FQ.fold hp h hf hd (x + 1) x (by omega) hx ht
    refine ⟨h1, fun hc => by omega, fun _ => ?_⟩
    obtain ⟨u1, u2⟩ := h1.ua x hx ht
    have hr : (gn (shorten door f x).up x).toNat ≤ t := by
      apply Classical.byContradiction
      intro hc
      have := h1.up (gn (shorten door f x).up x).toNat (show _ < n from Nat.lt_trans u2 hx) (by unfold shorten; unfold shorten at hc; omega)
      unfold shorten at this
      omega
    obtain ⟨b1, b2⟩ := h1.ba x hx ht
    have mn := h1.mn x hx ht
    exact ⟨b1, (mn _ b1 b2).1, fun u hu hut => (mn u hu (Nat.lt_of_le_of_lt hr hut)).2⟩
  · have := h.fr x (by omega) hx
    have e : lst door f x = (x, f) := by unfold lst; rw [if_pos this]
    rw [e]
    exact ⟨h, fun _ => rfl, fun hc => absurd hc ht⟩
theorem dIn_ok {n E p sd} (hD : Dfs n E p) (hS : Semi n E sd) {x : Nat} (hx1 : 1 ≤ x) (hx : x < n) : ∀ (src : List Int) (door : List Int) (f : Fo) (m : Nat), FI n door f → FQ n p sd x f → (∀ z, z < n → x < z → gn door z = sd z) → (∀ z, z < n → z < x → gn door z = z) → (∀ y ∈ src, ∃ z : Nat, y = z ∧ E z x) → gn door x = m → (Sp E m x ∨ m = x) → m ≤ x →
    FI n (dIn x src (door, f)).1 (dIn x src (door, f)).2 ∧ FQ n p sd x (dIn x src (door, f)).2 ∧ (∀ z, z ≠ x → gn (dIn x src (door, f)).1 z = gn door z) ∧ ∃ m' : Nat, gn (dIn x src (door, f)).1 x = m' ∧ m' ≤ m ∧ (Sp E m' x ∨ m' = x) ∧ ∀ z : Nat, (z : Int) ∈ src → (z < x → m' ≤ z) ∧ (x < z → ∀ u, Anc p u z → x < u → m' ≤ sd u)
  | [], door, f, m, hf, hq, hd, h0, hs, hm, hc, hmx => ⟨hf, hq, fun _ _ => rfl, m, hm, Nat.le_refl _, hc, fun z hz => by simp at hz⟩
  | y :: src, door, f, m, hf, hq, hd, h0, hs, hm, hc, hmx => by
    obtain ⟨z, rfl, hz⟩ := hs y (by simp)
    have hzn := (hD.rg _ _ hz).1
    obtain ⟨l1, l2, l3⟩ := lst_ok hD.pl hq hf hd hzn
    obtain ⟨l4, l5, l6⟩ := hf.lst hzn
    have hcand : ∃ c : Nat, gn door (lst door f z).1 = c ∧ (Sp E c x ∨ c = x ∨ c = m) ∧ (z < x → c ≤ z) ∧ (x < z → ∀ u, Anc p u z → x < u → c ≤ sd u) := by
      rcases Nat.lt_trichotomy z x with hlt | heq | hgt
      · refine ⟨z, ?_, .inl ⟨0, hz⟩, fun _ => Nat.le_refl _, fun _ => by omega⟩
        rw [l2 (by omega)]; exact h0 z hzn hlt
      · refine ⟨m, ?_, .inr (.inr rfl), fun _ => by omega, fun _ => by omega⟩
        rw [l2 (by omega), heq]; exact hm
      · obtain ⟨q1, q2, q3⟩ := l3 hgt
        refine ⟨sd (lst door f z).1, hd _ l5 q2, .inl (sp_far hD hS hz q1 q2), fun _ => by omega, fun _ u hu hxu => q3 u hu hxu⟩
    obtain ⟨c, c1, c2, c3, c4⟩ := hcand
    have e : dIn x ((z : Int) :: src) (door, f) = dIn x src (door.set x (min (gn door x) (gn door (lst door f z).1)), (lst door f z).2) := by
      simp [dIn]
    have hmin : min (gn door x) (gn door (lst door f z).1) = ((min m c : Nat) : Int) := by rw [hm, c1]; omega
    rw [hmin] at e
    rw [e]
    have hgs : ∀ i, gn (door.set x ((min m c : Nat) : Int)) i = if i = x then ((min m c : Nat) : Int) else gn door i := fun i => gn_set (by rw [hf.ld]; exact hx)
    have hmc : min m c ≤ m := by omega
    obtain ⟨r1, r2, r3, m', r4, r5, r6, r7⟩ := dIn_ok hD hS hx1 hx src (door.set x ((min m c : Nat) : Int)) (lst door f z).2 (min m c) (l4.door hx (by omega) (by omega)) l1 (fun i hi hxi => by rw [hgs, if_neg (by omega)]; exact hd i hi hxi) (fun i hi hxi => by rw [hgs, if_neg (by omega)]; exact h0 i hi hxi) (fun y hy => hs y (by simp [hy])) (by rw [hgs, if_pos rfl]) (by
      by_cases hle : m ≤ c
      · rw [Nat.min_eq_left hle]; exact hc
      · rw [Nat.min_eq_right (by omega)]
        rcases c2 with c2 | c2 | c2
        · exact .inl c2
        · exact .inr c2
        · omega) (by omega)
    refine ⟨r1, r2, fun i hi => by rw [r3 i hi, hgs, if_neg hi], m', r4, by omega, r6, fun i hi => ?_⟩
    rcases List.mem_cons.1 hi with h | h
    · have : i = z := by omega
      subst this
      exact ⟨fun h => by have := c3 h; omega, fun h u hu hxu => by have := c4 h u hu hxu; omega⟩
    · exact r7 i h
/-- What is known of a place once it was found. -/
def DoneAt (p sd : Nat → Nat) (o : Int) (x : Nat) : Prop := (o = sd x ∧ ∀ u, Anc p u x → sd x < u → sd x ≤ sd u) ∨ ∃ u : Nat, o = u ∧ Anc p u x ∧ sd x < u ∧ sd u < sd x ∧ ∀ v, Anc p v x → sd x < v → sd u ≤ sd v
theorem dOv_done {n E p sd} (hD : Dfs n E p) (hS : Semi n E sd) {t : Nat} (ht : t + 1 < n) {door : List Int} (hd : ∀ z, z < n → t < z → gn door z = sd z) : ∀ (l : List Int) (over : List Int) (f : Fo), FI n door f → FQ n p sd t f → over.length = n → (∀ y ∈ l, ∃ z : Nat, y = z ∧ t < z ∧ z < n ∧ sd z = p (t + 1)) →
    FI n door (dOv door (p (t + 1)) l (over, f)).2 ∧ FQ n p sd t (dOv door (p (t + 1)) l (over, f)).2 ∧ (dOv door (p (t + 1)) l (over, f)).1.length = n ∧ ∀ x, x < n → (x : Int) ∈ l ∨ DoneAt p sd (gn over x) x → DoneAt p sd (gn (dOv door (p (t + 1)) l (over, f)).1 x) x
  | [], over, f, hf, hq, ho, _ => ⟨hf, hq, ho, fun x _ h => by rcases h with h | h; simp at h; exact h⟩
  | y :: l, over, f, hf, hq, ho, hl => by
    obtain ⟨z, rfl, z1, z2, z3⟩ := hl y (by simp)
    have hpt := hD.lt (t + 1) (by omega) ht
    have e : dOv door (p (t + 1)) ((z : Int) :: l) (over, f) = dOv door (p (t + 1)) l (over.set z ((lbw door f z (p (t + 1))).1 : Int), (lbw door f z (p (t + 1))).2) := by
      simp [dOv]
    obtain ⟨l1, l2, l3⟩ := lst_ok hD.pl hq hf hd z2
    obtain ⟨l4, l5, l6⟩ := hf.lst z2
    obtain ⟨q1, q2, q3⟩ := l3 z1
    have hbe : (lbw door f z (p (t + 1))).2 = (lst door f z).2 := by unfold lbw; split <;> rfl
    have hsa := hS.anc hD (w := z) (by omega) z2
    have hch : ∀ u, Anc p u z → sd z < u → t < u := by
      intro u hu hlt
      apply Classical.byContradiction
      intro hc
      have a1 := hD.iv u (t + 1) z z2 hu (by omega) (by omega)
      have a2 := (a1.up (by omega)).le hD.pl
      omega
    have hdone : DoneAt p sd ((lbw door f z (p (t + 1))).1 : Int) z := by
      have e1 : gn door (lst door f z).1 = sd (lst door f z).1 := hd _ l5 q2
      have e2 : gn door z = sd z := hd z z2 z1
      unfold lbw
      rw [e1, e2]
      split
      · next hc =>
        exact .inr ⟨_, rfl, q1, by omega, by omega, fun v hv hlt => q3 v hv (hch v hv hlt)⟩
      · next hc =>
        refine .inl ⟨by rw [z3], fun u hu hlt => ?_⟩
        have := q3 u hu (hch u hu hlt)
        omega
    rw [e, hbe]
    have hgs : ∀ i, gn (over.set z ((lbw door f z (p (t + 1))).1 : Int)) i = if i = z then ((lbw door f z (p (t + 1))).1 : Int) else gn over i := fun i => gn_set (by rw [ho]; exact z2)
    obtain ⟨r1, r2, r3, r4⟩ := dOv_done hD hS ht hd l (over.set z ((lbw door f z (p (t + 1))).1 : Int)) (lst door f z).2 l4 l1 (by simpa using ho) fun y hy => hl y (by simp [hy])
    refine ⟨r1, r2, r3, fun x hx h => r4 x hx ?_⟩
    by_cases hxz : x = z
    · right; rw [hgs, if_pos hxz]; subst hxz; exact hdone
    · rcases h with h | h
      · rcases List.mem_cons.1 h with h | h
        · omega
        · exact .inl h
      · right; rw [hgs, if_neg hxz]; exact h
theorem FQ.hang {n E p sd t f} (hD : Dfs n E p) (h : FQ n p sd (t + 1) f) {door : List Int} (hf : FI n door f) (ht : t + 1 < n) : FQ n p sd t ⟨f.up.set (t + 1) ((p (t + 1) : Nat) : Int), f.best⟩ := by
  have hl := hD.lt (t + 1) (by omega) ht
  have hup : ∀ x, gn (f.up.set (t + 1) ((p (t + 1) : Nat) : Int)) x = if x = t + 1 then ((p (t + 1) : Nat) : Int) else gn f.up x := fun x => gn_set (by rw [hf.lu]; exact ht)
  have hb := h.fb (t + 1) (by omega) ht
  refine ⟨fun x hx hlt => ?_, fun x hx hlt => ?_, fun x hx hlt => ?_, fun x hx hlt u hu hul => ?_, fun x hx hn => ?_, fun x hx hn => h.fb x (by omega) hn⟩
  · simp only [hup]; split
    · omega
    · exact h.up x hx (by omega)
  · simp only [hup]; split
    · next e => subst e; exact ⟨by simpa using Anc.par p (t + 1), by simpa using hl⟩
    · exact h.ua x hx (by omega)
  · simp only [hup]; split
    · next e => subst e; rw [hb]; exact ⟨by simpa using Anc.refl p (t + 1), by simpa using hl⟩
    · exact h.ba x hx (by omega)
  · simp only [hup] at hul ⊢
    by_cases e : x = t + 1
    · subst e
      rw [if_pos rfl] at hul
      have hu' := hu.le hD.pl
      have : u = t + 1 := by
        apply Classical.byContradiction
        intro hne
        have := (hu.up hne).le hD.pl
        simp at hul
        omega
      subst this
      rw [hb]
      exact ⟨by omega, by simp⟩
    · rw [if_neg e] at hul
      have := h.mn x hx (by omega) u hu hul
      exact ⟨by omega, this.2⟩
  · simp only [hup]; split
    · omega
    · exact h.fr x (by omega) hn
end Go.Proofs.Ythjjdfiaikibaaa
