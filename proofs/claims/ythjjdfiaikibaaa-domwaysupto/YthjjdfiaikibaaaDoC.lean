import Derived.Test.YthjjdfiaikibaaaDoB
set_option linter.unusedVariables false
set_option linter.unusedSimpArgs false
namespace Go.Proofs.Ythjjdfiaikibaaa
open Go.ChangeShapes Go.WideShapes Go.ChangeAt Go.RowKit Go.Maps

/-- All that holds while the places behind t were taken. -/
structure DQ (n : Nat) (E : Nat → Nat → Prop) (p sd : Nat → Nat) (t : Nat) (s : St) : Prop where
  fi : FI n s.door s.f
  fq : FQ n p sd t s.f
  d1 : ∀ x, x < n → t < x → gn s.door x = sd x
  d0 : ∀ x, x < n → x ≤ t → gn s.door x = x
  lo : s.over.length = n
  ws : ∀ a : Int, ∀ y ∈ s.wt a, ∃ z : Nat, y = z ∧ t < z ∧ z < n ∧ (sd z : Int) = a
  co : ∀ x, x < n → t < x → DoneAt p sd (gn s.over x) x ∨ ((x : Int) ∈ s.wt (sd x) ∧ ∀ c, t < c → c < n → p c = sd x → ¬ Anc p c x)
theorem upd_at {α : Type} (f : Int → α) (a : Int) (v : α) (b : Int) : upd f a v b = if b = a then v else f b := rfl
theorem DQ.step {n E p sd t s} {mt : List Int} {fr : List (List Int)} (hD : Dfs n E p) (hS : Semi n E sd) (hmt : ∀ i, 1 ≤ i → i < n → gn mt i = p i) (hfr : ∀ v, v < n → ∀ y ∈ fr.getD v [], ∃ z : Nat, y = z ∧ E z v) (hfr2 : ∀ v, v < n → ∀ u, E u v → (u : Int) ∈ fr.getD v []) (ht : t + 1 < n) (h : DQ n E p sd (t + 1) s) : DQ n E p sd t (dstep mt fr (t + 1) s) := by
  obtain ⟨r1, r2, r3, m, r4, r5, r6, r7⟩ := dIn_ok hD hS (x := t + 1) (by omega) ht (fr.getD (t + 1) []) s.door s.f (t + 1) h.fi h.fq h.d1 (fun z hz hl => h.d0 z hz (by omega)) (hfr _ ht) (h.d0 _ ht (Nat.le_refl _)) (.inr rfl) (Nat.le_refl _)
  have hm : m = sd (t + 1) := semi_found hD hS (by omega) ht r6 r5 fun v hv => r7 v (hfr2 _ ht v hv)
  subst hm
  have hpt := hD.lt (t + 1) (by omega) ht
  have emt := hmt (t + 1) (by omega) ht
  have emt2 : (gn mt (t + 1)).toNat = p (t + 1) := by rw [emt]; simp
  have hdoor : ∀ z, z < n → t < z → gn (dIn (t + 1) (fr.getD (t + 1) []) (s.door, s.f)).1 z = sd z := by
    intro z hz hl
    by_cases e : z = t + 1
    · subst e; exact r4
    · rw [r3 z e]; exact h.d1 z hz (by omega)
  have hq := r2.hang hD r1 ht
  have hfi := r1.hang (x := t + 1) (v := ((p (t + 1) : Nat) : Int)) ht (by omega) (by omega)
  generalize hd : dIn (t + 1) (fr.getD (t + 1) []) (s.door, s.f) = d at r1 r2 r3 r4 hdoor hq hfi
  have hw : ∀ a : Int, ∀ y ∈ upd s.wt (gn d.1 (t + 1)) (s.wt (gn d.1 (t + 1)) ++ [((t + 1 : Nat) : Int)]) a, ∃ z : Nat, y = z ∧ t < z ∧ z < n ∧ (sd z : Int) = a := by
    intro a y hy
    rw [upd_at] at hy
    split at hy
    · next e =>
      subst e
      rcases List.mem_append.1 hy with hy | hy
      · obtain ⟨z, z1, z2, z3, z4⟩ := h.ws _ y hy; exact ⟨z, z1, by omega, z3, z4⟩
      · simp at hy; exact ⟨t + 1, by rw [hy]; rfl, by omega, ht, by rw [r4]⟩
    · obtain ⟨z, z1, z2, z3, z4⟩ := h.ws _ y hy; exact ⟨z, z1, by omega, z3, z4⟩
  obtain ⟨o1, o2, o3, o4⟩ := dOv_done hD hS ht hdoor (upd s.wt (gn d.1 (t + 1)) (s.wt (gn d.1 (t + 1)) ++ [((t + 1 : Nat) : Int)]) (p (t + 1) : Nat)) s.over ⟨d.2.up.set (t + 1) ((p (t + 1) : Nat) : Int), d.2.best⟩ hfi hq h.lo fun y hy => by
    obtain ⟨z, z1, z2, z3, z4⟩ := hw _ y hy
    exact ⟨z, z1, z2, z3, by omega⟩
  have es : dstep mt fr (t + 1) s = ⟨d.1, (dOv d.1 (p (t + 1)) (upd s.wt (gn d.1 (t + 1)) (s.wt (gn d.1 (t + 1)) ++ [((t + 1 : Nat) : Int)]) (p (t + 1) : Nat)) (s.over, ⟨d.2.up.set (t + 1) ((p (t + 1) : Nat) : Int), d.2.best⟩)).2, (dOv d.1 (p (t + 1)) (upd s.wt (gn d.1 (t + 1)) (s.wt (gn d.1 (t + 1)) ++ [((t + 1 : Nat) : Int)]) (p (t + 1) : Nat)) (s.over, ⟨d.2.up.set (t + 1) ((p (t + 1) : Nat) : Int), d.2.best⟩)).1, upd (upd s.wt (gn d.1 (t + 1)) (s.wt (gn d.1 (t + 1)) ++ [((t + 1 : Nat) : Int)])) (p (t + 1) : Nat) []⟩ := by
    unfold dstep
    rw [hd, emt2, emt]
  rw [es]
  refine ⟨o1, o2, hdoor, fun x hx hl => ?_, o3, fun a y hy => ?_, fun x hx hl => ?_⟩
  · show gn d.1 x = x
    rw [r3 x (by omega)]; exact h.d0 x hx (by omega)
  · simp only at hy
    rw [upd_at] at hy
    split at hy
    · simp at hy
    · exact hw a y hy
  · simp only
    by_cases hin : sd x = p (t + 1)
    · left
      apply o4 x hx
      by_cases e : x = t + 1
      · subst e
        left
        rw [upd_at, r4, if_pos (by rw [hin])]
        simp
      · rcases h.co x hx (by omega) with hc | ⟨hc, _⟩
        · exact .inr hc
        · left
          rw [upd_at]
          split
          · next e2 => rw [← e2, ← hin]; exact List.mem_append_left _ hc
          · rw [← hin]; exact hc
    · by_cases e : x = t + 1
      · subst e
        right
        refine ⟨?_, fun c c1 c2 c3 ca => ?_⟩
        · rw [upd_at, if_neg (by omega), upd_at, if_pos r4.symm]; simp
        · have := ca.le hD.pl
          have : c = t + 1 := by omega
          subst this
          omega
      · rcases h.co x hx (by omega) with hc | ⟨hc, hc2⟩
        · exact .inl (o4 x hx (.inr hc))
        · right
          refine ⟨?_, fun c c1 c2 c3 => ?_⟩
          · rw [upd_at, if_neg (by omega), upd_at]
            split
            · next e2 => rw [← e2]; exact List.mem_append_left _ hc
            · exact hc
          · by_cases e3 : c = t + 1
            · subst e3; omega
            · exact hc2 c (by omega) c2 c3
theorem DQ.run {n E p sd} {mt : List Int} {fr : List (List Int)} (hD : Dfs n E p) (hS : Semi n E sd) (hmt : ∀ i, 1 ≤ i → i < n → gn mt i = p i) (hfr : ∀ v, v < n → ∀ y ∈ fr.getD v [], ∃ z : Nat, y = z ∧ E z v) (hfr2 : ∀ v, v < n → ∀ u, E u v → (u : Int) ∈ fr.getD v []) : ∀ (k : Nat) (s : St), k < n → DQ n E p sd k s → DQ n E p sd 0 (drun mt fr k s)
  | 0, s, _, h => h
  | k + 1, s, hk, h => DQ.run hD hS hmt hfr hfr2 k _ (by omega) (h.step hD hS hmt hfr hfr2 hk)
theorem gn_door0 {n x : Nat} (hx : x < n) : gn (door0 n) x = x := by simp [gn, door0, hx]
theorem DQ.zero {n E p sd} : DQ n E p sd (n - 1) (st0 n) := by
  refine ⟨FI.zero n, ⟨fun x hx h => by omega, fun x hx h => by omega, fun x hx h => by omega, fun x hx h => by omega, fun x hx h => ?_, fun x hx h => ?_⟩, fun x hx h => by omega, fun x hx h => gn_door0 hx, by simp [st0], fun a y hy => by simp [st0] at hy, fun x hx h => by omega⟩
  · show gn (List.replicate n (-1)) x < 0
    simp [gn, h]
  · exact gn_door0 h
theorem fpass_imm {n E p sd} (hD : Dfs n E p) (hS : Semi n E sd) {door over : List Int} (hd : ∀ x, x < n → 0 < x → gn door x = sd x) (hl : over.length = n) (hdn : ∀ x, x < n → 0 < x → DoneAt p sd (gn over x) x) : ∀ k, k < n → (fpass door k over).length = n ∧ (∀ x, 1 ≤ x → x ≤ k → ∃ d : Nat, gn (fpass door k over) x = d ∧ Imm n E d x) ∧ ∀ x, k < x → gn (fpass door k over) x = gn over x
  | 0, _ => ⟨hl, fun x h1 h2 => by omega, fun x _ => rfl⟩
  | k + 1, hk => by
    obtain ⟨i1, i2, i3⟩ := fpass_imm hD hS hd hl hdn k (by omega)
    have ek := i3 (k + 1) (by omega)
    have hdk := hd (k + 1) hk (by omega)
    generalize hO : fpass door k over = O at i1 i2 i3 ek
    have hfp : fpass door (k + 1) over = fin1 door (k + 1) O := by rw [← hO]; rfl
    rw [hfp]
    rcases hdn (k + 1) hk (by omega) with ⟨a1, a2⟩ | ⟨u, u1, u2, u3, u4, u5⟩
    · have e : fin1 door (k + 1) O = O := by unfold fin1; rw [if_pos (by rw [ek, a1, hdk])]
      rw [e]
      refine ⟨i1, fun x h1 h2 => ?_, fun x hx => i3 x (by omega)⟩
      by_cases hx : x = k + 1
      · subst hx
        exact ⟨sd (k + 1), by rw [ek, a1], imm_semi hD hS (by omega) hk a2⟩
      · exact i2 x h1 (by omega)
    · have hul := u2.le hD.pl
      have hne : u ≠ k + 1 := by rintro rfl; omega
      have e : fin1 door (k + 1) O = O.set (k + 1) (gn O u) := by
        unfold fin1
        rw [if_neg (by rw [ek, u1, hdk]; omega), ek, u1]
        simp
      obtain ⟨d, d1, d2⟩ := i2 u (by omega) (by omega)
      have hgs : ∀ i, gn (O.set (k + 1) (gn O u)) i = if i = k + 1 then gn O u else gn O i := fun i => gn_set (by rw [i1]; exact hk)
      rw [e]
      refine ⟨by simpa using i1, fun x h1 h2 => ?_, fun x hx => by rw [hgs, if_neg (by omega)]; exact i3 x (by omega)⟩
      by_cases hx : x = k + 1
      · subst hx
        exact ⟨d, by rw [hgs, if_pos rfl, d1], imm_between hD hS (by omega) hk u2 u3 u5 d2⟩
      · rw [hgs, if_neg hx]; exact i2 x h1 (by omega)
/-- What the search finds are the immediate dominators. -/
theorem domP_imm {E p} {mt : List Int} {fr : List (List Int)} (hpos : 0 < mt.length) (hD : Dfs mt.length E p) (hmt : ∀ i, 1 ≤ i → i < mt.length → gn mt i = p i) (hfr : ∀ v, v < mt.length → ∀ y ∈ fr.getD v [], ∃ z : Nat, y = z ∧ E z v) (hfr2 : ∀ v, v < mt.length → ∀ u, E u v → (u : Int) ∈ fr.getD v []) : ∀ x, 1 ≤ x → x < mt.length → ∃ d : Nat, gn (domP mt fr) x = d ∧ Imm mt.length E d x := by
  obtain ⟨sd, hS⟩ := semi_is hD
  have hq := DQ.run (sd := sd) hD hS hmt hfr hfr2 (mt.length - 1) (st0 mt.length) (by omega) DQ.zero
  have hdn : ∀ x, x < mt.length → 0 < x → DoneAt p sd (gn (drun mt fr (mt.length - 1) (st0 mt.length)).over x) x := by
    intro x hx h0
    rcases hq.co x hx h0 with h | ⟨_, h⟩
    · exact h
    · exfalso
      have ha := hS.anc hD (w := x) (by omega) hx
      have hlt := hS.lt hD (w := x) (by omega) hx
      obtain ⟨k, hk⟩ := ha
      have key : ∀ k y, y < mt.length → upk p k y = sd x → sd x < y → ∃ c, 0 < c ∧ c < mt.length ∧ p c = sd x ∧ Anc p c y := by
        intro k
        induction k with
        | zero => intro y _ e hlt; have e : y = sd x := e; omega
        | succ k ih =>
          intro y hy e hlt
          by_cases hpy : p y = sd x
          · exact ⟨y, by omega, hy, hpy, Anc.refl _ _⟩
          · have e : upk p k (p y) = sd x := e
            have := upk_le hD.pl k (p y)
            have := hD.pl y
            obtain ⟨c, c1, c2, c3, c4⟩ := ih (p y) (by omega) e (by omega)
            exact ⟨c, c1, c2, c3, c4.trans (Anc.par p y)⟩
      obtain ⟨c, c1, c2, c3, c4⟩ := key k x hx hk hlt
      exact h c c1 c2 c3 c4
  intro x h1 hx
  exact (fpass_imm hD hS hq.d1 hq.lo hdn (mt.length - 1) (by omega)).2.1 x h1 (by omega)
end Go.Proofs.Ythjjdfiaikibaaa
