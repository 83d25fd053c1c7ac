import Derived.Test.YtpgbkkllnbahpaaScX
set_option linter.unusedVariables false
set_option linter.unusedSimpArgs false
namespace Go.Proofs.Ytpgbkkllnbahpaa

theorem nodup_len {α : Type} [DecidableEq α] : ∀ (l m : List α), l.Nodup → (∀ a ∈ l, a ∈ m) → l.length ≤ m.length
  | [], m, _, _ => by simp
  | a :: l, m, hd, hs => by
    obtain ⟨h1, h2⟩ := List.nodup_cons.1 hd
    have ha := hs a (by simp)
    have := nodup_len l (m.erase a) h2 fun b hb => (List.mem_erase_of_ne (show b ≠ a from fun e => h1 (by rw [← e]; exact hb))).2 (hs b (by simp [hb]))
    rw [List.length_erase_of_mem ha] at this
    have hp := List.length_pos_of_mem ha
    simp
    omega
theorem filter_one {p p' : Iv → Bool} {z : Iv} : ∀ (l : List Iv), l.Nodup → z ∈ l → p z = false → p' z = true → (∀ y ∈ l, y ≠ z → p' y = p y) → (l.filter p').length = (l.filter p).length + 1
  | [], _, hz, _, _, _ => by simp at hz
  | a :: l, hd, hz, h1, h2, h3 => by
    obtain ⟨hd1, hd2⟩ := List.nodup_cons.1 hd
    by_cases e : a = z
    · subst e
      have he : l.filter p' = l.filter p := List.filter_congr fun y hy => h3 y (by simp [hy]) fun q => hd1 (q ▸ hy)
      rw [List.filter_cons, List.filter_cons, h1, h2, he]
      simp
    · have hz' : z ∈ l := by
        rcases List.mem_cons.1 hz with q | q
        · exact absurd q.symm e
        · exact q
      have ih := filter_one l hd2 hz' h1 h2 fun y hy => h3 y (by simp [hy])
      have ha := h3 a (by simp) e
      rw [List.filter_cons, List.filter_cons, ha]
      cases p a <;> simp [ih]
theorem nodup_of_regs {L : List Iv} (h : (L.map (·.1)).Nodup) : L.Nodup := by
  induction L with
  | nil => simp
  | cons a L ih =>
    rw [List.map_cons, List.nodup_cons] at h
    rw [List.nodup_cons]
    exact ⟨fun q => h.1 (List.mem_map.2 ⟨a, q, rfl⟩), ih h.2⟩
def atP (L : List Iv) (x : Iv) : List Iv := L.filter fun y => decide (y.2.1 ≤ x.2.1) && decide (x.2.1 ≤ y.2.2)
structure Apt (L : List Iv) (r i : Nat) (s : SS) : Prop where
  slt : ∀ y ∈ L.take i, ∀ z ∈ L.take i, (plc s.pl y.1).1 = 2 → (plc s.pl z.1).1 = 2 → (plc s.pl y.1).2 = (plc s.pl z.1).2 → y = z
  cnt : ((L.take i).filter (fun y => decide ((plc s.pl y.1).1 = 2))).length = s.sl
  rgs : ∀ y ∈ L.take i, ∀ z ∈ L.take i, (plc s.pl y.1).1 = 1 → (plc s.pl z.1).1 = 1 → (plc s.pl y.1).2 = (plc s.pl z.1).2 → y ≠ z → ¬ (y.2.1 ≤ z.2.2 ∧ z.2.1 ≤ y.2.2)
  few : s.sl = 0 ∨ ∃ x ∈ L, r < (atP L x).length
theorem Apt.init (L : List Iv) (r n : Nat) : Apt L r 0 (SS.init n r) := ⟨by simp, by simp [SS.init], by simp, .inl rfl⟩
theorem Apt.free {L r i s} (h : Apt L r i s) (F : Int) : Apt L r i (s.free F) := ⟨h.slt, h.cnt, h.rgs, h.few⟩
theorem act_nodup {l : List Iv} (h : l.Pairwise (fun a b => aft a b = true)) : l.Nodup := h.imp fun {a b} q e => by rw [e, aft_irr] at q; cases q
theorem apt_step {L : List Iv} {m r i : Nat} {s s' : SS} (g : G1 L m) (hi : i < L.length) (h : Inv L r i L[i].2.1 s) (p : Apt L r i s) (t : Stp L i hi s s') : Apt L r (i + 1) s' := by
  have hft := g.ft L[i] (List.getElem_mem hi)
  have hxn : L[i] ∉ L.take i := fun q => reg_ne g hi q rfl
  have hxa : L[i] ∉ s.act := fun q => hxn ((h.act _).1 q).1
  have htk : ∀ q : Iv → Bool, (L.take (i + 1)).filter q = (L.take i).filter q ++ [L[i]].filter q := fun q => by rw [← List.take_append_getElem hi, List.filter_append]
  have hnd : (L.take i).Nodup := (nodup_of_regs g.once).sublist (List.take_sublist _ _)
  rcases t.alt with ⟨q0, sp', e1, e2, e3, e4, e5, e6⟩ | ⟨z, e1, ez, e2, e3, e4, e5, e6, e7⟩
  · have hq0 := (h.spm q0).1 (by rw [e1]; simp)
    have hfar : ∀ y ∈ L.take i, (plc s.pl y.1).1 = 1 → (plc s.pl y.1).2 = q0 → y.2.2 < L[i].2.1 := fun y hy k1 k2 => by
      rcases Int.lt_or_le y.2.2 L[i].2.1 with q | q
      · exact q
      · exact absurd k2 (hq0.2.2 y ((h.act y).2 ⟨hy, k1, q⟩))
    refine ⟨fun y hy w hw => ?_, ?_, fun y hy w hw => ?_, by rw [e4]; exact p.few⟩
    · rcases (mem_take_succ hi y).1 hy with hy | rfl
      · rcases (mem_take_succ hi w).1 hw with hw | rfl
        · rw [e6 y hy, e6 w hw]; exact p.slt y hy w hw
        · rw [e5]; intro _ q; simp at q
      · rw [e5]; intro q; simp at q
    · rw [htk, List.length_append, e4]
      have c1 : (L.take i).filter (fun y => decide ((plc s'.pl y.1).1 = 2)) = (L.take i).filter (fun y => decide ((plc s.pl y.1).1 = 2)) := List.filter_congr fun y hy => by rw [e6 y hy]
      rw [c1, p.cnt]
      simp [e5]
    · rcases (mem_take_succ hi y).1 hy with hy | rfl
      · rcases (mem_take_succ hi w).1 hw with hw | rfl
        · rw [e6 y hy, e6 w hw]; exact p.rgs y hy w hw
        · rw [e5, e6 y hy]
          intro k1 _ k2 _ k3
          have := hfar y hy k1 k2
          omega
      · rcases (mem_take_succ hi w).1 hw with hw | rfl
        · rw [e5, e6 w hw]
          intro _ k1 k2 _ k3
          have := hfar w hw k1 k2.symm
          omega
        · intro _ _ _ q; exact absurd rfl q
  · have hne : wth (aft L[i]) L[i] s.act ≠ [] := by intro q; have := wth_len (aft L[i]) L[i] s.act; rw [q] at this; simp at this
    have hz2 : z = L[i] ∨ z ∈ L.take i := by
      rcases e6 with q | ⟨q, _⟩
      · exact .inl q
      · exact .inr ((h.act z).1 q).1
    have hslot : ∀ y ∈ L.take (i + 1), y ≠ z → (plc s'.pl y.1).1 = 2 → y ∈ L.take i ∧ (plc s'.pl y.1) = plc s.pl y.1 := fun y hy hyz k => by
      rcases (mem_take_succ hi y).1 hy with hy | rfl
      · exact ⟨hy, e7 y hy hyz⟩
      · rcases e6 with q | ⟨q, q2⟩
        · exact absurd q.symm hyz
        · rw [q2, ((h.act z).1 q).2.1] at k
          simp at k
    refine ⟨fun y hy w hw k1 k2 k3 => ?_, ?_, fun y hy w hw => ?_, .inr ⟨L[i], List.getElem_mem hi, ?_⟩⟩
    · have hlt : ∀ y ∈ L.take (i + 1), y ≠ z → (plc s'.pl y.1).1 = 2 → (plc s'.pl y.1).2 < (s.sl : Int) := fun y hy hyz k => by
        obtain ⟨q1, q2⟩ := hslot y hy hyz k
        rw [q2] at k ⊢
        rcases h.kin y q1 with q | q
        · omega
        · exact q.2.2
      by_cases hyz : y = z
      · by_cases hwz : w = z
        · rw [hyz, hwz]
        · have := hlt w hw hwz k2
          rw [← k3, hyz, e5] at this
          simp at this
      · by_cases hwz : w = z
        · have := hlt y hy hyz k1
          rw [k3, hwz, e5] at this
          simp at this
        · obtain ⟨q1, q2⟩ := hslot y hy hyz k1
          obtain ⟨q3, q4⟩ := hslot w hw hwz k2
          rw [q2] at k1 k3
          rw [q4] at k2 k3
          exact p.slt y q1 w q3 k1 k2 k3
    · rw [htk, List.length_append, e4]
      rcases e6 with q | ⟨q, q2⟩
      · have c1 : (L.take i).filter (fun y => decide ((plc s'.pl y.1).1 = 2)) = (L.take i).filter (fun y => decide ((plc s.pl y.1).1 = 2)) := List.filter_congr fun y hy => by rw [e7 y hy fun e => hxn (q ▸ e ▸ hy)]
        rw [c1, p.cnt, ← q]
        simp [e5]
      · have hz := (h.act z).1 q
        have c1 := filter_one (p := fun y => decide ((plc s.pl y.1).1 = 2)) (p' := fun y => decide ((plc s'.pl y.1).1 = 2)) (z := z) (L.take i) hnd hz.1 (by simp [hz.2.1]) (by simp [e5]) (fun y hy hyz => by rw [e7 y hy hyz])
        rw [c1, p.cnt]
        simp [q2, hz.2.1]
    · intro k1 k2 k3 hyw
      have hyz : y ≠ z := fun e => by rw [e, e5] at k1; simp at k1
      have hwz : w ≠ z := fun e => by rw [e, e5] at k2; simp at k2
      have hfar : ∀ y ∈ L.take i, y ≠ z → z ∈ s.act → (plc s.pl y.1).1 = 1 → (plc s.pl y.1).2 = (plc s.pl z.1).2 → y.2.2 < L[i].2.1 := fun y hy hyz hz k1 k2 => by
        rcases Int.lt_or_le y.2.2 L[i].2.1 with q | q
        · exact q
        · exact absurd (h.dis y ((h.act y).2 ⟨hy, k1, q⟩) z hz k2) hyz
      rcases (mem_take_succ hi y).1 hy with hy | rfl
      · rw [e7 y hy hyz] at k1 k3
        rcases (mem_take_succ hi w).1 hw with hw | rfl
        · rw [e7 w hw hwz] at k2 k3
          exact p.rgs y hy w hw k1 k2 k3 hyw
        · rcases e6 with q | ⟨q, q2⟩
          · exact absurd q.symm hwz
          · rw [q2] at k3
            have := hfar y hy hyz q k1 k3
            omega
      · rcases (mem_take_succ hi w).1 hw with hw | rfl
        · rw [e7 w hw hwz] at k2 k3
          rcases e6 with q | ⟨q, q2⟩
          · exact absurd q.symm hyz
          · rw [q2] at k3
            have := hfar w hw hwz q k2 k3.symm
            omega
        · exact absurd rfl hyw
    · have hr : r ≤ s.act.length := by
        have h1 : ((List.range r).map fun q : Nat => (q : Int)).length ≤ (s.act.map fun y => (plc s.pl y.1).2).length := by
          refine nodup_len _ _ ?_ fun a ha => ?_
          · have : ((List.range r).map fun q : Nat => (q : Int)).Pairwise (· < ·) := by
              rw [List.pairwise_map]
              exact List.pairwise_lt_range.imp fun h => by omega
            exact this.imp fun {a b} q e => by omega
          · obtain ⟨q, hq, rfl⟩ := List.mem_map.1 ha
            have hq := List.mem_range.1 hq
            rcases Classical.em (∃ y ∈ s.act, (plc s.pl y.1).2 = (q : Int)) with ⟨y, hy, e⟩ | hn
            · exact List.mem_map.2 ⟨y, hy, e⟩
            · have : (q : Int) ∈ s.sp := (h.spm _).2 ⟨by omega, by omega, fun y hy e => hn ⟨y, hy, e⟩⟩
              rw [e1] at this
              simp at this
        simpa using h1
      have h2 := nodup_len (L[i] :: s.act) (atP L L[i]) (List.nodup_cons.2 ⟨hxa, act_nodup h.srt⟩) fun y hy => by
        unfold atP
        rw [List.mem_filter]
        rcases List.mem_cons.1 hy with rfl | hy
        · exact ⟨List.getElem_mem hi, by simp; exact hft⟩
        · obtain ⟨q1, _, q3⟩ := (h.act y).1 hy
          refine ⟨List.mem_of_mem_take q1, ?_⟩
          obtain ⟨k, hk, e⟩ := List.getElem_of_mem q1
          simp at hk
          have := up_at g.up (show k < i by omega) hi
          rw [List.getElem_take] at e
          rw [e] at this
          simp
          exact ⟨this, q3⟩
      simp at h2
      omega
theorem apt_scan {L : List Iv} {m r : Nat} (g : G1 L m) (k : Nat) (hk : k ≤ L.length) : (∃ F, Inv L r k F (scnN (L.take k) r m) ∧ ∀ h : k < L.length, F ≤ L[k].2.1) ∧ Apt L r k (scnN (L.take k) r m) := by
  induction k with
  | zero => exact ⟨inv_scan g 0 hk, Apt.init _ _ _⟩
  | succ k ih =>
    have hk' : k < L.length := by omega
    obtain ⟨⟨F, h1, h2⟩, h3⟩ := ih (by omega)
    have h4 := h1.free (h2 hk')
    refine ⟨inv_scan g (k + 1) hk, ?_⟩
    rw [scnN_step hk']
    exact apt_step g hk' h4 (h3.free _) (step_stp g h4 ((Bnd.scan g.reg k (by omega)).free _).pl hk')
/-- All that holds of what Scan answers. -/
theorem scan_all {L : List Iv} (h : Srt L) (r : Nat) : (∃ F, Inv L r L.length F (scn L r)) ∧ Apt L r L.length (scn L r) ∧ Bnd (scn L r) (grt L + 1).toNat L.length r := by
  have g := h.g1
  obtain ⟨⟨F, h1, _⟩, h2⟩ := apt_scan (r := r) g L.length (Nat.le_refl _)
  have h3 := Bnd.scan (r := r) g.reg L.length (Nat.le_refl _)
  rw [List.take_of_length_le (Nat.le_refl _)] at h1 h2 h3
  exact ⟨⟨F, h1⟩, h2, h3⟩
theorem few_iff {L : List Iv} (h : Srt L) (r : Nat) : (scn L r).sl = 0 ↔ ∀ x ∈ L, (atP L x).length ≤ r := by
  obtain ⟨⟨F, h1⟩, h2, _⟩ := scan_all h r
  rw [← List.take_of_length_le (Nat.le_refl L.length)] at h1
  constructor
  · intro h0 x hx
    have hk : ∀ y ∈ L, (plc (scn L r).pl y.1).1 = 1 ∧ 0 ≤ (plc (scn L r).pl y.1).2 ∧ (plc (scn L r).pl y.1).2 < (r : Int) := fun y hy => by
      rcases h1.kin y (by rw [List.take_of_length_le (by simp)]; simpa using hy) with q | q
      · simpa using q
      · have h9 := q.2
        simp only [List.take_length] at h9
        omega
    have hlen := nodup_len ((atP L x).map fun y => (plc (scn L r).pl y.1).2) ((List.range r).map fun q : Nat => (q : Int)) ?_ fun a ha => ?_
    · simpa using hlen
    · have hnd : (atP L x).Nodup := (nodup_of_regs h.once).sublist List.filter_sublist
      rw [List.Nodup, List.pairwise_map]
      refine List.Pairwise.imp_of_mem (fun {y z} hy hz hne e => ?_) hnd
      unfold atP at hy hz
      rw [List.mem_filter] at hy hz
      have q1 := hy.2
      have q2 := hz.2
      simp at q1 q2
      exact h2.rgs y (by rw [List.take_of_length_le (Nat.le_refl _)]; exact hy.1) z (by rw [List.take_of_length_le (Nat.le_refl _)]; exact hz.1) (hk y hy.1).1 (hk z hz.1).1 e hne ⟨by omega, by omega⟩
    · obtain ⟨y, hy, rfl⟩ := List.mem_map.1 ha
      unfold atP at hy
      have := hk y (List.mem_filter.1 hy).1
      exact List.mem_map.2 ⟨(plc (scn L r).pl y.1).2.toNat, List.mem_range.2 (by omega), by omega⟩
  · intro hall
    rcases h2.few with q | ⟨x, hx, hlt⟩
    · exact q
    · have := hall x hx
      omega
end Go.Proofs.Ytpgbkkllnbahpaa
