import Derived.Test.YtpgbkkllnbahpaaScT
set_option linter.unusedVariables false
set_option linter.unusedSimpArgs false
namespace Go.Proofs.Ytpgbkkllnbahpaa

theorem mem_take_succ {L : List Iv} {i : Nat} (h : i < L.length) (y : Iv) : y ∈ L.take (i + 1) ↔ y ∈ L.take i ∨ y = L[i] := by
  rw [← List.take_append_getElem h, List.mem_append]
  simp
theorem nodup_inj : ∀ {L : List Iv}, (L.map (·.1)).Nodup → ∀ {x y : Iv}, x ∈ L → y ∈ L → x.1 = y.1 → x = y
  | [], _, _, _, hx, _, _ => by simp at hx
  | a :: L, h, x, y, hx, hy, e => by
    rw [List.map_cons, List.nodup_cons] at h
    rcases List.mem_cons.1 hx with rfl | hx'
    · rcases List.mem_cons.1 hy with rfl | hy'
      · rfl
      · exact absurd (List.mem_map.2 ⟨y, hy', e.symm⟩) h.1
    · rcases List.mem_cons.1 hy with rfl | hy'
      · exact absurd (List.mem_map.2 ⟨x, hx', e⟩) h.1
      · exact nodup_inj h.2 hx' hy' e
theorem reg_ne {L : List Iv} {m : Nat} (g : G1 L m) {i : Nat} (h : i < L.length) {y : Iv} (hy : y ∈ L.take i) : y.1 ≠ L[i].1 := by
  intro e
  exact not_nodup h (List.mem_map.2 ⟨y, hy, e⟩) g.once
/-- The places behind a step, seen from the interval that was taken and from the last one. -/
structure Stp (L : List Iv) (i : Nat) (h : i < L.length) (s s' : SS) : Prop where
  alt : (∃ q0 sp', s.sp = q0 :: sp' ∧ s'.act = wth (aft L[i]) L[i] s.act ∧ s'.sp = sp' ∧ s'.sl = s.sl ∧ plc s'.pl L[i].1 = (1, q0) ∧ ∀ y ∈ L.take i, plc s'.pl y.1 = plc s.pl y.1) ∨
    (∃ z, s.sp = [] ∧ z = lastOf (wth (aft L[i]) L[i] s.act) ∧ s'.act = (wth (aft L[i]) L[i] s.act).dropLast ∧ s'.sp = [] ∧ s'.sl = s.sl + 1 ∧ plc s'.pl z.1 = (2, (s.sl : Int)) ∧ (z = L[i] ∨ (z ∈ s.act ∧ plc s'.pl L[i].1 = plc s.pl z.1)) ∧ ∀ y ∈ L.take i, y ≠ z → plc s'.pl y.1 = plc s.pl y.1)
theorem step_stp {L : List Iv} {m r i : Nat} {F : Int} {s : SS} (g : G1 L m) (h : Inv L r i F s) (hm : s.pl.length = m) (hi : i < L.length) : Stp L i hi s (s.take L[i]) := by
  have hx := g.reg L[i] (List.getElem_mem hi)
  have hin : ∀ y ∈ L.take i, 0 ≤ y.1 ∧ y.1 < (m : Int) := fun y hy => g.reg y (List.mem_of_mem_take hy)
  unfold SS.take
  constructor
  split
  · next q0 sp' e =>
    refine .inl ⟨q0, sp', e, rfl, rfl, rfl, ?_, fun y hy => ?_⟩
    · show plc (s.pl.set _ _) _ = _
      rw [plc_set (by omega) hx.1, if_pos rfl]
    · show plc (s.pl.set _ _) _ = _
      rw [plc_set (by omega) (hin y hy).1, if_neg (reg_ne g hi hy)]
  · next e =>
    have hne : wth (aft L[i]) L[i] s.act ≠ [] := by intro q; have := wth_len (aft L[i]) L[i] s.act; rw [q] at this; simp at this
    have hz := lastOf_mem hne
    obtain ⟨z, hz'⟩ : ∃ z, z = lastOf (wth (aft L[i]) L[i] s.act) := ⟨_, rfl⟩
    rw [← hz'] at hz ⊢
    have hzz : z = L[i] ∨ z ∈ s.act := wth_mem.1 hz
    have hzr : 0 ≤ z.1 ∧ z.1 < (m : Int) := by
      rcases hzz with q | q
      · rw [q]; exact hx
      · exact hin z ((h.act z).1 q).1
    refine .inr ⟨z, e, rfl, rfl, rfl, rfl, ?_, ?_, fun y hy hyz => ?_⟩
    · show plc ((s.pl.set _ _).set _ _) _ = _
      rw [plc_set (by simp; omega) hzr.1, if_pos rfl]
    · rcases hzz with q | q
      · exact .inl q
      · refine .inr ⟨q, ?_⟩
        have hn : z.1 ≠ L[i].1 := reg_ne g hi ((h.act z).1 q).1
        show plc ((s.pl.set _ _).set _ _) _ = _
        rw [plc_set (by simp; omega) hx.1, if_neg (fun e => hn e.symm), plc_set (by omega) hx.1, if_pos rfl]
    · show plc ((s.pl.set _ _).set _ _) _ = _
      have hn : y.1 ≠ z.1 := by
        rcases hzz with q | q
        · rw [q]; exact reg_ne g hi hy
        · intro e'
          have hy' := List.mem_of_mem_take hy
          have hz' := List.mem_of_mem_take ((h.act z).1 q).1
          exact hyz (nodup_inj g.once hy' hz' e')
      rw [plc_set (by simp; omega) (hin y hy).1, if_neg hn, plc_set (by omega) (hin y hy).1, if_neg (reg_ne g hi hy)]
theorem inv_step {L : List Iv} {m r i : Nat} {s s' : SS} (g : G1 L m) (hi : i < L.length) (h : Inv L r i L[i].2.1 s) (t : Stp L i hi s s') : Inv L r (i + 1) L[i].2.1 s' := by
  have hft := g.ft L[i] (List.getElem_mem hi)
  have hxn : L[i] ∉ L.take i := fun q => reg_ne g hi q rfl
  have hxa : L[i] ∉ s.act := fun q => hxn ((h.act _).1 q).1
  have hsrt : (wth (aft L[i]) L[i] s.act).Pairwise (fun a b => aft a b = true) :=
    wth_sorted (R := fun a b => aft a b = true) aft_trans s.act h.srt (fun o _ q => q) (fun o ho q => aft_total (fun e => reg_ne g hi ((h.act o).1 ho).1 e.symm) q)
  rcases t.alt with ⟨q0, sp', e1, e2, e3, e4, e5, e6⟩ | ⟨z, e1, ez, e2, e3, e4, e5, e6, e7⟩
  · have hq0 := (h.spm q0).1 (by rw [e1]; simp)
    have hps := h.sps
    rw [e1] at hps
    obtain ⟨hp1, hp2⟩ := List.pairwise_cons.1 hps
    have hact : ∀ y, y ∈ s'.act ↔ y = L[i] ∨ y ∈ s.act := fun y => by rw [e2]; exact wth_mem
    have hun : ∀ y ∈ s.act, plc s'.pl y.1 = plc s.pl y.1 := fun y hy => e6 y ((h.act y).1 hy).1
    refine ⟨fun y => ?_, by rw [e2]; exact hsrt, fun q => ?_, by rw [e3]; exact hp2, fun y hy z hz => ?_, fun y hy => ?_⟩
    · rw [hact, mem_take_succ hi]
      constructor
      · rintro (rfl | q)
        · rw [e5]; exact ⟨.inr rfl, rfl, hft⟩
        · obtain ⟨q1, q2, q3⟩ := (h.act y).1 q
          rw [e6 y q1]
          exact ⟨.inl q1, q2, q3⟩
      · rintro ⟨q1 | q1, q2, q3⟩
        · rw [e6 y q1] at q2
          exact .inr ((h.act y).2 ⟨q1, q2, q3⟩)
        · exact .inl q1
    · rw [e3]
      constructor
      · intro hq
        obtain ⟨q1, q2, q3⟩ := (h.spm q).1 (by rw [e1]; simp [hq])
        refine ⟨q1, q2, fun y hy => ?_⟩
        rcases (hact y).1 hy with rfl | hy
        · rw [e5]
          have := hp1 q hq
          show q0 ≠ q
          omega
        · rw [hun y hy]; exact q3 y hy
      · rintro ⟨q1, q2, q3⟩
        have h9 := (h.spm q).2 ⟨q1, q2, fun y hy => by rw [← hun y hy]; exact q3 y ((hact y).2 (.inr hy))⟩
        rw [e1] at h9
        rcases List.mem_cons.1 h9 with rfl | h9
        · have := q3 L[i] ((hact _).2 (.inl rfl))
          rw [e5] at this
          exact absurd rfl this
        · exact h9
    · rcases (hact y).1 hy with rfl | hy <;> rcases (hact z).1 hz with rfl | hz
      · intro _; rfl
      · rw [e5, hun z hz]
        intro e
        exact absurd e.symm (hq0.2.2 z hz)
      · rw [e5, hun y hy]
        intro e
        exact absurd e (hq0.2.2 y hy)
      · rw [hun y hy, hun z hz]
        exact h.dis y hy z hz
    · rcases (mem_take_succ hi y).1 hy with q | rfl
      · rw [e6 y q, e4]; exact h.kin y q
      · rw [e5]; exact .inl ⟨rfl, hq0.1, hq0.2.1⟩
  · have hne : wth (aft L[i]) L[i] s.act ≠ [] := by intro q; have := wth_len (aft L[i]) L[i] s.act; rw [q] at this; simp at this
    have hact : ∀ y, y ∈ s'.act ↔ (y = L[i] ∨ y ∈ s.act) ∧ y ≠ z := fun y => by rw [e2, mem_dropLast hsrt hne, wth_mem, ez]
    have hzk : z ∈ s.act → (plc s.pl z.1).1 = 1 ∧ 0 ≤ (plc s.pl z.1).2 ∧ (plc s.pl z.1).2 < (r : Int) := fun q => by
      obtain ⟨q1, q2, _⟩ := (h.act z).1 q
      rcases h.kin z q1 with k | k
      · exact k
      · omega
    have hz2 : z = L[i] ∨ z ∈ s.act := by
      rcases e6 with q | ⟨q, _⟩
      · exact .inl q
      · exact .inr q
    have hxz : L[i] ≠ z → z ∈ s.act ∧ plc s'.pl L[i].1 = plc s.pl z.1 := fun q => by
      rcases e6 with k | k
      · exact absurd k.symm q
      · exact k
    have hun : ∀ y ∈ s.act, y ≠ z → plc s'.pl y.1 = plc s.pl y.1 := fun y hy hyz => e7 y ((h.act y).1 hy).1 hyz
    refine ⟨fun y => ?_, ?_, fun q => ?_, by rw [e3]; simp, fun y hy w hw => ?_, fun y hy => ?_⟩
    · rw [hact, mem_take_succ hi]
      constructor
      · rintro ⟨rfl | q, hyz⟩
        · obtain ⟨k1, k2⟩ := hxz hyz
          rw [k2]
          exact ⟨.inr rfl, (hzk k1).1, hft⟩
        · obtain ⟨q1, q2, q3⟩ := (h.act y).1 q
          rw [e7 y q1 hyz]
          exact ⟨.inl q1, q2, q3⟩
      · rintro ⟨q1, q2, q3⟩
        have hyz : y ≠ z := fun e => by rw [e, e5] at q2; simp at q2
        rcases q1 with q1 | q1
        · rw [e7 y q1 hyz] at q2
          exact ⟨.inr ((h.act y).2 ⟨q1, q2, q3⟩), hyz⟩
        · exact ⟨.inl q1, hyz⟩
    · rw [e2]; exact hsrt.sublist (List.dropLast_sublist _)
    · rw [e3]
      constructor
      · intro hq; simp at hq
      · rintro ⟨q1, q2, q3⟩
        exfalso
        have h9 : q ∉ s.sp := by rw [e1]; simp
        refine h9 ((h.spm q).2 ⟨q1, q2, fun y hy e => ?_⟩)
        by_cases hyz : y = z
        · subst hyz
          have hxy : L[i] ≠ y := fun e' => hxa (e' ▸ hy)
          have := q3 L[i] ((hact _).2 ⟨.inl rfl, hxy⟩)
          rw [(hxz hxy).2] at this
          exact this e
        · have := q3 y ((hact y).2 ⟨.inr hy, hyz⟩)
          rw [hun y hy hyz] at this
          exact this e
    · obtain ⟨hy1, hyz⟩ := (hact y).1 hy
      obtain ⟨hw1, hwz⟩ := (hact w).1 hw
      rcases hy1 with rfl | hy1 <;> rcases hw1 with rfl | hw1
      · intro _; rfl
      · obtain ⟨k1, k2⟩ := hxz hyz
        rw [k2, hun w hw1 hwz]
        intro e
        exact absurd (h.dis z k1 w hw1 e).symm hwz
      · obtain ⟨k1, k2⟩ := hxz hwz
        rw [k2, hun y hy1 hyz]
        intro e
        exact absurd (h.dis y hy1 z k1 e) hyz
      · rw [hun y hy1 hyz, hun w hw1 hwz]
        exact h.dis y hy1 w hw1
    · by_cases hyz : y = z
      · rw [hyz, e5, e4]
        exact .inr ⟨rfl, by omega, by simp; omega⟩
      · rcases (mem_take_succ hi y).1 hy with q | rfl
        · rw [e7 y q hyz, e4]
          rcases h.kin y q with k | k
          · exact .inl k
          · exact .inr ⟨k.1, k.2.1, by have := k.2.2; simp; omega⟩
        · obtain ⟨k1, k2⟩ := hxz hyz
          rw [k2]
          exact .inl (hzk k1)
theorem up_at {L : List Iv} (h : L.Pairwise (fun a b => a.2.1 ≤ b.2.1)) {i j : Nat} (hij : i < j) (hj : j < L.length) : L[i].2.1 ≤ L[j].2.1 := List.pairwise_iff_getElem.1 h i j (by omega) hj hij
/-- Where the next interval begins, or the last one began. -/
def fromAt (L : List Iv) (i : Nat) : Int := match L[i - 1]? with
  | some x => x.2.1
  | none => 0
theorem inv_scan {L : List Iv} {m r : Nat} (g : G1 L m) (k : Nat) (hk : k ≤ L.length) : ∃ F, Inv L r k F (scnN (L.take k) r m) ∧ ∀ h : k < L.length, F ≤ L[k].2.1 := by
  induction k with
  | zero =>
    cases L with
    | nil => exact ⟨0, Inv.init _ _ _ _, fun h => by simp at h⟩
    | cons x L => exact ⟨x.2.1, Inv.init _ _ _ _, fun h => by simp⟩
  | succ k ih =>
    have hk' : k < L.length := by omega
    obtain ⟨F, h1, h2⟩ := ih (by omega)
    have h3 := h1.free (h2 hk')
    rw [scnN_step hk']
    exact ⟨_, inv_step g hk' h3 (step_stp g h3 ((Bnd.scan g.reg k (by omega)).free _).pl hk'), fun h => up_at g.up (by omega) h⟩
end Go.Proofs.Ytpgbkkllnbahpaa
