import Derived.Test.YtpgbkkllnbahpaaSoG
import Derived.Test.YtpgbkkllnbahpaaSoB
set_option linter.unusedVariables false
set_option linter.unusedSimpArgs false
namespace Go.Proofs.Ytpgbkkllnbahpaa

/-- Interval i holds register q. -/
def Hit (L : List Iv) (pl : List Lc) (F : Int) (i : Nat) (q : Nat) : Prop := ∃ h : i < L.length, plc pl L[i].1 = (1, (q : Int)) ∧ F ≤ L[i].2.2
/-- The document's held behind the first j. -/
structure Hld (L : List Iv) (pl : List Lc) (F : Int) (j : Nat) (H : List Int) : Prop where
  len : H.length = 8
  out : ∀ q, q < 8 → (H.getD q 0 = -1 ∧ ∀ i, i < j → ¬ Hit L pl F i q) ∨ (∃ i, i < j ∧ H.getD q 0 = (i : Int) ∧ Hit L pl F i q)
theorem Hld.start (L : List Iv) (pl : List Lc) (F : Int) : Hld L pl F 0 (List.replicate 8 (-1)) := ⟨by simp, fun q hq => .inl ⟨by rw [List.getD_eq_getElem?_getD, List.getElem?_replicate, if_pos hq]; rfl, fun i h => by omega⟩⟩
theorem Hld.put {L pl F j H} (h : Hld L pl F j H) {q0 : Nat} (hq : q0 < 8) (hh : Hit L pl F j q0) : Hld L pl F (j + 1) (H.set q0 (j : Int)) := by
  refine ⟨by simp [h.len], fun q hq' => ?_⟩
  have hlen := h.len
  by_cases e : q = q0
  · subst e
    exact .inr ⟨j, by omega, by simp [List.getD, hlen, hq'], hh⟩
  · have e1 : (H.set q0 (j : Int)).getD q 0 = H.getD q 0 := by simp only [List.getD_eq_getElem?_getD, List.getElem?_set]; rw [if_neg (by omega)]
    rw [e1]
    rcases h.out q hq' with ⟨k1, k2⟩ | ⟨i, k1, k2, k3⟩
    · refine .inl ⟨k1, fun i hi q' => ?_⟩
      rcases Nat.lt_succ_iff_lt_or_eq.1 hi with q1 | rfl
      · exact k2 i q1 q'
      · obtain ⟨_, a, _⟩ := q'
        obtain ⟨_, b, _⟩ := hh
        rw [a] at b
        simp at b
        omega
    · exact .inr ⟨i, by omega, k2, k3⟩
theorem Hld.skip {L pl F j H} (h : Hld L pl F j H) (hn : ∀ q, ¬ Hit L pl F j q) : Hld L pl F (j + 1) H := by
  refine ⟨h.len, fun q hq' => ?_⟩
  rcases h.out q hq' with ⟨k1, k2⟩ | ⟨i, k1, k2, k3⟩
  · refine .inl ⟨k1, fun i hi q' => ?_⟩
    rcases Nat.lt_succ_iff_lt_or_eq.1 hi with q1 | rfl
    · exact k2 i q1 q'
    · exact hn q q'
  · exact .inr ⟨i, by omega, k2, k3⟩
theorem hit_act {L : List Iv} {r k : Nat} {F : Int} {s : SS} (h : Inv L r k F s) {i q : Nat} (hi : i < k) (hh : Hit L s.pl F i q) : ∃ hl : i < L.length, L[i] ∈ s.act ∧ (plc s.pl L[i].1).2 = (q : Int) := by
  obtain ⟨hl, a, b⟩ := hh
  refine ⟨hl, (h.act _).2 ⟨by rw [List.mem_take_iff_getElem]; exact ⟨i, by omega, rfl⟩, by rw [a], b⟩, by rw [a]⟩
theorem act_hit {L : List Iv} {r k : Nat} {F : Int} {s : SS} (h : Inv L r k F s) {y : Iv} (hy : y ∈ s.act) : ∃ i q : Nat, i < k ∧ ∃ hl : i < L.length, L[i] = y ∧ q < r ∧ Hit L s.pl F i q := by
  obtain ⟨a, b, c⟩ := (h.act y).1 hy
  have hk := h.kin y a
  rw [List.mem_take_iff_getElem] at a
  obtain ⟨i, hi, e⟩ := a
  rcases hk with ⟨_, k2, k3⟩ | ⟨k1, _⟩
  · refine ⟨i, (plc s.pl y.1).2.toNat, by omega, by omega, e, by omega, by omega, ?_, by rw [e]; exact c⟩
    rw [e]
    exact Prod.ext b (by simp only; omega)
  · omega
/-- The least register that nobody holds is the first spare one. -/
theorem free_sp {L : List Iv} {r k : Nat} {F : Int} {s : SS} {H : List Int} (h : Inv L r k F s) (hH : Hld L s.pl F k H) (hr : r ≤ 8) {f : Nat} (hf : f < r) (h1 : H.getD f 0 < 0) (h2 : ∀ q, q < f → 0 ≤ H.getD q 0) : ∃ sp, s.sp = (f : Int) :: sp := by
  have hfs : (f : Int) ∈ s.sp := (h.spm _).2 ⟨by omega, by omega, fun y hy e => by
    obtain ⟨i, q, hi, hl, ey, hq, hh⟩ := act_hit h hy
    obtain ⟨_, a, _⟩ := hh
    rw [ey] at a
    rw [a] at e
    simp only at e
    have : q = f := by omega
    subst this
    rcases hH.out q (by omega) with ⟨_, k2⟩ | ⟨i', _, k3, _⟩
    · exact k2 i hi ⟨hl, by rw [ey]; exact a, by rw [ey]; exact ((h.act y).1 hy).2.2⟩
    · omega⟩
  cases hs : s.sp with
  | nil => rw [hs] at hfs; simp at hfs
  | cons g sp =>
    have hg := (h.spm g).1 (by rw [hs]; simp)
    have hps := h.sps
    rw [hs] at hps hfs
    rcases List.mem_cons.1 hfs with e | e
    · exact ⟨sp, by rw [e]⟩
    · have hlt := (List.pairwise_cons.1 hps).1 _ e
      exfalso
      have hgq := h2 g.toNat (by omega)
      rcases hH.out g.toNat (by omega) with ⟨k1, _⟩ | ⟨i, hi, _, hh⟩
      · omega
      · obtain ⟨hl, a, b⟩ := hit_act h hi hh
        exact hg.2.2 _ a (by rw [b]; omega)
theorem none_sp {L : List Iv} {r k : Nat} {F : Int} {s : SS} {H : List Int} (h : Inv L r k F s) (hH : Hld L s.pl F k H) (hr : r ≤ 8) (h2 : ∀ q, q < r → 0 ≤ H.getD q 0) : s.sp = [] := by
  rw [List.eq_nil_iff_forall_not_mem]
  intro g hg
  obtain ⟨a, b, c⟩ := (h.spm g).1 hg
  rcases hH.out g.toNat (by omega) with ⟨k1, _⟩ | ⟨i, hi, _, hh⟩
  · have := h2 g.toNat (by omega)
    omega
  · obtain ⟨hl, q1, q2⟩ := hit_act h hi hh
    exact c _ q1 (by rw [q2]; omega)
/-- The last one among those that were looked at. -/
structure Lst (L : List Iv) (k : Nat) (H : List Int) (q last : Nat) : Prop where
  lt : last ≤ k
  mem : last = k ∨ ∃ p, p < q ∧ H.getD p 0 = (last : Int)
  self : ∀ (hk : k < L.length) (hl : last < L.length), L[k] = L[last] ∨ aft L[k] L[last] = true
  max : ∀ p (i : Nat), p < q → H.getD p 0 = (i : Int) → ∀ (hi : i < L.length) (hl : last < L.length), L[i] = L[last] ∨ aft L[i] L[last] = true
theorem last_is {L : List Iv} {m r k last : Nat} {s : SS} {H : List Int} (g : G1 L m) (hk : k < L.length) (h : Inv L r k L[k].2.1 s) (hH : Hld L s.pl L[k].2.1 k H) (hr : r ≤ 8) (hl : Lst L k H r last) (h2 : ∀ q, q < r → 0 ≤ H.getD q 0) : ∃ hx : last < L.length, L[last] = lastOf (wth (aft L[k]) L[k] s.act) ∧ (last = k ∨ L[last] ∈ s.act) := by
  have hx : last < L.length := by have := hl.lt; omega
  have hsrt : (wth (aft L[k]) L[k] s.act).Pairwise (fun a b => aft a b = true) :=
    wth_sorted (R := fun a b => aft a b = true) aft_trans s.act h.srt (fun o _ q => q) (fun o ho q => aft_total (fun e => reg_ne g hk ((h.act o).1 ho).1 e.symm) q)
  have hne : wth (aft L[k]) L[k] s.act ≠ [] := by intro q; have := wth_len (aft L[k]) L[k] s.act; rw [q] at this; simp at this
  have hm2 : last = k ∨ L[last] ∈ s.act := by
    rcases hl.mem with q | ⟨p, hp, e⟩
    · exact .inl q
    · rcases hH.out p (by omega) with ⟨k1, _⟩ | ⟨i, hi, k2, hh⟩
      · have := h2 p hp; omega
      · have : i = last := by omega
        subst this
        obtain ⟨_, a, _⟩ := hit_act h hi hh
        exact .inr a
  have hmem : L[last] ∈ wth (aft L[k]) L[k] s.act := by
    rcases hm2 with q | q
    · subst q; exact wth_mem.2 (.inl rfl)
    · exact wth_mem.2 (.inr q)
  refine ⟨hx, ?_, hm2⟩
  by_cases e : L[last] = lastOf (wth (aft L[k]) L[k] s.act)
  · exact e
  · exfalso
    have h1 := lastOf_max hsrt hne _ hmem e
    have h3 : lastOf (wth (aft L[k]) L[k] s.act) = L[last] ∨ aft (lastOf (wth (aft L[k]) L[k] s.act)) L[last] = true := by
      rcases wth_mem.1 (lastOf_mem hne) with q | q
      · rw [q]; exact hl.self hk hx
      · obtain ⟨i, q', hi, hl', ey, hq, hh⟩ := act_hit h q
        have hge := h2 q' hq
        rcases hH.out q' (by omega) with ⟨k1, _⟩ | ⟨i', hi', k2, hh'⟩
        · omega
        · obtain ⟨hl2, a1, a2⟩ := hit_act h hi' hh'
          obtain ⟨hl3, b1, b2⟩ := hit_act h hi hh
          have e3 := h.dis _ a1 _ b1 (by rw [a2, b2])
          have := hl.max q' i' hq k2 hl2 hx
          rw [e3, ey] at this
          exact this
    rcases h3 with q | q
    · exact e q.symm
    · have := aft_trans _ _ _ h1 q
      rw [aft_irr] at this
      cases this
end Go.Proofs.Ytpgbkkllnbahpaa
