import Derived.Test.YteplldbhfjfbpaaGreatDoorVcP
set_option linter.unusedVariables false
set_option linter.unusedSimpArgs false
namespace Go.Proofs.YteplldbhfjfbpaaGreatDoor
open Go.ChangeShapes Go.WideShapes Go.ChangeAt Go.RowKit Go.Maps

theorem dp_at {n fr : Int} {R : Rv} {i : Nat} {x : Ri} (h : R.nx = (i : Int)) (hx : (dpC n fr)[i]? = some x) : R.at (dpC n fr) = x := by
  unfold Rv.at
  rw [h]
  show (dpC n fr).getD i riZ = x
  unfold List.getD
  rw [hx]
  rfl
theorem dp_sub (m : Nat) (h : m ≤ 4095) : doIW (4 - 1) ((m + 1 : Nat) : Int) 1 = (m : Int) := by
  have e : ∀ a b : Int, doIW (4 - 1) a b = wrap64 (a - b) := fun a b => rfl
  rw [e]
  unfold wrap64
  omega
theorem dp_add (a b : Nat) (h : a + b ≤ 10000000) : doIW (3 - 1) (a : Int) (b : Int) = ((a + b : Nat) : Int) := by
  have e : ∀ a b : Int, doIW (3 - 1) a b = wrap64 (a + b) := fun a b => rfl
  rw [e]
  unfold wrap64
  omega
theorem dp_5 {n fr S : Int} {R : Rv} (ho : R.over = false) (hr : R.rests = false) (h : R.nx = 5) : R.stp (dpC n fr) (dpF fr) S 0 = (true, { R.on with sw := upd R.sw (R.base + (fr - 1)) (R.reg 0), cs := R.cs + 1, steps := R.steps + 1 }) :=
  stp_ok (x := ⟨25, 0, 0, 0, fr - 1⟩) (R1 := { R.on with sw := upd R.sw (R.base + (fr - 1)) (R.reg 0), cs := R.cs + 1 }) ho (dp_at (i := 5) h rfl) rfl rfl hr
theorem dp_6y {n fr S : Int} {R : Rv} (ho : R.over = false) (hr : R.rests = false) (h : R.nx = 6) (h0 : R.reg 0 = 0) : R.stp (dpC n fr) (dpF fr) S 0 = (true, { R.on with nx := 11, steps := R.steps + 1 }) :=
  stp_ok (x := ⟨22, 0, 0, 0, 11⟩) (R1 := { R.on with nx := 11 }) ho (dp_at (i := 6) h rfl) rfl (by
    show (if R.on.reg 0 = 0 then _ else _) = _
    exact if_pos h0) hr
theorem dp_6n {n fr S : Int} {R : Rv} (ho : R.over = false) (hr : R.rests = false) (h : R.nx = 6) (h0 : ¬ R.reg 0 = 0) : R.stp (dpC n fr) (dpF fr) S 0 = (true, { R.on with steps := R.steps + 1 }) :=
  stp_ok (x := ⟨22, 0, 0, 0, 11⟩) (R1 := R.on) ho (dp_at (i := 6) h rfl) rfl (by
    show (if R.on.reg 0 = 0 then _ else _) = _
    exact if_neg h0) hr
theorem dp_7 {n fr S : Int} {R : Rv} (ho : R.over = false) (hr : R.rests = false) (h : R.nx = 7) {v : Int} (hv : doIW (4 - 1) (R.reg 0) (R.reg 5) = v) : R.stp (dpC n fr) (dpF fr) S 0 = (true, { R.on.set 0 v with steps := R.steps + 1 }) :=
  stp_ok (x := ⟨4, 0, 0, 5, 0⟩) (R1 := R.on.set 0 v) ho (dp_at (i := 7) h rfl) rfl (by
    show R.on.set 0 (doIW (4 - 1) (R.reg 0) (R.reg 5)) = _
    rw [hv]) hr
theorem dp_8 {n fr S : Int} {R : Rv} (ho : R.over = false) (hr : R.rests = false) (h : R.nx = 8) (hS : R.top + fr ≤ S) : R.stp (dpC n fr) (dpF fr) S 0 = (true, { R.on.push (dpf fr) 9 with steps := R.steps + 1 }) :=
  stp_ok (x := ⟨26, 0, 0, 0, 1⟩) (R1 := R.on.push (dpf fr) 9) ho (dp_at (i := 8) h rfl) rfl (by
    show R.on.call S (dpf fr) (R.nx + 1) = _
    rw [h]
    unfold Rv.call
    rw [if_neg (by show ¬ fr > S - R.top; omega)]
    rfl) hr
theorem dp_8n {n fr S : Int} {R : Rv} (ho : R.over = false) (hr : R.rests = false) (h : R.nx = 8) (hS : S < R.top + fr) : R.stp (dpC n fr) (dpF fr) S 0 = (true, { R.on.panic 7 0 with steps := R.steps + 1 }) :=
  stp_ok (x := ⟨26, 0, 0, 0, 1⟩) (R1 := R.on.panic 7 0) ho (dp_at (i := 8) h rfl) rfl (by
    show R.on.call S (dpf fr) (R.nx + 1) = _
    unfold Rv.call
    rw [if_pos (by show fr > S - R.top; omega)]) hr
theorem dp_9 {n fr S : Int} {R : Rv} (ho : R.over = false) (hr : R.rests = false) (h : R.nx = 9) {v : Int} (hv : R.sw (R.base + (fr - 1)) = v) : R.stp (dpC n fr) (dpF fr) S 0 = (true, { R.on.set 1 v with steps := R.steps + 1 }) :=
  stp_ok (x := ⟨24, 1, 0, 0, fr - 1⟩) (R1 := R.on.set 1 v) ho (dp_at (i := 9) h rfl) rfl (by
    show R.on.set 1 (R.sw (R.base + (fr - 1))) = _
    rw [hv]) hr
theorem dp_10 {n fr S : Int} {R : Rv} (ho : R.over = false) (hr : R.rests = false) (h : R.nx = 10) {v : Int} (hv : doIW (3 - 1) (R.reg 0) (R.reg 1) = v) : R.stp (dpC n fr) (dpF fr) S 0 = (true, { R.on.set 0 v with steps := R.steps + 1 }) :=
  stp_ok (x := ⟨3, 0, 0, 1, 0⟩) (R1 := R.on.set 0 v) ho (dp_at (i := 10) h rfl) rfl (by
    show R.on.set 0 (doIW (3 - 1) (R.reg 0) (R.reg 1)) = _
    rw [hv]) hr
theorem dp_11 {n fr S : Int} {R : Rv} (ho : R.over = false) (hr : R.rests = false) (h : R.nx = 11) : R.stp (dpC n fr) (dpF fr) S 0 = (true, { R.on.back with steps := R.steps + 1 }) :=
  stp_ok (x := ⟨27, 0, 0, 0, 0⟩) (R1 := R.on.back) ho (dp_at (i := 11) h rfl) rfl rfl hr
/-- f returns. -/
theorem dp_back {n fr S : Int} {k j m0 : Nat} {R R1 : Rv} (hb : Wy (dpC n fr) (dpF fr) S 0 k R R1) (e : R1.nx = 11) (hf : R1.fin = 0) (hr : R1.rests = false) (h1 : R1.sw R1.base = R.sw R.base) (h2 : R1.sw (R1.base + 1) = R.sw (R.base + 1)) (hB : R1.base = R.base) (hback : 0 ≤ R.sw (R.base + 1)) (hfr : R1.frames = R.frames) (hd : R1.deep = R.frames + (m0 : Int)) (hsw : ∀ i, i < R.base + 2 → R1.sw i = R.sw i) (h0 : R1.reg 0 = (tri m0 : Int)) (h5 : R1.reg 5 = 1) (hl : R1.rg.length = 16) (hsame : R1.ev = R.ev ∧ R1.kd = R.kd ∧ R1.vl = R.vl ∧ R1.words = R.words) (hst : R1.steps = R.steps + (k : Int)) :
    ∃ R', Wy (dpC n fr) (dpF fr) S 0 (k + 1) R R' ∧ DpR m0 (k + 1) R R' := by
  have hs := dp_11 (n := n) (fr := fr) (S := S) (dp_over hf hr) hr e
  refine ⟨_, hb.trans (Wy.one hs), ?_⟩
  have hne : ¬ R1.sw (R1.base + 1) = -1 := by rw [h2]; omega
  refine ⟨h1, h2, hB, by show R1.frames - 1 = _; rw [hfr], hd, hsw, h0, h5, hl, ⟨hsame.1, hsame.2.1, hsame.2.2.1, hsame.2.2.2, ?_, hr⟩, ?_⟩
  · show (if R1.sw (R1.base + 1) = -1 then 1 else R1.fin) = 0
    rw [if_neg hne, hf]
  · show R1.steps + 1 = _
    rw [hst]
    omega
/-- f, where the stack is enough. -/
theorem dp_goes (n fr S : Int) (hfr : 3 ≤ fr ∧ fr ≤ 300) : ∀ (m : Nat) (R : Rv), m ≤ 4095 → DpE fr m R → R.top + (m : Int) * fr ≤ S → ∃ k R', k ≤ 7 * m + 3 ∧ Wy (dpC n fr) (dpF fr) S 0 k R R' ∧ DpR m k R R' := by
  intro m
  induction m with
  | zero =>
    intro R hm h hS
    obtain ⟨R1, hR1⟩ : ∃ R1, R1 = ({ R.on with sw := upd R.sw (R.base + (fr - 1)) (R.reg 0), cs := R.cs + 1, steps := R.steps + 1 } : Rv) := ⟨_, rfl⟩
    have s1 : R.stp (dpC n fr) (dpF fr) S 0 = (true, R1) := by rw [hR1]; exact dp_5 (dp_over h.fin h.rests) h.rests h.nx
    have f1 : R1.nx = 6 := by rw [hR1]; show R.nx + 1 = 6; rw [h.nx]; rfl
    obtain ⟨R2, hR2⟩ : ∃ R2, R2 = ({ R1.on with nx := 11, steps := R1.steps + 1 } : Rv) := ⟨_, rfl⟩
    have s2 : R1.stp (dpC n fr) (dpF fr) S 0 = (true, R2) := by
      rw [hR2]
      exact dp_6y (dp_over (by rw [hR1]; exact h.fin) (by rw [hR1]; exact h.rests)) (by rw [hR1]; exact h.rests) f1 (by rw [hR1]; exact h.r0)
    have hb2 : ∀ i, i < R.base + 2 → R2.sw i = R.sw i := fun i hi => by
      rw [hR2, hR1]
      exact upd_not (by omega)
    refine (dp_back (j := 0) (m0 := 0) (Wy.cons s1 (Wy.one s2)) (by rw [hR2]) (by rw [hR2, hR1]; exact h.fin) (by rw [hR2, hR1]; exact h.rests) (by rw [show R2.base = R.base by rw [hR2, hR1]; rfl]; exact hb2 _ (by omega)) (by rw [show R2.base = R.base by rw [hR2, hR1]; rfl]; exact hb2 _ (by omega)) (by rw [hR2, hR1]; rfl) h.back (by rw [hR2, hR1]; rfl) (by rw [hR2, hR1]; show R.deep = _; rw [h.deep]; simp) hb2 (by rw [hR2, hR1]; exact h.r0) (by rw [hR2, hR1]; exact h.r5) (by rw [hR2, hR1]; exact h.rl) (by rw [hR2, hR1]; exact ⟨rfl, rfl, rfl, rfl⟩) (by rw [hR2, hR1]; show R.steps + 1 + 1 = _; omega)).elim ?_
    rintro R' ⟨hw, hd⟩
    exact ⟨_, R', by omega, hw, hd⟩
  | succ m ih =>
    intro R hm h hS
    have hmul : ((m + 1 : Nat) : Int) * fr = (m : Int) * fr + fr := by rw [Int.natCast_add, Int.add_mul]; simp
    rw [hmul] at hS
    have hmn : 0 ≤ (m : Int) * fr := Int.mul_nonneg (by omega) (by omega)
    obtain ⟨R1, hR1⟩ : ∃ R1, R1 = ({ R.on with sw := upd R.sw (R.base + (fr - 1)) (R.reg 0), cs := R.cs + 1, steps := R.steps + 1 } : Rv) := ⟨_, rfl⟩
    have s1 : R.stp (dpC n fr) (dpF fr) S 0 = (true, R1) := by rw [hR1]; exact dp_5 (dp_over h.fin h.rests) h.rests h.nx
    have f1 : R1.nx = 6 := by rw [hR1]; show R.nx + 1 = 6; rw [h.nx]; rfl
    have o1 : R1.over = false := dp_over (by rw [hR1]; exact h.fin) (by rw [hR1]; exact h.rests)
    have r1 : R1.rests = false := by rw [hR1]; exact h.rests
    have p1 : R1.reg 0 = ((m + 1 : Nat) : Int) := by rw [hR1]; exact h.r0
    obtain ⟨R2, hR2⟩ : ∃ R2, R2 = ({ R1.on with steps := R1.steps + 1 } : Rv) := ⟨_, rfl⟩
    have s2 : R1.stp (dpC n fr) (dpF fr) S 0 = (true, R2) := by
      rw [hR2]
      exact dp_6n o1 r1 f1 (by rw [p1]; omega)
    have f2 : R2.nx = 7 := by rw [hR2]; show R1.nx + 1 = 7; rw [f1]; rfl
    have o2 : R2.over = false := by rw [hR2]; exact o1
    have r2 : R2.rests = false := by rw [hR2]; exact r1
    have p2 : R2.reg 0 = ((m + 1 : Nat) : Int) := by rw [hR2]; exact p1
    have q2 : R2.reg 5 = 1 := by rw [hR2, hR1]; exact h.r5
    have l2 : R2.rg.length = 16 := by rw [hR2, hR1]; exact h.rl
    obtain ⟨R3, hR3⟩ : ∃ R3, R3 = ({ R2.on.set 0 (m : Int) with steps := R2.steps + 1 } : Rv) := ⟨_, rfl⟩
    have s3 : R2.stp (dpC n fr) (dpF fr) S 0 = (true, R3) := by
      rw [hR3]
      exact dp_7 o2 r2 f2 (by rw [p2, q2]; exact dp_sub m (by omega))
    have f3 : R3.nx = 8 := by rw [hR3]; show R2.nx + 1 = 8; rw [f2]; rfl
    have o3 : R3.over = false := by rw [hR3]; exact o2
    have r3 : R3.rests = false := by rw [hR3]; exact r2
    have l3 : R3.rg.length = 16 := by rw [hR3]; show (R2.rg.set _ _).length = 16; rw [List.length_set]; exact l2
    have p3 : R3.reg 0 = (m : Int) := by rw [hR3]; exact reg_here (by show 0 < R2.rg.length; omega)
    have q3 : R3.reg 5 = 1 := by rw [hR3]; exact (reg_other (by decide)).trans q2
    have t3 : R3.top = R.top := by rw [hR3, hR2, hR1]; rfl
    obtain ⟨R4, hR4⟩ : ∃ R4, R4 = ({ R3.on.push (dpf fr) 9 with steps := R3.steps + 1 } : Rv) := ⟨_, rfl⟩
    have s4 : R3.stp (dpC n fr) (dpF fr) S 0 = (true, R4) := by
      rw [hR4]
      exact dp_8 o3 r3 f3 (by rw [t3]; omega)
    have sw3 : R3.sw = upd R.sw (R.base + (fr - 1)) (R.reg 0) := by rw [hR3, hR2, hR1]; rfl
    have b3 : R3.base = R.base := by rw [hR3, hR2, hR1]; rfl
    have sw4 : R4.sw = upd (upd R3.sw R3.top 9) (R3.top + 1) R3.base := by rw [hR4]; rfl
    have b4 : R4.base = R.top := by rw [hR4]; exact t3
    have E4 : DpE fr m R4 := by
      refine ⟨by rw [hR4]; rfl, by rw [hR4]; exact p3, by rw [hR4]; exact q3, by rw [hR4]; exact l3, by rw [hR4]; rfl, ?_, by rw [hR4, hR3, hR2, hR1]; exact h.fin, by rw [hR4]; exact r3, by rw [b4, h.top]; have := h.base; omega, ?_⟩
      · have d3 : R3.deep = R3.frames := by rw [hR3, hR2, hR1]; exact h.deep
        rw [hR4]
        show max R3.deep (R3.frames + 1) = R3.frames + 1
        rw [d3]
        omega
      · rw [sw4, b4, ← t3, upd_self, b3]
        exact h.base
    obtain ⟨k, R5, hk, hw, D⟩ := ih R4 (by omega) E4 (by
      have : R4.top = R.top + fr := by rw [hR4]; show R3.top + fr = _; rw [t3]
      rw [this]
      omega)
    have ht := h.top
    have n5 : R5.nx = 9 := by rw [D.nx, sw4, b4, ← t3, upd_not (by omega), upd_self]
    have B5 : R5.base = R.base := by rw [D.base, sw4, b4, ← t3, upd_self, b3]
    have w5 : ∀ i, i < R.top → R5.sw i = R3.sw i := fun i hi => by
      rw [D.sw i (by rw [b4]; omega), sw4, upd_not (by rw [t3]; omega), upd_not (by rw [t3]; omega)]
    have o5 : R5.over = false := dp_over D.same.2.2.2.2.1 D.same.2.2.2.2.2
    have r5 : R5.rests = false := D.same.2.2.2.2.2
    have v5 : R5.sw (R5.base + (fr - 1)) = ((m + 1 : Nat) : Int) := by rw [B5, w5 _ (by omega), sw3, upd_self, h.r0]
    obtain ⟨R6, hR6⟩ : ∃ R6, R6 = ({ R5.on.set 1 ((m + 1 : Nat) : Int) with steps := R5.steps + 1 } : Rv) := ⟨_, rfl⟩
    have s6 : R5.stp (dpC n fr) (dpF fr) S 0 = (true, R6) := by
      rw [hR6]
      exact dp_9 o5 r5 n5 v5
    have f6 : R6.nx = 10 := by rw [hR6]; show R5.nx + 1 = 10; rw [n5]; rfl
    have o6 : R6.over = false := by rw [hR6]; exact o5
    have r6 : R6.rests = false := by rw [hR6]; exact r5
    have l6 : R6.rg.length = 16 := by rw [hR6]; show (R5.rg.set _ _).length = 16; rw [List.length_set]; exact D.rl
    have p6 : R6.reg 0 = (tri m : Int) := by rw [hR6]; exact (reg_other (by decide)).trans D.r0
    have q6 : R6.reg 1 = ((m + 1 : Nat) : Int) := by rw [hR6]; exact reg_here (by have := D.rl; show 1 < R5.rg.length; omega)
    have u6 : R6.reg 5 = 1 := by rw [hR6]; exact (reg_other (by decide)).trans D.r5
    obtain ⟨R7, hR7⟩ : ∃ R7, R7 = ({ R6.on.set 0 (tri (m + 1) : Int) with steps := R6.steps + 1 } : Rv) := ⟨_, rfl⟩
    have s7 : R6.stp (dpC n fr) (dpF fr) S 0 = (true, R7) := by
      rw [hR7]
      have hle := tri_le m (by omega)
      exact dp_10 o6 r6 f6 (by rw [p6, q6]; exact dp_add (tri m) (m + 1) (by omega))
    have w7 : R7.sw = R5.sw := by rw [hR7, hR6]; rfl
    have b7 : R7.base = R.base := by rw [hR7, hR6]; exact B5
    have hsw7 : ∀ i, i < R.base + 2 → R7.sw i = R.sw i := fun i hi => by
      rw [w7, w5 i (by omega), sw3, upd_not (by omega)]
    refine (dp_back (j := 0) (m0 := m + 1) (Wy.cons s1 (Wy.cons s2 (Wy.cons s3 (Wy.cons s4 (hw.trans (Wy.cons s6 (Wy.one s7))))))) (by rw [hR7]; show R6.nx + 1 = 11; rw [f6]; rfl) (by rw [hR7, hR6]; exact D.same.2.2.2.2.1) (by rw [hR7]; exact r6) (by rw [b7]; exact hsw7 _ (by omega)) (by rw [b7]; exact hsw7 _ (by omega)) b7 h.back ?_ ?_ hsw7 (by rw [hR7]; exact reg_here (by show 0 < R6.rg.length; omega)) (by rw [hR7]; exact (reg_other (by decide)).trans u6) (by rw [hR7]; show (R6.rg.set _ _).length = 16; rw [List.length_set]; exact l6) ?_ ?_).elim ?_
    · have : R7.frames = R5.frames := by rw [hR7, hR6]; rfl
      rw [this, D.frames, hR4, hR3, hR2, hR1]
      show R.frames + 1 - 1 = R.frames
      omega
    · have : R7.deep = R5.deep := by rw [hR7, hR6]; rfl
      rw [this, D.deep, hR4, hR3, hR2, hR1]
      show R.frames + 1 + (m : Int) = R.frames + ((m + 1 : Nat) : Int)
      omega
    · have e : R7.ev = R5.ev ∧ R7.kd = R5.kd ∧ R7.vl = R5.vl ∧ R7.words = R5.words := by rw [hR7, hR6]; exact ⟨rfl, rfl, rfl, rfl⟩
      have e4 : R4.ev = R.ev ∧ R4.kd = R.kd ∧ R4.vl = R.vl ∧ R4.words = R.words := by rw [hR4, hR3, hR2, hR1]; exact ⟨rfl, rfl, rfl, rfl⟩
      exact ⟨by rw [e.1, D.same.1, e4.1], by rw [e.2.1, D.same.2.1, e4.2.1], by rw [e.2.2.1, D.same.2.2.1, e4.2.2.1], by rw [e.2.2.2, D.same.2.2.2.1, e4.2.2.2]⟩
    · have e : R7.steps = R5.steps + 1 + 1 := by rw [hR7, hR6]
      have e4 : R4.steps = R.steps + 1 + 1 + 1 + 1 := by rw [hR4, hR3, hR2, hR1]
      rw [e, D.steps, e4]
      omega
    · rintro R' ⟨hw', hd⟩
      exact ⟨_, R', by omega, hw', hd⟩
/-- f, where the stack is one word too small. -/
theorem dp_fails (n fr S : Int) (hfr : 3 ≤ fr ∧ fr ≤ 300) : ∀ (m : Nat) (R : Rv), m ≤ 4095 → DpE fr (m + 1) R → R.top + ((m + 1 : Nat) : Int) * fr = S + 1 → ∃ k R', k ≤ 4 * m + 4 ∧ Wy (dpC n fr) (dpF fr) S 0 k R R' ∧ R'.fin = 2 ∧ R'.kd = 7 ∧ R'.vl = 0 ∧ R'.ev = R.ev ∧ R'.deep = R.frames + (m : Int) ∧ R'.words = R.words := by
  intro m
  induction m with
  | zero =>
    intro R hm h hS
    obtain ⟨R1, hR1⟩ : ∃ R1, R1 = ({ R.on with sw := upd R.sw (R.base + (fr - 1)) (R.reg 0), cs := R.cs + 1, steps := R.steps + 1 } : Rv) := ⟨_, rfl⟩
    have s1 : R.stp (dpC n fr) (dpF fr) S 0 = (true, R1) := by rw [hR1]; exact dp_5 (dp_over h.fin h.rests) h.rests h.nx
    have f1 : R1.nx = 6 := by rw [hR1]; show R.nx + 1 = 6; rw [h.nx]; rfl
    have o1 : R1.over = false := dp_over (by rw [hR1]; exact h.fin) (by rw [hR1]; exact h.rests)
    have r1 : R1.rests = false := by rw [hR1]; exact h.rests
    have p1 : R1.reg 0 = ((0 + 1 : Nat) : Int) := by rw [hR1]; exact h.r0
    obtain ⟨R2, hR2⟩ : ∃ R2, R2 = ({ R1.on with steps := R1.steps + 1 } : Rv) := ⟨_, rfl⟩
    have s2 : R1.stp (dpC n fr) (dpF fr) S 0 = (true, R2) := by rw [hR2]; exact dp_6n o1 r1 f1 (by rw [p1]; decide)
    have f2 : R2.nx = 7 := by rw [hR2]; show R1.nx + 1 = 7; rw [f1]; rfl
    have o2 : R2.over = false := by rw [hR2]; exact o1
    have r2 : R2.rests = false := by rw [hR2]; exact r1
    obtain ⟨v, hv⟩ : ∃ v, doIW (4 - 1) (R2.reg 0) (R2.reg 5) = v := ⟨_, rfl⟩
    obtain ⟨R3, hR3⟩ : ∃ R3, R3 = ({ R2.on.set 0 v with steps := R2.steps + 1 } : Rv) := ⟨_, rfl⟩
    have s3 : R2.stp (dpC n fr) (dpF fr) S 0 = (true, R3) := by rw [hR3]; exact dp_7 o2 r2 f2 hv
    have f3 : R3.nx = 8 := by rw [hR3]; show R2.nx + 1 = 8; rw [f2]; rfl
    have o3 : R3.over = false := by rw [hR3]; exact o2
    have r3 : R3.rests = false := by rw [hR3]; exact r2
    have t3 : R3.top = R.top := by rw [hR3, hR2, hR1]; rfl
    obtain ⟨R4, hR4⟩ : ∃ R4, R4 = ({ R3.on.panic 7 0 with steps := R3.steps + 1 } : Rv) := ⟨_, rfl⟩
    have s4 : R3.stp (dpC n fr) (dpF fr) S 0 = (true, R4) := by rw [hR4]; exact dp_8n o3 r3 f3 (by rw [t3]; simp at hS; omega)
    refine ⟨_, R4, by omega, Wy.cons s1 (Wy.cons s2 (Wy.cons s3 (Wy.one s4))), by rw [hR4]; rfl, by rw [hR4]; rfl, by rw [hR4]; rfl, by rw [hR4, hR3, hR2, hR1]; rfl, ?_, by rw [hR4, hR3, hR2, hR1]; rfl⟩
    rw [hR4, hR3, hR2, hR1]
    show R.deep = R.frames + ((0 : Nat) : Int)
    rw [h.deep]
    simp
  | succ m ih =>
    intro R hm h hS
    have hmul : ((m + 1 + 1 : Nat) : Int) * fr = ((m + 1 : Nat) : Int) * fr + fr := by rw [Int.natCast_add (m + 1) 1, Int.add_mul]; simp
    rw [hmul] at hS
    have hmn : fr ≤ ((m + 1 : Nat) : Int) * fr := by
      have : ((m + 1 : Nat) : Int) * fr = (m : Int) * fr + fr := by rw [Int.natCast_add, Int.add_mul]; simp
      have := Int.mul_nonneg (show (0 : Int) ≤ (m : Int) by omega) (show 0 ≤ fr by omega)
      omega
    obtain ⟨R1, hR1⟩ : ∃ R1, R1 = ({ R.on with sw := upd R.sw (R.base + (fr - 1)) (R.reg 0), cs := R.cs + 1, steps := R.steps + 1 } : Rv) := ⟨_, rfl⟩
    have s1 : R.stp (dpC n fr) (dpF fr) S 0 = (true, R1) := by rw [hR1]; exact dp_5 (dp_over h.fin h.rests) h.rests h.nx
    have f1 : R1.nx = 6 := by rw [hR1]; show R.nx + 1 = 6; rw [h.nx]; rfl
    have o1 : R1.over = false := dp_over (by rw [hR1]; exact h.fin) (by rw [hR1]; exact h.rests)
    have r1 : R1.rests = false := by rw [hR1]; exact h.rests
    have p1 : R1.reg 0 = ((m + 1 + 1 : Nat) : Int) := by rw [hR1]; exact h.r0
    obtain ⟨R2, hR2⟩ : ∃ R2, R2 = ({ R1.on with steps := R1.steps + 1 } : Rv) := ⟨_, rfl⟩
    have s2 : R1.stp (dpC n fr) (dpF fr) S 0 = (true, R2) := by rw [hR2]; exact dp_6n o1 r1 f1 (by rw [p1]; omega)
    have f2 : R2.nx = 7 := by rw [hR2]; show R1.nx + 1 = 7; rw [f1]; rfl
    have o2 : R2.over = false := by rw [hR2]; exact o1
    have r2 : R2.rests = false := by rw [hR2]; exact r1
    have p2 : R2.reg 0 = ((m + 1 + 1 : Nat) : Int) := by rw [hR2]; exact p1
    have q2 : R2.reg 5 = 1 := by rw [hR2, hR1]; exact h.r5
    have l2 : R2.rg.length = 16 := by rw [hR2, hR1]; exact h.rl
    obtain ⟨R3, hR3⟩ : ∃ R3, R3 = ({ R2.on.set 0 ((m + 1 : Nat) : Int) with steps := R2.steps + 1 } : Rv) := ⟨_, rfl⟩
    have s3 : R2.stp (dpC n fr) (dpF fr) S 0 = (true, R3) := by rw [hR3]; exact dp_7 o2 r2 f2 (by rw [p2, q2]; exact dp_sub (m + 1) (by omega))
    have f3 : R3.nx = 8 := by rw [hR3]; show R2.nx + 1 = 8; rw [f2]; rfl
    have o3 : R3.over = false := by rw [hR3]; exact o2
    have r3 : R3.rests = false := by rw [hR3]; exact r2
    have l3 : R3.rg.length = 16 := by rw [hR3]; show (R2.rg.set _ _).length = 16; rw [List.length_set]; exact l2
    have p3 : R3.reg 0 = ((m + 1 : Nat) : Int) := by rw [hR3]; exact reg_here (by show 0 < R2.rg.length; omega)
    have q3 : R3.reg 5 = 1 := by rw [hR3]; exact (reg_other (by decide)).trans q2
    have t3 : R3.top = R.top := by rw [hR3, hR2, hR1]; rfl
    have b3 : R3.base = R.base := by rw [hR3, hR2, hR1]; rfl
    obtain ⟨R4, hR4⟩ : ∃ R4, R4 = ({ R3.on.push (dpf fr) 9 with steps := R3.steps + 1 } : Rv) := ⟨_, rfl⟩
    have s4 : R3.stp (dpC n fr) (dpF fr) S 0 = (true, R4) := by rw [hR4]; exact dp_8 o3 r3 f3 (by rw [t3]; omega)
    have sw4 : R4.sw = upd (upd R3.sw R3.top 9) (R3.top + 1) R3.base := by rw [hR4]; rfl
    have b4 : R4.base = R.top := by rw [hR4]; exact t3
    have E4 : DpE fr (m + 1) R4 := by
      refine ⟨by rw [hR4]; rfl, by rw [hR4]; exact p3, by rw [hR4]; exact q3, by rw [hR4]; exact l3, by rw [hR4]; rfl, ?_, by rw [hR4, hR3, hR2, hR1]; exact h.fin, by rw [hR4]; exact r3, by rw [b4, h.top]; have := h.base; omega, ?_⟩
      · have d3 : R3.deep = R3.frames := by rw [hR3, hR2, hR1]; exact h.deep
        rw [hR4]
        show max R3.deep (R3.frames + 1) = R3.frames + 1
        rw [d3]
        omega
      · rw [sw4, b4, ← t3, upd_self, b3]
        exact h.base
    obtain ⟨k, R5, hk, hw, g1, g2, g3, g4, g5, g6⟩ := ih R4 (by omega) E4 (by
      have : R4.top = R.top + fr := by rw [hR4]; show R3.top + fr = _; rw [t3]
      rw [this]
      omega)
    refine ⟨_, R5, by omega, Wy.cons s1 (Wy.cons s2 (Wy.cons s3 (Wy.cons s4 hw))), g1, g2, g3, by rw [g4, hR4, hR3, hR2, hR1]; rfl, ?_, by rw [g6, hR4, hR3, hR2, hR1]; rfl⟩
    rw [g5, hR4, hR3, hR2, hR1]
    show R.frames + 1 + (m : Int) = R.frames + ((m + 1 : Nat) : Int)
    omega
end Go.Proofs.YteplldbhfjfbpaaGreatDoor
