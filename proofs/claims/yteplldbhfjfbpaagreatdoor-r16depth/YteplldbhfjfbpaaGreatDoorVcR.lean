import Derived.Test.YteplldbhfjfbpaaGreatDoorVcQ
set_option linter.unusedVariables false
set_option linter.unusedSimpArgs false
namespace Go.Proofs.YteplldbhfjfbpaaGreatDoor
open Go.ChangeShapes Go.WideShapes Go.ChangeAt Go.RowKit Go.Maps

def dp0 (S : Int) : Rv := (Rv.zero []).call S dpM (-1)
theorem dp_begin (S : Int) (hS : 2 ≤ S) : dp0 S = (Rv.zero []).push dpM (-1) := by
  unfold dp0 Rv.call
  exact if_neg (by show ¬ (2 : Int) > S - 0; omega)
/-- main up to its call. -/
theorem dp_head (n fr S : Int) : ∃ R, Wy (dpC n fr) (dpF fr) S 0 2 ((Rv.zero []).push dpM (-1)) R ∧ R.nx = 2 ∧ R.reg 0 = n ∧ R.reg 5 = 1 ∧ R.rg.length = 16 ∧ R.base = 0 ∧ R.top = 2 ∧ R.frames = 1 ∧ R.deep = 1 ∧ R.fin = 0 ∧ R.rests = false ∧ R.sw = upd (upd (fun _ => 0) 0 (-1)) 1 (-1) ∧ R.ev = [] ∧ R.kd = 0 ∧ R.vl = 0 ∧ R.words = 0 ∧ R.steps = 2 := by
  refine ⟨{ ((Rv.zero []).push dpM (-1)) with rg := ((List.replicate 16 (0 : Int)).set 5 1).set 0 n, nx := 2, steps := 2 }, Wy.cons (R' := { ((Rv.zero []).push dpM (-1)) with rg := (List.replicate 16 (0 : Int)).set 5 1, nx := 1, steps := 1 }) (by kernel_rfl) (Wy.one (by kernel_rfl)), rfl, rfl, rfl, rfl, rfl, rfl, rfl, rfl, rfl, rfl, rfl, rfl, rfl, rfl, rfl, rfl⟩
theorem dp_2 {n fr S : Int} {R : Rv} (ho : R.over = false) (hr : R.rests = false) (h : R.nx = 2) (hS : R.top + fr ≤ S) : R.stp (dpC n fr) (dpF fr) S 0 = (true, { R.on.push (dpf fr) 3 with steps := R.steps + 1 }) :=
  stp_ok (x := ⟨26, 0, 0, 0, 1⟩) (R1 := R.on.push (dpf fr) 3) ho (dp_at (i := 2) h rfl) rfl (by
    show R.on.call S (dpf fr) (R.nx + 1) = _
    rw [h]
    unfold Rv.call
    rw [if_neg (by show ¬ fr > S - R.top; omega)]
    rfl) hr
theorem dp_2n {n fr S : Int} {R : Rv} (ho : R.over = false) (hr : R.rests = false) (h : R.nx = 2) (hS : S < R.top + fr) : R.stp (dpC n fr) (dpF fr) S 0 = (true, { R.on.panic 7 0 with steps := R.steps + 1 }) :=
  stp_ok (x := ⟨26, 0, 0, 0, 1⟩) (R1 := R.on.panic 7 0) ho (dp_at (i := 2) h rfl) rfl (by
    show R.on.call S (dpf fr) (R.nx + 1) = _
    unfold Rv.call
    rw [if_pos (by show fr > S - R.top; omega)]) hr
/-- As it comes into f for the first time. -/
theorem dp_enter {n fr S : Int} {m : Nat} (hn : n = (m : Int)) {R R3 : Rv} (hR3 : R3 = { R.on.push (dpf fr) 3 with steps := R.steps + 1 }) (h0 : R.reg 0 = n) (h5 : R.reg 5 = 1) (hl : R.rg.length = 16) (hb : R.base = 0) (ht : R.top = 2) (hf : R.frames = 1) (hd : R.deep = 1) (hfin : R.fin = 0) (hr : R.rests = false) : DpE fr m R3 := by
  subst hR3
  refine ⟨rfl, by rw [← hn]; exact h0, h5, hl, rfl, ?_, hfin, hr, by show 0 ≤ R.top; omega, ?_⟩
  · show max R.deep (R.frames + 1) = R.frames + 1
    rw [hd, hf]
    rfl
  · show 0 ≤ upd (upd R.sw R.top 3) (R.top + 1) R.base (R.top + 1)
    rw [upd_self, hb]
    exact Int.le_refl 0
/-- All of it, where the stack is enough. -/
theorem dp_all (m : Nat) (fr : Int) (hm : m ≤ 4095) (hfr : 3 ≤ fr ∧ fr ≤ 300) : (fun R : Rv => (R.over, R.ev, R.fin, R.deep, R.words)) (smG (dpC m fr) (dpF fr) (2 + ((m : Int) + 1) * fr) 0 (20 * (m + 2)) (dp0 (2 + ((m : Int) + 1) * fr))) = (true, [(1, (tri m : Int))], 1, (m : Int) + 2, 0) := by
  obtain ⟨S, hS⟩ : ∃ S, S = 2 + ((m : Int) + 1) * fr := ⟨_, rfl⟩
  have hmul : ((m : Int) + 1) * fr = (m : Int) * fr + fr := by rw [Int.add_mul]; simp
  have hmn : 0 ≤ (m : Int) * fr := Int.mul_nonneg (by omega) (by omega)
  rw [hmul] at hS
  rw [hmul, ← hS, dp_begin S (by omega)]
  obtain ⟨R2, w2, a1, a2, a3, a4, a5, a6, a7, a8, a9, a10, a11, a12, a13, a14, a15, a16⟩ := dp_head (m : Int) fr S
  obtain ⟨R3, hR3⟩ : ∃ R3, R3 = ({ R2.on.push (dpf fr) 3 with steps := R2.steps + 1 } : Rv) := ⟨_, rfl⟩
  have s3 : R2.stp (dpC m fr) (dpF fr) S 0 = (true, R3) := by rw [hR3]; exact dp_2 (dp_over a9 a10) a10 a1 (by rw [a6]; omega)
  have E3 := dp_enter (n := (m : Int)) (S := S) rfl hR3 a2 a3 a4 a5 a6 a7 a8 a9 a10
  have t3 : R3.top = 2 + fr := by rw [hR3]; show R2.top + fr = _; rw [a6]
  have b3 : R3.base = 2 := by rw [hR3]; exact a6
  have f3 : R3.frames = 2 := by rw [hR3]; show R2.frames + 1 = 2; rw [a7]; rfl
  have sw3 : R3.sw = upd (upd R2.sw 2 3) 3 0 := by rw [hR3]; show upd (upd R2.sw R2.top 3) (R2.top + 1) R2.base = _; rw [a6, a5]; rfl
  have v3 : R3.ev = [] ∧ R3.words = 0 := by rw [hR3]; exact ⟨a12, a15⟩
  obtain ⟨k, R4, hk, w4, D⟩ := dp_goes (m : Int) fr S hfr m R3 hm E3 (by rw [t3]; omega)
  have n4 : R4.nx = 3 := by rw [D.nx, b3, sw3, upd_not (by decide), upd_self]
  have b4 : R4.base = 0 := by rw [D.base, b3, sw3]; exact upd_self
  have o4 : R4.over = false := dp_over D.same.2.2.2.2.1 D.same.2.2.2.2.2
  have r4 : R4.rests = false := D.same.2.2.2.2.2
  have e4 : R4.ev = [] := D.same.1.trans v3.1
  have x4 : R4.sw 1 = -1 := by rw [D.sw 1 (by rw [b3]; decide), sw3, upd_not (by decide), upd_not (by decide), a11]; exact upd_self
  obtain ⟨R5, hR5⟩ : ∃ R5, R5 = ({ R4.on with ev := [(1, (tri m : Int))], steps := R4.steps + 1 } : Rv) := ⟨_, rfl⟩
  have s5 : R4.stp (dpC m fr) (dpF fr) S 0 = (true, R5) := by
    rw [hR5]
    refine stp_ok (R1 := { R4.on with ev := [(1, (tri m : Int))] }) (x := ⟨37, 0, 0, 0, 0⟩) o4 (dp_at (i := 3) n4 rfl) rfl ?_ r4
    show R4.on.tell 1 (R4.reg 0) = _
    rw [D.r0]
    unfold Rv.tell
    have e : R4.on.ev = [] := e4
    rw [if_neg (by rw [e]; decide), e]
    rfl
  have n5 : R5.nx = 4 := by rw [hR5]; show R4.nx + 1 = 4; rw [n4]; rfl
  have o5 : R5.over = false := by rw [hR5]; exact o4
  have r5 : R5.rests = false := by rw [hR5]; exact r4
  have s6 : R5.stp (dpC m fr) (dpF fr) S 0 = (true, { R5.on.back with steps := R5.steps + 1 }) :=
    stp_ok (x := ⟨27, 0, 0, 0, 0⟩) (R1 := R5.on.back) o5 (dp_at (i := 4) n5 rfl) rfl rfl r5
  have hfin : ({ R5.on.back with steps := R5.steps + 1 } : Rv).fin = 1 := by
    show (if R5.sw (R5.base + 1) = -1 then 1 else R5.fin) = 1
    rw [if_pos]
    rw [hR5]
    show R4.sw (R4.base + 1) = -1
    rw [b4]
    exact x4
  have ho6 : ({ R5.on.back with steps := R5.steps + 1 } : Rv).over = true := by
    unfold Rv.over
    rw [hfin]
    simp
  rw [Wy.ends (w2.trans (Wy.cons s3 (w4.trans (Wy.cons s5 (Wy.one s6))))) ho6 (by omega)]
  simp only [Prod.mk.injEq]
  refine ⟨ho6, by rw [hR5]; rfl, hfin, ?_, ?_⟩
  · have : ({ R5.on.back with steps := R5.steps + 1 } : Rv).deep = R4.deep := by rw [hR5]; rfl
    rw [this, D.deep, f3]
    omega
  · have : ({ R5.on.back with steps := R5.steps + 1 } : Rv).words = R4.words := by rw [hR5]; rfl
    rw [this, D.same.2.2.2.1, v3.2]
/-- .. and where it is one word too small. -/
theorem dp_less (m : Nat) (fr : Int) (hm : m ≤ 4095) (hfr : 3 ≤ fr ∧ fr ≤ 300) : (fun R : Rv => (R.over, R.ev, R.fin, R.kd, R.vl, R.deep)) (smG (dpC m fr) (dpF fr) (2 + ((m : Int) + 1) * fr - 1) 0 (20 * (m + 2)) (dp0 (2 + ((m : Int) + 1) * fr - 1))) = (true, [], 2, 7, 0, (m : Int) + 1) := by
  obtain ⟨S, hS⟩ : ∃ S, S = 2 + ((m : Int) + 1) * fr - 1 := ⟨_, rfl⟩
  have hmul : ((m : Int) + 1) * fr = (m : Int) * fr + fr := by rw [Int.add_mul]; simp
  have hmn : 0 ≤ (m : Int) * fr := Int.mul_nonneg (by omega) (by omega)
  rw [hmul] at hS
  rw [hmul, ← hS, dp_begin S (by omega)]
  obtain ⟨R2, w2, a1, a2, a3, a4, a5, a6, a7, a8, a9, a10, a11, a12, a13, a14, a15, a16⟩ := dp_head (m : Int) fr S
  cases m with
  | zero =>
    have s3 := dp_2n (n := ((0 : Nat) : Int)) (fr := fr) (S := S) (dp_over a9 a10) a10 a1 (by rw [a6]; simp at hS; omega)
    have ho : ({ R2.on.panic 7 0 with steps := R2.steps + 1 } : Rv).over = true := by
      unfold Rv.over
      show (R2.rests || !decide ((2 : Int) = 0)) = true
      simp
    rw [Wy.ends (w2.trans (Wy.one s3)) ho (by omega)]
    simp only [Prod.mk.injEq]
    exact ⟨ho, a12, rfl, rfl, rfl, by show R2.deep = _; rw [a8]; rfl⟩
  | succ m =>
    have hm1 : ((m + 1 : Nat) : Int) * fr = (m : Int) * fr + fr := by rw [Int.natCast_add, Int.add_mul]; simp
    have hmn2 : 0 ≤ (m : Int) * fr := Int.mul_nonneg (by omega) (by omega)
    obtain ⟨R3, hR3⟩ : ∃ R3, R3 = ({ R2.on.push (dpf fr) 3 with steps := R2.steps + 1 } : Rv) := ⟨_, rfl⟩
    have s3 : R2.stp (dpC ((m + 1 : Nat) : Int) fr) (dpF fr) S 0 = (true, R3) := by rw [hR3]; exact dp_2 (dp_over a9 a10) a10 a1 (by rw [a6]; omega)
    have E3 := dp_enter (n := ((m + 1 : Nat) : Int)) (S := S) rfl hR3 a2 a3 a4 a5 a6 a7 a8 a9 a10
    have t3 : R3.top = 2 + fr := by rw [hR3]; show R2.top + fr = _; rw [a6]
    have f3 : R3.frames = 2 := by rw [hR3]; show R2.frames + 1 = 2; rw [a7]; rfl
    have v3 : R3.ev = [] := by rw [hR3]; exact a12
    obtain ⟨k, R4, hk, w4, g1, g2, g3, g4, g5, g6⟩ := dp_fails ((m + 1 : Nat) : Int) fr S hfr m R3 (by omega) E3 (by rw [t3]; omega)
    have ho : R4.over = true := by
      unfold Rv.over
      rw [g1]
      simp
    rw [Wy.ends (w2.trans (Wy.cons s3 w4)) ho (by omega)]
    simp only [Prod.mk.injEq]
    exact ⟨ho, g4.trans v3, g1, g2, g3, by rw [g5, f3]; omega⟩
end Go.Proofs.YteplldbhfjfbpaaGreatDoor
