import Derived.Test.YteplldbhfjfbpaaGreatDoorVcX
import Derived.Test.YteplldbhfjfbpaaGreatDoorVcU
import Derived.Test.YteplldbhfjfbpaaGreatDoorVcP
set_option linter.unusedVariables false
set_option linter.unusedSimpArgs false
namespace Go.Proofs.YteplldbhfjfbpaaGreatDoor
open Go.ChangeShapes Go.WideShapes Go.ChangeAt Go.RowKit Go.Maps

/-- full's program. -/
def fuC (x : Ri) : List Ri := [⟨1, 2, 0, 0, 524288⟩, ⟨1, 3, 0, 0, 1⟩, ⟨1, 4, 0, 0, 5⟩, ⟨37, 2, 0, 0, 0⟩, ⟨38, 3, 0, 0, 0⟩, ⟨4, 2, 2, 3, 0⟩, ⟨23, 2, 0, 0, 3⟩, x, ⟨27, 0, 0, 0, 0⟩]
def fu0 : Rv := (Rv.zero []).call 2 ⟨⟨#[109, 97, 105, 110]⟩, 2, 0, 9, 0⟩ (-1)
theorem fu_at {x y : Ri} {R : Rv} {i : Nat} (h : R.nx = (i : Int)) (hx : (fuC x)[i]? = some y) : R.at (fuC x) = y := by
  unfold Rv.at
  rw [h]
  show (fuC x).getD i riZ = y
  unfold List.getD
  rw [hx]
  rfl
/-- What stays. -/
structure FuK (R : Rv) : Prop where
  fin : R.fin = 0
  rests : R.rests = false
  r3 : R.reg 3 = 1
  r4 : R.reg 4 = 5
  rl : R.rg.length = 16
  base : R.base = 0
  sw : R.sw 1 = -1
  inp : R.inp = []
  kd : R.kd = 0
  vl : R.vl = 0
  words : R.words = 0
  deep : R.deep = 1
structure FuS (nx : Int) (c n t : Nat) (R : Rv) : Prop where
  keep : FuK R
  nx : R.nx = nx
  r2 : R.reg 2 = (c : Int)
  ev : R.ev.length = n
  hd : 0 < n → R.ev[0]? = some (1, 524288)
  lst : 0 < n → R.ev[n - 1]? = some (2, 1)
  steps : R.steps = (t : Int)
theorem fu_start (x : Ri) : ∃ R, Wy (fuC x) (oneF (fuC x) 2) 2 0 3 fu0 R ∧ FuS 3 524288 0 3 R := by
  refine ⟨{ fu0 with rg := (((List.replicate 16 (0 : Int)).set 2 524288).set 3 1).set 4 5, nx := 3, steps := 3 }, Wy.cons (R' := { fu0 with rg := (List.replicate 16 (0 : Int)).set 2 524288, nx := 1, steps := 1 }) (by kernel_rfl) (Wy.cons (R' := { fu0 with rg := ((List.replicate 16 (0 : Int)).set 2 524288).set 3 1, nx := 2, steps := 2 }) (by kernel_rfl) (Wy.one (by kernel_rfl))), ⟨⟨rfl, rfl, rfl, rfl, rfl, rfl, rfl, rfl, rfl, rfl, rfl, rfl⟩, rfl, rfl, rfl, fun h => absurd h (Nat.lt_irrefl _), fun h => absurd h (Nat.lt_irrefl _), rfl⟩⟩
/-- A turn. -/
theorem fu_turn (x : Ri) {c n t : Nat} {R : Rv} (h : FuS 3 (c + 1) n t R) (hc : c < 524288) (hn : n + 2 ≤ 1048576) (h0 : n = 0 → c = 524287) : ∃ R', Wy (fuC x) (oneF (fuC x) 2) 2 0 4 R R' ∧ FuS (if c = 0 then 7 else 3) c (n + 2) (t + 4) R' := by
  have k := h.keep
  obtain ⟨R1, hR1⟩ : ∃ R1, R1 = ({ R.on with ev := R.ev ++ [(1, ((c + 1 : Nat) : Int))], steps := R.steps + 1 } : Rv) := ⟨_, rfl⟩
  have s1 : R.stp (fuC x) (oneF (fuC x) 2) 2 0 = (true, R1) := by
    rw [hR1]
    refine stp_ok (x := ⟨37, 2, 0, 0, 0⟩) (R1 := { R.on with ev := R.ev ++ [(1, ((c + 1 : Nat) : Int))] }) (not_over k.fin k.rests) (fu_at (i := 3) h.nx rfl) rfl ?_ k.rests
    show R.on.tell 1 (R.reg 2) = _
    rw [h.r2]
    unfold Rv.tell
    have e : R.on.ev = R.ev := rfl
    rw [if_neg (by rw [e, h.ev]; omega)]
    rfl
  have k1 : FuK R1 := by rw [hR1]; exact ⟨k.fin, k.rests, k.r3, k.r4, k.rl, k.base, k.sw, k.inp, k.kd, k.vl, k.words, k.deep⟩
  have n1 : R1.nx = 4 := by rw [hR1]; show R.nx + 1 = 4; rw [h.nx]; rfl
  have v1 : R1.ev = R.ev ++ [(1, ((c + 1 : Nat) : Int))] := by rw [hR1]
  have q1 : R1.reg 2 = ((c + 1 : Nat) : Int) := by rw [hR1]; exact h.r2
  obtain ⟨R2, hR2⟩ : ∃ R2, R2 = ({ R1.on with ev := R1.ev ++ [(2, 1)], steps := R1.steps + 1 } : Rv) := ⟨_, rfl⟩
  have s2 : R1.stp (fuC x) (oneF (fuC x) 2) 2 0 = (true, R2) := by
    rw [hR2]
    refine stp_ok (x := ⟨38, 3, 0, 0, 0⟩) (R1 := { R1.on with ev := R1.ev ++ [(2, 1)] }) (not_over k1.fin k1.rests) (fu_at (i := 4) n1 rfl) ?_ ?_ k1.rests
    · show (if bad01 (R1.reg 3) then some 5 else none) = none
      rw [if_neg (by rw [k1.r3]; unfold bad01; simp)]
    · show R1.on.tell 2 (R1.reg 3) = _
      rw [k1.r3]
      unfold Rv.tell
      have e : R1.on.ev = R1.ev := rfl
      rw [if_neg (by rw [e, v1, List.length_append, h.ev]; show ¬ n + 1 = 1048576; omega)]
      rfl
  have k2 : FuK R2 := by rw [hR2]; exact ⟨k1.fin, k1.rests, k1.r3, k1.r4, k1.rl, k1.base, k1.sw, k1.inp, k1.kd, k1.vl, k1.words, k1.deep⟩
  have n2 : R2.nx = 5 := by rw [hR2]; show R1.nx + 1 = 5; rw [n1]; rfl
  have v2 : R2.ev = R.ev ++ [(1, ((c + 1 : Nat) : Int))] ++ [(2, 1)] := by rw [hR2, v1]
  have q2 : R2.reg 2 = ((c + 1 : Nat) : Int) := by rw [hR2]; exact q1
  obtain ⟨R3, hR3⟩ : ∃ R3, R3 = ({ R2.on.set 2 (c : Int) with steps := R2.steps + 1 } : Rv) := ⟨_, rfl⟩
  have s3 : R2.stp (fuC x) (oneF (fuC x) 2) 2 0 = (true, R3) := by
    rw [hR3]
    refine stp_ok (x := ⟨4, 2, 2, 3, 0⟩) (R1 := R2.on.set 2 (c : Int)) (not_over k2.fin k2.rests) (fu_at (i := 5) n2 rfl) rfl ?_ k2.rests
    show R2.on.set 2 (doIW (4 - 1) (R2.reg 2) (R2.reg 3)) = _
    rw [q2, k2.r3]
    have e : doIW (4 - 1) ((c + 1 : Nat) : Int) 1 = (c : Int) := by
      have e : ∀ a b : Int, doIW (4 - 1) a b = wrap64 (a - b) := fun a b => rfl
      rw [e]
      unfold wrap64
      omega
    rw [e]
  have k3 : FuK R3 := by
    rw [hR3]
    have l := k2.rl
    exact ⟨k2.fin, k2.rests, (reg_other (by decide)).trans k2.r3, (reg_other (by decide)).trans k2.r4, by show (R2.rg.set _ _).length = 16; rw [List.length_set]; exact l, k2.base, k2.sw, k2.inp, k2.kd, k2.vl, k2.words, k2.deep⟩
  have n3 : R3.nx = 6 := by rw [hR3]; show R2.nx + 1 = 6; rw [n2]; rfl
  have v3 : R3.ev = R.ev ++ [(1, ((c + 1 : Nat) : Int))] ++ [(2, 1)] := by rw [hR3]; exact v2
  have q3 : R3.reg 2 = (c : Int) := by rw [hR3]; exact reg_here (by have := k2.rl; show 2 < R2.rg.length; omega)
  have t3 : R3.steps = (t : Int) + 3 := by rw [hR3, hR2, hR1]; show R.steps + 1 + 1 + 1 = _; rw [h.steps]; omega
  have len : (R.ev ++ [(1, ((c + 1 : Nat) : Int))] ++ [((2 : Int), (1 : Int))]).length = n + 2 := by simp [h.ev]
  have hh : (R.ev ++ [(1, ((c + 1 : Nat) : Int))] ++ [((2 : Int), (1 : Int))])[0]? = some (1, 524288) := by
    rcases Nat.eq_zero_or_pos n with q | q
    · have e : R.ev = [] := List.length_eq_zero_iff.1 (by rw [h.ev]; exact q)
      rw [e, h0 q]
      rfl
    · rw [List.append_assoc, List.getElem?_append_left (by rw [h.ev]; exact q)]
      exact h.hd q
  have hl : (R.ev ++ [(1, ((c + 1 : Nat) : Int))] ++ [((2 : Int), (1 : Int))])[n + 2 - 1]? = some (2, 1) := by
    rw [List.getElem?_append_right (by simp [h.ev])]
    simp [h.ev]
  have s4 : R3.stp (fuC x) (oneF (fuC x) 2) 2 0 = (true, { R3.on with nx := (if c = 0 then 7 else 3), steps := R3.steps + 1 }) := by
    refine stp_ok (x := ⟨23, 2, 0, 0, 3⟩) (R1 := { R3.on with nx := (if c = 0 then 7 else 3) }) (not_over k3.fin k3.rests) (fu_at (i := 6) n3 rfl) rfl ?_ k3.rests
    show (if R3.on.reg 2 = 0 then R3.on else _) = _
    by_cases hz : c = 0
    · rw [if_pos (by show R3.reg 2 = 0; rw [q3, hz]; rfl), if_pos hz]
      have : R3.on.nx = 7 := by show R3.nx + 1 = 7; rw [n3]; rfl
      rw [← this]
    · rw [if_neg (by show ¬ R3.reg 2 = 0; rw [q3]; omega), if_neg hz]
  refine ⟨_, Wy.cons s1 (Wy.cons s2 (Wy.cons s3 (Wy.one s4))), ⟨k3.fin, k3.rests, k3.r3, k3.r4, k3.rl, k3.base, k3.sw, k3.inp, k3.kd, k3.vl, k3.words, k3.deep⟩, rfl, q3, ?_, ?_, ?_, ?_⟩
  · show R3.ev.length = _
    rw [v3]
    exact len
  · intro _
    show R3.ev[0]? = _
    rw [v3]
    exact hh
  · intro _
    show R3.ev[n + 2 - 1]? = _
    rw [v3]
    exact hl
  · show R3.steps + 1 = _
    rw [t3]
    omega
/-- All turns. -/
theorem fu_turns (x : Ri) : ∀ (c n t : Nat) (R : Rv), FuS 3 (c + 1) n t R → c < 524288 → n + 2 * (c + 1) = 1048576 → ∃ R', Wy (fuC x) (oneF (fuC x) 2) 2 0 (4 * (c + 1)) R R' ∧ FuS 7 0 1048576 (t + 4 * (c + 1)) R'
  | 0, n, t, R, h, hc, hn => by
    obtain ⟨R', w, h'⟩ := fu_turn x h hc (by omega) (by omega)
    rw [show n + 2 = 1048576 by omega] at h'
    exact ⟨R', w, h'⟩
  | c + 1, n, t, R, h, hc, hn => by
    obtain ⟨R1, w1, h1⟩ := fu_turn x h hc (by omega) (by omega)
    rw [if_neg (by omega)] at h1
    obtain ⟨R', w, h'⟩ := fu_turns x c (n + 2) (t + 4) R1 h1 (by omega) (by omega)
    refine ⟨R', ?_, ?_⟩
    · rw [show 4 * (c + 1 + 1) = 4 + 4 * (c + 1) by omega]
      exact w1.trans w
    · rw [show t + 4 * (c + 1 + 1) = t + 4 + 4 * (c + 1) by omega]
      exact h'
def fuX (k : Nat) : Ri := match k with | 0 => ⟨27, 0, 0, 0, 0⟩ | 1 => ⟨35, 4, 0, 0, 6⟩ | 2 => ⟨38, 4, 0, 0, 0⟩ | _ => ⟨36, 4, 0, 0, 0⟩
def fuE (k : Nat) : Int × Int × Int := match k with | 0 => (1, 0, 0) | 1 => (2, 6, 5) | 2 => (3, 5, 0) | _ => (2, 5, 0)
theorem fu_all (k : Nat) (hk : k < 4) : ∃ (K : Nat) (RF : Rv), K = 2097156 ∧ smG (fuC (fuX k)) (oneF (fuC (fuX k)) 2) 2 0 K fu0 = RF ∧ RF.over = true ∧ RF.ev.length = 1048576 ∧ RF.ev[0]? = some (1, 524288) ∧ RF.ev[1048575]? = some (2, 1) ∧ RF.fin = (fuE k).1 ∧ RF.kd = (fuE k).2.1 ∧ RF.vl = (fuE k).2.2 ∧ RF.steps = 2097156 ∧ RF.words = 0 ∧ RF.deep = 1 := by
  obtain ⟨R0, w0, h0⟩ := fu_start (fuX k)
  obtain ⟨c, hc⟩ : ∃ c : Nat, c = 524287 := ⟨_, rfl⟩
  obtain ⟨R, w, h⟩ := fu_turns (fuX k) c 0 3 R0 (by rw [hc]; exact h0) (by omega) (by omega)
  obtain ⟨T, hT⟩ : ∃ T : Nat, T = 3 + 4 * (c + 1) := ⟨_, rfl⟩
  rw [← hT] at h
  have ww := w0.trans w
  rw [← hT] at ww
  have k0 := h.keep
  have hat : R.at (fuC (fuX k)) = fuX k := fu_at (i := 7) h.nx rfl
  have hE := h.ev
  have hst : R.steps + 1 = 2097156 := by rw [h.steps]; omega
  rcases (show k = 0 ∨ k = 1 ∨ k = 2 ∨ k = 3 by omega) with rfl | rfl | rfl | rfl
  · have s := stp_ok (C := fuC (fuX 0)) (FS := oneF (fuC (fuX 0)) 2) (S := 2) (room := 0) (x := ⟨27, 0, 0, 0, 0⟩) (R1 := R.on.back) (not_over k0.fin k0.rests) hat rfl rfl k0.rests
    have hf : ({ R.on.back with steps := R.steps + 1 } : Rv).fin = 1 := by
      show (if R.sw (R.base + 1) = -1 then 1 else R.fin) = 1
      rw [k0.base]
      exact if_pos k0.sw
    have ho : ({ R.on.back with steps := R.steps + 1 } : Rv).over = true := by unfold Rv.over; rw [hf]; simp
    exact ⟨2097156, _, rfl, (ww.trans (Wy.one s)).ends ho (by omega), ho, hE, h.hd (by omega), h.lst (by omega), hf, k0.kd, k0.vl, hst, k0.words, k0.deep⟩
  · have s := stp_ok (C := fuC (fuX 1)) (FS := oneF (fuC (fuX 1)) 2) (S := 2) (room := 0) (x := ⟨35, 4, 0, 0, 6⟩) (R1 := R.on.panic 6 5) (not_over k0.fin k0.rests) hat rfl (by
      show R.on.panic 6 (R.reg 4) = _
      rw [k0.r4]) k0.rests
    have ho : ({ R.on.panic 6 5 with steps := R.steps + 1 } : Rv).over = true := by unfold Rv.over; show (R.rests || !decide ((2 : Int) = 0)) = true; simp
    exact ⟨2097156, _, rfl, (ww.trans (Wy.one s)).ends ho (by omega), ho, hE, h.hd (by omega), h.lst (by omega), rfl, rfl, rfl, hst, k0.words, k0.deep⟩
  · have s := stp_bad (C := fuC (fuX 2)) (FS := oneF (fuC (fuX 2)) 2) (S := 2) (room := 0) (x := ⟨38, 4, 0, 0, 0⟩) (k := 5) (not_over k0.fin k0.rests) hat (by
      show (if bad01 (R.reg 4) then some 5 else none) = some 5
      rw [if_pos (by rw [k0.r4]; unfold bad01; simp)]) k0.rests
    have ho : ({ R.on.stuck 5 with steps := R.steps + 1 } : Rv).over = true := by unfold Rv.over; show (R.rests || !decide ((3 : Int) = 0)) = true; simp
    exact ⟨2097156, _, rfl, (ww.trans (Wy.one s)).ends ho (by omega), ho, hE, h.hd (by omega), h.lst (by omega), rfl, rfl, k0.vl, hst, k0.words, k0.deep⟩
  · have s := stp_ok (C := fuC (fuX 3)) (FS := oneF (fuC (fuX 3)) 2) (S := 2) (room := 0) (x := ⟨36, 4, 0, 0, 0⟩) (R1 := R.on.panic 5 0) (not_over k0.fin k0.rests) hat rfl (by
      show R.on.take 4 = _
      unfold Rv.take
      have e : R.on.inp = [] := k0.inp
      rw [e]) k0.rests
    have ho : ({ R.on.panic 5 0 with steps := R.steps + 1 } : Rv).over = true := by unfold Rv.over; show (R.rests || !decide ((2 : Int) = 0)) = true; simp
    exact ⟨2097156, _, rfl, (ww.trans (Wy.one s)).ends ho (by omega), ho, hE, h.hd (by omega), h.lst (by omega), rfl, rfl, rfl, hst, k0.words, k0.deep⟩
theorem fu_form (k : Nat) (hk : k < 4) : formR (fuC (fuX k)) (oneF (fuC (fuX k)) 2) 0 = true := by
  refine form_one (by show 0 < 9; omega) (by omega) ?_ rfl
  intro x hx
  have hF : Fits 524288 ∧ Fits 1 ∧ Fits 5 := by unfold Fits; omega
  unfold fuC at hx
  simp only [List.mem_cons, List.not_mem_nil, or_false] at hx
  rcases hx with rfl | rfl | rfl | rfl | rfl | rfl | rfl | rfl | rfl
  · exact ⟨rfl, fits_numF rfl hF.1⟩
  · exact ⟨rfl, fits_numF rfl hF.2.1⟩
  · exact ⟨rfl, fits_numF rfl hF.2.2⟩
  · exact ⟨rfl, rfl⟩
  · exact ⟨rfl, rfl⟩
  · exact ⟨rfl, rfl⟩
  · exact ⟨rfl, rfl⟩
  · rcases (show k = 0 ∨ k = 1 ∨ k = 2 ∨ k = 3 by omega) with rfl | rfl | rfl | rfl <;> exact ⟨rfl, rfl⟩
  · exact ⟨rfl, rfl⟩
end Go.Proofs.YteplldbhfjfbpaaGreatDoor
