import Derived.Test.YtfofmmkihhnfmaaGreatDoorJaa
import Derived.Test.YtfofmmkihhnfmaaGreatDoorJag
set_option linter.unusedVariables false
set_option linter.unusedSimpArgs false
namespace Go.Proofs.YtfofmmkihhnfmaaGreatDoor
open Go.ChangeShapes Go.WideShapes Go.ChangeAt Go.RowKit Go.Maps
set_option maxRecDepth 100000 in
theorem regsFit_no (w : World) (op a b c n : Int) (hk : rcnt op = -1) : Calls Tryz.prog 115 #[.agg #[.int .i64 op, .int .i64 a, .int .i64 b, .int .i64 c, .int .i64 n]] w fun e w' => e = .returned (.bool false) /\ Below w.heap.size w w' := by
 have HK : Hid (∀ W, Calls Tryz.prog 127 #[.int .i64 op] W fun e w' => e = .returned (.int .i64 (-1)) /\ w' = W) := fun W => regsOf_any W op hk
 clear hk
 go_enter Tryz.func115, Tryz.ntmps115
 go_wp2_with (go_at_call 127; refine Calls.mono (HK.out _) ?_; rintro e w1 ⟨rfl, rfl⟩)
 go_ret
 exact ⟨rfl, below_newR _ _⟩
theorem rcnt_cases (op : Int) : rcnt op = -1 \/ rcnt op = 0 \/ rcnt op = 1 \/ rcnt op = 2 \/ rcnt op = 3 := by
 unfold rcnt
 repeat' split
 all_goals omega
theorem regsFit_any (w : World) (op a b c n : Int) {T : Bool} (hT : regsF ⟨op, a, b, c, n⟩ = T) : Calls Tryz.prog 115 #[.agg #[.int .i64 op, .int .i64 a, .int .i64 b, .int .i64 c, .int .i64 n]] w fun e w' => e = .returned (.bool T) /\ Below w.heap.size w w' := by
 subst hT
 unfold regsF okR
 simp only
 rcases rcnt_cases op with h | h | h | h | h
 ·rw [h]
  exact regsFit_no w op a b c n h
 ·rw [h]
  have e : (decide ((0 : Int) <= 0) && ((if (0 : Int) < 0 then decide (0 <= a /\ a <= 15) else decide (a = 0)) && ((if (1 : Int) < 0 then decide (0 <= b /\ b <= 15) else decide (b = 0)) && (if (2 : Int) < 0 then decide (0 <= c /\ c <= 15) else decide (c = 0))))) = (decide (a = 0) && (decide (b = 0) && decide (c = 0))) := by simp
  rw [e]
  clear e
  have na : (a != 0) = !decide (a = 0) := by rw [Bool.eq_iff_iff]; simp
  have nb : (b != 0) = !decide (b = 0) := by rw [Bool.eq_iff_iff]; simp
  have nc : (c != 0) = !decide (c = 0) := by rw [Bool.eq_iff_iff]; simp
  cases qa : decide (a = 0) with
  | false =>
    exact regsFit_00 w op a b c n h (by rw [na, qa]; rfl)
  | true =>
    cases qb : decide (b = 0) with
    | false =>
      exact regsFit_01 w op a b c n h (by rw [na, qa]; rfl) (by rw [nb, qb]; rfl)
    | true =>
      cases qc : decide (c = 0) with
      | false =>
        exact regsFit_02 w op a b c n h (by rw [na, qa]; rfl) (by rw [nb, qb]; rfl) (by rw [nc, qc]; rfl)
      | true =>
        exact regsFit_03 w op a b c n h (by rw [na, qa]; rfl) (by rw [nb, qb]; rfl) (by rw [nc, qc]; rfl)
 ·rw [h]
  have e : (decide ((0 : Int) <= 1) && ((if (0 : Int) < 1 then decide (0 <= a /\ a <= 15) else decide (a = 0)) && ((if (1 : Int) < 1 then decide (0 <= b /\ b <= 15) else decide (b = 0)) && (if (2 : Int) < 1 then decide (0 <= c /\ c <= 15) else decide (c = 0))))) = (decide (0 <= a /\ a <= 15) && (decide (b = 0) && decide (c = 0))) := by simp
  rw [e]
  clear e
  have nb : (b != 0) = !decide (b = 0) := by rw [Bool.eq_iff_iff]; simp
  have nc : (c != 0) = !decide (c = 0) := by rw [Bool.eq_iff_iff]; simp
  cases qa : decide (0 <= a /\ a <= 15) with
  | false =>
    exact regsFit_10 w op a b c n h qa
  | true =>
    cases qb : decide (b = 0) with
    | false =>
      exact regsFit_11 w op a b c n h qa (by rw [nb, qb]; rfl)
    | true =>
      cases qc : decide (c = 0) with
      | false =>
        exact regsFit_12 w op a b c n h qa (by rw [nb, qb]; rfl) (by rw [nc, qc]; rfl)
      | true =>
        exact regsFit_13 w op a b c n h qa (by rw [nb, qb]; rfl) (by rw [nc, qc]; rfl)
 ·rw [h]
  have e : (decide ((0 : Int) <= 2) && ((if (0 : Int) < 2 then decide (0 <= a /\ a <= 15) else decide (a = 0)) && ((if (1 : Int) < 2 then decide (0 <= b /\ b <= 15) else decide (b = 0)) && (if (2 : Int) < 2 then decide (0 <= c /\ c <= 15) else decide (c = 0))))) = (decide (0 <= a /\ a <= 15) && (decide (0 <= b /\ b <= 15) && decide (c = 0))) := by simp
  rw [e]
  clear e
  have nc : (c != 0) = !decide (c = 0) := by rw [Bool.eq_iff_iff]; simp
  cases qa : decide (0 <= a /\ a <= 15) with
  | false =>
    exact regsFit_20 w op a b c n h qa
  | true =>
    cases qb : decide (0 <= b /\ b <= 15) with
    | false =>
      exact regsFit_21 w op a b c n h qa qb
    | true =>
      cases qc : decide (c = 0) with
      | false =>
        exact regsFit_22 w op a b c n h qa qb (by rw [nc, qc]; rfl)
      | true =>
        exact regsFit_23 w op a b c n h qa qb (by rw [nc, qc]; rfl)
 ·rw [h]
  have e : (decide ((0 : Int) <= 3) && ((if (0 : Int) < 3 then decide (0 <= a /\ a <= 15) else decide (a = 0)) && ((if (1 : Int) < 3 then decide (0 <= b /\ b <= 15) else decide (b = 0)) && (if (2 : Int) < 3 then decide (0 <= c /\ c <= 15) else decide (c = 0))))) = (decide (0 <= a /\ a <= 15) && (decide (0 <= b /\ b <= 15) && decide (0 <= c /\ c <= 15))) := by simp
  rw [e]
  clear e
  cases qa : decide (0 <= a /\ a <= 15) with
  | false =>
    exact regsFit_30 w op a b c n h qa
  | true =>
    cases qb : decide (0 <= b /\ b <= 15) with
    | false =>
      exact regsFit_31 w op a b c n h qa qb
    | true =>
      cases qc : decide (0 <= c /\ c <= 15) with
      | false =>
        exact regsFit_32 w op a b c n h qa qb qc
      | true =>
        exact regsFit_33 w op a b c n h qa qb qc
def loN (op : Int) (fi : Int) : Int := if op = 1 then -9223372036854775808 else if op = 21 \/ op = 22 \/ op = 23 then fi else if op = 24 \/ op = 25 then 2 else if op = 26 then 0 else if op = 32 \/ op = 33 \/ op = 34 then 1 else if op = 35 then 1 else 0
def hiN (op : Int) (fr fi ct k : Int) : Int := if op = 1 then 9223372036854775807 else if op = 21 \/ op = 22 \/ op = 23 then fi + ct - 1 else if op = 24 \/ op = 25 then fr - 1 else if op = 26 then k - 1 else if op = 32 \/ op = 33 \/ op = 34 then 5 else if op = 35 then 6 else 0
theorem numF_eq (n : Nat) (f : Rf) (x : Ri) : numF n f x = decide (loN x.op f.fi <= x.n /\ x.n <= hiN x.op f.fr f.fi f.ct (n : Int)) := by
 unfold numF loN hiN
 by_cases h1 : x.op = 1
 ·simp [h1]
 by_cases h2 : x.op = 21 \/ x.op = 22 \/ x.op = 23
 ·simp [h1, h2]
 by_cases h3 : x.op = 24 \/ x.op = 25
 ·simp [h1, h2, h3]
 by_cases h4 : x.op = 26
 ·simp [h4]
 by_cases h5 : x.op = 32 \/ x.op = 33 \/ x.op = 34
 ·simp [h1, h2, h3, h4, h5]
 by_cases h6 : x.op = 35
 ·simp [h6]
 simp only [h1, h2, h3, h4, h5, h6, if_false]
 rw [Bool.eq_iff_iff]
 simp
 omega
set_option maxRecDepth 100000 in
theorem numbers_1 (w : World) (op : Int) (s : ByteArray) (fr fi ct pa k : Int) (h1 : 2 <= fr /\ fr <= 1099511627776) (h2 : 0 <= fi /\ 0 <= ct /\ fi + ct <= 100000000000000000) (h3 : 0 <= k /\ k <= 100000000000000000) :
 Calls Tryz.prog 114 #[.int .i64 1, .agg #[.string s, .int .i64 fr, .int .i64 fi, .int .i64 ct, .int .i64 pa], .int .i64 k] w fun e w' => e = .returned (.tuple #[.int .i64 (-9223372036854775808), .int .i64 9223372036854775807]) /\ Below w.heap.size w w' := by
 clear h1 h2 h3
 go_enter Tryz.func114, Tryz.ntmps114
 go_wp2_with fail
 go_ret2
 exact ⟨rfl, (by repeat (first | refine Below.alloc ?_ (by first | omega | (simp; done) | (simp; omega)) _ | refine Below.drew ?_ | refine below_drewN ?_ _ | exact Below.refl _ _))⟩
set_option maxRecDepth 100000 in
theorem numbers_21 (w : World) (op : Int) (s : ByteArray) (fr fi ct pa k : Int) (h1 : 2 <= fr /\ fr <= 1099511627776) (h2 : 0 <= fi /\ 0 <= ct /\ fi + ct <= 100000000000000000) (h3 : 0 <= k /\ k <= 100000000000000000) :
 Calls Tryz.prog 114 #[.int .i64 21, .agg #[.string s, .int .i64 fr, .int .i64 fi, .int .i64 ct, .int .i64 pa], .int .i64 k] w fun e w' => e = .returned (.tuple #[.int .i64 fi, .int .i64 (fi + ct - 1)]) /\ Below w.heap.size w w' := by
 have w1 : IntKind.i64.wrap (fi + ct) = fi + ct := by rw [IntKind.wrap_i64]; omega
 have w2 : IntKind.i64.wrap (fi + ct - 1) = fi + ct - 1 := by rw [IntKind.wrap_i64]; omega
 clear h1 h2 h3
 go_enter Tryz.func114, Tryz.ntmps114
 go_wp2_with fail
 go_quiet (fail)
 go_wp2_with fail
 go_ret2
 exact ⟨rfl, (by repeat (first | refine Below.alloc ?_ (by first | omega | (simp; done) | (simp; omega)) _ | refine Below.drew ?_ | refine below_drewN ?_ _ | exact Below.refl _ _))⟩
set_option maxRecDepth 100000 in
theorem numbers_22 (w : World) (op : Int) (s : ByteArray) (fr fi ct pa k : Int) (h1 : 2 <= fr /\ fr <= 1099511627776) (h2 : 0 <= fi /\ 0 <= ct /\ fi + ct <= 100000000000000000) (h3 : 0 <= k /\ k <= 100000000000000000) :
 Calls Tryz.prog 114 #[.int .i64 22, .agg #[.string s, .int .i64 fr, .int .i64 fi, .int .i64 ct, .int .i64 pa], .int .i64 k] w fun e w' => e = .returned (.tuple #[.int .i64 fi, .int .i64 (fi + ct - 1)]) /\ Below w.heap.size w w' := by
 have w1 : IntKind.i64.wrap (fi + ct) = fi + ct := by rw [IntKind.wrap_i64]; omega
 have w2 : IntKind.i64.wrap (fi + ct - 1) = fi + ct - 1 := by rw [IntKind.wrap_i64]; omega
 clear h1 h2 h3
 go_enter Tryz.func114, Tryz.ntmps114
 go_wp2_with fail
 go_quiet (fail)
 go_wp2_with fail
 go_ret2
 exact ⟨rfl, (by repeat (first | refine Below.alloc ?_ (by first | omega | (simp; done) | (simp; omega)) _ | refine Below.drew ?_ | refine below_drewN ?_ _ | exact Below.refl _ _))⟩
set_option maxRecDepth 100000 in
theorem numbers_23 (w : World) (op : Int) (s : ByteArray) (fr fi ct pa k : Int) (h1 : 2 <= fr /\ fr <= 1099511627776) (h2 : 0 <= fi /\ 0 <= ct /\ fi + ct <= 100000000000000000) (h3 : 0 <= k /\ k <= 100000000000000000) :
 Calls Tryz.prog 114 #[.int .i64 23, .agg #[.string s, .int .i64 fr, .int .i64 fi, .int .i64 ct, .int .i64 pa], .int .i64 k] w fun e w' => e = .returned (.tuple #[.int .i64 fi, .int .i64 (fi + ct - 1)]) /\ Below w.heap.size w w' := by
 have w1 : IntKind.i64.wrap (fi + ct) = fi + ct := by rw [IntKind.wrap_i64]; omega
 have w2 : IntKind.i64.wrap (fi + ct - 1) = fi + ct - 1 := by rw [IntKind.wrap_i64]; omega
 clear h1 h2 h3
 go_enter Tryz.func114, Tryz.ntmps114
 go_wp2_with fail
 go_quiet (fail)
 go_wp2_with fail
 go_ret2
 exact ⟨rfl, (by repeat (first | refine Below.alloc ?_ (by first | omega | (simp; done) | (simp; omega)) _ | refine Below.drew ?_ | refine below_drewN ?_ _ | exact Below.refl _ _))⟩
set_option maxRecDepth 100000 in
theorem numbers_24 (w : World) (op : Int) (s : ByteArray) (fr fi ct pa k : Int) (h1 : 2 <= fr /\ fr <= 1099511627776) (h2 : 0 <= fi /\ 0 <= ct /\ fi + ct <= 100000000000000000) (h3 : 0 <= k /\ k <= 100000000000000000) :
 Calls Tryz.prog 114 #[.int .i64 24, .agg #[.string s, .int .i64 fr, .int .i64 fi, .int .i64 ct, .int .i64 pa], .int .i64 k] w fun e w' => e = .returned (.tuple #[.int .i64 2, .int .i64 (fr - 1)]) /\ Below w.heap.size w w' := by
 have w1 : IntKind.i64.wrap (fr - 1) = fr - 1 := by rw [IntKind.wrap_i64]; omega
 clear h1 h2 h3
 go_enter Tryz.func114, Tryz.ntmps114
 go_wp2_with fail
 go_quiet (fail)
 go_wp2_with fail
 go_ret2
 exact ⟨rfl, (by repeat (first | refine Below.alloc ?_ (by first | omega | (simp; done) | (simp; omega)) _ | refine Below.drew ?_ | refine below_drewN ?_ _ | exact Below.refl _ _))⟩
set_option maxRecDepth 100000 in
theorem numbers_25 (w : World) (op : Int) (s : ByteArray) (fr fi ct pa k : Int) (h1 : 2 <= fr /\ fr <= 1099511627776) (h2 : 0 <= fi /\ 0 <= ct /\ fi + ct <= 100000000000000000) (h3 : 0 <= k /\ k <= 100000000000000000) :
 Calls Tryz.prog 114 #[.int .i64 25, .agg #[.string s, .int .i64 fr, .int .i64 fi, .int .i64 ct, .int .i64 pa], .int .i64 k] w fun e w' => e = .returned (.tuple #[.int .i64 2, .int .i64 (fr - 1)]) /\ Below w.heap.size w w' := by
 have w1 : IntKind.i64.wrap (fr - 1) = fr - 1 := by rw [IntKind.wrap_i64]; omega
 clear h1 h2 h3
 go_enter Tryz.func114, Tryz.ntmps114
 go_wp2_with fail
 go_quiet (fail)
 go_wp2_with fail
 go_ret2
 exact ⟨rfl, (by repeat (first | refine Below.alloc ?_ (by first | omega | (simp; done) | (simp; omega)) _ | refine Below.drew ?_ | refine below_drewN ?_ _ | exact Below.refl _ _))⟩
set_option maxRecDepth 100000 in
theorem numbers_26 (w : World) (op : Int) (s : ByteArray) (fr fi ct pa k : Int) (h1 : 2 <= fr /\ fr <= 1099511627776) (h2 : 0 <= fi /\ 0 <= ct /\ fi + ct <= 100000000000000000) (h3 : 0 <= k /\ k <= 100000000000000000) :
 Calls Tryz.prog 114 #[.int .i64 26, .agg #[.string s, .int .i64 fr, .int .i64 fi, .int .i64 ct, .int .i64 pa], .int .i64 k] w fun e w' => e = .returned (.tuple #[.int .i64 0, .int .i64 (k - 1)]) /\ Below w.heap.size w w' := by
 have w1 : IntKind.i64.wrap (k - 1) = k - 1 := by rw [IntKind.wrap_i64]; omega
 clear h1 h2 h3
 go_enter Tryz.func114, Tryz.ntmps114
 go_wp2_with fail
 go_ret2
 exact ⟨rfl, (by repeat (first | refine Below.alloc ?_ (by first | omega | (simp; done) | (simp; omega)) _ | refine Below.drew ?_ | refine below_drewN ?_ _ | exact Below.refl _ _))⟩
set_option maxRecDepth 100000 in
theorem numbers_32 (w : World) (op : Int) (s : ByteArray) (fr fi ct pa k : Int) (h1 : 2 <= fr /\ fr <= 1099511627776) (h2 : 0 <= fi /\ 0 <= ct /\ fi + ct <= 100000000000000000) (h3 : 0 <= k /\ k <= 100000000000000000) :
 Calls Tryz.prog 114 #[.int .i64 32, .agg #[.string s, .int .i64 fr, .int .i64 fi, .int .i64 ct, .int .i64 pa], .int .i64 k] w fun e w' => e = .returned (.tuple #[.int .i64 1, .int .i64 5]) /\ Below w.heap.size w w' := by
 clear h1 h2 h3
 go_enter Tryz.func114, Tryz.ntmps114
 go_wp2_with fail
 go_ret2
 exact ⟨rfl, (by repeat (first | refine Below.alloc ?_ (by first | omega | (simp; done) | (simp; omega)) _ | refine Below.drew ?_ | refine below_drewN ?_ _ | exact Below.refl _ _))⟩
set_option maxRecDepth 100000 in
theorem numbers_33 (w : World) (op : Int) (s : ByteArray) (fr fi ct pa k : Int) (h1 : 2 <= fr /\ fr <= 1099511627776) (h2 : 0 <= fi /\ 0 <= ct /\ fi + ct <= 100000000000000000) (h3 : 0 <= k /\ k <= 100000000000000000) :
 Calls Tryz.prog 114 #[.int .i64 33, .agg #[.string s, .int .i64 fr, .int .i64 fi, .int .i64 ct, .int .i64 pa], .int .i64 k] w fun e w' => e = .returned (.tuple #[.int .i64 1, .int .i64 5]) /\ Below w.heap.size w w' := by
 clear h1 h2 h3
 go_enter Tryz.func114, Tryz.ntmps114
 go_wp2_with fail
 go_ret2
 exact ⟨rfl, (by repeat (first | refine Below.alloc ?_ (by first | omega | (simp; done) | (simp; omega)) _ | refine Below.drew ?_ | refine below_drewN ?_ _ | exact Below.refl _ _))⟩
set_option maxRecDepth 100000 in
theorem numbers_34 (w : World) (op : Int) (s : ByteArray) (fr fi ct pa k : Int) (h1 : 2 <= fr /\ fr <= 1099511627776) (h2 : 0 <= fi /\ 0 <= ct /\ fi + ct <= 100000000000000000) (h3 : 0 <= k /\ k <= 100000000000000000) :
 Calls Tryz.prog 114 #[.int .i64 34, .agg #[.string s, .int .i64 fr, .int .i64 fi, .int .i64 ct, .int .i64 pa], .int .i64 k] w fun e w' => e = .returned (.tuple #[.int .i64 1, .int .i64 5]) /\ Below w.heap.size w w' := by
 clear h1 h2 h3
 go_enter Tryz.func114, Tryz.ntmps114
 go_wp2_with fail
 go_ret2
 exact ⟨rfl, (by repeat (first | refine Below.alloc ?_ (by first | omega | (simp; done) | (simp; omega)) _ | refine Below.drew ?_ | refine below_drewN ?_ _ | exact Below.refl _ _))⟩
set_option maxRecDepth 100000 in
theorem numbers_35 (w : World) (op : Int) (s : ByteArray) (fr fi ct pa k : Int) (h1 : 2 <= fr /\ fr <= 1099511627776) (h2 : 0 <= fi /\ 0 <= ct /\ fi + ct <= 100000000000000000) (h3 : 0 <= k /\ k <= 100000000000000000) :
 Calls Tryz.prog 114 #[.int .i64 35, .agg #[.string s, .int .i64 fr, .int .i64 fi, .int .i64 ct, .int .i64 pa], .int .i64 k] w fun e w' => e = .returned (.tuple #[.int .i64 1, .int .i64 6]) /\ Below w.heap.size w w' := by
 clear h1 h2 h3
 go_enter Tryz.func114, Tryz.ntmps114
 go_wp2_with fail
 go_ret2
 exact ⟨rfl, (by repeat (first | refine Below.alloc ?_ (by first | omega | (simp; done) | (simp; omega)) _ | refine Below.drew ?_ | refine below_drewN ?_ _ | exact Below.refl _ _))⟩
set_option maxRecDepth 100000 in
theorem numbers_no (w : World) (op : Int) (s : ByteArray) (fr fi ct pa k : Int) (hn : op ≠ 1 /\ op ≠ 21 /\ op ≠ 22 /\ op ≠ 23 /\ op ≠ 24 /\ op ≠ 25 /\ op ≠ 26 /\ op ≠ 32 /\ op ≠ 33 /\ op ≠ 34 /\ op ≠ 35) (h1 : 2 <= fr /\ fr <= 1099511627776) (h2 : 0 <= fi /\ 0 <= ct /\ fi + ct <= 100000000000000000) (h3 : 0 <= k /\ k <= 100000000000000000) :
 Calls Tryz.prog 114 #[.int .i64 op, .agg #[.string s, .int .i64 fr, .int .i64 fi, .int .i64 ct, .int .i64 pa], .int .i64 k] w fun e w' => e = .returned (.tuple #[.int .i64 0, .int .i64 0]) /\ Below w.heap.size w w' := by
 have t1 : (op == 1) = false := beq_eq_false_iff_ne.2 (by omega)
 have t21 : (op == 21) = false := beq_eq_false_iff_ne.2 (by omega)
 have t22 : (op == 22) = false := beq_eq_false_iff_ne.2 (by omega)
 have t23 : (op == 23) = false := beq_eq_false_iff_ne.2 (by omega)
 have t24 : (op == 24) = false := beq_eq_false_iff_ne.2 (by omega)
 have t25 : (op == 25) = false := beq_eq_false_iff_ne.2 (by omega)
 have t26 : (op == 26) = false := beq_eq_false_iff_ne.2 (by omega)
 have t32 : (op == 32) = false := beq_eq_false_iff_ne.2 (by omega)
 have t33 : (op == 33) = false := beq_eq_false_iff_ne.2 (by omega)
 have t34 : (op == 34) = false := beq_eq_false_iff_ne.2 (by omega)
 have t35 : (op == 35) = false := beq_eq_false_iff_ne.2 (by omega)
 clear hn
 clear h1 h2 h3
 go_enter Tryz.func114, Tryz.ntmps114
 go_wp2_with fail
 go_ret2
 exact ⟨rfl, (by repeat (first | refine Below.alloc ?_ (by first | omega | (simp; done) | (simp; omega)) _ | refine Below.drew ?_ | refine below_drewN ?_ _ | exact Below.refl _ _))⟩
theorem numbers_any (w : World) (op : Int) (s : ByteArray) (fr fi ct pa k : Int) (h1 : 2 <= fr /\ fr <= 1099511627776) (h2 : 0 <= fi /\ 0 <= ct /\ fi + ct <= 100000000000000000) (h3 : 0 <= k /\ k <= 100000000000000000) :
 Calls Tryz.prog 114 #[.int .i64 op, .agg #[.string s, .int .i64 fr, .int .i64 fi, .int .i64 ct, .int .i64 pa], .int .i64 k] w fun e w' => e = .returned (.tuple #[.int .i64 (loN op fi), .int .i64 (hiN op fr fi ct k)]) /\ Below w.heap.size w w' := by
 by_cases h : op = 1 \/ op = 21 \/ op = 22 \/ op = 23 \/ op = 24 \/ op = 25 \/ op = 26 \/ op = 32 \/ op = 33 \/ op = 34 \/ op = 35
 ·rcases h with rfl | rfl | rfl | rfl | rfl | rfl | rfl | rfl | rfl | rfl | rfl
  ·exact numbers_1 w 1 s fr fi ct pa k h1 h2 h3
  ·exact numbers_21 w 21 s fr fi ct pa k h1 h2 h3
  ·exact numbers_22 w 22 s fr fi ct pa k h1 h2 h3
  ·exact numbers_23 w 23 s fr fi ct pa k h1 h2 h3
  ·exact numbers_24 w 24 s fr fi ct pa k h1 h2 h3
  ·exact numbers_25 w 25 s fr fi ct pa k h1 h2 h3
  ·exact numbers_26 w 26 s fr fi ct pa k h1 h2 h3
  ·exact numbers_32 w 32 s fr fi ct pa k h1 h2 h3
  ·exact numbers_33 w 33 s fr fi ct pa k h1 h2 h3
  ·exact numbers_34 w 34 s fr fi ct pa k h1 h2 h3
  ·exact numbers_35 w 35 s fr fi ct pa k h1 h2 h3
 ·have e1 : loN op fi = 0 := by
   unfold loN
   rw [if_neg (by omega), if_neg (by omega), if_neg (by omega), if_neg (by omega), if_neg (by omega), if_neg (by omega)]
  have e2 : hiN op fr fi ct k = 0 := by
   unfold hiN
   rw [if_neg (by omega), if_neg (by omega), if_neg (by omega), if_neg (by omega), if_neg (by omega), if_neg (by omega)]
  rw [e1, e2]
  exact numbers_no w op s fr fi ct pa k (by omega) h1 h2 h3
end Go.Proofs.YtfofmmkihhnfmaaGreatDoor
namespace Go.Proofs.YtfofmmkihhnfmaaGreatDoor
open Go.ChangeShapes Go.WideShapes Go.ChangeAt Go.RowKit
def ns : Bool -> Nat -> List UInt8 -> Option (Nat × Nat)
 | _, v, [] => some (v, 0)
 | s, v, c :: l => if cl c = 7 then (if (s = true /\ v = 0) \/ (9223372036854775807 - (c.toNat - 48)) / 10 < v then none else (ns true (10 * v + (c.toNat - 48)) l).map fun p => (p.1, p.2 + 1)) else some (v, 0)
theorem valOf_ge (l : List UInt8) : ∀ v : Nat, v <= valOf v l := by
 induction l with
 | nil => intro v; simp [valOf]
 | cons c l ih =>
   intro v
   have := ih (10 * v + (c.toNat - 48))
   simp only [valOf, List.foldl_cons] at this ⊢
   omega
theorem ns_pos (l : List UInt8) : ∀ v : Nat, 0 < v -> v <= 9223372036854775807 -> ns true v l = if 9223372036854775807 < valOf v (l.takeWhile isDg) then none else some (valOf v (l.takeWhile isDg), (l.takeWhile isDg).length) := by
 induction l with
 | nil => intro v h0 h1; show some (v, 0) = if 9223372036854775807 < v then none else some (v, 0); rw [if_neg (by omega)]
 | cons c l ih =>
   intro v h0 h1
   by_cases hc : cl c = 7
   ·have hr : 48 <= c.toNat /\ c.toNat <= 57 := by have := cl_cases c; omega
    have hd : isDg c = true := by simp [isDg, hc]
    have hv : v ≠ 0 := by omega
    simp only [ns, hc, if_true, List.takeWhile_cons, hd, List.length_cons]
    have e : valOf v (c :: List.takeWhile isDg l) = valOf (10 * v + (c.toNat - 48)) (l.takeWhile isDg) := rfl
    rw [e]
    by_cases hq : (9223372036854775807 - (c.toNat - 48)) / 10 < v
    ·have := valOf_ge (l.takeWhile isDg) (10 * v + (c.toNat - 48))
     rw [if_pos (.inr hq), if_pos (by omega)]
    ·rw [if_neg (by omega), ih _ (by omega) (by omega)]
     split <;> simp
   ·have hd : isDg c = false := by simp [isDg, hc]
    simp only [ns, hc, if_false, List.takeWhile_cons, hd, Bool.false_eq_true]
    show some (v, 0) = if 9223372036854775807 < v then none else some (v, 0)
    rw [if_neg (by omega)]
theorem ns_eq (l : List UInt8) : ns false 0 l = (numVal (l.takeWhile isDg)).map fun v => (v, (l.takeWhile isDg).length) := by
 cases l with
 | nil => simp [ns, numVal, valOf]
 | cons c l =>
   by_cases hc : cl c = 7
   ·have hr : 48 <= c.toNat /\ c.toNat <= 57 := by have := cl_cases c; omega
    have hd : isDg c = true := by simp [isDg, hc]
    simp only [ns, hc, if_true, List.takeWhile_cons, hd, List.length_cons]
    rw [if_neg (by simp)]
    have e : valOf 0 (c :: List.takeWhile isDg l) = valOf (c.toNat - 48) (l.takeWhile isDg) := by simp [valOf]
    rw [show 10 * 0 + (c.toNat - 48) = c.toNat - 48 by omega]
    by_cases h0 : c = 48
    ·subst h0
     cases l with
     | nil => simp [ns, numVal, valOf]
     | cons d l =>
       by_cases hd' : cl d = 7
       ·have hd2 : isDg d = true := by simp [isDg, hd']
        simp [ns, numVal, hd', hd2]
       ·have hd2 : isDg d = false := by simp [isDg, hd']
        simp [ns, numVal, hd', hd2, valOf]
    ·have h1 : c.toNat ≠ 48 := fun e => h0 (UInt8.toNat_inj.1 e)
     rw [ns_pos l _ (by omega) (by omega)]
     simp only [numVal, e, List.head?_cons]
     have h2 : ¬ (some c = some (48 : UInt8)) := fun e => h0 (Option.some.inj e)
     simp only [h2, and_false, false_or]
     split <;> simp
   ·have hd : isDg c = false := by simp [isDg, hc]
    simp [ns, hc, hd, numVal, valOf]
def TokRes (r : Except Nat (Tk × Nat)) (k : Nat) (e : Ending) : Prop :=
 match r with
 | .error er => ∃ z : Int, e = .returned (.tuple #[tz, .int .i64 z, .int .i64 (er : Int)])
 | .ok p => e = .returned (.tuple #[tv p.1 k, .int .i64 ((k + p.2 : Nat) : Int), .int .i64 0])
def numS (s : Bool) (v : Nat) (l : List UInt8) (d : Nat) : Except Nat (Tk × Nat) := match ns s v l with | none => .error 22 | some p => .ok (⟨2, p.1, []⟩, d + p.2)
theorem numS_next {L : List UInt8} {j k v : Nat} {x : UInt8} {r : Except Nat (Tk × Nat)} (H : numS (decide (k < j)) v (L.drop j) (j - k) = r) (hk : k <= j) (HD : L.drop j = x :: L.drop (j + 1)) (hc : cl x = 7)
 (h1 : ¬ (k < j /\ v = 0)) (h2 : ¬ (9223372036854775807 - (x.toNat - 48)) / 10 < v) : numS (decide (k < j + 1)) (10 * v + (x.toNat - 48)) (L.drop (j + 1)) (j + 1 - k) = r := by
 rw [<- H, HD]
 have e : decide (k < j + 1) = true := by simp; omega
 rw [e]
 simp only [numS, ns, hc, if_true]
 rw [if_neg (by simp only [decide_eq_true_eq]; intro h; rcases h with h | h; exact h1 h; exact h2 h)]
 cases ns true (10 * v + (x.toNat - 48)) (L.drop (j + 1)) with
 | none => rfl
 | some p => simp; omega
theorem numS_stop {L : List UInt8} {j k v : Nat} {x : UInt8} {r : Except Nat (Tk × Nat)} (H : numS (decide (k < j)) v (L.drop j) (j - k) = r) (HD : L.drop j = x :: L.drop (j + 1)) (hc : cl x ≠ 7) : r = .ok (⟨2, v, []⟩, j - k) := by
 rw [<- H, HD]; simp [numS, ns, hc]
theorem numS_end {L : List UInt8} {j k v : Nat} {r : Except Nat (Tk × Nat)} (H : numS (decide (k < j)) v (L.drop j) (j - k) = r) (hj : L.length <= j) : r = .ok (⟨2, v, []⟩, j - k) := by
 rw [<- H, List.drop_of_length_le hj]; simp [numS, ns]
theorem numS_bad {L : List UInt8} {j k v : Nat} {x : UInt8} {r : Except Nat (Tk × Nat)} (H : numS (decide (k < j)) v (L.drop j) (j - k) = r) (HD : L.drop j = x :: L.drop (j + 1)) (hc : cl x = 7)
 (h : (k < j /\ v = 0) \/ (9223372036854775807 - (x.toNat - 48)) / 10 < v) : r = .error 22 := by
 rw [<- H, HD]; simp only [numS, ns, hc, if_true]; rw [if_pos (by simpa using h)]
theorem ret_three {a b : Value} {c d : Int} {e f : Int} (h1 : a = b) (h2 : c = d) (h3 : e = f) : Ending.returned (.tuple #[a, .int .i64 c, .int .i64 e]) = .returned (.tuple #[b, .int .i64 d, .int .i64 f]) := by rw [h1, h2, h3]
set_option maxHeartbeats 1000000 in
theorem number_any (w : World) (b o cap : Nat) (L : List UInt8) (hA : At w b o L) (hm : L.length <= 9223372036854775807) (k : Nat) (hk : k <= L.length) (r : Except Nat (Tk × Nat)) (hr : numS false 0 (L.drop k) 0 = r) :
 Calls Tryz.prog 172 #[.slice (some ⟨b, o, none⟩) L.length cap, .int .i64 k] w fun e w' => TokRes r k e /\ Below w.heap.size w w' := by
 have HR : Hid (numS (decide (k < k)) 0 (L.drop k) (k - k) = r) := by
  have e0 : decide (k < k) = false := by simp
  rw [e0, Nat.sub_self]; exact hr
 clear hr
 obtain ⟨n, hn⟩ : ∃ n, n = L.length := ⟨_, rfl⟩
 rw [<- hn] at hm hk ⊢
 have HN : Hid (n = L.length) := hn
 clear hn
 have hb := hA.1
 have HA : Hid (At w b o L) := hA
 clear hA
 go_enter Tryz.func172, Tryz.ntmps172
 go_wp2
 go_step3
 go_wp2
 go_step3
 go_wp2
 go_loop [7, 8] (fun z v => ∃ j y : Nat, k <= j /\ j <= n /\ y <= 9223372036854775807 /\ z = .int .i64 y /\ v = .int .i64 j /\ Hid (numS (decide (k < j)) y (L.drop j) (j - k) = r)) (fun _ v => n - (intOf v).toNat)
 case atStart => exact ⟨k, 0, by omega, hk, by omega, rfl, rfl, HR⟩
 case round =>
  obtain ⟨j, y, hkj, hj, hy, rfl, rfl, HJ⟩ := hrel
  by_cases hlt : j < n
  ·obtain ⟨x, hx⟩ : ∃ x, x = L[j]'(HN.out ▸ hlt) := ⟨_, rfl⟩
   have hcell := HA.out.2 j (HN.out ▸ hlt)
   rw [<- hx] at hcell
   have HD : Hid (L.drop j = x :: L.drop (j + 1)) := by rw [hx]; exact List.drop_eq_getElem_cons _
   clear hx
   by_cases hcl : cl x = 7
   ·have hr : 48 <= x.toNat /\ x.toNat <= 57 := by have := cl_cases x; omega
    obtain ⟨hr1, hr2⟩ := hr
    by_cases h1 : k < j /\ y = 0
    ·have HB : Hid ((k < j /\ y = 0) \/ (9223372036854775807 - (x.toNat - 48)) / 10 < y) := .inl h1
     obtain ⟨h1, rfl⟩ := h1
     go_wp2_with (go_at_call 169; refine (cls_any _ _).mono ?_; rintro e w' ⟨rfl, rfl⟩)
     (try rw [Exit.noGoto_ret])
     refine bodyPost_ret (v := .tuple #[tz, .int .i64 0, .int .i64 22]) (by simp [results, Tryz.results172, go_sem, tz]; rfl) rfl ⟨?_, (Below.refl _ _).alloc (Nat.le_refl _) _⟩
     rw [numS_bad HJ.out HD.out hcl (by first | exact HB.out | exact .inl ⟨by omega, rfl⟩)]
     exact ⟨0, rfl⟩
    ·have H1 : Hid (¬ (k < j /\ y = 0)) := h1
     have h5 : ¬ k < j \/ (k < j /\ ¬ y = 0) := by omega
     clear h1
     by_cases h2 : (9223372036854775807 - (x.toNat - 48)) / 10 < y
     ·have HB : Hid ((k < j /\ y = 0) \/ (9223372036854775807 - (x.toNat - 48)) / 10 < y) := .inr h2
      rcases h5 with h3 | ⟨h3, h4⟩
      all_goals
       go_wp2_with (go_at_call 169; refine (cls_any _ _).mono ?_; rintro e w' ⟨rfl, rfl⟩)
       (try rw [Exit.noGoto_ret])
       refine bodyPost_ret (v := .tuple #[tz, .int .i64 0, .int .i64 22]) (by simp [results, Tryz.results172, go_sem, tz]; rfl) rfl ⟨?_, (Below.refl _ _).alloc (Nat.le_refl _) _⟩
       rw [numS_bad HJ.out HD.out hcl (by first | exact HB.out | exact .inl ⟨by omega, rfl⟩)]
       exact ⟨0, rfl⟩
     ·have H3 : Hid (numS (decide (k < j + 1)) (10 * y + (x.toNat - 48)) (L.drop (j + 1)) (j + 1 - k) = r) := numS_next HJ.out hkj HD.out hcl H1.out h2
      rcases h5 with h3 | ⟨h3, h4⟩
      all_goals
       go_wp2_with (go_at_call 169; refine (cls_any _ _).mono ?_; rintro e w' ⟨rfl, rfl⟩)
       go_round
       case rel => exact ⟨j + 1, 10 * y + (x.toNat - 48), by omega, by omega, by omega, by go_num, by go_num, H3⟩
       case measure => simp [intOf]; omega
   ·have hcl2 : cl x = 6 \/ cl x = 4 \/ cl x = 12 \/ cl x = 8 \/ cl x = 0 := by have := cl_cases x; omega
    have HC : Hid (cl x ≠ 7) := hcl
    clear hcl
    rcases hcl2 with hcl | hcl | hcl | hcl | hcl
    all_goals
     go_wp2_with (go_at_call 169; refine (cls_any _ _).mono ?_; rintro e w' ⟨rfl, rfl⟩)
     (try rw [Exit.noGoto_ret])
     refine bodyPost_ret (v := .tuple #[.agg #[.int .i64 2, .int .i64 k, .int .i64 y, .string .empty], .int .i64 j, .int .i64 0]) (by simp [results, Tryz.results172, go_sem]; rfl) rfl ⟨?_, (Below.refl _ _).alloc (Nat.le_refl _) _⟩
     rw [numS_stop HJ.out HD.out HC.out]
     exact ret_three rfl (by omega) rfl
  ·go_wp2
   (try rw [Exit.noGoto_ret])
   refine bodyPost_ret (v := .tuple #[.agg #[.int .i64 2, .int .i64 k, .int .i64 y, .string .empty], .int .i64 j, .int .i64 0]) (by simp [results, Tryz.results172, go_sem]; rfl) rfl ⟨?_, (Below.refl _ _).alloc (Nat.le_refl _) _⟩
   rw [numS_end HJ.out (by have := HN.out; omega)]
   exact ret_three rfl (by omega) rfl
end Go.Proofs.YtfofmmkihhnfmaaGreatDoor
