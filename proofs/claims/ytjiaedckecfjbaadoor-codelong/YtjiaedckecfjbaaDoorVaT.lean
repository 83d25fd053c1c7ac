import Derived.Test.YtjiaedckecfjbaaDoorVaS
set_option linter.unusedVariables false
set_option linter.unusedSimpArgs false
namespace Go.Proofs.YtjiaedckecfjbaaDoor
open Go.ChangeShapes Go.WideShapes Go.ChangeAt Go.RowKit Go.Maps

set_option maxRecDepth 100000 in
theorem regsFit_no (w : World) (op a b c n : Int) (hk : rcnt op = -1) : Calls Tryd.prog 50 #[.agg #[.int .i64 op, .int .i64 a, .int .i64 b, .int .i64 c, .int .i64 n]] w fun e w' => e = .returned (.bool false) ∧ Below w.heap.size w w' := by
  have HK : Hid (∀ W, Calls Tryd.prog 22 #[.int .i64 op] W fun e w' => e = .returned (.int .i64 (-1)) ∧ w' = W) := fun W => regsOf_any W op hk
  clear hk
  go_enter Tryd.func50, Tryd.ntmps50
  go_wp2_with (go_at_call 22; refine Calls.mono (HK.out _) ?_; rintro e w1 ⟨rfl, rfl⟩)
  go_ret
  exact ⟨rfl, below_newR _ _⟩
theorem rcnt_cases (op : Int) : rcnt op = -1 ∨ rcnt op = 0 ∨ rcnt op = 1 ∨ rcnt op = 2 ∨ rcnt op = 3 := by
  unfold rcnt
  repeat' split
  all_goals omega
theorem regsFit_any (w : World) (op a b c n : Int) {T : Bool} (hT : regsF ⟨op, a, b, c, n⟩ = T) : Calls Tryd.prog 50 #[.agg #[.int .i64 op, .int .i64 a, .int .i64 b, .int .i64 c, .int .i64 n]] w fun e w' => e = .returned (.bool T) ∧ Below w.heap.size w w' := by
  subst hT
  unfold regsF okR
  simp only
  rcases rcnt_cases op with h | h | h | h | h
  · rw [h]
    exact regsFit_no w op a b c n h
  · rw [h]
    have e : (decide ((0 : Int) ≤ 0) && ((if (0 : Int) < 0 then decide (0 ≤ a ∧ a ≤ 15) else decide (a = 0)) && ((if (1 : Int) < 0 then decide (0 ≤ b ∧ b ≤ 15) else decide (b = 0)) && (if (2 : Int) < 0 then decide (0 ≤ c ∧ c ≤ 15) else decide (c = 0))))) = (decide (a = 0) && (decide (b = 0) && decide (c = 0))) := by simp
    rw [e]
    clear e
    have na : (a != 0) = !decide (a = 0) := by rw [Bool.eq_iff_iff]; simp
    have nb : (b != 0) = !decide (b = 0) := by rw [Bool.eq_iff_iff]; simp
    have nc : (c != 0) = !decide (c = 0) := by rw [Bool.eq_iff_iff]; simp
    cases qa : decide (a = 0) with
    | false =>
      exact regsFit_00 w op a b c n h (by rw [na, qa]; rfl)
    | true =>
      cases qb : decide (b = 0) with
      | false =>
        exact regsFit_01 w op a b c n h (by rw [na, qa]; rfl) (by rw [nb, qb]; rfl)
      | true =>
        cases qc : decide (c = 0) with
        | false =>
          exact regsFit_02 w op a b c n h (by rw [na, qa]; rfl) (by rw [nb, qb]; rfl) (by rw [nc, qc]; rfl)
        | true =>
          exact regsFit_03 w op a b c n h (by rw [na, qa]; rfl) (by rw [nb, qb]; rfl) (by rw [nc, qc]; rfl)
  · rw [h]
    have e : (decide ((0 : Int) ≤ 1) && ((if (0 : Int) < 1 then decide (0 ≤ a ∧ a ≤ 15) else decide (a = 0)) && ((if (1 : Int) < 1 then decide (0 ≤ b ∧ b ≤ 15) else decide (b = 0)) && (if (2 : Int) < 1 then decide (0 ≤ c ∧ c ≤ 15) else decide (c = 0))))) = (decide (0 ≤ a ∧ a ≤ 15) && (decide (b = 0) && decide (c = 0))) := by simp
    rw [e]
    clear e
    have nb : (b != 0) = !decide (b = 0) := by rw [Bool.eq_iff_iff]; simp
    have nc : (c != 0) = !decide (c = 0) := by rw [Bool.eq_iff_iff]; simp
    cases qa : decide (0 ≤ a ∧ a ≤ 15) with
    | false =>
      exact regsFit_10 w op a b c n h qa
    | true =>
      cases qb : decide (b = 0) with
      | false =>
        exact regsFit_11 w op a b c n h qa (by rw [nb, qb]; rfl)
      | true =>
        cases qc : decide (c = 0) with
        | false =>
          exact regsFit_12 w op a b c n h qa (by rw [nb, qb]; rfl) (by rw [nc, qc]; rfl)
        | true =>
          exact regsFit_13 w op a b c n h qa (by rw [nb, qb]; rfl) (by rw [nc, qc]; rfl)
  · rw [h]
    have e : (decide ((0 : Int) ≤ 2) && ((if (0 : Int) < 2 then decide (0 ≤ a ∧ a ≤ 15) else decide (a = 0)) && ((if (1 : Int) < 2 then decide (0 ≤ b ∧ b ≤ 15) else decide (b = 0)) && (if (2 : Int) < 2 then decide (0 ≤ c ∧ c ≤ 15) else decide (c = 0))))) = (decide (0 ≤ a ∧ a ≤ 15) && (decide (0 ≤ b ∧ b ≤ 15) && decide (c = 0))) := by simp
    rw [e]
    clear e
    have nc : (c != 0) = !decide (c = 0) := by rw [Bool.eq_iff_iff]; simp
    cases qa : decide (0 ≤ a ∧ a ≤ 15) with
    | false =>
      exact regsFit_20 w op a b c n h qa
    | true =>
      cases qb : decide (0 ≤ b ∧ b ≤ 15) with
      | false =>
        exact regsFit_21 w op a b c n h qa qb
      | true =>
        cases qc : decide (c = 0) with
        | false =>
          exact regsFit_22 w op a b c n h qa qb (by rw [nc, qc]; rfl)
        | true =>
          exact regsFit_23 w op a b c n h qa qb (by rw [nc, qc]; rfl)
  · rw [h]
    have e : (decide ((0 : Int) ≤ 3) && ((if (0 : Int) < 3 then decide (0 ≤ a ∧ a ≤ 15) else decide (a = 0)) && ((if (1 : Int) < 3 then decide (0 ≤ b ∧ b ≤ 15) else decide (b = 0)) && (if (2 : Int) < 3 then decide (0 ≤ c ∧ c ≤ 15) else decide (c = 0))))) = (decide (0 ≤ a ∧ a ≤ 15) && (decide (0 ≤ b ∧ b ≤ 15) && decide (0 ≤ c ∧ c ≤ 15))) := by simp
    rw [e]
    clear e
    cases qa : decide (0 ≤ a ∧ a ≤ 15) with
    | false =>
      exact regsFit_30 w op a b c n h qa
    | true =>
      cases qb : decide (0 ≤ b ∧ b ≤ 15) with
      | false =>
        exact regsFit_31 w op a b c n h qa qb
      | true =>
        cases qc : decide (0 ≤ c ∧ c ≤ 15) with
        | false =>
          exact regsFit_32 w op a b c n h qa qb qc
        | true =>
          exact regsFit_33 w op a b c n h qa qb qc
/-- The least and the most that N may be. -/
def loN (op : Int) (fi : Int) : Int := if op = 1 then -9223372036854775808 else if op = 21 ∨ op = 22 ∨ op = 23 then fi else if op = 24 ∨ op = 25 then 2 else if op = 26 then 0 else if op = 32 ∨ op = 33 ∨ op = 34 then 1 else if op = 35 then 1 else 0
def hiN (op : Int) (fr fi ct k : Int) : Int := if op = 1 then 9223372036854775807 else if op = 21 ∨ op = 22 ∨ op = 23 then fi + ct - 1 else if op = 24 ∨ op = 25 then fr - 1 else if op = 26 then k - 1 else if op = 32 ∨ op = 33 ∨ op = 34 then 5 else if op = 35 then 6 else 0
theorem numF_eq (n : Nat) (f : Rf) (x : Ri) : numF n f x = decide (loN x.op f.fi ≤ x.n ∧ x.n ≤ hiN x.op f.fr f.fi f.ct (n : Int)) := by
  unfold numF loN hiN
  by_cases h1 : x.op = 1
  · simp [h1]
  by_cases h2 : x.op = 21 ∨ x.op = 22 ∨ x.op = 23
  · simp [h1, h2]
  by_cases h3 : x.op = 24 ∨ x.op = 25
  · simp [h1, h2, h3]
  by_cases h4 : x.op = 26
  · simp [h4]
  by_cases h5 : x.op = 32 ∨ x.op = 33 ∨ x.op = 34
  · simp [h1, h2, h3, h4, h5]
  by_cases h6 : x.op = 35
  · simp [h6]
  simp only [h1, h2, h3, h4, h5, h6, if_false]
  rw [Bool.eq_iff_iff]
  simp
  omega
set_option maxRecDepth 100000 in
theorem numbers_1 (w : World) (op : Int) (s : ByteArray) (fr fi ct pa k : Int) (h1 : 2 ≤ fr ∧ fr ≤ 1099511627776) (h2 : 0 ≤ fi ∧ 0 ≤ ct ∧ fi + ct ≤ 100000000000000000) (h3 : 0 ≤ k ∧ k ≤ 100000000000000000) :
    Calls Tryd.prog 49 #[.int .i64 1, .agg #[.string s, .int .i64 fr, .int .i64 fi, .int .i64 ct, .int .i64 pa], .int .i64 k] w fun e w' => e = .returned (.tuple #[.int .i64 (-9223372036854775808), .int .i64 9223372036854775807]) ∧ Below w.heap.size w w' := by
  clear h1 h2 h3
  go_enter Tryd.func49, Tryd.ntmps49
  go_wp2_with fail
  go_ret2
  exact ⟨rfl, (by repeat (first | refine Below.alloc ?_ (by first | omega | (simp; done) | (simp; omega)) _ | refine Below.drew ?_ | refine below_drewN ?_ _ | exact Below.refl _ _))⟩
set_option maxRecDepth 100000 in
theorem numbers_21 (w : World) (op : Int) (s : ByteArray) (fr fi ct pa k : Int) (h1 : 2 ≤ fr ∧ fr ≤ 1099511627776) (h2 : 0 ≤ fi ∧ 0 ≤ ct ∧ fi + ct ≤ 100000000000000000) (h3 : 0 ≤ k ∧ k ≤ 100000000000000000) :
    Calls Tryd.prog 49 #[.int .i64 21, .agg #[.string s, .int .i64 fr, .int .i64 fi, .int .i64 ct, .int .i64 pa], .int .i64 k] w fun e w' => e = .returned (.tuple #[.int .i64 fi, .int .i64 (fi + ct - 1)]) ∧ Below w.heap.size w w' := by
  have w1 : IntKind.i64.wrap (fi + ct) = fi + ct := by rw [IntKind.wrap_i64]; omega
  have w2 : IntKind.i64.wrap (fi + ct - 1) = fi + ct - 1 := by rw [IntKind.wrap_i64]; omega
  clear h1 h2 h3
  go_enter Tryd.func49, Tryd.ntmps49
  go_wp2_with fail
  go_quiet (fail)
  go_wp2_with fail
  go_ret2
  exact ⟨rfl, (by repeat (first | refine Below.alloc ?_ (by first | omega | (simp; done) | (simp; omega)) _ | refine Below.drew ?_ | refine below_drewN ?_ _ | exact Below.refl _ _))⟩
set_option maxRecDepth 100000 in
theorem numbers_22 (w : World) (op : Int) (s : ByteArray) (fr fi ct pa k : Int) (h1 : 2 ≤ fr ∧ fr ≤ 1099511627776) (h2 : 0 ≤ fi ∧ 0 ≤ ct ∧ fi + ct ≤ 100000000000000000) (h3 : 0 ≤ k ∧ k ≤ 100000000000000000) :
    Calls Tryd.prog 49 #[.int .i64 22, .agg #[.string s, .int .i64 fr, .int .i64 fi, .int .i64 ct, .int .i64 pa], .int .i64 k] w fun e w' => e = .returned (.tuple #[.int .i64 fi, .int .i64 (fi + ct - 1)]) ∧ Below w.heap.size w w' := by
  have w1 : IntKind.i64.wrap (fi + ct) = fi + ct := by rw [IntKind.wrap_i64]; omega
  have w2 : IntKind.i64.wrap (fi + ct - 1) = fi + ct - 1 := by rw [IntKind.wrap_i64]; omega
  clear h1 h2 h3
  go_enter Tryd.func49, Tryd.ntmps49
  go_wp2_with fail
  go_quiet (fail)
  go_wp2_with fail
  go_ret2
  exact ⟨rfl, (by repeat (first | refine Below.alloc ?_ (by first | omega | (simp; done) | (simp; omega)) _ | refine Below.drew ?_ | refine below_drewN ?_ _ | exact Below.refl _ _))⟩
set_option maxRecDepth 100000 in
theorem numbers_23 (w : World) (op : Int) (s : ByteArray) (fr fi ct pa k : Int) (h1 : 2 ≤ fr ∧ fr ≤ 1099511627776) (h2 : 0 ≤ fi ∧ 0 ≤ ct ∧ fi + ct ≤ 100000000000000000) (h3 : 0 ≤ k ∧ k ≤ 100000000000000000) :
    Calls Tryd.prog 49 #[.int .i64 23, .agg #[.string s, .int .i64 fr, .int .i64 fi, .int .i64 ct, .int .i64 pa], .int .i64 k] w fun e w' => e = .returned (.tuple #[.int .i64 fi, .int .i64 (fi + ct - 1)]) ∧ Below w.heap.size w w' := by
  have w1 : IntKind.i64.wrap (fi + ct) = fi + ct := by rw [IntKind.wrap_i64]; omega
  have w2 : IntKind.i64.wrap (fi + ct - 1) = fi + ct - 1 := by rw [IntKind.wrap_i64]; omega
  clear h1 h2 h3
  go_enter Tryd.func49, Tryd.ntmps49
  go_wp2_with fail
  go_quiet (fail)
  go_wp2_with fail
  go_ret2
  exact ⟨rfl, (by repeat (first | refine Below.alloc ?_ (by first | omega | (simp; done) | (simp; omega)) _ | refine Below.drew ?_ | refine below_drewN ?_ _ | exact Below.refl _ _))⟩
set_option maxRecDepth 100000 in
theorem numbers_24 (w : World) (op : Int) (s : ByteArray) (fr fi ct pa k : Int) (h1 : 2 ≤ fr ∧ fr ≤ 1099511627776) (h2 : 0 ≤ fi ∧ 0 ≤ ct ∧ fi + ct ≤ 100000000000000000) (h3 : 0 ≤ k ∧ k ≤ 100000000000000000) :
    Calls Tryd.prog 49 #[.int .i64 24, .agg #[.string s, .int .i64 fr, .int .i64 fi, .int .i64 ct, .int .i64 pa], .int .i64 k] w fun e w' => e = .returned (.tuple #[.int .i64 2, .int .i64 (fr - 1)]) ∧ Below w.heap.size w w' := by
  have w1 : IntKind.i64.wrap (fr - 1) = fr - 1 := by rw [IntKind.wrap_i64]; omega
  clear h1 h2 h3
  go_enter Tryd.func49, Tryd.ntmps49
  go_wp2_with fail
  go_quiet (fail)
  go_wp2_with fail
  go_ret2
  exact ⟨rfl, (by repeat (first | refine Below.alloc ?_ (by first | omega | (simp; done) | (simp; omega)) _ | refine Below.drew ?_ | refine below_drewN ?_ _ | exact Below.refl _ _))⟩
set_option maxRecDepth 100000 in
theorem numbers_25 (w : World) (op : Int) (s : ByteArray) (fr fi ct pa k : Int) (h1 : 2 ≤ fr ∧ fr ≤ 1099511627776) (h2 : 0 ≤ fi ∧ 0 ≤ ct ∧ fi + ct ≤ 100000000000000000) (h3 : 0 ≤ k ∧ k ≤ 100000000000000000) :
    Calls Tryd.prog 49 #[.int .i64 25, .agg #[.string s, .int .i64 fr, .int .i64 fi, .int .i64 ct, .int .i64 pa], .int .i64 k] w fun e w' => e = .returned (.tuple #[.int .i64 2, .int .i64 (fr - 1)]) ∧ Below w.heap.size w w' := by
  have w1 : IntKind.i64.wrap (fr - 1) = fr - 1 := by rw [IntKind.wrap_i64]; omega
  clear h1 h2 h3
  go_enter Tryd.func49, Tryd.ntmps49
  go_wp2_with fail
  go_quiet (fail)
  go_wp2_with fail
  go_ret2
  exact ⟨rfl, (by repeat (first | refine Below.alloc ?_ (by first | omega | (simp; done) | (simp; omega)) _ | refine Below.drew ?_ | refine below_drewN ?_ _ | exact Below.refl _ _))⟩
set_option maxRecDepth 100000 in
theorem numbers_26 (w : World) (op : Int) (s : ByteArray) (fr fi ct pa k : Int) (h1 : 2 ≤ fr ∧ fr ≤ 1099511627776) (h2 : 0 ≤ fi ∧ 0 ≤ ct ∧ fi + ct ≤ 100000000000000000) (h3 : 0 ≤ k ∧ k ≤ 100000000000000000) :
    Calls Tryd.prog 49 #[.int .i64 26, .agg #[.string s, .int .i64 fr, .int .i64 fi, .int .i64 ct, .int .i64 pa], .int .i64 k] w fun e w' => e = .returned (.tuple #[.int .i64 0, .int .i64 (k - 1)]) ∧ Below w.heap.size w w' := by
  have w1 : IntKind.i64.wrap (k - 1) = k - 1 := by rw [IntKind.wrap_i64]; omega
  clear h1 h2 h3
  go_enter Tryd.func49, Tryd.ntmps49
  go_wp2_with fail
  go_ret2
  exact ⟨rfl, (by repeat (first | refine Below.alloc ?_ (by first | omega | (simp; done) | (simp; omega)) _ | refine Below.drew ?_ | refine below_drewN ?_ _ | exact Below.refl _ _))⟩
set_option maxRecDepth 100000 in
theorem numbers_32 (w : World) (op : Int) (s : ByteArray) (fr fi ct pa k : Int) (h1 : 2 ≤ fr ∧ fr ≤ 1099511627776) (h2 : 0 ≤ fi ∧ 0 ≤ ct ∧ fi + ct ≤ 100000000000000000) (h3 : 0 ≤ k ∧ k ≤ 100000000000000000) :
    Calls Tryd.prog 49 #[.int .i64 32, .agg #[.string s, .int .i64 fr, .int .i64 fi, .int .i64 ct, .int .i64 pa], .int .i64 k] w fun e w' => e = .returned (.tuple #[.int .i64 1, .int .i64 5]) ∧ Below w.heap.size w w' := by
  clear h1 h2 h3
  go_enter Tryd.func49, Tryd.ntmps49
  go_wp2_with fail
  go_ret2
  exact ⟨rfl, (by repeat (first | refine Below.alloc ?_ (by first | omega | (simp; done) | (simp; omega)) _ | refine Below.drew ?_ | refine below_drewN ?_ _ | exact Below.refl _ _))⟩
set_option maxRecDepth 100000 in
theorem numbers_33 (w : World) (op : Int) (s : ByteArray) (fr fi ct pa k : Int) (h1 : 2 ≤ fr ∧ fr ≤ 1099511627776) (h2 : 0 ≤ fi ∧ 0 ≤ ct ∧ fi + ct ≤ 100000000000000000) (h3 : 0 ≤ k ∧ k ≤ 100000000000000000) :
    Calls Tryd.prog 49 #[.int .i64 33, .agg #[.string s, .int .i64 fr, .int .i64 fi, .int .i64 ct, .int .i64 pa], .int .i64 k] w fun e w' => e = .returned (.tuple #[.int .i64 1, .int .i64 5]) ∧ Below w.heap.size w w' := by
  clear h1 h2 h3
  go_enter Tryd.func49, Tryd.ntmps49
  go_wp2_with fail
  go_ret2
  exact ⟨rfl, (by repeat (first | refine Below.alloc ?_ (by first | omega | (simp; done) | (simp; omega)) _ | refine Below.drew ?_ | refine below_drewN ?_ _ | exact Below.refl _ _))⟩
set_option maxRecDepth 100000 in
theorem numbers_34 (w : World) (op : Int) (s : ByteArray) (fr fi ct pa k : Int) (h1 : 2 ≤ fr ∧ fr ≤ 1099511627776) (h2 : 0 ≤ fi ∧ 0 ≤ ct ∧ fi + ct ≤ 100000000000000000) (h3 : 0 ≤ k ∧ k ≤ 100000000000000000) :
    Calls Tryd.prog 49 #[.int .i64 34, .agg #[.string s, .int .i64 fr, .int .i64 fi, .int .i64 ct, .int .i64 pa], .int .i64 k] w fun e w' => e = .returned (.tuple #[.int .i64 1, .int .i64 5]) ∧ Below w.heap.size w w' := by
  clear h1 h2 h3
  go_enter Tryd.func49, Tryd.ntmps49
  go_wp2_with fail
  go_ret2
  exact ⟨rfl, (by repeat (first | refine Below.alloc ?_ (by first | omega | (simp; done) | (simp; omega)) _ | refine Below.drew ?_ | refine below_drewN ?_ _ | exact Below.refl _ _))⟩
set_option maxRecDepth 100000 in
theorem numbers_35 (w : World) (op : Int) (s : ByteArray) (fr fi ct pa k : Int) (h1 : 2 ≤ fr ∧ fr ≤ 1099511627776) (h2 : 0 ≤ fi ∧ 0 ≤ ct ∧ fi + ct ≤ 100000000000000000) (h3 : 0 ≤ k ∧ k ≤ 100000000000000000) :
    Calls Tryd.prog 49 #[.int .i64 35, .agg #[.string s, .int .i64 fr, .int .i64 fi, .int .i64 ct, .int .i64 pa], .int .i64 k] w fun e w' => e = .returned (.tuple #[.int .i64 1, .int .i64 6]) ∧ Below w.heap.size w w' := by
  clear h1 h2 h3
  go_enter Tryd.func49, Tryd.ntmps49
  go_wp2_with fail
  go_ret2
  exact ⟨rfl, (by repeat (first | refine Below.alloc ?_ (by first | omega | (simp; done) | (simp; omega)) _ | refine Below.drew ?_ | refine below_drewN ?_ _ | exact Below.refl _ _))⟩
set_option maxRecDepth 100000 in
theorem numbers_no (w : World) (op : Int) (s : ByteArray) (fr fi ct pa k : Int) (hn : op ≠ 1 ∧ op ≠ 21 ∧ op ≠ 22 ∧ op ≠ 23 ∧ op ≠ 24 ∧ op ≠ 25 ∧ op ≠ 26 ∧ op ≠ 32 ∧ op ≠ 33 ∧ op ≠ 34 ∧ op ≠ 35) (h1 : 2 ≤ fr ∧ fr ≤ 1099511627776) (h2 : 0 ≤ fi ∧ 0 ≤ ct ∧ fi + ct ≤ 100000000000000000) (h3 : 0 ≤ k ∧ k ≤ 100000000000000000) :
    Calls Tryd.prog 49 #[.int .i64 op, .agg #[.string s, .int .i64 fr, .int .i64 fi, .int .i64 ct, .int .i64 pa], .int .i64 k] w fun e w' => e = .returned (.tuple #[.int .i64 0, .int .i64 0]) ∧ Below w.heap.size w w' := by
  have t1 : (op == 1) = false := beq_eq_false_iff_ne.2 (by omega)
  have t21 : (op == 21) = false := beq_eq_false_iff_ne.2 (by omega)
  have t22 : (op == 22) = false := beq_eq_false_iff_ne.2 (by omega)
  have t23 : (op == 23) = false := beq_eq_false_iff_ne.2 (by omega)
  have t24 : (op == 24) = false := beq_eq_false_iff_ne.2 (by omega)
  have t25 : (op == 25) = false := beq_eq_false_iff_ne.2 (by omega)
  have t26 : (op == 26) = false := beq_eq_false_iff_ne.2 (by omega)
  have t32 : (op == 32) = false := beq_eq_false_iff_ne.2 (by omega)
  have t33 : (op == 33) = false := beq_eq_false_iff_ne.2 (by omega)
  have t34 : (op == 34) = false := beq_eq_false_iff_ne.2 (by omega)
  have t35 : (op == 35) = false := beq_eq_false_iff_ne.2 (by omega)
  clear hn
  clear h1 h2 h3
  go_enter Tryd.func49, Tryd.ntmps49
  go_wp2_with fail
  go_ret2
  exact ⟨rfl, (by repeat (first | refine Below.alloc ?_ (by first | omega | (simp; done) | (simp; omega)) _ | refine Below.drew ?_ | refine below_drewN ?_ _ | exact Below.refl _ _))⟩
theorem numbers_any (w : World) (op : Int) (s : ByteArray) (fr fi ct pa k : Int) (h1 : 2 ≤ fr ∧ fr ≤ 1099511627776) (h2 : 0 ≤ fi ∧ 0 ≤ ct ∧ fi + ct ≤ 100000000000000000) (h3 : 0 ≤ k ∧ k ≤ 100000000000000000) :
    Calls Tryd.prog 49 #[.int .i64 op, .agg #[.string s, .int .i64 fr, .int .i64 fi, .int .i64 ct, .int .i64 pa], .int .i64 k] w fun e w' => e = .returned (.tuple #[.int .i64 (loN op fi), .int .i64 (hiN op fr fi ct k)]) ∧ Below w.heap.size w w' := by
  by_cases h : op = 1 ∨ op = 21 ∨ op = 22 ∨ op = 23 ∨ op = 24 ∨ op = 25 ∨ op = 26 ∨ op = 32 ∨ op = 33 ∨ op = 34 ∨ op = 35
  · rcases h with rfl | rfl | rfl | rfl | rfl | rfl | rfl | rfl | rfl | rfl | rfl
    · exact numbers_1 w 1 s fr fi ct pa k h1 h2 h3
    · exact numbers_21 w 21 s fr fi ct pa k h1 h2 h3
    · exact numbers_22 w 22 s fr fi ct pa k h1 h2 h3
    · exact numbers_23 w 23 s fr fi ct pa k h1 h2 h3
    · exact numbers_24 w 24 s fr fi ct pa k h1 h2 h3
    · exact numbers_25 w 25 s fr fi ct pa k h1 h2 h3
    · exact numbers_26 w 26 s fr fi ct pa k h1 h2 h3
    · exact numbers_32 w 32 s fr fi ct pa k h1 h2 h3
    · exact numbers_33 w 33 s fr fi ct pa k h1 h2 h3
    · exact numbers_34 w 34 s fr fi ct pa k h1 h2 h3
    · exact numbers_35 w 35 s fr fi ct pa k h1 h2 h3
  · have e1 : loN op fi = 0 := by
      unfold loN
      rw [if_neg (by omega), if_neg (by omega), if_neg (by omega), if_neg (by omega), if_neg (by omega), if_neg (by omega)]
    have e2 : hiN op fr fi ct k = 0 := by
      unfold hiN
      rw [if_neg (by omega), if_neg (by omega), if_neg (by omega), if_neg (by omega), if_neg (by omega), if_neg (by omega)]
    rw [e1, e2]
    exact numbers_no w op s fr fi ct pa k (by omega) h1 h2 h3
end Go.Proofs.YtjiaedckecfjbaaDoor
