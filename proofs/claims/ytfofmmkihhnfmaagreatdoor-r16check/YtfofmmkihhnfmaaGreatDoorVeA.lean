import Derived.Test.YtfofmmkihhnfmaaGreatDoorVcK
set_option linter.unusedVariables false
set_option linter.unusedSimpArgs false
namespace Go.Proofs.YtfofmmkihhnfmaaGreatDoor
open Go.ChangeShapes Go.WideShapes Go.ChangeAt Go.RowKit Go.Maps

set_option maxRecDepth 100000 in
theorem rNum_1 (w : World) (ca : Option Addr) (cn cc : Nat) (fa : Option Addr) (fn fc : Nat) (m : Int) (s : ByteArray) (fr fi ct pa n : Int) (h1 : 2 ≤ fr ∧ fr ≤ 1099511627776) (h2 : 0 ≤ fi ∧ 0 ≤ ct ∧ fi + ct ≤ 100000000000000000) {T : Bool} (hT : true = T) : Calls Tryz.prog 78 #[.agg #[.slice ca cn cc, .slice fa fn fc, .int .i64 m], .agg #[.string s, .int .i64 fr, .int .i64 fi, .int .i64 ct, .int .i64 pa], .int .i64 1, .int .i64 n] w fun e w' => e = .returned (.bool T) ∧ Below w.heap.size w w' := by
  subst hT
  clear h1 h2
  go_enter Tryz.func78, Tryz.ntmps78
  go_wp2_with fail
  go_ret
  exact ⟨rfl, (by repeat (first | refine Below.alloc ?_ (by first | omega | (simp; done) | (simp; omega)) _ | refine Below.drew ?_ | refine below_drewN ?_ _ | exact Below.refl _ _))⟩
set_option maxRecDepth 100000 in
theorem rNum_21 (w : World) (ca : Option Addr) (cn cc : Nat) (fa : Option Addr) (fn fc : Nat) (m : Int) (s : ByteArray) (fr fi ct pa n : Int) (h1 : 2 ≤ fr ∧ fr ≤ 1099511627776) (h2 : 0 ≤ fi ∧ 0 ≤ ct ∧ fi + ct ≤ 100000000000000000) {T : Bool} (hT : decide (fi ≤ n ∧ n < fi + ct) = T) : Calls Tryz.prog 78 #[.agg #[.slice ca cn cc, .slice fa fn fc, .int .i64 m], .agg #[.string s, .int .i64 fr, .int .i64 fi, .int .i64 ct, .int .i64 pa], .int .i64 21, .int .i64 n] w fun e w' => e = .returned (.bool T) ∧ Below w.heap.size w w' := by
  have u1 : IntKind.i64.wrap (fi + ct) = fi + ct := by rw [IntKind.wrap_i64]; omega
  have u2 : IntKind.i64.wrap (fr - 1) = fr - 1 := by rw [IntKind.wrap_i64]; omega
  clear h1 h2
  by_cases hA : fi ≤ n
  · have a1 : decide (fi ≤ n) = true := decide_eq_true hA
    have a2 : decide (n ≥ fi) = true := a1
    by_cases hB : n < fi + ct
    · have b1 : decide (n < fi + ct) = true := decide_eq_true hB
      rw [decide_eq_true (show fi ≤ n ∧ n < fi + ct from ⟨hA, hB⟩)] at hT
      subst hT
      clear hA hB
      go_enter Tryz.func78, Tryz.ntmps78
      go_wp2_with fail
      go_ret
      exact ⟨rfl, (by repeat (first | refine Below.alloc ?_ (by first | omega | (simp; done) | (simp; omega)) _ | refine Below.drew ?_ | refine below_drewN ?_ _ | exact Below.refl _ _))⟩
    · have b1 : decide (n < fi + ct) = false := decide_eq_false hB
      rw [decide_eq_false (show ¬ (fi ≤ n ∧ n < fi + ct) from fun q => hB q.2)] at hT
      subst hT
      clear hA hB
      go_enter Tryz.func78, Tryz.ntmps78
      go_wp2_with fail
      go_ret
      exact ⟨rfl, (by repeat (first | refine Below.alloc ?_ (by first | omega | (simp; done) | (simp; omega)) _ | refine Below.drew ?_ | refine below_drewN ?_ _ | exact Below.refl _ _))⟩
  · have a1 : decide (fi ≤ n) = false := decide_eq_false hA
    have a2 : decide (n ≥ fi) = false := a1
    rw [decide_eq_false (show ¬ (fi ≤ n ∧ n < fi + ct) from fun q => hA q.1)] at hT
    subst hT
    clear hA
    go_enter Tryz.func78, Tryz.ntmps78
    go_wp2_with fail
    go_ret
    exact ⟨rfl, (by repeat (first | refine Below.alloc ?_ (by first | omega | (simp; done) | (simp; omega)) _ | refine Below.drew ?_ | refine below_drewN ?_ _ | exact Below.refl _ _))⟩
set_option maxRecDepth 100000 in
theorem rNum_22 (w : World) (ca : Option Addr) (cn cc : Nat) (fa : Option Addr) (fn fc : Nat) (m : Int) (s : ByteArray) (fr fi ct pa n : Int) (h1 : 2 ≤ fr ∧ fr ≤ 1099511627776) (h2 : 0 ≤ fi ∧ 0 ≤ ct ∧ fi + ct ≤ 100000000000000000) {T : Bool} (hT : decide (fi ≤ n ∧ n < fi + ct) = T) : Calls Tryz.prog 78 #[.agg #[.slice ca cn cc, .slice fa fn fc, .int .i64 m], .agg #[.string s, .int .i64 fr, .int .i64 fi, .int .i64 ct, .int .i64 pa], .int .i64 22, .int .i64 n] w fun e w' => e = .returned (.bool T) ∧ Below w.heap.size w w' := by
  have u1 : IntKind.i64.wrap (fi + ct) = fi + ct := by rw [IntKind.wrap_i64]; omega
  have u2 : IntKind.i64.wrap (fr - 1) = fr - 1 := by rw [IntKind.wrap_i64]; omega
  clear h1 h2
  by_cases hA : fi ≤ n
  · have a1 : decide (fi ≤ n) = true := decide_eq_true hA
    have a2 : decide (n ≥ fi) = true := a1
    by_cases hB : n < fi + ct
    · have b1 : decide (n < fi + ct) = true := decide_eq_true hB
      rw [decide_eq_true (show fi ≤ n ∧ n < fi + ct from ⟨hA, hB⟩)] at hT
      subst hT
      clear hA hB
      go_enter Tryz.func78, Tryz.ntmps78
      go_wp2_with fail
      go_ret
      exact ⟨rfl, (by repeat (first | refine Below.alloc ?_ (by first | omega | (simp; done) | (simp; omega)) _ | refine Below.drew ?_ | refine below_drewN ?_ _ | exact Below.refl _ _))⟩
    · have b1 : decide (n < fi + ct) = false := decide_eq_false hB
      rw [decide_eq_false (show ¬ (fi ≤ n ∧ n < fi + ct) from fun q => hB q.2)] at hT
      subst hT
      clear hA hB
      go_enter Tryz.func78, Tryz.ntmps78
      go_wp2_with fail
      go_ret
      exact ⟨rfl, (by repeat (first | refine Below.alloc ?_ (by first | omega | (simp; done) | (simp; omega)) _ | refine Below.drew ?_ | refine below_drewN ?_ _ | exact Below.refl _ _))⟩
  · have a1 : decide (fi ≤ n) = false := decide_eq_false hA
    have a2 : decide (n ≥ fi) = false := a1
    rw [decide_eq_false (show ¬ (fi ≤ n ∧ n < fi + ct) from fun q => hA q.1)] at hT
    subst hT
    clear hA
    go_enter Tryz.func78, Tryz.ntmps78
    go_wp2_with fail
    go_ret
    exact ⟨rfl, (by repeat (first | refine Below.alloc ?_ (by first | omega | (simp; done) | (simp; omega)) _ | refine Below.drew ?_ | refine below_drewN ?_ _ | exact Below.refl _ _))⟩
set_option maxRecDepth 100000 in
theorem rNum_23 (w : World) (ca : Option Addr) (cn cc : Nat) (fa : Option Addr) (fn fc : Nat) (m : Int) (s : ByteArray) (fr fi ct pa n : Int) (h1 : 2 ≤ fr ∧ fr ≤ 1099511627776) (h2 : 0 ≤ fi ∧ 0 ≤ ct ∧ fi + ct ≤ 100000000000000000) {T : Bool} (hT : decide (fi ≤ n ∧ n < fi + ct) = T) : Calls Tryz.prog 78 #[.agg #[.slice ca cn cc, .slice fa fn fc, .int .i64 m], .agg #[.string s, .int .i64 fr, .int .i64 fi, .int .i64 ct, .int .i64 pa], .int .i64 23, .int .i64 n] w fun e w' => e = .returned (.bool T) ∧ Below w.heap.size w w' := by
  have u1 : IntKind.i64.wrap (fi + ct) = fi + ct := by rw [IntKind.wrap_i64]; omega
  have u2 : IntKind.i64.wrap (fr - 1) = fr - 1 := by rw [IntKind.wrap_i64]; omega
  clear h1 h2
  by_cases hA : fi ≤ n
  · have a1 : decide (fi ≤ n) = true := decide_eq_true hA
    have a2 : decide (n ≥ fi) = true := a1
    by_cases hB : n < fi + ct
    · have b1 : decide (n < fi + ct) = true := decide_eq_true hB
      rw [decide_eq_true (show fi ≤ n ∧ n < fi + ct from ⟨hA, hB⟩)] at hT
      subst hT
      clear hA hB
      go_enter Tryz.func78, Tryz.ntmps78
      go_wp2_with fail
      go_ret
      exact ⟨rfl, (by repeat (first | refine Below.alloc ?_ (by first | omega | (simp; done) | (simp; omega)) _ | refine Below.drew ?_ | refine below_drewN ?_ _ | exact Below.refl _ _))⟩
    · have b1 : decide (n < fi + ct) = false := decide_eq_false hB
      rw [decide_eq_false (show ¬ (fi ≤ n ∧ n < fi + ct) from fun q => hB q.2)] at hT
      subst hT
      clear hA hB
      go_enter Tryz.func78, Tryz.ntmps78
      go_wp2_with fail
      go_ret
      exact ⟨rfl, (by repeat (first | refine Below.alloc ?_ (by first | omega | (simp; done) | (simp; omega)) _ | refine Below.drew ?_ | refine below_drewN ?_ _ | exact Below.refl _ _))⟩
  · have a1 : decide (fi ≤ n) = false := decide_eq_false hA
    have a2 : decide (n ≥ fi) = false := a1
    rw [decide_eq_false (show ¬ (fi ≤ n ∧ n < fi + ct) from fun q => hA q.1)] at hT
    subst hT
    clear hA
    go_enter Tryz.func78, Tryz.ntmps78
    go_wp2_with fail
    go_ret
    exact ⟨rfl, (by repeat (first | refine Below.alloc ?_ (by first | omega | (simp; done) | (simp; omega)) _ | refine Below.drew ?_ | refine below_drewN ?_ _ | exact Below.refl _ _))⟩
set_option maxRecDepth 100000 in
theorem rNum_24 (w : World) (ca : Option Addr) (cn cc : Nat) (fa : Option Addr) (fn fc : Nat) (m : Int) (s : ByteArray) (fr fi ct pa n : Int) (h1 : 2 ≤ fr ∧ fr ≤ 1099511627776) (h2 : 0 ≤ fi ∧ 0 ≤ ct ∧ fi + ct ≤ 100000000000000000) {T : Bool} (hT : decide (2 ≤ n ∧ n ≤ fr - 1) = T) : Calls Tryz.prog 78 #[.agg #[.slice ca cn cc, .slice fa fn fc, .int .i64 m], .agg #[.string s, .int .i64 fr, .int .i64 fi, .int .i64 ct, .int .i64 pa], .int .i64 24, .int .i64 n] w fun e w' => e = .returned (.bool T) ∧ Below w.heap.size w w' := by
  have u1 : IntKind.i64.wrap (fi + ct) = fi + ct := by rw [IntKind.wrap_i64]; omega
  have u2 : IntKind.i64.wrap (fr - 1) = fr - 1 := by rw [IntKind.wrap_i64]; omega
  clear h1 h2
  by_cases hA : 2 ≤ n
  · have a1 : decide (2 ≤ n) = true := decide_eq_true hA
    have a2 : decide (n ≥ 2) = true := a1
    by_cases hB : n ≤ fr - 1
    · have b1 : decide (n ≤ fr - 1) = true := decide_eq_true hB
      rw [decide_eq_true (show 2 ≤ n ∧ n ≤ fr - 1 from ⟨hA, hB⟩)] at hT
      subst hT
      clear hA hB
      go_enter Tryz.func78, Tryz.ntmps78
      go_wp2_with fail
      go_ret
      exact ⟨rfl, (by repeat (first | refine Below.alloc ?_ (by first | omega | (simp; done) | (simp; omega)) _ | refine Below.drew ?_ | refine below_drewN ?_ _ | exact Below.refl _ _))⟩
    · have b1 : decide (n ≤ fr - 1) = false := decide_eq_false hB
      rw [decide_eq_false (show ¬ (2 ≤ n ∧ n ≤ fr - 1) from fun q => hB q.2)] at hT
      subst hT
      clear hA hB
      go_enter Tryz.func78, Tryz.ntmps78
      go_wp2_with fail
      go_ret
      exact ⟨rfl, (by repeat (first | refine Below.alloc ?_ (by first | omega | (simp; done) | (simp; omega)) _ | refine Below.drew ?_ | refine below_drewN ?_ _ | exact Below.refl _ _))⟩
  · have a1 : decide (2 ≤ n) = false := decide_eq_false hA
    have a2 : decide (n ≥ 2) = false := a1
    rw [decide_eq_false (show ¬ (2 ≤ n ∧ n ≤ fr - 1) from fun q => hA q.1)] at hT
    subst hT
    clear hA
    go_enter Tryz.func78, Tryz.ntmps78
    go_wp2_with fail
    go_ret
    exact ⟨rfl, (by repeat (first | refine Below.alloc ?_ (by first | omega | (simp; done) | (simp; omega)) _ | refine Below.drew ?_ | refine below_drewN ?_ _ | exact Below.refl _ _))⟩
set_option maxRecDepth 100000 in
theorem rNum_25 (w : World) (ca : Option Addr) (cn cc : Nat) (fa : Option Addr) (fn fc : Nat) (m : Int) (s : ByteArray) (fr fi ct pa n : Int) (h1 : 2 ≤ fr ∧ fr ≤ 1099511627776) (h2 : 0 ≤ fi ∧ 0 ≤ ct ∧ fi + ct ≤ 100000000000000000) {T : Bool} (hT : decide (2 ≤ n ∧ n ≤ fr - 1) = T) : Calls Tryz.prog 78 #[.agg #[.slice ca cn cc, .slice fa fn fc, .int .i64 m], .agg #[.string s, .int .i64 fr, .int .i64 fi, .int .i64 ct, .int .i64 pa], .int .i64 25, .int .i64 n] w fun e w' => e = .returned (.bool T) ∧ Below w.heap.size w w' := by
  have u1 : IntKind.i64.wrap (fi + ct) = fi + ct := by rw [IntKind.wrap_i64]; omega
  have u2 : IntKind.i64.wrap (fr - 1) = fr - 1 := by rw [IntKind.wrap_i64]; omega
  clear h1 h2
  by_cases hA : 2 ≤ n
  · have a1 : decide (2 ≤ n) = true := decide_eq_true hA
    have a2 : decide (n ≥ 2) = true := a1
    by_cases hB : n ≤ fr - 1
    · have b1 : decide (n ≤ fr - 1) = true := decide_eq_true hB
      rw [decide_eq_true (show 2 ≤ n ∧ n ≤ fr - 1 from ⟨hA, hB⟩)] at hT
      subst hT
      clear hA hB
      go_enter Tryz.func78, Tryz.ntmps78
      go_wp2_with fail
      go_ret
      exact ⟨rfl, (by repeat (first | refine Below.alloc ?_ (by first | omega | (simp; done) | (simp; omega)) _ | refine Below.drew ?_ | refine below_drewN ?_ _ | exact Below.refl _ _))⟩
    · have b1 : decide (n ≤ fr - 1) = false := decide_eq_false hB
      rw [decide_eq_false (show ¬ (2 ≤ n ∧ n ≤ fr - 1) from fun q => hB q.2)] at hT
      subst hT
      clear hA hB
      go_enter Tryz.func78, Tryz.ntmps78
      go_wp2_with fail
      go_ret
      exact ⟨rfl, (by repeat (first | refine Below.alloc ?_ (by first | omega | (simp; done) | (simp; omega)) _ | refine Below.drew ?_ | refine below_drewN ?_ _ | exact Below.refl _ _))⟩
  · have a1 : decide (2 ≤ n) = false := decide_eq_false hA
    have a2 : decide (n ≥ 2) = false := a1
    rw [decide_eq_false (show ¬ (2 ≤ n ∧ n ≤ fr - 1) from fun q => hA q.1)] at hT
    subst hT
    clear hA
    go_enter Tryz.func78, Tryz.ntmps78
    go_wp2_with fail
    go_ret
    exact ⟨rfl, (by repeat (first | refine Below.alloc ?_ (by first | omega | (simp; done) | (simp; omega)) _ | refine Below.drew ?_ | refine below_drewN ?_ _ | exact Below.refl _ _))⟩
set_option maxRecDepth 100000 in
theorem rNum_26 (w : World) (ca : Option Addr) (cn cc : Nat) (fa : Option Addr) (fn fc : Nat) (m : Int) (s : ByteArray) (fr fi ct pa n : Int) (h1 : 2 ≤ fr ∧ fr ≤ 1099511627776) (h2 : 0 ≤ fi ∧ 0 ≤ ct ∧ fi + ct ≤ 100000000000000000) {T : Bool} (hT : decide (0 ≤ n ∧ n < (fn : Int)) = T) : Calls Tryz.prog 78 #[.agg #[.slice ca cn cc, .slice fa fn fc, .int .i64 m], .agg #[.string s, .int .i64 fr, .int .i64 fi, .int .i64 ct, .int .i64 pa], .int .i64 26, .int .i64 n] w fun e w' => e = .returned (.bool T) ∧ Below w.heap.size w w' := by
  have u1 : IntKind.i64.wrap (fi + ct) = fi + ct := by rw [IntKind.wrap_i64]; omega
  have u2 : IntKind.i64.wrap (fr - 1) = fr - 1 := by rw [IntKind.wrap_i64]; omega
  clear h1 h2
  by_cases hA : 0 ≤ n
  · have a1 : decide (0 ≤ n) = true := decide_eq_true hA
    have a2 : decide (n ≥ 0) = true := a1
    by_cases hB : n < (fn : Int)
    · have b1 : decide (n < (fn : Int)) = true := decide_eq_true hB
      rw [decide_eq_true (show 0 ≤ n ∧ n < (fn : Int) from ⟨hA, hB⟩)] at hT
      subst hT
      clear hA hB
      go_enter Tryz.func78, Tryz.ntmps78
      go_wp2_with fail
      go_ret
      exact ⟨rfl, (by repeat (first | refine Below.alloc ?_ (by first | omega | (simp; done) | (simp; omega)) _ | refine Below.drew ?_ | refine below_drewN ?_ _ | exact Below.refl _ _))⟩
    · have b1 : decide (n < (fn : Int)) = false := decide_eq_false hB
      rw [decide_eq_false (show ¬ (0 ≤ n ∧ n < (fn : Int)) from fun q => hB q.2)] at hT
      subst hT
      clear hA hB
      go_enter Tryz.func78, Tryz.ntmps78
      go_wp2_with fail
      go_ret
      exact ⟨rfl, (by repeat (first | refine Below.alloc ?_ (by first | omega | (simp; done) | (simp; omega)) _ | refine Below.drew ?_ | refine below_drewN ?_ _ | exact Below.refl _ _))⟩
  · have a1 : decide (0 ≤ n) = false := decide_eq_false hA
    have a2 : decide (n ≥ 0) = false := a1
    rw [decide_eq_false (show ¬ (0 ≤ n ∧ n < (fn : Int)) from fun q => hA q.1)] at hT
    subst hT
    clear hA
    go_enter Tryz.func78, Tryz.ntmps78
    go_wp2_with fail
    go_ret
    exact ⟨rfl, (by repeat (first | refine Below.alloc ?_ (by first | omega | (simp; done) | (simp; omega)) _ | refine Below.drew ?_ | refine below_drewN ?_ _ | exact Below.refl _ _))⟩
set_option maxRecDepth 100000 in
theorem rNum_32 (w : World) (ca : Option Addr) (cn cc : Nat) (fa : Option Addr) (fn fc : Nat) (m : Int) (s : ByteArray) (fr fi ct pa n : Int) (h1 : 2 ≤ fr ∧ fr ≤ 1099511627776) (h2 : 0 ≤ fi ∧ 0 ≤ ct ∧ fi + ct ≤ 100000000000000000) {T : Bool} (hT : decide (1 ≤ n ∧ n ≤ 5) = T) : Calls Tryz.prog 78 #[.agg #[.slice ca cn cc, .slice fa fn fc, .int .i64 m], .agg #[.string s, .int .i64 fr, .int .i64 fi, .int .i64 ct, .int .i64 pa], .int .i64 32, .int .i64 n] w fun e w' => e = .returned (.bool T) ∧ Below w.heap.size w w' := by
  have u1 : IntKind.i64.wrap (fi + ct) = fi + ct := by rw [IntKind.wrap_i64]; omega
  have u2 : IntKind.i64.wrap (fr - 1) = fr - 1 := by rw [IntKind.wrap_i64]; omega
  clear h1 h2
  by_cases hA : 1 ≤ n
  · have a1 : decide (1 ≤ n) = true := decide_eq_true hA
    have a2 : decide (n ≥ 1) = true := a1
    by_cases hB : n ≤ 5
    · have b1 : decide (n ≤ 5) = true := decide_eq_true hB
      rw [decide_eq_true (show 1 ≤ n ∧ n ≤ 5 from ⟨hA, hB⟩)] at hT
      subst hT
      clear hA hB
      go_enter Tryz.func78, Tryz.ntmps78
      go_wp2_with fail
      go_ret
      exact ⟨rfl, (by repeat (first | refine Below.alloc ?_ (by first | omega | (simp; done) | (simp; omega)) _ | refine Below.drew ?_ | refine below_drewN ?_ _ | exact Below.refl _ _))⟩
    · have b1 : decide (n ≤ 5) = false := decide_eq_false hB
      rw [decide_eq_false (show ¬ (1 ≤ n ∧ n ≤ 5) from fun q => hB q.2)] at hT
      subst hT
      clear hA hB
      go_enter Tryz.func78, Tryz.ntmps78
      go_wp2_with fail
      go_ret
      exact ⟨rfl, (by repeat (first | refine Below.alloc ?_ (by first | omega | (simp; done) | (simp; omega)) _ | refine Below.drew ?_ | refine below_drewN ?_ _ | exact Below.refl _ _))⟩
  · have a1 : decide (1 ≤ n) = false := decide_eq_false hA
    have a2 : decide (n ≥ 1) = false := a1
    rw [decide_eq_false (show ¬ (1 ≤ n ∧ n ≤ 5) from fun q => hA q.1)] at hT
    subst hT
    clear hA
    go_enter Tryz.func78, Tryz.ntmps78
    go_wp2_with fail
    go_ret
    exact ⟨rfl, (by repeat (first | refine Below.alloc ?_ (by first | omega | (simp; done) | (simp; omega)) _ | refine Below.drew ?_ | refine below_drewN ?_ _ | exact Below.refl _ _))⟩
set_option maxRecDepth 100000 in
theorem rNum_33 (w : World) (ca : Option Addr) (cn cc : Nat) (fa : Option Addr) (fn fc : Nat) (m : Int) (s : ByteArray) (fr fi ct pa n : Int) (h1 : 2 ≤ fr ∧ fr ≤ 1099511627776) (h2 : 0 ≤ fi ∧ 0 ≤ ct ∧ fi + ct ≤ 100000000000000000) {T : Bool} (hT : decide (1 ≤ n ∧ n ≤ 5) = T) : Calls Tryz.prog 78 #[.agg #[.slice ca cn cc, .slice fa fn fc, .int .i64 m], .agg #[.string s, .int .i64 fr, .int .i64 fi, .int .i64 ct, .int .i64 pa], .int .i64 33, .int .i64 n] w fun e w' => e = .returned (.bool T) ∧ Below w.heap.size w w' := by
  have u1 : IntKind.i64.wrap (fi + ct) = fi + ct := by rw [IntKind.wrap_i64]; omega
  have u2 : IntKind.i64.wrap (fr - 1) = fr - 1 := by rw [IntKind.wrap_i64]; omega
  clear h1 h2
  by_cases hA : 1 ≤ n
  · have a1 : decide (1 ≤ n) = true := decide_eq_true hA
    have a2 : decide (n ≥ 1) = true := a1
    by_cases hB : n ≤ 5
    · have b1 : decide (n ≤ 5) = true := decide_eq_true hB
      rw [decide_eq_true (show 1 ≤ n ∧ n ≤ 5 from ⟨hA, hB⟩)] at hT
      subst hT
      clear hA hB
      go_enter Tryz.func78, Tryz.ntmps78
      go_wp2_with fail
      go_ret
      exact ⟨rfl, (by repeat (first | refine Below.alloc ?_ (by first | omega | (simp; done) | (simp; omega)) _ | refine Below.drew ?_ | refine below_drewN ?_ _ | exact Below.refl _ _))⟩
    · have b1 : decide (n ≤ 5) = false := decide_eq_false hB
      rw [decide_eq_false (show ¬ (1 ≤ n ∧ n ≤ 5) from fun q => hB q.2)] at hT
      subst hT
      clear hA hB
      go_enter Tryz.func78, Tryz.ntmps78
      go_wp2_with fail
      go_ret
      exact ⟨rfl, (by repeat (first | refine Below.alloc ?_ (by first | omega | (simp; done) | (simp; omega)) _ | refine Below.drew ?_ | refine below_drewN ?_ _ | exact Below.refl _ _))⟩
  · have a1 : decide (1 ≤ n) = false := decide_eq_false hA
    have a2 : decide (n ≥ 1) = false := a1
    rw [decide_eq_false (show ¬ (1 ≤ n ∧ n ≤ 5) from fun q => hA q.1)] at hT
    subst hT
    clear hA
    go_enter Tryz.func78, Tryz.ntmps78
    go_wp2_with fail
    go_ret
    exact ⟨rfl, (by repeat (first | refine Below.alloc ?_ (by first | omega | (simp; done) | (simp; omega)) _ | refine Below.drew ?_ | refine below_drewN ?_ _ | exact Below.refl _ _))⟩
set_option maxRecDepth 100000 in
theorem rNum_34 (w : World) (ca : Option Addr) (cn cc : Nat) (fa : Option Addr) (fn fc : Nat) (m : Int) (s : ByteArray) (fr fi ct pa n : Int) (h1 : 2 ≤ fr ∧ fr ≤ 1099511627776) (h2 : 0 ≤ fi ∧ 0 ≤ ct ∧ fi + ct ≤ 100000000000000000) {T : Bool} (hT : decide (1 ≤ n ∧ n ≤ 5) = T) : Calls Tryz.prog 78 #[.agg #[.slice ca cn cc, .slice fa fn fc, .int .i64 m], .agg #[.string s, .int .i64 fr, .int .i64 fi, .int .i64 ct, .int .i64 pa], .int .i64 34, .int .i64 n] w fun e w' => e = .returned (.bool T) ∧ Below w.heap.size w w' := by
  have u1 : IntKind.i64.wrap (fi + ct) = fi + ct := by rw [IntKind.wrap_i64]; omega
  have u2 : IntKind.i64.wrap (fr - 1) = fr - 1 := by rw [IntKind.wrap_i64]; omega
  clear h1 h2
  by_cases hA : 1 ≤ n
  · have a1 : decide (1 ≤ n) = true := decide_eq_true hA
    have a2 : decide (n ≥ 1) = true := a1
    by_cases hB : n ≤ 5
    · have b1 : decide (n ≤ 5) = true := decide_eq_true hB
      rw [decide_eq_true (show 1 ≤ n ∧ n ≤ 5 from ⟨hA, hB⟩)] at hT
      subst hT
      clear hA hB
      go_enter Tryz.func78, Tryz.ntmps78
      go_wp2_with fail
      go_ret
      exact ⟨rfl, (by repeat (first | refine Below.alloc ?_ (by first | omega | (simp; done) | (simp; omega)) _ | refine Below.drew ?_ | refine below_drewN ?_ _ | exact Below.refl _ _))⟩
    · have b1 : decide (n ≤ 5) = false := decide_eq_false hB
      rw [decide_eq_false (show ¬ (1 ≤ n ∧ n ≤ 5) from fun q => hB q.2)] at hT
      subst hT
      clear hA hB
      go_enter Tryz.func78, Tryz.ntmps78
      go_wp2_with fail
      go_ret
      exact ⟨rfl, (by repeat (first | refine Below.alloc ?_ (by first | omega | (simp; done) | (simp; omega)) _ | refine Below.drew ?_ | refine below_drewN ?_ _ | exact Below.refl _ _))⟩
  · have a1 : decide (1 ≤ n) = false := decide_eq_false hA
    have a2 : decide (n ≥ 1) = false := a1
    rw [decide_eq_false (show ¬ (1 ≤ n ∧ n ≤ 5) from fun q => hA q.1)] at hT
    subst hT
    clear hA
    go_enter Tryz.func78, Tryz.ntmps78
    go_wp2_with fail
    go_ret
    exact ⟨rfl, (by repeat (first | refine Below.alloc ?_ (by first | omega | (simp; done) | (simp; omega)) _ | refine Below.drew ?_ | refine below_drewN ?_ _ | exact Below.refl _ _))⟩
set_option maxRecDepth 100000 in
theorem rNum_35 (w : World) (ca : Option Addr) (cn cc : Nat) (fa : Option Addr) (fn fc : Nat) (m : Int) (s : ByteArray) (fr fi ct pa n : Int) (h1 : 2 ≤ fr ∧ fr ≤ 1099511627776) (h2 : 0 ≤ fi ∧ 0 ≤ ct ∧ fi + ct ≤ 100000000000000000) {T : Bool} (hT : decide (1 ≤ n ∧ n ≤ 6) = T) : Calls Tryz.prog 78 #[.agg #[.slice ca cn cc, .slice fa fn fc, .int .i64 m], .agg #[.string s, .int .i64 fr, .int .i64 fi, .int .i64 ct, .int .i64 pa], .int .i64 35, .int .i64 n] w fun e w' => e = .returned (.bool T) ∧ Below w.heap.size w w' := by
  have u1 : IntKind.i64.wrap (fi + ct) = fi + ct := by rw [IntKind.wrap_i64]; omega
  have u2 : IntKind.i64.wrap (fr - 1) = fr - 1 := by rw [IntKind.wrap_i64]; omega
  clear h1 h2
  by_cases hA : 1 ≤ n
  · have a1 : decide (1 ≤ n) = true := decide_eq_true hA
    have a2 : decide (n ≥ 1) = true := a1
    by_cases hB : n ≤ 6
    · have b1 : decide (n ≤ 6) = true := decide_eq_true hB
      rw [decide_eq_true (show 1 ≤ n ∧ n ≤ 6 from ⟨hA, hB⟩)] at hT
      subst hT
      clear hA hB
      go_enter Tryz.func78, Tryz.ntmps78
      go_wp2_with fail
      go_ret
      exact ⟨rfl, (by repeat (first | refine Below.alloc ?_ (by first | omega | (simp; done) | (simp; omega)) _ | refine Below.drew ?_ | refine below_drewN ?_ _ | exact Below.refl _ _))⟩
    · have b1 : decide (n ≤ 6) = false := decide_eq_false hB
      rw [decide_eq_false (show ¬ (1 ≤ n ∧ n ≤ 6) from fun q => hB q.2)] at hT
      subst hT
      clear hA hB
      go_enter Tryz.func78, Tryz.ntmps78
      go_wp2_with fail
      go_ret
      exact ⟨rfl, (by repeat (first | refine Below.alloc ?_ (by first | omega | (simp; done) | (simp; omega)) _ | refine Below.drew ?_ | refine below_drewN ?_ _ | exact Below.refl _ _))⟩
  · have a1 : decide (1 ≤ n) = false := decide_eq_false hA
    have a2 : decide (n ≥ 1) = false := a1
    rw [decide_eq_false (show ¬ (1 ≤ n ∧ n ≤ 6) from fun q => hA q.1)] at hT
    subst hT
    clear hA
    go_enter Tryz.func78, Tryz.ntmps78
    go_wp2_with fail
    go_ret
    exact ⟨rfl, (by repeat (first | refine Below.alloc ?_ (by first | omega | (simp; done) | (simp; omega)) _ | refine Below.drew ?_ | refine below_drewN ?_ _ | exact Below.refl _ _))⟩
/-- The operations that have a number. -/
def hasN (op : Int) : Bool := decide (op = 1 ∨ op = 21 ∨ op = 22 ∨ op = 23 ∨ op = 24 ∨ op = 25 ∨ op = 26 ∨ op = 32 ∨ op = 33 ∨ op = 34 ∨ op = 35)
theorem rNum_any (w : World) (ca : Option Addr) (cn cc : Nat) (fa : Option Addr) (fn fc : Nat) (m : Int) (s : ByteArray) (fr fi ct pa n : Int) (h1 : 2 ≤ fr ∧ fr ≤ 1099511627776) (h2 : 0 ≤ fi ∧ 0 ≤ ct ∧ fi + ct ≤ 100000000000000000) (x : Ri) (hx : hasN x.op = true) (hn : n = x.n) (hf : Fits x.n) {T : Bool} (hT : numF fn ⟨s, fr, fi, ct, pa⟩ x = T) : Calls Tryz.prog 78 #[.agg #[.slice ca cn cc, .slice fa fn fc, .int .i64 m], .agg #[.string s, .int .i64 fr, .int .i64 fi, .int .i64 ct, .int .i64 pa], .int .i64 x.op, .int .i64 n] w fun e w' => e = .returned (.bool T) ∧ Below w.heap.size w w' := by
  unfold hasN at hx
  rw [decide_eq_true_eq] at hx
  obtain ⟨op, xa, xb, xc, xn⟩ := x
  simp only at hx hn hf hT ⊢
  subst hn
  unfold numF at hT
  simp only at hT
  unfold Fits at hf
  rcases hx with rfl | rfl | rfl | rfl | rfl | rfl | rfl | rfl | rfl | rfl | rfl
  · refine rNum_1 w ca cn cc fa fn fc m s fr fi ct pa n h1 h2 ?_
    rw [← hT]
    simp
    try (first | omega | (rw [Bool.eq_iff_iff]; simp; omega))
  · refine rNum_21 w ca cn cc fa fn fc m s fr fi ct pa n h1 h2 ?_
    rw [← hT]
    simp
    try (first | omega | (rw [Bool.eq_iff_iff]; simp; omega))
  · refine rNum_22 w ca cn cc fa fn fc m s fr fi ct pa n h1 h2 ?_
    rw [← hT]
    simp
    try (first | omega | (rw [Bool.eq_iff_iff]; simp; omega))
  · refine rNum_23 w ca cn cc fa fn fc m s fr fi ct pa n h1 h2 ?_
    rw [← hT]
    simp
    try (first | omega | (rw [Bool.eq_iff_iff]; simp; omega))
  · refine rNum_24 w ca cn cc fa fn fc m s fr fi ct pa n h1 h2 ?_
    rw [← hT]
    simp
    try (first | omega | (rw [Bool.eq_iff_iff]; simp; omega))
  · refine rNum_25 w ca cn cc fa fn fc m s fr fi ct pa n h1 h2 ?_
    rw [← hT]
    simp
    try (first | omega | (rw [Bool.eq_iff_iff]; simp; omega))
  · refine rNum_26 w ca cn cc fa fn fc m s fr fi ct pa n h1 h2 ?_
    rw [← hT]
    simp
    try (first | omega | (rw [Bool.eq_iff_iff]; simp; omega))
  · refine rNum_32 w ca cn cc fa fn fc m s fr fi ct pa n h1 h2 ?_
    rw [← hT]
    simp
    try (first | omega | (rw [Bool.eq_iff_iff]; simp; omega))
  · refine rNum_33 w ca cn cc fa fn fc m s fr fi ct pa n h1 h2 ?_
    rw [← hT]
    simp
    try (first | omega | (rw [Bool.eq_iff_iff]; simp; omega))
  · refine rNum_34 w ca cn cc fa fn fc m s fr fi ct pa n h1 h2 ?_
    rw [← hT]
    simp
    try (first | omega | (rw [Bool.eq_iff_iff]; simp; omega))
  · refine rNum_35 w ca cn cc fa fn fc m s fr fi ct pa n h1 h2 ?_
    rw [← hT]
    simp
    try (first | omega | (rw [Bool.eq_iff_iff]; simp; omega))
end Go.Proofs.YtfofmmkihhnfmaaGreatDoor
