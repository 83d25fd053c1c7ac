import Derived.Test.YtfbkopjncmkbiabGreatDoorKak
set_option linter.unusedVariables false
set_option linter.unusedSimpArgs false
namespace Go.Proofs.YtfbkopjncmkbiabGreatDoor
open Go.ChangeShapes Go.WideShapes Go.ChangeAt Go.RowKit Go.Maps
def tcount (kd : Int) : Nat := if kd = 1 then 1 else if kd = 2 then 2 else 0
def tuses (r kd : Int) : Bool := if kd = 1 then false else if kd = 3 then !decide (r = 0) else true
def termP (f : Fu) (kd vl : Int) (to' : List Int) : Bool := decide (1 <= kd /\ kd <= 4) && (decide (to'.length = tcount kd) && (to'.all (wi f.blks.length) && (if tuses f.result kd = true then wi f.vals.length vl else decide (vl = -1))))
set_option maxRecDepth 100000 in
set_option maxHeartbeats 2000000 in
theorem termFits_one (w : World) {s : ByteArray} {pa : Option Addr} {pn pc : Nat} {r : Int} {va : Option Addr} {vn vc : Nat} {ba : Option Addr} {bn bc : Nat} {fa : Option Addr} {fn fc : Nat} {f : Fu} {FS : List Fu} (C : Ctx w s pa pn pc r va vn vc ba bn bc fa fn fc f FS) (vl : Int) (ma : Option Addr) (ml mc : Nat) (M : List Int) (hml : ml = M.length) (hM : Ints w ma mc M)  :
 Calls Tryz.prog 126 #[.agg #[.string s, .slice pa pn pc, .int .i64 r, .slice va vn vc, .slice ba bn bc, .slice fa fn fc], .agg #[.int .i64 1, .int .i64 vl, .slice ma ml mc]] w fun e w' => e = .returned (.bool (termP f 1 vl M)) /\ Below w.heap.size w w' := by
 have HI : Hid (∀ w', Aft w (.cells #[.string s, .slice pa pn pc, .int .i64 r, .slice va vn vc, .slice ba bn bc, .slice fa fn fc] 77) (.cells #[.int .i64 1, .int .i64 vl, .slice ma ml mc] 28) w' -> Ints w' ma mc M) := fun w' h => hM.below h.low (Nat.le_refl _)
 have HL : Hid (ml = M.length) := hml
 have A0 : Aft w (.cells #[.string s, .slice pa pn pc, .int .i64 r, .slice va vn vc, .slice ba bn bc, .slice fa fn fc] 77) (.cells #[.int .i64 1, .int .i64 vl, .slice ma ml mc] 28) ((w.alloc (.cells #[.string s, .slice pa pn pc, .int .i64 r, .slice va vn vc, .slice ba bn bc, .slice fa fn fc] 77)).alloc (.cells #[.int .i64 1, .int .i64 vl, .slice ma ml mc] 28)) := Aft.refl _ _ _
 have e0 : termP f 1 vl M = (decide (ml = 1) && (M.all (wi bn) && (decide (vl = -1)))) := by
  unfold termP; rw [hml, C.eb]; simp [tcount, tuses]
 rw [e0]
 clear C hM hml e0
 by_cases h1 : ml = 1
 ·rw [decide_eq_true h1]
  subst h1
  cases h2 : M.all (wi bn) with
  | false =>
    go_enter Tryz.func126, Tryz.ntmps126
    go_wp2_with (go_at_call 125; refine (allWithinB_at _ _ _ _ M HL.out (HI.out _ A0) _ _ _ _ h2).mono ?_; rintro e w1 ⟨rfl, hb1⟩)
    go_ret
    exact ⟨rfl, (A0.next hb1).low⟩
  | true =>
    go_enter Tryz.func126, Tryz.ntmps126
    go_wp2_with (go_at_call 125; refine (allWithinB_at _ _ _ _ M HL.out (HI.out _ A0) _ _ _ _ h2).mono ?_; rintro e w1 ⟨rfl, hb1⟩; have A1 := A0.next hb1; obtain ⟨f0, f1, f2, f3, f4, f5⟩ := fcells A1.one; obtain ⟨t0, t1, t2⟩ := tcells A1.two)
    go_ret
    exact ⟨rfl, A1.low⟩
 ·have h1' : ((ml : Int) != 1) = true := by simp; omega
  rw [decide_eq_false h1]
  go_enter Tryz.func126, Tryz.ntmps126
  go_wp2_with fail
  go_ret
  exact ⟨rfl, A0.low⟩
set_option maxRecDepth 100000 in
set_option maxHeartbeats 2000000 in
theorem termFits_two (w : World) {s : ByteArray} {pa : Option Addr} {pn pc : Nat} {r : Int} {va : Option Addr} {vn vc : Nat} {ba : Option Addr} {bn bc : Nat} {fa : Option Addr} {fn fc : Nat} {f : Fu} {FS : List Fu} (C : Ctx w s pa pn pc r va vn vc ba bn bc fa fn fc f FS) (vl : Int) (ma : Option Addr) (ml mc : Nat) (M : List Int) (hml : ml = M.length) (hM : Ints w ma mc M)  :
 Calls Tryz.prog 126 #[.agg #[.string s, .slice pa pn pc, .int .i64 r, .slice va vn vc, .slice ba bn bc, .slice fa fn fc], .agg #[.int .i64 2, .int .i64 vl, .slice ma ml mc]] w fun e w' => e = .returned (.bool (termP f 2 vl M)) /\ Below w.heap.size w w' := by
 have HI : Hid (∀ w', Aft w (.cells #[.string s, .slice pa pn pc, .int .i64 r, .slice va vn vc, .slice ba bn bc, .slice fa fn fc] 77) (.cells #[.int .i64 2, .int .i64 vl, .slice ma ml mc] 28) w' -> Ints w' ma mc M) := fun w' h => hM.below h.low (Nat.le_refl _)
 have HL : Hid (ml = M.length) := hml
 have A0 : Aft w (.cells #[.string s, .slice pa pn pc, .int .i64 r, .slice va vn vc, .slice ba bn bc, .slice fa fn fc] 77) (.cells #[.int .i64 2, .int .i64 vl, .slice ma ml mc] 28) ((w.alloc (.cells #[.string s, .slice pa pn pc, .int .i64 r, .slice va vn vc, .slice ba bn bc, .slice fa fn fc] 77)).alloc (.cells #[.int .i64 2, .int .i64 vl, .slice ma ml mc] 28)) := Aft.refl _ _ _
 have e0 : termP f 2 vl M = (decide (ml = 2) && (M.all (wi bn) && (wi vn vl))) := by
  unfold termP; rw [hml, C.eb, C.ev]; simp [tcount, tuses]
 rw [e0]
 clear C hM hml e0
 by_cases h1 : ml = 2
 ·rw [decide_eq_true h1]
  subst h1
  cases h2 : M.all (wi bn) with
  | false =>
    go_enter Tryz.func126, Tryz.ntmps126
    go_wp2_with (go_at_call 125; refine (allWithinB_at _ _ _ _ M HL.out (HI.out _ A0) _ _ _ _ h2).mono ?_; rintro e w1 ⟨rfl, hb1⟩)
    go_ret
    exact ⟨rfl, (A0.next hb1).low⟩
  | true =>
    generalize h3 : wi vn vl = R
    go_enter Tryz.func126, Tryz.ntmps126
    go_wp2_with (first
     | (go_at_call 125; refine (allWithinB_at _ _ _ _ M HL.out (HI.out _ A0) _ _ _ _ h2).mono ?_; rintro e w1 ⟨rfl, hb1⟩; have A1 := A0.next hb1; obtain ⟨f0, f1, f2, f3, f4, f5⟩ := fcells A1.one; obtain ⟨t0, t1, t2⟩ := tcells A1.two)
     | (go_at_call 119; refine (withinV_at _ _ _ _ _ _ h3).mono ?_; rintro e w' ⟨rfl, rfl⟩))
    go_ret
    exact ⟨by simp, A1.low⟩
 ·have h1' : ((ml : Int) != 2) = true := by simp; omega
  rw [decide_eq_false h1]
  go_enter Tryz.func126, Tryz.ntmps126
  go_wp2_with fail
  go_ret
  exact ⟨rfl, A0.low⟩
set_option maxRecDepth 100000 in
set_option maxHeartbeats 2000000 in
theorem termFits_none (w : World) {s : ByteArray} {pa : Option Addr} {pn pc : Nat} {r : Int} {va : Option Addr} {vn vc : Nat} {ba : Option Addr} {bn bc : Nat} {fa : Option Addr} {fn fc : Nat} {f : Fu} {FS : List Fu} (C : Ctx w s pa pn pc r va vn vc ba bn bc fa fn fc f FS) (vl : Int) (ma : Option Addr) (ml mc : Nat) (M : List Int) (hml : ml = M.length) (hM : Ints w ma mc M) (hr0 : r = 0) :
 Calls Tryz.prog 126 #[.agg #[.string s, .slice pa pn pc, .int .i64 r, .slice va vn vc, .slice ba bn bc, .slice fa fn fc], .agg #[.int .i64 3, .int .i64 vl, .slice ma ml mc]] w fun e w' => e = .returned (.bool (termP f 3 vl M)) /\ Below w.heap.size w w' := by
 have HI : Hid (∀ w', Aft w (.cells #[.string s, .slice pa pn pc, .int .i64 r, .slice va vn vc, .slice ba bn bc, .slice fa fn fc] 77) (.cells #[.int .i64 3, .int .i64 vl, .slice ma ml mc] 28) w' -> Ints w' ma mc M) := fun w' h => hM.below h.low (Nat.le_refl _)
 have HL : Hid (ml = M.length) := hml
 have A0 : Aft w (.cells #[.string s, .slice pa pn pc, .int .i64 r, .slice va vn vc, .slice ba bn bc, .slice fa fn fc] 77) (.cells #[.int .i64 3, .int .i64 vl, .slice ma ml mc] 28) ((w.alloc (.cells #[.string s, .slice pa pn pc, .int .i64 r, .slice va vn vc, .slice ba bn bc, .slice fa fn fc] 77)).alloc (.cells #[.int .i64 3, .int .i64 vl, .slice ma ml mc] 28)) := Aft.refl _ _ _
 have hr1 : f.result = 0 := by rw [<- C.er]; exact hr0
 have e0 : termP f 3 vl M = (decide (ml = 0) && (M.all (wi bn) && (decide (vl = -1)))) := by
  unfold termP; rw [hml, C.eb]; simp [tcount, tuses, hr1]
 rw [e0]
 have hr2 : (r != (0 : Int)) = false := by simp [hr0]
 clear C hM hml e0 hr1 hr0
 by_cases h1 : ml = 0
 ·rw [decide_eq_true h1]
  subst h1
  cases h2 : M.all (wi bn) with
  | false =>
    go_enter Tryz.func126, Tryz.ntmps126
    go_wp2_with (go_at_call 125; refine (allWithinB_at _ _ _ _ M HL.out (HI.out _ A0) _ _ _ _ h2).mono ?_; rintro e w1 ⟨rfl, hb1⟩)
    go_ret
    exact ⟨rfl, (A0.next hb1).low⟩
  | true =>
    go_enter Tryz.func126, Tryz.ntmps126
    go_wp2_with (go_at_call 125; refine (allWithinB_at _ _ _ _ M HL.out (HI.out _ A0) _ _ _ _ h2).mono ?_; rintro e w1 ⟨rfl, hb1⟩; have A1 := A0.next hb1; obtain ⟨f0, f1, f2, f3, f4, f5⟩ := fcells A1.one; obtain ⟨t0, t1, t2⟩ := tcells A1.two)
    go_ret
    exact ⟨rfl, A1.low⟩
 ·have h1' : ((ml : Int) != 0) = true := by simp; omega
  rw [decide_eq_false h1]
  go_enter Tryz.func126, Tryz.ntmps126
  go_wp2_with fail
  go_ret
  exact ⟨rfl, A0.low⟩
set_option maxRecDepth 100000 in
set_option maxHeartbeats 2000000 in
theorem termFits_some (w : World) {s : ByteArray} {pa : Option Addr} {pn pc : Nat} {r : Int} {va : Option Addr} {vn vc : Nat} {ba : Option Addr} {bn bc : Nat} {fa : Option Addr} {fn fc : Nat} {f : Fu} {FS : List Fu} (C : Ctx w s pa pn pc r va vn vc ba bn bc fa fn fc f FS) (vl : Int) (ma : Option Addr) (ml mc : Nat) (M : List Int) (hml : ml = M.length) (hM : Ints w ma mc M) (hr0 : ¬ r = 0) :
 Calls Tryz.prog 126 #[.agg #[.string s, .slice pa pn pc, .int .i64 r, .slice va vn vc, .slice ba bn bc, .slice fa fn fc], .agg #[.int .i64 3, .int .i64 vl, .slice ma ml mc]] w fun e w' => e = .returned (.bool (termP f 3 vl M)) /\ Below w.heap.size w w' := by
 have HI : Hid (∀ w', Aft w (.cells #[.string s, .slice pa pn pc, .int .i64 r, .slice va vn vc, .slice ba bn bc, .slice fa fn fc] 77) (.cells #[.int .i64 3, .int .i64 vl, .slice ma ml mc] 28) w' -> Ints w' ma mc M) := fun w' h => hM.below h.low (Nat.le_refl _)
 have HL : Hid (ml = M.length) := hml
 have A0 : Aft w (.cells #[.string s, .slice pa pn pc, .int .i64 r, .slice va vn vc, .slice ba bn bc, .slice fa fn fc] 77) (.cells #[.int .i64 3, .int .i64 vl, .slice ma ml mc] 28) ((w.alloc (.cells #[.string s, .slice pa pn pc, .int .i64 r, .slice va vn vc, .slice ba bn bc, .slice fa fn fc] 77)).alloc (.cells #[.int .i64 3, .int .i64 vl, .slice ma ml mc] 28)) := Aft.refl _ _ _
 have hr1 : ¬ f.result = 0 := by rw [<- C.er]; exact hr0
 have e0 : termP f 3 vl M = (decide (ml = 0) && (M.all (wi bn) && (wi vn vl))) := by
  unfold termP; rw [hml, C.eb, C.ev]; simp [tcount, tuses, hr1]
 rw [e0]
 have hr2 : (r != (0 : Int)) = true := by simp [hr0]
 clear C hM hml e0 hr1 hr0
 by_cases h1 : ml = 0
 ·rw [decide_eq_true h1]
  subst h1
  cases h2 : M.all (wi bn) with
  | false =>
    go_enter Tryz.func126, Tryz.ntmps126
    go_wp2_with (go_at_call 125; refine (allWithinB_at _ _ _ _ M HL.out (HI.out _ A0) _ _ _ _ h2).mono ?_; rintro e w1 ⟨rfl, hb1⟩)
    go_ret
    exact ⟨rfl, (A0.next hb1).low⟩
  | true =>
    generalize h3 : wi vn vl = R
    go_enter Tryz.func126, Tryz.ntmps126
    go_wp2_with (first
     | (go_at_call 125; refine (allWithinB_at _ _ _ _ M HL.out (HI.out _ A0) _ _ _ _ h2).mono ?_; rintro e w1 ⟨rfl, hb1⟩; have A1 := A0.next hb1; obtain ⟨f0, f1, f2, f3, f4, f5⟩ := fcells A1.one; obtain ⟨t0, t1, t2⟩ := tcells A1.two)
     | (go_at_call 119; refine (withinV_at _ _ _ _ _ _ h3).mono ?_; rintro e w' ⟨rfl, rfl⟩))
    go_ret
    exact ⟨by simp, A1.low⟩
 ·have h1' : ((ml : Int) != 0) = true := by simp; omega
  rw [decide_eq_false h1]
  go_enter Tryz.func126, Tryz.ntmps126
  go_wp2_with fail
  go_ret
  exact ⟨rfl, A0.low⟩
set_option maxRecDepth 100000 in
set_option maxHeartbeats 2000000 in
theorem termFits_four (w : World) {s : ByteArray} {pa : Option Addr} {pn pc : Nat} {r : Int} {va : Option Addr} {vn vc : Nat} {ba : Option Addr} {bn bc : Nat} {fa : Option Addr} {fn fc : Nat} {f : Fu} {FS : List Fu} (C : Ctx w s pa pn pc r va vn vc ba bn bc fa fn fc f FS) (vl : Int) (ma : Option Addr) (ml mc : Nat) (M : List Int) (hml : ml = M.length) (hM : Ints w ma mc M)  :
 Calls Tryz.prog 126 #[.agg #[.string s, .slice pa pn pc, .int .i64 r, .slice va vn vc, .slice ba bn bc, .slice fa fn fc], .agg #[.int .i64 4, .int .i64 vl, .slice ma ml mc]] w fun e w' => e = .returned (.bool (termP f 4 vl M)) /\ Below w.heap.size w w' := by
 have HI : Hid (∀ w', Aft w (.cells #[.string s, .slice pa pn pc, .int .i64 r, .slice va vn vc, .slice ba bn bc, .slice fa fn fc] 77) (.cells #[.int .i64 4, .int .i64 vl, .slice ma ml mc] 28) w' -> Ints w' ma mc M) := fun w' h => hM.below h.low (Nat.le_refl _)
 have HL : Hid (ml = M.length) := hml
 have A0 : Aft w (.cells #[.string s, .slice pa pn pc, .int .i64 r, .slice va vn vc, .slice ba bn bc, .slice fa fn fc] 77) (.cells #[.int .i64 4, .int .i64 vl, .slice ma ml mc] 28) ((w.alloc (.cells #[.string s, .slice pa pn pc, .int .i64 r, .slice va vn vc, .slice ba bn bc, .slice fa fn fc] 77)).alloc (.cells #[.int .i64 4, .int .i64 vl, .slice ma ml mc] 28)) := Aft.refl _ _ _
 have e0 : termP f 4 vl M = (decide (ml = 0) && (M.all (wi bn) && (wi vn vl))) := by
  unfold termP; rw [hml, C.eb, C.ev]; simp [tcount, tuses]
 rw [e0]
 clear C hM hml e0
 by_cases h1 : ml = 0
 ·rw [decide_eq_true h1]
  subst h1
  cases h2 : M.all (wi bn) with
  | false =>
    go_enter Tryz.func126, Tryz.ntmps126
    go_wp2_with (go_at_call 125; refine (allWithinB_at _ _ _ _ M HL.out (HI.out _ A0) _ _ _ _ h2).mono ?_; rintro e w1 ⟨rfl, hb1⟩)
    go_ret
    exact ⟨rfl, (A0.next hb1).low⟩
  | true =>
    generalize h3 : wi vn vl = R
    go_enter Tryz.func126, Tryz.ntmps126
    go_wp2_with (first
     | (go_at_call 125; refine (allWithinB_at _ _ _ _ M HL.out (HI.out _ A0) _ _ _ _ h2).mono ?_; rintro e w1 ⟨rfl, hb1⟩; have A1 := A0.next hb1; obtain ⟨f0, f1, f2, f3, f4, f5⟩ := fcells A1.one; obtain ⟨t0, t1, t2⟩ := tcells A1.two)
     | (go_at_call 119; refine (withinV_at _ _ _ _ _ _ h3).mono ?_; rintro e w' ⟨rfl, rfl⟩))
    go_ret
    exact ⟨by simp, A1.low⟩
 ·have h1' : ((ml : Int) != 0) = true := by simp; omega
  rw [decide_eq_false h1]
  go_enter Tryz.func126, Tryz.ntmps126
  go_wp2_with fail
  go_ret
  exact ⟨rfl, A0.low⟩
theorem termFits_no (w : World) {s : ByteArray} {pa : Option Addr} {pn pc : Nat} {r : Int} {va : Option Addr} {vn vc : Nat} {ba : Option Addr} {bn bc : Nat} {fa : Option Addr} {fn fc : Nat} {f : Fu} {FS : List Fu} (C : Ctx w s pa pn pc r va vn vc ba bn bc fa fn fc f FS) (vl : Int) (ma : Option Addr) (ml mc : Nat) (M : List Int) (hml : ml = M.length) (hM : Ints w ma mc M) (kd : Int) (k1 : ¬ kd = 1) (k2 : ¬ kd = 2) (k3 : ¬ kd = 3) (k4 : ¬ kd = 4) : Calls Tryz.prog 126 #[.agg #[.string s, .slice pa pn pc, .int .i64 r, .slice va vn vc, .slice ba bn bc, .slice fa fn fc], .agg #[.int .i64 kd, .int .i64 vl, .slice ma ml mc]] w fun e w' => e = .returned (.bool (termP f kd vl M)) /\ Below w.heap.size w w' := by
 have A0 : Aft w (.cells #[.string s, .slice pa pn pc, .int .i64 r, .slice va vn vc, .slice ba bn bc, .slice fa fn fc] 77) (.cells #[.int .i64 kd, .int .i64 vl, .slice ma ml mc] 28) ((w.alloc (.cells #[.string s, .slice pa pn pc, .int .i64 r, .slice va vn vc, .slice ba bn bc, .slice fa fn fc] 77)).alloc (.cells #[.int .i64 kd, .int .i64 vl, .slice ma ml mc] 28)) := Aft.refl _ _ _
 have e0 : termP f kd vl M = false := by unfold termP; rw [decide_eq_false (by omega)]; rfl
 rw [e0]
 clear C hM hml e0
 go_enter Tryz.func126, Tryz.ntmps126
 go_wp2_with fail
 go_ret
 exact ⟨rfl, A0.low⟩
theorem termFits_any (w : World) {s : ByteArray} {pa : Option Addr} {pn pc : Nat} {r : Int} {va : Option Addr} {vn vc : Nat} {ba : Option Addr} {bn bc : Nat} {fa : Option Addr} {fn fc : Nat} {f : Fu} {FS : List Fu} (C : Ctx w s pa pn pc r va vn vc ba bn bc fa fn fc f FS) (vl : Int) (ma : Option Addr) (ml mc : Nat) (M : List Int) (hml : ml = M.length) (hM : Ints w ma mc M) (kd : Int) : Calls Tryz.prog 126 #[.agg #[.string s, .slice pa pn pc, .int .i64 r, .slice va vn vc, .slice ba bn bc, .slice fa fn fc], .agg #[.int .i64 kd, .int .i64 vl, .slice ma ml mc]] w fun e w' => e = .returned (.bool (termP f kd vl M)) /\ Below w.heap.size w w' := by
 by_cases k1 : kd = 1
 ·subst k1; exact termFits_one w C vl ma ml mc M hml hM
 by_cases k2 : kd = 2
 ·subst k2; exact termFits_two w C vl ma ml mc M hml hM
 by_cases k3 : kd = 3
 ·subst k3
  by_cases hr0 : r = 0
  ·exact termFits_none w C vl ma ml mc M hml hM hr0
  ·exact termFits_some w C vl ma ml mc M hml hM hr0
 by_cases k4 : kd = 4
 ·subst k4; exact termFits_four w C vl ma ml mc M hml hM
 exact termFits_no w C vl ma ml mc M hml hM kd k1 k2 k3 k4
theorem opens_may : Opens 124 := Opens.of Tryz.func124 (by kernel_rfl) rfl
theorem opens_param : Opens 79 := Opens.of Tryz.func79 (by kernel_rfl) rfl
theorem opens_value : Opens 81 := Opens.of Tryz.func81 (by kernel_rfl) rfl
theorem opens_block : Opens 83 := Opens.of Tryz.func83 (by kernel_rfl) rfl
theorem everyMay_at (w : World) {s : ByteArray} {pa : Option Addr} {pn pc : Nat} {r : Int} {va : Option Addr} {vn vc : Nat} {ba : Option Addr} {bn bc : Nat} {fa : Option Addr} {fn fc : Nat} {f : Fu} {FS : List Fu} (C : Ctx w s pa pn pc r va vn vc ba bn bc fa fn fc f FS) (ao : Option Addr) (n c : Nat) (L : List Int) (hn : n = L.length) (hL : Ints w ao c L) (R : Bool) (hR : L.all (mayP f) = R) :
 Calls Tryz.prog 78 #[.slice ao n c, .func (.func 124) #[.agg #[.string s, .slice pa pn pc, .int .i64 r, .slice va vn vc, .slice ba bn bc, .slice fa fn fc]] #[]] w fun e w' => e = .returned (.bool R) /\ Below w.heap.size w w' := by
 subst hR
 rw [<- evr_plain (mayP f) L 0]
 refine everyI_any w ao c n L hn hL _ _ _ opens_may _ (Asks.meth fun W i x hi hb hv => ?_)
 obtain rfl := hv.out
 exact mayStand_any W (C.below hb (Nat.le_refl _)) i L[i]
theorem everyParam_at (w : World) {s : ByteArray} {pa : Option Addr} {pn pc : Nat} {r : Int} {va : Option Addr} {vn vc : Nat} {ba : Option Addr} {bn bc : Nat} {fa : Option Addr} {fn fc : Nat} {f : Fu} {FS : List Fu} (C : Ctx w s pa pn pc r va vn vc ba bn bc fa fn fc f FS) (ao : Option Addr) (n c : Nat) (L : List Int) (hn : n = L.length) (hL : Ints w ao c L) (R : Bool) (hR : evr (paramP f) 0 L = R) :
 Calls Tryz.prog 78 #[.slice ao n c, .func (.func 79) #[.agg #[.string s, .slice pa pn pc, .int .i64 r, .slice va vn vc, .slice ba bn bc, .slice fa fn fc]] #[]] w fun e w' => e = .returned (.bool R) /\ Below w.heap.size w w' := by
 subst hR
 refine everyI_any w ao c n L hn hL _ _ _ opens_param _ (Asks.meth fun W i x hi hb hv => ?_)
 obtain rfl := hv.out
 exact paramFits_any W (C.below hb (Nat.le_refl _)) i L[i]
theorem everyValue_at (w : World) {s : ByteArray} {pa : Option Addr} {pn pc : Nat} {r : Int} {va : Option Addr} {vn vc : Nat} {ba : Option Addr} {bn bc : Nat} {fa : Option Addr} {fn fc : Nat} {f : Fu} {FS : List Fu} (C : Ctx w s pa pn pc r va vn vc ba bn bc fa fn fc f FS) (ao : Option Addr) (n c : Nat) (L : List Vl) (hn : n = L.length) (hL : Vls w ao c L) (R : Bool) (hR : L.all (valueP f FS) = R) :
 Calls Tryz.prog 80 #[.slice ao n c, .func (.func 81) #[.agg #[.string s, .slice pa pn pc, .int .i64 r, .slice va vn vc, .slice ba bn bc, .slice fa fn fc]] #[]] w fun e w' => e = .returned (.bool R) /\ Below w.heap.size w w' := by
 subst hR
 rw [<- evr_plain (valueP f FS) L 0]
 refine everyV_any w ao c n L hn hL _ _ _ opens_value _ (Asks.meth fun W i x hi hb hv => ?_)
 obtain ⟨ka, kc, rfl, hI⟩ := hv.out
 exact valueFits_any W (C.below hb (Nat.le_refl _)) i _ _ _ ka _ kc _ rfl hI
def blockP (f : Fu) (b : Bk) : Bool := b.phis.all (mayP f) && (b.body.all (mayP f) && (b.preds.all (wi f.blks.length) && termP f b.kind b.val b.ways))
theorem termFits_at (w : World) {s : ByteArray} {pa : Option Addr} {pn pc : Nat} {r : Int} {va : Option Addr} {vn vc : Nat} {ba : Option Addr} {bn bc : Nat} {fa : Option Addr} {fn fc : Nat} {f : Fu} {FS : List Fu} (C : Ctx w s pa pn pc r va vn vc ba bn bc fa fn fc f FS) (vl : Int) (ma : Option Addr) (ml mc : Nat) (M : List Int) (hml : ml = M.length) (hM : Ints w ma mc M) (kd : Int) (R : Bool) (h : termP f kd vl M = R) : Calls Tryz.prog 126 #[.agg #[.string s, .slice pa pn pc, .int .i64 r, .slice va vn vc, .slice ba bn bc, .slice fa fn fc], .agg #[.int .i64 kd, .int .i64 vl, .slice ma ml mc]] w fun e w' => e = .returned (.bool R) /\ Below w.heap.size w w' := by
 subst h; exact termFits_any w C vl ma ml mc M hml hM kd
set_option maxRecDepth 100000 in
set_option maxHeartbeats 4000000 in
theorem blockFits_any (w : World) {s : ByteArray} {pa : Option Addr} {pn pc : Nat} {r : Int} {va : Option Addr} {vn vc : Nat} {ba : Option Addr} {bn bc : Nat} {fa : Option Addr} {fn fc : Nat} {f : Fu} {FS : List Fu} (C : Ctx w s pa pn pc r va vn vc ba bn bc fa fn fc f FS) (i : Nat) (ka : Option Addr) (kl kc : Nat) (la : Option Addr) (ll lc : Nat) (kd vl : Int) (ma : Option Addr) (ml mc : Nat) (na : Option Addr) (nl nc : Nat) (A B M N : List Int) (e1 : kl = A.length) (h1 : Ints w ka kc A) (e2 : ll = B.length) (h2 : Ints w la lc B) (e3 : ml = M.length) (h3 : Ints w ma mc M) (e4 : nl = N.length) (h4 : Ints w na nc N) :
 Calls Tryz.prog 83 #[.agg #[.string s, .slice pa pn pc, .int .i64 r, .slice va vn vc, .slice ba bn bc, .slice fa fn fc], .int .i64 i, .agg #[.slice ka kl kc, .slice la ll lc, .int .i64 kd, .int .i64 vl, .slice ma ml mc, .slice na nl nc]] w fun e w' => e = .returned (.bool (blockP f ⟨A, B, kd, vl, M, N⟩)) /\ Below w.heap.size w w' := by
 have HC : Hid (∀ w', Aft w (.cells #[.string s, .slice pa pn pc, .int .i64 r, .slice va vn vc, .slice ba bn bc, .slice fa fn fc] 77) (.cells #[.slice ka kl kc, .slice la ll lc, .int .i64 kd, .int .i64 vl, .slice ma ml mc, .slice na nl nc] 30) w' -> Ctx w' s pa pn pc r va vn vc ba bn bc fa fn fc f FS) := fun w' h => C.below h.low (Nat.le_refl _)
 have H1 : Hid (∀ w', Aft w (.cells #[.string s, .slice pa pn pc, .int .i64 r, .slice va vn vc, .slice ba bn bc, .slice fa fn fc] 77) (.cells #[.slice ka kl kc, .slice la ll lc, .int .i64 kd, .int .i64 vl, .slice ma ml mc, .slice na nl nc] 30) w' -> Ints w' ka kc A) := fun w' h => h1.below h.low (Nat.le_refl _)
 have H2 : Hid (∀ w', Aft w (.cells #[.string s, .slice pa pn pc, .int .i64 r, .slice va vn vc, .slice ba bn bc, .slice fa fn fc] 77) (.cells #[.slice ka kl kc, .slice la ll lc, .int .i64 kd, .int .i64 vl, .slice ma ml mc, .slice na nl nc] 30) w' -> Ints w' la lc B) := fun w' h => h2.below h.low (Nat.le_refl _)
 have H3 : Hid (∀ w', Aft w (.cells #[.string s, .slice pa pn pc, .int .i64 r, .slice va vn vc, .slice ba bn bc, .slice fa fn fc] 77) (.cells #[.slice ka kl kc, .slice la ll lc, .int .i64 kd, .int .i64 vl, .slice ma ml mc, .slice na nl nc] 30) w' -> Ints w' ma mc M) := fun w' h => h3.below h.low (Nat.le_refl _)
 have H4 : Hid (∀ w', Aft w (.cells #[.string s, .slice pa pn pc, .int .i64 r, .slice va vn vc, .slice ba bn bc, .slice fa fn fc] 77) (.cells #[.slice ka kl kc, .slice la ll lc, .int .i64 kd, .int .i64 vl, .slice ma ml mc, .slice na nl nc] 30) w' -> Ints w' na nc N) := fun w' h => h4.below h.low (Nat.le_refl _)
 have E1 : Hid (kl = A.length) := e1
 have E2 : Hid (ll = B.length) := e2
 have E3 : Hid (ml = M.length) := e3
 have E4 : Hid (nl = N.length) := e4
 have A0 : Aft w (.cells #[.string s, .slice pa pn pc, .int .i64 r, .slice va vn vc, .slice ba bn bc, .slice fa fn fc] 77) (.cells #[.slice ka kl kc, .slice la ll lc, .int .i64 kd, .int .i64 vl, .slice ma ml mc, .slice na nl nc] 30) ((w.alloc (.cells #[.string s, .slice pa pn pc, .int .i64 r, .slice va vn vc, .slice ba bn bc, .slice fa fn fc] 77)).alloc (.cells #[.slice ka kl kc, .slice la ll lc, .int .i64 kd, .int .i64 vl, .slice ma ml mc, .slice na nl nc] 30)) := Aft.refl _ _ _
 unfold blockP
 simp only
 rw [<- C.eb]
 clear C h1 h2 h3 h4 e1 e2 e3 e4
 cases q1 : A.all (mayP f) with
 | false =>
   go_enter Tryz.func83, Tryz.ntmps83
   go_wp2_with (go_at_call 78; refine (everyMay_at _ (HC.out _ A0) _ _ _ A E1.out (H1.out _ A0) _ q1).mono ?_; rintro e w1 ⟨rfl, hb1⟩)
   go_ret
   exact ⟨rfl, (A0.next hb1).low⟩
 | true =>
 cases q2 : B.all (mayP f) with
 | false =>
   go_enter Tryz.func83, Tryz.ntmps83
   go_wp2_with (first
    | (go_at_call 78; refine (everyMay_at w1 (HC.out _ A1) _ _ _ B E2.out (H2.out _ A1) _ q2).mono ?_; rintro e w2 ⟨rfl, hb2⟩)
    | (go_at_call 78; refine (everyMay_at _ (HC.out _ A0) _ _ _ A E1.out (H1.out _ A0) _ q1).mono ?_; rintro e w1 ⟨rfl, hb1⟩; have A1 := A0.next hb1; obtain ⟨f0, f1, f2, f3, f4, f5⟩ := fcells A1.one; obtain ⟨v0, v1, v2, v3, v4, v5⟩ := bcells A1.two))
   go_ret
   exact ⟨rfl, (A1.next hb2).low⟩
 | true =>
 cases q3 : N.all (wi bn) with
 | false =>
   go_enter Tryz.func83, Tryz.ntmps83
   go_wp2_with (first
    | (go_at_call 78; refine (everyMay_at w1 (HC.out _ A1) _ _ _ B E2.out (H2.out _ A1) _ q2).mono ?_; rintro e w2 ⟨rfl, hb2⟩; have A2 := A1.next hb2; obtain ⟨f0', f1', f2', f3', f4', f5'⟩ := fcells A2.one; obtain ⟨v0', v1', v2', v3', v4', v5'⟩ := bcells A2.two)
    | (go_at_call 78; refine (everyMay_at _ (HC.out _ A0) _ _ _ A E1.out (H1.out _ A0) _ q1).mono ?_; rintro e w1 ⟨rfl, hb1⟩; have A1 := A0.next hb1; obtain ⟨f0, f1, f2, f3, f4, f5⟩ := fcells A1.one; obtain ⟨v0, v1, v2, v3, v4, v5⟩ := bcells A1.two)
    | (go_at_call 125; refine (allWithinB_at w2 _ _ _ N E4.out (H4.out w2 A2) _ _ _ _ q3).mono ?_; rintro e w3 ⟨rfl, hb3⟩))
   go_ret
   exact ⟨rfl, (A2.next hb3).low⟩
 | true =>
   generalize q4 : termP f kd vl M = R
   go_enter Tryz.func83, Tryz.ntmps83
   go_wp2_with (first
    | (go_at_call 78; refine (everyMay_at w1 (HC.out _ A1) _ _ _ B E2.out (H2.out _ A1) _ q2).mono ?_; rintro e w2 ⟨rfl, hb2⟩; have A2 := A1.next hb2; obtain ⟨f0', f1', f2', f3', f4', f5'⟩ := fcells A2.one; obtain ⟨v0', v1', v2', v3', v4', v5'⟩ := bcells A2.two)
    | (go_at_call 78; refine (everyMay_at _ (HC.out _ A0) _ _ _ A E1.out (H1.out _ A0) _ q1).mono ?_; rintro e w1 ⟨rfl, hb1⟩; have A1 := A0.next hb1; obtain ⟨f0, f1, f2, f3, f4, f5⟩ := fcells A1.one; obtain ⟨v0, v1, v2, v3, v4, v5⟩ := bcells A1.two)
    | (go_at_call 125; refine (allWithinB_at w2 _ _ _ N E4.out (H4.out w2 A2) _ _ _ _ q3).mono ?_; rintro e w3 ⟨rfl, hb3⟩; have A3 := A2.next hb3; obtain ⟨f0'', f1'', f2'', f3'', f4'', f5''⟩ := fcells A3.one; obtain ⟨v0'', v1'', v2'', v3'', v4'', v5''⟩ := bcells A3.two)
    | (go_at_call 126; refine (termFits_at w3 (HC.out _ A3) _ _ _ _ M E3.out (H3.out _ A3) _ _ q4).mono ?_; rintro e w4 ⟨rfl, hb4⟩))
   go_ret
   exact ⟨by simp, (A3.next hb4).low⟩
theorem everyBlock_at (w : World) {s : ByteArray} {pa : Option Addr} {pn pc : Nat} {r : Int} {va : Option Addr} {vn vc : Nat} {ba : Option Addr} {bn bc : Nat} {fa : Option Addr} {fn fc : Nat} {f : Fu} {FS : List Fu} (C : Ctx w s pa pn pc r va vn vc ba bn bc fa fn fc f FS) (ao : Option Addr) (n c : Nat) (L : List Bk) (hn : n = L.length) (hL : Bks w ao c L) (R : Bool) (hR : L.all (blockP f) = R) :
 Calls Tryz.prog 82 #[.slice ao n c, .func (.func 83) #[.agg #[.string s, .slice pa pn pc, .int .i64 r, .slice va vn vc, .slice ba bn bc, .slice fa fn fc]] #[]] w fun e w' => e = .returned (.bool R) /\ Below w.heap.size w w' := by
 subst hR
 rw [<- evr_plain (blockP f) L 0]
 refine everyB_any w ao c n L hn hL _ _ _ opens_block _ (Asks.meth fun W i x hi hb hv => ?_)
 obtain ⟨ka, kc, la, lc, ma, mc, na, nc, rfl, h1, h2, h3, h4⟩ := hv.out
 exact blockFits_any W (C.below hb (Nat.le_refl _)) i ka _ kc la _ lc _ _ ma _ mc na _ nc _ _ _ _ rfl h1 rfl h2 rfl h3 rfl h4
structure Af1 (w : World) (A : Obj) (w' : World) : Prop where
 b : Below (w.heap.size + 1) (w.alloc A) w'
theorem Af1.refl (w : World) (A : Obj) : Af1 w A (w.alloc A) := ⟨Below.refl _ _⟩
theorem Af1.low {w A w'} (h : Af1 w A w') : Below w.heap.size w w' := ((Below.refl _ _).alloc (Nat.le_refl _) _).trans (h.b.mono (by omega))
theorem Af1.size {w A w'} (h : Af1 w A w') : w.heap.size + 1 <= w'.heap.size := by have := h.b.size; simpa using this
theorem Af1.next {w A w' w''} (h : Af1 w A w') (hb : Below w'.heap.size w' w'') : Af1 w A w'' := ⟨h.b.trans (hb.mono h.size)⟩
theorem Af1.drawn {w A w'} (h : Af1 w A w') (q : Nat) : Af1 w A (w'.drewN q) := ⟨below_drawn h.b q⟩
theorem Af1.one {w A w'} (h : Af1 w A w') : w'.heap[w.heap.size]? = some A := by rw [h.b.block _ (by omega)]; exact heap_alloc_new w A
def formP (FS : List Fu) (f : Fu) : Bool := decide (f.params.length <= 8) && (decide (f.vals.length < 262144) && (decide (0 < f.blks.length) && (isTn f.result && (evr (paramP f) 0 f.params && (f.vals.all (valueP f FS) && f.blks.all (blockP f))))))
set_option maxRecDepth 100000 in
set_option maxHeartbeats 4000000 in
theorem formedF_any (w : World) {s : ByteArray} {pa : Option Addr} {pn pc : Nat} {r : Int} {va : Option Addr} {vn vc : Nat} {ba : Option Addr} {bn bc : Nat} {fa : Option Addr} {fn fc : Nat} {f : Fu} {FS : List Fu} (C : Ctx w s pa pn pc r va vn vc ba bn bc fa fn fc f FS) :
 Calls Tryz.prog 52 #[.agg #[.string s, .slice pa pn pc, .int .i64 r, .slice va vn vc, .slice ba bn bc, .slice fa fn fc]] w fun e w' => e = .returned (.bool (formP FS f)) /\ Below w.heap.size w w' := by
 have HC : Hid (∀ w', Af1 w (.cells #[.string s, .slice pa pn pc, .int .i64 r, .slice va vn vc, .slice ba bn bc, .slice fa fn fc] 77) w' -> Ctx w' s pa pn pc r va vn vc ba bn bc fa fn fc f FS) := fun w' h => C.below h.low (Nat.le_refl _)
 have A0 : Af1 w (.cells #[.string s, .slice pa pn pc, .int .i64 r, .slice va vn vc, .slice ba bn bc, .slice fa fn fc] 77) (w.alloc (.cells #[.string s, .slice pa pn pc, .int .i64 r, .slice va vn vc, .slice ba bn bc, .slice fa fn fc] 77)) := Af1.refl _ _
 unfold formP
 rw [<- C.ep, <- C.ev, <- C.eb, <- C.er]
 clear C
 by_cases h1 : pn <= 8
 rotate_left
 ·rw [decide_eq_false h1]
  have ih1 : decide ((pn : Int) <= 8) = false := by rw [decide_eq_false_iff_not]; omega
  clear h1
  go_enter Tryz.func52, Tryz.ntmps52
  go_wp2_with (fail)
  go_ret
  exact ⟨by simp, A0.low⟩
 rw [decide_eq_true h1]
 have ih1 : decide ((pn : Int) <= 8) = true := by rw [decide_eq_true_iff]; omega
 clear h1
 by_cases h2 : vn < 262144
 rotate_left
 ·rw [decide_eq_false h2]
  have ih2 : decide ((vn : Int) < 262144) = false := by rw [decide_eq_false_iff_not]; omega
  clear h2
  go_enter Tryz.func52, Tryz.ntmps52
  go_wp2_with (fail)
  go_ret
  exact ⟨by simp, A0.low⟩
 rw [decide_eq_true h2]
 have ih2 : decide ((vn : Int) < 262144) = true := by rw [decide_eq_true_iff]; omega
 clear h2
 by_cases h3 : 0 < bn
 rotate_left
 ·rw [decide_eq_false h3]
  go_enter Tryz.func52, Tryz.ntmps52
  go_wp2_with (fail)
  go_ret
  exact ⟨by simp, A0.low⟩
 rw [decide_eq_true h3]
 cases h4 : isTn r with
 | false =>
   go_enter Tryz.func52, Tryz.ntmps52
   go_wp2_with (first | (go_at_call 77; refine (isTn_at _ _ _ h4).mono ?_; rintro e w' ⟨rfl, rfl⟩))
   go_ret
   exact ⟨rfl, A0.low⟩
 | true =>
 cases h5 : evr (paramP f) 0 f.params with
 | false =>
   go_enter Tryz.func52, Tryz.ntmps52
   go_wp2_with (first | (go_at_call 77; refine (isTn_at _ _ _ h4).mono ?_; rintro e w' ⟨rfl, rfl⟩) | (go_at_call 78; refine (everyParam_at _ (HC.out _ A0) _ _ _ f.params (HC.out _ A0).ep (HC.out _ A0).hp _ h5).mono ?_; rintro e w1 ⟨rfl, hb1⟩; have A1 := A0.next hb1; obtain ⟨f0, f1, f2, f3, f4, f5⟩ := fcells A1.one))
   go_ret
   exact ⟨rfl, A1.low⟩
 | true =>
 cases h6 : f.vals.all (valueP f FS) with
 | false =>
   go_enter Tryz.func52, Tryz.ntmps52
   go_wp2_with (first | (go_at_call 77; refine (isTn_at _ _ _ h4).mono ?_; rintro e w' ⟨rfl, rfl⟩) | (go_at_call 78; refine (everyParam_at _ (HC.out _ A0) _ _ _ f.params (HC.out _ A0).ep (HC.out _ A0).hp _ h5).mono ?_; rintro e w1 ⟨rfl, hb1⟩; have A1 := A0.next hb1; obtain ⟨f0, f1, f2, f3, f4, f5⟩ := fcells A1.one) | (go_at_call 80; refine (everyValue_at _ (HC.out _ A1) _ _ _ f.vals (HC.out _ A1).ev (HC.out _ A1).hv _ h6).mono ?_; rintro e w2 ⟨rfl, hb2⟩; have A2 := A1.next hb2; obtain ⟨f0', f1', f2', f3', f4', f5'⟩ := fcells A2.one))
   go_ret
   exact ⟨rfl, A2.low⟩
 | true =>
   generalize h7 : f.blks.all (blockP f) = R
   go_enter Tryz.func52, Tryz.ntmps52
   go_wp2_with (first | (go_at_call 77; refine (isTn_at _ _ _ h4).mono ?_; rintro e w' ⟨rfl, rfl⟩) | (go_at_call 78; refine (everyParam_at _ (HC.out _ A0) _ _ _ f.params (HC.out _ A0).ep (HC.out _ A0).hp _ h5).mono ?_; rintro e w1 ⟨rfl, hb1⟩; have A1 := A0.next hb1; obtain ⟨f0, f1, f2, f3, f4, f5⟩ := fcells A1.one) | (go_at_call 80; refine (everyValue_at _ (HC.out _ A1) _ _ _ f.vals (HC.out _ A1).ev (HC.out _ A1).hv _ h6).mono ?_; rintro e w2 ⟨rfl, hb2⟩; have A2 := A1.next hb2; obtain ⟨f0', f1', f2', f3', f4', f5'⟩ := fcells A2.one) | (go_at_call 82; refine (everyBlock_at _ (HC.out _ A2) _ _ _ f.blks (HC.out _ A2).eb (HC.out _ A2).hb _ h7).mono ?_; rintro e w3 ⟨rfl, hb3⟩; have A3 := A2.next hb3))
   go_ret
   exact ⟨by simp, A3.low⟩
structure TR (w0 w : World) (go n k : Nat) (Ls : List (List Int)) : Prop where
 out : ∃ vs : List Value, w.heap[go]? = some (.cells vs.toArray 23 (0, 0)) /\ vs.length = n /\ ∀ i, i < k -> ∃ a c, vs.getD i vn0 = .slice a (Ls.getD i []).length c /\ Ints w0 a c (Ls.getD i [])
theorem TR.start (w0 w : World) (n : Nat) (Ls : List (List Int)) : TR w0 (w.alloc (.cells (madeCells #[.slice none 0 0] n) 23)) w.heap.size n 0 Ls := by
 refine ⟨List.replicate n vn0, ?_, by simp, fun i hi => by omega⟩
 have e : madeCells #[vn0] n = (List.replicate n vn0).toArray := by
  apply Array.toList_inj.1
  rw [toList_madeCells_one]
 rw [<- e]; exact heap_alloc_new _ _
theorem TR.alloc {w0 w : World} {go n k Ls} (h : TR w0 w go n k Ls) (X : Obj) : TR w0 (w.alloc X) go n k Ls := by
 obtain ⟨vs, h1, h2, h3⟩ := h.out
 exact ⟨vs, by rw [heap_alloc_old _ _ (gl h1)]; exact h1, h2, h3⟩
theorem TR.cell {w0 w : World} {go n k Ls} (h : TR w0 w go n k Ls) {i : Nat} (hi : i < n) : go < w.heap.size /\ (∃ v, w.cell? ⟨go, i, none⟩ = some v) /\ w.frozen? ⟨go, i, none⟩ = false := by
 obtain ⟨vs, h1, h2, h3⟩ := h.out
 have hi' : i < vs.length := by omega
 exact ⟨(gl h1), ⟨vs[i], cell_arr h1 (by simp [hi'])⟩, fz_of h1⟩
theorem TR.put {w0 w : World} {go n k Ls} (h : TR w0 w go n k Ls) (hk : k < n) {a : Option Addr} {c m : Nat} (hm : m = (Ls.getD k []).length) (hI : Ints w0 a c (Ls.getD k [])) : TR w0 (w.setCell ⟨go, k, none⟩ (.slice a m c)) go n (k + 1) Ls := by
 obtain ⟨vs, h1, h2, h3⟩ := h.out
 refine ⟨vs.set k (.slice a m c), ?_, by simpa using h2, fun i hi => ?_⟩
 ·have := heap_set_at (i := k) (v := .slice a m c) h1
  simpa using this
 ·by_cases e : i = k
  ·subst e
   refine ⟨a, c, ?_, hI⟩
   rw [<- hm]; simp [List.getD, h2, hk]
  ·obtain ⟨a', c', h4, h5⟩ := h3 i (by omega)
   refine ⟨a', c', ?_, h5⟩
   rw [<- h4]; simp [List.getD, List.getElem?_set, Ne.symm e]
theorem TR.irow {w0 w : World} {go n Ls} (h : TR w0 w go n n Ls) (hn : n = Ls.length) (hm : n <= 9223372036854775807) (hb : Below w0.heap.size w0 w) : IRow w (some ⟨go, 0, none⟩) n Ls := by
 obtain ⟨vs, h1, h2, h3⟩ := h.out
 refine ⟨by omega, hm, fun _ => ⟨go, 0, rfl, (gl h1), fun i hi => ?_⟩⟩
 obtain ⟨a, c, h4, h5⟩ := h3 i (by omega)
 have e2 : Ls.getD i [] = Ls[i] := by simp [hi]
 rw [e2] at h4 h5
 refine ⟨a, c, ?_, h5.below hb (Nat.le_refl _)⟩
 rw [Nat.zero_add]
 refine cell_arr h1 ?_
 have hv : i < vs.length := by omega
 rw [<- h4]; simp [List.getD, hv]
theorem Bks.at {w ao cap} {L : List Bk} (h : Bks w ao cap L) {j : Nat} (hj : j < L.length) : ∃ (b o : Nat) (ka : Option Addr) (kc : Nat) (la : Option Addr) (lc : Nat) (ma : Option Addr) (mc : Nat) (na : Option Addr) (nc : Nat), ao = some ⟨b, o, none⟩ /\ b < w.heap.size /\ w.cell? ⟨b, o + j * 6, none⟩ = some (.slice ka L[j].phis.length kc) /\ w.cell? ⟨b, o + j * 6 + 1, none⟩ = some (.slice la L[j].body.length lc) /\ w.cell? ⟨b, o + j * 6 + 2, none⟩ = some (.int .i64 L[j].kind)
 /\ w.cell? ⟨b, o + j * 6 + 3, none⟩ = some (.int .i64 L[j].val) /\ w.cell? ⟨b, o + j * 6 + 4, none⟩ = some (.slice ma L[j].ways.length mc) /\ w.cell? ⟨b, o + j * 6 + 5, none⟩ = some (.slice na L[j].preds.length nc) /\ Ints w ka kc L[j].phis /\ Ints w la lc L[j].body /\ Ints w ma mc L[j].ways /\ Ints w na nc L[j].preds := by
 obtain ⟨b, o, e, hlt, hA⟩ := h.out (by intro e; rw [e] at hj; simp at hj)
 obtain ⟨ka, kc, la, lc, ma, mc, na, nc, c0, c1, c2, c3, c4, c5, h1, h2, h3, h4⟩ := (hA j hj).out
 exact ⟨b, o, ka, kc, la, lc, ma, mc, na, nc, e, hlt, c0, c1, c2, c3, c4, c5, h1, h2, h3, h4⟩
def waysP (f : Fu) : List (List Int) := f.blks.map Bk.ways
theorem waysP_at (f : Fu) (k : Nat) (h : k < f.blks.length) : (waysP f).getD k [] = f.blks[k].ways := by simp [waysP, h]
set_option maxRecDepth 100000 in
set_option maxHeartbeats 4000000 in
theorem to_at (w w0 : World) (h0 : Below w0.heap.size w0 w) {s : ByteArray} {pa : Option Addr} {pn pc : Nat} {r : Int} {va : Option Addr} {vn vc : Nat} {ba : Option Addr} {bn bc : Nat} {fa : Option Addr} {fn fc : Nat} {f : Fu} {FS : List Fu} (C : Ctx w0 s pa pn pc r va vn vc ba bn bc fa fn fc f FS) (hbn : bn <= 100000000) :
 Calls Tryz.prog 84 #[.agg #[.string s, .slice pa pn pc, .int .i64 r, .slice va vn vc, .slice ba bn bc, .slice fa fn fc]] w fun e w' => ∃ go, e = .returned (.slice (some ⟨go, 0, none⟩) bn bn) /\ IRow w' (some ⟨go, 0, none⟩) bn (waysP f) /\ Below w.heap.size w w' /\ w.heap.size <= go /\ TR w0 w' go bn bn (waysP f) := by
 have H0 : Hid (Below w0.heap.size w0 w) := h0
 have hmk := run_make_row' (P := Tryz.prog) 116 23 (.slice none 0 0) 24 Tryz.underlying116 infoSl rfl .i64 .i64 bn (by omega) (by omega)
 have HB : Hid (Bks w0 ba bc f.blks) := C.hb
 have HE : Hid (bn = f.blks.length) := C.eb
 have A0 : Af1 w (.cells #[.string s, .slice pa pn pc, .int .i64 r, .slice va vn vc, .slice ba bn bc, .slice fa fn fc] 77) ((w.alloc (.cells #[.string s, .slice pa pn pc, .int .i64 r, .slice va vn vc, .slice ba bn bc, .slice fa fn fc] 77)).alloc (.cells (madeCells #[.slice none 0 0] bn) 23)) := (Af1.refl _ _).next ((Below.refl _ _).alloc (Nat.le_refl _) _)
 have HT0 : Hid (TR w0 ((w.alloc (.cells #[.string s, .slice pa pn pc, .int .i64 r, .slice va vn vc, .slice ba bn bc, .slice fa fn fc] 77)).alloc (.cells (madeCells #[.slice none 0 0] bn) 23)) (w.heap.size + 1) bn 0 (waysP f)) := by
  have := TR.start w0 (w.alloc (.cells #[.string s, .slice pa pn pc, .int .i64 r, .slice va vn vc, .slice ba bn bc, .slice fa fn fc] 77)) bn (waysP f)
  have e : (w.alloc (.cells #[.string s, .slice pa pn pc, .int .i64 r, .slice va vn vc, .slice ba bn bc, .slice fa fn fc] 77)).heap.size = w.heap.size + 1 := by simp
  rw [e] at this
  exact this
 clear C h0
 obtain ⟨w1, hw1⟩ : ∃ w1, w1 = (w.alloc (.cells #[.string s, .slice pa pn pc, .int .i64 r, .slice va vn vc, .slice ba bn bc, .slice fa fn fc] 77)).alloc (.cells (madeCells #[.slice none 0 0] bn) 23) := ⟨_, rfl⟩
 rw [<- hw1] at A0 HT0
 go_enter Tryz.func84, Tryz.ntmps84
 go_wp2_with fail
 rw [<- hw1]
 clear hw1 hmk
 go_loopw [15] (fun v wr => ∃ k : Nat, k <= bn /\ v = .int .i64 k /\ Hid (TR w0 wr (w.heap.size + 1) bn k (waysP f)) /\ Hid (Below w.heap.size w wr)) (fun v _ => bn - (intOf v).toNat)
 case atStart => exact ⟨0, by omega, rfl, HT0, A0.low⟩
 case round =>
  clear HT0 A0
  obtain ⟨k, hk, rfl, HT, HW⟩ := hrel
  have HV : Hid (Below w0.heap.size w0 wr) := H0.out.trans (HW.out.mono H0.out.size)
  by_cases hlt : k < bn
  ·have hk2 : k < f.blks.length := by have := HE.out; omega
   obtain ⟨b, o, ka, kc, la, lc, ma, mc, na, nc, rfl, hlb, c0, c1, c2, c3, c4, c5, i1, i2, i3, i4⟩ := (HB.out.below HV.out (Nat.le_refl _)).at hk2
   obtain ⟨b', o', ka', kc', la', lc', ma', mc', na', nc', eba, hlb', d0, d1, d2, d3, d4, d5, j1, j2, j3, j4⟩ := HB.out.at hk2
   cases eba
   have e4 := (HV.out.cell (p := ⟨b, o + k * 6 + 4, none⟩) hlb').trans d4
   rw [c4] at e4
   cases e4
   have HJ : Hid (Ints w0 ma mc f.blks[k].ways) := j3
   clear d0 d1 d2 d3 d4 d5 j1 j2 j3 j4 i1 i2 i3 i4
   obtain ⟨ml, hml⟩ : ∃ ml, ml = f.blks[k].ways.length := ⟨_, rfl⟩
   have HML : Hid (ml = f.blks[k].ways.length) := hml
   rw [<- hml] at c4
   clear hml
   generalize f.blks[k].phis.length = kl at c0
   generalize f.blks[k].body.length = ll at c1
   generalize f.blks[k].kind = kd at c2
   generalize f.blks[k].val = vl at c3
   generalize f.blks[k].preds.length = nl at c5
   have HT2 : Hid (TR w0 (wr.alloc (.cells #[.slice ka kl kc, .slice la ll lc, .int .i64 kd, .int .i64 vl, .slice ma ml mc, .slice na nl nc] 30)) (w.heap.size + 1) bn k (waysP f)) := HT.out.alloc _
   obtain ⟨g1, ⟨v, g2⟩, g3⟩ := HT2.out.cell hlt
   go_wp2_with fail
   go_roundw
   case rel =>
    refine ⟨k + 1, by omega, by go_num, HT2.out.put hlt (by rw [waysP_at f k hk2]; exact HML.out) (by rw [waysP_at f k hk2]; exact HJ.out), ?_⟩
    exact (HW.out.trans (((Below.refl _ _).alloc (Nat.le_refl _) _).mono HW.out.size)).setCell (by show w.heap.size <= w.heap.size + 1; omega) _
   case measure => simp [intOf]; omega
  ·have : k = bn := by omega
   subst this
   go_wp2_with fail
   go_ret
   exact ⟨_, rfl, HT.out.irow (by rw [HE.out]; simp [waysP]) (by omega) HV.out, HW.out, by omega, HT.out⟩
theorem to_any (w : World) {s : ByteArray} {pa : Option Addr} {pn pc : Nat} {r : Int} {va : Option Addr} {vn vc : Nat} {ba : Option Addr} {bn bc : Nat} {fa : Option Addr} {fn fc : Nat} {f : Fu} {FS : List Fu} (C : Ctx w s pa pn pc r va vn vc ba bn bc fa fn fc f FS) (hbn : bn <= 100000000) :
 Calls Tryz.prog 84 #[.agg #[.string s, .slice pa pn pc, .int .i64 r, .slice va vn vc, .slice ba bn bc, .slice fa fn fc]] w fun e w' => ∃ go, e = .returned (.slice (some ⟨go, 0, none⟩) bn bn) /\ IRow w' (some ⟨go, 0, none⟩) bn (waysP f) /\ Below w.heap.size w w' := by
 refine (to_at w w (Below.refl _ _) C hbn).mono ?_
 rintro e w' ⟨go, rfl, h1, h2, _, _⟩
 exact ⟨go, rfl, h1, h2⟩
theorem opens_reached : Opens 89 := Opens.of Tryz.func89 (by kernel_rfl) rfl
theorem everyReached_at (w : World) (ao : Option Addr) (n c : Nat) (L : List Bool) (hn : n = L.length) (hL : Bls w ao c L) (R : Bool) (hR : L.all id = R) :
 Calls Tryz.prog 87 #[.slice ao n c, .func (.func 89) #[] #[]] w fun e w' => e = .returned (.bool R) /\ Below w.heap.size w w' := by
 subst hR
 rw [<- evr_plain id L 0]
 refine everyL_any w ao c n L hn hL _ _ _ opens_reached _ (Asks.zero fun W i x hi hb hv => ?_)
 obtain rfl := hv.out
 simp only [id]
 generalize L[i] = y
 go_enter Tryz.func89, Tryz.ntmps89
 go_wp2_with fail
 go_ret
 exact ⟨rfl, Below.refl _ _⟩
def reachedP (f : Fu) : Bool := (reachP (waysP f)).all id
set_option maxRecDepth 100000 in
theorem allReached_any (w : World) {s : ByteArray} {pa : Option Addr} {pn pc : Nat} {r : Int} {va : Option Addr} {vn vc : Nat} {ba : Option Addr} {bn bc : Nat} {fa : Option Addr} {fn fc : Nat} {f : Fu} {FS : List Fu} (C : Ctx w s pa pn pc r va vn vc ba bn bc fa fn fc f FS) (hbn : bn <= 100000000) :
 Calls Tryz.prog 54 #[.agg #[.string s, .slice pa pn pc, .int .i64 r, .slice va vn vc, .slice ba bn bc, .slice fa fn fc]] w fun e w' => e = .returned (.bool (reachedP f)) /\ Below w.heap.size w w' := by
 unfold reachedP
 have A0 : Af1 w (.cells #[.string s, .slice pa pn pc, .int .i64 r, .slice va vn vc, .slice ba bn bc, .slice fa fn fc] 77) (w.alloc (.cells #[.string s, .slice pa pn pc, .int .i64 r, .slice va vn vc, .slice ba bn bc, .slice fa fn fc] 77)) := Af1.refl _ _
 have HC : Hid (Ctx (w.alloc (.cells #[.string s, .slice pa pn pc, .int .i64 r, .slice va vn vc, .slice ba bn bc, .slice fa fn fc] 77)) s pa pn pc r va vn vc ba bn bc fa fn fc f FS) := C.below A0.low (Nat.le_refl _)
 have HE : Hid (bn = (waysP f).length) := by have := C.eb; simp [Hid, waysP]; exact this
 generalize hR : (reachP (waysP f)).all id = R
 clear C
 go_enter Tryz.func54, Tryz.ntmps54
 go_wp2_with (first
  | (go_at_call 84; refine (to_any _ HC.out hbn).mono ?_; rintro e w1 ⟨go, rfl, hI, hb1⟩)
  | (go_at_call 88; refine (reach_any w1 _ _ _ (waysP f) HE.out hI hbn).mono ?_; rintro e w2 ⟨v, rfl, hO, hb2⟩; obtain ⟨ao, c, e3, hBl⟩ := hO.bls; subst e3)
  | (go_at_call 87; refine (everyReached_at w2 _ _ _ (reachP (waysP f)) rfl hBl _ hR).mono ?_; rintro e w3 ⟨rfl, hb3⟩))
 go_ret
 exact ⟨rfl, (((A0.next hb1).next hb2).next hb3).low⟩
end Go.Proofs.YtfbkopjncmkbiabGreatDoor
