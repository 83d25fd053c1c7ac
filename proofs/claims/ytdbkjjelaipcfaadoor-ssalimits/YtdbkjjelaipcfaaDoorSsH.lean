import Derived.Test.YtdbkjjelaipcfaaDoorSsG
set_option linter.unusedVariables false
set_option linter.unusedSimpArgs false
namespace Go.Proofs.YtdbkjjelaipcfaaDoor
open Go.ChangeShapes Go.WideShapes Go.ChangeAt Go.RowKit Go.Maps

def tcount (kd : Int) : Nat := if kd = 1 then 1 else if kd = 2 then 2 else 0
def tuses (r kd : Int) : Bool := if kd = 1 then false else if kd = 3 then !decide (r = 0) else true
def termP (f : Fu) (kd vl : Int) (to' : List Int) : Bool := decide (1 ≤ kd ∧ kd ≤ 4) && (decide (to'.length = tcount kd) && (to'.all (wi f.blks.length) && (if tuses f.result kd = true then wi f.vals.length vl else decide (vl = -1))))
set_option maxRecDepth 100000 in
set_option maxHeartbeats 2000000 in
theorem termFits_one (w : World) {s : ByteArray} {pa : Option Addr} {pn pc : Nat} {r : Int} {va : Option Addr} {vn vc : Nat} {ba : Option Addr} {bn bc : Nat} {fa : Option Addr} {fn fc : Nat} {f : Fu} {FS : List Fu} (C : Ctx w s pa pn pc r va vn vc ba bn bc fa fn fc f FS) (vl : Int) (ma : Option Addr) (ml mc : Nat) (M : List Int) (hml : ml = M.length) (hM : Ints w ma mc M)  :
    Calls Tryd.prog 65 #[.agg #[.string s, .slice pa pn pc, .int .i64 r, .slice va vn vc, .slice ba bn bc, .slice fa fn fc], .agg #[.int .i64 1, .int .i64 vl, .slice ma ml mc]] w fun e w' => e = .returned (.bool (termP f 1 vl M)) ∧ Below w.heap.size w w' := by
  have HI : Hid (∀ w', Aft w (.cells #[.string s, .slice pa pn pc, .int .i64 r, .slice va vn vc, .slice ba bn bc, .slice fa fn fc] 47) (.cells #[.int .i64 1, .int .i64 vl, .slice ma ml mc] 31) w' → Ints w' ma mc M) := fun w' h => hM.below h.low (Nat.le_refl _)
  have HL : Hid (ml = M.length) := hml
  have A0 : Aft w (.cells #[.string s, .slice pa pn pc, .int .i64 r, .slice va vn vc, .slice ba bn bc, .slice fa fn fc] 47) (.cells #[.int .i64 1, .int .i64 vl, .slice ma ml mc] 31) ((w.alloc (.cells #[.string s, .slice pa pn pc, .int .i64 r, .slice va vn vc, .slice ba bn bc, .slice fa fn fc] 47)).alloc (.cells #[.int .i64 1, .int .i64 vl, .slice ma ml mc] 31)) := Aft.refl _ _ _
  have e0 : termP f 1 vl M = (decide (ml = 1) && (M.all (wi bn) && (decide (vl = -1)))) := by
    unfold termP; rw [hml, C.eb]; simp [tcount, tuses]
  rw [e0]
  clear C hM hml e0
  by_cases h1 : ml = 1
  · rw [decide_eq_true h1]
    subst h1
    cases h2 : M.all (wi bn) with
    | false =>
      go_enter Tryd.func65, Tryd.ntmps65
      go_wp2_with (go_at_call 64; refine (allWithinB_at _ _ _ _ M HL.out (HI.out _ A0) _ _ _ _ h2).mono ?_; rintro e w1 ⟨rfl, hb1⟩)
      go_ret
      exact ⟨rfl, (A0.next hb1).low⟩
    | true =>
      go_enter Tryd.func65, Tryd.ntmps65
      go_wp2_with (go_at_call 64; refine (allWithinB_at _ _ _ _ M HL.out (HI.out _ A0) _ _ _ _ h2).mono ?_; rintro e w1 ⟨rfl, hb1⟩; have A1 := A0.next hb1; obtain ⟨f0, f1, f2, f3, f4, f5⟩ := fcells A1.one; obtain ⟨t0, t1, t2⟩ := tcells A1.two)
      go_ret
      exact ⟨rfl, A1.low⟩
  · have h1' : ((ml : Int) != 1) = true := by simp; omega
    rw [decide_eq_false h1]
    go_enter Tryd.func65, Tryd.ntmps65
    go_wp2_with fail
    go_ret
    exact ⟨rfl, A0.low⟩
set_option maxRecDepth 100000 in
set_option maxHeartbeats 2000000 in
theorem termFits_two (w : World) {s : ByteArray} {pa : Option Addr} {pn pc : Nat} {r : Int} {va : Option Addr} {vn vc : Nat} {ba : Option Addr} {bn bc : Nat} {fa : Option Addr} {fn fc : Nat} {f : Fu} {FS : List Fu} (C : Ctx w s pa pn pc r va vn vc ba bn bc fa fn fc f FS) (vl : Int) (ma : Option Addr) (ml mc : Nat) (M : List Int) (hml : ml = M.length) (hM : Ints w ma mc M)  :
    Calls Tryd.prog 65 #[.agg #[.string s, .slice pa pn pc, .int .i64 r, .slice va vn vc, .slice ba bn bc, .slice fa fn fc], .agg #[.int .i64 2, .int .i64 vl, .slice ma ml mc]] w fun e w' => e = .returned (.bool (termP f 2 vl M)) ∧ Below w.heap.size w w' := by
  have HI : Hid (∀ w', Aft w (.cells #[.string s, .slice pa pn pc, .int .i64 r, .slice va vn vc, .slice ba bn bc, .slice fa fn fc] 47) (.cells #[.int .i64 2, .int .i64 vl, .slice ma ml mc] 31) w' → Ints w' ma mc M) := fun w' h => hM.below h.low (Nat.le_refl _)
  have HL : Hid (ml = M.length) := hml
  have A0 : Aft w (.cells #[.string s, .slice pa pn pc, .int .i64 r, .slice va vn vc, .slice ba bn bc, .slice fa fn fc] 47) (.cells #[.int .i64 2, .int .i64 vl, .slice ma ml mc] 31) ((w.alloc (.cells #[.string s, .slice pa pn pc, .int .i64 r, .slice va vn vc, .slice ba bn bc, .slice fa fn fc] 47)).alloc (.cells #[.int .i64 2, .int .i64 vl, .slice ma ml mc] 31)) := Aft.refl _ _ _
  have e0 : termP f 2 vl M = (decide (ml = 2) && (M.all (wi bn) && (wi vn vl))) := by
    unfold termP; rw [hml, C.eb, C.ev]; simp [tcount, tuses]
  rw [e0]
  clear C hM hml e0
  by_cases h1 : ml = 2
  · rw [decide_eq_true h1]
    subst h1
    cases h2 : M.all (wi bn) with
    | false =>
      go_enter Tryd.func65, Tryd.ntmps65
      go_wp2_with (go_at_call 64; refine (allWithinB_at _ _ _ _ M HL.out (HI.out _ A0) _ _ _ _ h2).mono ?_; rintro e w1 ⟨rfl, hb1⟩)
      go_ret
      exact ⟨rfl, (A0.next hb1).low⟩
    | true =>
      generalize h3 : wi vn vl = R
      go_enter Tryd.func65, Tryd.ntmps65
      go_wp2_with (first
        | (go_at_call 64; refine (allWithinB_at _ _ _ _ M HL.out (HI.out _ A0) _ _ _ _ h2).mono ?_; rintro e w1 ⟨rfl, hb1⟩; have A1 := A0.next hb1; obtain ⟨f0, f1, f2, f3, f4, f5⟩ := fcells A1.one; obtain ⟨t0, t1, t2⟩ := tcells A1.two)
        | (go_at_call 58; refine (withinV_at _ _ _ _ _ _ h3).mono ?_; rintro e w' ⟨rfl, rfl⟩))
      go_ret
      exact ⟨by simp, A1.low⟩
  · have h1' : ((ml : Int) != 2) = true := by simp; omega
    rw [decide_eq_false h1]
    go_enter Tryd.func65, Tryd.ntmps65
    go_wp2_with fail
    go_ret
    exact ⟨rfl, A0.low⟩
set_option maxRecDepth 100000 in
set_option maxHeartbeats 2000000 in
theorem termFits_none (w : World) {s : ByteArray} {pa : Option Addr} {pn pc : Nat} {r : Int} {va : Option Addr} {vn vc : Nat} {ba : Option Addr} {bn bc : Nat} {fa : Option Addr} {fn fc : Nat} {f : Fu} {FS : List Fu} (C : Ctx w s pa pn pc r va vn vc ba bn bc fa fn fc f FS) (vl : Int) (ma : Option Addr) (ml mc : Nat) (M : List Int) (hml : ml = M.length) (hM : Ints w ma mc M) (hr0 : r = 0) :
    Calls Tryd.prog 65 #[.agg #[.string s, .slice pa pn pc, .int .i64 r, .slice va vn vc, .slice ba bn bc, .slice fa fn fc], .agg #[.int .i64 3, .int .i64 vl, .slice ma ml mc]] w fun e w' => e = .returned (.bool (termP f 3 vl M)) ∧ Below w.heap.size w w' := by
  have HI : Hid (∀ w', Aft w (.cells #[.string s, .slice pa pn pc, .int .i64 r, .slice va vn vc, .slice ba bn bc, .slice fa fn fc] 47) (.cells #[.int .i64 3, .int .i64 vl, .slice ma ml mc] 31) w' → Ints w' ma mc M) := fun w' h => hM.below h.low (Nat.le_refl _)
  have HL : Hid (ml = M.length) := hml
  have A0 : Aft w (.cells #[.string s, .slice pa pn pc, .int .i64 r, .slice va vn vc, .slice ba bn bc, .slice fa fn fc] 47) (.cells #[.int .i64 3, .int .i64 vl, .slice ma ml mc] 31) ((w.alloc (.cells #[.string s, .slice pa pn pc, .int .i64 r, .slice va vn vc, .slice ba bn bc, .slice fa fn fc] 47)).alloc (.cells #[.int .i64 3, .int .i64 vl, .slice ma ml mc] 31)) := Aft.refl _ _ _
  have hr1 : f.result = 0 := by rw [← C.er]; exact hr0
  have e0 : termP f 3 vl M = (decide (ml = 0) && (M.all (wi bn) && (decide (vl = -1)))) := by
    unfold termP; rw [hml, C.eb]; simp [tcount, tuses, hr1]
  rw [e0]
  have hr2 : (r != (0 : Int)) = false := by simp [hr0]
  clear C hM hml e0 hr1 hr0
  by_cases h1 : ml = 0
  · rw [decide_eq_true h1]
    subst h1
    cases h2 : M.all (wi bn) with
    | false =>
      go_enter Tryd.func65, Tryd.ntmps65
      go_wp2_with (go_at_call 64; refine (allWithinB_at _ _ _ _ M HL.out (HI.out _ A0) _ _ _ _ h2).mono ?_; rintro e w1 ⟨rfl, hb1⟩)
      go_ret
      exact ⟨rfl, (A0.next hb1).low⟩
    | true =>
      go_enter Tryd.func65, Tryd.ntmps65
      go_wp2_with (go_at_call 64; refine (allWithinB_at _ _ _ _ M HL.out (HI.out _ A0) _ _ _ _ h2).mono ?_; rintro e w1 ⟨rfl, hb1⟩; have A1 := A0.next hb1; obtain ⟨f0, f1, f2, f3, f4, f5⟩ := fcells A1.one; obtain ⟨t0, t1, t2⟩ := tcells A1.two)
      go_ret
      exact ⟨rfl, A1.low⟩
  · have h1' : ((ml : Int) != 0) = true := by simp; omega
    rw [decide_eq_false h1]
    go_enter Tryd.func65, Tryd.ntmps65
    go_wp2_with fail
    go_ret
    exact ⟨rfl, A0.low⟩
set_option maxRecDepth 100000 in
set_option maxHeartbeats 2000000 in
theorem termFits_some (w : World) {s : ByteArray} {pa : Option Addr} {pn pc : Nat} {r : Int} {va : Option Addr} {vn vc : Nat} {ba : Option Addr} {bn bc : Nat} {fa : Option Addr} {fn fc : Nat} {f : Fu} {FS : List Fu} (C : Ctx w s pa pn pc r va vn vc ba bn bc fa fn fc f FS) (vl : Int) (ma : Option Addr) (ml mc : Nat) (M : List Int) (hml : ml = M.length) (hM : Ints w ma mc M) (hr0 : ¬ r = 0) :
    Calls Tryd.prog 65 #[.agg #[.string s, .slice pa pn pc, .int .i64 r, .slice va vn vc, .slice ba bn bc, .slice fa fn fc], .agg #[.int .i64 3, .int .i64 vl, .slice ma ml mc]] w fun e w' => e = .returned (.bool (termP f 3 vl M)) ∧ Below w.heap.size w w' := by
  have HI : Hid (∀ w', Aft w (.cells #[.string s, .slice pa pn pc, .int .i64 r, .slice va vn vc, .slice ba bn bc, .slice fa fn fc] 47) (.cells #[.int .i64 3, .int .i64 vl, .slice ma ml mc] 31) w' → Ints w' ma mc M) := fun w' h => hM.below h.low (Nat.le_refl _)
  have HL : Hid (ml = M.length) := hml
  have A0 : Aft w (.cells #[.string s, .slice pa pn pc, .int .i64 r, .slice va vn vc, .slice ba bn bc, .slice fa fn fc] 47) (.cells #[.int .i64 3, .int .i64 vl, .slice ma ml mc] 31) ((w.alloc (.cells #[.string s, .slice pa pn pc, .int .i64 r, .slice va vn vc, .slice ba bn bc, .slice fa fn fc] 47)).alloc (.cells #[.int .i64 3, .int .i64 vl, .slice ma ml mc] 31)) := Aft.refl _ _ _
  have hr1 : ¬ f.result = 0 := by rw [← C.er]; exact hr0
  have e0 : termP f 3 vl M = (decide (ml = 0) && (M.all (wi bn) && (wi vn vl))) := by
    unfold termP; rw [hml, C.eb, C.ev]; simp [tcount, tuses, hr1]
  rw [e0]
  have hr2 : (r != (0 : Int)) = true := by simp [hr0]
  clear C hM hml e0 hr1 hr0
  by_cases h1 : ml = 0
  · rw [decide_eq_true h1]
    subst h1
    cases h2 : M.all (wi bn) with
    | false =>
      go_enter Tryd.func65, Tryd.ntmps65
      go_wp2_with (go_at_call 64; refine (allWithinB_at _ _ _ _ M HL.out (HI.out _ A0) _ _ _ _ h2).mono ?_; rintro e w1 ⟨rfl, hb1⟩)
      go_ret
      exact ⟨rfl, (A0.next hb1).low⟩
    | true =>
      generalize h3 : wi vn vl = R
      go_enter Tryd.func65, Tryd.ntmps65
      go_wp2_with (first
        | (go_at_call 64; refine (allWithinB_at _ _ _ _ M HL.out (HI.out _ A0) _ _ _ _ h2).mono ?_; rintro e w1 ⟨rfl, hb1⟩; have A1 := A0.next hb1; obtain ⟨f0, f1, f2, f3, f4, f5⟩ := fcells A1.one; obtain ⟨t0, t1, t2⟩ := tcells A1.two)
        | (go_at_call 58; refine (withinV_at _ _ _ _ _ _ h3).mono ?_; rintro e w' ⟨rfl, rfl⟩))
      go_ret
      exact ⟨by simp, A1.low⟩
  · have h1' : ((ml : Int) != 0) = true := by simp; omega
    rw [decide_eq_false h1]
    go_enter Tryd.func65, Tryd.ntmps65
    go_wp2_with fail
    go_ret
    exact ⟨rfl, A0.low⟩
set_option maxRecDepth 100000 in
set_option maxHeartbeats 2000000 in
theorem termFits_four (w : World) {s : ByteArray} {pa : Option Addr} {pn pc : Nat} {r : Int} {va : Option Addr} {vn vc : Nat} {ba : Option Addr} {bn bc : Nat} {fa : Option Addr} {fn fc : Nat} {f : Fu} {FS : List Fu} (C : Ctx w s pa pn pc r va vn vc ba bn bc fa fn fc f FS) (vl : Int) (ma : Option Addr) (ml mc : Nat) (M : List Int) (hml : ml = M.length) (hM : Ints w ma mc M)  :
    Calls Tryd.prog 65 #[.agg #[.string s, .slice pa pn pc, .int .i64 r, .slice va vn vc, .slice ba bn bc, .slice fa fn fc], .agg #[.int .i64 4, .int .i64 vl, .slice ma ml mc]] w fun e w' => e = .returned (.bool (termP f 4 vl M)) ∧ Below w.heap.size w w' := by
  have HI : Hid (∀ w', Aft w (.cells #[.string s, .slice pa pn pc, .int .i64 r, .slice va vn vc, .slice ba bn bc, .slice fa fn fc] 47) (.cells #[.int .i64 4, .int .i64 vl, .slice ma ml mc] 31) w' → Ints w' ma mc M) := fun w' h => hM.below h.low (Nat.le_refl _)
  have HL : Hid (ml = M.length) := hml
  have A0 : Aft w (.cells #[.string s, .slice pa pn pc, .int .i64 r, .slice va vn vc, .slice ba bn bc, .slice fa fn fc] 47) (.cells #[.int .i64 4, .int .i64 vl, .slice ma ml mc] 31) ((w.alloc (.cells #[.string s, .slice pa pn pc, .int .i64 r, .slice va vn vc, .slice ba bn bc, .slice fa fn fc] 47)).alloc (.cells #[.int .i64 4, .int .i64 vl, .slice ma ml mc] 31)) := Aft.refl _ _ _
  have e0 : termP f 4 vl M = (decide (ml = 0) && (M.all (wi bn) && (wi vn vl))) := by
    unfold termP; rw [hml, C.eb, C.ev]; simp [tcount, tuses]
  rw [e0]
  clear C hM hml e0
  by_cases h1 : ml = 0
  · rw [decide_eq_true h1]
    subst h1
    cases h2 : M.all (wi bn) with
    | false =>
      go_enter Tryd.func65, Tryd.ntmps65
      go_wp2_with (go_at_call 64; refine (allWithinB_at _ _ _ _ M HL.out (HI.out _ A0) _ _ _ _ h2).mono ?_; rintro e w1 ⟨rfl, hb1⟩)
      go_ret
      exact ⟨rfl, (A0.next hb1).low⟩
    | true =>
      generalize h3 : wi vn vl = R
      go_enter Tryd.func65, Tryd.ntmps65
      go_wp2_with (first
        | (go_at_call 64; refine (allWithinB_at _ _ _ _ M HL.out (HI.out _ A0) _ _ _ _ h2).mono ?_; rintro e w1 ⟨rfl, hb1⟩; have A1 := A0.next hb1; obtain ⟨f0, f1, f2, f3, f4, f5⟩ := fcells A1.one; obtain ⟨t0, t1, t2⟩ := tcells A1.two)
        | (go_at_call 58; refine (withinV_at _ _ _ _ _ _ h3).mono ?_; rintro e w' ⟨rfl, rfl⟩))
      go_ret
      exact ⟨by simp, A1.low⟩
  · have h1' : ((ml : Int) != 0) = true := by simp; omega
    rw [decide_eq_false h1]
    go_enter Tryd.func65, Tryd.ntmps65
    go_wp2_with fail
    go_ret
    exact ⟨rfl, A0.low⟩
theorem termFits_no (w : World) {s : ByteArray} {pa : Option Addr} {pn pc : Nat} {r : Int} {va : Option Addr} {vn vc : Nat} {ba : Option Addr} {bn bc : Nat} {fa : Option Addr} {fn fc : Nat} {f : Fu} {FS : List Fu} (C : Ctx w s pa pn pc r va vn vc ba bn bc fa fn fc f FS) (vl : Int) (ma : Option Addr) (ml mc : Nat) (M : List Int) (hml : ml = M.length) (hM : Ints w ma mc M) (kd : Int) (k1 : ¬ kd = 1) (k2 : ¬ kd = 2) (k3 : ¬ kd = 3) (k4 : ¬ kd = 4) : Calls Tryd.prog 65 #[.agg #[.string s, .slice pa pn pc, .int .i64 r, .slice va vn vc, .slice ba bn bc, .slice fa fn fc], .agg #[.int .i64 kd, .int .i64 vl, .slice ma ml mc]] w fun e w' => e = .returned (.bool (termP f kd vl M)) ∧ Below w.heap.size w w' := by
  have A0 : Aft w (.cells #[.string s, .slice pa pn pc, .int .i64 r, .slice va vn vc, .slice ba bn bc, .slice fa fn fc] 47) (.cells #[.int .i64 kd, .int .i64 vl, .slice ma ml mc] 31) ((w.alloc (.cells #[.string s, .slice pa pn pc, .int .i64 r, .slice va vn vc, .slice ba bn bc, .slice fa fn fc] 47)).alloc (.cells #[.int .i64 kd, .int .i64 vl, .slice ma ml mc] 31)) := Aft.refl _ _ _
  have e0 : termP f kd vl M = false := by unfold termP; rw [decide_eq_false (by omega)]; rfl
  rw [e0]
  clear C hM hml e0
  go_enter Tryd.func65, Tryd.ntmps65
  go_wp2_with fail
  go_ret
  exact ⟨rfl, A0.low⟩
theorem termFits_any (w : World) {s : ByteArray} {pa : Option Addr} {pn pc : Nat} {r : Int} {va : Option Addr} {vn vc : Nat} {ba : Option Addr} {bn bc : Nat} {fa : Option Addr} {fn fc : Nat} {f : Fu} {FS : List Fu} (C : Ctx w s pa pn pc r va vn vc ba bn bc fa fn fc f FS) (vl : Int) (ma : Option Addr) (ml mc : Nat) (M : List Int) (hml : ml = M.length) (hM : Ints w ma mc M) (kd : Int) : Calls Tryd.prog 65 #[.agg #[.string s, .slice pa pn pc, .int .i64 r, .slice va vn vc, .slice ba bn bc, .slice fa fn fc], .agg #[.int .i64 kd, .int .i64 vl, .slice ma ml mc]] w fun e w' => e = .returned (.bool (termP f kd vl M)) ∧ Below w.heap.size w w' := by
  by_cases k1 : kd = 1
  · subst k1; exact termFits_one w C vl ma ml mc M hml hM
  by_cases k2 : kd = 2
  · subst k2; exact termFits_two w C vl ma ml mc M hml hM
  by_cases k3 : kd = 3
  · subst k3
    by_cases hr0 : r = 0
    · exact termFits_none w C vl ma ml mc M hml hM hr0
    · exact termFits_some w C vl ma ml mc M hml hM hr0
  by_cases k4 : kd = 4
  · subst k4; exact termFits_four w C vl ma ml mc M hml hM
  exact termFits_no w C vl ma ml mc M hml hM kd k1 k2 k3 k4
end Go.Proofs.YtdbkjjelaipcfaaDoor
