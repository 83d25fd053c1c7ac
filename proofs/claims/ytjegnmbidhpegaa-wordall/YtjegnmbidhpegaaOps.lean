import Derived.Test.YtjegnmbidhpegaaRows
import Derived.WalkKit
import Derived.ProofKit
import Derived.WalkLawsBesides
import Derived.WalkSpells
import Derived.Deep.WholeRow
namespace Go.Proofs.Ytjegnmbidhpegaa
open Go.ChangeShapes Go.WideShapes Go.ChangeAt Go.RowKit

theorem grown_trans {a b c : World} (h : Grown a b) (k : Grown b c) : Grown a c :=
  ⟨World.keptBut_trans h.1 k.1, fun x => (k.2.1 x).trans (h.2.1 x), Nat.le_trans h.2.2 k.2.2⟩

theorem add_any (a b : Int) (w : World) : Calls Try.prog 11 #[.int .i64 a, .int .i64 b] w fun e w' => e = .returned (.int .i64 (wrap64 (a + b))) ∧ w' = w := by
  go_enter Try.func11, Try.ntmps11
  go_wp2
  go_ret
  exact ⟨rfl, rfl⟩
theorem sub_any (a b : Int) (w : World) : Calls Try.prog 13 #[.int .i64 a, .int .i64 b] w fun e w' => e = .returned (.int .i64 (wrap64 (a - b))) ∧ w' = w := by
  go_enter Try.func13, Try.ntmps13
  go_wp2
  go_ret
  exact ⟨rfl, rfl⟩
theorem mul_any (a b : Int) (w : World) : Calls Try.prog 12 #[.int .i64 a, .int .i64 b] w fun e w' => e = .returned (.int .i64 (wrap64 (a * b))) ∧ w' = w := by
  go_enter Try.func12, Try.ntmps12
  go_wp2
  go_ret
  exact ⟨rfl, rfl⟩
theorem and_any (a b : Int) (w : World) : Calls Try.prog 17 #[.int .i64 a, .int .i64 b] w fun e w' => e = .returned (.int .i64 (bits .and .i64 a b)) ∧ w' = w := by
  go_enter Try.func17, Try.ntmps17
  go_wp2
  go_ret
  exact ⟨rfl, rfl⟩
theorem or_any (a b : Int) (w : World) : Calls Try.prog 18 #[.int .i64 a, .int .i64 b] w fun e w' => e = .returned (.int .i64 (bits .or .i64 a b)) ∧ w' = w := by
  go_enter Try.func18, Try.ntmps18
  go_wp2
  go_ret
  exact ⟨rfl, rfl⟩
theorem xor_any (a b : Int) (w : World) : Calls Try.prog 19 #[.int .i64 a, .int .i64 b] w fun e w' => e = .returned (.int .i64 (bits .xor .i64 a b)) ∧ w' = w := by
  go_enter Try.func19, Try.ntmps19
  go_wp2
  go_ret
  exact ⟨rfl, rfl⟩
theorem bic_any (a b : Int) (w : World) : Calls Try.prog 21 #[.int .i64 a, .int .i64 b] w fun e w' => e = .returned (.int .i64 (bits .andNot .i64 a b)) ∧ w' = w := by
  go_enter Try.func21, Try.ntmps21
  go_wp2
  go_ret
  exact ⟨rfl, rfl⟩
theorem inv_any (a : Int) (w : World) : Calls Try.prog 20 #[.int .i64 a] w fun e w' => e = .returned (.int .i64 (bits .xor .i64 (-1) a)) ∧ w' = w := by
  go_enter Try.func20, Try.ntmps20
  go_wp2
  go_ret
  exact ⟨rfl, rfl⟩
theorem neg_any (a : Int) (w : World) : Calls Try.prog 14 #[.int .i64 a] w fun e w' => e = .returned (.int .i64 (wrap64 (-a))) ∧ w' = w := by
  go_enter Try.func14, Try.ntmps14
  go_wp2
  go_ret
  exact ⟨rfl, rfl⟩

/-- Shl and Shr of chapter 1, over the plain integers. -/
def shlI (a b : Int) : Int := if b < 0 then 0 else wrap64 (a * 2 ^ min b.toNat 64)
def shrI (a b : Int) : Int := if b < 0 then 0 else a / 2 ^ min b.toNat 64
theorem shl_any (a b : Int) (w : World) : Calls Try.prog 32 #[.int .i64 a, .int .i64 b] w fun e w' => e = .returned (.int .i64 (shlI a b)) ∧ w' = w := by
  by_cases h : b < 0
  · have e1 : Hid (shlI a b = 0) := by unfold shlI; rw [if_pos h]; rfl
    rw [e1.out]; clear e1
    go_enter Try.func32, Try.ntmps32
    go_wp2
    go_ret
    exact ⟨rfl, rfl⟩
  · have e1 : Hid (shlI a b = wrap64 (a * 2 ^ min b.toNat 64)) := by unfold shlI; rw [if_neg h]; rfl
    rw [e1.out]; clear e1
    go_enter Try.func32, Try.ntmps32
    go_wp2
    go_ret
    exact ⟨by rw [← IntWalk.i64_left]; rfl, rfl⟩
theorem shr_any (a b : Int) (w : World) : Calls Try.prog 34 #[.int .i64 a, .int .i64 b] w fun e w' => e = .returned (.int .i64 (shrI a b)) ∧ w' = w := by
  by_cases h : b < 0
  · have e1 : Hid (shrI a b = 0) := by unfold shrI; rw [if_pos h]; rfl
    rw [e1.out]; clear e1
    go_enter Try.func34, Try.ntmps34
    go_wp2
    go_ret
    exact ⟨rfl, rfl⟩
  · have e1 : Hid (shrI a b = a / 2 ^ min b.toNat 64) := by unfold shrI; rw [if_neg h]; rfl
    rw [e1.out]; clear e1
    go_enter Try.func34, Try.ntmps34
    go_wp2
    go_ret
    exact ⟨rfl, rfl⟩

/-- Div and Rem of chapter 1. -/
def divI (a b : Int) : Int := if b = 0 then 0 else wrap64 (a.tdiv b)
def remI (a b : Int) : Int := if b = 0 then 0 else a.tmod b
theorem div_any (a b : Int) (w : World) : Calls Try.prog 15 #[.int .i64 a, .int .i64 b] w fun e w' => e = .returned (.int .i64 (divI a b)) ∧ w' = w := by
  by_cases h : b = 0
  · subst h
    go_enter Try.func15, Try.ntmps15
    go_wp2
    go_ret
    exact ⟨rfl, rfl⟩
  · have e1 : Hid (divI a b = wrap64 (a.tdiv b)) := by unfold divI; rw [if_neg h]; rfl
    rw [e1.out]; clear e1
    have h1 : (b == 0) = false := by simp [h]
    go_enter Try.func15, Try.ntmps15
    go_wp2
    go_ret
    exact ⟨rfl, rfl⟩

theorem rem_any (a b : Int) (w : World) : Calls Try.prog 16 #[.int .i64 a, .int .i64 b] w fun e w' => e = .returned (.int .i64 (remI a b)) ∧ w' = w := by
  by_cases h : b = 0
  · subst h
    go_enter Try.func16, Try.ntmps16
    go_wp2
    go_ret
    exact ⟨rfl, rfl⟩
  · have e1 : Hid (remI a b = a.tmod b) := by unfold remI; rw [if_neg h]; rfl
    rw [e1.out]; clear e1
    have h1 : (b == 0) = false := by simp [h]
    go_enter Try.func16, Try.ntmps16
    go_wp2
    go_ret
    exact ⟨rfl, rfl⟩

/-- What a comparison gives. -/
def truthI (p : Bool) : Int := if p then 1 else 0
theorem truth_any (p : Bool) (w : World) : Calls Try.prog 44 #[.bool p] w fun e w' => e = .returned (.int .i64 (truthI p)) ∧ w' = w := by
  cases p
  · go_enter Try.func44, Try.ntmps44
    go_wp2
    go_ret
    exact ⟨rfl, rfl⟩
  · go_enter Try.func44, Try.ntmps44
    go_wp2
    go_ret
    exact ⟨rfl, rfl⟩
theorem eq_any (a b : Int) (w : World) : Calls Try.prog 43 #[.int .i64 a, .int .i64 b] w fun e w' => e = .returned (.int .i64 (truthI (a == b))) ∧ w' = w := by
  go_enter Try.func43, Try.ntmps43
  go_wp2_with (go_at_call 44; refine (truth_any _ _).mono ?_; rintro e w' ⟨rfl, rfl⟩)
  go_ret
  exact ⟨rfl, rfl⟩
theorem ne_any (a b : Int) (w : World) : Calls Try.prog 45 #[.int .i64 a, .int .i64 b] w fun e w' => e = .returned (.int .i64 (truthI (a != b))) ∧ w' = w := by
  go_enter Try.func45, Try.ntmps45
  go_wp2_with (go_at_call 44; refine (truth_any _ _).mono ?_; rintro e w' ⟨rfl, rfl⟩)
  go_ret
  exact ⟨rfl, rfl⟩
theorem lt_any (a b : Int) (w : World) : Calls Try.prog 46 #[.int .i64 a, .int .i64 b] w fun e w' => e = .returned (.int .i64 (truthI (decide (a < b)))) ∧ w' = w := by
  go_enter Try.func46, Try.ntmps46
  go_wp2_with (go_at_call 44; refine (truth_any _ _).mono ?_; rintro e w' ⟨rfl, rfl⟩)
  go_ret
  exact ⟨rfl, rfl⟩
theorem le_any (a b : Int) (w : World) : Calls Try.prog 47 #[.int .i64 a, .int .i64 b] w fun e w' => e = .returned (.int .i64 (truthI (decide (a ≤ b)))) ∧ w' = w := by
  go_enter Try.func47, Try.ntmps47
  go_wp2_with (go_at_call 44; refine (truth_any _ _).mono ?_; rintro e w' ⟨rfl, rfl⟩)
  go_ret
  exact ⟨rfl, rfl⟩
theorem neg2_any (a b : Int) (w : World) : Calls Try.prog 48 #[.int .i64 a, .int .i64 b] w fun e w' => e = .returned (.int .i64 (wrap64 (-a))) ∧ w' = w := by
  go_enter Try.func48, Try.ntmps48
  go_wp2_with (go_at_call 14; refine (neg_any _ _).mono ?_; rintro e w' ⟨rfl, rfl⟩)
  go_ret
  exact ⟨rfl, rfl⟩
theorem inv2_any (a b : Int) (w : World) : Calls Try.prog 49 #[.int .i64 a, .int .i64 b] w fun e w' => e = .returned (.int .i64 (bits .xor .i64 (-1) a)) ∧ w' = w := by
  go_enter Try.func49, Try.ntmps49
  go_wp2_with (go_at_call 20; refine (inv_any _ _).mono ?_; rintro e w' ⟨rfl, rfl⟩)
  go_ret
  exact ⟨rfl, rfl⟩
theorem not_any (a b : Int) (w : World) : Calls Try.prog 50 #[.int .i64 a, .int .i64 b] w fun e w' => e = .returned (.int .i64 (wrap64 (1 - a))) ∧ w' = w := by
  go_enter Try.func50, Try.ntmps50
  go_wp2_with (go_at_call 13; refine (sub_any _ _ _).mono ?_; rintro e w' ⟨rfl, rfl⟩)
  go_ret
  exact ⟨rfl, rfl⟩

/-- The table of chapter 1: the functions' values in the order of the operations' numbers. -/
def tbl : Array Value := #[Value.func (Fn.func 11) #[] #[], Value.func (Fn.func 13) #[] #[], Value.func (Fn.func 12) #[] #[], Value.func (Fn.func 15) #[] #[], Value.func (Fn.func 16) #[] #[], Value.func (Fn.func 17) #[] #[], Value.func (Fn.func 18) #[] #[], Value.func (Fn.func 19) #[] #[], Value.func (Fn.func 21) #[] #[], Value.func (Fn.func 32) #[] #[], Value.func (Fn.func 34) #[] #[], Value.func (Fn.func 43) #[] #[], Value.func (Fn.func 45) #[] #[], Value.func (Fn.func 46) #[] #[], Value.func (Fn.func 47) #[] #[], Value.func (Fn.func 48) #[] #[], Value.func (Fn.func 49) #[] #[], Value.func (Fn.func 50) #[] #[]]
theorem operations_any (w : World) : Calls Try.prog 39 #[] w fun e w' => e = .returned (.agg tbl) ∧ w' = w.alloc (.cells tbl 35) := by
  go_enter Try.func39, Try.ntmps39
  go_wp2_with (refine wpList_store_row rfl 35 _ _ rfl _ _ rfl rfl 35 _ (heap_alloc_new _ _) (by kernel_rfl) rfl (by kernel_rfl) ?_; rw [World.setRow_alloc_new])
  refine bodyPost_ret (v := .agg tbl) ?_ rfl ⟨rfl, rfl⟩
  exact results_cell_row rfl _ _ _ 35 tbl (0, 0) _ rfl (heap_alloc_new _ _) Try.underlying35 rfl (by kernel_rfl)
end Go.Proofs.Ytjegnmbidhpegaa
