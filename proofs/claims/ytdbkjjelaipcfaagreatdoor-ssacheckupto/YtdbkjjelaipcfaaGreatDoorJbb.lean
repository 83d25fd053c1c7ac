import Derived.Test.YtdbkjjelaipcfaaGreatDoorJag
import Derived.Test.YtdbkjjelaipcfaaGreatDoorJaz
import Derived.Test.YtdbkjjelaipcfaaGreatDoorJba
set_option linter.unusedVariables false
set_option linter.unusedSimpArgs false
namespace Go.Proofs.YtdbkjjelaipcfaaGreatDoor
open Go.ChangeShapes Go.WideShapes Go.ChangeAt Go.RowKit Go.Maps
set_option maxRecDepth 100000 in
set_option maxHeartbeats 4000000 in
theorem rValue_1 (w : World) {fa : Option Addr} {fn fc : Nat} {mn : Int} {s : ByteArray} {pa : Option Addr} {pn pc : Nat} {r : Int} {va : Option Addr} {vn vc : Nat} {ba : Option Addr} {bn bc : Nat} {ka : Option Addr} {kl kc : Nat} (ty imm : Int) (c a b d g : Int) 
 (HR : Hid (∀ w, Calls Tryz.prog 115 #[.int .i64 1] w fun e w' => e = .returned (.tuple #[.agg #[.int .i64 c, .int .i64 a, .int .i64 b, .int .i64 d, .int .i64 g], .bool true]) /\ Below w.heap.size w w'))
 (HW : Hid (∀ w', VX w fa fn fc mn s pa pn pc r va vn vc ba bn bc 1 ty imm ka kl kc w' -> Calls Tryz.prog 83 #[.slice ka kl kc, .int .i64 vn] w' fun e w'' => e = .returned (.bool true) /\ w'' = w')) (hc : c < 0 \/ (kl : Int) = c) (h0 : 0 <= ty) (h3 : ty <= 3) :
 Calls Tryz.prog 84 #[.agg #[.slice fa fn fc, .int .i64 mn], .agg #[.string s, .slice pa pn pc, .int .i64 r, .slice va vn vc, .slice ba bn bc], .agg #[.int .i64 1, .int .i64 ty, .int .i64 imm, .slice ka kl kc]] w fun e w' => e = .returned (.bool (true)) /\ Below w.heap.size w w' := by
 have A0 : VX w fa fn fc mn s pa pn pc r va vn vc ba bn bc 1 ty imm ka kl kc (((w.alloc (.cells #[.slice fa fn fc, .int .i64 mn] 24)).alloc (.cells #[.string s, .slice pa pn pc, .int .i64 r, .slice va vn vc, .slice ba bn bc] 38)).alloc (.cells #[.int .i64 1, .int .i64 ty, .int .i64 imm, .slice ka kl kc] 42)) := ⟨Below.refl _ _⟩
 have HBx : Hid (∀ w1 o q, VX w fa fn fc mn s pa pn pc r va vn vc ba bn bc 1 ty imm ka kl kc w1 -> Below w.heap.size w ((w1.alloc o).drewN q)) := fun w1 o q h => below_drewN (h.low.alloc (by have := h.size; omega) _) q
 rcases hc with hc | rfl
 all_goals
  go_enter Tryz.func84, Tryz.ntmps84
  go_wp2_with (first | (go_at_call 115; refine (HR.out _).mono ?_; rintro e w1 ⟨rfl, hb1⟩; have A1 := A0.next hb1; obtain ⟨k0, k1, k2, k3, k4, k5, k6, k7, k8⟩ := VX.cells A1) | (go_at_call 83; refine (HW.out _ (A1.next ((Below.refl _ _).alloc (Nat.le_refl _) _))).mono ?_; rintro e w' ⟨rfl, rfl⟩))
  go_ret
  exact ⟨rfl, HBx.out _ _ 0 A1⟩
set_option maxRecDepth 100000 in
set_option maxHeartbeats 4000000 in
theorem rValue_33 (w : World) {fa : Option Addr} {fn fc : Nat} {mn : Int} {s : ByteArray} {pa : Option Addr} {pn pc : Nat} {r : Int} {va : Option Addr} {vn vc : Nat} {ba : Option Addr} {bn bc : Nat} {ka : Option Addr} {kl kc : Nat} (ty imm : Int) (c a b d g : Int) 
 (HR : Hid (∀ w, Calls Tryz.prog 115 #[.int .i64 33] w fun e w' => e = .returned (.tuple #[.agg #[.int .i64 c, .int .i64 a, .int .i64 b, .int .i64 d, .int .i64 g], .bool true]) /\ Below w.heap.size w w'))
 (HW : Hid (∀ w', VX w fa fn fc mn s pa pn pc r va vn vc ba bn bc 33 ty imm ka kl kc w' -> Calls Tryz.prog 83 #[.slice ka kl kc, .int .i64 vn] w' fun e w'' => e = .returned (.bool true) /\ w'' = w')) (hc : c < 0 \/ (kl : Int) = c) (h0 : 0 <= ty) (h3 : ty <= 3) :
 Calls Tryz.prog 84 #[.agg #[.slice fa fn fc, .int .i64 mn], .agg #[.string s, .slice pa pn pc, .int .i64 r, .slice va vn vc, .slice ba bn bc], .agg #[.int .i64 33, .int .i64 ty, .int .i64 imm, .slice ka kl kc]] w fun e w' => e = .returned (.bool (true)) /\ Below w.heap.size w w' := by
 have A0 : VX w fa fn fc mn s pa pn pc r va vn vc ba bn bc 33 ty imm ka kl kc (((w.alloc (.cells #[.slice fa fn fc, .int .i64 mn] 24)).alloc (.cells #[.string s, .slice pa pn pc, .int .i64 r, .slice va vn vc, .slice ba bn bc] 38)).alloc (.cells #[.int .i64 33, .int .i64 ty, .int .i64 imm, .slice ka kl kc] 42)) := ⟨Below.refl _ _⟩
 have HBx : Hid (∀ w1 o q, VX w fa fn fc mn s pa pn pc r va vn vc ba bn bc 33 ty imm ka kl kc w1 -> Below w.heap.size w ((w1.alloc o).drewN q)) := fun w1 o q h => below_drewN (h.low.alloc (by have := h.size; omega) _) q
 rcases hc with hc | rfl
 all_goals
  go_enter Tryz.func84, Tryz.ntmps84
  go_wp2_with (first | (go_at_call 115; refine (HR.out _).mono ?_; rintro e w1 ⟨rfl, hb1⟩; have A1 := A0.next hb1; obtain ⟨k0, k1, k2, k3, k4, k5, k6, k7, k8⟩ := VX.cells A1) | (go_at_call 83; refine (HW.out _ (A1.next ((Below.refl _ _).alloc (Nat.le_refl _) _))).mono ?_; rintro e w' ⟨rfl, rfl⟩))
  go_ret
  exact ⟨rfl, HBx.out _ _ 0 A1⟩
set_option maxRecDepth 100000 in
set_option maxHeartbeats 4000000 in
theorem rValue_28 (w : World) {fa : Option Addr} {fn fc : Nat} {mn : Int} {s : ByteArray} {pa : Option Addr} {pn pc : Nat} {r : Int} {va : Option Addr} {vn vc : Nat} {ba : Option Addr} {bn bc : Nat} {ka : Option Addr} {kl kc : Nat} (ty imm : Int) (c a b d g : Int) 
 (HR : Hid (∀ w, Calls Tryz.prog 115 #[.int .i64 28] w fun e w' => e = .returned (.tuple #[.agg #[.int .i64 c, .int .i64 a, .int .i64 b, .int .i64 d, .int .i64 g], .bool true]) /\ Below w.heap.size w w'))
 (HW : Hid (∀ w', VX w fa fn fc mn s pa pn pc r va vn vc ba bn bc 28 ty imm ka kl kc w' -> Calls Tryz.prog 83 #[.slice ka kl kc, .int .i64 vn] w' fun e w'' => e = .returned (.bool true) /\ w'' = w')) (hc : c < 0 \/ (kl : Int) = c) (h0 : 0 <= ty) (h3 : ty <= 3) :
 Calls Tryz.prog 84 #[.agg #[.slice fa fn fc, .int .i64 mn], .agg #[.string s, .slice pa pn pc, .int .i64 r, .slice va vn vc, .slice ba bn bc], .agg #[.int .i64 28, .int .i64 ty, .int .i64 imm, .slice ka kl kc]] w fun e w' => e = .returned (.bool (decide (1 <= imm /\ imm <= 5))) /\ Below w.heap.size w w' := by
 have A0 : VX w fa fn fc mn s pa pn pc r va vn vc ba bn bc 28 ty imm ka kl kc (((w.alloc (.cells #[.slice fa fn fc, .int .i64 mn] 24)).alloc (.cells #[.string s, .slice pa pn pc, .int .i64 r, .slice va vn vc, .slice ba bn bc] 38)).alloc (.cells #[.int .i64 28, .int .i64 ty, .int .i64 imm, .slice ka kl kc] 42)) := ⟨Below.refl _ _⟩
 have HBx : Hid (∀ w1 o q, VX w fa fn fc mn s pa pn pc r va vn vc ba bn bc 28 ty imm ka kl kc w1 -> Below w.heap.size w ((w1.alloc o).drewN q)) := fun w1 o q h => below_drewN (h.low.alloc (by have := h.size; omega) _) q
 by_cases h1 : 1 <= imm
 ·rcases hc with hc | rfl
  all_goals
   go_enter Tryz.func84, Tryz.ntmps84
   go_wp2_with (first | (go_at_call 115; refine (HR.out _).mono ?_; rintro e w1 ⟨rfl, hb1⟩; have A1 := A0.next hb1; obtain ⟨k0, k1, k2, k3, k4, k5, k6, k7, k8⟩ := VX.cells A1) | (go_at_call 83; refine (HW.out _ (A1.next ((Below.refl _ _).alloc (Nat.le_refl _) _))).mono ?_; rintro e w' ⟨rfl, rfl⟩))
   go_ret
   exact ⟨ret_bl (by simp [h1]), HBx.out _ _ 0 A1⟩
 ·rcases hc with hc | rfl
  all_goals
   go_enter Tryz.func84, Tryz.ntmps84
   go_wp2_with (first | (go_at_call 115; refine (HR.out _).mono ?_; rintro e w1 ⟨rfl, hb1⟩; have A1 := A0.next hb1; obtain ⟨k0, k1, k2, k3, k4, k5, k6, k7, k8⟩ := VX.cells A1) | (go_at_call 83; refine (HW.out _ (A1.next ((Below.refl _ _).alloc (Nat.le_refl _) _))).mono ?_; rintro e w' ⟨rfl, rfl⟩))
   go_ret
   exact ⟨ret_bl (by simp; omega), HBx.out _ _ 0 A1⟩
set_option maxRecDepth 100000 in
set_option maxHeartbeats 4000000 in
theorem rValue_29 (w : World) {fa : Option Addr} {fn fc : Nat} {mn : Int} {s : ByteArray} {pa : Option Addr} {pn pc : Nat} {r : Int} {va : Option Addr} {vn vc : Nat} {ba : Option Addr} {bn bc : Nat} {ka : Option Addr} {kl kc : Nat} (ty imm : Int) (c a b d g : Int) 
 (HR : Hid (∀ w, Calls Tryz.prog 115 #[.int .i64 29] w fun e w' => e = .returned (.tuple #[.agg #[.int .i64 c, .int .i64 a, .int .i64 b, .int .i64 d, .int .i64 g], .bool true]) /\ Below w.heap.size w w'))
 (HW : Hid (∀ w', VX w fa fn fc mn s pa pn pc r va vn vc ba bn bc 29 ty imm ka kl kc w' -> Calls Tryz.prog 83 #[.slice ka kl kc, .int .i64 vn] w' fun e w'' => e = .returned (.bool true) /\ w'' = w')) (hc : c < 0 \/ (kl : Int) = c) (h0 : 0 <= ty) (h3 : ty <= 3) :
 Calls Tryz.prog 84 #[.agg #[.slice fa fn fc, .int .i64 mn], .agg #[.string s, .slice pa pn pc, .int .i64 r, .slice va vn vc, .slice ba bn bc], .agg #[.int .i64 29, .int .i64 ty, .int .i64 imm, .slice ka kl kc]] w fun e w' => e = .returned (.bool (decide (1 <= imm /\ imm <= 5))) /\ Below w.heap.size w w' := by
 have A0 : VX w fa fn fc mn s pa pn pc r va vn vc ba bn bc 29 ty imm ka kl kc (((w.alloc (.cells #[.slice fa fn fc, .int .i64 mn] 24)).alloc (.cells #[.string s, .slice pa pn pc, .int .i64 r, .slice va vn vc, .slice ba bn bc] 38)).alloc (.cells #[.int .i64 29, .int .i64 ty, .int .i64 imm, .slice ka kl kc] 42)) := ⟨Below.refl _ _⟩
 have HBx : Hid (∀ w1 o q, VX w fa fn fc mn s pa pn pc r va vn vc ba bn bc 29 ty imm ka kl kc w1 -> Below w.heap.size w ((w1.alloc o).drewN q)) := fun w1 o q h => below_drewN (h.low.alloc (by have := h.size; omega) _) q
 by_cases h1 : 1 <= imm
 ·rcases hc with hc | rfl
  all_goals
   go_enter Tryz.func84, Tryz.ntmps84
   go_wp2_with (first | (go_at_call 115; refine (HR.out _).mono ?_; rintro e w1 ⟨rfl, hb1⟩; have A1 := A0.next hb1; obtain ⟨k0, k1, k2, k3, k4, k5, k6, k7, k8⟩ := VX.cells A1) | (go_at_call 83; refine (HW.out _ (A1.next ((Below.refl _ _).alloc (Nat.le_refl _) _))).mono ?_; rintro e w' ⟨rfl, rfl⟩))
   go_ret
   exact ⟨ret_bl (by simp [h1]), HBx.out _ _ 0 A1⟩
 ·rcases hc with hc | rfl
  all_goals
   go_enter Tryz.func84, Tryz.ntmps84
   go_wp2_with (first | (go_at_call 115; refine (HR.out _).mono ?_; rintro e w1 ⟨rfl, hb1⟩; have A1 := A0.next hb1; obtain ⟨k0, k1, k2, k3, k4, k5, k6, k7, k8⟩ := VX.cells A1) | (go_at_call 83; refine (HW.out _ (A1.next ((Below.refl _ _).alloc (Nat.le_refl _) _))).mono ?_; rintro e w' ⟨rfl, rfl⟩))
   go_ret
   exact ⟨ret_bl (by simp; omega), HBx.out _ _ 0 A1⟩
set_option maxRecDepth 100000 in
set_option maxHeartbeats 4000000 in
theorem rValue_30 (w : World) {fa : Option Addr} {fn fc : Nat} {mn : Int} {s : ByteArray} {pa : Option Addr} {pn pc : Nat} {r : Int} {va : Option Addr} {vn vc : Nat} {ba : Option Addr} {bn bc : Nat} {ka : Option Addr} {kl kc : Nat} (ty imm : Int) (c a b d g : Int) 
 (HR : Hid (∀ w, Calls Tryz.prog 115 #[.int .i64 30] w fun e w' => e = .returned (.tuple #[.agg #[.int .i64 c, .int .i64 a, .int .i64 b, .int .i64 d, .int .i64 g], .bool true]) /\ Below w.heap.size w w'))
 (HW : Hid (∀ w', VX w fa fn fc mn s pa pn pc r va vn vc ba bn bc 30 ty imm ka kl kc w' -> Calls Tryz.prog 83 #[.slice ka kl kc, .int .i64 vn] w' fun e w'' => e = .returned (.bool true) /\ w'' = w')) (hc : c < 0 \/ (kl : Int) = c) (h0 : 0 <= ty) (h3 : ty <= 3) :
 Calls Tryz.prog 84 #[.agg #[.slice fa fn fc, .int .i64 mn], .agg #[.string s, .slice pa pn pc, .int .i64 r, .slice va vn vc, .slice ba bn bc], .agg #[.int .i64 30, .int .i64 ty, .int .i64 imm, .slice ka kl kc]] w fun e w' => e = .returned (.bool (decide (1 <= imm /\ imm <= 5))) /\ Below w.heap.size w w' := by
 have A0 : VX w fa fn fc mn s pa pn pc r va vn vc ba bn bc 30 ty imm ka kl kc (((w.alloc (.cells #[.slice fa fn fc, .int .i64 mn] 24)).alloc (.cells #[.string s, .slice pa pn pc, .int .i64 r, .slice va vn vc, .slice ba bn bc] 38)).alloc (.cells #[.int .i64 30, .int .i64 ty, .int .i64 imm, .slice ka kl kc] 42)) := ⟨Below.refl _ _⟩
 have HBx : Hid (∀ w1 o q, VX w fa fn fc mn s pa pn pc r va vn vc ba bn bc 30 ty imm ka kl kc w1 -> Below w.heap.size w ((w1.alloc o).drewN q)) := fun w1 o q h => below_drewN (h.low.alloc (by have := h.size; omega) _) q
 by_cases h1 : 1 <= imm
 ·rcases hc with hc | rfl
  all_goals
   go_enter Tryz.func84, Tryz.ntmps84
   go_wp2_with (first | (go_at_call 115; refine (HR.out _).mono ?_; rintro e w1 ⟨rfl, hb1⟩; have A1 := A0.next hb1; obtain ⟨k0, k1, k2, k3, k4, k5, k6, k7, k8⟩ := VX.cells A1) | (go_at_call 83; refine (HW.out _ (A1.next ((Below.refl _ _).alloc (Nat.le_refl _) _))).mono ?_; rintro e w' ⟨rfl, rfl⟩))
   go_ret
   exact ⟨ret_bl (by simp [h1]), HBx.out _ _ 0 A1⟩
 ·rcases hc with hc | rfl
  all_goals
   go_enter Tryz.func84, Tryz.ntmps84
   go_wp2_with (first | (go_at_call 115; refine (HR.out _).mono ?_; rintro e w1 ⟨rfl, hb1⟩; have A1 := A0.next hb1; obtain ⟨k0, k1, k2, k3, k4, k5, k6, k7, k8⟩ := VX.cells A1) | (go_at_call 83; refine (HW.out _ (A1.next ((Below.refl _ _).alloc (Nat.le_refl _) _))).mono ?_; rintro e w' ⟨rfl, rfl⟩))
   go_ret
   exact ⟨ret_bl (by simp; omega), HBx.out _ _ 0 A1⟩
set_option maxRecDepth 100000 in
set_option maxHeartbeats 4000000 in
theorem rValue_else (w : World) {fa : Option Addr} {fn fc : Nat} {mn : Int} {s : ByteArray} {pa : Option Addr} {pn pc : Nat} {r : Int} {va : Option Addr} {vn vc : Nat} {ba : Option Addr} {bn bc : Nat} {ka : Option Addr} {kl kc : Nat} (op ty imm : Int) (c a b d g : Int) 
 (HR : Hid (∀ w, Calls Tryz.prog 115 #[.int .i64 op] w fun e w' => e = .returned (.tuple #[.agg #[.int .i64 c, .int .i64 a, .int .i64 b, .int .i64 d, .int .i64 g], .bool true]) /\ Below w.heap.size w w'))
 (HW : Hid (∀ w', VX w fa fn fc mn s pa pn pc r va vn vc ba bn bc op ty imm ka kl kc w' -> Calls Tryz.prog 83 #[.slice ka kl kc, .int .i64 vn] w' fun e w'' => e = .returned (.bool true) /\ w'' = w')) (hc : c < 0 \/ (kl : Int) = c) (h0 : 0 <= ty) (h3 : ty <= 3) (e1 : ¬ op = 1) (e2 : ¬ op = 33) (e3 : ¬ op = 25) (e4 : ¬ op = 28) (e5 : ¬ op = 29) (e6 : ¬ op = 30) :
 Calls Tryz.prog 84 #[.agg #[.slice fa fn fc, .int .i64 mn], .agg #[.string s, .slice pa pn pc, .int .i64 r, .slice va vn vc, .slice ba bn bc], .agg #[.int .i64 op, .int .i64 ty, .int .i64 imm, .slice ka kl kc]] w fun e w' => e = .returned (.bool (decide (imm = 0))) /\ Below w.heap.size w w' := by
 have A0 : VX w fa fn fc mn s pa pn pc r va vn vc ba bn bc op ty imm ka kl kc (((w.alloc (.cells #[.slice fa fn fc, .int .i64 mn] 24)).alloc (.cells #[.string s, .slice pa pn pc, .int .i64 r, .slice va vn vc, .slice ba bn bc] 38)).alloc (.cells #[.int .i64 op, .int .i64 ty, .int .i64 imm, .slice ka kl kc] 42)) := ⟨Below.refl _ _⟩
 have HBx : Hid (∀ w1 o q, VX w fa fn fc mn s pa pn pc r va vn vc ba bn bc op ty imm ka kl kc w1 -> Below w.heap.size w ((w1.alloc o).drewN q)) := fun w1 o q h => below_drewN (h.low.alloc (by have := h.size; omega) _) q
 rcases hc with hc | rfl
 all_goals
  go_enter Tryz.func84, Tryz.ntmps84
  go_wp2_with (first | (go_at_call 115; refine (HR.out _).mono ?_; rintro e w1 ⟨rfl, hb1⟩; have A1 := A0.next hb1; obtain ⟨k0, k1, k2, k3, k4, k5, k6, k7, k8⟩ := VX.cells A1) | (go_at_call 83; refine (HW.out _ (A1.next ((Below.refl _ _).alloc (Nat.le_refl _) _))).mono ?_; rintro e w' ⟨rfl, rfl⟩))
  go_ret
  exact ⟨ret_bl (by by_cases hv : imm = 0 <;> simp [hv]), HBx.out _ _ 0 A1⟩
set_option maxRecDepth 100000 in
set_option maxHeartbeats 4000000 in
theorem rValue_25 (w : World) {fa : Option Addr} {fn fc : Nat} {mn : Int} {s : ByteArray} {pa : Option Addr} {pn pc : Nat} {r : Int} {va : Option Addr} {vn vc : Nat} {ba : Option Addr} {bn bc : Nat} {ka : Option Addr} {kl kc : Nat} (ty imm : Int) (c a b d g : Int) 
 (HR : Hid (∀ w, Calls Tryz.prog 115 #[.int .i64 25] w fun e w' => e = .returned (.tuple #[.agg #[.int .i64 c, .int .i64 a, .int .i64 b, .int .i64 d, .int .i64 g], .bool true]) /\ Below w.heap.size w w'))
 (HW : Hid (∀ w', VX w fa fn fc mn s pa pn pc r va vn vc ba bn bc 25 ty imm ka kl kc w' -> Calls Tryz.prog 83 #[.slice ka kl kc, .int .i64 vn] w' fun e w'' => e = .returned (.bool true) /\ w'' = w')) (hc : c < 0 \/ (kl : Int) = c) (h0 : 0 <= ty) (h3 : ty <= 3) {FS : List Fu} (hF : Fus w fa fc FS) (ef : fn = FS.length) :
 Calls Tryz.prog 84 #[.agg #[.slice fa fn fc, .int .i64 mn], .agg #[.string s, .slice pa pn pc, .int .i64 r, .slice va vn vc, .slice ba bn bc], .agg #[.int .i64 25, .int .i64 ty, .int .i64 imm, .slice ka kl kc]] w fun e w' => e = .returned (.bool (wi fn imm && decide (kl = (FS.getD imm.toNat noF).params.length))) /\ Below w.heap.size w w' := by
 have A0 : VX w fa fn fc mn s pa pn pc r va vn vc ba bn bc 25 ty imm ka kl kc (((w.alloc (.cells #[.slice fa fn fc, .int .i64 mn] 24)).alloc (.cells #[.string s, .slice pa pn pc, .int .i64 r, .slice va vn vc, .slice ba bn bc] 38)).alloc (.cells #[.int .i64 25, .int .i64 ty, .int .i64 imm, .slice ka kl kc] 42)) := ⟨Below.refl _ _⟩
 have HBx : Hid (∀ w1 o q, VX w fa fn fc mn s pa pn pc r va vn vc ba bn bc 25 ty imm ka kl kc w1 -> Below w.heap.size w ((w1.alloc o).drewN q)) := fun w1 o q h => below_drewN (h.low.alloc (by have := h.size; omega) _) q
 have HF : Hid (∀ w1, VX w fa fn fc mn s pa pn pc r va vn vc ba bn bc 25 ty imm ka kl kc w1 -> Fus w1 fa fc FS) := fun w1 h => hF.below h.low (Nat.le_refl _)
 have hfn : fn <= 9223372036854775807 := by have := hF.le; have := hF.mx; omega
 have HN : Hid (fn = FS.length) := ef
 clear hF ef
 by_cases h1 : imm < 0
 ·have g1 : decide (0 <= imm) = false := by simp; omega
  rcases hc with hc | rfl
  all_goals
   go_enter Tryz.func84, Tryz.ntmps84
   go_wp2_with (first | (go_at_call 115; refine (HR.out _).mono ?_; rintro e w1 ⟨rfl, hb1⟩; have A1 := A0.next hb1; obtain ⟨k0, k1, k2, k3, k4, k5, k6, k7, k8⟩ := VX.cells A1) | (go_at_call 83; refine (HW.out _ (A1.next ((Below.refl _ _).alloc (Nat.le_refl _) _))).mono ?_; rintro e w' ⟨rfl, rfl⟩))
   go_quiet (fail)
   go_wp2_with fail
   go_ret
   exact ⟨ret_bl (by rw [show wi fn imm = false by simp [wi]; omega]; rfl), HBx.out _ _ _ A1⟩
 by_cases h2 : imm < fn
 ·obtain ⟨j, rfl⟩ : ∃ j : Nat, imm = j := ⟨imm.toNat, by omega⟩
  have hjn : j < fn := by omega
  clear h1 h2
  rcases hc with hc | rfl
  all_goals
   go_enter Tryz.func84, Tryz.ntmps84
   go_wp2_with (first | (go_at_call 115; refine (HR.out _).mono ?_; rintro e w1 ⟨rfl, hb1⟩; have A1 := A0.next hb1; obtain ⟨k0, k1, k2, k3, k4, k5, k6, k7, k8⟩ := VX.cells A1) | (go_at_call 83; refine (HW.out _ (A1.next ((Below.refl _ _).alloc (Nat.le_refl _) _))).mono ?_; rintro e w' ⟨rfl, rfl⟩))
   obtain ⟨b', o', xa, xc, la, lc, ma, mc, rfl, hlt, c0, c1, c2, c3, c4, g1, g2, g3⟩ := (HF.out _ A1).at (by have := HN.out; omega : j < FS.length)
   have hx : Hid ((FS.getD (j : Int).toNat noF).params.length = (FS[j]'(by have := HN.out; omega)).params.length) := by show _ = _; simp [show j < FS.length by have := HN.out; omega]
   generalize (FS[j]'(by have := HN.out; omega)).params.length = n at c1 hx
   clear c0 c2 c3 c4 g1 g2 g3
   go_quiet (fail)
   go_wp2_with fail
   go_ret
   refine ⟨ret_bl ?_, HBx.out _ _ _ A1⟩
   rw [hx.out, show wi fn (j : Int) = true by simp [wi]; omega]
   by_cases e : kl = n
   ·subst e; simp
   ·have : ¬ (kl : Int) = n := by omega
    simp [e, this]
 ·have g1 : decide (0 <= imm) = true := by simp; omega
  have g2 : decide (imm < (fn : Int)) = false := by simp; omega
  rcases hc with hc | rfl
  all_goals
   go_enter Tryz.func84, Tryz.ntmps84
   go_wp2_with (first | (go_at_call 115; refine (HR.out _).mono ?_; rintro e w1 ⟨rfl, hb1⟩; have A1 := A0.next hb1; obtain ⟨k0, k1, k2, k3, k4, k5, k6, k7, k8⟩ := VX.cells A1) | (go_at_call 83; refine (HW.out _ (A1.next ((Below.refl _ _).alloc (Nat.le_refl _) _))).mono ?_; rintro e w' ⟨rfl, rfl⟩))
   go_quiet (fail)
   go_wp2_with fail
   go_ret
   exact ⟨ret_bl (by rw [show wi fn imm = false by simp [wi]; omega]; rfl), HBx.out _ _ _ A1⟩
theorem ite_nn {c : Prop} [Decidable c] {a b : Shp} (ha : 0 <= a.count) (hb : 0 <= b.count) : 0 <= (if c then a else b).count := by
 by_cases h : c
 ·rw [if_pos h]; exact ha
 ·rw [if_neg h]; exact hb
theorem shp_nonneg (op : Int) : 0 <= (shp op).count := by
 unfold shp
 repeat refine ite_nn (by decide) ?_
 decide
def endV (FS : List Fu) (op imm : Int) (k : Nat) : Bool :=
 if op = 1 \/ op = 33 then true else if op = 25 then wi FS.length imm && decide (k = (FS.getD imm.toNat noF).params.length) else if op = 28 \/ op = 29 \/ op = 30 then decide (1 <= imm /\ imm <= 5) else decide (imm = 0)
theorem valueP_eq (f : Fu) (FS : List Fu) (op ty imm : Int) (A : List Int) :
 valueP f FS ⟨op, ty, imm, A⟩ = (fstV A.length ty (row9 op).count (isOpn op) (A.all (wi f.vals.length)) && endV FS op imm A.length) := by
 simp only [valueP]
 have ht : isTn ty = (decide (0 <= ty) && decide (ty <= 3)) := by simp [isTn]
 generalize A.all (wi f.vals.length) = a
 generalize A.length = k
 rw [ht]
 unfold fstV endV immP countP
 by_cases h1 : op = 1
 ·subst h1
  have e1 : (shp 1).count = 0 := rfl
  have e2 : (row9 1).count = 0 := rfl
  rw [e1, e2]
  simp only [isOpn]
  cases a <;> by_cases q0 : 0 <= ty <;> by_cases q1 : ty <= 3 <;> by_cases q2 : k = 0 <;> simp [q0, q1, q2]
 by_cases h33 : op = 33
 ·subst h33
  have e1 : (shp 33).count = 0 := rfl
  have e2 : (row9 33).count = 0 := rfl
  rw [e1, e2]
  simp only [isOpn]
  cases a <;> by_cases q0 : 0 <= ty <;> by_cases q1 : ty <= 3 <;> by_cases q2 : k = 0 <;> simp [q0, q1, q2]
 by_cases h25 : op = 25
 ·subst h25
  have e2 : (row9 25).count = -1 := rfl
  rw [e2]
  simp only [isOpn]
  generalize wi FS.length imm = W
  generalize decide (k = (FS.getD imm.toNat noF).params.length) = K
  cases a <;> by_cases q0 : 0 <= ty <;> by_cases q1 : ty <= 3 <;> cases W <;> cases K <;> simp [q0, q1]
 by_cases h32 : op = 32
 ·subst h32
  have e2 : (row9 32).count = -1 := rfl
  rw [e2]
  simp only [isOpn]
  cases a <;> by_cases q0 : 0 <= ty <;> by_cases q1 : ty <= 3 <;> by_cases q2 : imm = 0 <;> simp [q0, q1, q2]
 have e2 : row9 op = shp op := by unfold row9; rw [if_neg h1, if_neg h25, if_neg h32, if_neg h33]
 have e3 := shp_nonneg op
 rw [e2]
 generalize (shp op).count = c at e3
 have e4 : ¬ c < 0 := by omega
 generalize isOpn op = o
 have e5 : ¬ (op = 1 \/ op = 33) := by omega
 rw [if_neg e5, if_neg e5, if_neg h25, if_neg h25, if_neg h25, if_neg h32]
 generalize (if op = 28 \/ op = 29 \/ op = 30 then decide (1 <= imm /\ imm <= 5) else decide (imm = 0)) = I
 simp only [e4, decide_false, Bool.false_or]
 generalize decide ((k : Int) = c) = K
 cases a <;> cases o <;> cases I <;> cases K <;> simp
theorem rValue_any (w : World) {fa : Option Addr} {fn fc : Nat} {mn : Int} {s : ByteArray} {pa : Option Addr} {pn pc : Nat} {r : Int} {va : Option Addr} {vn vc : Nat} {ba : Option Addr} {bn bc : Nat} {ka : Option Addr} {kl kc : Nat} {f : Fu} {FS : List Fu} (hF : Fus w fa fc FS) (ef : fn = FS.length) (ev : vn = f.vals.length) (op ty imm : Int) (A : List Int) (hk : kl = A.length) (hA : Ints w ka kc A) :
 Calls Tryz.prog 84 #[.agg #[.slice fa fn fc, .int .i64 mn], .agg #[.string s, .slice pa pn pc, .int .i64 r, .slice va vn vc, .slice ba bn bc], .agg #[.int .i64 op, .int .i64 ty, .int .i64 imm, .slice ka kl kc]] w fun e w' => e = .returned (.bool (valueP f FS ⟨op, ty, imm, A⟩)) /\ Below w.heap.size w w' := by
 rw [valueP_eq, <- hk, <- ev]
 have HR : Hid (∀ w, Calls Tryz.prog 115 #[.int .i64 op] w fun e w' => e = .returned (.tuple #[.agg #[.int .i64 (row9 op).count, .int .i64 (row9 op).a0, .int .i64 (row9 op).a1, .int .i64 (row9 op).a2, .int .i64 (row9 op).gives], .bool (isOpn op)]) /\ Below w.heap.size w w') := fun w => rowOf_any w op
 have HW : Hid (∀ w', VX w fa fn fc mn s pa pn pc r va vn vc ba bn bc op ty imm ka kl kc w' -> Calls Tryz.prog 83 #[.slice ka kl kc, .int .i64 vn] w' fun e w'' => e = .returned (.bool (A.all (wi vn))) /\ w'' = w') := fun w' h => rWithin_any w' ka kl kc vn A hk (hA.below h.low (Nat.le_refl _))
 generalize (row9 op).count = c at HR
 generalize (row9 op).a0 = c0 at HR
 generalize (row9 op).a1 = c1 at HR
 generalize (row9 op).a2 = c2 at HR
 generalize (row9 op).gives = c3 at HR
 generalize isOpn op = Bx at HR
 generalize A.all (wi vn) = Ax at HW
 cases hf : fstV kl ty c Bx Ax with
 | false =>
   simp only [Bool.false_and]
   exact rValue_no w op ty imm c c0 c1 c2 c3 Bx Ax HR HW hf
 | true =>
   simp only [Bool.true_and]
   simp only [fstV, Bool.and_eq_true, Bool.or_eq_true, decide_eq_true_eq] at hf
   obtain ⟨rfl, rfl, h0, h3, hc⟩ := hf
   unfold endV
   by_cases h1 : op = 1
   ·subst h1; rw [if_pos (.inl rfl)]; exact rValue_1 w ty imm c c0 c1 c2 c3 HR HW hc h0 h3
   by_cases h33 : op = 33
   ·subst h33; rw [if_pos (.inr rfl)]; exact rValue_33 w ty imm c c0 c1 c2 c3 HR HW hc h0 h3
   rw [if_neg (by omega)]
   by_cases h25 : op = 25
   ·subst h25; rw [if_pos rfl, <- ef]; exact rValue_25 w ty imm c c0 c1 c2 c3 HR HW hc h0 h3 hF ef
   rw [if_neg h25]
   by_cases h28 : op = 28
   ·subst h28; rw [if_pos (.inl rfl)]; exact rValue_28 w ty imm c c0 c1 c2 c3 HR HW hc h0 h3
   by_cases h29 : op = 29
   ·subst h29; rw [if_pos (.inr (.inl rfl))]; exact rValue_29 w ty imm c c0 c1 c2 c3 HR HW hc h0 h3
   by_cases h30 : op = 30
   ·subst h30; rw [if_pos (.inr (.inr rfl))]; exact rValue_30 w ty imm c c0 c1 c2 c3 HR HW hc h0 h3
   rw [if_neg (by omega)]
   exact rValue_else w op ty imm c c0 c1 c2 c3 HR HW hc h0 h3 h1 h33 h25 h28 h29 h30
set_option maxHeartbeats 1000000 in
theorem rSame_any (w : World) (a1 a2 : Option Addr) (c1 c2 n1 n2 : Nat) (L1 L2 : List Int) (hn1 : n1 = L1.length) (hn2 : n2 = L2.length) (h1 : Ints w a1 c1 L1) (h2 : Ints w a2 c2 L2) :
 Calls Tryz.prog 86 #[.slice a1 n1 c1, .slice a2 n2 c2] w fun e w' => e = .returned (.bool (decide (L1 = L2))) /\ Below w.heap.size w w' := by
 have b1 : n1 <= 9223372036854775807 := by have := h1.le; have := h1.mx; omega
 have b2 : n2 <= 9223372036854775807 := by have := h2.le; have := h2.mx; omega
 have HN1 : Hid (n1 = L1.length) := hn1
 have HN2 : Hid (n2 = L2.length) := hn2
 clear hn1 hn2
 obtain ⟨R, hR⟩ : ∃ R, R = decide (L1 = L2) := ⟨_, rfl⟩
 rw [<- hR]
 have HR : Hid (R = decide (L1 = L2)) := hR
 have H1 : Hid (Ints w a1 c1 L1) := h1
 have H2 : Hid (Ints w a2 c2 L2) := h2
 clear hR h1 h2
 by_cases hne : n1 = n2
 ·subst hne
  go_enter Tryz.func86, Tryz.ntmps86
  go_wp2_with fail
  go_loopw [5] (fun v wr => ∃ j : Nat, j <= n1 /\ v = .int .i64 j /\ Hid (Below w.heap.size w wr) /\ Hid (L1.take j = L2.take j)) (fun v _ => n1 - (intOf v).toNat)
  case atStart => exact ⟨0, by omega, rfl, Below.refl _ _, rfl⟩
  case round =>
   obtain ⟨j, hj, rfl, HB, HT⟩ := hrel
   by_cases hlt : j < n1
   ·have hj1 : j < L1.length := by have := HN1.out; omega
    have hj2 : j < L2.length := by have := HN2.out; omega
    obtain ⟨g1, o1, rfl, k1⟩ := (H1.out.below HB.out (Nat.le_refl _)).at hj1
    obtain ⟨g2, o2, rfl, k2⟩ := (H2.out.below HB.out (Nat.le_refl _)).at hj2
    obtain ⟨x, hx⟩ : ∃ x, x = L1[j] := ⟨_, rfl⟩
    obtain ⟨y, hy⟩ : ∃ y, y = L2[j] := ⟨_, rfl⟩
    rw [<- hx] at k1
    rw [<- hy] at k2
    have HX : Hid (x = L1[j]) := hx
    have HY : Hid (y = L2[j]) := hy
    clear hx hy
    by_cases hxy : x = y
    ·subst hxy
     go_wp2_with fail
     go_quiet (fail)
     go_wp2_with fail
     go_roundw
     case rel =>
      refine ⟨j + 1, by omega, by go_num, ?_, ?_⟩
      ·first | exact HB.out | exact HB.out.drew | exact below_drewN HB.out _
      ·show _ = _
       rw [List.take_add_one, List.take_add_one, HT.out]
       simp [hj1, hj2, <- HX.out, <- HY.out]
     case measure => simp [intOf]; omega
    ·have hf : R = false := by
      rw [HR.out]
      refine decide_eq_false fun e => hxy ?_
      rw [HX.out, HY.out]
      simp [e]
     subst hf
     go_wp2_with fail
     go_quiet (fail)
     go_wp2_with fail
     go_ret
     exact ⟨rfl, by first | exact HB.out | exact HB.out.drew | exact below_drewN HB.out _⟩
   ·have ht : R = true := by
     rw [HR.out]
     refine decide_eq_true ?_
     have := HT.out
     rwa [List.take_of_length_le (by have := HN1.out; omega), List.take_of_length_le (by have := HN2.out; omega)] at this
    subst ht
    go_wp2_with fail
    go_ret
    exact ⟨rfl, HB.out⟩
 ·have hf : R = false := by
   rw [HR.out]
   refine decide_eq_false fun e => hne ?_
   rw [HN1.out, HN2.out, e]
  subst hf
  go_enter Tryz.func86, Tryz.ntmps86
  go_wp2_with fail
  go_ret
  exact ⟨rfl, Below.refl _ _⟩
def ldIn (k : Nat) (b : Int) (row : List Int) (a : List Int) : List Int := row.foldl (fun a x => if x = b then a ++ [(k : Int)] else a) a
def ldN (b : Int) (Ls : List (List Int)) : Nat -> List Int
 | 0 => []
 | k + 1 => ldIn k b (Ls.getD k []) (ldN b Ls k)
theorem ldIn_take (k : Nat) (b : Int) (row a : List Int) {j : Nat} (hj : j < row.length) : ldIn k b (row.take (j + 1)) a = if row[j] = b then ldIn k b (row.take j) a ++ [(k : Int)] else ldIn k b (row.take j) a := by
 rw [<- List.take_append_getElem hj, ldIn, List.foldl_append]
 rfl
theorem ldIn_len (k : Nat) (b : Int) : ∀ (row a : List Int), (ldIn k b row a).length <= a.length + row.length
 | [], a => by simp [ldIn]
 | x :: row, a => by
   have := ldIn_len k b row (if x = b then a ++ [(k : Int)] else a)
   simp only [ldIn, List.foldl_cons, List.length_cons] at this ⊢
   by_cases h : x = b
   ·simp only [h, if_true, List.length_append, List.length_singleton] at this ⊢; omega
   ·simp only [h, if_false] at this ⊢; omega
theorem ldN_len (b : Int) (Ls : List (List Int)) (h : ∀ l ∈ Ls, l.length <= 2) : ∀ k, (ldN b Ls k).length <= 2 * k
 | 0 => by simp [ldN]
 | k + 1 => by
   have h1 := ldN_len b Ls h k
   have h2 := ldIn_len k b (Ls.getD k []) (ldN b Ls k)
   have h3 : (Ls.getD k []).length <= 2 := by
    by_cases hk : k < Ls.length
    ·simp only [List.getD, List.getElem?_eq_getElem hk, Option.getD_some]; exact h _ (List.getElem_mem hk)
    ·simp [List.getD, List.getElem?_eq_none (Nat.le_of_not_lt hk)]
   show (ldIn k b (Ls.getD k []) (ldN b Ls k)).length <= _
   omega
def f5 (s : ByteArray) (pa : Option Addr) (pn pc : Nat) (r : Int) (va : Option Addr) (vn vc : Nat) (ba : Option Addr) (bn bc : Nat) : Obj := .cells #[.string s, .slice pa pn pc, .int .i64 r, .slice va vn vc, .slice ba bn bc] 38
set_option maxRecDepth 100000 in
set_option maxHeartbeats 4000000 in
theorem rLeads_any (w : World) {s : ByteArray} {pa : Option Addr} {pn pc : Nat} {r : Int} {va : Option Addr} {vn vc : Nat} {ba : Option Addr} {bn bc : Nat} {f : Fu} (eb : bn = f.blks.length) (hbk : Bks w ba bc f.blks) (h2 : ∀ l ∈ waysP f, l.length <= 2) (hn : bn <= 1000000) (b : Int) :
 Calls Tryz.prog 87 #[.agg #[.string s, .slice pa pn pc, .int .i64 r, .slice va vn vc, .slice ba bn bc], .int .i64 b] w fun e w' => ∃ v, e = .returned v /\ OwnI w' (w.heap.size + 1) v (ldN b (waysP f) f.blks.length).length (ldN b (waysP f) f.blks.length) /\ Below w.heap.size w w' := by
 have A0 : Af1 w (.cells #[.string s, .slice pa pn pc, .int .i64 r, .slice va vn vc, .slice ba bn bc] 38) (w.alloc (.cells #[.string s, .slice pa pn pc, .int .i64 r, .slice va vn vc, .slice ba bn bc] 38)) := ⟨Below.refl _ _⟩
 have HB : Hid (bn = f.blks.length) := eb
 have HK : Hid (∀ w', Af1 w (.cells #[.string s, .slice pa pn pc, .int .i64 r, .slice va vn vc, .slice ba bn bc] 38) w' -> Bks w' ba bc f.blks) := fun w' h => hbk.below h.low (Nat.le_refl _)
 have H2 : Hid (∀ l ∈ waysP f, l.length <= 2) := h2
 clear hbk h2 eb
 go_enter Tryz.func87, Tryz.ntmps87
 go_wp2_with fail
 go_loopw [5, 6] (fun lv v wr => ∃ k : Nat, k <= bn /\ v = .int .i64 k /\ Hid (OwnI wr (w.heap.size + 1) lv (ldN b (waysP f) k).length (ldN b (waysP f) k)) /\ Hid (Af1 w (.cells #[.string s, .slice pa pn pc, .int .i64 r, .slice va vn vc, .slice ba bn bc] 38) wr)) (fun _ v _ => bn - (intOf v).toNat)
 case atStart => exact ⟨0, by omega, rfl, OwnI.nil _ _, A0⟩
 case round =>
  obtain ⟨k, hk, rfl, HO, HA⟩ := hrel
  have x4 : wr.cell? ⟨w.heap.size, 4, none⟩ = some (.slice ba bn bc) := cell_arr HA.out.one rfl
  have xs : w.heap.size < wr.heap.size := by have := HA.out.size; omega
  by_cases hlt : k < bn
  ·have hkf : k < f.blks.length := by have := HB.out; omega
   obtain ⟨row, hrow⟩ : ∃ row, row = f.blks[k].ways := ⟨_, rfl⟩
   obtain ⟨rl, hrl⟩ : ∃ rl, rl = row.length := ⟨_, rfl⟩
   have HROW : Hid (row = f.blks[k].ways) := hrow
   have HRL : Hid (rl = row.length) := hrl
   have hr2 : rl <= 2 := by rw [hrl, hrow]; exact H2.out _ (List.mem_map_of_mem (List.getElem_mem hkf))
   have HLN : Hid ((ldN b (waysP f) k).length <= 2 * k) := ldN_len b (waysP f) H2.out k
   clear hrow hrl
   go_wp2_with fail
   go_loopw [5, 7] (fun lv v wr' => ∃ j : Nat, j <= rl /\ v = .int .i64 j /\ Hid (OwnI wr' (w.heap.size + 1) lv (ldIn k b (row.take j) (ldN b (waysP f) k)).length (ldIn k b (row.take j) (ldN b (waysP f) k))) /\ Hid (Af1 w (.cells #[.string s, .slice pa pn pc, .int .i64 r, .slice va vn vc, .slice ba bn bc] 38) wr')) (fun _ v _ => rl - (intOf v).toNat)
   case atStart => exact ⟨0, by omega, rfl, by simpa [ldIn] using HO, HA⟩
   case round =>
    obtain ⟨j, hj, rfl, HO1, HA1⟩ := hrel
    have y4 : wr.cell? ⟨w.heap.size, 4, none⟩ = some (.slice ba bn bc) := cell_arr HA1.out.one rfl
    have ys : w.heap.size < wr.heap.size := by have := HA1.out.size; omega
    obtain ⟨b', o', ka, kc, la, lc, ma, mc, na, nc, rfl, hlt', c0, c1, c2, c3, c4, c5, g1, g2, g3, g4⟩ := (HK.out _ HA1.out).at hkf
    rw [<- HROW.out] at c4 g3
    have c4' : wr.cell? ⟨b', o' + k * 6 + 4, none⟩ = some (.slice ma rl mc) := by rw [HRL.out]; exact c4
    have HG : Hid (Ints wr ma mc row) := g3
    have hbx : bn <= bc /\ bc <= 9223372036854775807 := by have := (HK.out _ HA1.out).le; have := (HK.out _ HA1.out).mx; have := HB.out; omega
    have hrx : rl <= mc /\ mc <= 9223372036854775807 := by have := HG.out.le; have := HG.out.mx; have := HRL.out; omega
    clear c0 c1 c2 c3 c4 c5 g1 g2 g3 g4
    by_cases hjl : j < rl
    ·have hjr : j < row.length := by have := HRL.out; omega
     obtain ⟨mb, mo, rfl, cj⟩ := HG.out.at hjr
     obtain ⟨x, hx⟩ : ∃ x, x = row[j] := ⟨_, rfl⟩
     rw [<- hx] at cj
     have HX : Hid (x = row[j]) := hx
     clear hx
     by_cases hxb : x = b
     ·obtain ⟨L, hL⟩ : ∃ L, L = ldIn k b (row.take j) (ldN b (waysP f) k) := ⟨_, rfl⟩
      obtain ⟨ll, hll⟩ : ∃ ll, ll = L.length := ⟨_, rfl⟩
      have hlp : ll + 1 <= 17592186044416 := by
       have q1 := ldIn_len k b (row.take j) (ldN b (waysP f) k)
       have q2 := HLN.out
       have q3 : (row.take j).length <= 2 := by rw [List.length_take]; have := HRL.out; omega
       rw [hll, hL]; omega
      have HN : Hid (ldIn k b (row.take (j + 1)) (ldN b (waysP f) k) = L ++ [(k : Int)]) := by
       show _ = _
       rw [ldIn_take _ _ _ _ hjr, if_pos (by rw [<- HX.out]; exact hxb), hL]
      have HO2 := HO1.out
      rw [<- hL, <- hll] at HO2
      obtain ⟨av, cv, ev, _, _⟩ := own_slice HO2.out
      subst ev
      have HO3 : Hid _ := HO2
      have HLL : Hid (ll = L.length) := hll
      have hsB : w.heap.size + 1 <= wr.heap.size := by omega
      clear HO2 hL hll HO1
      go_wp2_with (first
       | (at_builtin; refine wpList_append_intG (w0 := wr) rfl _ _ rfl (w.heap.size + 1) (.slice av ll cv) ll L (k : Int) rfl HO3.out rfl hlp hsB ?_; intro v6 w6 h6 g6
          obtain ⟨a6, c6, e6, _, _⟩ := own_slice h6.out
          subst e6
          have HO6 : Hid _ := h6
          have HA6 : Hid (Af1 w (.cells #[.string s, .slice pa pn pc, .int .i64 r, .slice va vn vc, .slice (some ⟨b', o', none⟩) bn bc] 38) w6) := ⟨HA1.out.b.trans g6.bel⟩
          clear h6 g6)
       | go_in)
      go_roundw
      case rel => exact ⟨j + 1, by omega, by go_num, by rw [HN.out, List.length_append, List.length_singleton, <- HLL.out]; exact HO6, HA6⟩
      case measure => simp [intOf]; omega
     ·have HN : Hid (ldIn k b (row.take (j + 1)) (ldN b (waysP f) k) = ldIn k b (row.take j) (ldN b (waysP f) k)) := by
       show _ = _
       rw [ldIn_take _ _ _ _ hjr, if_neg (by rw [<- HX.out]; exact hxb)]
      go_wp2_with fail
      go_roundw
      case rel => exact ⟨j + 1, by omega, by go_num, by rw [HN.out]; exact HO1, HA1⟩
      case measure => simp [intOf]; omega
    ·obtain rfl : j = rl := by omega
     go_wp2_with fail
     go_roundw
     case rel => exact ⟨k + 1, by omega, by go_num, by rw [show ldN b (waysP f) (k + 1) = ldIn k b (row.take j) (ldN b (waysP f) k) by rw [ldN, waysP_at f k hkf, <- HROW.out, List.take_of_length_le (by have := HRL.out; omega)]]; exact HO1, HA1⟩
     case measure => simp [intOf]; omega
  ·obtain rfl : k = bn := by omega
   go_wp2_with fail
   go_ret
   exact ⟨_, rfl, by rw [<- HB.out]; exact HO.out, HA.out.low⟩
set_option maxHeartbeats 1000000 in
theorem refReach_any (w : World) (ao : Option Addr) (n c : Nat) (Ls : List (List Int)) (hn : n = Ls.length) (h : IRow w ao c Ls) (hsz : n <= 100000000) :
 Calls Tryz.prog 43 #[.slice ao n c] w fun e w' => ∃ v, e = .returned v /\ OwnBl w' w.heap.size v (reachP Ls).length (reachP Ls) /\ Below w.heap.size w w' := by
 have hgd := refGood_any w ao n c Ls hn h
 by_cases hg : goodP Ls = true
 ·rw [hg] at hgd
  have hwo := without_any w ao n c Ls hn h hg hsz (-1)
  have HR : Hid (reachP Ls = rch n (woP Ls (-1)) /\ (reachP Ls).length = n) := by
   have e : reachP Ls = rch n (woP Ls (-1)) := by unfold reachP; rw [if_pos hg, rch_reach hg, hn]
   exact ⟨e, by rw [e, rch_len]⟩
  clear h hn hg
  go_enter Tryz.func43, Tryz.ntmps43
  go_wp2_with fail
  refine hgd.mono ?_
  rintro e w' ⟨rfl, rfl⟩
  go_wp2_with fail
  refine hwo.mono ?_
  rintro e w2 ⟨v, rfl, HO, hb⟩
  have HO' : Hid _ := HO
  have HB : Hid _ := hb
  clear HO hb hwo hgd
  go_wp2_with fail
  go_ret
  exact ⟨_, rfl, by rw [HR.out.2, HR.out.1]; exact HO'.out, HB.out⟩
 ·have hg' : goodP Ls = false := by simpa using hg
  rw [hg'] at hgd
  have HR : Hid (reachP Ls = []) := by show _ = _; unfold reachP; rw [if_neg hg]
  clear h hn hg hg'
  go_enter Tryz.func43, Tryz.ntmps43
  go_wp2_with fail
  refine hgd.mono ?_
  rintro e w' ⟨rfl, rfl⟩
  go_wp2_with fail
  go_ret
  rw [HR.out]
  exact ⟨_, rfl, OwnBl.nil _ _, Below.refl _ _⟩
structure OwnV (w : World) (B : Nat) (v : Value) (vs : List Value) : Prop where
 out : w.ownsRow B 34 1 v vs.length vs
theorem OwnV.nil (w : World) (B : Nat) : OwnV w B (.slice none 0 0) [] := ⟨World.ownsRow_nil _ _ _ _⟩
theorem OwnV.move {w w' : World} {B v vs} (h : OwnV w B v vs) (hk : ∀ g, v.ownBlock = some g -> w'.heap[g]? = w.heap[g]?) : OwnV w' B v vs := ⟨own_move h.out hk⟩
theorem infoInts : (Tryz.prog.info? 34).map (fun i => (i.zero, i.size, i.bytes)) = some (some (.slice none 0 0), 1, 24) := by kernel_rfl
theorem wpList_append_slG {w0 : World} {ops : Array Oper} {rest : List Oper} {op : Oper} {a : Act} {Q : Exit -> Act -> World -> Prop} (hgd : op.guard = none) (s x : Operand)
 (ho : op.op = .call { callee := .builtin .append, args := #[s, x], argTypes := #[72, 72] })
 (B : Nat) (v : Value) (vs : List Value) (ao : Option Addr) (m c : Nat) (hs : a.eval s = v) (hown : OwnV w0 B v vs) (hx : a.eval x = .slice (some ⟨w0.heap.size, 0, none⟩) 1 1)
 (hl : vs.length + 1 <= 1759218604441) (hB : B <= w0.heap.size)
 (h : ∀ v' w', OwnV w' B v' (vs ++ [.slice ao m c]) -> GI B w0 w' v v' -> wpList Tryz.prog ops Q rest (a.put op.dst v') w') : wpList Tryz.prog ops Q (op :: rest) a (w0.alloc (.cells #[.slice ao m c] 34)) := by
 obtain ⟨i0, hi, hz0, hz1, hz2⟩ := info_parts infoInts
 refine wpList_append_where hgd s x 72 ho B 34 i0 (.slice none 0 0) 1 24 Tryz.underlying72 hi hz0 hz1 hz2 rfl (by decide) v vs.length vs hs (hown.out.alloc _) ⟨w0.heap.size, 0, none⟩ 1 1 (by omega) [.slice ao m c] hx rfl (cell_one_newI _ _ _) (fun u hu => by simp at hu; subst hu; rfl) (by unfold maxLen; omega) (by omega) (by simp; omega) ?_
 intro v' w' h1 h2 h3
 refine h v' w' ⟨?_⟩ (gi_of hown.out hB h2 h3)
 simpa using h1
theorem getD_app {α : Type} {l : List α} {x d : α} {i : Nat} (h : i < l.length) : (l ++ [x]).getD i d = l.getD i d := by
 rw [List.getD, List.getD, List.getElem?_append_left h]
theorem getD_new {α : Type} {l : List α} {x d : α} : (l ++ [x]).getD l.length d = x := by simp [List.getD]
structure LT (w : World) (B : Nat) (gs cs : List Nat) (Ls : List (List Int)) : Prop where
 lg : gs.length = Ls.length
 lc : cs.length = Ls.length
 row : ∀ i, i < Ls.length -> OwnI w B (.slice (some ⟨gs.getD i 0, 0, none⟩) ((Ls.getD i []).length + 2) (cs.getD i 0)) ((Ls.getD i []).length + 2) (Ls.getD i [] ++ [-71, -72])
 nd : ∀ i j, i < Ls.length -> j < Ls.length -> gs.getD i 0 = gs.getD j 0 -> i = j
theorem LT.nil (w : World) (B : Nat) : LT w B [] [] [] := ⟨rfl, rfl, fun i hi => by simp at hi, fun i j hi => by simp at hi⟩
theorem LT.move {w w' : World} {B gs cs Ls} (h : LT w B gs cs Ls) (hk : ∀ i, i < Ls.length -> w'.heap[gs.getD i 0]? = w.heap[gs.getD i 0]?) : LT w' B gs cs Ls :=
 ⟨h.lg, h.lc, fun i hi => ⟨(h.row i hi).len, own_move (h.row i hi).out fun g hg => by simp [Value.ownBlock] at hg; subst hg; exact hk i hi⟩, h.nd⟩
theorem LT.more {w : World} {B gs cs Ls} (h : LT w B gs cs Ls) {g c : Nat} {L : List Int} (hr : OwnI w B (.slice (some ⟨g, 0, none⟩) (L.length + 2) c) (L.length + 2) (L ++ [-71, -72])) (hn : ∀ i, i < Ls.length -> gs.getD i 0 ≠ g) : LT w B (gs ++ [g]) (cs ++ [c]) (Ls ++ [L]) := by
 have e1 : (gs ++ [g]).getD Ls.length 0 = g := by rw [<- h.lg]; exact getD_new
 have e2 : (cs ++ [c]).getD Ls.length 0 = c := by rw [<- h.lc]; exact getD_new
 have l1 := h.lg
 have l2 := h.lc
 refine ⟨by simp [h.lg], by simp [h.lc], fun i hi => ?_, fun i j hi hj e => ?_⟩
 ·simp only [List.length_append, List.length_singleton] at hi
  by_cases hl : i < Ls.length
  ·rw [getD_app (by omega), getD_app (by omega), getD_app (by omega)]; exact h.row i hl
  ·obtain rfl : i = Ls.length := by omega
   rw [e1, e2, getD_new]; exact hr
 ·simp only [List.length_append, List.length_singleton] at hi hj
  by_cases hl : i < Ls.length
  ·by_cases hl2 : j < Ls.length
   ·rw [getD_app (by omega), getD_app (by omega)] at e; exact h.nd i j hl hl2 e
   ·obtain rfl : j = Ls.length := by omega
    rw [e1, getD_app (by omega)] at e
    exact absurd e (hn i hl)
  ·obtain rfl : i = Ls.length := by omega
   by_cases hl2 : j < Ls.length
   ·rw [e1, getD_app (by omega)] at e
    exact absurd e.symm (hn j hl2)
   ·omega
end Go.Proofs.YtdbkjjelaipcfaaGreatDoor
