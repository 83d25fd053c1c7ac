import Derived.Test.YtdeplodfpgnpgaaDoorLuA
import Derived.Test.YtdeplodfpgnpgaaDoorTrH
set_option linter.unusedVariables false
set_option linter.unusedSimpArgs false
namespace Go.Proofs.YtdeplodfpgnpgaaDoor
open Go.ChangeShapes Go.WideShapes Go.ChangeAt Go.RowKit

/-- The first j kids are right. -/
structure RKT (N : List Nd) (nd : Nd) (j : Nat) (R : Bool) : Prop where
  ok : ∀ i, i < j → rWant nd.kind nd.kids.length i (kd N (nd.kids.getD i 0)) = true
  res : rKidsB N nd = R
theorem RKT.hit {N nd j R} (h : RKT N nd j R) (hj : j < nd.kids.length) (hf : rWant nd.kind nd.kids.length j (kd N (nd.kids.getD j 0)) = false) : false = R := by
  rw [← h.res]
  symm
  unfold rKidsB
  rw [Bool.and_eq_false_iff]
  right
  rw [← Bool.not_eq_true, List.all_eq_true]
  intro ha
  have := ha j (by simpa using hj)
  rw [hf] at this
  cases this
theorem RKT.next {N nd j R} (h : RKT N nd j R) (hf : rWant nd.kind nd.kids.length j (kd N (nd.kids.getD j 0)) = true) : RKT N nd (j + 1) R := ⟨fun i hi => by
  rcases Nat.lt_succ_iff_lt_or_eq.1 hi with h1 | rfl
  · exact h.ok i h1
  · exact hf, h.res⟩
theorem RKT.fin {N nd j R} (h : RKT N nd j R) (hj : nd.kids.length ≤ j) {lo hi : Int} (e : rMany nd.kind = (lo, hi)) (h1 : ¬ hi = -2) (h2 : ¬ (nd.kids.length : Int) < lo) (h3 : ¬ (0 ≤ hi ∧ hi < nd.kids.length)) : true = R := by
  rw [← h.res]
  symm
  unfold rKidsB
  rw [e]
  simp only [Bool.and_eq_true, decide_eq_true_eq, Bool.or_eq_true, List.all_eq_true]
  refine ⟨⟨⟨h1, by omega⟩, by omega⟩, fun i hi => h.ok i (by have hil : i < nd.kids.length := (by simpa using hi); omega)⟩
theorem rKids_no {N nd} {R : Bool} (hR : rKidsB N nd = R) {lo hi : Int} (e : rMany nd.kind = (lo, hi)) (h : hi = -2 ∨ (nd.kids.length : Int) < lo ∨ (0 ≤ hi ∧ hi < nd.kids.length)) : false = R := by
  rw [← hR]
  symm
  unfold rKidsB
  rw [e, Bool.and_eq_false_iff]
  left
  rw [← Bool.not_eq_true]
  simp only [Bool.and_eq_true, decide_eq_true_eq, Bool.or_eq_true]
  omega

set_option maxRecDepth 10000 in
set_option maxHeartbeats 4000000 in
theorem rKids_any (w : World) (no : Option Addr) (nc nn : Nat) (fo : Option Addr) (fc fn : Nat) (N : List Nd) (hnn : nn = N.length) (hN : Nodes w no nc N) (nd : Nd) (ka : Option Addr) (kc : Nat) (s : ByteArray) (kl : Nat) (hK : Ints w ka kc nd.kids) (hrg : ∀ x ∈ nd.kids, 0 ≤ x ∧ x < nn) (hkl : kl = nd.kids.length) (hb : kl ≤ 1000000000) (hnb : nn ≤ 1000000000) (R : Bool) (hR : rKidsB N nd = R) :
    Calls Tryd.prog 31 #[.agg #[.slice no nn nc, .slice fo fn fc], .agg #[.int .i64 nd.kind, .int .i64 nd.at_, .int .i64 nd.wh, .int .i64 nd.close, .int .i64 nd.decl, .int .i64 nd.typ, .int .i64 nd.op, .int .i64 nd.val, .string s, .slice ka kl kc]] w fun e w' => e = .returned (.bool R) ∧ Below w.heap.size w w' := by
  have HNN : Hid (nn = N.length) := hnn
  have HKL : Hid (kl = nd.kids.length) := hkl
  have HRG : Hid _ := hrg
  have HR : Hid (rKidsB N nd = R) := hR
  have hl : nn ≤ nc := by have := hN.le; omega
  have hl2 : kl ≤ kc := by have := hK.le; omega
  clear hnn hkl hrg hR
  obtain ⟨lo, hi, hlh⟩ : ∃ lo hi, rMany nd.kind = (lo, hi) := ⟨_, _, rfl⟩
  have HLH : Hid (rMany nd.kind = (lo, hi)) := hlh
  have MANY : ∀ w, Calls Tryd.prog 49 #[.int .i64 nd.kind] w fun e w' => e = .returned (.tuple #[.int .i64 lo, .int .i64 hi]) ∧ w = w' := fun w => by
    have := rMany_any nd.kind w
    rw [hlh] at this
    exact this
  clear hlh
  by_cases c1 : hi = -2
  · subst c1
    go_enter Tryd.func31, Tryd.ntmps31
    go_wp2_with (first | (go_at_call 49; refine (MANY _).mono ?_; rintro e w' ⟨rfl, rfl⟩))
    go_ret
    exact ⟨ret_b (rKids_no HR.out HLH.out (.inl rfl)), ((Below.refl _ _).alloc (Nat.le_refl _) _).alloc (by simp) _⟩
  by_cases c2 : (kl : Int) < lo
  · go_enter Tryd.func31, Tryd.ntmps31
    go_wp2_with (first | (go_at_call 49; refine (MANY _).mono ?_; rintro e w' ⟨rfl, rfl⟩))
    go_ret
    exact ⟨ret_b (rKids_no HR.out HLH.out (.inr (.inl (by have := HKL.out; omega)))), ((Below.refl _ _).alloc (Nat.le_refl _) _).alloc (by simp) _⟩
  by_cases c3 : 0 ≤ hi ∧ hi < (kl : Int)
  · obtain ⟨c3a, c3b⟩ := c3
    go_enter Tryd.func31, Tryd.ntmps31
    go_wp2_with (first | (go_at_call 49; refine (MANY _).mono ?_; rintro e w' ⟨rfl, rfl⟩))
    go_ret
    exact ⟨ret_b (rKids_no HR.out HLH.out (.inr (.inr (by have := HKL.out; omega)))), ((Below.refl _ _).alloc (Nat.le_refl _) _).alloc (by simp) _⟩
  have HC3 : Hid (¬ (0 ≤ hi ∧ hi < (kl : Int))) := c3
  have HS0 : RKT N nd 0 R := ⟨fun i hi => by omega, HR.out⟩
  by_cases c4 : 0 ≤ hi
  all_goals
    try (have c5 : decide (hi < (kl : Int)) = false := by simp; omega)
    have b1 : (hi == -2) = false := by simpa using c1
    have b2 : decide ((kl : Int) < lo) = false := by simpa using c2
    clear c3
    go_enter Tryd.func31, Tryd.ntmps31
    go_wp2_with (first | (go_at_call 49; refine (MANY _).mono ?_; rintro e w' ⟨rfl, rfl⟩))
    obtain ⟨w0, hw0⟩ : ∃ w0, w0 = (w.alloc (.cells #[.slice no nn nc, .slice fo fn fc] 25)).alloc (.cells #[.int .i64 nd.kind, .int .i64 nd.at_, .int .i64 nd.wh, .int .i64 nd.close, .int .i64 nd.decl, .int .i64 nd.typ, .int .i64 nd.op, .int .i64 nd.val, .string s, .slice ka kl kc] 30) := ⟨_, rfl⟩
    have hb0 : Below w.heap.size w w0 := by rw [hw0]; exact ((Below.refl _ _).alloc (Nat.le_refl _) _).alloc (by simp) _
    have t0 : w0.cell? ⟨w.heap.size, 0, none⟩ = some (.slice no nn nc) := by rw [hw0]; simp
    have n0 : w0.cell? ⟨w.heap.size + 1, 0, none⟩ = some (.int .i64 nd.kind) := by rw [hw0]; simp
    have n9 : w0.cell? ⟨w.heap.size + 1, 9, none⟩ = some (.slice ka kl kc) := by rw [hw0]; simp
    rw [← hw0]
    clear hw0
    clear b1 b2

    go_loopw [8] (fun v wr => ∃ j q : Nat, j ≤ kl ∧ v = .int .i64 j ∧ RKT N nd j R ∧ wr = w0.drewN q) (fun v _ => kl - (intOf v).toNat)
    case atStart => exact ⟨0, 0, by omega, rfl, HS0, rfl⟩
    case round =>
      obtain ⟨j, q, hj, rfl, HJ, hwr⟩ := hrel
      have hbq : Below w.heap.size w wr := by rw [hwr]; exact Below.drewN' hb0 q
      have t0q : wr.cell? ⟨w.heap.size, 0, none⟩ = some (.slice no nn nc) := by rw [hwr]; simpa using t0
      have n0q : wr.cell? ⟨w.heap.size + 1, 0, none⟩ = some (.int .i64 nd.kind) := by rw [hwr]; simpa using n0
      have n9q : wr.cell? ⟨w.heap.size + 1, 9, none⟩ = some (.slice ka kl kc) := by rw [hwr]; simpa using n9
      have HWR : Hid (wr = w0.drewN q) := hwr
      clear hwr t0 n0 n9
      by_cases hlt : j < kl
      · obtain ⟨kb, ko, rfl, hKA⟩ := (hK.below hbq (Nat.le_refl _)).out (by intro e; have := HKL.out; simp [e] at this; omega)
        have hkc := hKA.cell j (by have := HKL.out; omega)
        obtain ⟨x, hx⟩ : ∃ x, x = nd.kids[j]'(by have := HKL.out; omega) := ⟨_, rfl⟩
        obtain ⟨hx0, hx1⟩ := HRG.out x (by rw [hx]; exact List.getElem_mem _)
        rw [← hx] at hkc
        have HX : Hid (x = nd.kids.getD j 0) := by
          show x = _
          rw [hx]
          have : j < nd.kids.length := by have := HKL.out; omega
          simp [List.getD, this]
        obtain ⟨m, rfl⟩ : ∃ m : Nat, x = (m : Int) := ⟨x.toNat, by omega⟩
        have hmn : m < nn := by omega
        obtain ⟨b, o, rfl, hbl, hAt⟩ := (hN.below hbq (Nat.le_refl _)).out (by intro e; have := HNN.out; simp [e] at this; omega)
        obtain ⟨ka2, kc2, c0, c1, c2, c3, c4, c5, c6, c7, c8, c9, hK2⟩ := (hAt m (by have := HNN.out; omega)).out
        obtain ⟨kk, hkk⟩ : ∃ kk, kk = (N[m]'(by have := HNN.out; omega)).kind := ⟨_, rfl⟩
        rw [← hkk] at c0
        have HKD : Hid (kk = kd N (nd.kids.getD j 0)) := by
          show kk = _
          rw [← HX.out, hkk, kd]
          have : m < N.length := by have := HNN.out; omega
          simp [this]
        obtain ⟨V, hV⟩ : ∃ V, rWant nd.kind kl j kk = V := ⟨_, rfl⟩
        have WANT : ∀ w, Calls Tryd.prog 50 #[.int .i64 nd.kind, .int .i64 kl, .int .i64 j, .int .i64 kk] w fun e w' => e = .returned (.bool V) ∧ w = w' := fun w => by rw [← hV]; exact rWant_any nd.kind kl j kk hlt hb w
        have HV : Hid (rWant nd.kind nd.kids.length j (kd N (nd.kids.getD j 0)) = V) := by
          show _ = V
          rw [← hV, ← HKD.out, HKL.out]
        clear hx hkk hV hAt c1 c2 c3 c4 c5 c6 c7 c8 c9 hK2 hKA
        cases V
        · go_wp2_with fail
          go_quiet (first | (go_at_call 50; exact Calls.quiet_of_same ((WANT _).mono fun _ _ h => ⟨h.1, h.2.symm⟩)))
          go_wp2_with fail
          go_ret
          exact ⟨ret_b (HJ.hit (by have := HKL.out; omega) HV.out), Below.drewN' hbq _⟩
        · go_wp2_with fail
          go_quiet (first | (go_at_call 50; exact Calls.quiet_of_same ((WANT _).mono fun _ _ h => ⟨h.1, h.2.symm⟩)))
          go_wp2_with fail
          go_roundw
          case rel => exact ⟨j + 1, _, by omega, by go_num, HJ.next HV.out, by rw [HWR.out]; exact World.drewN_drewN _ _ _⟩
          case measure => simp [intOf]; omega
      · obtain rfl : j = kl := by omega
        go_wp2_with fail
        go_ret
        exact ⟨ret_b (HJ.fin (by have := HKL.out; omega) HLH.out c1 (by have := HKL.out; omega) (by have := HKL.out; have := HC3.out; omega)), hbq⟩
end Go.Proofs.YtdeplodfpgnpgaaDoor
