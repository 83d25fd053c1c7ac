import Derived.Test.YtdeplodfpgnpgaaDoorLyH
set_option linter.unusedVariables false
set_option linter.unusedSimpArgs false
namespace Go.Proofs.YtdeplodfpgnpgaaDoor
open Go.ChangeShapes Go.WideShapes Go.ChangeAt Go.RowKit


set_option maxRecDepth 10000 in
set_option maxHeartbeats 8000000 in
theorem kidsFit_28 (w : World) (no : Option Addr) (nc nn : Nat) (N : List Nd) (hnn : nn = N.length) (hN : Nodes w no nc N) (n : Nd) (ka : Option Addr) (kc : Nat) (hk : Ints w ka kc n.kids) (hr : ∀ x ∈ n.kids, 0 ≤ x ∧ x < N.length) (hK : n.kind = 28) :
    Calls Tryd.prog 24 #[.slice no nn nc, nv n ka kc] w fun e w' => e = .returned (.bool (kfit N n)) ∧ Below w.heap.size w w' := by
  obtain ⟨R, hR⟩ : ∃ R, R = kfit N n := ⟨_, rfl⟩
  rw [← hR]
  have HR : KF N n R := ⟨hR⟩
  have HRR : Hid (∀ x ∈ n.kids, 0 ≤ x ∧ x < N.length) := hr
  have HNN : Hid (nn = N.length) := hnn
  clear hR hr hnn
  unfold nv
  obtain ⟨k, at_, wh, close, decl, typ, op, val, name, kids⟩ := n
  simp only at HR HRR hk hK ⊢
  obtain ⟨s, hs⟩ : ∃ s, s = bs name := ⟨_, rfl⟩
  rw [← hs]
  clear hs
  obtain ⟨c, hc⟩ : ∃ c, c = kids.length := ⟨_, rfl⟩
  rw [← hc]
  have HC : Hid (c = kids.length) := hc
  have hle : c ≤ kc := by have := hk.le; omega
  have hmx := hk.mx
  clear hc
  subst hK
  by_cases h0 : c = 1
  · subst h0
    go_enter Tryd.func24, Tryd.ntmps24
    go_wp2_with fail
    go_quiet (fail)
    go_wp2_with fail
    refine (all_isExpression _ no nc nn N HNN.out (hN.below (below_drewN ((Below.refl _ _).alloc (Nat.le_refl _) _) _) (Nat.le_refl _)) _ _ _ (kids) (by have := HC.out; first | omega | (simp; omega) | (simp; done)) ((hk).below (below_drewN ((Below.refl _ _).alloc (Nat.le_refl _) _) _) (Nat.le_refl _)) (fun x hx => HRR.out x (hx))).mono ?_
    rintro e w' ⟨rfl, rfl⟩
    go_wp2_with fail
    go_ret
    exact ⟨ret_b (by rw [HR.out]; simp only [kfit, ← HC.out]; first | (simp []; done) | (simp only []; simp; done) | (simp [allK]; done) | (simp [allK] at q0; done) | (simp []; rw [Bool.eq_iff_iff]; simp; done) | (simp []; rw [Bool.eq_iff_iff]; simp; omega)), (below_drewN ((Below.refl _ _).alloc (Nat.le_refl _) _) _)⟩
  · have h00 : ¬ (c : Int) = 1 := by omega
    go_enter Tryd.func24, Tryd.ntmps24
    go_wp2_with fail
    go_quiet (fail)
    go_wp2_with fail
    go_ret
    exact ⟨ret_b (by rw [HR.out]; simp only [kfit, ← HC.out]; first | (simp [h0]; done) | (simp only [h0]; simp; done) | (simp [allK]; done) | (simp [allK] at q0; done) | (simp [h0]; rw [Bool.eq_iff_iff]; simp; done) | (simp [h0]; rw [Bool.eq_iff_iff]; simp; omega)), (below_drewN ((Below.refl _ _).alloc (Nat.le_refl _) _) _)⟩

set_option maxRecDepth 10000 in
set_option maxHeartbeats 8000000 in
theorem kidsFit_30 (w : World) (no : Option Addr) (nc nn : Nat) (N : List Nd) (hnn : nn = N.length) (hN : Nodes w no nc N) (n : Nd) (ka : Option Addr) (kc : Nat) (hk : Ints w ka kc n.kids) (hr : ∀ x ∈ n.kids, 0 ≤ x ∧ x < N.length) (hK : n.kind = 30) :
    Calls Tryd.prog 24 #[.slice no nn nc, nv n ka kc] w fun e w' => e = .returned (.bool (kfit N n)) ∧ Below w.heap.size w w' := by
  obtain ⟨R, hR⟩ : ∃ R, R = kfit N n := ⟨_, rfl⟩
  rw [← hR]
  have HR : KF N n R := ⟨hR⟩
  have HRR : Hid (∀ x ∈ n.kids, 0 ≤ x ∧ x < N.length) := hr
  have HNN : Hid (nn = N.length) := hnn
  clear hR hr hnn
  unfold nv
  obtain ⟨k, at_, wh, close, decl, typ, op, val, name, kids⟩ := n
  simp only at HR HRR hk hK ⊢
  obtain ⟨s, hs⟩ : ∃ s, s = bs name := ⟨_, rfl⟩
  rw [← hs]
  clear hs
  obtain ⟨c, hc⟩ : ∃ c, c = kids.length := ⟨_, rfl⟩
  rw [← hc]
  have HC : Hid (c = kids.length) := hc
  have hle : c ≤ kc := by have := hk.le; omega
  have hmx := hk.mx
  clear hc
  subst hK
  by_cases h0 : c = 1
  · subst h0
    go_enter Tryd.func24, Tryd.ntmps24
    go_wp2_with fail
    go_quiet (fail)
    go_wp2_with fail
    refine (all_isExpression _ no nc nn N HNN.out (hN.below (below_drewN ((Below.refl _ _).alloc (Nat.le_refl _) _) _) (Nat.le_refl _)) _ _ _ (kids) (by have := HC.out; first | omega | (simp; omega) | (simp; done)) ((hk).below (below_drewN ((Below.refl _ _).alloc (Nat.le_refl _) _) _) (Nat.le_refl _)) (fun x hx => HRR.out x (hx))).mono ?_
    rintro e w' ⟨rfl, rfl⟩
    go_wp2_with fail
    go_ret
    exact ⟨ret_b (by rw [HR.out]; simp only [kfit, ← HC.out]; first | (simp []; done) | (simp only []; simp; done) | (simp [allK]; done) | (simp [allK] at q0; done) | (simp []; rw [Bool.eq_iff_iff]; simp; done) | (simp []; rw [Bool.eq_iff_iff]; simp; omega)), (below_drewN ((Below.refl _ _).alloc (Nat.le_refl _) _) _)⟩
  · have h00 : ¬ (c : Int) = 1 := by omega
    go_enter Tryd.func24, Tryd.ntmps24
    go_wp2_with fail
    go_quiet (fail)
    go_wp2_with fail
    go_ret
    exact ⟨ret_b (by rw [HR.out]; simp only [kfit, ← HC.out]; first | (simp [h0]; done) | (simp only [h0]; simp; done) | (simp [allK]; done) | (simp [allK] at q0; done) | (simp [h0]; rw [Bool.eq_iff_iff]; simp; done) | (simp [h0]; rw [Bool.eq_iff_iff]; simp; omega)), (below_drewN ((Below.refl _ _).alloc (Nat.le_refl _) _) _)⟩

set_option maxRecDepth 10000 in
set_option maxHeartbeats 8000000 in
theorem kidsFit_6 (w : World) (no : Option Addr) (nc nn : Nat) (N : List Nd) (hnn : nn = N.length) (hN : Nodes w no nc N) (n : Nd) (ka : Option Addr) (kc : Nat) (hk : Ints w ka kc n.kids) (hr : ∀ x ∈ n.kids, 0 ≤ x ∧ x < N.length) (hK : n.kind = 6) :
    Calls Tryd.prog 24 #[.slice no nn nc, nv n ka kc] w fun e w' => e = .returned (.bool (kfit N n)) ∧ Below w.heap.size w w' := by
  obtain ⟨R, hR⟩ : ∃ R, R = kfit N n := ⟨_, rfl⟩
  rw [← hR]
  have HR : KF N n R := ⟨hR⟩
  have HRR : Hid (∀ x ∈ n.kids, 0 ≤ x ∧ x < N.length) := hr
  have HNN : Hid (nn = N.length) := hnn
  clear hR hr hnn
  unfold nv
  obtain ⟨k, at_, wh, close, decl, typ, op, val, name, kids⟩ := n
  simp only at HR HRR hk hK ⊢
  obtain ⟨s, hs⟩ : ∃ s, s = bs name := ⟨_, rfl⟩
  rw [← hs]
  clear hs
  obtain ⟨c, hc⟩ : ∃ c, c = kids.length := ⟨_, rfl⟩
  rw [← hc]
  have HC : Hid (c = kids.length) := hc
  have hle : c ≤ kc := by have := hk.le; omega
  have hmx := hk.mx
  clear hc
  subst hK
  by_cases h0 : c = 2
  · subst h0
    go_enter Tryd.func24, Tryd.ntmps24
    go_wp2_with fail
    go_quiet (fail)
    go_wp2_with fail
    refine (all_isExpression _ no nc nn N HNN.out (hN.below (below_drewN ((Below.refl _ _).alloc (Nat.le_refl _) _) _) (Nat.le_refl _)) _ _ _ (kids) (by have := HC.out; first | omega | (simp; omega) | (simp; done)) ((hk).below (below_drewN ((Below.refl _ _).alloc (Nat.le_refl _) _) _) (Nat.le_refl _)) (fun x hx => HRR.out x (hx))).mono ?_
    rintro e w' ⟨rfl, rfl⟩
    go_wp2_with fail
    go_ret
    exact ⟨ret_b (by rw [HR.out]; simp only [kfit, ← HC.out]; first | (simp []; done) | (simp only []; simp; done) | (simp [allK]; done) | (simp [allK] at q0; done) | (simp []; rw [Bool.eq_iff_iff]; simp; done) | (simp []; rw [Bool.eq_iff_iff]; simp; omega)), (below_drewN ((Below.refl _ _).alloc (Nat.le_refl _) _) _)⟩
  · have h00 : ¬ (c : Int) = 2 := by omega
    go_enter Tryd.func24, Tryd.ntmps24
    go_wp2_with fail
    go_quiet (fail)
    go_wp2_with fail
    go_ret
    exact ⟨ret_b (by rw [HR.out]; simp only [kfit, ← HC.out]; first | (simp [h0]; done) | (simp only [h0]; simp; done) | (simp [allK]; done) | (simp [allK] at q0; done) | (simp [h0]; rw [Bool.eq_iff_iff]; simp; done) | (simp [h0]; rw [Bool.eq_iff_iff]; simp; omega)), (below_drewN ((Below.refl _ _).alloc (Nat.le_refl _) _) _)⟩
end Go.Proofs.YtdeplodfpgnpgaaDoor
