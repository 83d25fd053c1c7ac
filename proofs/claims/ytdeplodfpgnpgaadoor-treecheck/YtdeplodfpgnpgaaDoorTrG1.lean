import Derived.Test.YtdeplodfpgnpgaaDoorLyH
set_option linter.unusedVariables false
set_option linter.unusedSimpArgs false
namespace Go.Proofs.YtdeplodfpgnpgaaDoor
open Go.ChangeShapes Go.WideShapes Go.ChangeAt Go.RowKit


set_option maxRecDepth 10000 in
set_option maxHeartbeats 8000000 in
theorem kidsFit_1 (w : World) (no : Option Addr) (nc nn : Nat) (N : List Nd) (hnn : nn = N.length) (hN : Nodes w no nc N) (n : Nd) (ka : Option Addr) (kc : Nat) (hk : Ints w ka kc n.kids) (hr : ∀ x ∈ n.kids, 0 ≤ x ∧ x < N.length) (hK : n.kind = 1) :
    Calls Tryd.prog 24 #[.slice no nn nc, nv n ka kc] w fun e w' => e = .returned (.bool (kfit N n)) ∧ Below w.heap.size w w' := by
  obtain ⟨R, hR⟩ : ∃ R, R = kfit N n := ⟨_, rfl⟩
  rw [← hR]
  have HR : KF N n R := ⟨hR⟩
  have HRR : Hid (∀ x ∈ n.kids, 0 ≤ x ∧ x < N.length) := hr
  have HNN : Hid (nn = N.length) := hnn
  clear hR hr hnn
  unfold nv
  obtain ⟨k, at_, wh, close, decl, typ, op, val, name, kids⟩ := n
  simp only at HR HRR hk hK ⊢
  obtain ⟨s, hs⟩ : ∃ s, s = bs name := ⟨_, rfl⟩
  rw [← hs]
  clear hs
  obtain ⟨c, hc⟩ : ∃ c, c = kids.length := ⟨_, rfl⟩
  rw [← hc]
  have HC : Hid (c = kids.length) := hc
  have hle : c ≤ kc := by have := hk.le; omega
  have hmx := hk.mx
  clear hc
  subst hK
  by_cases h0 : 0 < c
  · obtain ⟨b, o, rfl, hA⟩ := hk.out (by intro e; have := HC.out; simp [e] at this; omega)
    obtain ⟨c1, rfl⟩ : ∃ c1, c = c1 + 1 := ⟨c - 1, by omega⟩
    go_enter Tryd.func24, Tryd.ntmps24
    go_wp2_with fail
    go_quiet (fail)
    go_wp2_with fail
    refine (all_isParam _ no nc nn N HNN.out (hN.below (below_drewN ((Below.refl _ _).alloc (Nat.le_refl _) _) _) (Nat.le_refl _)) _ _ _ (kids.take c1) (by have := HC.out; first | omega | (simp; omega) | (simp; done)) ((hk.takeI c1).below (below_drewN ((Below.refl _ _).alloc (Nat.le_refl _) _) _) (Nat.le_refl _)) (fun x hx => HRR.out x (mem_take hx))).mono ?_
    rintro e w' ⟨rfl, rfl⟩
    cases q0 : allK N (isK 2) (kids.take c1)
    · go_wp2_with fail
      go_ret
      exact ⟨ret_b (by rw [HR.out]; simp only [kfit, ← HC.out]; first | (simp [q0]; done) | (simp only [q0]; simp; done) | (simp [allK]; done) | (simp [allK] at q0; done) | (simp [q0]; rw [Bool.eq_iff_iff]; simp; done) | (simp [q0]; rw [Bool.eq_iff_iff]; simp; omega)), (below_drewN ((Below.refl _ _).alloc (Nat.le_refl _) _) _)⟩
    · go_wp2_with fail
      refine (all_isBlock _ no nc nn N HNN.out (hN.below (below_drewN ((Below.refl _ _).alloc (Nat.le_refl _) _) _) (Nat.le_refl _)) _ _ _ (kids.drop c1) (by have := HC.out; first | omega | (simp; omega) | (simp; done)) ((hk.dropI c1).below (below_drewN ((Below.refl _ _).alloc (Nat.le_refl _) _) _) (Nat.le_refl _)) (fun x hx => HRR.out x (mem_drop hx))).mono ?_
      rintro e w' ⟨rfl, rfl⟩
      go_wp2_with fail
      go_ret
      exact ⟨ret_b (by rw [HR.out]; simp only [kfit, ← HC.out]; first | (simp [q0]; done) | (simp only [q0]; simp; done) | (simp [allK]; done) | (simp [allK] at q0; done) | (simp [q0]; rw [Bool.eq_iff_iff]; simp; done) | (simp [q0]; rw [Bool.eq_iff_iff]; simp; omega)), (below_drewN ((Below.refl _ _).alloc (Nat.le_refl _) _) _)⟩
  · have h00 : c = 0 := by omega
    subst h00
    go_enter Tryd.func24, Tryd.ntmps24
    go_wp2_with fail
    go_quiet (fail)
    go_wp2_with fail
    go_ret
    exact ⟨ret_b (by rw [HR.out]; simp only [kfit, ← HC.out]; first | (simp []; done) | (simp only []; simp; done) | (simp [allK]; done) | (simp [allK] at q0; done) | (simp []; rw [Bool.eq_iff_iff]; simp; done) | (simp []; rw [Bool.eq_iff_iff]; simp; omega)), (below_drewN ((Below.refl _ _).alloc (Nat.le_refl _) _) _)⟩

set_option maxRecDepth 10000 in
set_option maxHeartbeats 8000000 in
theorem kidsFit_3 (w : World) (no : Option Addr) (nc nn : Nat) (N : List Nd) (hnn : nn = N.length) (hN : Nodes w no nc N) (n : Nd) (ka : Option Addr) (kc : Nat) (hk : Ints w ka kc n.kids) (hr : ∀ x ∈ n.kids, 0 ≤ x ∧ x < N.length) (hK : n.kind = 3) :
    Calls Tryd.prog 24 #[.slice no nn nc, nv n ka kc] w fun e w' => e = .returned (.bool (kfit N n)) ∧ Below w.heap.size w w' := by
  obtain ⟨R, hR⟩ : ∃ R, R = kfit N n := ⟨_, rfl⟩
  rw [← hR]
  have HR : KF N n R := ⟨hR⟩
  have HRR : Hid (∀ x ∈ n.kids, 0 ≤ x ∧ x < N.length) := hr
  have HNN : Hid (nn = N.length) := hnn
  clear hR hr hnn
  unfold nv
  obtain ⟨k, at_, wh, close, decl, typ, op, val, name, kids⟩ := n
  simp only at HR HRR hk hK ⊢
  obtain ⟨s, hs⟩ : ∃ s, s = bs name := ⟨_, rfl⟩
  rw [← hs]
  clear hs
  obtain ⟨c, hc⟩ : ∃ c, c = kids.length := ⟨_, rfl⟩
  rw [← hc]
  have HC : Hid (c = kids.length) := hc
  have hle : c ≤ kc := by have := hk.le; omega
  have hmx := hk.mx
  clear hc
  subst hK
  go_enter Tryd.func24, Tryd.ntmps24
  go_wp2_with fail
  go_quiet (fail)
  go_wp2_with fail
  refine (all_isStatement _ no nc nn N HNN.out (hN.below (below_drewN ((Below.refl _ _).alloc (Nat.le_refl _) _) _) (Nat.le_refl _)) _ _ _ (kids) (by have := HC.out; first | omega | (simp; omega) | (simp; done)) ((hk).below (below_drewN ((Below.refl _ _).alloc (Nat.le_refl _) _) _) (Nat.le_refl _)) (fun x hx => HRR.out x (hx))).mono ?_
  rintro e w' ⟨rfl, rfl⟩
  go_wp2_with fail
  go_ret
  exact ⟨ret_b (by rw [HR.out]; simp only [kfit, ← HC.out]; first | (simp []; done) | (simp only []; simp; done) | (simp [allK]; done) | (simp [allK] at q0; done) | (simp []; rw [Bool.eq_iff_iff]; simp; done) | (simp []; rw [Bool.eq_iff_iff]; simp; omega)), (below_drewN ((Below.refl _ _).alloc (Nat.le_refl _) _) _)⟩

set_option maxRecDepth 10000 in
set_option maxHeartbeats 8000000 in
theorem kidsFit_7 (w : World) (no : Option Addr) (nc nn : Nat) (N : List Nd) (hnn : nn = N.length) (hN : Nodes w no nc N) (n : Nd) (ka : Option Addr) (kc : Nat) (hk : Ints w ka kc n.kids) (hr : ∀ x ∈ n.kids, 0 ≤ x ∧ x < N.length) (hK : n.kind = 7) :
    Calls Tryd.prog 24 #[.slice no nn nc, nv n ka kc] w fun e w' => e = .returned (.bool (kfit N n)) ∧ Below w.heap.size w w' := by
  obtain ⟨R, hR⟩ : ∃ R, R = kfit N n := ⟨_, rfl⟩
  rw [← hR]
  have HR : KF N n R := ⟨hR⟩
  have HRR : Hid (∀ x ∈ n.kids, 0 ≤ x ∧ x < N.length) := hr
  have HNN : Hid (nn = N.length) := hnn
  clear hR hr hnn
  unfold nv
  obtain ⟨k, at_, wh, close, decl, typ, op, val, name, kids⟩ := n
  simp only at HR HRR hk hK ⊢
  obtain ⟨s, hs⟩ : ∃ s, s = bs name := ⟨_, rfl⟩
  rw [← hs]
  clear hs
  obtain ⟨c, hc⟩ : ∃ c, c = kids.length := ⟨_, rfl⟩
  rw [← hc]
  have HC : Hid (c = kids.length) := hc
  have hle : c ≤ kc := by have := hk.le; omega
  have hmx := hk.mx
  clear hc
  subst hK
  by_cases h0 : c = 1
  · subst h0
    go_enter Tryd.func24, Tryd.ntmps24
    go_wp2_with fail
    go_quiet (fail)
    go_wp2_with fail
    refine (all_isCall _ no nc nn N HNN.out (hN.below (below_drewN ((Below.refl _ _).alloc (Nat.le_refl _) _) _) (Nat.le_refl _)) _ _ _ (kids) (by have := HC.out; first | omega | (simp; omega) | (simp; done)) ((hk).below (below_drewN ((Below.refl _ _).alloc (Nat.le_refl _) _) _) (Nat.le_refl _)) (fun x hx => HRR.out x (hx))).mono ?_
    rintro e w' ⟨rfl, rfl⟩
    go_wp2_with fail
    go_ret
    exact ⟨ret_b (by rw [HR.out]; simp only [kfit, ← HC.out]; first | (simp []; done) | (simp only []; simp; done) | (simp [allK]; done) | (simp [allK] at q0; done) | (simp []; rw [Bool.eq_iff_iff]; simp; done) | (simp []; rw [Bool.eq_iff_iff]; simp; omega)), (below_drewN ((Below.refl _ _).alloc (Nat.le_refl _) _) _)⟩
  · have h00 : ¬ (c : Int) = 1 := by omega
    go_enter Tryd.func24, Tryd.ntmps24
    go_wp2_with fail
    go_quiet (fail)
    go_wp2_with fail
    go_ret
    exact ⟨ret_b (by rw [HR.out]; simp only [kfit, ← HC.out]; first | (simp [h0]; done) | (simp only [h0]; simp; done) | (simp [allK]; done) | (simp [allK] at q0; done) | (simp [h0]; rw [Bool.eq_iff_iff]; simp; done) | (simp [h0]; rw [Bool.eq_iff_iff]; simp; omega)), (below_drewN ((Below.refl _ _).alloc (Nat.le_refl _) _) _)⟩
end Go.Proofs.YtdeplodfpgnpgaaDoor
