import Derived.Test.YtdeplodfpgnpgaaDoorLyH
set_option linter.unusedVariables false
set_option linter.unusedSimpArgs false
namespace Go.Proofs.YtdeplodfpgnpgaaDoor
open Go.ChangeShapes Go.WideShapes Go.ChangeAt Go.RowKit


set_option maxRecDepth 10000 in
set_option maxHeartbeats 8000000 in
theorem kidsFit_10 (w : World) (no : Option Addr) (nc nn : Nat) (N : List Nd) (hnn : nn = N.length) (hN : Nodes w no nc N) (n : Nd) (ka : Option Addr) (kc : Nat) (hk : Ints w ka kc n.kids) (hr : ∀ x ∈ n.kids, 0 ≤ x ∧ x < N.length) (hK : n.kind = 10) :
    Calls Tryd.prog 24 #[.slice no nn nc, nv n ka kc] w fun e w' => e = .returned (.bool (kfit N n)) ∧ Below w.heap.size w w' := by
  obtain ⟨R, hR⟩ : ∃ R, R = kfit N n := ⟨_, rfl⟩
  rw [← hR]
  have HR : KF N n R := ⟨hR⟩
  have HRR : Hid (∀ x ∈ n.kids, 0 ≤ x ∧ x < N.length) := hr
  have HNN : Hid (nn = N.length) := hnn
  clear hR hr hnn
  unfold nv
  obtain ⟨k, at_, wh, close, decl, typ, op, val, name, kids⟩ := n
  simp only at HR HRR hk hK ⊢
  obtain ⟨s, hs⟩ : ∃ s, s = bs name := ⟨_, rfl⟩
  rw [← hs]
  clear hs
  obtain ⟨c, hc⟩ : ∃ c, c = kids.length := ⟨_, rfl⟩
  rw [← hc]
  have HC : Hid (c = kids.length) := hc
  have hle : c ≤ kc := by have := hk.le; omega
  have hmx := hk.mx
  clear hc
  subst hK
  by_cases h0 : c = 2 ∨ c = 3
  · obtain ⟨b, o, rfl, hA⟩ := hk.out (by intro e; have := HC.out; simp [e] at this; omega)
    rcases h0 with rfl | rfl
    · by_cases hkc : kc = 2
      · subst hkc
        go_enter Tryd.func24, Tryd.ntmps24
        go_wp2_with fail
        go_quiet (fail)
        go_wp2_with fail
        refine (all_isExpression _ no nc nn N HNN.out (hN.below (below_drewN ((Below.refl _ _).alloc (Nat.le_refl _) _) _) (Nat.le_refl _)) _ _ _ (kids.take 1) (by have := HC.out; first | omega | (simp; omega) | (simp; done)) ((hk.takeI 1).below (below_drewN ((Below.refl _ _).alloc (Nat.le_refl _) _) _) (Nat.le_refl _)) (fun x hx => HRR.out x (mem_take hx))).mono ?_
        rintro e w' ⟨rfl, rfl⟩
        cases q0 : allK N isEx (kids.take 1)
        · go_wp2_with fail
          go_ret
          exact ⟨ret_b (by rw [HR.out]; simp only [kfit, ← HC.out]; first | (simp [q0]; done) | (simp only [q0]; simp; done) | (simp [allK]; done) | (simp [allK] at q0; done) | (simp [q0]; rw [Bool.eq_iff_iff]; simp; done) | (simp [q0]; rw [Bool.eq_iff_iff]; simp; omega)), (below_drewN ((Below.refl _ _).alloc (Nat.le_refl _) _) _)⟩
        · go_wp2_with fail
          refine (all_isBlock _ no nc nn N HNN.out (hN.below (below_drewN ((Below.refl _ _).alloc (Nat.le_refl _) _) _) (Nat.le_refl _)) _ _ _ ((kids.drop 1).take 1) (by have := HC.out; first | omega | (simp; omega) | (simp; done)) (((hk.dropI 1).takeI 1).below (below_drewN ((Below.refl _ _).alloc (Nat.le_refl _) _) _) (Nat.le_refl _)) (fun x hx => HRR.out x (mem_drop (mem_take hx)))).mono ?_
          rintro e w' ⟨rfl, rfl⟩
          cases q1 : allK N (isK 3) ((kids.drop 1).take 1)
          · go_wp2_with fail
            go_ret
            exact ⟨ret_b (by rw [HR.out]; simp only [kfit, ← HC.out]; first | (simp [q0, q1]; done) | (simp only [q0, q1]; simp; done) | (simp [allK]; done) | (simp [allK] at q0; done) | (simp [q0, q1]; rw [Bool.eq_iff_iff]; simp; done) | (simp [q0, q1]; rw [Bool.eq_iff_iff]; simp; omega)), (below_drewN ((Below.refl _ _).alloc (Nat.le_refl _) _) _)⟩
          · go_wp2_with fail
            refine (all_isElse _ no nc nn N HNN.out (hN.below (below_drewN ((Below.refl _ _).alloc (Nat.le_refl _) _) _) (Nat.le_refl _)) _ _ _ (kids.drop 2) (by have := HC.out; first | omega | (simp; omega) | (simp; done)) ((Ints.ofNil (w := w) (by have := HC.out; simp; omega) (by omega)).below (below_drewN ((Below.refl _ _).alloc (Nat.le_refl _) _) _) (Nat.le_refl _)) (fun x hx => HRR.out x (mem_drop hx))).mono ?_
            rintro e w' ⟨rfl, rfl⟩
            go_wp2_with fail
            go_ret
            exact ⟨ret_b (by rw [HR.out]; simp only [kfit, ← HC.out]; first | (simp [q0, q1]; done) | (simp only [q0, q1]; simp; done) | (simp [allK]; done) | (simp [allK] at q0; done) | (simp [q0, q1]; rw [Bool.eq_iff_iff]; simp; done) | (simp [q0, q1]; rw [Bool.eq_iff_iff]; simp; omega)), (below_drewN ((Below.refl _ _).alloc (Nat.le_refl _) _) _)⟩
      · skip
        go_enter Tryd.func24, Tryd.ntmps24
        go_wp2_with fail
        go_quiet (fail)
        go_wp2_with fail
        refine (all_isExpression _ no nc nn N HNN.out (hN.below (below_drewN ((Below.refl _ _).alloc (Nat.le_refl _) _) _) (Nat.le_refl _)) _ _ _ (kids.take 1) (by have := HC.out; first | omega | (simp; omega) | (simp; done)) ((hk.takeI 1).below (below_drewN ((Below.refl _ _).alloc (Nat.le_refl _) _) _) (Nat.le_refl _)) (fun x hx => HRR.out x (mem_take hx))).mono ?_
        rintro e w' ⟨rfl, rfl⟩
        cases q0 : allK N isEx (kids.take 1)
        · go_wp2_with fail
          go_ret
          exact ⟨ret_b (by rw [HR.out]; simp only [kfit, ← HC.out]; first | (simp [q0]; done) | (simp only [q0]; simp; done) | (simp [allK]; done) | (simp [allK] at q0; done) | (simp [q0]; rw [Bool.eq_iff_iff]; simp; done) | (simp [q0]; rw [Bool.eq_iff_iff]; simp; omega)), (below_drewN ((Below.refl _ _).alloc (Nat.le_refl _) _) _)⟩
        · go_wp2_with fail
          refine (all_isBlock _ no nc nn N HNN.out (hN.below (below_drewN ((Below.refl _ _).alloc (Nat.le_refl _) _) _) (Nat.le_refl _)) _ _ _ ((kids.drop 1).take 1) (by have := HC.out; first | omega | (simp; omega) | (simp; done)) (((hk.dropI 1).takeI 1).below (below_drewN ((Below.refl _ _).alloc (Nat.le_refl _) _) _) (Nat.le_refl _)) (fun x hx => HRR.out x (mem_drop (mem_take hx)))).mono ?_
          rintro e w' ⟨rfl, rfl⟩
          cases q1 : allK N (isK 3) ((kids.drop 1).take 1)
          · go_wp2_with fail
            go_ret
            exact ⟨ret_b (by rw [HR.out]; simp only [kfit, ← HC.out]; first | (simp [q0, q1]; done) | (simp only [q0, q1]; simp; done) | (simp [allK]; done) | (simp [allK] at q0; done) | (simp [q0, q1]; rw [Bool.eq_iff_iff]; simp; done) | (simp [q0, q1]; rw [Bool.eq_iff_iff]; simp; omega)), (below_drewN ((Below.refl _ _).alloc (Nat.le_refl _) _) _)⟩
          · go_wp2_with fail
            refine (all_isElse _ no nc nn N HNN.out (hN.below (below_drewN ((Below.refl _ _).alloc (Nat.le_refl _) _) _) (Nat.le_refl _)) _ _ _ (kids.drop 2) (by have := HC.out; first | omega | (simp; omega) | (simp; done)) ((hk.dropI 2).below (below_drewN ((Below.refl _ _).alloc (Nat.le_refl _) _) _) (Nat.le_refl _)) (fun x hx => HRR.out x (mem_drop hx))).mono ?_
            rintro e w' ⟨rfl, rfl⟩
            go_wp2_with fail
            go_ret
            exact ⟨ret_b (by rw [HR.out]; simp only [kfit, ← HC.out]; first | (simp [q0, q1]; done) | (simp only [q0, q1]; simp; done) | (simp [allK]; done) | (simp [allK] at q0; done) | (simp [q0, q1]; rw [Bool.eq_iff_iff]; simp; done) | (simp [q0, q1]; rw [Bool.eq_iff_iff]; simp; omega)), (below_drewN ((Below.refl _ _).alloc (Nat.le_refl _) _) _)⟩
    · have hkc : ¬ kc = 2 := by omega
      go_enter Tryd.func24, Tryd.ntmps24
      go_wp2_with fail
      go_quiet (fail)
      go_wp2_with fail
      refine (all_isExpression _ no nc nn N HNN.out (hN.below (below_drewN ((Below.refl _ _).alloc (Nat.le_refl _) _) _) (Nat.le_refl _)) _ _ _ (kids.take 1) (by have := HC.out; first | omega | (simp; omega) | (simp; done)) ((hk.takeI 1).below (below_drewN ((Below.refl _ _).alloc (Nat.le_refl _) _) _) (Nat.le_refl _)) (fun x hx => HRR.out x (mem_take hx))).mono ?_
      rintro e w' ⟨rfl, rfl⟩
      cases q0 : allK N isEx (kids.take 1)
      · go_wp2_with fail
        go_ret
        exact ⟨ret_b (by rw [HR.out]; simp only [kfit, ← HC.out]; first | (simp [q0]; done) | (simp only [q0]; simp; done) | (simp [allK]; done) | (simp [allK] at q0; done) | (simp [q0]; rw [Bool.eq_iff_iff]; simp; done) | (simp [q0]; rw [Bool.eq_iff_iff]; simp; omega)), (below_drewN ((Below.refl _ _).alloc (Nat.le_refl _) _) _)⟩
      · go_wp2_with fail
        refine (all_isBlock _ no nc nn N HNN.out (hN.below (below_drewN ((Below.refl _ _).alloc (Nat.le_refl _) _) _) (Nat.le_refl _)) _ _ _ ((kids.drop 1).take 1) (by have := HC.out; first | omega | (simp; omega) | (simp; done)) (((hk.dropI 1).takeI 1).below (below_drewN ((Below.refl _ _).alloc (Nat.le_refl _) _) _) (Nat.le_refl _)) (fun x hx => HRR.out x (mem_drop (mem_take hx)))).mono ?_
        rintro e w' ⟨rfl, rfl⟩
        cases q1 : allK N (isK 3) ((kids.drop 1).take 1)
        · go_wp2_with fail
          go_ret
          exact ⟨ret_b (by rw [HR.out]; simp only [kfit, ← HC.out]; first | (simp [q0, q1]; done) | (simp only [q0, q1]; simp; done) | (simp [allK]; done) | (simp [allK] at q0; done) | (simp [q0, q1]; rw [Bool.eq_iff_iff]; simp; done) | (simp [q0, q1]; rw [Bool.eq_iff_iff]; simp; omega)), (below_drewN ((Below.refl _ _).alloc (Nat.le_refl _) _) _)⟩
        · go_wp2_with fail
          refine (all_isElse _ no nc nn N HNN.out (hN.below (below_drewN ((Below.refl _ _).alloc (Nat.le_refl _) _) _) (Nat.le_refl _)) _ _ _ (kids.drop 2) (by have := HC.out; first | omega | (simp; omega) | (simp; done)) ((hk.dropI 2).below (below_drewN ((Below.refl _ _).alloc (Nat.le_refl _) _) _) (Nat.le_refl _)) (fun x hx => HRR.out x (mem_drop hx))).mono ?_
          rintro e w' ⟨rfl, rfl⟩
          go_wp2_with fail
          go_ret
          exact ⟨ret_b (by rw [HR.out]; simp only [kfit, ← HC.out]; first | (simp [q0, q1]; done) | (simp only [q0, q1]; simp; done) | (simp [allK]; done) | (simp [allK] at q0; done) | (simp [q0, q1]; rw [Bool.eq_iff_iff]; simp; done) | (simp [q0, q1]; rw [Bool.eq_iff_iff]; simp; omega)), (below_drewN ((Below.refl _ _).alloc (Nat.le_refl _) _) _)⟩
  · have h01 : ¬ (c : Int) = 2 := by omega
    have h02 : ¬ (c : Int) = 3 := by omega
    have h03 : ¬ c = 2 := by omega
    have h04 : ¬ c = 3 := by omega
    clear h0
    go_enter Tryd.func24, Tryd.ntmps24
    go_wp2_with fail
    go_quiet (fail)
    go_wp2_with fail
    go_ret
    exact ⟨ret_b (by rw [HR.out]; simp only [kfit, ← HC.out]; first | (simp [h03, h04]; done) | (simp only [h03, h04]; simp; done) | (simp [allK]; done) | (simp [allK] at q0; done) | (simp [h03, h04]; rw [Bool.eq_iff_iff]; simp; done) | (simp [h03, h04]; rw [Bool.eq_iff_iff]; simp; omega)), (below_drewN ((Below.refl _ _).alloc (Nat.le_refl _) _) _)⟩
end Go.Proofs.YtdeplodfpgnpgaaDoor
