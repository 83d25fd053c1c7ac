import Derived.Test.YtjepkcebfojiaaaDoorLyH
set_option linter.unusedVariables false
set_option linter.unusedSimpArgs false
namespace Go.Proofs.YtjepkcebfojiaaaDoor
open Go.ChangeShapes Go.WideShapes Go.ChangeAt Go.RowKit


set_option maxRecDepth 10000 in
set_option maxHeartbeats 8000000 in
theorem kidsFit_1 (w : World) (no : Option Addr) (nc nn : Nat) (N : List Nd) (hnn : nn = N.length) (hN : Nodes w no nc N) (n : Nd) (ka : Option Addr) (kc : Nat) (hk : Ints w ka kc n.kids) (hr : ∀ x ∈ n.kids, 0 ≤ x ∧ x < N.length) (hK : n.kind = 1) :
    Calls Tryd.prog 24 #[.slice no nn nc, nv n ka kc] w fun e w' => e = .returned (.bool (kfit N n)) ∧ Below w.heap.size w w' := by
  obtain ⟨R, hR⟩ : ∃ R, R = kfit N n := ⟨_, rfl⟩
  rw [← hR]
  have HR : KF N n R := ⟨hR⟩
  have HRR : Hid (∀ x ∈ n.kids, 0 ≤ x ∧ x < N.length) := hr
  have HNN : Hid (nn = N.length) := hnn
  clear hR hr hnn
  unfold nv
  obtain ⟨k, at_, wh, close, decl, typ, op, val, name, kids⟩ := n
  simp only at HR HRR hk hK ⊢
  obtain ⟨s, hs⟩ : ∃ s, s = bs name := ⟨_, rfl⟩
  rw [← hs]
  clear hs
  obtain ⟨c, hc⟩ : ∃ c, c = kids.length := ⟨_, rfl⟩
  rw [← hc]
  have HC : Hid (c = kids.length) := hc
  have hle : c ≤ kc := by have := hk.le; omega
  have hmx := hk.mx
  clear hc
  subst hK
  by_cases h0 : 0 < c
  · obtain ⟨b, o, rfl, hA⟩ := hk.out (by intro e; have := HC.out; simp [e] at this; omega)
    obtain ⟨c1, rfl⟩ : ∃ c1, c = c1 + 1 := ⟨c - 1, by omega⟩
    go_enter Tryd.func24, Tryd.ntmps24
    go_wp2_with fail
    go_quiet (fail)
    go_wp2_with fail
    refine (all_isParam _ no nc nn N HNN.out (hN.below (below_drewN ((Below.refl _ _).alloc (Nat.le_refl _) _) _) (Nat.le_refl _)) _ _ _ (kids.take c1) (by have := HC.out; first | omega | (simp; omega) | (simp; done)) ((hk.takeI c1).below (below_drewN ((Below.refl _ _).alloc (Nat.le_refl _) _) _) (Nat.le_refl _)) (fun x hx => HRR.out x (mem_take hx))).mono ?_
    rintro e w' ⟨rfl, rfl⟩
    cases q0 : allK N (isK 2) (kids.take c1)
    · go_wp2_with fail
      go_ret
      exact ⟨ret_b (by rw [HR.out]; simp only [kfit, ← HC.out]; first | (simp [q0]; done) | (simp only [q0]; simp; done) | (simp [allK]; done) | (simp [allK] at q0; done) | (simp [q0]; rw [Bool.eq_iff_iff]; simp; done) | (simp [q0]; rw [Bool.eq_iff_iff]; simp; omega)), (below_drewN ((Below.refl _ _).alloc (Nat.le_refl _) _) _)⟩
    · go_wp2_with fail
      refine (all_isBlock _ no nc nn N HNN.out (hN.below (below_drewN ((Below.refl _ _).alloc (Nat.le_refl _) _) _) (Nat.le_refl _)) _ _ _ (kids.drop c1) (by have := HC.out; first | omega | (simp; omega) | (simp; done)) ((hk.dropI c1).below (below_drewN ((Below.refl _ _).alloc (Nat.le_refl _) _) _) (Nat.le_refl _)) (fun x hx => HRR.out x (mem_drop hx))).mono ?_
      rintro e w' ⟨rfl, rfl⟩
      go_wp2_with fail
      go_ret
      exact ⟨ret_b (by rw [HR.out]; simp only [kfit, ← HC.out]; first | (simp [q0]; done) | (simp only [q0]; simp; done) | (simp [allK]; done) | (simp [allK] at q0; done) | (simp [q0]; rw [Bool.eq_iff_iff]; simp; done) | (simp [q0]; rw [Bool.eq_iff_iff]; simp; omega)), (below_drewN ((Below.refl _ _).alloc (Nat.le_refl _) _) _)⟩
  · have h00 : c = 0 := by omega
    subst h00
    go_enter Tryd.func24, Tryd.ntmps24
    go_wp2_with fail
    go_quiet (fail)
    go_wp2_with fail
    go_ret
    exact ⟨ret_b (by rw [HR.out]; simp only [kfit, ← HC.out]; first | (simp []; done) | (simp only []; simp; done) | (simp [allK]; done) | (simp [allK] at q0; done) | (simp []; rw [Bool.eq_iff_iff]; simp; done) | (simp []; rw [Bool.eq_iff_iff]; simp; omega)), (below_drewN ((Below.refl _ _).alloc (Nat.le_refl _) _) _)⟩

set_option maxRecDepth 10000 in
set_option maxHeartbeats 8000000 in
theorem kidsFit_3 (w : World) (no : Option Addr) (nc nn : Nat) (N : List Nd) (hnn : nn = N.length) (hN : Nodes w no nc N) (n : Nd) (ka : Option Addr) (kc : Nat) (hk : Ints w ka kc n.kids) (hr : ∀ x ∈ n.kids, 0 ≤ x ∧ x < N.length) (hK : n.kind = 3) :
    Calls Tryd.prog 24 #[.slice no nn nc, nv n ka kc] w fun e w' => e = .returned (.bool (kfit N n)) ∧ Below w.heap.size w w' := by
  obtain ⟨R, hR⟩ : ∃ R, R = kfit N n := ⟨_, rfl⟩
  rw [← hR]
  have HR : KF N n R := ⟨hR⟩
  have HRR : Hid (∀ x ∈ n.kids, 0 ≤ x ∧ x < N.length) := hr
  have HNN : Hid (nn = N.length) := hnn
  clear hR hr hnn
  unfold nv
  obtain ⟨k, at_, wh, close, decl, typ, op, val, name, kids⟩ := n
  simp only at HR HRR hk hK ⊢
  obtain ⟨s, hs⟩ : ∃ s, s = bs name := ⟨_, rfl⟩
  rw [← hs]
  clear hs
  obtain ⟨c, hc⟩ : ∃ c, c = kids.length := ⟨_, rfl⟩
  rw [← hc]
  have HC : Hid (c = kids.length) := hc
  have hle : c ≤ kc := by have := hk.le; omega
  have hmx := hk.mx
  clear hc
  subst hK
  go_enter Tryd.func24, Tryd.ntmps24
  go_wp2_with fail
  go_quiet (fail)
  go_wp2_with fail
  refine (all_isStatement _ no nc nn N HNN.out (hN.below (below_drewN ((Below.refl _ _).alloc (Nat.le_refl _) _) _) (Nat.le_refl _)) _ _ _ (kids) (by have := HC.out; first | omega | (simp; omega) | (simp; done)) ((hk).below (below_drewN ((Below.refl _ _).alloc (Nat.le_refl _) _) _) (Nat.le_refl _)) (fun x hx => HRR.out x (hx))).mono ?_
  rintro e w' ⟨rfl, rfl⟩
  go_wp2_with fail
  go_ret
  exact ⟨ret_b (by rw [HR.out]; simp only [kfit, ← HC.out]; first | (simp []; done) | (simp only []; simp; done) | (simp [allK]; done) | (simp [allK] at q0; done) | (simp []; rw [Bool.eq_iff_iff]; simp; done) | (simp []; rw [Bool.eq_iff_iff]; simp; omega)), (below_drewN ((Below.refl _ _).alloc (Nat.le_refl _) _) _)⟩

set_option maxRecDepth 10000 in
set_option maxHeartbeats 8000000 in
theorem kidsFit_7 (w : World) (no : Option Addr) (nc nn : Nat) (N : List Nd) (hnn : nn = N.length) (hN : Nodes w no nc N) (n : Nd) (ka : Option Addr) (kc : Nat) (hk : Ints w ka kc n.kids) (hr : ∀ x ∈ n.kids, 0 ≤ x ∧ x < N.length) (hK : n.kind = 7) :
    Calls Tryd.prog 24 #[.slice no nn nc, nv n ka kc] w fun e w' => e = .returned (.bool (kfit N n)) ∧ Below w.heap.size w w' := by
  obtain ⟨R, hR⟩ : ∃ R, R = kfit N n := ⟨_, rfl⟩
  rw [← hR]
  have HR : KF N n R := ⟨hR⟩
  have HRR : Hid (∀ x ∈ n.kids, 0 ≤ x ∧ x < N.length) := hr
  have HNN : Hid (nn = N.length) := hnn
  clear hR hr hnn
  unfold nv
  obtain ⟨k, at_, wh, close, decl, typ, op, val, name, kids⟩ := n
  simp only at HR HRR hk hK ⊢
  obtain ⟨s, hs⟩ : ∃ s, s = bs name := ⟨_, rfl⟩
  rw [← hs]
  clear hs
  obtain ⟨c, hc⟩ : ∃ c, c = kids.length := ⟨_, rfl⟩
  rw [← hc]
  have HC : Hid (c = kids.length) := hc
  have hle : c ≤ kc := by have := hk.le; omega
  have hmx := hk.mx
  clear hc
  subst hK
  by_cases h0 : c = 1
  · subst h0
    go_enter Tryd.func24, Tryd.ntmps24
    go_wp2_with fail
    go_quiet (fail)
    go_wp2_with fail
    refine (all_isCall _ no nc nn N HNN.out (hN.below (below_drewN ((Below.refl _ _).alloc (Nat.le_refl _) _) _) (Nat.le_refl _)) _ _ _ (kids) (by have := HC.out; first | omega | (simp; omega) | (simp; done)) ((hk).below (below_drewN ((Below.refl _ _).alloc (Nat.le_refl _) _) _) (Nat.le_refl _)) (fun x hx => HRR.out x (hx))).mono ?_
    rintro e w' ⟨rfl, rfl⟩
    go_wp2_with fail
    go_ret
    exact ⟨ret_b (by rw [HR.out]; simp only [kfit, ← HC.out]; first | (simp []; done) | (simp only []; simp; done) | (simp [allK]; done) | (simp [allK] at q0; done) | (simp []; rw [Bool.eq_iff_iff]; simp; done) | (simp []; rw [Bool.eq_iff_iff]; simp; omega)), (below_drewN ((Below.refl _ _).alloc (Nat.le_refl _) _) _)⟩
  · have h00 : ¬ (c : Int) = 1 := by omega
    go_enter Tryd.func24, Tryd.ntmps24
    go_wp2_with fail
    go_quiet (fail)
    go_wp2_with fail
    go_ret
    exact ⟨ret_b (by rw [HR.out]; simp only [kfit, ← HC.out]; first | (simp [h0]; done) | (simp only [h0]; simp; done) | (simp [allK]; done) | (simp [allK] at q0; done) | (simp [h0]; rw [Bool.eq_iff_iff]; simp; done) | (simp [h0]; rw [Bool.eq_iff_iff]; simp; omega)), (below_drewN ((Below.refl _ _).alloc (Nat.le_refl _) _) _)⟩
end Go.Proofs.YtjepkcebfojiaaaDoor
namespace Go.Proofs.YtjepkcebfojiaaaDoor
open Go.ChangeShapes Go.WideShapes Go.ChangeAt Go.RowKit


set_option maxRecDepth 10000 in
set_option maxHeartbeats 8000000 in
theorem kidsFit_10 (w : World) (no : Option Addr) (nc nn : Nat) (N : List Nd) (hnn : nn = N.length) (hN : Nodes w no nc N) (n : Nd) (ka : Option Addr) (kc : Nat) (hk : Ints w ka kc n.kids) (hr : ∀ x ∈ n.kids, 0 ≤ x ∧ x < N.length) (hK : n.kind = 10) :
    Calls Tryd.prog 24 #[.slice no nn nc, nv n ka kc] w fun e w' => e = .returned (.bool (kfit N n)) ∧ Below w.heap.size w w' := by
  obtain ⟨R, hR⟩ : ∃ R, R = kfit N n := ⟨_, rfl⟩
  rw [← hR]
  have HR : KF N n R := ⟨hR⟩
  have HRR : Hid (∀ x ∈ n.kids, 0 ≤ x ∧ x < N.length) := hr
  have HNN : Hid (nn = N.length) := hnn
  clear hR hr hnn
  unfold nv
  obtain ⟨k, at_, wh, close, decl, typ, op, val, name, kids⟩ := n
  simp only at HR HRR hk hK ⊢
  obtain ⟨s, hs⟩ : ∃ s, s = bs name := ⟨_, rfl⟩
  rw [← hs]
  clear hs
  obtain ⟨c, hc⟩ : ∃ c, c = kids.length := ⟨_, rfl⟩
  rw [← hc]
  have HC : Hid (c = kids.length) := hc
  have hle : c ≤ kc := by have := hk.le; omega
  have hmx := hk.mx
  clear hc
  subst hK
  by_cases h0 : c = 2 ∨ c = 3
  · obtain ⟨b, o, rfl, hA⟩ := hk.out (by intro e; have := HC.out; simp [e] at this; omega)
    rcases h0 with rfl | rfl
    · by_cases hkc : kc = 2
      · subst hkc
        go_enter Tryd.func24, Tryd.ntmps24
        go_wp2_with fail
        go_quiet (fail)
        go_wp2_with fail
        refine (all_isExpression _ no nc nn N HNN.out (hN.below (below_drewN ((Below.refl _ _).alloc (Nat.le_refl _) _) _) (Nat.le_refl _)) _ _ _ (kids.take 1) (by have := HC.out; first | omega | (simp; omega) | (simp; done)) ((hk.takeI 1).below (below_drewN ((Below.refl _ _).alloc (Nat.le_refl _) _) _) (Nat.le_refl _)) (fun x hx => HRR.out x (mem_take hx))).mono ?_
        rintro e w' ⟨rfl, rfl⟩
        cases q0 : allK N isEx (kids.take 1)
        · go_wp2_with fail
          go_ret
          exact ⟨ret_b (by rw [HR.out]; simp only [kfit, ← HC.out]; first | (simp [q0]; done) | (simp only [q0]; simp; done) | (simp [allK]; done) | (simp [allK] at q0; done) | (simp [q0]; rw [Bool.eq_iff_iff]; simp; done) | (simp [q0]; rw [Bool.eq_iff_iff]; simp; omega)), (below_drewN ((Below.refl _ _).alloc (Nat.le_refl _) _) _)⟩
        · go_wp2_with fail
          refine (all_isBlock _ no nc nn N HNN.out (hN.below (below_drewN ((Below.refl _ _).alloc (Nat.le_refl _) _) _) (Nat.le_refl _)) _ _ _ ((kids.drop 1).take 1) (by have := HC.out; first | omega | (simp; omega) | (simp; done)) (((hk.dropI 1).takeI 1).below (below_drewN ((Below.refl _ _).alloc (Nat.le_refl _) _) _) (Nat.le_refl _)) (fun x hx => HRR.out x (mem_drop (mem_take hx)))).mono ?_
          rintro e w' ⟨rfl, rfl⟩
          cases q1 : allK N (isK 3) ((kids.drop 1).take 1)
          · go_wp2_with fail
            go_ret
            exact ⟨ret_b (by rw [HR.out]; simp only [kfit, ← HC.out]; first | (simp [q0, q1]; done) | (simp only [q0, q1]; simp; done) | (simp [allK]; done) | (simp [allK] at q0; done) | (simp [q0, q1]; rw [Bool.eq_iff_iff]; simp; done) | (simp [q0, q1]; rw [Bool.eq_iff_iff]; simp; omega)), (below_drewN ((Below.refl _ _).alloc (Nat.le_refl _) _) _)⟩
          · go_wp2_with fail
            refine (all_isElse _ no nc nn N HNN.out (hN.below (below_drewN ((Below.refl _ _).alloc (Nat.le_refl _) _) _) (Nat.le_refl _)) _ _ _ (kids.drop 2) (by have := HC.out; first | omega | (simp; omega) | (simp; done)) ((Ints.ofNil (w := w) (by have := HC.out; simp; omega) (by omega)).below (below_drewN ((Below.refl _ _).alloc (Nat.le_refl _) _) _) (Nat.le_refl _)) (fun x hx => HRR.out x (mem_drop hx))).mono ?_
            rintro e w' ⟨rfl, rfl⟩
            go_wp2_with fail
            go_ret
            exact ⟨ret_b (by rw [HR.out]; simp only [kfit, ← HC.out]; first | (simp [q0, q1]; done) | (simp only [q0, q1]; simp; done) | (simp [allK]; done) | (simp [allK] at q0; done) | (simp [q0, q1]; rw [Bool.eq_iff_iff]; simp; done) | (simp [q0, q1]; rw [Bool.eq_iff_iff]; simp; omega)), (below_drewN ((Below.refl _ _).alloc (Nat.le_refl _) _) _)⟩
      · skip
        go_enter Tryd.func24, Tryd.ntmps24
        go_wp2_with fail
        go_quiet (fail)
        go_wp2_with fail
        refine (all_isExpression _ no nc nn N HNN.out (hN.below (below_drewN ((Below.refl _ _).alloc (Nat.le_refl _) _) _) (Nat.le_refl _)) _ _ _ (kids.take 1) (by have := HC.out; first | omega | (simp; omega) | (simp; done)) ((hk.takeI 1).below (below_drewN ((Below.refl _ _).alloc (Nat.le_refl _) _) _) (Nat.le_refl _)) (fun x hx => HRR.out x (mem_take hx))).mono ?_
        rintro e w' ⟨rfl, rfl⟩
        cases q0 : allK N isEx (kids.take 1)
        · go_wp2_with fail
          go_ret
          exact ⟨ret_b (by rw [HR.out]; simp only [kfit, ← HC.out]; first | (simp [q0]; done) | (simp only [q0]; simp; done) | (simp [allK]; done) | (simp [allK] at q0; done) | (simp [q0]; rw [Bool.eq_iff_iff]; simp; done) | (simp [q0]; rw [Bool.eq_iff_iff]; simp; omega)), (below_drewN ((Below.refl _ _).alloc (Nat.le_refl _) _) _)⟩
        · go_wp2_with fail
          refine (all_isBlock _ no nc nn N HNN.out (hN.below (below_drewN ((Below.refl _ _).alloc (Nat.le_refl _) _) _) (Nat.le_refl _)) _ _ _ ((kids.drop 1).take 1) (by have := HC.out; first | omega | (simp; omega) | (simp; done)) (((hk.dropI 1).takeI 1).below (below_drewN ((Below.refl _ _).alloc (Nat.le_refl _) _) _) (Nat.le_refl _)) (fun x hx => HRR.out x (mem_drop (mem_take hx)))).mono ?_
          rintro e w' ⟨rfl, rfl⟩
          cases q1 : allK N (isK 3) ((kids.drop 1).take 1)
          · go_wp2_with fail
            go_ret
            exact ⟨ret_b (by rw [HR.out]; simp only [kfit, ← HC.out]; first | (simp [q0, q1]; done) | (simp only [q0, q1]; simp; done) | (simp [allK]; done) | (simp [allK] at q0; done) | (simp [q0, q1]; rw [Bool.eq_iff_iff]; simp; done) | (simp [q0, q1]; rw [Bool.eq_iff_iff]; simp; omega)), (below_drewN ((Below.refl _ _).alloc (Nat.le_refl _) _) _)⟩
          · go_wp2_with fail
            refine (all_isElse _ no nc nn N HNN.out (hN.below (below_drewN ((Below.refl _ _).alloc (Nat.le_refl _) _) _) (Nat.le_refl _)) _ _ _ (kids.drop 2) (by have := HC.out; first | omega | (simp; omega) | (simp; done)) ((hk.dropI 2).below (below_drewN ((Below.refl _ _).alloc (Nat.le_refl _) _) _) (Nat.le_refl _)) (fun x hx => HRR.out x (mem_drop hx))).mono ?_
            rintro e w' ⟨rfl, rfl⟩
            go_wp2_with fail
            go_ret
            exact ⟨ret_b (by rw [HR.out]; simp only [kfit, ← HC.out]; first | (simp [q0, q1]; done) | (simp only [q0, q1]; simp; done) | (simp [allK]; done) | (simp [allK] at q0; done) | (simp [q0, q1]; rw [Bool.eq_iff_iff]; simp; done) | (simp [q0, q1]; rw [Bool.eq_iff_iff]; simp; omega)), (below_drewN ((Below.refl _ _).alloc (Nat.le_refl _) _) _)⟩
    · have hkc : ¬ kc = 2 := by omega
      go_enter Tryd.func24, Tryd.ntmps24
      go_wp2_with fail
      go_quiet (fail)
      go_wp2_with fail
      refine (all_isExpression _ no nc nn N HNN.out (hN.below (below_drewN ((Below.refl _ _).alloc (Nat.le_refl _) _) _) (Nat.le_refl _)) _ _ _ (kids.take 1) (by have := HC.out; first | omega | (simp; omega) | (simp; done)) ((hk.takeI 1).below (below_drewN ((Below.refl _ _).alloc (Nat.le_refl _) _) _) (Nat.le_refl _)) (fun x hx => HRR.out x (mem_take hx))).mono ?_
      rintro e w' ⟨rfl, rfl⟩
      cases q0 : allK N isEx (kids.take 1)
      · go_wp2_with fail
        go_ret
        exact ⟨ret_b (by rw [HR.out]; simp only [kfit, ← HC.out]; first | (simp [q0]; done) | (simp only [q0]; simp; done) | (simp [allK]; done) | (simp [allK] at q0; done) | (simp [q0]; rw [Bool.eq_iff_iff]; simp; done) | (simp [q0]; rw [Bool.eq_iff_iff]; simp; omega)), (below_drewN ((Below.refl _ _).alloc (Nat.le_refl _) _) _)⟩
      · go_wp2_with fail
        refine (all_isBlock _ no nc nn N HNN.out (hN.below (below_drewN ((Below.refl _ _).alloc (Nat.le_refl _) _) _) (Nat.le_refl _)) _ _ _ ((kids.drop 1).take 1) (by have := HC.out; first | omega | (simp; omega) | (simp; done)) (((hk.dropI 1).takeI 1).below (below_drewN ((Below.refl _ _).alloc (Nat.le_refl _) _) _) (Nat.le_refl _)) (fun x hx => HRR.out x (mem_drop (mem_take hx)))).mono ?_
        rintro e w' ⟨rfl, rfl⟩
        cases q1 : allK N (isK 3) ((kids.drop 1).take 1)
        · go_wp2_with fail
          go_ret
          exact ⟨ret_b (by rw [HR.out]; simp only [kfit, ← HC.out]; first | (simp [q0, q1]; done) | (simp only [q0, q1]; simp; done) | (simp [allK]; done) | (simp [allK] at q0; done) | (simp [q0, q1]; rw [Bool.eq_iff_iff]; simp; done) | (simp [q0, q1]; rw [Bool.eq_iff_iff]; simp; omega)), (below_drewN ((Below.refl _ _).alloc (Nat.le_refl _) _) _)⟩
        · go_wp2_with fail
          refine (all_isElse _ no nc nn N HNN.out (hN.below (below_drewN ((Below.refl _ _).alloc (Nat.le_refl _) _) _) (Nat.le_refl _)) _ _ _ (kids.drop 2) (by have := HC.out; first | omega | (simp; omega) | (simp; done)) ((hk.dropI 2).below (below_drewN ((Below.refl _ _).alloc (Nat.le_refl _) _) _) (Nat.le_refl _)) (fun x hx => HRR.out x (mem_drop hx))).mono ?_
          rintro e w' ⟨rfl, rfl⟩
          go_wp2_with fail
          go_ret
          exact ⟨ret_b (by rw [HR.out]; simp only [kfit, ← HC.out]; first | (simp [q0, q1]; done) | (simp only [q0, q1]; simp; done) | (simp [allK]; done) | (simp [allK] at q0; done) | (simp [q0, q1]; rw [Bool.eq_iff_iff]; simp; done) | (simp [q0, q1]; rw [Bool.eq_iff_iff]; simp; omega)), (below_drewN ((Below.refl _ _).alloc (Nat.le_refl _) _) _)⟩
  · have h01 : ¬ (c : Int) = 2 := by omega
    have h02 : ¬ (c : Int) = 3 := by omega
    have h03 : ¬ c = 2 := by omega
    have h04 : ¬ c = 3 := by omega
    clear h0
    go_enter Tryd.func24, Tryd.ntmps24
    go_wp2_with fail
    go_quiet (fail)
    go_wp2_with fail
    go_ret
    exact ⟨ret_b (by rw [HR.out]; simp only [kfit, ← HC.out]; first | (simp [h03, h04]; done) | (simp only [h03, h04]; simp; done) | (simp [allK]; done) | (simp [allK] at q0; done) | (simp [h03, h04]; rw [Bool.eq_iff_iff]; simp; done) | (simp [h03, h04]; rw [Bool.eq_iff_iff]; simp; omega)), (below_drewN ((Below.refl _ _).alloc (Nat.le_refl _) _) _)⟩
end Go.Proofs.YtjepkcebfojiaaaDoor
namespace Go.Proofs.YtjepkcebfojiaaaDoor
open Go.ChangeShapes Go.WideShapes Go.ChangeAt Go.RowKit


set_option maxRecDepth 10000 in
set_option maxHeartbeats 8000000 in
theorem kidsFit_11 (w : World) (no : Option Addr) (nc nn : Nat) (N : List Nd) (hnn : nn = N.length) (hN : Nodes w no nc N) (n : Nd) (ka : Option Addr) (kc : Nat) (hk : Ints w ka kc n.kids) (hr : ∀ x ∈ n.kids, 0 ≤ x ∧ x < N.length) (hK : n.kind = 11) :
    Calls Tryd.prog 24 #[.slice no nn nc, nv n ka kc] w fun e w' => e = .returned (.bool (kfit N n)) ∧ Below w.heap.size w w' := by
  obtain ⟨R, hR⟩ : ∃ R, R = kfit N n := ⟨_, rfl⟩
  rw [← hR]
  have HR : KF N n R := ⟨hR⟩
  have HRR : Hid (∀ x ∈ n.kids, 0 ≤ x ∧ x < N.length) := hr
  have HNN : Hid (nn = N.length) := hnn
  clear hR hr hnn
  unfold nv
  obtain ⟨k, at_, wh, close, decl, typ, op, val, name, kids⟩ := n
  simp only at HR HRR hk hK ⊢
  obtain ⟨s, hs⟩ : ∃ s, s = bs name := ⟨_, rfl⟩
  rw [← hs]
  clear hs
  obtain ⟨c, hc⟩ : ∃ c, c = kids.length := ⟨_, rfl⟩
  rw [← hc]
  have HC : Hid (c = kids.length) := hc
  have hle : c ≤ kc := by have := hk.le; omega
  have hmx := hk.mx
  clear hc
  subst hK
  by_cases h0 : c = 1 ∨ c = 2
  · obtain ⟨b, o, rfl, hA⟩ := hk.out (by intro e; have := HC.out; simp [e] at this; omega)
    rcases h0 with rfl | rfl
    · skip
      go_enter Tryd.func24, Tryd.ntmps24
      go_wp2_with fail
      go_quiet (fail)
      go_wp2_with fail
      refine (all_isExpression _ no nc nn N HNN.out (hN.below (below_drewN ((Below.refl _ _).alloc (Nat.le_refl _) _) _) (Nat.le_refl _)) _ _ _ (kids.take 0) (by have := HC.out; first | omega | (simp; omega) | (simp; done)) ((hk.takeI 0).below (below_drewN ((Below.refl _ _).alloc (Nat.le_refl _) _) _) (Nat.le_refl _)) (fun x hx => HRR.out x (mem_take hx))).mono ?_
      rintro e w' ⟨rfl, rfl⟩
      cases q0 : allK N isEx (kids.take 0)
      · go_wp2_with fail
        go_ret
        exact ⟨ret_b (by rw [HR.out]; simp only [kfit, ← HC.out]; first | (simp [q0]; done) | (simp only [q0]; simp; done) | (simp [allK]; done) | (simp [allK] at q0; done) | (simp [q0]; rw [Bool.eq_iff_iff]; simp; done) | (simp [q0]; rw [Bool.eq_iff_iff]; simp; omega)), (below_drewN ((Below.refl _ _).alloc (Nat.le_refl _) _) _)⟩
      · go_wp2_with fail
        refine (all_isBlock _ no nc nn N HNN.out (hN.below (below_drewN ((Below.refl _ _).alloc (Nat.le_refl _) _) _) (Nat.le_refl _)) _ _ _ (kids.drop 0) (by have := HC.out; first | omega | (simp; omega) | (simp; done)) ((hk.dropI 0).below (below_drewN ((Below.refl _ _).alloc (Nat.le_refl _) _) _) (Nat.le_refl _)) (fun x hx => HRR.out x (mem_drop hx))).mono ?_
        rintro e w' ⟨rfl, rfl⟩
        go_wp2_with fail
        go_ret
        exact ⟨ret_b (by rw [HR.out]; simp only [kfit, ← HC.out]; first | (simp [q0]; done) | (simp only [q0]; simp; done) | (simp [allK]; done) | (simp [allK] at q0; done) | (simp [q0]; rw [Bool.eq_iff_iff]; simp; done) | (simp [q0]; rw [Bool.eq_iff_iff]; simp; omega)), (below_drewN ((Below.refl _ _).alloc (Nat.le_refl _) _) _)⟩
    · skip
      go_enter Tryd.func24, Tryd.ntmps24
      go_wp2_with fail
      go_quiet (fail)
      go_wp2_with fail
      refine (all_isExpression _ no nc nn N HNN.out (hN.below (below_drewN ((Below.refl _ _).alloc (Nat.le_refl _) _) _) (Nat.le_refl _)) _ _ _ (kids.take 1) (by have := HC.out; first | omega | (simp; omega) | (simp; done)) ((hk.takeI 1).below (below_drewN ((Below.refl _ _).alloc (Nat.le_refl _) _) _) (Nat.le_refl _)) (fun x hx => HRR.out x (mem_take hx))).mono ?_
      rintro e w' ⟨rfl, rfl⟩
      cases q0 : allK N isEx (kids.take 1)
      · go_wp2_with fail
        go_ret
        exact ⟨ret_b (by rw [HR.out]; simp only [kfit, ← HC.out]; first | (simp [q0]; done) | (simp only [q0]; simp; done) | (simp [allK]; done) | (simp [allK] at q0; done) | (simp [q0]; rw [Bool.eq_iff_iff]; simp; done) | (simp [q0]; rw [Bool.eq_iff_iff]; simp; omega)), (below_drewN ((Below.refl _ _).alloc (Nat.le_refl _) _) _)⟩
      · go_wp2_with fail
        refine (all_isBlock _ no nc nn N HNN.out (hN.below (below_drewN ((Below.refl _ _).alloc (Nat.le_refl _) _) _) (Nat.le_refl _)) _ _ _ (kids.drop 1) (by have := HC.out; first | omega | (simp; omega) | (simp; done)) ((hk.dropI 1).below (below_drewN ((Below.refl _ _).alloc (Nat.le_refl _) _) _) (Nat.le_refl _)) (fun x hx => HRR.out x (mem_drop hx))).mono ?_
        rintro e w' ⟨rfl, rfl⟩
        go_wp2_with fail
        go_ret
        exact ⟨ret_b (by rw [HR.out]; simp only [kfit, ← HC.out]; first | (simp [q0]; done) | (simp only [q0]; simp; done) | (simp [allK]; done) | (simp [allK] at q0; done) | (simp [q0]; rw [Bool.eq_iff_iff]; simp; done) | (simp [q0]; rw [Bool.eq_iff_iff]; simp; omega)), (below_drewN ((Below.refl _ _).alloc (Nat.le_refl _) _) _)⟩
  · have h01 : ¬ (c : Int) = 1 := by omega
    have h02 : ¬ (c : Int) = 2 := by omega
    have h03 : ¬ c = 1 := by omega
    have h04 : ¬ c = 2 := by omega
    clear h0
    go_enter Tryd.func24, Tryd.ntmps24
    go_wp2_with fail
    go_quiet (fail)
    go_wp2_with fail
    go_ret
    exact ⟨ret_b (by rw [HR.out]; simp only [kfit, ← HC.out]; first | (simp [h03, h04]; done) | (simp only [h03, h04]; simp; done) | (simp [allK]; done) | (simp [allK] at q0; done) | (simp [h03, h04]; rw [Bool.eq_iff_iff]; simp; done) | (simp [h03, h04]; rw [Bool.eq_iff_iff]; simp; omega)), (below_drewN ((Below.refl _ _).alloc (Nat.le_refl _) _) _)⟩

set_option maxRecDepth 10000 in
set_option maxHeartbeats 8000000 in
theorem kidsFit_25 (w : World) (no : Option Addr) (nc nn : Nat) (N : List Nd) (hnn : nn = N.length) (hN : Nodes w no nc N) (n : Nd) (ka : Option Addr) (kc : Nat) (hk : Ints w ka kc n.kids) (hr : ∀ x ∈ n.kids, 0 ≤ x ∧ x < N.length) (hK : n.kind = 25) :
    Calls Tryd.prog 24 #[.slice no nn nc, nv n ka kc] w fun e w' => e = .returned (.bool (kfit N n)) ∧ Below w.heap.size w w' := by
  obtain ⟨R, hR⟩ : ∃ R, R = kfit N n := ⟨_, rfl⟩
  rw [← hR]
  have HR : KF N n R := ⟨hR⟩
  have HRR : Hid (∀ x ∈ n.kids, 0 ≤ x ∧ x < N.length) := hr
  have HNN : Hid (nn = N.length) := hnn
  clear hR hr hnn
  unfold nv
  obtain ⟨k, at_, wh, close, decl, typ, op, val, name, kids⟩ := n
  simp only at HR HRR hk hK ⊢
  obtain ⟨s, hs⟩ : ∃ s, s = bs name := ⟨_, rfl⟩
  rw [← hs]
  clear hs
  obtain ⟨c, hc⟩ : ∃ c, c = kids.length := ⟨_, rfl⟩
  rw [← hc]
  have HC : Hid (c = kids.length) := hc
  have hle : c ≤ kc := by have := hk.le; omega
  have hmx := hk.mx
  clear hc
  subst hK
  go_enter Tryd.func24, Tryd.ntmps24
  go_wp2_with fail
  go_quiet (fail)
  go_wp2_with fail
  refine (all_isExpression _ no nc nn N HNN.out (hN.below (below_drewN ((Below.refl _ _).alloc (Nat.le_refl _) _) _) (Nat.le_refl _)) _ _ _ (kids) (by have := HC.out; first | omega | (simp; omega) | (simp; done)) ((hk).below (below_drewN ((Below.refl _ _).alloc (Nat.le_refl _) _) _) (Nat.le_refl _)) (fun x hx => HRR.out x (hx))).mono ?_
  rintro e w' ⟨rfl, rfl⟩
  go_wp2_with fail
  go_ret
  exact ⟨ret_b (by rw [HR.out]; simp only [kfit, ← HC.out]; first | (simp []; done) | (simp only []; simp; done) | (simp [allK]; done) | (simp [allK] at q0; done) | (simp []; rw [Bool.eq_iff_iff]; simp; done) | (simp []; rw [Bool.eq_iff_iff]; simp; omega)), (below_drewN ((Below.refl _ _).alloc (Nat.le_refl _) _) _)⟩

set_option maxRecDepth 10000 in
set_option maxHeartbeats 8000000 in
theorem kidsFit_4 (w : World) (no : Option Addr) (nc nn : Nat) (N : List Nd) (hnn : nn = N.length) (hN : Nodes w no nc N) (n : Nd) (ka : Option Addr) (kc : Nat) (hk : Ints w ka kc n.kids) (hr : ∀ x ∈ n.kids, 0 ≤ x ∧ x < N.length) (hK : n.kind = 4) :
    Calls Tryd.prog 24 #[.slice no nn nc, nv n ka kc] w fun e w' => e = .returned (.bool (kfit N n)) ∧ Below w.heap.size w w' := by
  obtain ⟨R, hR⟩ : ∃ R, R = kfit N n := ⟨_, rfl⟩
  rw [← hR]
  have HR : KF N n R := ⟨hR⟩
  have HRR : Hid (∀ x ∈ n.kids, 0 ≤ x ∧ x < N.length) := hr
  have HNN : Hid (nn = N.length) := hnn
  clear hR hr hnn
  unfold nv
  obtain ⟨k, at_, wh, close, decl, typ, op, val, name, kids⟩ := n
  simp only at HR HRR hk hK ⊢
  obtain ⟨s, hs⟩ : ∃ s, s = bs name := ⟨_, rfl⟩
  rw [← hs]
  clear hs
  obtain ⟨c, hc⟩ : ∃ c, c = kids.length := ⟨_, rfl⟩
  rw [← hc]
  have HC : Hid (c = kids.length) := hc
  have hle : c ≤ kc := by have := hk.le; omega
  have hmx := hk.mx
  clear hc
  subst hK
  by_cases h0 : c ≤ 1
  · skip
    go_enter Tryd.func24, Tryd.ntmps24
    go_wp2_with fail
    go_quiet (fail)
    go_wp2_with fail
    refine (all_isExpression _ no nc nn N HNN.out (hN.below (below_drewN ((Below.refl _ _).alloc (Nat.le_refl _) _) _) (Nat.le_refl _)) _ _ _ (kids) (by have := HC.out; first | omega | (simp; omega) | (simp; done)) ((hk).below (below_drewN ((Below.refl _ _).alloc (Nat.le_refl _) _) _) (Nat.le_refl _)) (fun x hx => HRR.out x (hx))).mono ?_
    rintro e w' ⟨rfl, rfl⟩
    go_wp2_with fail
    go_ret
    exact ⟨ret_b (by rw [HR.out]; simp only [kfit, ← HC.out]; first | (simp [h0]; done) | (simp only [h0]; simp; done) | (simp [allK]; done) | (simp [allK] at q0; done) | (simp [h0]; rw [Bool.eq_iff_iff]; simp; done) | (simp [h0]; rw [Bool.eq_iff_iff]; simp; omega)), (below_drewN ((Below.refl _ _).alloc (Nat.le_refl _) _) _)⟩
  · skip
    go_enter Tryd.func24, Tryd.ntmps24
    go_wp2_with fail
    go_quiet (fail)
    go_wp2_with fail
    go_ret
    exact ⟨ret_b (by rw [HR.out]; simp only [kfit, ← HC.out]; first | (simp [h0]; done) | (simp only [h0]; simp; done) | (simp [allK]; done) | (simp [allK] at q0; done) | (simp [h0]; rw [Bool.eq_iff_iff]; simp; done) | (simp [h0]; rw [Bool.eq_iff_iff]; simp; omega)), (below_drewN ((Below.refl _ _).alloc (Nat.le_refl _) _) _)⟩

set_option maxRecDepth 10000 in
set_option maxHeartbeats 8000000 in
theorem kidsFit_12 (w : World) (no : Option Addr) (nc nn : Nat) (N : List Nd) (hnn : nn = N.length) (hN : Nodes w no nc N) (n : Nd) (ka : Option Addr) (kc : Nat) (hk : Ints w ka kc n.kids) (hr : ∀ x ∈ n.kids, 0 ≤ x ∧ x < N.length) (hK : n.kind = 12) :
    Calls Tryd.prog 24 #[.slice no nn nc, nv n ka kc] w fun e w' => e = .returned (.bool (kfit N n)) ∧ Below w.heap.size w w' := by
  obtain ⟨R, hR⟩ : ∃ R, R = kfit N n := ⟨_, rfl⟩
  rw [← hR]
  have HR : KF N n R := ⟨hR⟩
  have HRR : Hid (∀ x ∈ n.kids, 0 ≤ x ∧ x < N.length) := hr
  have HNN : Hid (nn = N.length) := hnn
  clear hR hr hnn
  unfold nv
  obtain ⟨k, at_, wh, close, decl, typ, op, val, name, kids⟩ := n
  simp only at HR HRR hk hK ⊢
  obtain ⟨s, hs⟩ : ∃ s, s = bs name := ⟨_, rfl⟩
  rw [← hs]
  clear hs
  obtain ⟨c, hc⟩ : ∃ c, c = kids.length := ⟨_, rfl⟩
  rw [← hc]
  have HC : Hid (c = kids.length) := hc
  have hle : c ≤ kc := by have := hk.le; omega
  have hmx := hk.mx
  clear hc
  subst hK
  by_cases h0 : c ≤ 1
  · skip
    go_enter Tryd.func24, Tryd.ntmps24
    go_wp2_with fail
    go_quiet (fail)
    go_wp2_with fail
    refine (all_isExpression _ no nc nn N HNN.out (hN.below (below_drewN ((Below.refl _ _).alloc (Nat.le_refl _) _) _) (Nat.le_refl _)) _ _ _ (kids) (by have := HC.out; first | omega | (simp; omega) | (simp; done)) ((hk).below (below_drewN ((Below.refl _ _).alloc (Nat.le_refl _) _) _) (Nat.le_refl _)) (fun x hx => HRR.out x (hx))).mono ?_
    rintro e w' ⟨rfl, rfl⟩
    go_wp2_with fail
    go_ret
    exact ⟨ret_b (by rw [HR.out]; simp only [kfit, ← HC.out]; first | (simp [h0]; done) | (simp only [h0]; simp; done) | (simp [allK]; done) | (simp [allK] at q0; done) | (simp [h0]; rw [Bool.eq_iff_iff]; simp; done) | (simp [h0]; rw [Bool.eq_iff_iff]; simp; omega)), (below_drewN ((Below.refl _ _).alloc (Nat.le_refl _) _) _)⟩
  · skip
    go_enter Tryd.func24, Tryd.ntmps24
    go_wp2_with fail
    go_quiet (fail)
    go_wp2_with fail
    go_ret
    exact ⟨ret_b (by rw [HR.out]; simp only [kfit, ← HC.out]; first | (simp [h0]; done) | (simp only [h0]; simp; done) | (simp [allK]; done) | (simp [allK] at q0; done) | (simp [h0]; rw [Bool.eq_iff_iff]; simp; done) | (simp [h0]; rw [Bool.eq_iff_iff]; simp; omega)), (below_drewN ((Below.refl _ _).alloc (Nat.le_refl _) _) _)⟩
end Go.Proofs.YtjepkcebfojiaaaDoor
namespace Go.Proofs.YtjepkcebfojiaaaDoor
open Go.ChangeShapes Go.WideShapes Go.ChangeAt Go.RowKit


set_option maxRecDepth 10000 in
set_option maxHeartbeats 8000000 in
theorem kidsFit_5 (w : World) (no : Option Addr) (nc nn : Nat) (N : List Nd) (hnn : nn = N.length) (hN : Nodes w no nc N) (n : Nd) (ka : Option Addr) (kc : Nat) (hk : Ints w ka kc n.kids) (hr : ∀ x ∈ n.kids, 0 ≤ x ∧ x < N.length) (hK : n.kind = 5) :
    Calls Tryd.prog 24 #[.slice no nn nc, nv n ka kc] w fun e w' => e = .returned (.bool (kfit N n)) ∧ Below w.heap.size w w' := by
  obtain ⟨R, hR⟩ : ∃ R, R = kfit N n := ⟨_, rfl⟩
  rw [← hR]
  have HR : KF N n R := ⟨hR⟩
  have HRR : Hid (∀ x ∈ n.kids, 0 ≤ x ∧ x < N.length) := hr
  have HNN : Hid (nn = N.length) := hnn
  clear hR hr hnn
  unfold nv
  obtain ⟨k, at_, wh, close, decl, typ, op, val, name, kids⟩ := n
  simp only at HR HRR hk hK ⊢
  obtain ⟨s, hs⟩ : ∃ s, s = bs name := ⟨_, rfl⟩
  rw [← hs]
  clear hs
  obtain ⟨c, hc⟩ : ∃ c, c = kids.length := ⟨_, rfl⟩
  rw [← hc]
  have HC : Hid (c = kids.length) := hc
  have hle : c ≤ kc := by have := hk.le; omega
  have hmx := hk.mx
  clear hc
  subst hK
  by_cases h0 : c = 1
  · subst h0
    go_enter Tryd.func24, Tryd.ntmps24
    go_wp2_with fail
    go_quiet (fail)
    go_wp2_with fail
    refine (all_isExpression _ no nc nn N HNN.out (hN.below (below_drewN ((Below.refl _ _).alloc (Nat.le_refl _) _) _) (Nat.le_refl _)) _ _ _ (kids) (by have := HC.out; first | omega | (simp; omega) | (simp; done)) ((hk).below (below_drewN ((Below.refl _ _).alloc (Nat.le_refl _) _) _) (Nat.le_refl _)) (fun x hx => HRR.out x (hx))).mono ?_
    rintro e w' ⟨rfl, rfl⟩
    go_wp2_with fail
    go_ret
    exact ⟨ret_b (by rw [HR.out]; simp only [kfit, ← HC.out]; first | (simp []; done) | (simp only []; simp; done) | (simp [allK]; done) | (simp [allK] at q0; done) | (simp []; rw [Bool.eq_iff_iff]; simp; done) | (simp []; rw [Bool.eq_iff_iff]; simp; omega)), (below_drewN ((Below.refl _ _).alloc (Nat.le_refl _) _) _)⟩
  · have h00 : ¬ (c : Int) = 1 := by omega
    go_enter Tryd.func24, Tryd.ntmps24
    go_wp2_with fail
    go_quiet (fail)
    go_wp2_with fail
    go_ret
    exact ⟨ret_b (by rw [HR.out]; simp only [kfit, ← HC.out]; first | (simp [h0]; done) | (simp only [h0]; simp; done) | (simp [allK]; done) | (simp [allK] at q0; done) | (simp [h0]; rw [Bool.eq_iff_iff]; simp; done) | (simp [h0]; rw [Bool.eq_iff_iff]; simp; omega)), (below_drewN ((Below.refl _ _).alloc (Nat.le_refl _) _) _)⟩

set_option maxRecDepth 10000 in
set_option maxHeartbeats 8000000 in
theorem kidsFit_8 (w : World) (no : Option Addr) (nc nn : Nat) (N : List Nd) (hnn : nn = N.length) (hN : Nodes w no nc N) (n : Nd) (ka : Option Addr) (kc : Nat) (hk : Ints w ka kc n.kids) (hr : ∀ x ∈ n.kids, 0 ≤ x ∧ x < N.length) (hK : n.kind = 8) :
    Calls Tryd.prog 24 #[.slice no nn nc, nv n ka kc] w fun e w' => e = .returned (.bool (kfit N n)) ∧ Below w.heap.size w w' := by
  obtain ⟨R, hR⟩ : ∃ R, R = kfit N n := ⟨_, rfl⟩
  rw [← hR]
  have HR : KF N n R := ⟨hR⟩
  have HRR : Hid (∀ x ∈ n.kids, 0 ≤ x ∧ x < N.length) := hr
  have HNN : Hid (nn = N.length) := hnn
  clear hR hr hnn
  unfold nv
  obtain ⟨k, at_, wh, close, decl, typ, op, val, name, kids⟩ := n
  simp only at HR HRR hk hK ⊢
  obtain ⟨s, hs⟩ : ∃ s, s = bs name := ⟨_, rfl⟩
  rw [← hs]
  clear hs
  obtain ⟨c, hc⟩ : ∃ c, c = kids.length := ⟨_, rfl⟩
  rw [← hc]
  have HC : Hid (c = kids.length) := hc
  have hle : c ≤ kc := by have := hk.le; omega
  have hmx := hk.mx
  clear hc
  subst hK
  by_cases h0 : c = 1
  · subst h0
    go_enter Tryd.func24, Tryd.ntmps24
    go_wp2_with fail
    go_quiet (fail)
    go_wp2_with fail
    refine (all_isExpression _ no nc nn N HNN.out (hN.below (below_drewN ((Below.refl _ _).alloc (Nat.le_refl _) _) _) (Nat.le_refl _)) _ _ _ (kids) (by have := HC.out; first | omega | (simp; omega) | (simp; done)) ((hk).below (below_drewN ((Below.refl _ _).alloc (Nat.le_refl _) _) _) (Nat.le_refl _)) (fun x hx => HRR.out x (hx))).mono ?_
    rintro e w' ⟨rfl, rfl⟩
    go_wp2_with fail
    go_ret
    exact ⟨ret_b (by rw [HR.out]; simp only [kfit, ← HC.out]; first | (simp []; done) | (simp only []; simp; done) | (simp [allK]; done) | (simp [allK] at q0; done) | (simp []; rw [Bool.eq_iff_iff]; simp; done) | (simp []; rw [Bool.eq_iff_iff]; simp; omega)), (below_drewN ((Below.refl _ _).alloc (Nat.le_refl _) _) _)⟩
  · have h00 : ¬ (c : Int) = 1 := by omega
    go_enter Tryd.func24, Tryd.ntmps24
    go_wp2_with fail
    go_quiet (fail)
    go_wp2_with fail
    go_ret
    exact ⟨ret_b (by rw [HR.out]; simp only [kfit, ← HC.out]; first | (simp [h0]; done) | (simp only [h0]; simp; done) | (simp [allK]; done) | (simp [allK] at q0; done) | (simp [h0]; rw [Bool.eq_iff_iff]; simp; done) | (simp [h0]; rw [Bool.eq_iff_iff]; simp; omega)), (below_drewN ((Below.refl _ _).alloc (Nat.le_refl _) _) _)⟩

set_option maxRecDepth 10000 in
set_option maxHeartbeats 8000000 in
theorem kidsFit_9 (w : World) (no : Option Addr) (nc nn : Nat) (N : List Nd) (hnn : nn = N.length) (hN : Nodes w no nc N) (n : Nd) (ka : Option Addr) (kc : Nat) (hk : Ints w ka kc n.kids) (hr : ∀ x ∈ n.kids, 0 ≤ x ∧ x < N.length) (hK : n.kind = 9) :
    Calls Tryd.prog 24 #[.slice no nn nc, nv n ka kc] w fun e w' => e = .returned (.bool (kfit N n)) ∧ Below w.heap.size w w' := by
  obtain ⟨R, hR⟩ : ∃ R, R = kfit N n := ⟨_, rfl⟩
  rw [← hR]
  have HR : KF N n R := ⟨hR⟩
  have HRR : Hid (∀ x ∈ n.kids, 0 ≤ x ∧ x < N.length) := hr
  have HNN : Hid (nn = N.length) := hnn
  clear hR hr hnn
  unfold nv
  obtain ⟨k, at_, wh, close, decl, typ, op, val, name, kids⟩ := n
  simp only at HR HRR hk hK ⊢
  obtain ⟨s, hs⟩ : ∃ s, s = bs name := ⟨_, rfl⟩
  rw [← hs]
  clear hs
  obtain ⟨c, hc⟩ : ∃ c, c = kids.length := ⟨_, rfl⟩
  rw [← hc]
  have HC : Hid (c = kids.length) := hc
  have hle : c ≤ kc := by have := hk.le; omega
  have hmx := hk.mx
  clear hc
  subst hK
  by_cases h0 : c = 1
  · subst h0
    go_enter Tryd.func24, Tryd.ntmps24
    go_wp2_with fail
    go_quiet (fail)
    go_wp2_with fail
    refine (all_isExpression _ no nc nn N HNN.out (hN.below (below_drewN ((Below.refl _ _).alloc (Nat.le_refl _) _) _) (Nat.le_refl _)) _ _ _ (kids) (by have := HC.out; first | omega | (simp; omega) | (simp; done)) ((hk).below (below_drewN ((Below.refl _ _).alloc (Nat.le_refl _) _) _) (Nat.le_refl _)) (fun x hx => HRR.out x (hx))).mono ?_
    rintro e w' ⟨rfl, rfl⟩
    go_wp2_with fail
    go_ret
    exact ⟨ret_b (by rw [HR.out]; simp only [kfit, ← HC.out]; first | (simp []; done) | (simp only []; simp; done) | (simp [allK]; done) | (simp [allK] at q0; done) | (simp []; rw [Bool.eq_iff_iff]; simp; done) | (simp []; rw [Bool.eq_iff_iff]; simp; omega)), (below_drewN ((Below.refl _ _).alloc (Nat.le_refl _) _) _)⟩
  · have h00 : ¬ (c : Int) = 1 := by omega
    go_enter Tryd.func24, Tryd.ntmps24
    go_wp2_with fail
    go_quiet (fail)
    go_wp2_with fail
    go_ret
    exact ⟨ret_b (by rw [HR.out]; simp only [kfit, ← HC.out]; first | (simp [h0]; done) | (simp only [h0]; simp; done) | (simp [allK]; done) | (simp [allK] at q0; done) | (simp [h0]; rw [Bool.eq_iff_iff]; simp; done) | (simp [h0]; rw [Bool.eq_iff_iff]; simp; omega)), (below_drewN ((Below.refl _ _).alloc (Nat.le_refl _) _) _)⟩

set_option maxRecDepth 10000 in
set_option maxHeartbeats 8000000 in
theorem kidsFit_27 (w : World) (no : Option Addr) (nc nn : Nat) (N : List Nd) (hnn : nn = N.length) (hN : Nodes w no nc N) (n : Nd) (ka : Option Addr) (kc : Nat) (hk : Ints w ka kc n.kids) (hr : ∀ x ∈ n.kids, 0 ≤ x ∧ x < N.length) (hK : n.kind = 27) :
    Calls Tryd.prog 24 #[.slice no nn nc, nv n ka kc] w fun e w' => e = .returned (.bool (kfit N n)) ∧ Below w.heap.size w w' := by
  obtain ⟨R, hR⟩ : ∃ R, R = kfit N n := ⟨_, rfl⟩
  rw [← hR]
  have HR : KF N n R := ⟨hR⟩
  have HRR : Hid (∀ x ∈ n.kids, 0 ≤ x ∧ x < N.length) := hr
  have HNN : Hid (nn = N.length) := hnn
  clear hR hr hnn
  unfold nv
  obtain ⟨k, at_, wh, close, decl, typ, op, val, name, kids⟩ := n
  simp only at HR HRR hk hK ⊢
  obtain ⟨s, hs⟩ : ∃ s, s = bs name := ⟨_, rfl⟩
  rw [← hs]
  clear hs
  obtain ⟨c, hc⟩ : ∃ c, c = kids.length := ⟨_, rfl⟩
  rw [← hc]
  have HC : Hid (c = kids.length) := hc
  have hle : c ≤ kc := by have := hk.le; omega
  have hmx := hk.mx
  clear hc
  subst hK
  by_cases h0 : c = 1
  · subst h0
    go_enter Tryd.func24, Tryd.ntmps24
    go_wp2_with fail
    go_quiet (fail)
    go_wp2_with fail
    refine (all_isExpression _ no nc nn N HNN.out (hN.below (below_drewN ((Below.refl _ _).alloc (Nat.le_refl _) _) _) (Nat.le_refl _)) _ _ _ (kids) (by have := HC.out; first | omega | (simp; omega) | (simp; done)) ((hk).below (below_drewN ((Below.refl _ _).alloc (Nat.le_refl _) _) _) (Nat.le_refl _)) (fun x hx => HRR.out x (hx))).mono ?_
    rintro e w' ⟨rfl, rfl⟩
    go_wp2_with fail
    go_ret
    exact ⟨ret_b (by rw [HR.out]; simp only [kfit, ← HC.out]; first | (simp []; done) | (simp only []; simp; done) | (simp [allK]; done) | (simp [allK] at q0; done) | (simp []; rw [Bool.eq_iff_iff]; simp; done) | (simp []; rw [Bool.eq_iff_iff]; simp; omega)), (below_drewN ((Below.refl _ _).alloc (Nat.le_refl _) _) _)⟩
  · have h00 : ¬ (c : Int) = 1 := by omega
    go_enter Tryd.func24, Tryd.ntmps24
    go_wp2_with fail
    go_quiet (fail)
    go_wp2_with fail
    go_ret
    exact ⟨ret_b (by rw [HR.out]; simp only [kfit, ← HC.out]; first | (simp [h0]; done) | (simp only [h0]; simp; done) | (simp [allK]; done) | (simp [allK] at q0; done) | (simp [h0]; rw [Bool.eq_iff_iff]; simp; done) | (simp [h0]; rw [Bool.eq_iff_iff]; simp; omega)), (below_drewN ((Below.refl _ _).alloc (Nat.le_refl _) _) _)⟩
end Go.Proofs.YtjepkcebfojiaaaDoor
namespace Go.Proofs.YtjepkcebfojiaaaDoor
open Go.ChangeShapes Go.WideShapes Go.ChangeAt Go.RowKit


set_option maxRecDepth 10000 in
set_option maxHeartbeats 8000000 in
theorem kidsFit_28 (w : World) (no : Option Addr) (nc nn : Nat) (N : List Nd) (hnn : nn = N.length) (hN : Nodes w no nc N) (n : Nd) (ka : Option Addr) (kc : Nat) (hk : Ints w ka kc n.kids) (hr : ∀ x ∈ n.kids, 0 ≤ x ∧ x < N.length) (hK : n.kind = 28) :
    Calls Tryd.prog 24 #[.slice no nn nc, nv n ka kc] w fun e w' => e = .returned (.bool (kfit N n)) ∧ Below w.heap.size w w' := by
  obtain ⟨R, hR⟩ : ∃ R, R = kfit N n := ⟨_, rfl⟩
  rw [← hR]
  have HR : KF N n R := ⟨hR⟩
  have HRR : Hid (∀ x ∈ n.kids, 0 ≤ x ∧ x < N.length) := hr
  have HNN : Hid (nn = N.length) := hnn
  clear hR hr hnn
  unfold nv
  obtain ⟨k, at_, wh, close, decl, typ, op, val, name, kids⟩ := n
  simp only at HR HRR hk hK ⊢
  obtain ⟨s, hs⟩ : ∃ s, s = bs name := ⟨_, rfl⟩
  rw [← hs]
  clear hs
  obtain ⟨c, hc⟩ : ∃ c, c = kids.length := ⟨_, rfl⟩
  rw [← hc]
  have HC : Hid (c = kids.length) := hc
  have hle : c ≤ kc := by have := hk.le; omega
  have hmx := hk.mx
  clear hc
  subst hK
  by_cases h0 : c = 1
  · subst h0
    go_enter Tryd.func24, Tryd.ntmps24
    go_wp2_with fail
    go_quiet (fail)
    go_wp2_with fail
    refine (all_isExpression _ no nc nn N HNN.out (hN.below (below_drewN ((Below.refl _ _).alloc (Nat.le_refl _) _) _) (Nat.le_refl _)) _ _ _ (kids) (by have := HC.out; first | omega | (simp; omega) | (simp; done)) ((hk).below (below_drewN ((Below.refl _ _).alloc (Nat.le_refl _) _) _) (Nat.le_refl _)) (fun x hx => HRR.out x (hx))).mono ?_
    rintro e w' ⟨rfl, rfl⟩
    go_wp2_with fail
    go_ret
    exact ⟨ret_b (by rw [HR.out]; simp only [kfit, ← HC.out]; first | (simp []; done) | (simp only []; simp; done) | (simp [allK]; done) | (simp [allK] at q0; done) | (simp []; rw [Bool.eq_iff_iff]; simp; done) | (simp []; rw [Bool.eq_iff_iff]; simp; omega)), (below_drewN ((Below.refl _ _).alloc (Nat.le_refl _) _) _)⟩
  · have h00 : ¬ (c : Int) = 1 := by omega
    go_enter Tryd.func24, Tryd.ntmps24
    go_wp2_with fail
    go_quiet (fail)
    go_wp2_with fail
    go_ret
    exact ⟨ret_b (by rw [HR.out]; simp only [kfit, ← HC.out]; first | (simp [h0]; done) | (simp only [h0]; simp; done) | (simp [allK]; done) | (simp [allK] at q0; done) | (simp [h0]; rw [Bool.eq_iff_iff]; simp; done) | (simp [h0]; rw [Bool.eq_iff_iff]; simp; omega)), (below_drewN ((Below.refl _ _).alloc (Nat.le_refl _) _) _)⟩

set_option maxRecDepth 10000 in
set_option maxHeartbeats 8000000 in
theorem kidsFit_30 (w : World) (no : Option Addr) (nc nn : Nat) (N : List Nd) (hnn : nn = N.length) (hN : Nodes w no nc N) (n : Nd) (ka : Option Addr) (kc : Nat) (hk : Ints w ka kc n.kids) (hr : ∀ x ∈ n.kids, 0 ≤ x ∧ x < N.length) (hK : n.kind = 30) :
    Calls Tryd.prog 24 #[.slice no nn nc, nv n ka kc] w fun e w' => e = .returned (.bool (kfit N n)) ∧ Below w.heap.size w w' := by
  obtain ⟨R, hR⟩ : ∃ R, R = kfit N n := ⟨_, rfl⟩
  rw [← hR]
  have HR : KF N n R := ⟨hR⟩
  have HRR : Hid (∀ x ∈ n.kids, 0 ≤ x ∧ x < N.length) := hr
  have HNN : Hid (nn = N.length) := hnn
  clear hR hr hnn
  unfold nv
  obtain ⟨k, at_, wh, close, decl, typ, op, val, name, kids⟩ := n
  simp only at HR HRR hk hK ⊢
  obtain ⟨s, hs⟩ : ∃ s, s = bs name := ⟨_, rfl⟩
  rw [← hs]
  clear hs
  obtain ⟨c, hc⟩ : ∃ c, c = kids.length := ⟨_, rfl⟩
  rw [← hc]
  have HC : Hid (c = kids.length) := hc
  have hle : c ≤ kc := by have := hk.le; omega
  have hmx := hk.mx
  clear hc
  subst hK
  by_cases h0 : c = 1
  · subst h0
    go_enter Tryd.func24, Tryd.ntmps24
    go_wp2_with fail
    go_quiet (fail)
    go_wp2_with fail
    refine (all_isExpression _ no nc nn N HNN.out (hN.below (below_drewN ((Below.refl _ _).alloc (Nat.le_refl _) _) _) (Nat.le_refl _)) _ _ _ (kids) (by have := HC.out; first | omega | (simp; omega) | (simp; done)) ((hk).below (below_drewN ((Below.refl _ _).alloc (Nat.le_refl _) _) _) (Nat.le_refl _)) (fun x hx => HRR.out x (hx))).mono ?_
    rintro e w' ⟨rfl, rfl⟩
    go_wp2_with fail
    go_ret
    exact ⟨ret_b (by rw [HR.out]; simp only [kfit, ← HC.out]; first | (simp []; done) | (simp only []; simp; done) | (simp [allK]; done) | (simp [allK] at q0; done) | (simp []; rw [Bool.eq_iff_iff]; simp; done) | (simp []; rw [Bool.eq_iff_iff]; simp; omega)), (below_drewN ((Below.refl _ _).alloc (Nat.le_refl _) _) _)⟩
  · have h00 : ¬ (c : Int) = 1 := by omega
    go_enter Tryd.func24, Tryd.ntmps24
    go_wp2_with fail
    go_quiet (fail)
    go_wp2_with fail
    go_ret
    exact ⟨ret_b (by rw [HR.out]; simp only [kfit, ← HC.out]; first | (simp [h0]; done) | (simp only [h0]; simp; done) | (simp [allK]; done) | (simp [allK] at q0; done) | (simp [h0]; rw [Bool.eq_iff_iff]; simp; done) | (simp [h0]; rw [Bool.eq_iff_iff]; simp; omega)), (below_drewN ((Below.refl _ _).alloc (Nat.le_refl _) _) _)⟩

set_option maxRecDepth 10000 in
set_option maxHeartbeats 8000000 in
theorem kidsFit_6 (w : World) (no : Option Addr) (nc nn : Nat) (N : List Nd) (hnn : nn = N.length) (hN : Nodes w no nc N) (n : Nd) (ka : Option Addr) (kc : Nat) (hk : Ints w ka kc n.kids) (hr : ∀ x ∈ n.kids, 0 ≤ x ∧ x < N.length) (hK : n.kind = 6) :
    Calls Tryd.prog 24 #[.slice no nn nc, nv n ka kc] w fun e w' => e = .returned (.bool (kfit N n)) ∧ Below w.heap.size w w' := by
  obtain ⟨R, hR⟩ : ∃ R, R = kfit N n := ⟨_, rfl⟩
  rw [← hR]
  have HR : KF N n R := ⟨hR⟩
  have HRR : Hid (∀ x ∈ n.kids, 0 ≤ x ∧ x < N.length) := hr
  have HNN : Hid (nn = N.length) := hnn
  clear hR hr hnn
  unfold nv
  obtain ⟨k, at_, wh, close, decl, typ, op, val, name, kids⟩ := n
  simp only at HR HRR hk hK ⊢
  obtain ⟨s, hs⟩ : ∃ s, s = bs name := ⟨_, rfl⟩
  rw [← hs]
  clear hs
  obtain ⟨c, hc⟩ : ∃ c, c = kids.length := ⟨_, rfl⟩
  rw [← hc]
  have HC : Hid (c = kids.length) := hc
  have hle : c ≤ kc := by have := hk.le; omega
  have hmx := hk.mx
  clear hc
  subst hK
  by_cases h0 : c = 2
  · subst h0
    go_enter Tryd.func24, Tryd.ntmps24
    go_wp2_with fail
    go_quiet (fail)
    go_wp2_with fail
    refine (all_isExpression _ no nc nn N HNN.out (hN.below (below_drewN ((Below.refl _ _).alloc (Nat.le_refl _) _) _) (Nat.le_refl _)) _ _ _ (kids) (by have := HC.out; first | omega | (simp; omega) | (simp; done)) ((hk).below (below_drewN ((Below.refl _ _).alloc (Nat.le_refl _) _) _) (Nat.le_refl _)) (fun x hx => HRR.out x (hx))).mono ?_
    rintro e w' ⟨rfl, rfl⟩
    go_wp2_with fail
    go_ret
    exact ⟨ret_b (by rw [HR.out]; simp only [kfit, ← HC.out]; first | (simp []; done) | (simp only []; simp; done) | (simp [allK]; done) | (simp [allK] at q0; done) | (simp []; rw [Bool.eq_iff_iff]; simp; done) | (simp []; rw [Bool.eq_iff_iff]; simp; omega)), (below_drewN ((Below.refl _ _).alloc (Nat.le_refl _) _) _)⟩
  · have h00 : ¬ (c : Int) = 2 := by omega
    go_enter Tryd.func24, Tryd.ntmps24
    go_wp2_with fail
    go_quiet (fail)
    go_wp2_with fail
    go_ret
    exact ⟨ret_b (by rw [HR.out]; simp only [kfit, ← HC.out]; first | (simp [h0]; done) | (simp only [h0]; simp; done) | (simp [allK]; done) | (simp [allK] at q0; done) | (simp [h0]; rw [Bool.eq_iff_iff]; simp; done) | (simp [h0]; rw [Bool.eq_iff_iff]; simp; omega)), (below_drewN ((Below.refl _ _).alloc (Nat.le_refl _) _) _)⟩
end Go.Proofs.YtjepkcebfojiaaaDoor
namespace Go.Proofs.YtjepkcebfojiaaaDoor
open Go.ChangeShapes Go.WideShapes Go.ChangeAt Go.RowKit


set_option maxRecDepth 10000 in
set_option maxHeartbeats 8000000 in
theorem kidsFit_29 (w : World) (no : Option Addr) (nc nn : Nat) (N : List Nd) (hnn : nn = N.length) (hN : Nodes w no nc N) (n : Nd) (ka : Option Addr) (kc : Nat) (hk : Ints w ka kc n.kids) (hr : ∀ x ∈ n.kids, 0 ≤ x ∧ x < N.length) (hK : n.kind = 29) :
    Calls Tryd.prog 24 #[.slice no nn nc, nv n ka kc] w fun e w' => e = .returned (.bool (kfit N n)) ∧ Below w.heap.size w w' := by
  obtain ⟨R, hR⟩ : ∃ R, R = kfit N n := ⟨_, rfl⟩
  rw [← hR]
  have HR : KF N n R := ⟨hR⟩
  have HRR : Hid (∀ x ∈ n.kids, 0 ≤ x ∧ x < N.length) := hr
  have HNN : Hid (nn = N.length) := hnn
  clear hR hr hnn
  unfold nv
  obtain ⟨k, at_, wh, close, decl, typ, op, val, name, kids⟩ := n
  simp only at HR HRR hk hK ⊢
  obtain ⟨s, hs⟩ : ∃ s, s = bs name := ⟨_, rfl⟩
  rw [← hs]
  clear hs
  obtain ⟨c, hc⟩ : ∃ c, c = kids.length := ⟨_, rfl⟩
  rw [← hc]
  have HC : Hid (c = kids.length) := hc
  have hle : c ≤ kc := by have := hk.le; omega
  have hmx := hk.mx
  clear hc
  subst hK
  by_cases h0 : c = 2
  · subst h0
    go_enter Tryd.func24, Tryd.ntmps24
    go_wp2_with fail
    go_quiet (fail)
    go_wp2_with fail
    refine (all_isExpression _ no nc nn N HNN.out (hN.below (below_drewN ((Below.refl _ _).alloc (Nat.le_refl _) _) _) (Nat.le_refl _)) _ _ _ (kids) (by have := HC.out; first | omega | (simp; omega) | (simp; done)) ((hk).below (below_drewN ((Below.refl _ _).alloc (Nat.le_refl _) _) _) (Nat.le_refl _)) (fun x hx => HRR.out x (hx))).mono ?_
    rintro e w' ⟨rfl, rfl⟩
    go_wp2_with fail
    go_ret
    exact ⟨ret_b (by rw [HR.out]; simp only [kfit, ← HC.out]; first | (simp []; done) | (simp only []; simp; done) | (simp [allK]; done) | (simp [allK] at q0; done) | (simp []; rw [Bool.eq_iff_iff]; simp; done) | (simp []; rw [Bool.eq_iff_iff]; simp; omega)), (below_drewN ((Below.refl _ _).alloc (Nat.le_refl _) _) _)⟩
  · have h00 : ¬ (c : Int) = 2 := by omega
    go_enter Tryd.func24, Tryd.ntmps24
    go_wp2_with fail
    go_quiet (fail)
    go_wp2_with fail
    go_ret
    exact ⟨ret_b (by rw [HR.out]; simp only [kfit, ← HC.out]; first | (simp [h0]; done) | (simp only [h0]; simp; done) | (simp [allK]; done) | (simp [allK] at q0; done) | (simp [h0]; rw [Bool.eq_iff_iff]; simp; done) | (simp [h0]; rw [Bool.eq_iff_iff]; simp; omega)), (below_drewN ((Below.refl _ _).alloc (Nat.le_refl _) _) _)⟩

set_option maxRecDepth 10000 in
set_option maxHeartbeats 8000000 in
theorem kidsFit_31 (w : World) (no : Option Addr) (nc nn : Nat) (N : List Nd) (hnn : nn = N.length) (hN : Nodes w no nc N) (n : Nd) (ka : Option Addr) (kc : Nat) (hk : Ints w ka kc n.kids) (hr : ∀ x ∈ n.kids, 0 ≤ x ∧ x < N.length) (hK : n.kind = 31) :
    Calls Tryd.prog 24 #[.slice no nn nc, nv n ka kc] w fun e w' => e = .returned (.bool (kfit N n)) ∧ Below w.heap.size w w' := by
  obtain ⟨R, hR⟩ : ∃ R, R = kfit N n := ⟨_, rfl⟩
  rw [← hR]
  have HR : KF N n R := ⟨hR⟩
  have HRR : Hid (∀ x ∈ n.kids, 0 ≤ x ∧ x < N.length) := hr
  have HNN : Hid (nn = N.length) := hnn
  clear hR hr hnn
  unfold nv
  obtain ⟨k, at_, wh, close, decl, typ, op, val, name, kids⟩ := n
  simp only at HR HRR hk hK ⊢
  obtain ⟨s, hs⟩ : ∃ s, s = bs name := ⟨_, rfl⟩
  rw [← hs]
  clear hs
  obtain ⟨c, hc⟩ : ∃ c, c = kids.length := ⟨_, rfl⟩
  rw [← hc]
  have HC : Hid (c = kids.length) := hc
  have hle : c ≤ kc := by have := hk.le; omega
  have hmx := hk.mx
  clear hc
  subst hK
  by_cases h0 : c = 2
  · subst h0
    go_enter Tryd.func24, Tryd.ntmps24
    go_wp2_with fail
    go_quiet (fail)
    go_wp2_with fail
    refine (all_isExpression _ no nc nn N HNN.out (hN.below (below_drewN ((Below.refl _ _).alloc (Nat.le_refl _) _) _) (Nat.le_refl _)) _ _ _ (kids) (by have := HC.out; first | omega | (simp; omega) | (simp; done)) ((hk).below (below_drewN ((Below.refl _ _).alloc (Nat.le_refl _) _) _) (Nat.le_refl _)) (fun x hx => HRR.out x (hx))).mono ?_
    rintro e w' ⟨rfl, rfl⟩
    go_wp2_with fail
    go_ret
    exact ⟨ret_b (by rw [HR.out]; simp only [kfit, ← HC.out]; first | (simp []; done) | (simp only []; simp; done) | (simp [allK]; done) | (simp [allK] at q0; done) | (simp []; rw [Bool.eq_iff_iff]; simp; done) | (simp []; rw [Bool.eq_iff_iff]; simp; omega)), (below_drewN ((Below.refl _ _).alloc (Nat.le_refl _) _) _)⟩
  · have h00 : ¬ (c : Int) = 2 := by omega
    go_enter Tryd.func24, Tryd.ntmps24
    go_wp2_with fail
    go_quiet (fail)
    go_wp2_with fail
    go_ret
    exact ⟨ret_b (by rw [HR.out]; simp only [kfit, ← HC.out]; first | (simp [h0]; done) | (simp only [h0]; simp; done) | (simp [allK]; done) | (simp [allK] at q0; done) | (simp [h0]; rw [Bool.eq_iff_iff]; simp; done) | (simp [h0]; rw [Bool.eq_iff_iff]; simp; omega)), (below_drewN ((Below.refl _ _).alloc (Nat.le_refl _) _) _)⟩

set_option maxRecDepth 10000 in
set_option maxHeartbeats 8000000 in
theorem kidsFit_else (w : World) (no : Option Addr) (nc nn : Nat) (N : List Nd) (hnn : nn = N.length) (hN : Nodes w no nc N) (n : Nd) (ka : Option Addr) (kc : Nat) (hk : Ints w ka kc n.kids) (hr : ∀ x ∈ n.kids, 0 ≤ x ∧ x < N.length) (hK : ¬ n.kind = 1 ∧ ¬ n.kind = 3 ∧ ¬ n.kind = 7 ∧ ¬ n.kind = 10 ∧ ¬ n.kind = 11 ∧ ¬ n.kind = 25 ∧ ¬ n.kind = 4 ∧ ¬ n.kind = 12 ∧ ¬ n.kind = 5 ∧ ¬ n.kind = 8 ∧ ¬ n.kind = 9 ∧ ¬ n.kind = 27 ∧ ¬ n.kind = 28 ∧ ¬ n.kind = 30 ∧ ¬ n.kind = 6 ∧ ¬ n.kind = 29 ∧ ¬ n.kind = 31) :
    Calls Tryd.prog 24 #[.slice no nn nc, nv n ka kc] w fun e w' => e = .returned (.bool (kfit N n)) ∧ Below w.heap.size w w' := by
  obtain ⟨R, hR⟩ : ∃ R, R = kfit N n := ⟨_, rfl⟩
  rw [← hR]
  have HR : KF N n R := ⟨hR⟩
  have HRR : Hid (∀ x ∈ n.kids, 0 ≤ x ∧ x < N.length) := hr
  have HNN : Hid (nn = N.length) := hnn
  clear hR hr hnn
  unfold nv
  obtain ⟨k, at_, wh, close, decl, typ, op, val, name, kids⟩ := n
  simp only at HR HRR hk hK ⊢
  obtain ⟨s, hs⟩ : ∃ s, s = bs name := ⟨_, rfl⟩
  rw [← hs]
  clear hs
  obtain ⟨c, hc⟩ : ∃ c, c = kids.length := ⟨_, rfl⟩
  rw [← hc]
  have HC : Hid (c = kids.length) := hc
  have hle : c ≤ kc := by have := hk.le; omega
  have hmx := hk.mx
  clear hc
  obtain ⟨h1, h3, h7, h10, h11, h25, h4, h12, h5, h8, h9, h27, h28, h30, h6, h29, h31⟩ := hK
  go_enter Tryd.func24, Tryd.ntmps24
  go_wp2_with fail
  go_quiet (fail)
  go_wp2_with fail
  go_ret
  exact ⟨ret_b (by rw [HR.out]; simp only [kfit, ← HC.out]; first | (simp [h1, h3, h7, h10, h11, h25, h4, h12, h5, h8, h9, h27, h28, h30, h6, h29, h31]; done) | (simp only [h1, h3, h7, h10, h11, h25, h4, h12, h5, h8, h9, h27, h28, h30, h6, h29, h31]; simp; done) | (simp [allK]; done) | (simp [allK] at q0; done) | (simp [h1, h3, h7, h10, h11, h25, h4, h12, h5, h8, h9, h27, h28, h30, h6, h29, h31]; rw [Bool.eq_iff_iff]; simp; done) | (simp [h1, h3, h7, h10, h11, h25, h4, h12, h5, h8, h9, h27, h28, h30, h6, h29, h31]; rw [Bool.eq_iff_iff]; simp; omega)), (below_drewN ((Below.refl _ _).alloc (Nat.le_refl _) _) _)⟩
end Go.Proofs.YtjepkcebfojiaaaDoor
namespace Go.Proofs.YtjepkcebfojiaaaDoor
open Go.ChangeShapes Go.WideShapes Go.ChangeAt Go.RowKit

theorem kidsFit_any (w : World) (no : Option Addr) (nc nn : Nat) (N : List Nd) (hnn : nn = N.length) (hN : Nodes w no nc N) (n : Nd) (ka : Option Addr) (kc : Nat) (hk : Ints w ka kc n.kids) (hr : ∀ x ∈ n.kids, 0 ≤ x ∧ x < N.length) :
    Calls Tryd.prog 24 #[.slice no nn nc, nv n ka kc] w fun e w' => e = .returned (.bool (kfit N n)) ∧ Below w.heap.size w w' := by
  by_cases h1 : n.kind = 1
  · exact kidsFit_1 w no nc nn N hnn hN n ka kc hk hr h1
  by_cases h3 : n.kind = 3
  · exact kidsFit_3 w no nc nn N hnn hN n ka kc hk hr h3
  by_cases h7 : n.kind = 7
  · exact kidsFit_7 w no nc nn N hnn hN n ka kc hk hr h7
  by_cases h10 : n.kind = 10
  · exact kidsFit_10 w no nc nn N hnn hN n ka kc hk hr h10
  by_cases h11 : n.kind = 11
  · exact kidsFit_11 w no nc nn N hnn hN n ka kc hk hr h11
  by_cases h25 : n.kind = 25
  · exact kidsFit_25 w no nc nn N hnn hN n ka kc hk hr h25
  by_cases h4 : n.kind = 4
  · exact kidsFit_4 w no nc nn N hnn hN n ka kc hk hr h4
  by_cases h12 : n.kind = 12
  · exact kidsFit_12 w no nc nn N hnn hN n ka kc hk hr h12
  by_cases h5 : n.kind = 5
  · exact kidsFit_5 w no nc nn N hnn hN n ka kc hk hr h5
  by_cases h8 : n.kind = 8
  · exact kidsFit_8 w no nc nn N hnn hN n ka kc hk hr h8
  by_cases h9 : n.kind = 9
  · exact kidsFit_9 w no nc nn N hnn hN n ka kc hk hr h9
  by_cases h27 : n.kind = 27
  · exact kidsFit_27 w no nc nn N hnn hN n ka kc hk hr h27
  by_cases h28 : n.kind = 28
  · exact kidsFit_28 w no nc nn N hnn hN n ka kc hk hr h28
  by_cases h30 : n.kind = 30
  · exact kidsFit_30 w no nc nn N hnn hN n ka kc hk hr h30
  by_cases h6 : n.kind = 6
  · exact kidsFit_6 w no nc nn N hnn hN n ka kc hk hr h6
  by_cases h29 : n.kind = 29
  · exact kidsFit_29 w no nc nn N hnn hN n ka kc hk hr h29
  by_cases h31 : n.kind = 31
  · exact kidsFit_31 w no nc nn N hnn hN n ka kc hk hr h31
  exact kidsFit_else w no nc nn N hnn hN n ka kc hk hr ⟨h1, h3, h7, h10, h11, h25, h4, h12, h5, h8, h9, h27, h28, h30, h6, h29, h31⟩
end Go.Proofs.YtjepkcebfojiaaaDoor
