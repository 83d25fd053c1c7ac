import Derived.Test.YtjepkcebfojiaaaDoorTzA
import Derived.Test.YtjepkcebfojiaaaDoorLzG
import Derived.Deep.RegionHeld
import Derived.Test.YtjepkcebfojiaaaDoorLzU
set_option linter.unusedVariables false
set_option linter.unusedSimpArgs false
namespace Go.Proofs.YtjepkcebfojiaaaDoor
open Go.ChangeShapes Go.WideShapes Go.ChangeAt Go.RowKit

theorem alk_text {T U : Tr} {S1 S2 : Ps} (h : AlkF T U) (h1 : PrintsOKx T.nodes T.funcs ⟨[], [], 0⟩ S1) (h2 : PrintsOKx U.nodes U.funcs ⟨[], [], 0⟩ S2) : S1.text = S2.text := by
  rw [← h.fun_] at h2
  rw [prints_det h.alk h1 h2]
/-- What is left to be shown: one text, one tree. -/
def OneText : Prop := ∀ (T U : Tr) (S1 S2 : Ps), chk T = true → chk U = true → (∀ n ∈ T.nodes, n.val ≤ 9223372036854775807) → (∀ n ∈ U.nodes, n.val ≤ 9223372036854775807) → T.nodes.length ≤ 1000000 → U.nodes.length ≤ 1000000 → PrintsOKx T.nodes T.funcs ⟨[], [], 0⟩ S1 → PrintsOKx U.nodes U.funcs ⟨[], [], 0⟩ S2 → S1.text = S2.text → AlkF T U

set_option maxRecDepth 20000 in
set_option maxHeartbeats 2000000 in
theorem treeOneText_of (ONE : OneText) (w : World) (hA : AllTab w) (no : Option Addr) (nc nn : Nat) (fo : Option Addr) (fc fn : Nat) (T : Tr) (hnn : nn = T.nodes.length) (hfn : fn = T.funcs.length) (hN : Nodes w no nc T.nodes) (hF : Ints w fo fc T.funcs) (hR : Rch T.nodes) (hn1 : nn ≤ 140737488351232) (hf1 : fn ≤ 140737488351232) (hv : ∀ n ∈ T.nodes, n.val ≤ 9223372036854775807)
    (mo : Option Addr) (mc mn : Nat) (go_ : Option Addr) (gc gn : Nat) (U : Tr) (hmn : mn = U.nodes.length) (hgn : gn = U.funcs.length) (hM : Nodes w mo mc U.nodes) (hG : Ints w go_ gc U.funcs) (hR2 : Rch U.nodes) (hm1 : mn ≤ 140737488351232) (hg1 : gn ≤ 140737488351232) (hu : ∀ n ∈ U.nodes, n.val ≤ 9223372036854775807) :
    Calls Tryd.prog 3 #[.agg #[.slice no nn nc, .slice fo fn fc], .agg #[.slice mo mn mc, .slice go_ gn gc]] w fun e w' => e = .returned (.bool true) ∧ Below w.heap.size w w' := by
  have HH : Hid (nn = T.nodes.length ∧ fn = T.funcs.length ∧ mn = U.nodes.length ∧ gn = U.funcs.length) := ⟨hnn, hfn, hmn, hgn⟩
  have HA : Hid (AllTab w) := hA
  have HV : Hid ((∀ n ∈ T.nodes, n.val ≤ 9223372036854775807) ∧ ∀ n ∈ U.nodes, n.val ≤ 9223372036854775807) := ⟨hv, hu⟩
  have HONE : Hid OneText := ONE
  clear hnn hfn hmn hgn hA hv hu ONE
  go_enter Tryd.func3, Tryd.ntmps3
  obtain ⟨W0, hW0⟩ : ∃ W0, W0 = ((w.alloc (.cells #[.slice no nn nc, .slice fo fn fc] 25)).alloc (.cells #[.slice mo mn mc, .slice go_ gn gc] 25)) := ⟨_, rfl⟩
  have hb0 : Below w.heap.size w W0 := by rw [hW0]; exact ((Below.refl _ _).alloc (Nat.le_refl _) _).alloc (by simp) _
  have p0 : W0.cell? ⟨w.heap.size, 0, none⟩ = some (.slice no nn nc) := by rw [hW0]; simp
  have p1 : W0.cell? ⟨w.heap.size, 1, none⟩ = some (.slice fo fn fc) := by rw [hW0]; simp
  have p2 : W0.cell? ⟨w.heap.size + 1, 0, none⟩ = some (.slice mo mn mc) := by rw [hW0]; simp
  have p3 : W0.cell? ⟨w.heap.size + 1, 1, none⟩ = some (.slice go_ gn gc) := by rw [hW0]; simp
  have hs0 : w.heap.size + 1 < W0.heap.size := by rw [hW0]; simp
  go_wp2_with fail
  rw [← hW0]
  clear hW0
  -- what stands in a world above W0
  have KP : ∀ wx, Below W0.heap.size W0 wx → wx.cell? ⟨w.heap.size, 0, none⟩ = some (.slice no nn nc) ∧ wx.cell? ⟨w.heap.size, 1, none⟩ = some (.slice fo fn fc) ∧ wx.cell? ⟨w.heap.size + 1, 0, none⟩ = some (.slice mo mn mc) ∧ wx.cell? ⟨w.heap.size + 1, 1, none⟩ = some (.slice go_ gn gc) ∧ w.heap.size + 1 < wx.heap.size ∧ Below w.heap.size w wx := fun wx hx =>
    ⟨cell_below hx (by omega) p0, cell_below hx (by omega) p1, cell_below hx (by omega) p2, cell_below hx (by omega) p3, by have := hx.size; omega, hb0.trans (hx.mono hb0.size)⟩
  have HKP : Hid _ := KP
  clear KP p0 p1 p2 p3
  refine (fits3_deep _ no nc nn fo fc fn T.nodes HH.out.1 (hN.below hb0 (Nat.le_refl _)) hR hn1 hf1).mono ?_
  rintro e w1 ⟨⟨R, rfl, hRR⟩, hb1⟩
  have HRR : Hid (R = true → nn + fn ≤ 120000 ∧ (∀ n ∈ T.nodes, n.kids.length ≤ 120000) ∧ (T.nodes.map c3).sum * T.nodes.length ≤ 16777216) := hRR
  obtain ⟨q0, q1, q2, q3, q4, hbw1⟩ := HKP.out w1 hb1
  clear hRR
  cases R
  · go_wp2_with fail
    go_ret
    exact ⟨rfl, hbw1⟩
  go_wp2_with fail
  refine (fits3_deep _ mo mc mn go_ gc gn U.nodes HH.out.2.2.1 (hM.below hbw1 (Nat.le_refl _)) hR2 hm1 hg1).mono ?_
  rintro e w2 ⟨⟨R2, rfl, hRR2⟩, hb2⟩
  have HRR2 : Hid (R2 = true → mn + gn ≤ 120000 ∧ (∀ n ∈ U.nodes, n.kids.length ≤ 120000) ∧ (U.nodes.map c3).sum * U.nodes.length ≤ 16777216) := hRR2
  have hB2 : Below W0.heap.size W0 w2 := hb1.trans (hb2.mono hb1.size)
  clear hRR2 q0 q1 q2 q3 q4
  obtain ⟨q0, q1, q2, q3, q4, hbw2⟩ := HKP.out w2 hB2
  cases R2
  · go_wp2_with fail
    go_ret
    exact ⟨rfl, hbw2⟩
  obtain ⟨hsum, hkids, hdeep⟩ := HRR.out (by first | rfl | trivial)
  obtain ⟨hsum2, hkids2, hdeep2⟩ := HRR2.out (by first | rfl | trivial)
  have HKI : Hid ((∀ n ∈ T.nodes, n.kids.length ≤ 120000) ∧ ∀ n ∈ U.nodes, n.kids.length ≤ 120000) := ⟨hkids, hkids2⟩
  have HDP : Hid ((T.nodes.map c3).sum * T.nodes.length ≤ 16777216 ∧ (U.nodes.map c3).sum * U.nodes.length ≤ 16777216) := ⟨hdeep, hdeep2⟩
  clear HRR HRR2 hkids hkids2 hdeep hdeep2
  go_wp2_with fail
  refine (alive3_any w2 (HA.out.below hbw2)).mono ?_
  rintro e w3 ⟨rfl, hb3⟩
  have hB3 : Below W0.heap.size W0 w3 := hB2.trans (hb3.mono hB2.size)
  clear q0 q1 q2 q3 q4
  obtain ⟨q0, q1, q2, q3, q4, hbw3⟩ := HKP.out w3 hB3
  go_wp2_with fail
  have PRN : ∀ (wx : World), Below W0.heap.size W0 wx → ∀ (no : Option Addr) (nc nn : Nat) (fo : Option Addr) (fc fn : Nat) (T : Tr), nn = T.nodes.length → fn = T.funcs.length → Nodes w no nc T.nodes → Ints w fo fc T.funcs → nn ≤ 120000 → (∀ n ∈ T.nodes, n.val ≤ 9223372036854775807) → (T.nodes.map c3).sum * T.nodes.length ≤ 16777216 →
      Calls Tryd.prog 8 #[.agg #[.slice no nn nc, .slice fo fn fc]] wx fun e w' => (∃ (v : Value) (n : Nat) (X : List UInt8) (er : Int), e = .returned (.tuple #[v, .int .i64 er]) ∧ OwnB w' wx.heap.size v n X ∧ ((er = 30 ∧ X = [] ∧ chk T = false) ∨ (er = 0 ∧ chk T = true ∧ ∃ S, PrintsOKx T.nodes T.funcs ⟨[], [], 0⟩ S ∧ S.text = X))) ∧ Below wx.heap.size wx w' := by
    intro wx hx no nc nn fo fc fn T e1 e2 hN hF hl hv hd
    have hbx : Below w.heap.size w wx := hb0.trans (hx.mono hb0.size)
    cases hC : chk T
    · refine (print_no wx (HA.out.below hbx).tab no nc nn fo fc fn T e1 e2 (hN.below hbx (Nat.le_refl _)) (hF.below hbx (Nat.le_refl _)) (by omega) hC).mono ?_
      rintro e w' ⟨rfl, hb⟩
      exact ⟨⟨_, 0, [], 30, rfl, OwnB.nil _ _, .inl ⟨rfl, rfl, rfl⟩⟩, hb⟩
    · obtain ⟨S1, hP1, hS1⟩ := prints_ok hC hv (by omega) hd
      have HAK := HA.out.below hbx
      refine (print_all wx HAK.tab HAK.lo HAK.t1 HAK.t2 HAK.tp no nc nn fo fc fn T e1 e2 (hN.below hbx (Nat.le_refl _)) (hF.below hbx (Nat.le_refl _)) (by omega) hC S1 hP1).mono ?_
      rintro e w' ⟨⟨v, n, rfl, hO⟩, hb⟩
      exact ⟨⟨v, n, S1.text, 0, rfl, hO, .inr ⟨rfl, rfl, S1, hP1, rfl⟩⟩, hb⟩
  have HPRN : Hid _ := PRN
  refine (PRN w3 hB3 no nc nn fo fc fn T HH.out.1 HH.out.2.1 hN hF (by omega) HV.out.1 HDP.out.1).mono ?_
  rintro e w4 ⟨⟨v1, n1, X1, er1, rfl, HO1, HX1⟩, hb4⟩
  have HHX1 : Hid _ := HX1
  have hB4 : Below W0.heap.size W0 w4 := hB3.trans (hb4.mono hB3.size)
  clear q0 q1 q2 q3 q4 PRN HX1
  obtain ⟨q0, q1, q2, q3, q4, hbw4⟩ := HKP.out w4 hB4
  obtain ⟨a1, d1, rfl⟩ := own_slice HO1.out
  go_wp2_with fail
  refine (HPRN.out w4 hB4 mo mc mn go_ gc gn U HH.out.2.2.1 HH.out.2.2.2 hM hG (by omega) HV.out.2 HDP.out.2).mono ?_
  rintro e w5 ⟨⟨v2, n2, X2, er2, rfl, HO2, HX2⟩, hb5⟩
  have HHX2 : Hid _ := HX2
  have hB5 : Below W0.heap.size W0 w5 := hB4.trans (hb5.mono hB4.size)
  clear q0 q1 q2 q3 q4 HX2
  obtain ⟨q0, q1, q2, q3, q4, hbw5⟩ := HKP.out w5 hB5
  obtain ⟨a2, d2, rfl⟩ := own_slice HO2.out
  have HO1' := HO1.keep hb5
  rcases HHX1.out with ⟨rfl, rfl, hC1⟩ | ⟨rfl, hC1, S1, hP1, hX1⟩
  · have hn0 : n1 = 0 := by simpa using HO1.len
    subst hn0
    rcases HHX2.out with ⟨rfl, rfl, hC2⟩ | ⟨rfl, hC2, S2, hP2, hX2⟩
    · have hn0 : n2 = 0 := by simpa using HO2.len
      subst hn0
      go_wp2_with (first | (go_at_call 9; refine (num3_any _ _).mono ?_; rintro e w' ⟨rfl, rfl⟩))
      go_ret
      exact ⟨rfl, hbw5⟩
    · go_wp2_with (first | (go_at_call 9; refine (num3_any _ _).mono ?_; rintro e w' ⟨rfl, rfl⟩))
      go_ret
      exact ⟨rfl, hbw5⟩
  · rcases HHX2.out with ⟨rfl, rfl, hC2⟩ | ⟨rfl, hC2, S2, hP2, hX2⟩
    · have hn0 : n2 = 0 := by simpa using HO2.len
      subst hn0
      go_wp2_with (first | (go_at_call 9; refine (num3_any _ _).mono ?_; rintro e w' ⟨rfl, rfl⟩))
      go_ret
      exact ⟨rfl, hbw5⟩
    · have IFF : X1 = X2 ↔ AlkF T U := ⟨fun h => HONE.out T U S1 S2 hC1 hC2 HV.out.1 HV.out.2 (by have := HH.out.1; omega) (by have := HH.out.2.2.1; omega) hP1 hP2 (by rw [hX1, hX2, h]), fun h => by rw [← hX1, ← hX2]; exact alk_text h hP1 hP2⟩
      have HIF : Hid _ := IFF
      go_wp2_with (first | (go_at_call 9; refine (num3_any _ _).mono ?_; rintro e w' ⟨rfl, rfl⟩))
      have CV1 : ∀ wx, Below w5.heap.size w5 wx → (convert 28 9 (.slice a1 n1 d1)).run Tryd.prog wx = .ok (.string (bs X1)) wx := fun wx hx => by
        obtain ⟨_, _, e, _, hT⟩ := (HO1'.keep hx).view
        cases e
        exact hT.conv n1 HO1'.len
      have CV2 : ∀ wx, Below w5.heap.size w5 wx → (convert 28 9 (.slice a2 n2 d2)).run Tryd.prog wx = .ok (.string (bs X2)) wx := fun wx hx => by
        obtain ⟨_, _, e, _, hT⟩ := (HO2.keep hx).view
        cases e
        exact hT.conv n2 HO2.len
      have ALK : ∀ wx, Below w5.heap.size w5 wx → Calls Tryd.prog 10 #[.agg #[.slice no nn nc, .slice fo fn fc], .agg #[.slice mo mn mc, .slice go_ gn gc]] wx fun e w' => e = .returned (.bool (decide (X1 = X2))) ∧ Below wx.heap.size wx w' := fun wx hx => by
        have hbx : Below w.heap.size w wx := hbw5.trans (hx.mono hbw5.size)
        refine (alike_any wx no nc nn fo fc fn T HH.out.1 HH.out.2.1 (hN.below hbx (Nat.le_refl _)) (hF.below hbx (Nat.le_refl _)) mo mc mn go_ gc gn U HH.out.2.2.1 HH.out.2.2.2 (hM.below hbx (Nat.le_refl _)) (hG.below hbx (Nat.le_refl _)) (by omega) (by omega) (by omega) (by omega) (fun n hn => by have := HKI.out.1 n hn; omega) (fun n hn => by have := HKI.out.2 n hn; omega)).mono ?_
        rintro e w' ⟨⟨R, rfl, hR⟩, hb⟩
        refine ⟨?_, hb⟩
        congr 2
        rw [Bool.eq_iff_iff, decide_eq_true_iff, HIF.out]
        exact hR
      have hst : ((bs X1).toList == (bs X2).toList) = decide (X1 = X2) := by rw [bs_toList, bs_toList, Bool.eq_iff_iff]; simp
      obtain ⟨D, hD⟩ : ∃ D, D = decide (X1 = X2) := ⟨_, rfl⟩
      obtain ⟨s1, hs1⟩ : ∃ s, s = bs X1 := ⟨_, rfl⟩
      obtain ⟨s2, hs2⟩ : ∃ s, s = bs X2 := ⟨_, rfl⟩
      rw [← hs1] at CV1 hst
      rw [← hs2] at CV2 hst
      rw [← hD] at ALK hst
      have HST : Hid (s1 = bs X1 ∧ s2 = bs X2 ∧ D = decide (X1 = X2)) := ⟨hs1, hs2, hD⟩
      clear hs1 hs2 hD IFF HO1 HO2 HO1'
      have hcv1 := CV1 w5.drew (Below.refl _ _).drew
      have hcv2 := CV2 w5.drew (Below.refl _ _).drew
      have u0 : w5.drew.cell? ⟨w.heap.size, 0, none⟩ = some (.slice no nn nc) := cellD q0
      have u1 : w5.drew.cell? ⟨w.heap.size, 1, none⟩ = some (.slice fo fn fc) := cellD q1
      have u2' : w5.drew.cell? ⟨w.heap.size + 1, 0, none⟩ = some (.slice mo mn mc) := cellD q2
      have u3' : w5.drew.cell? ⟨w.heap.size + 1, 1, none⟩ = some (.slice go_ gn gc) := cellD q3
      have SN : ∀ wx, Below w5.heap.size w5 wx → wx.cell? ⟨w.heap.size, 0, none⟩ = some (.slice no nn nc) ∧ wx.cell? ⟨w.heap.size, 1, none⟩ = some (.slice fo fn fc) ∧ wx.cell? ⟨w.heap.size + 1, 0, none⟩ = some (.slice mo mn mc) ∧ wx.cell? ⟨w.heap.size + 1, 1, none⟩ = some (.slice go_ gn gc) ∧ (convert 28 9 (.slice a1 n1 d1)).run Tryd.prog wx = .ok (.string s1) wx ∧ (convert 28 9 (.slice a2 n2 d2)).run Tryd.prog wx = .ok (.string s2) wx := fun wx hx => ⟨cell_below hx (by omega) q0, cell_below hx (by omega) q1, cell_below hx (by omega) q2, cell_below hx (by omega) q3, CV1 wx hx, CV2 wx hx⟩
      have HSN : Hid _ := SN
      have HALK : Hid _ := ALK
      clear SN ALK CV1 CV2 hcv1 hcv2 u0 u1 u2' u3' q0 q1 q2 q3
      go_region_held (fun wx => wx.cell? ⟨w.heap.size, 0, none⟩ = some (.slice no nn nc) ∧ wx.cell? ⟨w.heap.size, 1, none⟩ = some (.slice fo fn fc) ∧ wx.cell? ⟨w.heap.size + 1, 0, none⟩ = some (.slice mo mn mc) ∧ wx.cell? ⟨w.heap.size + 1, 1, none⟩ = some (.slice go_ gn gc) ∧ (convert 28 9 (.slice a1 n1 d1)).run Tryd.prog wx = .ok (.string s1) wx ∧ (convert 28 9 (.slice a2 n2 d2)).run Tryd.prog wx = .ok (.string s2) wx)
        (first | exact HSN.out _ (Below.refl _ _).drew | exact HSN.out _ hb6')
        (first | (go_at_call 10; refine (HALK.out _ (Below.refl _ _).drew).mono ?_; rintro e w6 ⟨rfl, hb6⟩; have hb6' : Below w5.heap.size w5 w6 := (Below.refl _ _).drew.trans (hb6.mono (by simp))))
      go_wp2_with fail
      go_ret
      exact ⟨rfl, hbw5.trans (hb6'.mono hbw5.size)⟩
end Go.Proofs.YtjepkcebfojiaaaDoor
namespace Go.Proofs.YtjepkcebfojiaaaDoor
open Go.ChangeShapes Go.WideShapes Go.ChangeAt Go.RowKit

/-- A parameter. -/
structure SP (N : List Nd) (x : Int) : Prop where
  out : ∃ (s : List UInt8) (d : Int), 1 ≤ d ∧ d ≤ 3 ∧ TS N x = nmT s :: tyW d ∧ LSx N x = [(2, d, 0, 0, s, 0)]
theorem sp_all {N : List Nd} (hF : FitK N) (hOK : ∀ (i : Nat) (h : i < N.length), NdOKx N N[i]) (i : Nat) (hi : i < N.length) (hk : N[i].kind = 2) : SP N (i : Int) := by
  have hn := hOK i hi
  have hff := hn.ff
  have hkf := hn.kf
  have hT := TS_eq hF hOK i hi
  have hL := LSx_eq hF i hi
  generalize hgn : N[i] = n at *
  have hc0 : n.kids = [] := by simpa [kfit, hk] using hkf
  have hl := lab_nm hff hk (c := 0) (by rw [hc0]; rfl) (by decide)
  have hr := ffit_rng hff
  rw [hk] at hr
  simp [mayOf] at hr
  rw [hl, hc0] at hL
  exact ⟨n.name, n.decl, hr.1, hr.2.1, by rw [hT]; simp [nt, hk], by rw [hL]; rfl⟩
theorem pr_rest {N : List Nd} (R : List Tok) : ∀ l : List Int, (∀ y ∈ l, SP N y) → ∀ f, l.length + 1 ≤ f → pR f ((l.flatMap fun x => qt 46 :: TS N x) ++ (qt 41 :: R)) = some (l.flatMap (LSx N), l.length, R)
  | [], _, f, hf => by
    obtain ⟨g, rfl⟩ : ∃ g, f = g + 1 := ⟨f - 1, by simp at hf; omega⟩
    simp [pR, qt]
  | y :: l, h, f, hf => by
    simp only [List.length_cons] at hf
    obtain ⟨g, rfl⟩ : ∃ g, f = g + 1 := ⟨f - 1, by omega⟩
    have e1 := pr_rest R l (fun z hz => h z (by simp [hz])) g (by omega)
    obtain ⟨s, d, h0, h1, e2, e3⟩ := (h y (by simp)).out
    rw [List.flatMap_cons, List.flatMap_cons, e2, e3]
    simp only [List.cons_append, List.append_assoc, List.nil_append]
    simp only [pR, qt, nmT] at e1 ⊢
    simp [pTy_eq h0 h1, e1]
theorem pr_all {N : List Nd} (R : List Tok) (l : List Int) (h : ∀ y ∈ l, SP N y) (f : Nat) (hf : l.length + 1 ≤ f) : pR f (jnW (TS N) l ++ (qt 41 :: R)) = some (l.flatMap (LSx N), l.length, R) := by
  cases l with
  | nil => exact pr_rest R [] h f hf
  | cons y l =>
    simp only [List.length_cons] at hf
    obtain ⟨g, rfl⟩ : ∃ g, f = g + 1 := ⟨f - 1, by omega⟩
    have e1 := pr_rest R l (fun z hz => h z (by simp [hz])) g (by omega)
    obtain ⟨s, d, h0, h1, e2, e3⟩ := (h y (by simp)).out
    simp only [jnW, List.append_assoc]
    rw [List.flatMap_cons, e2, e3]
    simp only [List.cons_append, List.append_assoc, List.nil_append]
    simp only [pR, qt, nmT] at e1 ⊢
    simp [pTy_eq h0 h1, e1]
theorem pTy_blk (r : List Tok) : pTy (qt 42 :: r) = (0, qt 42 :: r) := by simp [pTy, qt]
set_option maxHeartbeats 1000000 in
/-- The parser reads a function, and goes on behind it. -/
theorem pt_one {N : List Nd} (hF : FitK N) (hOK : ∀ (i : Nat) (h : i < N.length), NdOKx N N[i]) (i : Nat) (hi : i < N.length) (hk : N[i].kind = 1) (R : List Tok) : ∃ c, ∀ f, c ≤ f → pT (f + 1) (TS N (i : Int) ++ R) = (pT f R).bind fun z => some (LSx N (i : Int) ++ z) := by
  have hn := hOK i hi
  have hff := hn.ff
  have hkf := hn.kf
  have hT := TS_eq hF hOK i hi
  have hL := LSx_eq hF i hi
  have kid : ∀ y ∈ N[i].kids, ∃ j : Nat, y = (j : Int) ∧ j < i ∧ j < N.length := fun y hy => by
    have hb := hF i hi y hy
    exact ⟨y.toNat, by omega, by omega, by omega⟩
  generalize hgn : N[i] = n at *
  have hl := lab_nm hff hk rfl (by decide)
  have hr := ffit_rng hff
  rw [hk] at hr
  simp [mayOf] at hr
  simp [kfit, hk] at hkf
  obtain ⟨⟨hc, h2⟩, h3⟩ := hkf
  obtain ⟨ks, b, hkids⟩ : ∃ ks j, n.kids = ks ++ [j] := ⟨n.kids.dropLast, n.kids.getLast (by intro e; rw [e] at hc; simp at hc), (List.dropLast_concat_getLast _).symm⟩
  have e1 : n.kids.take (n.kids.length - 1) = ks := by simp [hkids]
  have e2 : n.kids.getD (n.kids.length - 1) 0 = b := by simp [hkids]
  have e3 : n.kids.drop (n.kids.length - 1) = [b] := by simp [hkids]
  rw [e1] at h2
  rw [e3] at h3
  have hmb : b ∈ n.kids := by rw [hkids]; simp
  have hps : ∀ y ∈ ks, SP N y := fun y hy => by
    obtain ⟨j, rfl, _, hj⟩ := kid y (by rw [hkids]; simp [hy])
    have := allK_mem h2 hy
    rw [kd_at j hj] at this
    exact sp_all hF hOK j hj (by simpa [isK] using this)
  obtain ⟨j, rfl, _, hj⟩ := kid b hmb
  have hb3 : N[j].kind = 3 := by
    have := allK_mem h3 (x := (j : Int)) (by simp)
    rw [kd_at j hj] at this
    simpa [isK] using this
  have kb := ss_all hF hOK j hj (by rw [hb3]; rfl)
  obtain ⟨rb, erb⟩ := blk_hd hF hOK j hj hb3
  obtain ⟨c, hcc⟩ := kb.out R (fun h => absurd (by rw [ndAt hj]; exact hb3) h)
  rw [hl, hkids] at hL
  have hT2 : TS N (i : Int) = [qt 10, nmT n.name, qt 40] ++ jnW (TS N) ks ++ [qt 41] ++ (if n.decl = 0 then [] else tyW n.decl) ++ TS N (j : Int) := by rw [hT]; simp only [nt, hk, if_true, e1, e2]
  refine ⟨c + ks.length + 2, fun f hf => ?_⟩
  have g1 := pr_all ((if n.decl = 0 then [] else tyW n.decl) ++ (TS N (j : Int) ++ R)) ks hps f (by omega)
  have g2 := hcc f (by omega)
  have g3 : pTy ((if n.decl = 0 then [] else tyW n.decl) ++ (TS N (j : Int) ++ R)) = (n.decl, TS N (j : Int) ++ R) := by
    by_cases hd : n.decl = 0
    · rw [if_pos hd, hd, erb, List.nil_append, List.cons_append, pTy_blk]
    · rw [if_neg hd, pTy_eq (by omega) (by omega)]
  rw [hT2]
  simp only [List.append_assoc, List.cons_append, List.nil_append]
  simp only [pT, List.drop_succ_cons, List.drop_zero, g1, Option.bind_some, g3, g2, List.head?_cons, Option.map_some, Option.getD_some]
  congr 1
  funext z
  simp [hL, nmT]
theorem pt_all {N : List Nd} (hF : FitK N) (hOK : ∀ (i : Nat) (h : i < N.length), NdOKx N N[i]) : ∀ F : List Int, (∀ f ∈ F, 0 ≤ f ∧ f < N.length ∧ kd N f = 1) → ∃ c, ∀ f, c ≤ f → pT f (F.flatMap (TS N)) = some (F.flatMap (LSx N))
  | [], _ => ⟨1, fun f hf => by
    obtain ⟨g, rfl⟩ : ∃ g, f = g + 1 := ⟨f - 1, by omega⟩
    simp [pT]⟩
  | y :: F, h => by
    obtain ⟨c1, h1⟩ := pt_all hF hOK F fun z hz => h z (by simp [hz])
    obtain ⟨y0, y1, y2⟩ := h y (by simp)
    obtain ⟨j, rfl⟩ : ∃ j : Nat, y = (j : Int) := ⟨y.toNat, by omega⟩
    have hj : j < N.length := by omega
    rw [kd_at j hj] at y2
    obtain ⟨c2, h2⟩ := pt_one hF hOK j hj y2 (F.flatMap (TS N))
    refine ⟨c1 + c2 + 1, fun f hf => ?_⟩
    obtain ⟨g, rfl⟩ : ∃ g, f = g + 1 := ⟨f - 1, by omega⟩
    rw [List.flatMap_cons, h2 g (by omega), h1 g (by omega), List.flatMap_cons]
    rfl
/-- One text, one tree. -/
theorem one_text : OneText := by
  intro T U S1 S2 hT hU vT vU nT nU h1 h2 he
  have ht := one_toks hT hU vT vU nT nU h1 h2 he
  have one : ∀ {T : Tr}, chk T = true → (∀ n ∈ T.nodes, n.val ≤ 9223372036854775807) → T.nodes.length ≤ 1000000 → ∃ c, ∀ f, c ≤ f → pT f (T.funcs.flatMap (TS T.nodes)) = some (T.nodes.map lab) := by
    intro T hT vT nT
    obtain ⟨c1, c2, c3⟩ := chk_stk hT
    have hr := (stk_lt _ _ _ _ c1 (by simp)).1
    have hfit := chk_fit hT
    obtain ⟨c, hc⟩ := pt_all hfit (chk_ok hT vT nT) T.funcs (fun f hf => by
      have := hr f hf
      simp at this
      refine ⟨this.1, this.2, ?_⟩
      have := allK_mem c3 hf
      simpa [isK] using this)
    have e := stk_lab hfit T.nodes [] 0 T.funcs rfl (by omega) c1
    rw [List.flatMap_nil, List.nil_append] at e
    exact ⟨c, fun f hf => by rw [hc f hf, e]⟩
  obtain ⟨c1, k1⟩ := one hT vT nT
  obtain ⟨c2, k2⟩ := one hU vU nU
  have a := k1 (c1 + c2) (by omega)
  have b := k2 (c1 + c2) (by omega)
  rw [ht] at a
  rw [a] at b
  exact alk_of_labels hT hU (Option.some.inj b)
end Go.Proofs.YtjepkcebfojiaaaDoor
