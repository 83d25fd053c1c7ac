import Derived.Test.YtdgfkhdjlhgoaaaDoorLzG
set_option linter.unusedVariables false
set_option linter.unusedSimpArgs false
namespace Go.Proofs.YtdgfkhdjlhgoaaaDoor
open Go.ChangeShapes Go.WideShapes Go.ChangeAt Go.RowKit

/-- A place to be turned. -/
structure Plc where
  node : Int
  at_ : Int
  wh : Int
  close : Int
  typ : Int
structure Pls (w : World) (ao : Option Addr) (cap : Nat) (L : List Plc) : Prop where
  le : L.length ≤ cap
  mx : cap ≤ 9223372036854775807
  out : L ≠ [] → ∃ b o, ao = some ⟨b, o, none⟩ ∧ b < w.heap.size ∧ ∀ i (h : i < L.length), w.cell? ⟨b, o + i * 5, none⟩ = some (.int .i64 L[i].node) ∧ w.cell? ⟨b, o + i * 5 + 1, none⟩ = some (.int .i64 L[i].at_) ∧ w.cell? ⟨b, o + i * 5 + 2, none⟩ = some (.int .i64 L[i].wh) ∧ w.cell? ⟨b, o + i * 5 + 3, none⟩ = some (.int .i64 L[i].close) ∧ w.cell? ⟨b, o + i * 5 + 4, none⟩ = some (.int .i64 L[i].typ)
/-- The law's loop: the copy, some of its places turned. -/
structure PI (w3 wr : World) (B g vc nn ub : Nat) (fv : Value) (fn : Nat) (T : Tr) (P : List (Nd × Value)) : Prop where
  cn : CN wr B (.slice (some ⟨g, 0, none⟩) nn vc) nn P
  alk : Alk T.nodes (P.map Prod.fst)
  fit : ∀ p ∈ P, ffit p.1 = true
  fu : OwnI wr B fv fn T.funcs
  box : wr.heap[ub]? = some (.cells #[.slice (some ⟨g, 0, none⟩) nn vc, fv] 25 (0, 0))
  bel : Below w3.heap.size w3 wr
theorem CN.drew {w : World} {B v n P} (h : CN w B v n P) : CN w.drew B v n P := h.keep ((Below.refl _ _).drew)
theorem PI.drew {w3 wr : World} {B g vc nn ub : Nat} {fv : Value} {fn : Nat} {T : Tr} {P : List (Nd × Value)} (h : PI w3 wr B g vc nn ub fv fn T P) : PI w3 wr.drew B g vc nn ub fv fn T P := ⟨h.cn.drew, h.alk, h.fit, h.fu.drew, h.box, h.bel.drew⟩
theorem PI.fld {w3 wr : World} {B g vc nn ub : Nat} {fv : Value} {fn : Nat} {T : Tr} {P : List (Nd × Value)} (h : PI w3 wr B g vc nn ub fv fn T P) (hB : w3.heap.size ≤ B) (m : Nat) (hm : m < P.length) (j : Nat) (hj : j < 10) (v : Int) (nd : Nd) (he : nc nd (P[m]).2 = (nc (P[m]).1 (P[m]).2).set j (.int .i64 v))
    (e1 : nd.kind = (P[m]).1.kind) (e2 : nd.decl = (P[m]).1.decl) (e3 : nd.op = (P[m]).1.op) (e4 : nd.val = (P[m]).1.val) (e5 : nd.name = (P[m]).1.name) (e6 : nd.kids = (P[m]).1.kids) (hf : ffit nd = true) :
    PI w3 (wr.setCell ⟨g, m * 10 + j, none⟩ (.int .i64 v)).drew B g vc nn ub fv fn T (P.set m (nd, (P[m]).2)) := by
  have hg := own_block h.cn.own (g := g) rfl
  have hgu : ub ≠ g := fun e => own_not h.cn.own h.box (by decide) (by rw [e]; rfl)
  refine ⟨h.cn.fld m hm j hj v nd he e6, ?_, fun p hp => ?_, (h.fu.set_other (own_apart h.cn.own h.fu.out (by decide) g rfl) _ _).drew, (heap_set_other hgu).trans h.box, (h.bel.setCell (p := ⟨g, m * 10 + j, none⟩) (by show w3.heap.size ≤ g; omega) _).drew⟩
  · rw [List.map_set]
    exact h.alk.set m (by simpa using hm) nd (by simpa using e1) (by simpa using e2) (by simpa using e3) (by simpa using e4) (by simpa using e5) (by simpa using e6)
  · obtain ⟨q, hq, rfl⟩ := List.mem_iff_getElem.1 hp
    rw [List.getElem_set]
    split
    · exact hf
    · exact h.fit _ (List.getElem_mem _)
theorem PI.keep {w3 wr wr' : World} {B g vc nn ub : Nat} {fv : Value} {fn : Nat} {T : Tr} {P : List (Nd × Value)} (h : PI w3 wr B g vc nn ub fv fn T P) (hb : Below wr.heap.size wr wr') : PI w3 wr' B g vc nn ub fv fn T P :=
  ⟨h.cn.keep hb, h.alk, h.fit, h.fu.keep hb, (hb.block ub (Array.getElem?_eq_some_iff.1 h.box).1).trans h.box, h.bel.trans (hb.mono h.bel.size)⟩
theorem Below.undrew {B : Nat} {w w' : World} (h : Below B w w'.drew) : Below B w w' := ⟨h.os, h.tape, h.output, h.size, h.block⟩
theorem PI.undrew {w3 wr : World} {B g vc nn ub : Nat} {fv : Value} {fn : Nat} {T : Tr} {P : List (Nd × Value)} (h : PI w3 wr.drew B g vc nn ub fv fn T P) : PI w3 wr B g vc nn ub fv fn T P :=
  ⟨⟨h.cn.len, own_move h.cn.own fun _ _ => rfl, fun p hp => ⟨(h.cn.kid p hp).len, own_move (h.cn.kid p hp).out fun _ _ => rfl⟩, h.cn.apt⟩, h.alk, h.fit, ⟨h.fu.len, own_move h.fu.out fun _ _ => rfl⟩, h.box, Below.undrew h.bel⟩
theorem PI.facts {w3 wr : World} {B g vc nn ub : Nat} {fv : Value} {fn : Nat} {T : Tr} {P : List (Nd × Value)} (h : PI w3 wr B g vc nn ub fv fn T P) (m : Nat) (hm : m < P.length) (nd : Nd) (hnd : (P[m]).1 = nd) (sn : ByteArray) (hs : sn = bs nd.name) :
    wr.cell? ⟨ub, 0, none⟩ = some (.slice (some ⟨g, 0, none⟩) nn vc) ∧ wr.cell? ⟨ub, 1, none⟩ = some fv ∧ wr.cell? ⟨g, m * 10, none⟩ = some (.int .i64 nd.kind) ∧ wr.cell? ⟨g, m * 10 + 1, none⟩ = some (.int .i64 nd.at_) ∧ wr.cell? ⟨g, m * 10 + 2, none⟩ = some (.int .i64 nd.wh) ∧ wr.cell? ⟨g, m * 10 + 3, none⟩ = some (.int .i64 nd.close) ∧ wr.cell? ⟨g, m * 10 + 5, none⟩ = some (.int .i64 nd.typ) ∧ wr.cell? ⟨g, m * 10 + 8, none⟩ = some (.string sn) ∧ (∀ q, wr.frozen? ⟨g, q, none⟩ = false) := by
  subst hnd hs
  have rc : ∀ k, k < 10 → wr.cell? ⟨g, m * 10 + k, none⟩ = (nc (P[m]).1 (P[m]).2)[k]? := fun k hk => row_cell h.cn.own h.cn.len m hm k hk
  exact ⟨cell_arr h.box rfl, cell_arr h.box rfl, rc 0 (by omega), rc 1 (by omega), rc 2 (by omega), rc 3 (by omega), rc 5 (by omega), rc 8 (by omega), row_fz h.cn.own⟩
theorem ffit_named {n : Nd} (h : ffit n = true) (hk : n.kind = 1) : n.name ≠ [] := by
  intro e
  simp [ffit, hk, mayOf, nmFits, nmOk, e] at h
theorem ffit_unnamed {n : Nd} (h : ffit n = true) (hk : n.kind = 31) : n.name = [] := by
  simp [ffit, hk, mayOf, nmFits] at h
  exact h.2
theorem slot3_s (i : Int) (n m : Nat) (hn : 0 < n) (hn2 : n ≤ 140737488351232) (hm : i % (n : Int) = (m : Int)) (w : World) : Calls Tryd.prog 14 #[.int .i64 i, .int .i64 n] w fun e w' => e = .returned (.int .i64 (m : Int)) ∧ w' = w := by
  refine (slot3_any i n hn hn2 w).mono ?_
  rintro e w' ⟨rfl, rfl⟩
  rw [hm]
  exact ⟨rfl, rfl⟩
theorem print_ok (w : World) (hA : AllTab w) (no : Option Addr) (nc nn : Nat) (fo : Option Addr) (fc fn : Nat) (T : Tr) (hnn : nn = T.nodes.length) (hfn : fn = T.funcs.length) (hN : Nodes w no nc T.nodes) (hF : Ints w fo fc T.funcs) (hm : nn ≤ 1000000000) (hc : chk T = true) (S' : Ps) (hP : PrintsOKx T.nodes T.funcs ⟨[], [], 0⟩ S') :
    Calls Tryd.prog 11 #[.agg #[.slice no nn nc, .slice fo fn fc]] w fun e w' => (∃ v n, e = .returned (.tuple #[v, .int .i64 0]) ∧ OwnB w' w.heap.size v n S'.text) ∧ Below w.heap.size w w' :=
  print_all w hA.tab hA.lo hA.t1 hA.t2 hA.tp no nc nn fo fc fn T hnn hfn hN hF hm hc S' hP
theorem alk_c3 {N N'} (h : Alk N N') : (N.map c3).sum * N.length = (N'.map c3).sum * N'.length := by
  rw [h.len, h.map c3 (fun i a b => by unfold c3; rw [(h.out i a b).1])]
theorem alk_val {N N'} (h : Alk N N') (hv : ∀ n ∈ N, n.val ≤ 9223372036854775807) : ∀ n ∈ N', n.val ≤ 9223372036854775807 := by
  intro n hn
  obtain ⟨i, hi, rfl⟩ := List.mem_iff_getElem.1 hn
  have hi' : i < N.length := by rw [h.len]; exact hi
  rw [← (h.out i hi' hi).2.2.2.1]
  exact hv _ (List.getElem_mem hi')

set_option maxRecDepth 10000 in
set_option maxHeartbeats 8000000 in
theorem treePlaces_any (w : World) (hA : AllTab w) (no : Option Addr) (nc nn : Nat) (fo : Option Addr) (fc fn : Nat) (T : Tr) (hnn : nn = T.nodes.length) (hfn : fn = T.funcs.length) (hN : Nodes w no nc T.nodes) (hF : Ints w fo fc T.funcs) (hKN : KNil w no T.nodes) (hfz : fo = none → fc = 0) (hR : Rch T.nodes) (hn1 : nn ≤ 140737488351232) (hf1 : fn ≤ 140737488351232)
    (hv : ∀ n ∈ T.nodes, n.val ≤ 9223372036854775807) (po : Option Addr) (pn pc : Nat) (L : List Plc) (hpn : pn = L.length) (hL : Pls w po pc L) :
    Calls Tryd.prog 4 #[.agg #[.slice no nn nc, .slice fo fn fc], .slice po pn pc] w fun e w' => e = .returned (.bool true) ∧ Below w.heap.size w w' := by
  have HH : Hid (nn = T.nodes.length ∧ fn = T.funcs.length ∧ pn = L.length) := ⟨hnn, hfn, hpn⟩
  have HA : Hid (AllTab w) := hA
  have HV : Hid (∀ n ∈ T.nodes, n.val ≤ 9223372036854775807) := hv
  have hpc : pn ≤ pc := by have := hL.le; omega
  have hpx := hL.mx
  clear hnn hfn hA hpn hv
  go_enter Tryd.func4, Tryd.ntmps4
  go_wp2_with fail
  have hb0 : Below w.heap.size w (w.alloc (.cells #[.slice no nn nc, .slice fo fn fc] 25)) := (Below.refl _ _).alloc (Nat.le_refl _) _
  refine (fits3_deep _ no nc nn fo fc fn T.nodes HH.out.1 (hN.below hb0 (Nat.le_refl _)) hR hn1 hf1).mono ?_
  rintro e w1 ⟨⟨R, rfl, hRR⟩, hb1⟩
  have HRR : Hid (R = true → nn + fn ≤ 120000 ∧ (∀ n ∈ T.nodes, n.kids.length ≤ 120000) ∧ (T.nodes.map c3).sum * T.nodes.length ≤ 16777216) := hRR
  clear hRR
  have hs1 := hb1.size
  simp at hs1
  have f0 : w1.cell? ⟨w.heap.size, 0, none⟩ = some (.slice no nn nc) := cell_below hb1 (by simp) (by simp)
  have f1 : w1.cell? ⟨w.heap.size, 1, none⟩ = some (.slice fo fn fc) := cell_below hb1 (by simp) (by simp)
  have hbw1 : Below w.heap.size w w1 := hb0.trans (hb1.mono (by simp))
  clear hb0
  cases R
  · go_wp2_with fail
    go_ret
    exact ⟨rfl, hbw1⟩
  obtain ⟨hsum, hkids, hdeep⟩ := HRR.out rfl
  have HKI : Hid _ := hkids
  have HDP : Hid ((T.nodes.map c3).sum * T.nodes.length ≤ 16777216) := hdeep
  have hnB : nn ≤ 1000000000 := by omega
  clear HRR hkids hdeep
  by_cases hp1 : 1000 < pn
  · have hp1' : (pn : Int) > 1000 := by omega
    go_wp2_with fail
    go_ret
    exact ⟨rfl, hbw1⟩
  have hp1' : ¬ (pn : Int) > 1000 := by omega
  go_wp2_with fail
  refine (alive3_any w1 (HA.out.below hbw1)).mono ?_
  rintro e w2 ⟨rfl, hb2⟩
  have hs2 := hb2.size
  have g0 : w2.cell? ⟨w.heap.size, 0, none⟩ = some (.slice no nn nc) := cell_below hb2 (by omega) f0
  have g1 : w2.cell? ⟨w.heap.size, 1, none⟩ = some (.slice fo fn fc) := cell_below hb2 (by omega) f1
  have hbw2 : Below w.heap.size w w2 := hbw1.trans (hb2.mono (by omega))
  clear f0 f1
  go_wp2_with fail
  cases hC : chk T
  · refine (print_no w2 (HA.out.below hbw2).tab no nc nn fo fc fn T HH.out.1 HH.out.2.1 (hN.below hbw2 (Nat.le_refl _)) (hF.below hbw2 (Nat.le_refl _)) hnB hC).mono ?_
    rintro e w3 ⟨rfl, hb3⟩
    go_wp2_with (first | (go_at_call 12; refine (num3_any _ _).mono ?_; rintro e w' ⟨rfl, rfl⟩))
    go_ret
    exact ⟨rfl, hbw2.trans (hb3.mono (by omega))⟩
  have HC : Hid (chk T = true) := hC
  obtain ⟨S1, hP1, hS1⟩ := prints_ok hC HV.out (by have := HH.out.1; omega) HDP.out
  clear hC
  have HP1 : Hid (PrintsOKx T.nodes T.funcs ⟨[], [], 0⟩ S1) := hP1
  refine (print_ok w2 (HA.out.below hbw2) no nc nn fo fc fn T HH.out.1 HH.out.2.1 (hN.below hbw2 (Nat.le_refl _)) (hF.below hbw2 (Nat.le_refl _)) hnB HC.out S1 hP1).mono ?_
  rintro e w3 ⟨⟨bv, bn, rfl, HB⟩, hb3⟩
  obtain ⟨ba, bc, rfl⟩ := own_slice HB.out
  have hs3 := hb3.size
  have i0 : w3.cell? ⟨w.heap.size, 0, none⟩ = some (.slice no nn nc) := cell_below hb3 (by omega) g0
  have i1 : w3.cell? ⟨w.heap.size, 1, none⟩ = some (.slice fo fn fc) := cell_below hb3 (by omega) g1
  have hbw3 : Below w.heap.size w w3 := hbw2.trans (hb3.mono (by omega))
  clear g0 g1 hP1
  by_cases hn0 : nn = 0
  · subst hn0
    go_wp2_with (first | (go_at_call 12; refine (num3_any _ _).mono ?_; rintro e w' ⟨rfl, rfl⟩))
    go_ret
    exact ⟨rfl, hbw3⟩
  have hnz : ¬ (nn : Int) = 0 := by omega
  go_wp2_with (first | (go_at_call 12; refine (num3_any _ _).mono ?_; rintro e w' ⟨rfl, rfl⟩))
  refine (copied_any w3 no nc nn fo fc fn T.nodes T.funcs HH.out.1 HH.out.2.1 (hN.below hbw3 (Nat.le_refl _)) (hF.below hbw3 (Nat.le_refl _)) (hKN.below hN hbw3) hfz (by omega) (by omega) (fun n hn => by have := HKI.out n hn; omega)).mono ?_
  rintro e w4 ⟨⟨v, fv, P, rfl, HCN, hP, HFV, hap, hb4⟩⟩
  have hs4 := hb4.size
  obtain ⟨g, vc, rfl, hvc⟩ : ∃ g vc, v = .slice (some ⟨g, 0, none⟩) nn vc ∧ nn ≤ vc ∧ vc ≤ 9223372036854775807 := by
    rcases HCN.own.2 with ⟨_, h0⟩ | ⟨g, cap, cur, rfl, _, _, h1, h2, _, _⟩
    · exact absurd h0 hn0
    · exact ⟨g, cap, rfl, h1, h2⟩
  obtain ⟨fa, fcc, rfl⟩ := own_slice HFV.out
  obtain ⟨ub, hub⟩ : ∃ ub, ub = w4.heap.size := ⟨_, rfl⟩
  have hb5 : Below w4.heap.size w4 (w4.alloc (.cells #[.slice (some ⟨g, 0, none⟩) nn vc, .slice fa fn fcc] 25)) := (Below.refl _ _).alloc (Nat.le_refl _) _
  obtain ⟨B, hB, hB2⟩ : ∃ B, B = w3.heap.size + 1 + 1 + 1 ∧ w3.heap.size ≤ B := ⟨_, rfl, by omega⟩
  have hPI : PI w3 (w4.alloc (.cells #[.slice (some ⟨g, 0, none⟩) nn vc, .slice fa fn fcc] 25)) B g vc nn ub (.slice fa fn fcc) fn T P :=
    ⟨by rw [hB]; exact HCN.keep hb5, by rw [hP]; exact Alk.refl _, fun p hp => ((chk_stk HC.out).2.1 p.1 (by rw [← hP]; exact List.mem_map.2 ⟨p, hp, rfl⟩)).1, by rw [hB]; exact HFV.keep hb5, by rw [hub]; exact heap_alloc_last _ _, hb4.trans (hb5.mono (by omega))⟩
  clear HCN HFV hap hP hb4 hB i0 i1
  go_wp2_with fail
  rw [← hub]
  clear hub
  go_loopw [9] (fun c wr => ∃ (i : Nat) (Q : List (Nd × Value)), i ≤ pn ∧ c = .int .i64 i ∧ PI w3 wr B g vc nn ub (.slice fa fn fcc) fn T Q) (fun c _ => pn - (intOf c).toNat)
  case atStart => exact ⟨0, P, by omega, rfl, hPI⟩
  case round =>
    obtain ⟨i, Q, hi, rfl, HI⟩ := hrel
    clear hPI
    have u0 : wr.cell? ⟨ub, 0, none⟩ = some (.slice (some ⟨g, 0, none⟩) nn vc) := cell_arr HI.box rfl
    have u1 : wr.cell? ⟨ub, 1, none⟩ = some (.slice fa fn fcc) := cell_arr HI.box rfl
    have hbwr : Below w.heap.size w wr := hbw3.trans (HI.bel.mono hbw3.size)
    have hul : ub < wr.heap.size := (Array.getElem?_eq_some_iff.1 HI.box).1
    have hgub : ¬ g = ub := fun e => own_not HI.cn.own HI.box (by decide) (by rw [e]; rfl)
    have hugb : ¬ ub = g := fun e => hgub e.symm
    have hgr := own_block HI.cn.own (g := g) rfl
    by_cases hlt : i < pn
    · have hiL : i < L.length := by have := HH.out.2.2; omega
      obtain ⟨pb, oo, rfl, hpbl, hcs⟩ := hL.out (by intro e; rw [e] at hiL; simp at hiL)
      obtain ⟨q0, q1, q2, q3, q4⟩ := hcs i hiL
      obtain ⟨pl, hpl⟩ : ∃ pl, pl = L[i] := ⟨_, rfl⟩
      rw [← hpl] at q0 q1 q2 q3 q4
      have q0 : wr.cell? ⟨pb, oo + i * 5, none⟩ = some (.int .i64 pl.node) := cell_below hbwr hpbl q0
      have q1 : wr.cell? ⟨pb, oo + i * 5 + 1, none⟩ = some (.int .i64 pl.at_) := cell_below hbwr hpbl q1
      have q2 : wr.cell? ⟨pb, oo + i * 5 + 2, none⟩ = some (.int .i64 pl.wh) := cell_below hbwr hpbl q2
      have q3 : wr.cell? ⟨pb, oo + i * 5 + 3, none⟩ = some (.int .i64 pl.close) := cell_below hbwr hpbl q3
      have q4 : wr.cell? ⟨pb, oo + i * 5 + 4, none⟩ = some (.int .i64 pl.typ) := cell_below hbwr hpbl q4
      obtain ⟨m, hm, hml⟩ := slot_nat pl.node nn hn0
      have hmQ : m < Q.length := by have := HI.cn.len; omega
      have hpg : ¬ pb = g := by have := hs3; omega
      have hgp : ¬ g = pb := by omega
      have hnl : nn ≤ 140737488351232 := by omega
      have hnp : 0 < nn := by omega
      clear hpl hcs
      obtain ⟨nd, hnd⟩ : ∃ nd, (Q[m]).1 = nd := ⟨_, rfl⟩
      obtain ⟨sn, hsn⟩ : ∃ sn, sn = bs nd.name := ⟨_, rfl⟩
      obtain ⟨_, _, k0, k1, _, _, _, k8, zz⟩ := HI.facts m hmQ nd hnd sn hsn
      have z1 := zz (m * 10 + 1)
      have hff : ffit nd = true := by rw [← hnd]; exact HI.fit _ (List.getElem_mem hmQ)
      have hvk : VK nd.kind := by
        have h1 := chk_ok HC.out HV.out (by have := HH.out.1; omega) m (by have := HH.out.1; omega)
        have h2 := (HI.alk.out m (by have := HH.out.1; omega) (by simpa using hmQ)).1
        have h3 : ((Q.map Prod.fst)[m]'(by simpa using hmQ)).kind = nd.kind := by rw [← hnd]; simp
        rw [← h3, ← h2]
        exact h1.vk
      have HND : Hid ((Q[m]).1 = nd ∧ sn = bs nd.name ∧ ffit nd = true ∧ VK nd.kind) := ⟨hnd, hsn, hff, hvk⟩
      clear hnd hsn zz hff hvk
      go_wp2_with fail
      go_quiet (first | (go_at_call 14; exact Calls.quiet_of_same (slot3_s pl.node nn m hnp hnl hm _)))
      go_wp2_with fail
      go_region
      obtain ⟨wb, hwb⟩ : ∃ wb, wb = (wr.drewN (nq + 1)).setCell ⟨g, m * 10 + 1, none⟩ (.int .i64 pl.at_) := ⟨_, rfl⟩
      rw [← hwb]
      have HIb : PI w3 wb B g vc nn ub (.slice fa fn fcc) fn T (Q.set m ({ nd with at_ := pl.at_ }, (Q[m]).2)) := by
        rw [hwb]
        refine ((HI.keep (below_drewN (Below.refl _ _) (nq + 1))).fld hB2 m hmQ 1 (by omega) pl.at_ { nd with at_ := pl.at_ } ?_ ?_ ?_ ?_ ?_ ?_ ?_ HND.out.2.2.1).undrew
        · rw [HND.out.1]; rfl
        all_goals rw [HND.out.1]
      have hmb : m < (Q.set m ({ nd with at_ := pl.at_ }, (Q[m]).2)).length := by simpa using hmQ
      obtain ⟨v0, v1, d0, d1, d2, d3, d5, d8, yy⟩ := HIb.facts m hmb { nd with at_ := pl.at_ } (by simp) sn HND.out.2.1
      have y2 := yy (m * 10 + 2)
      have y3 := yy (m * 10 + 3)
      have y5 := yy (m * 10 + 5)
      simp only at d0 d1 d2 d3 d5
      have hbwb : Below w.heap.size w wb := hbw3.trans (HIb.bel.mono hbw3.size)
      have hwrb : ∀ q v, wr.cell? ⟨pb, q, none⟩ = some v → wb.cell? ⟨pb, q, none⟩ = some v := fun q v h => by rw [hwb]; exact cell_setO hpg h
      have r2 := hwrb _ _ q2
      have r3 := hwrb _ _ q3
      have r4 := hwrb _ _ q4
      clear q0 q1 q2 q3 q4 k0 k1 k8 z1 u0 u1 hwb hwrb HI yy hul
      by_cases hk1 : nd.kind = 1
      · have hnm : nd.name ≠ [] := ffit_named HND.out.2.2.1 hk1
        have hsl : ¬ sn.toList = [] := by rw [HND.out.2.1, bs_toList]; exact hnm
        have hwc0 : nd.name ≠ [] ∨ nd.kind = 31 := .inl hnm
        go_wp2_with fail
        go_region
        obtain ⟨wc, hwc⟩ : ∃ x, x = (wb.setCell ⟨g, m * 10 + 2, none⟩ (.int .i64 pl.wh)).drew := ⟨_, rfl⟩
        rw [← hwc]
        have hffc : ffit { nd with at_ := pl.at_, wh := pl.wh } = true := ffit_wh (n := { nd with at_ := pl.at_ }) HND.out.2.2.1 hwc0 pl.wh
        have HIc : PI w3 wc B g vc nn ub (.slice fa fn fcc) fn T ((Q.set m ({ nd with at_ := pl.at_ }, (Q[m]).2)).set m ({ nd with at_ := pl.at_, wh := pl.wh }, ((Q.set m ({ nd with at_ := pl.at_ }, (Q[m]).2))[m]).2)) := by
          rw [hwc]
          refine HIb.fld hB2 m hmb 2 (by omega) pl.wh { nd with at_ := pl.at_, wh := pl.wh } ?_ ?_ ?_ ?_ ?_ ?_ ?_ hffc
          all_goals simp [List.getElem_set_self]
          rfl
        obtain ⟨Qc, hQc⟩ : ∃ x, x = (Q.set m ({ nd with at_ := pl.at_ }, (Q[m]).2)).set m ({ nd with at_ := pl.at_, wh := pl.wh }, ((Q.set m ({ nd with at_ := pl.at_ }, (Q[m]).2))[m]).2) := ⟨_, rfl⟩
        have hmc : m < Qc.length := by rw [hQc]; simpa using hmQ
        have hnc : (Qc[m]).1 = { nd with at_ := pl.at_, wh := pl.wh } := by simp [hQc]
        rw [← hQc] at HIc
        clear hQc
        obtain ⟨c0, c1', e0, e1, e2, e3, e5, e8, xx⟩ := HIc.facts m hmc { nd with at_ := pl.at_, wh := pl.wh } hnc sn HND.out.2.1
        have x3 := xx (m * 10 + 3)
        have x5 := xx (m * 10 + 5)
        simp only at e0 e1 e2 e3 e5
        have s3 : wc.cell? ⟨pb, oo + i * 5 + 3, none⟩ = some (.int .i64 pl.close) := by rw [hwc]; exact cellD (cell_setO hpg r3)
        have s4 : wc.cell? ⟨pb, oo + i * 5 + 4, none⟩ = some (.int .i64 pl.typ) := by rw [hwc]; exact cellD (cell_setO hpg r4)
        have HNC : Hid ((Qc[m]).1 = { nd with at_ := pl.at_, wh := pl.wh }) := hnc
        clear hwc v0 v1 d0 d1 d2 d3 d5 d8 y2 y3 y5 r2 r3 r4 xx hnc
        go_wp2_with fail
        go_region
        obtain ⟨wz, hwz⟩ : ∃ x, x = (wc.setCell ⟨g, m * 10 + 3, none⟩ (.int .i64 (pl.close))).drew := ⟨_, rfl⟩
        rw [← hwz]
        have HZ : PI w3 wz B g vc nn ub (.slice fa fn fcc) fn T ((Qc).set m ({ { nd with at_ := pl.at_, wh := pl.wh } with close := pl.close }, ((Qc)[m]).2)) := by
          rw [hwz]
          refine HIc.fld hB2 m hmc 3 (by omega) (pl.close) { { nd with at_ := pl.at_, wh := pl.wh } with close := pl.close } ?_ ?_ ?_ ?_ ?_ ?_ ?_ (ffit_close (n := { nd with at_ := pl.at_, wh := pl.wh }) hffc hk1 _)
          all_goals simp [HNC.out]
          rfl
        clear hwz
        go_wp2_with fail
        exact ⟨⟨i + 1, _, by omega, by simp, HZ⟩, by simp [intOf]; omega⟩
      have hk1b : (nd.kind == 1) = false := by simpa using hk1
      by_cases hkk : nd.kind = 31
      · have hnm : nd.name = [] := ffit_unnamed HND.out.2.2.1 hkk
        have hsl : sn.toList = [] := by rw [HND.out.2.1, hnm, bs_toList]
        have hwc0 : nd.name ≠ [] ∨ nd.kind = 31 := .inr hkk
        have hk20 : 20 ≤ nd.kind := by omega
        have hk31 : nd.kind ≤ 31 := by omega
        go_wp2_with fail
        go_region
        obtain ⟨wc, hwc⟩ : ∃ x, x = (wb.setCell ⟨g, m * 10 + 2, none⟩ (.int .i64 pl.wh)).drew := ⟨_, rfl⟩
        rw [← hwc]
        have hffc : ffit { nd with at_ := pl.at_, wh := pl.wh } = true := ffit_wh (n := { nd with at_ := pl.at_ }) HND.out.2.2.1 hwc0 pl.wh
        have HIc : PI w3 wc B g vc nn ub (.slice fa fn fcc) fn T ((Q.set m ({ nd with at_ := pl.at_ }, (Q[m]).2)).set m ({ nd with at_ := pl.at_, wh := pl.wh }, ((Q.set m ({ nd with at_ := pl.at_ }, (Q[m]).2))[m]).2)) := by
          rw [hwc]
          refine HIb.fld hB2 m hmb 2 (by omega) pl.wh { nd with at_ := pl.at_, wh := pl.wh } ?_ ?_ ?_ ?_ ?_ ?_ ?_ hffc
          all_goals simp [List.getElem_set_self]
          rfl
        obtain ⟨Qc, hQc⟩ : ∃ x, x = (Q.set m ({ nd with at_ := pl.at_ }, (Q[m]).2)).set m ({ nd with at_ := pl.at_, wh := pl.wh }, ((Q.set m ({ nd with at_ := pl.at_ }, (Q[m]).2))[m]).2) := ⟨_, rfl⟩
        have hmc : m < Qc.length := by rw [hQc]; simpa using hmQ
        have hnc : (Qc[m]).1 = { nd with at_ := pl.at_, wh := pl.wh } := by simp [hQc]
        rw [← hQc] at HIc
        clear hQc
        obtain ⟨c0, c1', e0, e1, e2, e3, e5, e8, xx⟩ := HIc.facts m hmc { nd with at_ := pl.at_, wh := pl.wh } hnc sn HND.out.2.1
        have x3 := xx (m * 10 + 3)
        have x5 := xx (m * 10 + 5)
        simp only at e0 e1 e2 e3 e5
        have s3 : wc.cell? ⟨pb, oo + i * 5 + 3, none⟩ = some (.int .i64 pl.close) := by rw [hwc]; exact cellD (cell_setO hpg r3)
        have s4 : wc.cell? ⟨pb, oo + i * 5 + 4, none⟩ = some (.int .i64 pl.typ) := by rw [hwc]; exact cellD (cell_setO hpg r4)
        have HNC : Hid ((Qc[m]).1 = { nd with at_ := pl.at_, wh := pl.wh }) := hnc
        clear hwc v0 v1 d0 d1 d2 d3 d5 d8 y2 y3 y5 r2 r3 r4 xx hnc
        obtain ⟨zt, hzt, hzb⟩ := and_small pl.typ 3 (by omega)
        have hzb' : bits BinOp.and IntKind.i64 pl.typ 3 = (zt : Int) := hzb
        clear hzb
        go_wp2_with fail
        go_region
        obtain ⟨wz, hwz⟩ : ∃ x, x = (wc.setCell ⟨g, m * 10 + 5, none⟩ (.int .i64 ((zt : Int)))).drew := ⟨_, rfl⟩
        rw [← hwz]
        have HZ : PI w3 wz B g vc nn ub (.slice fa fn fcc) fn T ((Qc).set m ({ { nd with at_ := pl.at_, wh := pl.wh } with typ := (zt : Int) }, ((Qc)[m]).2)) := by
          rw [hwz]
          refine HIc.fld hB2 m hmc 5 (by omega) ((zt : Int)) { { nd with at_ := pl.at_, wh := pl.wh } with typ := (zt : Int) } ?_ ?_ ?_ ?_ ?_ ?_ ?_ (ffit_typ (n := { nd with at_ := pl.at_, wh := pl.wh }) hffc hk20 hk31 (zt : Int) (by omega) (by omega))
          all_goals simp [HNC.out]
          rfl
        clear hwz
        go_wp2_with fail
        exact ⟨⟨i + 1, _, by omega, by simp, HZ⟩, by simp [intOf]; omega⟩
      have hkkb : (nd.kind == 31) = false := by simpa using hkk
      by_cases hnm : nd.name = []
      · have hsl : sn.toList = [] := by rw [HND.out.2.1, hnm, bs_toList]
        by_cases hk20 : 20 ≤ nd.kind
        · have hk31 : nd.kind ≤ 31 := by rcases HND.out.2.2.2 with h | h <;> omega
          obtain ⟨zt, hzt, hzb⟩ := and_small pl.typ 3 (by omega)
          have hzb' : bits BinOp.and IntKind.i64 pl.typ 3 = (zt : Int) := hzb
          clear hzb
          go_wp2_with fail
          go_region
          obtain ⟨wz, hwz⟩ : ∃ x, x = (wb.setCell ⟨g, m * 10 + 5, none⟩ (.int .i64 ((zt : Int)))).drew := ⟨_, rfl⟩
          rw [← hwz]
          have HZ : PI w3 wz B g vc nn ub (.slice fa fn fcc) fn T (((Q.set m ({ nd with at_ := pl.at_ }, (Q[m]).2))).set m ({ { nd with at_ := pl.at_ } with typ := (zt : Int) }, (((Q.set m ({ nd with at_ := pl.at_ }, (Q[m]).2)))[m]).2)) := by
            rw [hwz]
            refine HIb.fld hB2 m hmb 5 (by omega) ((zt : Int)) { { nd with at_ := pl.at_ } with typ := (zt : Int) } ?_ ?_ ?_ ?_ ?_ ?_ ?_ (ffit_typ (n := { nd with at_ := pl.at_ }) HND.out.2.2.1 hk20 hk31 (zt : Int) (by omega) (by omega))
            all_goals simp [List.getElem_set_self]
            rfl
          clear hwz
          go_wp2_with fail
          exact ⟨⟨i + 1, _, by omega, by simp, HZ⟩, by simp [intOf]; omega⟩
        · have hk20' : nd.kind < 20 := by omega
          go_wp2_with fail
          exact ⟨⟨i + 1, _, by omega, by simp, HIb⟩, by simp [intOf]; omega⟩
      · have hsl : ¬ sn.toList = [] := by rw [HND.out.2.1, bs_toList]; exact hnm
        have hwc0 : nd.name ≠ [] ∨ nd.kind = 31 := .inl hnm
        by_cases hk20 : 20 ≤ nd.kind
        · have hk31 : nd.kind ≤ 31 := by rcases HND.out.2.2.2 with h | h <;> omega
          go_wp2_with fail
          go_region
          obtain ⟨wc, hwc⟩ : ∃ x, x = (wb.setCell ⟨g, m * 10 + 2, none⟩ (.int .i64 pl.wh)).drew := ⟨_, rfl⟩
          rw [← hwc]
          have hffc : ffit { nd with at_ := pl.at_, wh := pl.wh } = true := ffit_wh (n := { nd with at_ := pl.at_ }) HND.out.2.2.1 hwc0 pl.wh
          have HIc : PI w3 wc B g vc nn ub (.slice fa fn fcc) fn T ((Q.set m ({ nd with at_ := pl.at_ }, (Q[m]).2)).set m ({ nd with at_ := pl.at_, wh := pl.wh }, ((Q.set m ({ nd with at_ := pl.at_ }, (Q[m]).2))[m]).2)) := by
            rw [hwc]
            refine HIb.fld hB2 m hmb 2 (by omega) pl.wh { nd with at_ := pl.at_, wh := pl.wh } ?_ ?_ ?_ ?_ ?_ ?_ ?_ hffc
            all_goals simp [List.getElem_set_self]
            rfl
          obtain ⟨Qc, hQc⟩ : ∃ x, x = (Q.set m ({ nd with at_ := pl.at_ }, (Q[m]).2)).set m ({ nd with at_ := pl.at_, wh := pl.wh }, ((Q.set m ({ nd with at_ := pl.at_ }, (Q[m]).2))[m]).2) := ⟨_, rfl⟩
          have hmc : m < Qc.length := by rw [hQc]; simpa using hmQ
          have hnc : (Qc[m]).1 = { nd with at_ := pl.at_, wh := pl.wh } := by simp [hQc]
          rw [← hQc] at HIc
          clear hQc
          obtain ⟨c0, c1', e0, e1, e2, e3, e5, e8, xx⟩ := HIc.facts m hmc { nd with at_ := pl.at_, wh := pl.wh } hnc sn HND.out.2.1
          have x3 := xx (m * 10 + 3)
          have x5 := xx (m * 10 + 5)
          simp only at e0 e1 e2 e3 e5
          have s3 : wc.cell? ⟨pb, oo + i * 5 + 3, none⟩ = some (.int .i64 pl.close) := by rw [hwc]; exact cellD (cell_setO hpg r3)
          have s4 : wc.cell? ⟨pb, oo + i * 5 + 4, none⟩ = some (.int .i64 pl.typ) := by rw [hwc]; exact cellD (cell_setO hpg r4)
          have HNC : Hid ((Qc[m]).1 = { nd with at_ := pl.at_, wh := pl.wh }) := hnc
          clear hwc v0 v1 d0 d1 d2 d3 d5 d8 y2 y3 y5 r2 r3 r4 xx hnc
          obtain ⟨zt, hzt, hzb⟩ := and_small pl.typ 3 (by omega)
          have hzb' : bits BinOp.and IntKind.i64 pl.typ 3 = (zt : Int) := hzb
          clear hzb
          go_wp2_with fail
          go_region
          obtain ⟨wz, hwz⟩ : ∃ x, x = (wc.setCell ⟨g, m * 10 + 5, none⟩ (.int .i64 ((zt : Int)))).drew := ⟨_, rfl⟩
          rw [← hwz]
          have HZ : PI w3 wz B g vc nn ub (.slice fa fn fcc) fn T ((Qc).set m ({ { nd with at_ := pl.at_, wh := pl.wh } with typ := (zt : Int) }, ((Qc)[m]).2)) := by
            rw [hwz]
            refine HIc.fld hB2 m hmc 5 (by omega) ((zt : Int)) { { nd with at_ := pl.at_, wh := pl.wh } with typ := (zt : Int) } ?_ ?_ ?_ ?_ ?_ ?_ ?_ (ffit_typ (n := { nd with at_ := pl.at_, wh := pl.wh }) hffc hk20 hk31 (zt : Int) (by omega) (by omega))
            all_goals simp [HNC.out]
            rfl
          clear hwz
          go_wp2_with fail
          exact ⟨⟨i + 1, _, by omega, by simp, HZ⟩, by simp [intOf]; omega⟩
        · have hk20' : nd.kind < 20 := by omega
          go_wp2_with fail
          go_region
          obtain ⟨wc, hwc⟩ : ∃ x, x = (wb.setCell ⟨g, m * 10 + 2, none⟩ (.int .i64 pl.wh)).drew := ⟨_, rfl⟩
          rw [← hwc]
          have hffc : ffit { nd with at_ := pl.at_, wh := pl.wh } = true := ffit_wh (n := { nd with at_ := pl.at_ }) HND.out.2.2.1 hwc0 pl.wh
          have HIc : PI w3 wc B g vc nn ub (.slice fa fn fcc) fn T ((Q.set m ({ nd with at_ := pl.at_ }, (Q[m]).2)).set m ({ nd with at_ := pl.at_, wh := pl.wh }, ((Q.set m ({ nd with at_ := pl.at_ }, (Q[m]).2))[m]).2)) := by
            rw [hwc]
            refine HIb.fld hB2 m hmb 2 (by omega) pl.wh { nd with at_ := pl.at_, wh := pl.wh } ?_ ?_ ?_ ?_ ?_ ?_ ?_ hffc
            all_goals simp [List.getElem_set_self]
            rfl
          obtain ⟨Qc, hQc⟩ : ∃ x, x = (Q.set m ({ nd with at_ := pl.at_ }, (Q[m]).2)).set m ({ nd with at_ := pl.at_, wh := pl.wh }, ((Q.set m ({ nd with at_ := pl.at_ }, (Q[m]).2))[m]).2) := ⟨_, rfl⟩
          have hmc : m < Qc.length := by rw [hQc]; simpa using hmQ
          have hnc : (Qc[m]).1 = { nd with at_ := pl.at_, wh := pl.wh } := by simp [hQc]
          rw [← hQc] at HIc
          clear hQc
          obtain ⟨c0, c1', e0, e1, e2, e3, e5, e8, xx⟩ := HIc.facts m hmc { nd with at_ := pl.at_, wh := pl.wh } hnc sn HND.out.2.1
          have x3 := xx (m * 10 + 3)
          have x5 := xx (m * 10 + 5)
          simp only at e0 e1 e2 e3 e5
          have s3 : wc.cell? ⟨pb, oo + i * 5 + 3, none⟩ = some (.int .i64 pl.close) := by rw [hwc]; exact cellD (cell_setO hpg r3)
          have s4 : wc.cell? ⟨pb, oo + i * 5 + 4, none⟩ = some (.int .i64 pl.typ) := by rw [hwc]; exact cellD (cell_setO hpg r4)
          have HNC : Hid ((Qc[m]).1 = { nd with at_ := pl.at_, wh := pl.wh }) := hnc
          clear hwc v0 v1 d0 d1 d2 d3 d5 d8 y2 y3 y5 r2 r3 r4 xx hnc
          go_wp2_with fail
          exact ⟨⟨i + 1, _, by omega, by simp, HIc⟩, by simp [intOf]; omega⟩
    · obtain rfl : i = pn := by omega
      obtain ⟨na, nc', eN, hN'⟩ := HI.cn.nodes
      cases eN
      obtain ⟨fa', fc', eF, _, _, hI', _⟩ := HI.fu.view
      cases eF
      have hlen : nn = (Q.map Prod.fst).length := by simpa using HI.cn.len
      have hck : chk ⟨Q.map Prod.fst, T.funcs⟩ = true := chk_alk (N := T.nodes) HC.out HI.alk (fun n hn => by obtain ⟨p, hp, rfl⟩ := List.mem_map.1 hn; exact HI.fit p hp)
      obtain ⟨S2, hP2, _⟩ := prints_ok (T := ⟨Q.map Prod.fst, T.funcs⟩) hck (alk_val HI.alk HV.out) (by show (Q.map Prod.fst).length ≤ _; omega) (by show ((Q.map Prod.fst).map c3).sum * (Q.map Prod.fst).length ≤ _; rw [← alk_c3 HI.alk]; exact HDP.out)
      obtain rfl : S1 = S2 := prints_det HI.alk HP1.out hP2
      have HCK : Hid (chk ⟨Q.map Prod.fst, T.funcs⟩ = true ∧ nn = (Q.map Prod.fst).length ∧ PrintsOKx (Q.map Prod.fst) T.funcs ⟨[], [], 0⟩ S1) := ⟨hck, hlen, hP2⟩
      have hBr := HB.keep HI.bel
      clear hck hlen hP2 HB
      go_wp2_with fail
      refine (check_any wr (HA.out.below hbwr).tab _ vc nn fa fcc fn ⟨Q.map Prod.fst, T.funcs⟩ HCK.out.2.1 HI.fu.len hN' hI' hnB).mono ?_
      rintro e w6 ⟨rfl, hb6⟩
      rw [HCK.out.1]
      simp only [if_true]
      have hs6 := hb6.size
      have v0 : w6.cell? ⟨ub, 0, none⟩ = some (.slice (some ⟨g, 0, none⟩) nn vc) := cell_below hb6 hul u0
      have v1 : w6.cell? ⟨ub, 1, none⟩ = some (.slice fa fn fcc) := cell_below hb6 hul u1
      have hbw6 : Below w.heap.size w w6 := hbwr.trans (hb6.mono hbwr.size)
      clear u0 u1
      go_wp2_with fail
      refine (print_ok w6 (HA.out.below hbw6) _ vc nn fa fcc fn ⟨Q.map Prod.fst, T.funcs⟩ HCK.out.2.1 HI.fu.len (hN'.below hb6 (Nat.le_refl _)) (hI'.below hb6 (Nat.le_refl _)) hnB HCK.out.1 S1 HCK.out.2.2).mono ?_
      rintro e w7 ⟨⟨cv, cn', rfl, HCc⟩, hb7⟩
      have hB7 := (hBr.keep hb6).keep hb7
      have hbw7 : Below w.heap.size w w7 := hbw6.trans (hb7.mono hbw6.size)
      obtain ⟨ca, cc, eC, _, hTc⟩ := HCc.view
      subst eC
      obtain ⟨ba', bc', eB, _, hTb⟩ := hB7.view
      cases eB
      have hcv1 := hTb.conv bn hB7.len
      have hcv2 := hTc.conv cn' HCc.len
      obtain ⟨st, hst⟩ : ∃ st, st = bs S1.text := ⟨_, rfl⟩
      rw [← hst] at hcv1 hcv2
      clear hst v0 v1 hTb hTc HCc hB7 hBr hN' hI'
      go_wp2_with (first | (go_at_call 12; refine (num3_any _ _).mono ?_; rintro e w' ⟨rfl, rfl⟩))
      go_ret
      exact ⟨rfl, hbw7⟩
end Go.Proofs.YtdgfkhdjlhgoaaaDoor
