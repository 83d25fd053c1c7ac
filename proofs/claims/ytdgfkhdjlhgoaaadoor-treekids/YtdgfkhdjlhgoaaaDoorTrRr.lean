import Derived.Test.YtdgfkhdjlhgoaaaDoorLzO
set_option linter.unusedVariables false
set_option linter.unusedSimpArgs false
namespace Go.Proofs.YtdgfkhdjlhgoaaaDoor
open Go.ChangeShapes Go.WideShapes Go.ChangeAt Go.RowKit

theorem own_drew {w : World} {B e s n M} {v : Value} (h : w.ownsRow B e s v n M) : w.drew.ownsRow B e s v n M := own_move h fun _ _ => rfl

/-- The law's loop: k nodes' kids are turned. -/
structure OL (w wr : World) (B g vc nn ub : Nat) (fv : Value) (fn a b : Nat) (P : List (Nd × Value)) (F : List Int) (k : Nat) : Prop where
  cn : CN wr B (.slice (some ⟨g, 0, none⟩) nn vc) nn (tkP a b P k)
  fu : OwnI wr B fv fn F
  box : wr.heap[ub]? = some (.cells #[.slice (some ⟨g, 0, none⟩) nn vc, fv] 25 (0, 0))
  bel : Below w.heap.size w wr
theorem OL.next {w wr w2 : World} {B g vc nn ub : Nat} {fv : Value} {fn a b : Nat} {P : List (Nd × Value)} {F : List Int} {k : Nat} (h : OL w wr B g vc nn ub fv fn a b P F k) (hk : k < P.length) (hap : ∀ p ∈ P, ∀ g, p.2.ownBlock = some g → fv.ownBlock ≠ some g) (hB : w.heap.size ≤ B)
    (ht : Trn wr w2 B (P[k]).2 (P[k]).1.kids.length ((P[k]).1.kids.map (sw a b))) : OL w w2 B g vc nn ub fv fn a b P F (k + 1) := by
  have hl : k < (tkP a b P k).length := by rw [tkP_len _ _ _ _ (by omega)]; exact hk
  have e := tkP_at a b P k hk hl
  have hm := h.cn.kid (tkP a b P k)[k] (List.getElem_mem hl)
  rw [e] at hm
  refine ⟨?_, ⟨h.fu.len, own_move h.fu.out fun q hq => ht.oth q fun e2 => hap P[k] (List.getElem_mem hk) q e2 hq⟩, (ht.oth ub (own_not hm.out h.box (by decide))).trans h.box, h.bel.trans (ht.bel.mono hB)⟩
  have hc := h.cn.turned (w' := w2) a b k hl (by rw [e]; exact ht)
  rw [e, ← tkP_next a b P k hk] at hc
  exact hc
theorem print_no' (w : World) (hTab : Tab w) {B B' n fn : Nat} {va fa : Option Addr} {vc fcc : Nat} {P : List (Nd × Value)} {F : List Int} (hM : CM w B (.slice va n vc) n P) (hF : OwnI w B' (.slice fa fn fcc) fn F) (hn : n ≤ 1000000000) (hc : chk ⟨P.map Prod.fst, F⟩ = false) :
    Calls Tryd.prog 11 #[.agg #[.slice va n vc, .slice fa fn fcc]] w fun e w' => e = .returned (.tuple #[.slice none 0 0, .int .i64 30]) ∧ Below w.heap.size w w' := by
  obtain ⟨a, c, e, hN⟩ := hM.nodes
  cases e
  obtain ⟨a2, c2, e2, _, _, hI, _⟩ := hF.view
  cases e2
  exact print_no w hTab va vc n fa fcc fn ⟨P.map Prod.fst, F⟩ (by simp; exact hM.len) hF.len hN hI hn hc

set_option maxRecDepth 10000 in
set_option maxHeartbeats 4000000 in
theorem treeOrder_any (w : World) (hA : AllTab w) (no : Option Addr) (nc nn : Nat) (fo : Option Addr) (fc fn : Nat) (T : Tr) (i j : Int) (hnn : nn = T.nodes.length) (hfn : fn = T.funcs.length) (hN : Nodes w no nc T.nodes) (hF : Ints w fo fc T.funcs) (hKN : KNil w no T.nodes) (hfz : fo = none → fc = 0) (hR : Rch T.nodes) (hn1 : nn ≤ 140737488351232) (hf1 : fn ≤ 140737488351232) :
    Calls Tryd.prog 5 #[.agg #[.slice no nn nc, .slice fo fn fc], .int .i64 i, .int .i64 j] w fun e w' => e = .returned (.bool true) ∧ Below w.heap.size w w' := by
  have HH : Hid (nn = T.nodes.length ∧ fn = T.funcs.length) := ⟨hnn, hfn⟩
  have HA : Hid (AllTab w) := hA
  clear hnn hfn hA
  go_enter Tryd.func5, Tryd.ntmps5
  go_wp2_with fail
  have hb0 : Below w.heap.size w (w.alloc (.cells #[.slice no nn nc, .slice fo fn fc] 25)) := (Below.refl _ _).alloc (Nat.le_refl _) _
  refine (fits3_any _ no nc nn fo fc fn T.nodes HH.out.1 (hN.below hb0 (Nat.le_refl _)) hR hn1 hf1).mono ?_
  rintro e w1 ⟨⟨R, rfl, hRR⟩, hb1⟩
  have HRR : Hid (R = true → nn + fn ≤ 120000 ∧ ∀ n ∈ T.nodes, n.kids.length ≤ 120000) := hRR
  clear hRR
  have hs1 := hb1.size
  simp at hs1
  have f0 : w1.cell? ⟨w.heap.size, 0, none⟩ = some (.slice no nn nc) := cell_below hb1 (by simp) (by simp)
  have f1 : w1.cell? ⟨w.heap.size, 1, none⟩ = some (.slice fo fn fc) := cell_below hb1 (by simp) (by simp)
  have hbw1 : Below w.heap.size w w1 := hb0.trans (hb1.mono (by simp))
  clear hb0
  cases R
  · go_wp2_with fail
    go_ret
    exact ⟨rfl, hbw1⟩
  obtain ⟨hsum, hkids⟩ := HRR.out rfl
  have HKI : Hid _ := hkids
  have hnB : nn ≤ 1000000000 := by omega
  clear HRR hkids
  by_cases hn0 : nn < 2
  · go_wp2_with fail
    go_ret
    exact ⟨rfl, hbw1⟩
  have hnz : ¬ nn = 0 := by omega
  have hn2 : ¬ (nn : Int) < 2 := by omega
  go_wp2_with fail
  refine (alive3_any w1 (HA.out.below hbw1)).mono ?_
  rintro e w2 ⟨rfl, hb2⟩
  have hs2 := hb2.size
  have g0 : w2.cell? ⟨w.heap.size, 0, none⟩ = some (.slice no nn nc) := cell_below hb2 (by omega) f0
  have g1 : w2.cell? ⟨w.heap.size, 1, none⟩ = some (.slice fo fn fc) := cell_below hb2 (by omega) f1
  have hbw2 : Below w.heap.size w w2 := hbw1.trans (hb2.mono (by omega))
  clear f0 f1
  go_wp2_with fail
  refine (check_any w2 (HA.out.below hbw2).tab no nc nn fo fc fn T HH.out.1 HH.out.2 (hN.below hbw2 (Nat.le_refl _)) (hF.below hbw2 (Nat.le_refl _)) (by omega)).mono ?_
  rintro e w3 ⟨rfl, hb3⟩
  have hs3 := hb3.size
  have i0 : w3.cell? ⟨w.heap.size, 0, none⟩ = some (.slice no nn nc) := cell_below hb3 (by omega) g0
  have i1 : w3.cell? ⟨w.heap.size, 1, none⟩ = some (.slice fo fn fc) := cell_below hb3 (by omega) g1
  have hbw3 : Below w.heap.size w w3 := hbw2.trans (hb3.mono (by omega))
  clear g0 g1
  obtain ⟨a, ha, hal⟩ := slot_nat i nn hnz
  obtain ⟨b, hb, hbl⟩ := slot_nat j nn hnz
  cases hC : chk T
  · simp only [Bool.false_eq_true, if_false]
    go_wp2_with (first | (go_at_call 12; refine (num3_any _ _).mono ?_; rintro e w' ⟨rfl, rfl⟩) | (go_at_call 14; refine (slot3_any _ _ (by omega) (by omega) _).mono ?_; rintro e w' ⟨rfl, rfl⟩))
    all_goals go_ret
    all_goals exact ⟨rfl, hbw3⟩
  simp only [if_true]
  have HC : Hid (chk T = true) := hC
  clear hC
  by_cases hab : a = b
  · subst hab
    go_wp2_with (first | (go_at_call 12; refine (num3_any _ _).mono ?_; rintro e w' ⟨rfl, rfl⟩) | (go_at_call_of 14 (Value.int IntKind.i64 i); refine (slot3_any _ _ (by omega) (by omega) _).mono ?_; rintro e w' ⟨rfl, rfl⟩; rw [ha]) | (go_at_call 14; refine (slot3_any _ _ (by omega) (by omega) _).mono ?_; rintro e w' ⟨rfl, rfl⟩; rw [hb]))
    go_ret
    exact ⟨rfl, hbw3⟩
  have hab1 : ¬ (a : Int) = (b : Int) := by omega
  go_wp2_with (first | (go_at_call 12; refine (num3_any _ _).mono ?_; rintro e w' ⟨rfl, rfl⟩) | (go_at_call_of 14 (Value.int IntKind.i64 i); refine (slot3_any _ _ (by omega) (by omega) _).mono ?_; rintro e w' ⟨rfl, rfl⟩; rw [ha]) | (go_at_call 14; refine (slot3_any _ _ (by omega) (by omega) _).mono ?_; rintro e w' ⟨rfl, rfl⟩; rw [hb]))
  refine (copied_any w3 no nc nn fo fc fn T.nodes T.funcs HH.out.1 HH.out.2 (hN.below hbw3 (Nat.le_refl _)) (hF.below hbw3 (Nat.le_refl _)) (hKN.below hN hbw3) hfz (by omega) (by omega) (fun n hn => by have := HKI.out n hn; omega)).mono ?_
  rintro e w4 ⟨⟨v, fv, P, rfl, HCN, hP, HFV, hap, hb4⟩⟩
  have hs4 := hb4.size
  have HP : Hid (P.map Prod.fst = T.nodes) := hP
  have hPl : P.length = nn := by rw [HCN.len]
  clear hP
  obtain ⟨g, vc, rfl, hvc⟩ : ∃ g vc, v = .slice (some ⟨g, 0, none⟩) nn vc ∧ nn ≤ vc ∧ vc ≤ 9223372036854775807 := by
    rcases HCN.own.2 with ⟨_, h0⟩ | ⟨g, cap, cur, rfl, _, _, h1, h2, _, _⟩
    · exact absurd h0 hnz
    · exact ⟨g, cap, rfl, h1, h2⟩
  obtain ⟨fa, fcc, rfl⟩ := own_slice HFV.out
  obtain ⟨ub, hub⟩ : ∃ ub, ub = w4.heap.size := ⟨_, rfl⟩
  obtain ⟨w5, hw5⟩ : ∃ w5, w5 = w4.alloc (.cells #[.slice (some ⟨g, 0, none⟩) nn vc, .slice fa fn fcc] 25) := ⟨_, rfl⟩
  have hbox : w5.heap[ub]? = some (.cells #[.slice (some ⟨g, 0, none⟩) nn vc, .slice fa fn fcc] 25 (0, 0)) := by rw [hw5, hub]; exact heap_alloc_last _ _
  have hb5 : Below w4.heap.size w4 w5 := by rw [hw5]; exact (Below.refl _ _).alloc (Nat.le_refl _) _
  have HC5 := HCN.keep hb5
  have HF5 := HFV.keep hb5
  have hbw5 : Below w.heap.size w w5 := hbw3.trans ((hb4.mono (by omega)).trans (hb5.mono (by omega)))
  have hs5 : ub < w5.heap.size := by rw [hw5, hub]; simp
  have hwu : w.heap.size + 1 ≤ ub := by omega
  obtain ⟨B, hB, hB2⟩ : ∃ B, B = w3.heap.size + 1 + 1 + 1 ∧ w.heap.size + 1 ≤ B := ⟨_, rfl, by omega⟩
  rw [← hB] at HC5 HF5
  have u0 : w5.cell? ⟨ub, 0, none⟩ = some (.slice (some ⟨g, 0, none⟩) nn vc) := cell_arr hbox rfl
  have u1 : w5.cell? ⟨ub, 1, none⟩ = some (.slice fa fn fcc) := cell_arr hbox rfl
  have hgr := own_block HC5.own (g := g) rfl
  have hgB : B ≤ g := hgr.1
  have hg5 : g < w5.heap.size := hgr.2
  have hgub : ¬ g = ub := fun e => own_not HC5.own hbox (by decide) (by rw [e]; rfl)
  have hugb : ¬ ub = g := fun e => hgub e.symm
  have haP : a < P.length := by omega
  have hbP : b < P.length := by omega
  obtain ⟨na, hna⟩ : ∃ na, na = (P[a]).1 := ⟨_, rfl⟩
  obtain ⟨nb, hnb⟩ : ∃ nb, nb = (P[b]).1 := ⟨_, rfl⟩
  obtain ⟨ka, kac, hka⟩ := own_slice (HC5.kid P[a] (List.getElem_mem haP)).out
  obtain ⟨kb, kbc, hkb⟩ := own_slice (HC5.kid P[b] (List.getElem_mem hbP)).out
  obtain ⟨kal, hkal⟩ : ∃ x, x = (P[a]).1.kids.length := ⟨_, rfl⟩
  obtain ⟨kbl, hkbl⟩ : ∃ x, x = (P[b]).1.kids.length := ⟨_, rfl⟩
  rw [← hkal] at hka
  rw [← hkbl] at hkb
  obtain ⟨sa, hsa⟩ : ∃ s, s = bs na.name := ⟨_, rfl⟩
  obtain ⟨sb, hsb⟩ : ∃ s, s = bs nb.name := ⟨_, rfl⟩
  have ra : ∀ k, k < 10 → w5.cell? ⟨g, a * 10 + k, none⟩ = [Value.int .i64 na.kind, .int .i64 na.at_, .int .i64 na.wh, .int .i64 na.close, .int .i64 na.decl, .int .i64 na.typ, .int .i64 na.op, .int .i64 na.val, .string sa, .slice ka kal kac][k]? := fun k hk => by
    rw [row_cell HC5.own HC5.len a haP k hk, hka, hsa, hna]; rfl
  have rb : ∀ k, k < 10 → w5.cell? ⟨g, b * 10 + k, none⟩ = [Value.int .i64 nb.kind, .int .i64 nb.at_, .int .i64 nb.wh, .int .i64 nb.close, .int .i64 nb.decl, .int .i64 nb.typ, .int .i64 nb.op, .int .i64 nb.val, .string sb, .slice kb kbl kbc][k]? := fun k hk => by
    rw [row_cell HC5.own HC5.len b hbP k hk, hkb, hsb, hnb]; rfl
  have HPA : Hid (P[a] = (na, .slice ka kal kac) ∧ sa = bs na.name) := ⟨by rw [hna, ← hka], hsa⟩
  have HPB : Hid (P[b] = (nb, .slice kb kbl kbc) ∧ sb = bs nb.name) := ⟨by rw [hnb, ← hkb], hsb⟩
  have a0 : w5.cell? ⟨g, a * 10, none⟩ = some (.int .i64 na.kind) := ra 0 (by omega)
  have a1 : w5.cell? ⟨g, a * 10 + 1, none⟩ = some (.int .i64 na.at_) := ra 1 (by omega)
  have a2 : w5.cell? ⟨g, a * 10 + 2, none⟩ = some (.int .i64 na.wh) := ra 2 (by omega)
  have a3 : w5.cell? ⟨g, a * 10 + 3, none⟩ = some (.int .i64 na.close) := ra 3 (by omega)
  have a4 : w5.cell? ⟨g, a * 10 + 4, none⟩ = some (.int .i64 na.decl) := ra 4 (by omega)
  have a5 : w5.cell? ⟨g, a * 10 + 5, none⟩ = some (.int .i64 na.typ) := ra 5 (by omega)
  have a6 : w5.cell? ⟨g, a * 10 + 6, none⟩ = some (.int .i64 na.op) := ra 6 (by omega)
  have a7 : w5.cell? ⟨g, a * 10 + 7, none⟩ = some (.int .i64 na.val) := ra 7 (by omega)
  have a8 : w5.cell? ⟨g, a * 10 + 8, none⟩ = some (.string sa) := ra 8 (by omega)
  have a9 : w5.cell? ⟨g, a * 10 + 9, none⟩ = some (.slice ka kal kac) := ra 9 (by omega)
  have HRB : Hid (∀ k, k < 10 → w5.cell? ⟨g, b * 10 + k, none⟩ = [Value.int .i64 nb.kind, .int .i64 nb.at_, .int .i64 nb.wh, .int .i64 nb.close, .int .i64 nb.decl, .int .i64 nb.typ, .int .i64 nb.op, .int .i64 nb.val, .string sb, .slice kb kbl kbc][k]?) := rb
  clear hna hnb hka hkb hkal hkbl hsa hsb ra rb hgr hB
  subst hw5 hub
  go_wp2_with fail
  generalize hub : w4.heap.size = ub at *
  generalize hw5 : w4.alloc (.cells #[.slice (some ⟨g, 0, none⟩) nn vc, .slice fa fn fcc] 25) = w5 at *
  have hs5e : w5.heap.size = ub + 1 := by rw [← hw5, ← hub]; simp
  obtain ⟨w6, hw6⟩ : ∃ w6, w6 = w5.alloc (.cells #[.int .i64 na.kind, .int .i64 na.at_, .int .i64 na.wh, .int .i64 na.close, .int .i64 na.decl, .int .i64 na.typ, .int .i64 na.op, .int .i64 na.val, .string sa, .slice ka kal kac] 39) := ⟨_, rfl⟩
  have hob6 : w6.heap[ub + 1]? = some (.cells #[.int .i64 na.kind, .int .i64 na.at_, .int .i64 na.wh, .int .i64 na.close, .int .i64 na.decl, .int .i64 na.typ, .int .i64 na.op, .int .i64 na.val, .string sa, .slice ka kal kac] 39 (0, 0)) := by rw [hw6, ← hs5e]; exact heap_alloc_last _ _
  have hb6 : Below w5.heap.size w5 w6 := by rw [hw6]; exact (Below.refl _ _).alloc (Nat.le_refl _) _
  rw [← hw6]
  have HC6 := HC5.keep hb6
  have HF6 := HF5.keep hb6
  have hbox6 : w6.heap[ub]? = some (.cells #[.slice (some ⟨g, 0, none⟩) nn vc, .slice fa fn fcc] 25 (0, 0)) := (hb6.block ub hs5).trans hbox
  have hbw6 : Below w.heap.size w w6 := hbw5.trans (hb6.mono hbw5.size)
  have hgo : ¬ g = ub + 1 := by omega
  have hog : ¬ ub + 1 = g := by omega
  have x0 : w6.cell? ⟨ub, 0, none⟩ = some (.slice (some ⟨g, 0, none⟩) nn vc) := cell_arr hbox6 rfl
  have c0 : w6.cell? ⟨g, a * 10, none⟩ = some (.int .i64 na.kind) := cell_below hb6 hg5 a0
  have b0 : w6.cell? ⟨g, b * 10, none⟩ = some (.int .i64 nb.kind) := cell_below hb6 hg5 (HRB.out 0 (by omega))
  have f0 : w6.frozen? ⟨g, a * 10, none⟩ = false := row_fz HC6.own _
  have c1 : w6.cell? ⟨g, a * 10 + 1, none⟩ = some (.int .i64 na.at_) := cell_below hb6 hg5 a1
  have b1 : w6.cell? ⟨g, b * 10 + 1, none⟩ = some (.int .i64 nb.at_) := cell_below hb6 hg5 (HRB.out 1 (by omega))
  have f1 : w6.frozen? ⟨g, a * 10 + 1, none⟩ = false := row_fz HC6.own _
  have c2 : w6.cell? ⟨g, a * 10 + 2, none⟩ = some (.int .i64 na.wh) := cell_below hb6 hg5 a2
  have b2 : w6.cell? ⟨g, b * 10 + 2, none⟩ = some (.int .i64 nb.wh) := cell_below hb6 hg5 (HRB.out 2 (by omega))
  have f2 : w6.frozen? ⟨g, a * 10 + 2, none⟩ = false := row_fz HC6.own _
  have c3 : w6.cell? ⟨g, a * 10 + 3, none⟩ = some (.int .i64 na.close) := cell_below hb6 hg5 a3
  have b3 : w6.cell? ⟨g, b * 10 + 3, none⟩ = some (.int .i64 nb.close) := cell_below hb6 hg5 (HRB.out 3 (by omega))
  have f3 : w6.frozen? ⟨g, a * 10 + 3, none⟩ = false := row_fz HC6.own _
  have c4 : w6.cell? ⟨g, a * 10 + 4, none⟩ = some (.int .i64 na.decl) := cell_below hb6 hg5 a4
  have b4 : w6.cell? ⟨g, b * 10 + 4, none⟩ = some (.int .i64 nb.decl) := cell_below hb6 hg5 (HRB.out 4 (by omega))
  have f4 : w6.frozen? ⟨g, a * 10 + 4, none⟩ = false := row_fz HC6.own _
  have c5 : w6.cell? ⟨g, a * 10 + 5, none⟩ = some (.int .i64 na.typ) := cell_below hb6 hg5 a5
  have b5 : w6.cell? ⟨g, b * 10 + 5, none⟩ = some (.int .i64 nb.typ) := cell_below hb6 hg5 (HRB.out 5 (by omega))
  have f5 : w6.frozen? ⟨g, a * 10 + 5, none⟩ = false := row_fz HC6.own _
  have c6 : w6.cell? ⟨g, a * 10 + 6, none⟩ = some (.int .i64 na.op) := cell_below hb6 hg5 a6
  have b6 : w6.cell? ⟨g, b * 10 + 6, none⟩ = some (.int .i64 nb.op) := cell_below hb6 hg5 (HRB.out 6 (by omega))
  have f6 : w6.frozen? ⟨g, a * 10 + 6, none⟩ = false := row_fz HC6.own _
  have c7 : w6.cell? ⟨g, a * 10 + 7, none⟩ = some (.int .i64 na.val) := cell_below hb6 hg5 a7
  have b7 : w6.cell? ⟨g, b * 10 + 7, none⟩ = some (.int .i64 nb.val) := cell_below hb6 hg5 (HRB.out 7 (by omega))
  have f7 : w6.frozen? ⟨g, a * 10 + 7, none⟩ = false := row_fz HC6.own _
  have c8 : w6.cell? ⟨g, a * 10 + 8, none⟩ = some (.string sa) := cell_below hb6 hg5 a8
  have b8 : w6.cell? ⟨g, b * 10 + 8, none⟩ = some (.string sb) := cell_below hb6 hg5 (HRB.out 8 (by omega))
  have f8 : w6.frozen? ⟨g, a * 10 + 8, none⟩ = false := row_fz HC6.own _
  have c9 : w6.cell? ⟨g, a * 10 + 9, none⟩ = some (.slice ka kal kac) := cell_below hb6 hg5 a9
  have b9 : w6.cell? ⟨g, b * 10 + 9, none⟩ = some (.slice kb kbl kbc) := cell_below hb6 hg5 (HRB.out 9 (by omega))
  have f9 : w6.frozen? ⟨g, a * 10 + 9, none⟩ = false := row_fz HC6.own _
  have HS5E : Hid (w5.heap.size = ub + 1) := hs5e
  have hs6 : ub + 1 < w6.heap.size := (Array.getElem?_eq_some_iff.1 hob6).1
  clear hw6 hw5 hub hs5e a0 a1 a2 a3 a4 a5 a6 a7 a8 a9 u0 u1
  go_region
  obtain ⟨w7, hw7⟩ : ∃ w7, w7 = (put10 w6 g a nb.kind nb.at_ nb.wh nb.close nb.decl nb.typ nb.op nb.val sb (.slice kb kbl kbc)).drew := ⟨_, rfl⟩
  have R7 : w7.ownsRow B 39 10 (.slice (some ⟨g, 0, none⟩) nn vc) nn (ncs (P.set a (nb, .slice kb kbl kbc))) := by
    rw [hw7]
    exact own_drew (own_put10 HC6.own a haP nb sb HPB.out.2 (.slice kb kbl kbc))
  have oth7 : ∀ q, q ≠ g → w7.heap[q]? = w6.heap[q]? := fun q hq => by rw [hw7, drew_heap]; exact put10_other hq
  have hbw7 : Below w.heap.size w w7 := by rw [hw7]; exact (put10_below hbw6 (by omega)).drew
  have hz7 : w7.heap.size = w6.heap.size := by rw [hw7, drew_heap]; exact put10_size
  have hbox7 : w7.heap[ub]? = some (.cells #[.slice (some ⟨g, 0, none⟩) nn vc, .slice fa fn fcc] 25 (0, 0)) := (oth7 ub hugb).trans hbox6
  have hob7 : w7.heap[ub + 1]? = some (.cells #[.int .i64 na.kind, .int .i64 na.at_, .int .i64 na.wh, .int .i64 na.close, .int .i64 na.decl, .int .i64 na.typ, .int .i64 na.op, .int .i64 na.val, .string sa, .slice ka kal kac] 39 (0, 0)) := (oth7 (ub + 1) hog).trans hob6
  have y0 : w7.cell? ⟨ub, 0, none⟩ = some (.slice (some ⟨g, 0, none⟩) nn vc) := cell_arr hbox7 rfl
  have y1 : w7.cell? ⟨ub, 1, none⟩ = some (.slice fa fn fcc) := cell_arr hbox7 rfl
  have o0 : w7.cell? ⟨ub + 1, 0, none⟩ = some (.int .i64 na.kind) := cell_arr hob7 rfl
  have o1 : w7.cell? ⟨ub + 1, 1, none⟩ = some (.int .i64 na.at_) := cell_arr hob7 rfl
  have o2 : w7.cell? ⟨ub + 1, 2, none⟩ = some (.int .i64 na.wh) := cell_arr hob7 rfl
  have o3 : w7.cell? ⟨ub + 1, 3, none⟩ = some (.int .i64 na.close) := cell_arr hob7 rfl
  have o4 : w7.cell? ⟨ub + 1, 4, none⟩ = some (.int .i64 na.decl) := cell_arr hob7 rfl
  have o5 : w7.cell? ⟨ub + 1, 5, none⟩ = some (.int .i64 na.typ) := cell_arr hob7 rfl
  have o6 : w7.cell? ⟨ub + 1, 6, none⟩ = some (.int .i64 na.op) := cell_arr hob7 rfl
  have o7 : w7.cell? ⟨ub + 1, 7, none⟩ = some (.int .i64 na.val) := cell_arr hob7 rfl
  have o8 : w7.cell? ⟨ub + 1, 8, none⟩ = some (.string sa) := cell_arr hob7 rfl
  have o9 : w7.cell? ⟨ub + 1, 9, none⟩ = some (.slice ka kal kac) := cell_arr hob7 rfl
  unfold put10 at hw7
  rw [← hw7]
  have HZ7 : Hid (w7.heap.size = w6.heap.size) := hz7
  clear hw7 hz7 b0 b1 b2 b3 b4 b5 b6 b7 b8 b9 c0 c1 c2 c3 c4 c5 c6 c7 c8 c9 f0 f1 f2 f3 f4 f5 f6 f7 f8 f9 x0
  have HL7 : Hid (nn = (P.set a (nb, .slice kb kbl kbc)).length) := by show _ = _; rw [List.length_set]; exact HC6.len
  have HB7 : Hid (b < (P.set a (nb, .slice kb kbl kbc)).length) := by show _ < _; rw [List.length_set]; exact hbP
  go_wp2_with (refine wpList_store_node rfl _ _ rfl B g vc nn _ R7 HL7.out b HB7.out na sa HPA.out.2 ka kal kac ?_ ?_ ?_; (next => rfl); (next => rfl); intro w8 R8 hG8 hz8; have hbox8 : w8.heap[ub]? = some (.cells #[.slice (some ⟨g, 0, none⟩) nn vc, .slice fa fn fcc] 25 (0, 0)) := (grown_at hG8 (Array.getElem?_eq_some_iff.1 hbox7).1 (fun e => hgub (Option.some.inj e))).trans hbox7; have z0 : w8.cell? ⟨ub, 0, none⟩ = some (.slice (some ⟨g, 0, none⟩) nn vc) := cell_arr hbox8 rfl; have z1 : w8.cell? ⟨ub, 1, none⟩ = some (.slice fa fn fcc) := cell_arr hbox8 rfl; clear hz8)
  have hold8 : ∀ q, q < w6.heap.size → q ≠ g → w8.heap[q]? = w6.heap[q]? := fun q hq hne => (grown_at hG8 (by rw [HZ7.out]; exact hq) (fun e => hne (Option.some.inj e).symm)).trans (oth7 q hne)
  obtain ⟨P8, hP8⟩ : ∃ P8, P8 = (P.set a P[b]).set b P[a] := ⟨_, rfl⟩
  have HC8 : CN w8 B (.slice (some ⟨g, 0, none⟩) nn vc) nn P8 := by
    rw [hP8]
    exact HC6.swap a b haP hbP (by rw [HPA.out.1, HPB.out.1]; exact R8) fun q hq hne => hold8 q hq fun e => hne (by rw [e]; rfl)
  have hap8 : ∀ p ∈ P8, ∀ g, p.2.ownBlock = some g → (Value.slice fa fn fcc).ownBlock ≠ some g := fun p hp => hap p (swap_mem (by rw [← hP8]; exact hp))
  have hfg : (Value.slice fa fn fcc).ownBlock ≠ some g := own_apart HC6.own HF6.out (by decide) g rfl
  have HF8 : OwnI w8 B (.slice fa fn fcc) fn T.funcs := ⟨HF6.len, own_move HF6.out fun q hq => hold8 q (own_block HF6.out hq).2 fun e => hfg (by rw [← e]; exact hq)⟩
  have hbw8 : Below w.heap.size w w8 := hbw7.grown hG8 hbw7.size (fun k hk => by have := Option.some.inj hk; omega)
  refine (turn_any w8 B fa fn fcc T.funcs a b HF8 (by omega)).mono ?_
  rintro e w9 ⟨rfl, HT9⟩
  have HC9 := HC8.trn HT9 hap8 (fun q hq => own_apart HC8.own HF8.out (by decide) q hq)
  have hOL : OL w w9 B g vc nn ub (.slice fa fn fcc) fn a b P8 (T.funcs.map (sw a b)) 0 := ⟨by simpa [tkP] using HC9, HT9.own, (HT9.oth ub (own_not HF8.out hbox8 (by decide))).trans hbox8, hbw8.trans (HT9.bel.mono (by omega))⟩
  have HP8 : Hid (P8 = (P.set a P[b]).set b P[a]) := hP8
  have h8l : P8.length = nn := HC8.len.symm
  have HAP : Hid (∀ p ∈ P8, ∀ g, p.2.ownBlock = some g → (Value.slice fa fn fcc).ownBlock ≠ some g) := hap8
  have HK8 : Hid (∀ p ∈ P8, p.1.kids.length ≤ 120000) := fun p hp => HKI.out p.1 (by rw [← HP.out]; exact List.mem_map.2 ⟨p, swap_mem (by rw [← hP8]; exact hp), rfl⟩)
  clear hP8 hap8 HC9 HC8 HF8 hbw8 hbox8 HT9 z0 z1 hbox7 hob7 y0 y1 o0 o1 o2 o3 o4 o5 o6 o7 o8 o9 R7 R8 hG8 hold8 oth7 hbw7 HC6 HF6 hbox6 hob6 hbw6 HC5 HF5 hbox hbw5 HCN HFV
  go_wp2_with fail
  go_loopw [11] (fun c wr => ∃ k : Nat, k ≤ nn ∧ c = .int .i64 k ∧ OL w wr B g vc nn ub (.slice fa fn fcc) fn a b P8 (T.funcs.map (sw a b)) k) (fun c _ => nn - (intOf c).toNat)
  case atStart => exact ⟨0, by omega, rfl, hOL⟩
  case round =>
    obtain ⟨k, hk, rfl, HO⟩ := hrel
    clear hOL
    have t0 : wr.cell? ⟨ub, 0, none⟩ = some (.slice (some ⟨g, 0, none⟩) nn vc) := cell_arr HO.box rfl
    have t1 : wr.cell? ⟨ub, 1, none⟩ = some (.slice fa fn fcc) := cell_arr HO.box rfl
    by_cases hlt : k < nn
    · have hk8 : k < P8.length := by omega
      have hlk : k < (tkP a b P8 k).length := by rw [tkP_len _ _ _ _ (by omega)]; exact hk8
      have k9 := HO.cn.kidAt k hlk
      have hkO := HO.cn.kid (tkP a b P8 k)[k] (List.getElem_mem hlk)
      rw [tkP_at _ _ _ _ hk8 hlk] at k9 hkO
      obtain ⟨q, qc, hq⟩ := own_slice hkO.out
      obtain ⟨ql, hql⟩ : ∃ ql, ql = (P8[k]).1.kids.length := ⟨_, rfl⟩
      have hqm : ql ≤ 120000 := by rw [hql]; exact HK8.out _ (List.getElem_mem hk8)
      rw [hq] at k9 hkO
      rw [← hql] at k9 hkO
      have HQ : Hid ((P8[k]).2 = .slice q ql qc ∧ ql = (P8[k]).1.kids.length) := ⟨by rw [hql]; exact hq, hql⟩
      clear hq hql
      go_wp2_with (first | (go_at_call 16; refine (turn_any wr B q ql qc (P8[k]).1.kids a b hkO (by omega)).mono ?_; rintro e w2 ⟨rfl, HT⟩))
      go_roundw
      case rel => exact ⟨k + 1, by omega, by go_num, HO.next hk8 HAP.out (by omega) (by rw [HQ.out.1, ← HQ.out.2]; exact HT)⟩
      case measure => simp [intOf]; omega
    · obtain rfl : k = nn := by omega
      have HM := HO.cn.cm
      rw [tkP_end _ _ _ _ (by omega)] at HM
      have HCF : Hid (chk ⟨(P8.map (tn a b)).map Prod.fst, T.funcs.map (sw a b)⟩ = false) := by
        have hl : T.nodes.length = k := HH.out.1.symm
        refine chk_order HC.out a b (by omega) (by omega) hab _ _ ?_ rfl
        have e8 := swap_kids HP.out a b haP hbP (by simp; omega) (by simp; omega)
        rw [← HP8.out] at e8
        exact e8
      go_wp2_with fail
      refine (check_no _ (HA.out.below HO.bel).tab HM HO.fu hnB HCF.out).mono ?_
      rintro e w10 ⟨rfl, hb10⟩
      have hs10 := hb10.size
      have hul : ub < wr.heap.size := (Array.getElem?_eq_some_iff.1 HO.box).1
      have q0 : w10.cell? ⟨ub, 0, none⟩ = some (.slice (some ⟨g, 0, none⟩) k vc) := cell_below hb10 hul t0
      have q1 : w10.cell? ⟨ub, 1, none⟩ = some (.slice fa fn fcc) := cell_below hb10 hul t1
      have hbw10 : Below w.heap.size w w10 := HO.bel.trans (hb10.mono HO.bel.size)
      clear t0 t1
      go_wp2_with fail
      refine (print_no' _ (HA.out.below hbw10).tab (HM.keep hb10) (HO.fu.keep hb10) hnB HCF.out).mono ?_
      rintro e w11 ⟨rfl, hb11⟩
      go_wp2_with (first | (go_at_call 12; refine (num3_any _ _).mono ?_; rintro e w' ⟨rfl, rfl⟩))
      go_ret
      exact ⟨rfl, hbw10.trans (hb11.mono hbw10.size)⟩
end Go.Proofs.YtdgfkhdjlhgoaaaDoor
