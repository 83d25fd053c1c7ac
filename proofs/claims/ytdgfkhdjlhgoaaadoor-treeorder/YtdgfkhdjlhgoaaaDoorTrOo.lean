import Derived.Test.YtdgfkhdjlhgoaaaDoorTrNn
import Derived.Test.YtdgfkhdjlhgoaaaDoorTrIi
import Derived.Test.YtdgfkhdjlhgoaaaDoorLyD
import Derived.Deep.RegionHeldLaw
set_option linter.unusedVariables false
set_option linter.unusedSimpArgs false
namespace Go.Proofs.YtdgfkhdjlhgoaaaDoor
open Go.ChangeShapes Go.WideShapes Go.ChangeAt Go.RowKit

theorem CN.kidAt {w : World} {B g c n P} (h : CN w B (.slice (some ⟨g, 0, none⟩) n c) n P) (m : Nat) (hm : m < P.length) : w.cell? ⟨g, m * 10 + 9, none⟩ = some (P[m]).2 := by
  have hl := h.len
  rcases h.own.2 with ⟨e, _⟩ | ⟨g', cap, cur, e, e2, e3, e4, e5, e6, e7⟩
  · cases e
  · cases e
    have h1 := ncs_at P m hm 9 (by omega)
    rw [← e7, List.getElem?_take, if_pos (by omega)] at h1
    have : cur[m * 10 + 9]? = some (P[m]).2 := by
      rw [show (nc (P[m]).1 (P[m]).2)[9]? = some (P[m]).2 from rfl] at h1
      rw [← h1]
      simp
    simp [World.cell?, e3, this]
theorem OwnI.set_other {w : World} {B fv fn F} (h : OwnI w B fv fn F) {g : Nat} (hne : fv.ownBlock ≠ some g) (j : Nat) (u : Value) : OwnI (w.setCell ⟨g, j, none⟩ u) B fv fn F :=
  ⟨h.len, own_move h.out fun b hb => heap_set_other fun e => hne (by rw [← e]; exact hb)⟩
/-- A row lies not in a block of another type. -/
theorem own_not {w : World} {B e s v n M} (h : w.ownsRow B e s v n M) {ub : Nat} {c : Array Value} {t : TypeId} {f : Nat × Nat} (hb : w.heap[ub]? = some (.cells c t f)) (hne : e ≠ t) : v.ownBlock ≠ some ub := by
  intro hg
  rcases h.2 with ⟨rfl, _⟩ | ⟨g1, _, _, rfl, _, e3, _⟩
  · simp [Value.ownBlock] at hg
  · simp [Value.ownBlock] at hg
    subst hg
    rw [e3] at hb
    simp at hb
    exact hne hb.2.1

theorem CM.setBox {w : World} {B v n P} (h : CM w B v n P) {ub : Nat} {c : Array Value} {f : Nat × Nat} (hb : w.heap[ub]? = some (.cells c 25 f)) (j : Nat) (u : Value) : CM (w.setCell ⟨ub, j, none⟩ u) B v n P :=
  ⟨h.len, own_move h.own fun g hg => heap_set_other fun e => own_not h.own hb (by decide) (by rw [← e]; exact hg), fun p hp => ⟨(h.kid p hp).len, own_move (h.kid p hp).out fun g hg => heap_set_other fun e => own_not (h.kid p hp).out hb (by decide) (by rw [← e]; exact hg)⟩⟩
/-- A node more. -/
theorem CN.add0 {w w6 : World} {B g c n P v6} {C : Array Value} {t : TypeId} (h : CN w B (.slice (some ⟨g, 0, none⟩) n c) n P) (nd : Nd) (hk : nd.kids = []) (h6 : w6.ownsRow B 39 10 v6 (n + 1) (ncs (P ++ [(nd, .slice none 0 0)]))) (hG : (w.alloc (.cells C t)).grownBy w6 (some g)) : CM w6 B v6 (n + 1) (P ++ [(nd, .slice none 0 0)]) := by
  refine ⟨by simp; exact h.len, h6, fun p hp => ?_⟩
  rcases List.mem_append.1 hp with hp | hp
  · refine ⟨(h.kid p hp).len, own_move (h.kid p hp).out fun b hb => ?_⟩
    have hlt := (own_block (h.kid p hp).out hb).2
    rw [grown_at hG (by simp; omega) (fun e => own_apart (h.kid p hp).out h.own (by decide) b hb (by rw [← e]; rfl)), heap_alloc_old _ _ hlt]
  · simp at hp
    subst hp
    show OwnI w6 B (.slice none 0 0) nd.kids.length nd.kids
    rw [hk]
    exact OwnI.nil _ _
theorem check_no (w : World) (hTab : Tab w) {B B' n fn : Nat} {va fa : Option Addr} {vc fcc : Nat} {P : List (Nd × Value)} {F : List Int} (hM : CM w B (.slice va n vc) n P) (hF : OwnI w B' (.slice fa fn fcc) fn F) (hn : n ≤ 1000000000) (hc : chk ⟨P.map Prod.fst, F⟩ = false) :
    Calls Tryd.prog 15 #[.agg #[.slice va n vc, .slice fa fn fcc]] w fun e w' => e = .returned (.int .i64 30) ∧ Below w.heap.size w w' := by
  obtain ⟨a, c, e, hN⟩ := hM.nodes
  cases e
  obtain ⟨a2, c2, e2, _, _, hI, _⟩ := hF.view
  cases e2
  refine (check_any w hTab va vc n fa fcc fn ⟨P.map Prod.fst, F⟩ (by simp; exact hM.len) hF.len hN hI hn).mono ?_
  rintro e w' ⟨rfl, hb⟩
  rw [hc]
  exact ⟨rfl, hb⟩
theorem OwnI.grown0 {w w6 : World} {B fv fn F g} {ob : Obj} (h : OwnI w B fv fn F) (hG : (w.alloc ob).grownBy w6 (some g)) (hne : fv.ownBlock ≠ some g) : OwnI w6 B fv fn F :=
  ⟨h.len, own_move h.out fun b hb => by rw [grown_at hG (by simp; have := (own_block h.out hb).2; omega) (fun e => hne (by rw [e]; exact hb)), heap_alloc_old _ _ (own_block h.out hb).2]⟩
theorem CM.drew {w : World} {B v n P} (h : CM w B v n P) : CM w.drew B v n P := ⟨h.len, own_move h.own fun _ _ => rfl, fun p hp => ⟨(h.kid p hp).len, own_move (h.kid p hp).out fun _ _ => rfl⟩⟩
theorem OwnI.drew {w : World} {B v n L} (h : OwnI w B v n L) : OwnI w.drew B v n L := ⟨h.len, own_move h.out fun _ _ => rfl⟩
/-- append(l, x) of numbers, in a statement that draws its order. -/
theorem step_append_intW {w : World} {ops : Array Oper} {op : Oper} {a : Act} {K : Act → World → Prop} {Q : Exit → Act → World → Prop} {E : Prop} (hgd : op.guard = none) (s x : Operand)
    (ho : op.op = .call { callee := .builtin .append, args := #[s, x], argTypes := #[23, 23] })
    (B : Nat) (v : Value) (n : Nat) (L : List Int) (y : Int) (hs : a.eval s = v) (hown : OwnI w B v n L) (g : Nat) (hx : a.eval x = .slice (some ⟨g, 0, none⟩) 1 1) (hc : w.cell? ⟨g, 0, none⟩ = some (.int .i64 y))
    (hl : n + 1 ≤ 17592186044416) (hB : B ≤ w.heap.size)
    (h : ∀ v' w', OwnI w' B v' (n + 1) (L ++ [y]) → w.grownBy w' v.ownBlock → (∀ kg, v.ownBlock = some kg → ∀ (q : Nat) (z : Int), L[q]? = some z → w'.cell? ⟨kg, q, none⟩ = some (.int .i64 z)) → K (a.put op.dst v') w') : if Region.wanted op (yielded ops a.tmps) = true then Oper.wp Tryd.prog op a w K Q else E := by
  have hw : Region.wanted op (yielded ops a.tmps) = true := by simp [Region.wanted, hgd]
  rw [if_pos hw]
  obtain ⟨i0, hi, hz0, hz1, hz2⟩ := info_parts info3i
  obtain ⟨v', w', hr, h2, h3, h4⟩ := run_append_where (P := Tryd.prog) (w := w) B 23 op.type 3 i0 (.int .i64 0) 1 8 Tryd.underlying23 hi hz0 hz1 hz2 rfl (by decide) v n (ivs L) hown.out ⟨g, 0, none⟩ 1 1 (by omega) [.int .i64 y] rfl (fun j u hj => by
    match j, hj with
    | 0, hj => simp at hj; subst hj; simpa [Addr.add] using hc
    | j + 1, hj => simp at hj) (fun u hu => by simp at hu; subst hu; rfl) (by unfold maxLen; omega) (by omega) hB
  unfold Oper.wp execOp
  simp only [ho, resolve, invoke, builtin, Sem.run_bind, Sem.run_pure, Result.andThen_ok, List.map_toArray, List.map_cons, List.map_nil, hs, hx, hr]
  refine h v' w' ⟨by simp; exact hown.len, by simpa [ivs] using h2⟩ h3 fun kg hkg q z hq => ?_
  have ea : ∀ b j, (⟨b, 0, none⟩ : Addr).add j = ⟨b, j, none⟩ := fun b j => by unfold Addr.add; split <;> simp_all
  have hq2 : (ivs L)[q]? = some (.int .i64 z) := by simp [ivs, hq]
  rcases h4 with ⟨g', cap, e1, e2⟩ | ⟨e1, e2⟩
  · subst e1 e2
    simp [Value.ownBlock] at hkg
    subst hkg
    have := h2.cells (g := g') rfl q (.int .i64 z) (by rw [List.getElem?_append_left (by rw [List.getElem?_eq_some_iff] at hq2; exact hq2.1)]; exact hq2)
    rwa [ea] at this
  · have := hown.out.cells hkg q _ hq2
    rw [ea] at this
    rw [World.cell?_of_block (w := w) (e2.block kg (own_block hown.out hkg).2 (by simp))]
    exact this
theorem cell_setO {w : World} {g j b q : Nat} {u v : Value} (hne : ¬ b = g) (h : w.cell? ⟨b, q, none⟩ = some v) : (w.setCell ⟨g, j, none⟩ u).cell? ⟨b, q, none⟩ = some v := by
  rw [World.cell?_of_block (w := w) (heap_set_other hne)]
  exact h
theorem cell_setI {w : World} {g j : Nat} {u : Value} (h : w.cell? ⟨g, j, none⟩ = some u) (v : Value) : (w.setCell ⟨g, j, none⟩ v).cell? ⟨g, j, none⟩ = some v := by
  exact World.cell?_setCell_same w _ _ h
theorem wrap_sum (z p : Nat) (hz : z ≤ 120000) (hp : p < 9) : IntKind.i64.wrap (IntKind.i64.wrap ((z : Int) + 1) + (p : Int)) = (z : Int) + 1 + (p : Int) := by
  rw [IntWalk.i64_in ((z : Int) + 1) (by omega), IntWalk.i64_in _ (by omega)]
theorem CM.keep {w w' : World} {B v n P} (h : CM w B v n P) (hb : Below w.heap.size w w') : CM w' B v n P := ⟨h.len, own_keep h.own hb.block, fun p hp => (h.kid p hp).keep hb⟩
theorem set_ne {L : List Int} {q : Nat} (hq : q < L.length) {y : Int} (h : ¬ y = L[q]) : L.set q y ≠ L := by
  intro e
  have h1 : (L.set q y)[q]'(by simpa using hq) = L[q] := List.getElem_of_eq e _
  simp at h1
  exact h h1
theorem slot_nat (j : Int) (k : Nat) (h : ¬ k = 0) : ∃ q : Nat, j % (k : Int) = (q : Int) ∧ q < k := by
  have h1 := Int.emod_nonneg j (show (k : Int) ≠ 0 by omega)
  have h2 := Int.emod_lt_of_pos j (show (0 : Int) < k by omega)
  exact ⟨(j % (k : Int)).toNat, by omega, by omega⟩
theorem map_set_fst {P : List (Nd × Value)} {N : List Nd} (h : P.map Prod.fst = N) (i : Nat) (nd : Nd) (kv : Value) : (P.set i (nd, kv)).map Prod.fst = N.set i nd := by
  rw [List.map_set, h]

set_option maxRecDepth 10000 in
set_option maxHeartbeats 4000000 in
theorem treeKids_any (w : World) (hA : AllTab w) (no : Option Addr) (nc nn : Nat) (fo : Option Addr) (fc fn : Nat) (T : Tr) (i j how : Int) (hnn : nn = T.nodes.length) (hfn : fn = T.funcs.length) (hN : Nodes w no nc T.nodes) (hF : Ints w fo fc T.funcs) (hKN : KNil w no T.nodes) (hfz : fo = none → fc = 0) (hR : Rch T.nodes) (hn1 : nn ≤ 140737488351232) (hf1 : fn ≤ 140737488351232) :
    Calls Tryd.prog 6 #[.agg #[.slice no nn nc, .slice fo fn fc], .int .i64 i, .int .i64 j, .int .i64 how] w fun e w' => e = .returned (.bool true) ∧ Below w.heap.size w w' := by
  have HH : Hid (nn = T.nodes.length ∧ fn = T.funcs.length) := ⟨hnn, hfn⟩
  have HA : Hid (AllTab w) := hA
  clear hnn hfn hA
  go_enter Tryd.func6, Tryd.ntmps6
  go_wp2_with fail
  have hb0 : Below w.heap.size w (w.alloc (.cells #[.slice no nn nc, .slice fo fn fc] 25)) := (Below.refl _ _).alloc (Nat.le_refl _) _
  refine (fits3_any _ no nc nn fo fc fn T.nodes HH.out.1 (hN.below hb0 (Nat.le_refl _)) hR hn1 hf1).mono ?_
  rintro e w1 ⟨⟨R, rfl, hRR⟩, hb1⟩
  have HRR : Hid (R = true → nn + fn ≤ 120000 ∧ ∀ n ∈ T.nodes, n.kids.length ≤ 120000) := hRR
  clear hRR
  have hs1 := hb1.size
  simp at hs1
  have f0 : w1.cell? ⟨w.heap.size, 0, none⟩ = some (.slice no nn nc) := cell_below hb1 (by simp) (by simp)
  have f1 : w1.cell? ⟨w.heap.size, 1, none⟩ = some (.slice fo fn fc) := cell_below hb1 (by simp) (by simp)
  have hbw1 : Below w.heap.size w w1 := hb0.trans (hb1.mono (by simp))
  clear hb0
  cases R
  · go_wp2_with fail
    go_ret
    exact ⟨rfl, hbw1⟩
  obtain ⟨hsum, hkids⟩ := HRR.out rfl
  have HKI : Hid _ := hkids
  have hnB : nn ≤ 1000000000 := by omega
  clear HRR hkids
  by_cases hn0 : nn = 0
  · subst hn0
    go_wp2_with fail
    go_ret
    exact ⟨rfl, hbw1⟩
  have hnz : ¬ (nn : Int) = 0 := by omega
  go_wp2_with fail
  refine (alive3_any w1 (HA.out.below hbw1)).mono ?_
  rintro e w2 ⟨rfl, hb2⟩
  have hs2 := hb2.size
  have g0 : w2.cell? ⟨w.heap.size, 0, none⟩ = some (.slice no nn nc) := cell_below hb2 (by omega) f0
  have g1 : w2.cell? ⟨w.heap.size, 1, none⟩ = some (.slice fo fn fc) := cell_below hb2 (by omega) f1
  have hbw2 : Below w.heap.size w w2 := hbw1.trans (hb2.mono (by omega))
  clear f0 f1
  go_wp2_with fail
  refine (check_any w2 (HA.out.below hbw2).tab no nc nn fo fc fn T HH.out.1 HH.out.2 (hN.below hbw2 (Nat.le_refl _)) (hF.below hbw2 (Nat.le_refl _)) (by omega)).mono ?_
  rintro e w3 ⟨rfl, hb3⟩
  have hs3 := hb3.size
  have i0 : w3.cell? ⟨w.heap.size, 0, none⟩ = some (.slice no nn nc) := cell_below hb3 (by omega) g0
  have i1 : w3.cell? ⟨w.heap.size, 1, none⟩ = some (.slice fo fn fc) := cell_below hb3 (by omega) g1
  have hbw3 : Below w.heap.size w w3 := hbw2.trans (hb3.mono (by omega))
  clear g0 g1
  cases hC : chk T
  · simp only [Bool.false_eq_true, if_false]
    go_wp2_with (first | (go_at_call 12; refine (num3_any _ _).mono ?_; rintro e w' ⟨rfl, rfl⟩))
    go_ret
    exact ⟨rfl, hbw3⟩
  simp only [if_true]
  have HC : Hid (chk T = true) := hC
  clear hC
  go_wp2_with (first | (go_at_call 12; refine (num3_any _ _).mono ?_; rintro e w' ⟨rfl, rfl⟩))
  refine (copied_any w3 no nc nn fo fc fn T.nodes T.funcs HH.out.1 HH.out.2 (hN.below hbw3 (Nat.le_refl _)) (hF.below hbw3 (Nat.le_refl _)) (hKN.below hN hbw3) hfz (by omega) (by omega) (fun n hn => by have := HKI.out n hn; omega)).mono ?_
  rintro e w4 ⟨⟨v, fv, P, rfl, HCN, hP, HFV, hap, hb4⟩⟩
  have hs4 := hb4.size
  have HP : Hid (P.map Prod.fst = T.nodes) := hP
  have hPl : P.length = nn := by rw [HCN.len]
  clear hP
  obtain ⟨g, vc, rfl, hvc⟩ : ∃ g vc, v = .slice (some ⟨g, 0, none⟩) nn vc ∧ nn ≤ vc ∧ vc ≤ 9223372036854775807 := by
    rcases HCN.own.2 with ⟨_, h0⟩ | ⟨g, cap, cur, rfl, _, _, h1, h2, _, _⟩
    · exact absurd h0 hn0
    · exact ⟨g, cap, rfl, h1, h2⟩
  obtain ⟨fa, fcc, rfl⟩ := own_slice HFV.out
  obtain ⟨m, hm⟩ : ∃ m : Nat, i % (nn : Int) = (m : Int) := ⟨(i % (nn : Int)).toNat, by have := Int.emod_nonneg i hnz; omega⟩
  have hmn : m < nn := by have := Int.emod_lt_of_pos i (show (0 : Int) < nn by omega); omega
  go_wp2_with fail
  obtain ⟨ub, hub⟩ : ∃ ub, ub = w4.heap.size := ⟨_, rfl⟩
  obtain ⟨w5, hw5⟩ : ∃ w5, w5 = w4.alloc (.cells #[.slice (some ⟨g, 0, none⟩) nn vc, .slice fa fn fcc] 25) := ⟨_, rfl⟩
  have hbox : w5.heap[ub]? = some (.cells #[.slice (some ⟨g, 0, none⟩) nn vc, .slice fa fn fcc] 25 (0, 0)) := by rw [hw5, hub]; exact heap_alloc_last _ _
  have hb5 : Below w4.heap.size w4 w5 := by rw [hw5]; exact (Below.refl _ _).alloc (Nat.le_refl _) _
  have HC5 := HCN.keep hb5
  have HF5 := HFV.keep hb5
  rw [← hub, ← hw5]
  have hbw5 : Below w.heap.size w w5 := hbw3.trans ((hb4.mono (by omega)).trans (hb5.mono (by omega)))
  have hs5 : w5.heap.size = ub + 1 := by rw [hw5, hub]; simp
  have hwu : w.heap.size + 1 ≤ ub := by omega
  have j0 : w5.cell? ⟨w.heap.size, 0, none⟩ = some (.slice no nn nc) := cell_below (hb4.trans (hb5.mono (by omega))) (by omega) i0
  obtain ⟨B, hB, hB2⟩ : ∃ B, B = w3.heap.size + 1 + 1 + 1 ∧ w.heap.size + 1 ≤ B := ⟨_, rfl, by omega⟩
  rw [← hB] at HC5 HF5
  have b0 : w5.cell? ⟨ub, 0, none⟩ = some (.slice (some ⟨g, 0, none⟩) nn vc) := cell_arr hbox rfl
  have b1 : w5.cell? ⟨ub, 1, none⟩ = some (.slice fa fn fcc) := cell_arr hbox rfl
  have bf0 : w5.frozen? ⟨ub, 0, none⟩ = false := fz_of hbox
  have hmP : m < P.length := by omega
  have k9 := HC5.kidAt m hmP
  have hko := HC5.kid P[m] (List.getElem_mem hmP)
  have hkl := hko.len
  have hgr := own_block HC5.own (g := g) rfl
  have hgub : ¬ g = ub := fun e => own_not HC5.own hbox (by decide) (by rw [e]; rfl)
  have hugb : ¬ ub = g := fun e => hgub e.symm
  obtain ⟨ka, kc, hkv⟩ := own_slice hko.out
  have HKV : Hid ((P[m]).2 = .slice ka (P[m]).1.kids.length kc) := hkv
  obtain ⟨kl, hkl2⟩ : ∃ kl, kl = (P[m]).1.kids.length := ⟨_, rfl⟩
  rw [hkv] at k9 hko
  rw [← hkl2] at k9 hko HKV
  have HKL : Hid (kl = (P[m]).1.kids.length) := hkl2
  have HND : Hid ((P[m]).1 = T.nodes[m]'(by have := HH.out.1; omega)) := by
    show (P[m]).1 = T.nodes[m]'(by have := HH.out.1; omega)
    have h1 : (P.map Prod.fst)[m]'(by simpa using hmP) = T.nodes[m]'(by have := HH.out.1; omega) := List.getElem_of_eq HP.out _
    rw [← h1]
    simp
  have hkl3 : kl ≤ 120000 := by rw [hkl2, HND.out]; exact HKI.out _ (List.getElem_mem _)
  obtain ⟨ka', kc', hve, hkc1, hkc2, hKI, hkalt⟩ := hko.view
  cases hve
  have hg5 : g < w5.heap.size := hgr.2
  have hBg : B ≤ g := hgr.1
  have hB5 : B ≤ w5.heap.size := by omega
  have HS5 : Hid (w5.heap.size = ub + 1) := hs5
  have hul : ub < w5.heap.size := by omega
  clear hw5 hkv hkl hkl2 hgr hub hB i0 i1 hs5
  by_cases hq0 : bits BinOp.and IntKind.i64 how 3 = 0 ∨ kl = 0
  · rcases hq0 with hq0 | hk0
    · go_wp2_with (first
              | (go_at_call 14; refine (slot3_any _ _ (by omega) (by omega) _).mono ?_; rintro e w' ⟨rfl, rfl⟩; try rw [hm])
              | (at_builtin; refine wpList_append_node rfl _ _ rfl B _ nn w5.heap.size P ⟨20, 0, 0, 0, 0, 0, 0, 0, [], []⟩ none 0 0 ?_ HC5.own ?_ rfl rfl (by omega) (by omega) ?_; (next => rfl); (next => rfl); intro v6 w6 h6 hG6
                 obtain ⟨va6, vc6, rfl⟩ := own_slice h6
                 have hbox6 : w6.heap[ub]? = some (.cells #[.slice (some ⟨g, 0, none⟩) nn vc, .slice fa fn fcc] 25 (0, 0)) := (by rw [grown_at hG6 (by simp; omega) (fun e => hgub (by simpa [Value.ownBlock] using e)), heap_alloc_old _ _ hul]; exact hbox)
                 have d0 : w6.cell? ⟨ub, 0, none⟩ = some (.slice (some ⟨g, 0, none⟩) nn vc) := cell_arr hbox6 rfl
                 have d1 : w6.cell? ⟨ub, 1, none⟩ = some (.slice fa fn fcc) := cell_arr hbox6 rfl
                 have df : w6.frozen? ⟨ub, 0, none⟩ = false := fz_of hbox6))
      have hbw6 : Below w.heap.size w w6 := (hbw5.alloc hbw5.size _).grown hG6 (by simp; omega) (fun k hk => by have : g = k := (by simpa [Value.ownBlock] using hk); omega)
      have hbw7 : Below w.heap.size w (w6.setCell ⟨ub, 0, none⟩ (.slice va6 (nn + 1) vc6)) := hbw6.setCell (p := ⟨ub, 0, none⟩) (by show w.heap.size ≤ ub; omega) _
      have HF6 : OwnI w6 B (.slice fa fn fcc) fn T.funcs := HF5.grown0 hG6 (own_apart HC5.own HF5.out (by decide) g rfl)
      refine (check_no _ (HA.out.below hbw7).tab ((HC5.add0 _ rfl h6 hG6).setBox hbox6 0 _) (HF6.set_other (own_not HF6.out hbox6 (by decide)) 0 _) (by omega) (by rw [List.map_append, HP.out]; exact chk_more HC.out _ rfl)).mono ?_
      rintro e w8 ⟨rfl, hb8⟩
      go_wp2_with (first | (go_at_call 12; refine (num3_any _ _).mono ?_; rintro e w' ⟨rfl, rfl⟩))
      go_ret
      exact ⟨rfl, hbw7.trans (hb8.mono hbw7.size)⟩
    · obtain rfl : kl = 0 := hk0
      by_cases hq0 : bits BinOp.and IntKind.i64 how 3 = 0
      · go_wp2_with (first
                | (go_at_call 14; refine (slot3_any _ _ (by omega) (by omega) _).mono ?_; rintro e w' ⟨rfl, rfl⟩; try rw [hm])
                | (at_builtin; refine wpList_append_node rfl _ _ rfl B _ nn w5.heap.size P ⟨20, 0, 0, 0, 0, 0, 0, 0, [], []⟩ none 0 0 ?_ HC5.own ?_ rfl rfl (by omega) (by omega) ?_; (next => rfl); (next => rfl); intro v6 w6 h6 hG6
                   obtain ⟨va6, vc6, rfl⟩ := own_slice h6
                   have hbox6 : w6.heap[ub]? = some (.cells #[.slice (some ⟨g, 0, none⟩) nn vc, .slice fa fn fcc] 25 (0, 0)) := (by rw [grown_at hG6 (by simp; omega) (fun e => hgub (by simpa [Value.ownBlock] using e)), heap_alloc_old _ _ hul]; exact hbox)
                   have d0 : w6.cell? ⟨ub, 0, none⟩ = some (.slice (some ⟨g, 0, none⟩) nn vc) := cell_arr hbox6 rfl
                   have d1 : w6.cell? ⟨ub, 1, none⟩ = some (.slice fa fn fcc) := cell_arr hbox6 rfl
                   have df : w6.frozen? ⟨ub, 0, none⟩ = false := fz_of hbox6))
        have hbw6 : Below w.heap.size w w6 := (hbw5.alloc hbw5.size _).grown hG6 (by simp; omega) (fun k hk => by have : g = k := (by simpa [Value.ownBlock] using hk); omega)
        have hbw7 : Below w.heap.size w (w6.setCell ⟨ub, 0, none⟩ (.slice va6 (nn + 1) vc6)) := hbw6.setCell (p := ⟨ub, 0, none⟩) (by show w.heap.size ≤ ub; omega) _
        have HF6 : OwnI w6 B (.slice fa fn fcc) fn T.funcs := HF5.grown0 hG6 (own_apart HC5.own HF5.out (by decide) g rfl)
        refine (check_no _ (HA.out.below hbw7).tab ((HC5.add0 _ rfl h6 hG6).setBox hbox6 0 _) (HF6.set_other (own_not HF6.out hbox6 (by decide)) 0 _) (by omega) (by rw [List.map_append, HP.out]; exact chk_more HC.out _ rfl)).mono ?_
        rintro e w8 ⟨rfl, hb8⟩
        go_wp2_with (first | (go_at_call 12; refine (num3_any _ _).mono ?_; rintro e w' ⟨rfl, rfl⟩))
        go_ret
        exact ⟨rfl, hbw7.trans (hb8.mono hbw7.size)⟩
      · go_wp2_with (first
                | (go_at_call 14; refine (slot3_any _ _ (by omega) (by omega) _).mono ?_; rintro e w' ⟨rfl, rfl⟩; try rw [hm])
                | (at_builtin; refine wpList_append_node rfl _ _ rfl B _ nn w5.heap.size P ⟨20, 0, 0, 0, 0, 0, 0, 0, [], []⟩ none 0 0 ?_ HC5.own ?_ rfl rfl (by omega) (by omega) ?_; (next => rfl); (next => rfl); intro v6 w6 h6 hG6
                   obtain ⟨va6, vc6, rfl⟩ := own_slice h6
                   have hbox6 : w6.heap[ub]? = some (.cells #[.slice (some ⟨g, 0, none⟩) nn vc, .slice fa fn fcc] 25 (0, 0)) := (by rw [grown_at hG6 (by simp; omega) (fun e => hgub (by simpa [Value.ownBlock] using e)), heap_alloc_old _ _ hul]; exact hbox)
                   have d0 : w6.cell? ⟨ub, 0, none⟩ = some (.slice (some ⟨g, 0, none⟩) nn vc) := cell_arr hbox6 rfl
                   have d1 : w6.cell? ⟨ub, 1, none⟩ = some (.slice fa fn fcc) := cell_arr hbox6 rfl
                   have df : w6.frozen? ⟨ub, 0, none⟩ = false := fz_of hbox6))
        have hbw6 : Below w.heap.size w w6 := (hbw5.alloc hbw5.size _).grown hG6 (by simp; omega) (fun k hk => by have : g = k := (by simpa [Value.ownBlock] using hk); omega)
        have hbw7 : Below w.heap.size w (w6.setCell ⟨ub, 0, none⟩ (.slice va6 (nn + 1) vc6)) := hbw6.setCell (p := ⟨ub, 0, none⟩) (by show w.heap.size ≤ ub; omega) _
        have HF6 : OwnI w6 B (.slice fa fn fcc) fn T.funcs := HF5.grown0 hG6 (own_apart HC5.own HF5.out (by decide) g rfl)
        refine (check_no _ (HA.out.below hbw7).tab ((HC5.add0 _ rfl h6 hG6).setBox hbox6 0 _) (HF6.set_other (own_not HF6.out hbox6 (by decide)) 0 _) (by omega) (by rw [List.map_append, HP.out]; exact chk_more HC.out _ rfl)).mono ?_
        rintro e w8 ⟨rfl, hb8⟩
        go_wp2_with (first | (go_at_call 12; refine (num3_any _ _).mono ?_; rintro e w' ⟨rfl, rfl⟩))
        go_ret
        exact ⟨rfl, hbw7.trans (hb8.mono hbw7.size)⟩
  obtain ⟨hq, hk0⟩ : ¬ bits BinOp.and IntKind.i64 how 3 = 0 ∧ ¬ kl = 0 := ⟨fun e => hq0 (.inl e), fun e => hq0 (.inr e)⟩
  clear hq0
  have hkI : ¬ (kl : Int) = 0 := by omega
  obtain ⟨kg, rfl, hkgB, hkgl⟩ : ∃ kg, ka = some ⟨kg, 0, none⟩ ∧ B ≤ kg ∧ kg < w5.heap.size := by
    rcases hkalt with ⟨_, _, h, _⟩ | h
    · exact absurd h hk0
    · exact h
  have hkgu : ¬ kg = ub := fun e => own_not hko.out hbox (by decide) (by rw [e]; rfl)
  have hukg : ¬ ub = kg := fun e => hkgu e.symm
  have hkgg : ¬ kg = g := fun e => own_apart hko.out HC5.own (by decide) g (by rw [e]; rfl) rfl
  have hgkg : ¬ g = kg := fun e => hkgg e.symm
  have gf : ∀ q, w5.frozen? ⟨g, q, none⟩ = false := by
    intro q
    rcases HC5.own.2 with ⟨e, _⟩ | ⟨g', cap, cur, e, e2, e3, _⟩
    · cases e
    · cases e
      exact fz_of e3
  have kf : ∀ q, w5.frozen? ⟨kg, q, none⟩ = false := by
    intro q
    rcases hko.out.2 with ⟨e, _⟩ | ⟨g', cap, cur, e, e2, e3, _⟩
    · cases e
    · cases e
      exact fz_of e3
  by_cases hq1 : bits BinOp.and IntKind.i64 how 3 = 1
  · obtain ⟨r, hr⟩ : ∃ r : Nat, r + 1 = kl := ⟨kl - 1, Nat.sub_add_cancel (Nat.pos_of_ne_zero hk0)⟩
    have hsub : (kl : Int) - 1 = (r : Int) := by omega
    have hrl : r ≤ kl := by omega
    have hrc : r ≤ kc := by omega
    have hneg : ¬ (r : Int) < 0 := by omega
    have hgf := gf (m * 10 + 9)
    go_wp2_with (first | (go_at_call 14; refine (slot3_any _ _ (by omega) (by omega) _).mono ?_; rintro e w' ⟨rfl, rfl⟩; try rw [hm]))
    go_region
    go_wp2_with fail
    have hbw7 : Below w.heap.size w (w5.setCell ⟨g, m * 10 + 9, none⟩ (.slice (some ⟨kg, 0, none⟩) r kc)).drew := (hbw5.setCell (p := ⟨g, m * 10 + 9, none⟩) (by show w.heap.size ≤ g; omega) _).drew
    refine (check_no _ (HA.out.below hbw7).tab (HC5.cut m hmP HKV.out HKL.out r hrl).drew (HF5.set_other (own_apart HC5.own HF5.out (by decide) g rfl) _ _).drew (by omega) (by rw [map_set_fst HP.out]; exact chk_less HC.out m (by have := HH.out.1; omega) _ (by rw [← HND.out, ← HKL.out]; simp [← HKL.out]; omega))).mono ?_
    rintro e w8 ⟨rfl, hb8⟩
    go_wp2_with (first | (go_at_call 12; refine (num3_any _ _).mono ?_; rintro e w' ⟨rfl, rfl⟩))
    go_ret
    exact ⟨rfl, hbw7.trans (hb8.mono hbw7.size)⟩
  by_cases hq2 : bits BinOp.and IntKind.i64 how 3 = 2
  · obtain ⟨q, hjq, hql⟩ := slot_nat j kl hk0
    have hkp : 0 < kl := Nat.pos_of_ne_zero hk0
    have hkm : kl ≤ 140737488351232 := Nat.le_trans hkl3 (by decide)
    obtain ⟨x, hx⟩ : ∃ x, x = (P[m]).1.kids[q]'(by have := HKL.out; omega) := ⟨_, rfl⟩
    have kq : w5.cell? ⟨kg, q, none⟩ = some (.int .i64 x) := by
      obtain ⟨b, o, e, hA⟩ := hKI.out (by intro e; have := HKL.out; rw [e] at this; simp at this; omega)
      cases e
      rw [hx]
      have := hA.cell q (by have := HKL.out; omega)
      rwa [Nat.zero_add] at this
    have HX : Hid ((P[m]).1.kids[q]? = some x) := by rw [hx]; exact List.getElem?_eq_getElem _
    clear hx
    have hgf := gf (m * 10 + 9)
    go_wp2_with (first | (go_at_call 14; refine (slot3_any _ _ (by omega) (by omega) _).mono ?_; rintro e w' ⟨rfl, rfl⟩; try rw [hm]))
    go_region_held_law (fun w' => w'.cell? ⟨ub, 0, none⟩ = some (.slice (some ⟨g, 0, none⟩) nn vc) ∧ w'.cell? ⟨kg, q, none⟩ = some (.int .i64 x))
     (refine ⟨?_, ?_⟩ <;> repeat (first | with_reducible exact b0 | with_reducible exact kq | with_reducible exact d0 | with_reducible exact d2 | with_reducible refine cell_setO hkgg ?_ | with_reducible refine cellD ?_ | with_reducible refine cellA ?_ | with_reducible refine cell_setO hugb ?_))
     (first
      | (go_at_call 14; refine (slot3_any _ _ hkp hkm _).mono ?_; rintro e w' ⟨rfl, rfl⟩; rw [hjq])
      | (refine step_append_intW rfl _ _ rfl B _ kl (P[m]).1.kids x (by simp [Act.eval]) (hko.keep ((Below.refl _ _).alloc (Nat.le_refl _) _).drew) w5.heap.size (by simp [Act.eval]) (by simp) (by omega) (by first | omega | (simp; done) | (simp; omega)) ?_; intro v6 w6 h6 hG6 hC6
         have d2 : w6.cell? ⟨kg, q, none⟩ = some (.int .i64 x) := hC6 kg rfl q x HX.out
         obtain ⟨ka6, kc6, rfl⟩ := own_slice h6.out
         have hbox6 : w6.heap[ub]? = some (.cells #[.slice (some ⟨g, 0, none⟩) nn vc, .slice fa fn fcc] 25 (0, 0)) := (by rw [grown_at hG6 (by simp; omega) (fun e => hkgu (by simpa [Value.ownBlock] using e)), drew_heap, heap_alloc_old _ _ hul]; exact hbox)
         have hg6 : w6.heap[g]? = w5.heap[g]? := (by rw [grown_at hG6 (by simp; omega) (fun e => hkgg (by simpa [Value.ownBlock] using e)), drew_heap, heap_alloc_old _ _ hg5])
         have d0 : w6.cell? ⟨ub, 0, none⟩ = some (.slice (some ⟨g, 0, none⟩) nn vc) := cell_arr hbox6 rfl
         have d1 : w6.cell? ⟨ub, 1, none⟩ = some (.slice fa fn fcc) := cell_arr hbox6 rfl
         have d9 : w6.cell? ⟨g, m * 10 + 9, none⟩ = some (.slice (some ⟨kg, 0, none⟩) kl kc) := (World.cell?_of_block hg6).trans k9
         have df : w6.frozen? ⟨g, m * 10 + 9, none⟩ = false := (World.frozen?_of_block hg6).trans hgf))
    go_wp2_with fail
    have hbw6 : Below w.heap.size w w6 := ((hbw5.alloc hbw5.size _).drew).grown hG6 (by have := hbw5.size; simp; omega) (fun k hk => by have : kg = k := (by simpa [Value.ownBlock] using hk); omega)
    have hbw7 : Below w.heap.size w (w6.setCell ⟨g, m * 10 + 9, none⟩ (.slice ka6 (kl + 1) kc6)) := hbw6.setCell (p := ⟨g, m * 10 + 9, none⟩) (by show w.heap.size ≤ g; omega) _
    have hfk : (Value.slice fa fn fcc).ownBlock ≠ some kg := hap P[m] (List.getElem_mem hmP) kg (by rw [HKV.out]; rfl)
    have HF6 : OwnI w6 B (.slice fa fn fcc) fn T.funcs := ⟨HF5.len, own_move HF5.out fun b hb => by rw [grown_at hG6 (by have := (own_block HF5.out hb).2; simp; omega) (fun e => hfk (by rw [hb, ← e]; rfl)), drew_heap, heap_alloc_old _ _ (own_block HF5.out hb).2]⟩
    have hfg : (Value.slice fa fn fcc).ownBlock ≠ some g := own_apart HC5.own HF5.out (by decide) g rfl
    refine (check_no _ (HA.out.below hbw7).tab (HC5.more m hmP HKV.out x (kl + 1) (by rw [HKL.out]) h6 (((Below.refl _ _).alloc (Nat.le_refl _) _).drew) hG6) (HF6.set_other hfg _ _) (by omega) (by rw [map_set_fst HP.out]; exact chk_less HC.out m (by have := HH.out.1; omega) _ (by rw [← HND.out]; simp))).mono ?_
    rintro e w8 ⟨rfl, hb8⟩
    go_wp2_with (first | (go_at_call 12; refine (num3_any _ _).mono ?_; rintro e w' ⟨rfl, rfl⟩))
    go_ret
    exact ⟨rfl, hbw7.trans (hb8.mono hbw7.size)⟩
  have hmT : m < T.nodes.length := by have := HH.out.1; omega
  obtain ⟨q, hjq, hql⟩ := slot_nat j kl hk0
  obtain ⟨p9, hp9, hp9l⟩ := slot_nat j 9 (by decide)
  have hp9' : j % 9 = (p9 : Int) := hp9
  have hkp : 0 < kl := Nat.pos_of_ne_zero hk0
  have hkm : kl ≤ 140737488351232 := Nat.le_trans hkl3 (by decide)
  have hKne : (P[m]).1.kids ≠ [] := by intro e; have := HKL.out; rw [e] at this; simp at this; exact hk0 this
  have hcell : ∀ r (hr : r < (P[m]).1.kids.length), w5.cell? ⟨kg, r, none⟩ = some (.int .i64 ((P[m]).1.kids[r])) := by
    intro r hr
    obtain ⟨b, o, e, hA⟩ := hKI.out hKne
    cases e
    have := hA.cell r hr
    rwa [Nat.zero_add] at this
  obtain ⟨z, hz, hzl⟩ : ∃ z : Nat, (P[m]).1.kids[0]'(by have := HKL.out; omega) = (z : Int) ∧ z ≤ 120000 := by
    have h1 := chk_fit HC.out m hmT ((P[m]).1.kids[0]'(by have := HKL.out; omega)) (by rw [← HND.out]; exact List.getElem_mem _)
    exact ⟨((P[m]).1.kids[0]'(by have := HKL.out; omega)).toNat, by omega, by omega⟩
  have kz : w5.cell? ⟨kg, 0, none⟩ = some (.int .i64 (z : Int)) := by rw [← hz]; exact hcell 0 _
  obtain ⟨x, hx⟩ : ∃ x, x = (P[m]).1.kids[q]'(by have := HKL.out; omega) := ⟨_, rfl⟩
  have kq : w5.cell? ⟨kg, q, none⟩ = some (.int .i64 x) := by rw [hx]; exact hcell q _
  have HX : Hid ((P[m]).1.kids[q]'(by have := HKL.out; omega) = x) := hx.symm
  obtain ⟨b, o, rfl, hbl, hAt⟩ := hN.out (by intro e; rw [e] at hmT; simp at hmT)
  obtain ⟨ka0, kc0, _, _, _, _, _, _, _, _, _, c9, hK0⟩ := (hAt m hmT).out
  rw [← HND.out, ← HKL.out] at c9
  rw [← HND.out] at hK0
  obtain ⟨kb, ko, rfl, hA0⟩ := hK0.out hKne
  have t9 : w5.cell? ⟨b, o + m * 10 + 9, none⟩ = some (.slice (some ⟨kb, ko, none⟩) kl kc0) := cell_below hbw5 hbl c9
  have tq : w5.cell? ⟨kb, ko + q, none⟩ = some (.int .i64 x) := by rw [hx]; exact cell_below hbw5 hA0.lt (hA0.cell q _)
  have hkc0 : kl ≤ kc0 := by have := hK0.le; have := HKL.out; omega
  have hbk : ¬ b = kg := by omega
  have hkbk : ¬ kb = kg := by have := hA0.lt; omega
  have hwk : ¬ w.heap.size = kg := by omega
  have hkf := kf q
  have hqb : (bits BinOp.and IntKind.i64 how 3 == 0) = false := by simpa using hq
  have hqb1 : (bits BinOp.and IntKind.i64 how 3 == 1) = false := by simpa using hq1
  have hqb2 : (bits BinOp.and IntKind.i64 how 3 == 2) = false := by simpa using hq2
  clear hx hz hcell hAt hA0 hK0 c9 hp9
  have hwr := wrap_sum z p9 hzl hp9l
  obtain ⟨y, hy⟩ : ∃ y : Int, (z : Int) + 1 + (p9 : Int) = y := ⟨_, rfl⟩
  have HY : Hid ((z : Int) + 1 + (p9 : Int) = y) := hy
  clear hy
  obtain ⟨w6, hw6⟩ : ∃ w6, w6 = (w5.setCell ⟨kg, q, none⟩ (.int .i64 y)).drew := ⟨_, rfl⟩
  obtain ⟨P6, HP6, HC6⟩ : ∃ P6, Hid (P6 = P.set m ({ (P[m]).1 with kids := (P[m]).1.kids.set q y }, .slice (some ⟨kg, 0, none⟩) kl kc)) ∧ CM w6 B (.slice (some ⟨g, 0, none⟩) nn vc) nn P6 := ⟨_, (by show _ = _; rfl), by rw [hw6]; exact (HC5.turnKid m hmP HKV.out HKL.out q y).drew⟩
  have hfk : (Value.slice fa fn fcc).ownBlock ≠ some kg := hap P[m] (List.getElem_mem hmP) kg (by rw [HKV.out]; rfl)
  have HF6 : OwnI w6 B (.slice fa fn fcc) fn T.funcs := by rw [hw6]; exact (HF5.set_other hfk _ _).drew
  have hbw6 : Below w.heap.size w w6 := by rw [hw6]; exact (hbw5.setCell (p := ⟨kg, q, none⟩) (by show w.heap.size ≤ kg; omega) _).drew
  have s0 : w6.cell? ⟨kg, q, none⟩ = some (.int .i64 y) := by rw [hw6]; exact cellD (cell_setI kq _)
  have s1 : w6.cell? ⟨ub, 0, none⟩ = some (.slice (some ⟨g, 0, none⟩) nn vc) := by rw [hw6]; exact cellD (cell_setO hukg b0)
  have s2 : w6.cell? ⟨ub, 1, none⟩ = some (.slice fa fn fcc) := by rw [hw6]; exact cellD (cell_setO hukg b1)
  have s3 : w6.cell? ⟨w.heap.size, 0, none⟩ = some (.slice (some ⟨b, o, none⟩) nn nc) := by rw [hw6]; exact cellD (cell_setO hwk j0)
  have s4 : w6.cell? ⟨b, o + m * 10 + 9, none⟩ = some (.slice (some ⟨kb, ko, none⟩) kl kc0) := by rw [hw6]; exact cellD (cell_setO hbk t9)
  have s5 : w6.cell? ⟨kb, ko + q, none⟩ = some (.int .i64 x) := by rw [hw6]; exact cellD (cell_setO hkbk tq)
  have HW6 : Hid (w6 = (w5.setCell ⟨kg, q, none⟩ (.int .i64 y)).drew) := hw6
  clear hw6
  go_wp2_with (first | (go_at_call 14; refine (slot3_any _ _ (by omega) (by omega) _).mono ?_; rintro e w' ⟨rfl, rfl⟩; try rw [hm]))
  go_region_with (first
    | (go_at_call_of 14 (Value.int IntKind.i64 9); refine (slot3_any _ 9 (by decide) (by decide) _).mono ?_; rintro e w' ⟨rfl, rfl⟩; try rw [hp9'])
    | (go_at_call 14; refine (slot3_any _ _ hkp hkm _).mono ?_; rintro e w' ⟨rfl, rfl⟩; rw [hjq]))
  all_goals rw [HY.out, ← HW6.out]
  all_goals clear HW6 hwr kz kq b0 b1 bf0 j0 k9 t9 tq hko hkf
  all_goals by_cases hyx : y = x
  all_goals (go_wp2_with (first | (go_at_call 14; refine (slot3_any _ _ hkp hkm _).mono ?_; rintro e w' ⟨rfl, rfl⟩; rw [hjq])))
  all_goals go_quiet (fail)
  all_goals (go_wp2_with fail)
  all_goals first
    | (go_ret; exact ⟨rfl, below_drewN hbw6 _⟩)
    | (refine (check_no _ (HA.out.below (below_drewN hbw6 nq)).tab (HC6.keep (below_drewN (Below.refl _ _) nq)) (HF6.keep (below_drewN (Below.refl _ _) nq)) hnB (by rw [HP6.out, map_set_fst HP.out]; exact chk_other HC.out m hmT _ (by rw [← HND.out]; simp) (by rw [← HND.out]; exact set_ne (by rw [← HKL.out]; exact hql) (by rw [HX.out]; exact hyx)))).mono ?_
       rintro e w8 ⟨rfl, hb8⟩
       go_wp2_with (first | (go_at_call 12; refine (num3_any _ _).mono ?_; rintro e w' ⟨rfl, rfl⟩))
       go_ret
       exact ⟨rfl, (below_drewN hbw6 nq).trans (hb8.mono (below_drewN hbw6 nq).size)⟩)
end Go.Proofs.YtdgfkhdjlhgoaaaDoor
