import Derived.Test.YtdeplodfpgnpgaaDoorLzG
import Derived.Test.YtdeplodfpgnpgaaDoorLuW
import Derived.Test.YtdeplodfpgnpgaaDoorTvK
set_option linter.unusedVariables false
set_option linter.unusedSimpArgs false
namespace Go.Proofs.YtdeplodfpgnpgaaDoor
open Go.ChangeShapes Go.WideShapes Go.ChangeAt Go.RowKit

/-- A node with another number or bool in it. -/
def tnd (n : Nd) : Nd := if n.kind = 20 then { n with val := bits BinOp.xor IntKind.i64 n.val 1 } else if n.kind = 21 then { n with kind := 22 } else if n.kind = 22 then { n with kind := 21 } else n
theorem tnd_kids (n : Nd) : (tnd n).kids = n.kids := by unfold tnd; split <;> (try split) <;> (try split) <;> rfl
theorem tnd_name (n : Nd) : (tnd n).name = n.name := by unfold tnd; split <;> (try split) <;> (try split) <;> rfl
theorem CN.fld0 {w : World} {B g c n P} (h : CN w B (.slice (some ⟨g, 0, none⟩) n c) n P) (m : Nat) (hm : m < P.length) (j : Nat) (hj : j < 10) (v : Int) (nd : Nd) (he : nc nd (P[m]).2 = (nc (P[m]).1 (P[m]).2).set j (.int .i64 v)) (hk : nd.kids = (P[m]).1.kids) :
    CN (w.setCell ⟨g, m * 10 + j, none⟩ (.int .i64 v)) B (.slice (some ⟨g, 0, none⟩) n c) n (P.set m (nd, (P[m]).2)) := by
  have h1 := h.fld m hm j hj v nd he hk
  exact ⟨h1.len, own_move h1.own fun _ _ => rfl, fun p hp => ⟨(h1.kid p hp).len, own_move (h1.kid p hp).out fun _ _ => rfl⟩, h1.apt⟩
/-- The first i nodes are turned. -/
structure TRN (N : List Nd) (P : List (Nd × Value)) (i : Nat) : Prop where
  len : P.length = N.length
  out : ∀ q (h : q < P.length) (h' : q < N.length), (P[q]).1 = if q < i then tnd N[q] else N[q]
theorem TRN.zero {N P} (h : P.map Prod.fst = N) : TRN N P 0 := ⟨by rw [← h]; simp, fun q h1 h2 => by subst h; simp⟩
theorem TRN.next {N P i} (h : TRN N P i) (hi : i < N.length) {nd : Nd} {v : Value} (hn : nd = tnd N[i]) : TRN N (P.set i (nd, v)) (i + 1) := ⟨by simpa using h.len, fun q h1 h2 => by
  have h3 : q < P.length := by simpa using h1
  by_cases e : q = i
  · subst e
    simp [hn]
  · rw [List.getElem_set_ne (by omega), h.out q h3 h2]
    by_cases h4 : q < i
    · rw [if_pos h4, if_pos (by omega)]
    · rw [if_neg h4, if_neg (by omega)]⟩
theorem TRN.skip {N P i} (h : TRN N P i) (hi : i < N.length) (hn : tnd N[i] = N[i]) : TRN N P (i + 1) := ⟨h.len, fun q h1 h2 => by
  rw [h.out q h1 h2]
  by_cases e : q = i
  · subst e
    simp [hn]
  · by_cases h4 : q < i
    · rw [if_pos h4, if_pos (by omega)]
    · rw [if_neg h4, if_neg (by omega)]⟩
theorem TRN.fin {N P i} (h : TRN N P i) (hi : N.length ≤ i) : P.map Prod.fst = N.map tnd := by
  refine List.ext_getElem (by simp; exact h.len) fun q h1 h2 => ?_
  have h3 : q < P.length := by simpa using h1
  have h4 : q < N.length := by simpa using h2
  rw [List.getElem_map, List.getElem_map, h.out q h3 h4, if_pos (by omega)]
structure Turnd (w w' : World) (nn fn : Nat) (N : List Nd) (F : List Int) (e : Ending) : Prop where
  out : ∃ (B : Nat) (v fv : Value) (P : List (Nd × Value)), e = .returned (.agg #[v, fv]) ∧ w.heap.size ≤ B ∧ CN w' B v nn P ∧ P.map Prod.fst = N.map tnd ∧ OwnI w' B fv fn F ∧ Below w.heap.size w w'
/-- What turned holds. -/
structure TI (w wr : World) (B : Nat) (v fv : Value) (nn fn : Nat) (F : List Int) (ub rb : Nat) (P : List (Nd × Value)) : Prop where
  cn : CN wr B v nn P
  fu : OwnI wr B fv fn F
  box : wr.heap[ub]? = some (.cells #[v, fv] 25 (0, 0))
  res : wr.heap[rb]? = some (.cells #[.slice none 0 0, .slice none 0 0] 25 (0, 0))
  bel : Below w.heap.size w wr
theorem TI.drew {w wr B v fv nn fn F ub rb P} (h : TI w wr B v fv nn fn F ub rb P) : TI w wr.drew B v fv nn fn F ub rb P := ⟨h.cn.keep ((Below.refl _ _).drew), h.fu.drew, h.box, h.res, h.bel.drew⟩
theorem TI.set {w wr B g c fv nn fn F ub rb P} (h : TI w wr B (.slice (some ⟨g, 0, none⟩) nn c) fv nn fn F ub rb P) (hB : w.heap.size ≤ B) (m : Nat) (hm : m < P.length) (j : Nat) (hj : j < 10) (v : Int) (nd : Nd) (he : nc nd (P[m]).2 = (nc (P[m]).1 (P[m]).2).set j (.int .i64 v)) (hk : nd.kids = (P[m]).1.kids) :
    TI w (wr.setCell ⟨g, m * 10 + j, none⟩ (.int .i64 v)) B (.slice (some ⟨g, 0, none⟩) nn c) fv nn fn F ub rb (P.set m (nd, (P[m]).2)) := by
  have hg := own_block h.cn.own (g := g) rfl
  exact ⟨h.cn.fld0 m hm j hj v nd he hk, h.fu.set_other (own_apart h.cn.own h.fu.out (by decide) g rfl) _ _, (heap_set_other (fun e => own_not h.cn.own h.box (by decide) (by rw [e]; rfl))).trans h.box, (heap_set_other (fun e => own_not h.cn.own h.res (by decide) (by rw [e]; rfl))).trans h.res, h.bel.setCell (p := ⟨g, m * 10 + j, none⟩) (by show w.heap.size ≤ g; omega) _⟩
set_option maxRecDepth 10000 in
set_option maxHeartbeats 4000000 in
theorem turned_any (w : World) (no : Option Addr) (nc nn : Nat) (fo : Option Addr) (fc fn : Nat) (N : List Nd) (F : List Int) (hnn : nn = N.length) (hfn : fn = F.length) (hN : Nodes w no nc N) (hF : Ints w fo fc F) (hKN : KNil w no N) (hfz : fo = none → fc = 0) (hn1 : nn ≤ 120000) (hf1 : fn ≤ 120000) (hkl : ∀ n ∈ N, n.kids.length ≤ 10000000000) :
    Calls Tryd.prog 21 #[.agg #[.slice no nn nc, .slice fo fn fc]] w fun e w' => Turnd w w' nn fn N F e := by
  obtain ⟨w1, hw1⟩ : ∃ w1, w1 = (w.alloc (.cells #[.slice no nn nc, .slice fo fn fc] 25)).alloc (.cells #[.slice none 0 0, .slice none 0 0] 25) := ⟨_, rfl⟩
  have hb1 : Below w.heap.size w w1 := by rw [hw1]; exact ((Below.refl _ _).alloc (Nat.le_refl _) _).alloc (by simp) _
  have hs1 : w1.heap.size = w.heap.size + 2 := by rw [hw1]; simp
  have hr1 : w1.heap[w.heap.size + 1]? = some (.cells #[.slice none 0 0, .slice none 0 0] 25 (0, 0)) := by
    rw [hw1]
    have : (w.alloc (.cells #[.slice no nn nc, .slice fo fn fc] 25)).heap.size = w.heap.size + 1 := by simp
    rw [← this]
    exact heap_alloc_last _ _
  have COP := copied_any w1 no nc nn fo fc fn N F hnn hfn (hN.below hb1 (Nat.le_refl _)) (hF.below hb1 (Nat.le_refl _)) (hKN.below hN hb1) hfz hn1 hf1 hkl
  have HH : Hid (nn = N.length ∧ w1.heap.size = w.heap.size + 2) := ⟨hnn, hs1⟩
  have HW1 : Hid _ := hw1
  clear hnn hfn hkl hw1 hs1
  go_enter Tryd.func21, Tryd.ntmps21
  go_wp2_with (first | (go_at_call 18; rw [← HW1.out]; refine COP.mono ?_; rintro e w2 ⟨v, fv, P, rfl, HC, hP, HF, hap, hb2⟩; obtain ⟨va, vc, rfl⟩ := own_slice HC.own; obtain ⟨fa, fcc, rfl⟩ := own_slice HF.out))
  obtain ⟨w3, hw3⟩ : ∃ w3, w3 = w2.alloc (.cells #[.slice va nn vc, .slice fa fn fcc] 25) := ⟨_, rfl⟩
  have hb3 : Below w2.heap.size w2 w3 := by rw [hw3]; exact (Below.refl _ _).alloc (Nat.le_refl _) _
  have hs2 := hb2.size
  have HT0 : TI w w3 (w1.heap.size + 1 + 1 + 1) (.slice va nn vc) (.slice fa fn fcc) nn fn F w2.heap.size (w.heap.size + 1) P := ⟨HC.keep hb3, HF.keep hb3, by rw [hw3]; exact heap_alloc_last _ _, (hb3.block _ (by have := HH.out; omega)).trans ((hb2.block _ (by have := HH.out; omega)).trans hr1), hb1.trans ((hb2.trans (hb3.mono hs2)).mono (by have := HH.out; omega))⟩
  have HR0 : TRN N P 0 := TRN.zero hP
  rw [← hw3]
  obtain ⟨ub, hub⟩ : ∃ ub, ub = w2.heap.size := ⟨_, rfl⟩
  rw [← hub] at HT0 ⊢
  have hubl : w.heap.size + 1 < ub := by have := HH.out; omega
  have hBl : w.heap.size + 1 < w1.heap.size + 1 + 1 + 1 := by have := HH.out; omega
  obtain ⟨B, hB⟩ : ∃ B, B = w1.heap.size + 1 + 1 + 1 := ⟨_, rfl⟩
  rw [← hB] at HT0 hBl
  clear hw3 hb3 hub HC HF hap hb2 hs2 COP HW1 hP hr1 hB hb1
  go_loopw [4] (fun iv wr => ∃ (i : Nat) (P : List (Nd × Value)), i ≤ nn ∧ iv = .int .i64 i ∧ TI w wr B (.slice va nn vc) (.slice fa fn fcc) nn fn F ub (w.heap.size + 1) P ∧ TRN N P i) (fun iv _ => nn - (intOf iv).toNat)
  case atStart => exact ⟨0, P, by omega, rfl, HT0, HR0⟩
  case round =>
    clear HT0 HR0
    obtain ⟨i, P, hi, rfl, HT, HR⟩ := hrel
    have u0 : wr.cell? ⟨ub, 0, none⟩ = some (.slice va nn vc) := cell_arr HT.box rfl
    have u1 : wr.cell? ⟨ub, 1, none⟩ = some (.slice fa fn fcc) := cell_arr HT.box rfl
    by_cases hlt : i < nn
    · obtain ⟨g, vc', e, hvc1, hvc2, hg1, hg2⟩ := own_blkOf HT.cn.own (by omega)
      cases e
      have hiN : i < N.length := by have := HH.out; omega
      have hiP : i < P.length := by have := HR.len; omega
      have hPi := HR.out i hiP hiN
      rw [if_neg (by omega)] at hPi
      obtain ⟨nd, hnd⟩ : ∃ nd, nd = N[i] := ⟨_, rfl⟩
      rw [← hnd] at hPi
      have k0 : wr.cell? ⟨g, i * 10, none⟩ = some (.int .i64 nd.kind) := by
        have := row_cell HT.cn.own HT.cn.len i hiP 0 (by omega)
        rw [hPi] at this
        exact this
      have k7 : wr.cell? ⟨g, i * 10 + 7, none⟩ = some (.int .i64 nd.val) := by
        have := row_cell HT.cn.own HT.cn.len i hiP 7 (by omega)
        rw [hPi] at this
        exact this
      have z0 : wr.frozen? ⟨g, i * 10, none⟩ = false := row_fz HT.cn.own _
      have z7 : wr.frozen? ⟨g, i * 10 + 7, none⟩ = false := row_fz HT.cn.own _
      have hgu : ¬ g = ub := fun e => own_not HT.cn.own HT.box (by decide) (by rw [← e]; rfl)
      have hug : ¬ ub = g := fun e => hgu e.symm
      have HND : Hid (nd = N[i]) := hnd
      have HPI : Hid ((P[i]).1 = nd) := hPi
      clear hnd hPi
      have hc : nd.kind = 20 ∨ nd.kind = 21 ∨ nd.kind = 22 ∨ (¬ nd.kind = 20 ∧ ¬ nd.kind = 21 ∧ ¬ nd.kind = 22) := by omega
      rcases hc with hk | hk | hk | ⟨h1, h2, h3⟩
      · have HN : TRN N (P.set i ({ nd with val := bits BinOp.xor IntKind.i64 nd.val 1 }, (P[i]).2)) (i + 1) := HR.next hiN (by rw [← HND.out, tnd, if_pos hk])
        have HT2 := HT.set (by omega) i hiP 7 (by omega) (bits BinOp.xor IntKind.i64 nd.val 1) { nd with val := bits BinOp.xor IntKind.i64 nd.val 1 } (by rw [HPI.out]; rfl) (by rw [HPI.out])
        rw [hk] at k0
        clear hk
        go_wp2_with fail
        go_region
        go_wp2_with fail
        go_roundw
        case rel => exact ⟨i + 1, _, by omega, by go_num, HT2.drew, HN⟩
        case measure => simp [intOf]; omega
      · have HN : TRN N (P.set i ({ nd with kind := 22 }, (P[i]).2)) (i + 1) := HR.next hiN (by rw [← HND.out, tnd, if_neg (by omega), if_pos hk])
        have HT2 := HT.set (by omega) i hiP 0 (by omega) 22 { nd with kind := 22 } (by rw [HPI.out]; rfl) (by rw [HPI.out])
        rw [hk] at k0
        clear hk
        go_wp2_with fail
        go_roundw
        case rel => exact ⟨i + 1, _, by omega, by go_num, HT2, HN⟩
        case measure => simp [intOf]; omega
      · have HN : TRN N (P.set i ({ nd with kind := 21 }, (P[i]).2)) (i + 1) := HR.next hiN (by rw [← HND.out, tnd, if_neg (by omega), if_neg (by omega), if_pos hk])
        have HT2 := HT.set (by omega) i hiP 0 (by omega) 21 { nd with kind := 21 } (by rw [HPI.out]; rfl) (by rw [HPI.out])
        rw [hk] at k0
        clear hk
        go_wp2_with fail
        go_roundw
        case rel => exact ⟨i + 1, _, by omega, by go_num, HT2, HN⟩
        case measure => simp [intOf]; omega
      · have HN : TRN N P (i + 1) := HR.skip hiN (by rw [← HND.out, tnd, if_neg h1, if_neg h2, if_neg h3])
        go_wp2_with fail
        go_roundw
        case rel => exact ⟨i + 1, _, by omega, by go_num, HT, HN⟩
        case measure => simp [intOf]; omega
    · have hin : nn = i := by omega
      subst hin
      have hfin := HR.fin (by have := HH.out; omega)
      have HFIN : Hid (P.map Prod.fst = N.map tnd) := hfin
      clear hfin
      have r0 : wr.cell? ⟨w.heap.size + 1, 0, none⟩ = some (.slice none 0 0) := cell_arr HT.res rfl
      have r1 : wr.cell? ⟨w.heap.size + 1, 1, none⟩ = some (.slice none 0 0) := cell_arr HT.res rfl
      have rf0 : wr.frozen? ⟨w.heap.size + 1, 0, none⟩ = false := fz_of HT.res
      have rf1 : wr.frozen? ⟨w.heap.size + 1, 1, none⟩ = false := fz_of HT.res
      go_wp2_with fail
      have mv : ∀ g, B ≤ g → ((wr.setCell ⟨w.heap.size + 1, 0, none⟩ (.slice va nn vc)).setCell ⟨w.heap.size + 1, 1, none⟩ (.slice fa fn fcc)).heap[g]? = wr.heap[g]? := fun g hg => by
        rw [heap_set_other (by omega), heap_set_other (by omega)]
      have hbF : Below w.heap.size w ((wr.setCell ⟨w.heap.size + 1, 0, none⟩ (.slice va nn vc)).setCell ⟨w.heap.size + 1, 1, none⟩ (.slice fa fn fcc)) := (HT.bel.setCell (p := ⟨w.heap.size + 1, 0, none⟩) (by show w.heap.size ≤ w.heap.size + 1; omega) _).setCell (p := ⟨w.heap.size + 1, 1, none⟩) (by show w.heap.size ≤ w.heap.size + 1; omega) _
      exact bodyPost_ret (v := .agg #[.slice va nn vc, .slice fa fn fcc]) (by simp [results, Tryd.results21, go_sem, r0, r1]) rfl ⟨B, _, _, P, rfl, by omega, ⟨HT.cn.len, own_move HT.cn.own fun g hg => mv g (own_block HT.cn.own hg).1, fun p hp => ⟨(HT.cn.kid p hp).len, own_move (HT.cn.kid p hp).out fun g hg => mv g (own_block (HT.cn.kid p hp).out hg).1⟩, HT.cn.apt⟩, HFIN.out, ⟨HT.fu.len, own_move HT.fu.out fun g hg => mv g (own_block HT.fu.out hg).1⟩, hbF⟩
end Go.Proofs.YtdeplodfpgnpgaaDoor
namespace Go.Proofs.YtdeplodfpgnpgaaDoor
open Go.ChangeShapes Go.WideShapes Go.ChangeAt Go.RowKit

/-- What a Print answers. -/
structure PR2 (w w' : World) (r : Int) (L : List UInt8) (e : Ending) : Prop where
  out : ∃ a n c, e = .returned (.tuple #[.slice a n c, .int .i64 r]) ∧ OwnB w' w.heap.size (.slice a n c) n L
  bel : Below w.heap.size w w'
/-- A tree that the statements play. -/
structure TFit (T : Tr) : Prop where
  nn : T.nodes.length ≤ 120000
  fn : T.funcs.length ≤ 120000
  kb : ∀ n ∈ T.nodes, n.kids.length ≤ 120000
  sb : ∀ n ∈ T.nodes, n.name.length ≤ 1000000000000000
  vb : ∀ n ∈ T.nodes, n.val ≤ 9223372036854775807
  dp : (T.nodes.map c3).sum * T.nodes.length ≤ 16777216
/-- Both Prints answer the same. -/
theorem both (T : Tr) (h : TFit T) : ∃ (r : Int) (L : List UInt8),
    (∀ (w : World) (no : Option Addr) (nc nn : Nat) (fo : Option Addr) (fc fn : Nat), AllTab w → nn = T.nodes.length → fn = T.funcs.length → Nodes w no nc T.nodes → Ints w fo fc T.funcs → Calls Tryd.prog 12 #[.agg #[.slice no nn nc, .slice fo fn fc]] w fun e w' => PR2 w w' r L e)
    ∧ (∀ (w : World) (no : Option Addr) (nc nn : Nat) (fo : Option Addr) (fc fn : Nat), nn = T.nodes.length → fn = T.funcs.length → Nodes w no nc T.nodes → Ints w fo fc T.funcs → Calls Tryd.prog 20 #[.agg #[.slice no nn nc, .slice fo fn fc]] w fun e w' => PR2 w w' r L e) := by
  have h1 := h.nn
  have h2 := h.fn
  by_cases hc : chk T = true
  · obtain ⟨S', hP, hL⟩ := prints_ok hc h.vb h.nn h.dp
    refine ⟨0, S'.text, fun w no nc nn fo fc fn hA hnn hfn hN hF => ?_, fun w no nc nn fo fc fn hnn hfn hN hF => ?_⟩
    · refine (print_all w hA.tab hA.lo hA.t1 hA.t2 hA.tp no nc nn fo fc fn T hnn hfn hN hF (by omega) hc S' hP).mono ?_
      rintro e w' ⟨⟨v, n, he, hO⟩, hb⟩
      obtain ⟨a, c, rfl⟩ := own_slice hO.out
      exact ⟨⟨a, n, c, he, hO⟩, hb⟩
    · refine (rPrint_yes w no nc nn fo fc fn T hnn hfn hN hF (by omega) (by omega) h.kb h.sb h.vb hc S' hP hL).mono ?_
      rintro e w' ⟨⟨v, n, he, hO⟩, hb⟩
      obtain ⟨a, c, rfl⟩ := own_slice hO.out
      exact ⟨⟨a, n, c, he, ⟨hO.len, own_base hO.out (by omega)⟩⟩, hb⟩
  · have hc' : chk T = false := by simpa using hc
    refine ⟨30, [], fun w no nc nn fo fc fn hA hnn hfn hN hF => ?_, fun w no nc nn fo fc fn hnn hfn hN hF => ?_⟩
    · refine (print_no w hA.tab no nc nn fo fc fn T hnn hfn hN hF (by omega) hc').mono ?_
      rintro e w' ⟨rfl, hb⟩
      exact ⟨⟨none, 0, 0, rfl, OwnB.nil _ _⟩, hb⟩
    · refine (rPrint_no w no nc nn fo fc fn T hnn hfn hN hF (by omega) (by omega) (fun n hn => by have := h.kb n hn; omega) h.sb hc').mono ?_
      rintro e w' ⟨rfl, hb⟩
      exact ⟨⟨none, 0, 0, rfl, OwnB.nil _ _⟩, hb⟩
theorem tnd_c3 (n : Nd) : c3 (tnd n) = c3 n := by
  unfold tnd c3
  split
  · rfl
  · split
    · rename_i h1 h2
      simp [h2]
    · split
      · rename_i h1 h2 h3
        simp [h3]
      · rfl
theorem tnd_val (n : Nd) (h : n.val ≤ 9223372036854775807) : (tnd n).val ≤ 9223372036854775807 := by
  unfold tnd
  split
  · have := wf_bits BinOp.xor IntKind.i64 n.val 1
    simp only [Lit.wf, IntKind.min, IntKind.max, IntKind.signed, IntKind.bits, Bool.and_eq_true, decide_eq_true_eq, if_true] at this
    have := this.2
    simpa using this
  · split
    · exact h
    · split <;> exact h
theorem TFit.turn {T : Tr} (h : TFit T) : TFit ⟨T.nodes.map tnd, T.funcs⟩ := by
  refine ⟨by simpa using h.nn, h.fn, ?_, ?_, ?_, ?_⟩
  · intro n hn
    obtain ⟨m, hm, rfl⟩ := List.mem_map.1 hn
    rw [tnd_kids]; exact h.kb m hm
  · intro n hn
    obtain ⟨m, hm, rfl⟩ := List.mem_map.1 hn
    rw [tnd_name]; exact h.sb m hm
  · intro n hn
    obtain ⟨m, hm, rfl⟩ := List.mem_map.1 hn
    exact tnd_val m (h.vb m hm)
  · have e : (T.nodes.map tnd).map c3 = T.nodes.map c3 := by
      rw [List.map_map]
      exact List.map_congr_left fun n _ => tnd_c3 n
    show ((T.nodes.map tnd).map c3).sum * (T.nodes.map tnd).length ≤ _
    rw [e, List.length_map]
    exact h.dp
/-- A text that was answered behind a lent tree outlives what is written into that. -/
theorem OwnB.tch {w w' : World} {B E B' v n M} (h : OwnB w B' v n M) (ht : Tch B E w w') (hE : E ≤ B') : OwnB w' B' v n M := ⟨h.len, own_move h.out fun g hg => ht.blk g (by have := own_block h.out hg; omega) (own_block h.out hg).2⟩
end Go.Proofs.YtdeplodfpgnpgaaDoor
namespace Go.Proofs.YtdeplodfpgnpgaaDoor
open Go.ChangeShapes Go.WideShapes Go.ChangeAt Go.RowKit

theorem map_tnd_kids (N : List Nd) : (N.map tnd).map Nd.kids = N.map Nd.kids := by
  rw [List.map_map]
  exact List.map_congr_left fun n _ => tnd_kids n
set_option maxRecDepth 10000 in
set_option maxHeartbeats 8000000 in
theorem prints_any (w : World) (hA : AllTab w) (no : Option Addr) (nc nn : Nat) (fo : Option Addr) (fc fn : Nat) (T : Tr) (hnn : nn = T.nodes.length) (hfn : fn = T.funcs.length) (hN : Nodes w no nc T.nodes) (hF : Ints w fo fc T.funcs) (hKN : KNil w no T.nodes) (hfz : fo = none → fc = 0) (hT : TFit T) :
    Calls Tryd.prog 9 #[.agg #[.slice no nn nc, .slice fo fn fc]] w fun e w' => e = .returned (.bool true) ∧ Below w.heap.size w w' := by
  obtain ⟨r, L, TP, RPT⟩ := both T hT
  obtain ⟨r2, L2, TP2, RPT2⟩ := both ⟨T.nodes.map tnd, T.funcs⟩ hT.turn
  have HTP : Hid _ := TP
  have HRP : Hid _ := RPT
  have HTP2 : Hid _ := TP2
  have HRP2 : Hid _ := RPT2
  have HH : Hid (nn = T.nodes.length ∧ fn = T.funcs.length) := ⟨hnn, hfn⟩
  have HTF : Hid (TFit T) := hT
  have HA : Hid (AllTab w) := hA
  have hm : nn ≤ 120000 := by rw [hnn]; exact hT.nn
  have hfm : fn ≤ 120000 := by rw [hfn]; exact hT.fn
  clear TP RPT TP2 RPT2 hnn hfn hT hA
  go_enter Tryd.func9, Tryd.ntmps9
  go_wp2_with fail
  obtain ⟨w1, hw1⟩ : ∃ w1, w1 = w.alloc (.cells #[.slice no nn nc, .slice fo fn fc] 25) := ⟨_, rfl⟩
  have hb1 : Below w.heap.size w w1 := by rw [hw1]; exact (Below.refl _ _).alloc (Nat.le_refl _) _
  have hbx1 : w1.heap[w.heap.size]? = some (.cells #[.slice no nn nc, .slice fo fn fc] 25 (0, 0)) := by rw [hw1]; exact heap_alloc_last _ _
  have hs1 : w1.heap.size = w.heap.size + 1 := by rw [hw1]; simp
  rw [← hw1]
  have HS1 : Hid (w1.heap.size = w.heap.size + 1) := hs1
  clear hw1 hs1
  refine (lend_any w1 no nc nn fo fc fn T HH.out.1 HH.out.2 (hN.below hb1 (Nat.le_refl _)) (hF.below hb1 (Nat.le_refl _)) (hKN.below hN hb1) hfz hm hfm HTF.out.kb).mono ?_
  rintro e w2 ⟨⟨s, M, C, FC, rfl, hsB, hsE, hsn, hsf, HL2, HT⟩, hb2⟩
  have HSS : Hid (s.B = w.heap.size + 2 ∧ s.E = w2.heap.size ∧ s.n = nn ∧ s.fn = fn) := ⟨by rw [hsB, HS1.out], hsE, by rw [hsn, HH.out.1], by rw [hsf, HH.out.2]⟩
  clear hsB hsE hsn hsf
  have hbx2 := (hb2.block w.heap.size (by have := HS1.out; omega)).trans hbx1
  have hw2 : Below w.heap.size w w2 := hb1.trans (hb2.mono (by have := HS1.out; omega))
  have q0 := HL2.cells.1
  have q1 := HL2.cells.2.1
  go_wp2_with fail
  refine (HTP.out w2 (some ⟨s.nb, 0, none⟩) s.nc s.n (some ⟨s.fb, 0, none⟩) s.fc s.fn (HA.out.below hw2) (by rw [HSS.out.2.2.1, HH.out.1]) (by rw [HSS.out.2.2.2, HH.out.2]) (HL2.nodes (by rw [HSS.out.2.2.1, HH.out.1]; exact HT.fi) (by rw [HSS.out.2.2.1, HH.out.1])) (HL2.ints (by rw [HT.fc, HSS.out.2.2.2, HH.out.2]; simp))).mono ?_
  rintro e w3 ⟨⟨ba, bn, bc, rfl, HB3⟩, hb3⟩
  clear q0 q1
  have HL3 := HL2.keep hb3
  have hw3 : Below w.heap.size w w3 := hw2.trans (hb3.mono hw2.size)
  have hbx3 := (hb3.block w.heap.size (Array.getElem?_eq_some_iff.1 hbx2).1).trans hbx2
  have p0 : w3.cell? ⟨w.heap.size, 0, none⟩ = some (.slice no nn nc) := cell_arr hbx3 rfl
  have p1 : w3.cell? ⟨w.heap.size, 1, none⟩ = some (.slice fo fn fc) := cell_arr hbx3 rfl
  go_wp2_with fail
  refine (HRP.out w3 no nc nn fo fc fn HH.out.1 HH.out.2 (hN.below hw3 (Nat.le_refl _)) (hF.below hw3 (Nat.le_refl _))).mono ?_
  rintro e w4 ⟨⟨wa, wn, wc, rfl, HW4⟩, hb4⟩
  clear p0 p1
  have hs3 := hb3.size
  have hs4 := hb4.size
  have HL4 := HL3.keep hb4
  have HB4 := HB3.keep hb4
  have hw4 : Below w.heap.size w w4 := hw3.trans (hb4.mono hw3.size)
  have hbx4 := (hb4.block w.heap.size (Array.getElem?_eq_some_iff.1 hbx3).1).trans hbx3
  have p0 : w4.cell? ⟨w.heap.size, 0, none⟩ = some (.slice no nn nc) := cell_arr hbx4 rfl
  have p1 : w4.cell? ⟨w.heap.size, 1, none⟩ = some (.slice fo fn fc) := cell_arr hbx4 rfl
  go_wp2_with fail
  refine (kept_any w4 s M C FC HL4 no nc nn fo fc fn T (hN.below hw4 (Nat.le_refl _)) (hF.below hw4 (Nat.le_refl _)) HT HH.out.1 HH.out.2 HSS.out.2.2.1 HSS.out.2.2.2 (by omega) (by omega) (fun n hn => by have := HTF.out.kb n hn; omega)).mono ?_
  rintro e w5 ⟨rfl, ⟨M5, C5, HL5, HS5⟩, ht5⟩
  clear p0 p1 HL4 HL3 HL2
  have HB5 := HB4.tch ht5 (by have := HSS.out; omega)
  have HW5 := HW4.tch ht5 (by have := HSS.out; omega)
  have hw5 : Below w.heap.size w w5 := hw4.trans (ht5.bel.mono (by have := HSS.out; omega))
  have hbx5 := (ht5.bel.block w.heap.size (by have := HSS.out; omega)).trans hbx4
  have p0 : w5.cell? ⟨w.heap.size, 0, none⟩ = some (.slice no nn nc) := cell_arr hbx5 rfl
  have p1 : w5.cell? ⟨w.heap.size, 1, none⟩ = some (.slice fo fn fc) := cell_arr hbx5 rfl
  have hE5 : s.E ≤ w5.heap.size := HL5.top.2.2.2.1
  clear HB3 HB4 HW4
  go_wp2_with fail
  refine (turned_any w5 no nc nn fo fc fn T.nodes T.funcs HH.out.1 HH.out.2 (hN.below hw5 (Nat.le_refl _)) (hF.below hw5 (Nat.le_refl _)) (hKN.below hN hw5) hfz (by omega) (by omega) (fun n hn => by have := HTF.out.kb n hn; omega)).mono ?_
  rintro e w6 ⟨B', v, fv, P, rfl, hB', HC6, hP, HF6, hb6⟩
  clear p0 p1
  obtain ⟨va, vc, rfl⟩ := own_slice HC6.own
  obtain ⟨fa, fcc, rfl⟩ := own_slice HF6.out
  have HPP : Hid (P.map Prod.fst = T.nodes.map tnd) := hP
  clear hP
  go_wp2_with fail
  obtain ⟨ub, hub⟩ : ∃ ub, ub = w6.heap.size := ⟨_, rfl⟩
  obtain ⟨w7, hw7⟩ : ∃ w7, w7 = w6.alloc (.cells #[.slice va nn vc, .slice fa fn fcc] 25) := ⟨_, rfl⟩
  have hb7 : Below w6.heap.size w6 w7 := by rw [hw7]; exact (Below.refl _ _).alloc (Nat.le_refl _) _
  have hbx7 : w7.heap[ub]? = some (.cells #[.slice va nn vc, .slice fa fn fcc] 25 (0, 0)) := by rw [hw7, hub]; exact heap_alloc_last _ _
  have hs6 := hb6.size
  have hub5 : w5.heap.size ≤ ub := by rw [hub]; exact hs6
  have hb57 : Below w5.heap.size w5 w7 := hb6.trans (hb7.mono hs6)
  rw [← hw7, ← hub]
  have HL7 := HL5.keep hb57
  have HB7 := HB5.keep hb57
  have HW7 := HW5.keep hb57
  have HC7 := HC6.keep hb7
  have HF7 := HF6.keep hb7
  have hw7' : Below w.heap.size w w7 := hw5.trans (hb57.mono hw5.size)
  have hbxt := (hb57.block w.heap.size (Array.getElem?_eq_some_iff.1 hbx5).1).trans hbx5
  clear hw7 hub hb7 hb6 hb57 HC6 HF6 HB5 HW5 HL5
  obtain ⟨no8, nc8, fo8, fc8, e1, e2, HAp⟩ := Ap.new (B := s.B) (E := s.E) HC7 HF7 (by omega)
  cases e1
  cases e2
  refine (fill_any w7 s M5 C5 FC HL7 va vc nn fa fcc fn (P.map Prod.fst) T.funcs HAp (by rw [HPP.out, List.length_map]; exact HH.out.1) HH.out.2 HSS.out.2.2.1 HSS.out.2.2.2 (by omega) (by omega) (HT.shp HS5 (by rw [HPP.out]; exact map_tnd_kids _) HTF.out.kb)).mono ?_
  rintro e w8 ⟨rfl, ⟨⟨M8, C8', FC8, HL8, HS8, HF8, HG8⟩, ht8⟩⟩
  have HB8 := HB7.tch ht8 (by have := HSS.out; omega)
  have HW8 := HW7.tch ht8 (by have := HSS.out; omega)
  have hw8 : Below w.heap.size w w8 := hw7'.trans (ht8.bel.mono (by have := HSS.out; omega))
  have hub8 := ht8.box (by omega : s.E ≤ ub) hbx7
  have q0 := HL8.cells.1
  have q1 := HL8.cells.2.1
  clear HB7 HW7 HL7
  go_wp2_with fail
  refine (HTP2.out w8 (some ⟨s.nb, 0, none⟩) s.nc s.n (some ⟨s.fb, 0, none⟩) s.fc s.fn (HA.out.below hw8) (by rw [HSS.out.2.2.1, HH.out.1]; simp) (by rw [HSS.out.2.2.2, HH.out.2]) (by rw [← HPP.out]; exact HL8.nodes HF8 (by rw [HPP.out, List.length_map, HSS.out.2.2.1, HH.out.1])) (HL8.ints HG8)).mono ?_
  rintro e w9 ⟨⟨ca, cn, cc, rfl, HC9⟩, hb9⟩
  clear q0 q1
  have hs9 := hb9.size
  have HB9 := HB8.keep hb9
  have HW9 := HW8.keep hb9
  have hub9 := (hb9.block ub (Array.getElem?_eq_some_iff.1 hub8).1).trans hub8
  have b0 : w9.cell? ⟨ub, 0, none⟩ = some (.slice va nn vc) := cell_arr hub9 rfl
  have b1 : w9.cell? ⟨ub, 1, none⟩ = some (.slice fa fn fcc) := cell_arr hub9 rfl
  have ht9 : Tch s.B s.E w7 w9 := ht8.below hb9 (by have := HL8.top.2.2.2.1; have := HL8.bot; have := HL8.top.2.2.1; omega)
  have hw9 : Below w.heap.size w w9 := hw8.trans (hb9.mono hw8.size)
  clear HB8 HW8
  go_wp2_with fail
  refine (HRP2.out w9 va vc nn fa fcc fn (by simpa using HH.out.1) HH.out.2 (by have := HAp.nod w9 ht9; rw [HPP.out] at this; exact this) (HAp.fun_ w9 ht9)).mono ?_
  rintro e w10 ⟨⟨va9, vn, vc9, rfl, HV10⟩, hb10⟩
  clear b0 b1
  have h1 := (HB9.keep hb10).conv0
  have h2 := (HW9.keep hb10).conv0
  have h3 := (HC9.keep hb10).conv0
  have h4 := HV10.conv0
  have hw10 : Below w.heap.size w w10 := hw9.trans (hb10.mono hw9.size)
  generalize bs L = t1 at *
  generalize bs L2 = t2 at *
  clear HB9 HW9 HC9 HV10 HL8 HF8 HG8 HAp HC7 HF7 ht8 ht9 hub8 hub9 hbx7
  go_wp2_with (first | (go_at_call 13; refine (num3_any _ _).mono ?_; rintro e w' ⟨rfl, rfl⟩))
  go_ret
  exact ⟨by simp, hw10⟩
end Go.Proofs.YtdeplodfpgnpgaaDoor
namespace Go.Proofs.YtdeplodfpgnpgaaDoor
open Go.ChangeShapes Go.WideShapes Go.ChangeAt Go.RowKit

set_option maxRecDepth 10000 in
set_option maxHeartbeats 4000000 in
theorem treePrint_any (w : World) (hA : AllTab w) (no : Option Addr) (nc nn : Nat) (fo : Option Addr) (fc fn : Nat) (T : Tr) (hnn : nn = T.nodes.length) (hfn : fn = T.funcs.length) (hN : Nodes w no nc T.nodes) (hF : Ints w fo fc T.funcs) (hKN : KNil w no T.nodes) (hfz : fo = none → fc = 0) (hR : Rch T.nodes) (hV : ∀ n ∈ T.nodes, n.val ≤ 9223372036854775807) (hn1 : nn ≤ 140737488351232) (hf1 : fn ≤ 140737488351232) :
    Calls Tryd.prog 4 #[.agg #[.slice no nn nc, .slice fo fn fc]] w fun e w' => e = .returned (.bool true) ∧ Below w.heap.size w w' := by
  have HH : Hid (nn = T.nodes.length ∧ fn = T.funcs.length) := ⟨hnn, hfn⟩
  have HA : Hid (AllTab w) := hA
  clear hnn hfn hA
  go_enter Tryd.func4, Tryd.ntmps4
  go_wp2_with fail
  have hb0 : Below w.heap.size w (w.alloc (.cells #[.slice no nn nc, .slice fo fn fc] 25)) := (Below.refl _ _).alloc (Nat.le_refl _) _
  refine (fits3_deep _ no nc nn fo fc fn T.nodes HH.out.1 (hN.below hb0 (Nat.le_refl _)) hR hn1 hf1).mono ?_
  rintro e w1 ⟨⟨R, rfl, hRR⟩, hb1⟩
  have HRR : Hid (R = true → nn + fn ≤ 120000 ∧ (∀ n ∈ T.nodes, n.kids.length ≤ 120000) ∧ (T.nodes.map c3).sum * T.nodes.length ≤ 16777216) := hRR
  clear hRR
  have hs1 := hb1.size
  simp at hs1
  have f0 : w1.cell? ⟨w.heap.size, 0, none⟩ = some (.slice no nn nc) := cell_below hb1 (by simp) (by simp)
  have f1 : w1.cell? ⟨w.heap.size, 1, none⟩ = some (.slice fo fn fc) := cell_below hb1 (by simp) (by simp)
  have hbw1 : Below w.heap.size w w1 := hb0.trans (hb1.mono (by simp))
  clear hb0
  cases R
  · go_wp2_with fail
    go_ret
    exact ⟨rfl, hbw1⟩
  obtain ⟨hsum, hkids, hdp⟩ := HRR.out rfl
  have HTF : Hid (TFit T) := ⟨by have := HH.out; omega, by have := HH.out; omega, hkids, fun n hn => by
    obtain ⟨i, hi, rfl⟩ := List.mem_iff_getElem.1 hn
    have := (hR.out i hi).2
    omega, hV, hdp⟩
  clear HRR hkids hdp hV
  go_wp2_with fail
  refine (alive3_any w1 (HA.out.below hbw1)).mono ?_
  rintro e w2 ⟨rfl, hb2⟩
  have hs2 := hb2.size
  have g0 : w2.cell? ⟨w.heap.size, 0, none⟩ = some (.slice no nn nc) := cell_below hb2 (by omega) f0
  have g1 : w2.cell? ⟨w.heap.size, 1, none⟩ = some (.slice fo fn fc) := cell_below hb2 (by omega) f1
  have hbw2 : Below w.heap.size w w2 := hbw1.trans (hb2.mono (by omega))
  clear f0 f1
  go_wp2_with fail
  refine (prints_any w2 (HA.out.below hbw2) no nc nn fo fc fn T HH.out.1 HH.out.2 (hN.below hbw2 (Nat.le_refl _)) (hF.below hbw2 (Nat.le_refl _)) (hKN.below hN hbw2) hfz HTF.out).mono ?_
  rintro e w3 ⟨rfl, hb3⟩
  go_wp2_with fail
  go_ret
  exact ⟨rfl, hbw2.trans (hb3.mono hbw2.size)⟩
end Go.Proofs.YtdeplodfpgnpgaaDoor
