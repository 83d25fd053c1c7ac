import Derived.Test.YtchobeakieljpaaGreatDoorLzG
import Derived.Test.YtchobeakieljpaaGreatDoorLuW
import Derived.Test.YtchobeakieljpaaGreatDoorTvK
import Derived.Test.YtchobeakieljpaaGreatDoorLyC
import Derived.Test.YtchobeakieljpaaGreatDoorTrL
import Derived.Test.YtchobeakieljpaaGreatDoorLzI
import Derived.Test.YtchobeakieljpaaGreatDoorLyQ
import Derived.Test.YtchobeakieljpaaGreatDoorLuF
set_option linter.unusedVariables false
set_option linter.unusedSimpArgs false
namespace Go.Proofs.YtchobeakieljpaaGreatDoor
open Go.ChangeShapes Go.WideShapes Go.ChangeAt Go.RowKit

/-- A node with another number or bool in it. -/
def tnd (n : Nd) : Nd := if n.kind = 20 then { n with val := bits BinOp.xor IntKind.i64 n.val 1 } else if n.kind = 21 then { n with kind := 22 } else if n.kind = 22 then { n with kind := 21 } else n
theorem tnd_kids (n : Nd) : (tnd n).kids = n.kids := by unfold tnd; split <;> (try split) <;> (try split) <;> rfl
theorem tnd_name (n : Nd) : (tnd n).name = n.name := by unfold tnd; split <;> (try split) <;> (try split) <;> rfl
theorem CN.fld0 {w : World} {B g c n P} (h : CN w B (.slice (some ⟨g, 0, none⟩) n c) n P) (m : Nat) (hm : m < P.length) (j : Nat) (hj : j < 10) (v : Int) (nd : Nd) (he : nc nd (P[m]).2 = (nc (P[m]).1 (P[m]).2).set j (.int .i64 v)) (hk : nd.kids = (P[m]).1.kids) :
    CN (w.setCell ⟨g, m * 10 + j, none⟩ (.int .i64 v)) B (.slice (some ⟨g, 0, none⟩) n c) n (P.set m (nd, (P[m]).2)) := by
  have h1 := h.fld m hm j hj v nd he hk
  exact ⟨h1.len, own_move h1.own fun _ _ => rfl, fun p hp => ⟨(h1.kid p hp).len, own_move (h1.kid p hp).out fun _ _ => rfl⟩, h1.apt⟩
/-- The first i nodes are turned. -/
structure TRN (N : List Nd) (P : List (Nd × Value)) (i : Nat) : Prop where
  len : P.length = N.length
  out : ∀ q (h : q < P.length) (h' : q < N.length), (P[q]).1 = if q < i then tnd N[q] else N[q]
theorem TRN.zero {N P} (h : P.map Prod.fst = N) : TRN N P 0 := ⟨by rw [← h]; simp, fun q h1 h2 => by subst h; simp⟩
theorem TRN.next {N P i} (h : TRN N P i) (hi : i < N.length) {nd : Nd} {v : Value} (hn : nd = tnd N[i]) : TRN N (P.set i (nd, v)) (i + 1) := ⟨by simpa using h.len, fun q h1 h2 => by
  have h3 : q < P.length := by simpa using h1
  by_cases e : q = i
  · subst e
    simp [hn]
  · rw [List.getElem_set_ne (by omega), h.out q h3 h2]
    by_cases h4 : q < i
    · rw [if_pos h4, if_pos (by omega)]
    · rw [if_neg h4, if_neg (by omega)]⟩
theorem TRN.skip {N P i} (h : TRN N P i) (hi : i < N.length) (hn : tnd N[i] = N[i]) : TRN N P (i + 1) := ⟨h.len, fun q h1 h2 => by
  rw [h.out q h1 h2]
  by_cases e : q = i
  · subst e
    simp [hn]
  · by_cases h4 : q < i
    · rw [if_pos h4, if_pos (by omega)]
    · rw [if_neg h4, if_neg (by omega)]⟩
theorem TRN.fin {N P i} (h : TRN N P i) (hi : N.length ≤ i) : P.map Prod.fst = N.map tnd := by
  refine List.ext_getElem (by simp; exact h.len) fun q h1 h2 => ?_
  have h3 : q < P.length := by simpa using h1
  have h4 : q < N.length := by simpa using h2
  rw [List.getElem_map, List.getElem_map, h.out q h3 h4, if_pos (by omega)]
structure Turnd (w w' : World) (nn fn : Nat) (N : List Nd) (F : List Int) (e : Ending) : Prop where
  out : ∃ (B : Nat) (v fv : Value) (P : List (Nd × Value)), e = .returned (.agg #[v, fv]) ∧ w.heap.size ≤ B ∧ CN w' B v nn P ∧ P.map Prod.fst = N.map tnd ∧ OwnI w' B fv fn F ∧ Below w.heap.size w w'
/-- What turned holds. -/
structure TI (w wr : World) (B : Nat) (v fv : Value) (nn fn : Nat) (F : List Int) (ub rb : Nat) (P : List (Nd × Value)) : Prop where
  cn : CN wr B v nn P
  fu : OwnI wr B fv fn F
  box : wr.heap[ub]? = some (.cells #[v, fv] 27 (0, 0))
  res : wr.heap[rb]? = some (.cells #[.slice none 0 0, .slice none 0 0] 27 (0, 0))
  bel : Below w.heap.size w wr
theorem TI.drew {w wr B v fv nn fn F ub rb P} (h : TI w wr B v fv nn fn F ub rb P) : TI w wr.drew B v fv nn fn F ub rb P := ⟨h.cn.keep ((Below.refl _ _).drew), h.fu.drew, h.box, h.res, h.bel.drew⟩
theorem TI.set {w wr B g c fv nn fn F ub rb P} (h : TI w wr B (.slice (some ⟨g, 0, none⟩) nn c) fv nn fn F ub rb P) (hB : w.heap.size ≤ B) (m : Nat) (hm : m < P.length) (j : Nat) (hj : j < 10) (v : Int) (nd : Nd) (he : nc nd (P[m]).2 = (nc (P[m]).1 (P[m]).2).set j (.int .i64 v)) (hk : nd.kids = (P[m]).1.kids) :
    TI w (wr.setCell ⟨g, m * 10 + j, none⟩ (.int .i64 v)) B (.slice (some ⟨g, 0, none⟩) nn c) fv nn fn F ub rb (P.set m (nd, (P[m]).2)) := by
  have hg := own_block h.cn.own (g := g) rfl
  exact ⟨h.cn.fld0 m hm j hj v nd he hk, h.fu.set_other (own_apart h.cn.own h.fu.out (by decide) g rfl) _ _, (heap_set_other (fun e => own_not h.cn.own h.box (by decide) (by rw [e]; rfl))).trans h.box, (heap_set_other (fun e => own_not h.cn.own h.res (by decide) (by rw [e]; rfl))).trans h.res, h.bel.setCell (p := ⟨g, m * 10 + j, none⟩) (by show w.heap.size ≤ g; omega) _⟩
set_option maxRecDepth 10000 in
set_option maxHeartbeats 4000000 in
theorem turned_any (w : World) (no : Option Addr) (nc nn : Nat) (fo : Option Addr) (fc fn : Nat) (N : List Nd) (F : List Int) (hnn : nn = N.length) (hfn : fn = F.length) (hN : Nodes w no nc N) (hF : Ints w fo fc F) (hKN : KNil w no N) (hfz : fo = none → fc = 0) (hn1 : nn ≤ 120000) (hf1 : fn ≤ 120000) (hkl : ∀ n ∈ N, n.kids.length ≤ 10000000000) :
    Calls Tryz.prog 19 #[.agg #[.slice no nn nc, .slice fo fn fc]] w fun e w' => Turnd w w' nn fn N F e := by
  obtain ⟨w1, hw1⟩ : ∃ w1, w1 = (w.alloc (.cells #[.slice no nn nc, .slice fo fn fc] 27)).alloc (.cells #[.slice none 0 0, .slice none 0 0] 27) := ⟨_, rfl⟩
  have hb1 : Below w.heap.size w w1 := by rw [hw1]; exact ((Below.refl _ _).alloc (Nat.le_refl _) _).alloc (by simp) _
  have hs1 : w1.heap.size = w.heap.size + 2 := by rw [hw1]; simp
  have hr1 : w1.heap[w.heap.size + 1]? = some (.cells #[.slice none 0 0, .slice none 0 0] 27 (0, 0)) := by
    rw [hw1]
    have : (w.alloc (.cells #[.slice no nn nc, .slice fo fn fc] 27)).heap.size = w.heap.size + 1 := by simp
    rw [← this]
    exact heap_alloc_last _ _
  have COP := copied_any w1 no nc nn fo fc fn N F hnn hfn (hN.below hb1 (Nat.le_refl _)) (hF.below hb1 (Nat.le_refl _)) (hKN.below hN hb1) hfz hn1 hf1 hkl
  have HH : Hid (nn = N.length ∧ w1.heap.size = w.heap.size + 2) := ⟨hnn, hs1⟩
  have HW1 : Hid _ := hw1
  clear hnn hfn hkl hw1 hs1
  go_enter Tryz.func19, Tryz.ntmps19
  go_wp2_with (first | (go_at_call 17; rw [← HW1.out]; refine COP.mono ?_; rintro e w2 ⟨v, fv, P, rfl, HC, hP, HF, hap, hb2⟩; obtain ⟨va, vc, rfl⟩ := own_slice HC.own; obtain ⟨fa, fcc, rfl⟩ := own_slice HF.out))
  obtain ⟨w3, hw3⟩ : ∃ w3, w3 = w2.alloc (.cells #[.slice va nn vc, .slice fa fn fcc] 27) := ⟨_, rfl⟩
  have hb3 : Below w2.heap.size w2 w3 := by rw [hw3]; exact (Below.refl _ _).alloc (Nat.le_refl _) _
  have hs2 := hb2.size
  have HT0 : TI w w3 (w1.heap.size + 1 + 1 + 1) (.slice va nn vc) (.slice fa fn fcc) nn fn F w2.heap.size (w.heap.size + 1) P := ⟨HC.keep hb3, HF.keep hb3, by rw [hw3]; exact heap_alloc_last _ _, (hb3.block _ (by have := HH.out; omega)).trans ((hb2.block _ (by have := HH.out; omega)).trans hr1), hb1.trans ((hb2.trans (hb3.mono hs2)).mono (by have := HH.out; omega))⟩
  have HR0 : TRN N P 0 := TRN.zero hP
  rw [← hw3]
  obtain ⟨ub, hub⟩ : ∃ ub, ub = w2.heap.size := ⟨_, rfl⟩
  rw [← hub] at HT0 ⊢
  have hubl : w.heap.size + 1 < ub := by have := HH.out; omega
  have hBl : w.heap.size + 1 < w1.heap.size + 1 + 1 + 1 := by have := HH.out; omega
  obtain ⟨B, hB⟩ : ∃ B, B = w1.heap.size + 1 + 1 + 1 := ⟨_, rfl⟩
  rw [← hB] at HT0 hBl
  clear hw3 hb3 hub HC HF hap hb2 hs2 COP HW1 hP hr1 hB hb1
  go_loopw [4] (fun iv wr => ∃ (i : Nat) (P : List (Nd × Value)), i ≤ nn ∧ iv = .int .i64 i ∧ TI w wr B (.slice va nn vc) (.slice fa fn fcc) nn fn F ub (w.heap.size + 1) P ∧ TRN N P i) (fun iv _ => nn - (intOf iv).toNat)
  case atStart => exact ⟨0, P, by omega, rfl, HT0, HR0⟩
  case round =>
    clear HT0 HR0
    obtain ⟨i, P, hi, rfl, HT, HR⟩ := hrel
    have u0 : wr.cell? ⟨ub, 0, none⟩ = some (.slice va nn vc) := cell_arr HT.box rfl
    have u1 : wr.cell? ⟨ub, 1, none⟩ = some (.slice fa fn fcc) := cell_arr HT.box rfl
    by_cases hlt : i < nn
    · obtain ⟨g, vc', e, hvc1, hvc2, hg1, hg2⟩ := own_blkOf HT.cn.own (by omega)
      cases e
      have hiN : i < N.length := by have := HH.out; omega
      have hiP : i < P.length := by have := HR.len; omega
      have hPi := HR.out i hiP hiN
      rw [if_neg (by omega)] at hPi
      obtain ⟨nd, hnd⟩ : ∃ nd, nd = N[i] := ⟨_, rfl⟩
      rw [← hnd] at hPi
      have k0 : wr.cell? ⟨g, i * 10, none⟩ = some (.int .i64 nd.kind) := by
        have := row_cell HT.cn.own HT.cn.len i hiP 0 (by omega)
        rw [hPi] at this
        exact this
      have k7 : wr.cell? ⟨g, i * 10 + 7, none⟩ = some (.int .i64 nd.val) := by
        have := row_cell HT.cn.own HT.cn.len i hiP 7 (by omega)
        rw [hPi] at this
        exact this
      have z0 : wr.frozen? ⟨g, i * 10, none⟩ = false := row_fz HT.cn.own _
      have z7 : wr.frozen? ⟨g, i * 10 + 7, none⟩ = false := row_fz HT.cn.own _
      have hgu : ¬ g = ub := fun e => own_not HT.cn.own HT.box (by decide) (by rw [← e]; rfl)
      have hug : ¬ ub = g := fun e => hgu e.symm
      have HND : Hid (nd = N[i]) := hnd
      have HPI : Hid ((P[i]).1 = nd) := hPi
      clear hnd hPi
      have hc : nd.kind = 20 ∨ nd.kind = 21 ∨ nd.kind = 22 ∨ (¬ nd.kind = 20 ∧ ¬ nd.kind = 21 ∧ ¬ nd.kind = 22) := by omega
      rcases hc with hk | hk | hk | ⟨h1, h2, h3⟩
      · have HN : TRN N (P.set i ({ nd with val := bits BinOp.xor IntKind.i64 nd.val 1 }, (P[i]).2)) (i + 1) := HR.next hiN (by rw [← HND.out, tnd, if_pos hk])
        have HT2 := HT.set (by omega) i hiP 7 (by omega) (bits BinOp.xor IntKind.i64 nd.val 1) { nd with val := bits BinOp.xor IntKind.i64 nd.val 1 } (by rw [HPI.out]; rfl) (by rw [HPI.out])
        rw [hk] at k0
        clear hk
        go_wp2_with fail
        go_region
        go_wp2_with fail
        go_roundw
        case rel => exact ⟨i + 1, _, by omega, by go_num, HT2.drew, HN⟩
        case measure => simp [intOf]; omega
      · have HN : TRN N (P.set i ({ nd with kind := 22 }, (P[i]).2)) (i + 1) := HR.next hiN (by rw [← HND.out, tnd, if_neg (by omega), if_pos hk])
        have HT2 := HT.set (by omega) i hiP 0 (by omega) 22 { nd with kind := 22 } (by rw [HPI.out]; rfl) (by rw [HPI.out])
        rw [hk] at k0
        clear hk
        go_wp2_with fail
        go_roundw
        case rel => exact ⟨i + 1, _, by omega, by go_num, HT2, HN⟩
        case measure => simp [intOf]; omega
      · have HN : TRN N (P.set i ({ nd with kind := 21 }, (P[i]).2)) (i + 1) := HR.next hiN (by rw [← HND.out, tnd, if_neg (by omega), if_neg (by omega), if_pos hk])
        have HT2 := HT.set (by omega) i hiP 0 (by omega) 21 { nd with kind := 21 } (by rw [HPI.out]; rfl) (by rw [HPI.out])
        rw [hk] at k0
        clear hk
        go_wp2_with fail
        go_roundw
        case rel => exact ⟨i + 1, _, by omega, by go_num, HT2, HN⟩
        case measure => simp [intOf]; omega
      · have HN : TRN N P (i + 1) := HR.skip hiN (by rw [← HND.out, tnd, if_neg h1, if_neg h2, if_neg h3])
        go_wp2_with fail
        go_roundw
        case rel => exact ⟨i + 1, _, by omega, by go_num, HT, HN⟩
        case measure => simp [intOf]; omega
    · have hin : nn = i := by omega
      subst hin
      have hfin := HR.fin (by have := HH.out; omega)
      have HFIN : Hid (P.map Prod.fst = N.map tnd) := hfin
      clear hfin
      have r0 : wr.cell? ⟨w.heap.size + 1, 0, none⟩ = some (.slice none 0 0) := cell_arr HT.res rfl
      have r1 : wr.cell? ⟨w.heap.size + 1, 1, none⟩ = some (.slice none 0 0) := cell_arr HT.res rfl
      have rf0 : wr.frozen? ⟨w.heap.size + 1, 0, none⟩ = false := fz_of HT.res
      have rf1 : wr.frozen? ⟨w.heap.size + 1, 1, none⟩ = false := fz_of HT.res
      go_wp2_with fail
      have mv : ∀ g, B ≤ g → ((wr.setCell ⟨w.heap.size + 1, 0, none⟩ (.slice va nn vc)).setCell ⟨w.heap.size + 1, 1, none⟩ (.slice fa fn fcc)).heap[g]? = wr.heap[g]? := fun g hg => by
        rw [heap_set_other (by omega), heap_set_other (by omega)]
      have hbF : Below w.heap.size w ((wr.setCell ⟨w.heap.size + 1, 0, none⟩ (.slice va nn vc)).setCell ⟨w.heap.size + 1, 1, none⟩ (.slice fa fn fcc)) := (HT.bel.setCell (p := ⟨w.heap.size + 1, 0, none⟩) (by show w.heap.size ≤ w.heap.size + 1; omega) _).setCell (p := ⟨w.heap.size + 1, 1, none⟩) (by show w.heap.size ≤ w.heap.size + 1; omega) _
      exact bodyPost_ret (v := .agg #[.slice va nn vc, .slice fa fn fcc]) (by simp [results, Tryz.results19, go_sem, r0, r1]) rfl ⟨B, _, _, P, rfl, by omega, ⟨HT.cn.len, own_move HT.cn.own fun g hg => mv g (own_block HT.cn.own hg).1, fun p hp => ⟨(HT.cn.kid p hp).len, own_move (HT.cn.kid p hp).out fun g hg => mv g (own_block (HT.cn.kid p hp).out hg).1⟩, HT.cn.apt⟩, HFIN.out, ⟨HT.fu.len, own_move HT.fu.out fun g hg => mv g (own_block HT.fu.out hg).1⟩, hbF⟩
end Go.Proofs.YtchobeakieljpaaGreatDoor
namespace Go.Proofs.YtchobeakieljpaaGreatDoor
open Go.ChangeShapes Go.WideShapes Go.ChangeAt Go.RowKit

/-- What a Print answers. -/
structure PR2 (w w' : World) (r : Int) (L : List UInt8) (e : Ending) : Prop where
  out : ∃ a n c, e = .returned (.tuple #[.slice a n c, .int .i64 r]) ∧ OwnB w' w.heap.size (.slice a n c) n L
  bel : Below w.heap.size w w'
/-- A tree that the statements play. -/
structure TFit (T : Tr) : Prop where
  nn : T.nodes.length ≤ 120000
  fn : T.funcs.length ≤ 120000
  kb : ∀ n ∈ T.nodes, n.kids.length ≤ 120000
  sb : ∀ n ∈ T.nodes, n.name.length ≤ 1000000000000000
  vb : ∀ n ∈ T.nodes, n.val ≤ 9223372036854775807
  dp : (T.nodes.map c3).sum * T.nodes.length ≤ 16777216
/-- Both Prints answer the same, no longer than they may. -/
theorem both2 (T : Tr) (h : TFit T) : ∃ (r : Int) (L : List UInt8),
    (∀ (w : World) (no : Option Addr) (nc nn : Nat) (fo : Option Addr) (fc fn : Nat), AllTab w → nn = T.nodes.length → fn = T.funcs.length → Nodes w no nc T.nodes → Ints w fo fc T.funcs → Calls Tryz.prog 8 #[.agg #[.slice no nn nc, .slice fo fn fc]] w fun e w' => PR2 w w' r L e)
    ∧ (∀ (w : World) (no : Option Addr) (nc nn : Nat) (fo : Option Addr) (fc fn : Nat), nn = T.nodes.length → fn = T.funcs.length → Nodes w no nc T.nodes → Ints w fo fc T.funcs → Calls Tryz.prog 9 #[.agg #[.slice no nn nc, .slice fo fn fc]] w fun e w' => PR2 w w' r L e) ∧ L.length ≤ 900000000 := by
  have h1 := h.nn
  have h2 := h.fn
  by_cases hc : chk T = true
  · obtain ⟨S', hP, hL⟩ := prints_ok hc h.vb h.nn h.dp
    refine ⟨0, S'.text, fun w no nc nn fo fc fn hA hnn hfn hN hF => ?_, fun w no nc nn fo fc fn hnn hfn hN hF => ?_, hL⟩
    · refine (print_all w hA.tab hA.lo hA.t1 hA.t2 hA.tp no nc nn fo fc fn T hnn hfn hN hF (by omega) hc S' hP).mono ?_
      rintro e w' ⟨⟨v, n, he, hO⟩, hb⟩
      obtain ⟨a, c, rfl⟩ := own_slice hO.out
      exact ⟨⟨a, n, c, he, hO⟩, hb⟩
    · refine (rPrint_yes w no nc nn fo fc fn T hnn hfn hN hF (by omega) (by omega) h.kb h.sb h.vb hc S' hP hL).mono ?_
      rintro e w' ⟨⟨v, n, he, hO⟩, hb⟩
      obtain ⟨a, c, rfl⟩ := own_slice hO.out
      exact ⟨⟨a, n, c, he, ⟨hO.len, own_base hO.out (by omega)⟩⟩, hb⟩
  · have hc' : chk T = false := by simpa using hc
    refine ⟨30, [], fun w no nc nn fo fc fn hA hnn hfn hN hF => ?_, fun w no nc nn fo fc fn hnn hfn hN hF => ?_, by simp⟩
    · refine (print_no w hA.tab no nc nn fo fc fn T hnn hfn hN hF (by omega) hc').mono ?_
      rintro e w' ⟨rfl, hb⟩
      exact ⟨⟨none, 0, 0, rfl, OwnB.nil _ _⟩, hb⟩
    · refine (rPrint_no w no nc nn fo fc fn T hnn hfn hN hF (by omega) (by omega) (fun n hn => by have := h.kb n hn; omega) h.sb hc').mono ?_
      rintro e w' ⟨rfl, hb⟩
      exact ⟨⟨none, 0, 0, rfl, OwnB.nil _ _⟩, hb⟩
/-- Both Prints answer the same. -/
theorem both (T : Tr) (h : TFit T) : ∃ (r : Int) (L : List UInt8),
    (∀ (w : World) (no : Option Addr) (nc nn : Nat) (fo : Option Addr) (fc fn : Nat), AllTab w → nn = T.nodes.length → fn = T.funcs.length → Nodes w no nc T.nodes → Ints w fo fc T.funcs → Calls Tryz.prog 8 #[.agg #[.slice no nn nc, .slice fo fn fc]] w fun e w' => PR2 w w' r L e)
    ∧ (∀ (w : World) (no : Option Addr) (nc nn : Nat) (fo : Option Addr) (fc fn : Nat), nn = T.nodes.length → fn = T.funcs.length → Nodes w no nc T.nodes → Ints w fo fc T.funcs → Calls Tryz.prog 9 #[.agg #[.slice no nn nc, .slice fo fn fc]] w fun e w' => PR2 w w' r L e) := by
  obtain ⟨r, L, h1, h2, _⟩ := both2 T h
  exact ⟨r, L, h1, h2⟩
theorem tnd_c3 (n : Nd) : c3 (tnd n) = c3 n := by
  unfold tnd c3
  split
  · rfl
  · split
    · rename_i h1 h2
      simp [h2]
    · split
      · rename_i h1 h2 h3
        simp [h3]
      · rfl
theorem tnd_val (n : Nd) (h : n.val ≤ 9223372036854775807) : (tnd n).val ≤ 9223372036854775807 := by
  unfold tnd
  split
  · have := wf_bits BinOp.xor IntKind.i64 n.val 1
    simp only [Lit.wf, IntKind.min, IntKind.max, IntKind.signed, IntKind.bits, Bool.and_eq_true, decide_eq_true_eq, if_true] at this
    have := this.2
    simpa using this
  · split
    · exact h
    · split <;> exact h
theorem TFit.turn {T : Tr} (h : TFit T) : TFit ⟨T.nodes.map tnd, T.funcs⟩ := by
  refine ⟨by simpa using h.nn, h.fn, ?_, ?_, ?_, ?_⟩
  · intro n hn
    obtain ⟨m, hm, rfl⟩ := List.mem_map.1 hn
    rw [tnd_kids]; exact h.kb m hm
  · intro n hn
    obtain ⟨m, hm, rfl⟩ := List.mem_map.1 hn
    rw [tnd_name]; exact h.sb m hm
  · intro n hn
    obtain ⟨m, hm, rfl⟩ := List.mem_map.1 hn
    exact tnd_val m (h.vb m hm)
  · have e : (T.nodes.map tnd).map c3 = T.nodes.map c3 := by
      rw [List.map_map]
      exact List.map_congr_left fun n _ => tnd_c3 n
    show ((T.nodes.map tnd).map c3).sum * (T.nodes.map tnd).length ≤ _
    rw [e, List.length_map]
    exact h.dp
/-- A text that was answered behind a lent tree outlives what is written into that. -/
theorem OwnB.tch {w w' : World} {B E B' v n M} (h : OwnB w B' v n M) (ht : Tch B E w w') (hE : E ≤ B') : OwnB w' B' v n M := ⟨h.len, own_move h.out fun g hg => ht.blk g (by have := own_block h.out hg; omega) (own_block h.out hg).2⟩
end Go.Proofs.YtchobeakieljpaaGreatDoor
namespace Go.Proofs.YtchobeakieljpaaGreatDoor
open Go.ChangeShapes Go.WideShapes Go.ChangeAt Go.RowKit

theorem map_tnd_kids (N : List Nd) : (N.map tnd).map Nd.kids = N.map Nd.kids := by
  rw [List.map_map]
  exact List.map_congr_left fun n _ => tnd_kids n
set_option maxRecDepth 10000 in
set_option maxHeartbeats 8000000 in
theorem prints_any (w : World) (hA : AllTab w) (no : Option Addr) (nc nn : Nat) (fo : Option Addr) (fc fn : Nat) (T : Tr) (hnn : nn = T.nodes.length) (hfn : fn = T.funcs.length) (hN : Nodes w no nc T.nodes) (hF : Ints w fo fc T.funcs) (hKN : KNil w no T.nodes) (hfz : fo = none → fc = 0) (hT : TFit T) :
    Calls Tryz.prog 7 #[.agg #[.slice no nn nc, .slice fo fn fc]] w fun e w' => e = .returned (.bool true) ∧ Below w.heap.size w w' := by
  obtain ⟨r, L, TP, RPT⟩ := both T hT
  obtain ⟨r2, L2, TP2, RPT2⟩ := both ⟨T.nodes.map tnd, T.funcs⟩ hT.turn
  have HTP : Hid _ := TP
  have HRP : Hid _ := RPT
  have HTP2 : Hid _ := TP2
  have HRP2 : Hid _ := RPT2
  have HH : Hid (nn = T.nodes.length ∧ fn = T.funcs.length) := ⟨hnn, hfn⟩
  have HTF : Hid (TFit T) := hT
  have HA : Hid (AllTab w) := hA
  have hm : nn ≤ 120000 := by rw [hnn]; exact hT.nn
  have hfm : fn ≤ 120000 := by rw [hfn]; exact hT.fn
  clear TP RPT TP2 RPT2 hnn hfn hT hA
  go_enter Tryz.func7, Tryz.ntmps7
  go_wp2_with fail
  obtain ⟨w1, hw1⟩ : ∃ w1, w1 = w.alloc (.cells #[.slice no nn nc, .slice fo fn fc] 27) := ⟨_, rfl⟩
  have hb1 : Below w.heap.size w w1 := by rw [hw1]; exact (Below.refl _ _).alloc (Nat.le_refl _) _
  have hbx1 : w1.heap[w.heap.size]? = some (.cells #[.slice no nn nc, .slice fo fn fc] 27 (0, 0)) := by rw [hw1]; exact heap_alloc_last _ _
  have hs1 : w1.heap.size = w.heap.size + 1 := by rw [hw1]; simp
  rw [← hw1]
  have HS1 : Hid (w1.heap.size = w.heap.size + 1) := hs1
  clear hw1 hs1
  refine (lend_any w1 no nc nn fo fc fn T HH.out.1 HH.out.2 (hN.below hb1 (Nat.le_refl _)) (hF.below hb1 (Nat.le_refl _)) (hKN.below hN hb1) hfz hm hfm HTF.out.kb).mono ?_
  rintro e w2 ⟨⟨s, M, C, FC, rfl, hsB, hsE, hsn, hsf, HL2, HT⟩, hb2⟩
  have HSS : Hid (s.B = w.heap.size + 2 ∧ s.E = w2.heap.size ∧ s.n = nn ∧ s.fn = fn) := ⟨by rw [hsB, HS1.out], hsE, by rw [hsn, HH.out.1], by rw [hsf, HH.out.2]⟩
  clear hsB hsE hsn hsf
  have hbx2 := (hb2.block w.heap.size (by have := HS1.out; omega)).trans hbx1
  have hw2 : Below w.heap.size w w2 := hb1.trans (hb2.mono (by have := HS1.out; omega))
  have q0 := HL2.cells.1
  have q1 := HL2.cells.2.1
  go_wp2_with fail
  refine (HTP.out w2 (some ⟨s.nb, 0, none⟩) s.nc s.n (some ⟨s.fb, 0, none⟩) s.fc s.fn (HA.out.below hw2) (by rw [HSS.out.2.2.1, HH.out.1]) (by rw [HSS.out.2.2.2, HH.out.2]) (HL2.nodes (by rw [HSS.out.2.2.1, HH.out.1]; exact HT.fi) (by rw [HSS.out.2.2.1, HH.out.1])) (HL2.ints (by rw [HT.fc, HSS.out.2.2.2, HH.out.2]; simp))).mono ?_
  rintro e w3 ⟨⟨ba, bn, bc, rfl, HB3⟩, hb3⟩
  clear q0 q1
  have HL3 := HL2.keep hb3
  have hw3 : Below w.heap.size w w3 := hw2.trans (hb3.mono hw2.size)
  have hbx3 := (hb3.block w.heap.size (Array.getElem?_eq_some_iff.1 hbx2).1).trans hbx2
  have p0 : w3.cell? ⟨w.heap.size, 0, none⟩ = some (.slice no nn nc) := cell_arr hbx3 rfl
  have p1 : w3.cell? ⟨w.heap.size, 1, none⟩ = some (.slice fo fn fc) := cell_arr hbx3 rfl
  go_wp2_with fail
  refine (HRP.out w3 no nc nn fo fc fn HH.out.1 HH.out.2 (hN.below hw3 (Nat.le_refl _)) (hF.below hw3 (Nat.le_refl _))).mono ?_
  rintro e w4 ⟨⟨wa, wn, wc, rfl, HW4⟩, hb4⟩
  clear p0 p1
  have hs3 := hb3.size
  have hs4 := hb4.size
  have HL4 := HL3.keep hb4
  have HB4 := HB3.keep hb4
  have hw4 : Below w.heap.size w w4 := hw3.trans (hb4.mono hw3.size)
  have hbx4 := (hb4.block w.heap.size (Array.getElem?_eq_some_iff.1 hbx3).1).trans hbx3
  have p0 : w4.cell? ⟨w.heap.size, 0, none⟩ = some (.slice no nn nc) := cell_arr hbx4 rfl
  have p1 : w4.cell? ⟨w.heap.size, 1, none⟩ = some (.slice fo fn fc) := cell_arr hbx4 rfl
  go_wp2_with fail
  refine (kept_any w4 s M C FC HL4 no nc nn fo fc fn T (hN.below hw4 (Nat.le_refl _)) (hF.below hw4 (Nat.le_refl _)) HT HH.out.1 HH.out.2 HSS.out.2.2.1 HSS.out.2.2.2 (by omega) (by omega) (fun n hn => by have := HTF.out.kb n hn; omega)).mono ?_
  rintro e w5 ⟨rfl, ⟨M5, C5, HL5, HS5⟩, ht5⟩
  clear p0 p1 HL4 HL3 HL2
  have HB5 := HB4.tch ht5 (by have := HSS.out; omega)
  have HW5 := HW4.tch ht5 (by have := HSS.out; omega)
  have hw5 : Below w.heap.size w w5 := hw4.trans (ht5.bel.mono (by have := HSS.out; omega))
  have hbx5 := (ht5.bel.block w.heap.size (by have := HSS.out; omega)).trans hbx4
  have p0 : w5.cell? ⟨w.heap.size, 0, none⟩ = some (.slice no nn nc) := cell_arr hbx5 rfl
  have p1 : w5.cell? ⟨w.heap.size, 1, none⟩ = some (.slice fo fn fc) := cell_arr hbx5 rfl
  have hE5 : s.E ≤ w5.heap.size := HL5.top.2.2.2.1
  clear HB3 HB4 HW4
  go_wp2_with fail
  refine (turned_any w5 no nc nn fo fc fn T.nodes T.funcs HH.out.1 HH.out.2 (hN.below hw5 (Nat.le_refl _)) (hF.below hw5 (Nat.le_refl _)) (hKN.below hN hw5) hfz (by omega) (by omega) (fun n hn => by have := HTF.out.kb n hn; omega)).mono ?_
  rintro e w6 ⟨B', v, fv, P, rfl, hB', HC6, hP, HF6, hb6⟩
  clear p0 p1
  obtain ⟨va, vc, rfl⟩ := own_slice HC6.own
  obtain ⟨fa, fcc, rfl⟩ := own_slice HF6.out
  have HPP : Hid (P.map Prod.fst = T.nodes.map tnd) := hP
  clear hP
  go_wp2_with fail
  obtain ⟨ub, hub⟩ : ∃ ub, ub = w6.heap.size := ⟨_, rfl⟩
  obtain ⟨w7, hw7⟩ : ∃ w7, w7 = w6.alloc (.cells #[.slice va nn vc, .slice fa fn fcc] 27) := ⟨_, rfl⟩
  have hb7 : Below w6.heap.size w6 w7 := by rw [hw7]; exact (Below.refl _ _).alloc (Nat.le_refl _) _
  have hbx7 : w7.heap[ub]? = some (.cells #[.slice va nn vc, .slice fa fn fcc] 27 (0, 0)) := by rw [hw7, hub]; exact heap_alloc_last _ _
  have hs6 := hb6.size
  have hub5 : w5.heap.size ≤ ub := by rw [hub]; exact hs6
  have hb57 : Below w5.heap.size w5 w7 := hb6.trans (hb7.mono hs6)
  rw [← hw7, ← hub]
  have HL7 := HL5.keep hb57
  have HB7 := HB5.keep hb57
  have HW7 := HW5.keep hb57
  have HC7 := HC6.keep hb7
  have HF7 := HF6.keep hb7
  have hw7' : Below w.heap.size w w7 := hw5.trans (hb57.mono hw5.size)
  have hbxt := (hb57.block w.heap.size (Array.getElem?_eq_some_iff.1 hbx5).1).trans hbx5
  clear hw7 hub hb7 hb6 hb57 HC6 HF6 HB5 HW5 HL5
  obtain ⟨no8, nc8, fo8, fc8, e1, e2, HAp⟩ := Ap.new (B := s.B) (E := s.E) HC7 HF7 (by omega)
  cases e1
  cases e2
  refine (fill_any w7 s M5 C5 FC HL7 va vc nn fa fcc fn (P.map Prod.fst) T.funcs HAp (by rw [HPP.out, List.length_map]; exact HH.out.1) HH.out.2 HSS.out.2.2.1 HSS.out.2.2.2 (by omega) (by omega) (HT.shp HS5 (by rw [HPP.out]; exact map_tnd_kids _) HTF.out.kb)).mono ?_
  rintro e w8 ⟨rfl, ⟨⟨M8, C8', FC8, HL8, HS8, HF8, HG8⟩, ht8⟩⟩
  have HB8 := HB7.tch ht8 (by have := HSS.out; omega)
  have HW8 := HW7.tch ht8 (by have := HSS.out; omega)
  have hw8 : Below w.heap.size w w8 := hw7'.trans (ht8.bel.mono (by have := HSS.out; omega))
  have hub8 := ht8.box (by omega : s.E ≤ ub) hbx7
  have q0 := HL8.cells.1
  have q1 := HL8.cells.2.1
  clear HB7 HW7 HL7
  go_wp2_with fail
  refine (HTP2.out w8 (some ⟨s.nb, 0, none⟩) s.nc s.n (some ⟨s.fb, 0, none⟩) s.fc s.fn (HA.out.below hw8) (by rw [HSS.out.2.2.1, HH.out.1]; simp) (by rw [HSS.out.2.2.2, HH.out.2]) (by rw [← HPP.out]; exact HL8.nodes HF8 (by rw [HPP.out, List.length_map, HSS.out.2.2.1, HH.out.1])) (HL8.ints HG8)).mono ?_
  rintro e w9 ⟨⟨ca, cn, cc, rfl, HC9⟩, hb9⟩
  clear q0 q1
  have hs9 := hb9.size
  have HB9 := HB8.keep hb9
  have HW9 := HW8.keep hb9
  have hub9 := (hb9.block ub (Array.getElem?_eq_some_iff.1 hub8).1).trans hub8
  have b0 : w9.cell? ⟨ub, 0, none⟩ = some (.slice va nn vc) := cell_arr hub9 rfl
  have b1 : w9.cell? ⟨ub, 1, none⟩ = some (.slice fa fn fcc) := cell_arr hub9 rfl
  have ht9 : Tch s.B s.E w7 w9 := ht8.below hb9 (by have := HL8.top.2.2.2.1; have := HL8.bot; have := HL8.top.2.2.1; omega)
  have hw9 : Below w.heap.size w w9 := hw8.trans (hb9.mono hw8.size)
  clear HB8 HW8
  go_wp2_with fail
  refine (HRP2.out w9 va vc nn fa fcc fn (by simpa using HH.out.1) HH.out.2 (by have := HAp.nod w9 ht9; rw [HPP.out] at this; exact this) (HAp.fun_ w9 ht9)).mono ?_
  rintro e w10 ⟨⟨va9, vn, vc9, rfl, HV10⟩, hb10⟩
  clear b0 b1
  have h1 := (HB9.keep hb10).conv0
  have h2 := (HW9.keep hb10).conv0
  have h3 := (HC9.keep hb10).conv0
  have h4 := HV10.conv0
  have hw10 : Below w.heap.size w w10 := hw9.trans (hb10.mono hw9.size)
  generalize bs L = t1 at *
  generalize bs L2 = t2 at *
  clear HB9 HW9 HC9 HV10 HL8 HF8 HG8 HAp HC7 HF7 ht8 ht9 hub8 hub9 hbx7
  go_wp2_with (first | (go_at_call 13; refine (num3_any _ _).mono ?_; rintro e w' ⟨rfl, rfl⟩))
  go_ret
  exact ⟨by simp, hw10⟩
end Go.Proofs.YtchobeakieljpaaGreatDoor
namespace Go.Proofs.YtchobeakieljpaaGreatDoor
open Go.ChangeShapes Go.WideShapes Go.ChangeAt Go.RowKit

theorem rowx_cell {w : World} {B g c n : Nat} {e : TypeId} {z : Nat} {M : List Value} (h : w.ownsRow B e z (.slice (some ⟨g, 0, none⟩) n c) n M) (q : Nat) (hq : q < n * z) : w.cell? ⟨g, q, none⟩ = M[q]? := by
  rcases h.2 with ⟨e, _⟩ | ⟨g', cap, cur, e, e2, e3, e4, e5, e6, e7⟩
  · cases e
  · cases e
    have hM := h.1
    have h1 : M[q]? = cur[q]? := by rw [← e7, List.getElem?_take, if_pos hq]; simp
    have h2 : M[q]? = some (M[q]'(by omega)) := List.getElem?_eq_getElem _
    rw [h2] at h1 ⊢
    simp [World.cell?, e3, ← h1]
theorem rowx_fz {w : World} {B g c n : Nat} {e : TypeId} {z : Nat} {M : List Value} (h : w.ownsRow B e z (.slice (some ⟨g, 0, none⟩) n c) n M) (q : Nat) : w.frozen? ⟨g, q, none⟩ = false := by
  rcases h.2 with ⟨e, _⟩ | ⟨g', cap, cur, e, e2, e3, _⟩
  · cases e
  · cases e
    exact fz_of e3
theorem rowx_set {w : World} {B g c n : Nat} {e : TypeId} {z : Nat} {M : List Value} (h : w.ownsRow B e z (.slice (some ⟨g, 0, none⟩) n c) n M) (q : Nat) (hq : q < n * z) (u : Value) : (w.setCell ⟨g, q, none⟩ u).ownsRow B e z (.slice (some ⟨g, 0, none⟩) n c) n (M.set q u) := by
  rcases h.2 with ⟨e, _⟩ | ⟨g', cap, cur, e, e2, e3, e4, e5, e6, e7⟩
  · cases e
  · cases e
    refine ⟨by simpa using h.1, .inr ⟨g, c, cur.setIfInBounds q u, rfl, e2, heap_set_at e3, e4, e5, by simpa using e6, ?_⟩⟩
    rw [← e7]
    simp [List.take_set]
/-- A slice of bytes that holds Y, in a row of its own from block B on. -/
structure BOwn (w : World) (B : Nat) (v : Value) (Y : List UInt8) : Prop where
  out : w.ownsRow B 5 1 v Y.length (bvs Y)
theorem BOwn.keep {w w' B v Y} (h : BOwn w B v Y) (hb : Below w.heap.size w w') : BOwn w' B v Y := ⟨own_keep h.out hb.block⟩
def blk (a : Option Addr) : Option Nat := a.map Addr.block
theorem ob (a : Option Addr) (n c : Nat) : (Value.slice a n c).ownBlock = blk a := by cases a <;> rfl

/-- A family of token lists: list k lies at A k and holds X k. -/
structure BFam (w : World) (B m : Nat) (A : Nat → Option Addr) (C N : Nat → Nat) (X : Nat → List UInt8) : Prop where
  len : ∀ k, k < m → (X k).length = N k
  own : ∀ k, k < m → BOwn w B (.slice (A k) (N k) (C k)) (X k)
/-- No two share a block. -/
structure BApt (m : Nat) (A : Nat → Option Addr) : Prop where
  out : ∀ k l, k < m → l < m → k ≠ l → ∀ g, blk (A k) = some g → blk (A l) ≠ some g
/-- The list of the lists. -/
structure BLst (w : World) (B : Nat) (v : Value) (m : Nat) (A : Nat → Option Addr) (C N : Nat → Nat) : Prop where
  out : w.ownsRow B 30 1 v m ((List.range m).map fun k => Value.slice (A k) (N k) (C k))

theorem BLst.view {w B v m A C N} (h : BLst w B v m A C N) : ∃ ao c, v = .slice ao m c ∧ m ≤ c ∧ c ≤ 9223372036854775807 ∧ (0 < m → ∃ b, ao = some ⟨b, 0, none⟩ ∧ B ≤ b ∧ b < w.heap.size ∧ ∀ k, k < m → w.cell? ⟨b, k, none⟩ = some (.slice (A k) (N k) (C k))) := by
  rcases h.out.2 with ⟨rfl, hn⟩ | ⟨g, cap, cur, rfl, e2, e3, e4, e5, e6, e7⟩
  · exact ⟨none, 0, by rw [hn], by omega, by omega, fun h => by omega⟩
  · refine ⟨_, cap, rfl, e4, e5, fun _ => ⟨g, rfl, e2, (Array.getElem?_eq_some_iff.1 e3).1, fun k hk => cell_arr e3 ?_⟩⟩
    have h1 : ((List.range m).map fun k => Value.slice (A k) (N k) (C k))[k]? = some (.slice (A k) (N k) (C k)) := by simp [hk]
    rw [← e7, List.getElem?_take, if_pos (by omega)] at h1
    simpa using h1
theorem BLst.move {w w' B v m A C N} (h : BLst w B v m A C N) (hk : ∀ g, v.ownBlock = some g → w'.heap[g]? = w.heap[g]?) : BLst w' B v m A C N := ⟨own_move h.out hk⟩
theorem BLst.keep {w w' B v m A C N} (h : BLst w B v m A C N) (hb : Below w.heap.size w w') : BLst w' B v m A C N := ⟨own_keep h.out hb.block⟩
theorem BFam.keep {w w' B m A C N X} (h : BFam w B m A C N X) (hb : Below w.heap.size w w') : BFam w' B m A C N X := ⟨h.len, fun k hk => (h.own k hk).keep hb⟩
theorem BFam.at {w B m A C N X} (h : BFam w B m A C N X) {k : Nat} (hk : k < m) (hn : 0 < N k) : ∃ g, A k = some ⟨g, 0, none⟩ ∧ B ≤ g ∧ g < w.heap.size := by
  have hl := h.len k hk
  rcases (h.own k hk).out.2 with ⟨e, e1⟩ | ⟨g, cap, cur, e, e2, e3, _⟩
  · omega
  · exact ⟨g, by simp at e; exact e.1, e2, (Array.getElem?_eq_some_iff.1 e3).1⟩

/-- List i alone is written over. -/
theorem BFam.put {w w' B m A C N X} (h : BFam w B m A C N X) (hA : BApt m A) {i : Nat} (hi : i < m) {Y : List UInt8} (hY : Y.length = N i) (hown : BOwn w' B (.slice (A i) (N i) (C i)) Y)
    (hg : w.grownBy w' (blk (A i))) : BFam w' B m A C N (fun k => if k = i then Y else X k) := by
  refine ⟨fun k hk => ?_, fun k hk => ?_⟩
  · by_cases e : k = i
    · subst e; simpa using hY
    · simpa [e] using h.len k hk
  · by_cases e : k = i
    · subst e; simpa using hown
    · simp only [e, if_false]
      exact ⟨own_grown (h.own k hk).out hg (fun g hg1 hg2 => hA.out k i hk hi e g (by rw [ob] at hg1; exact hg1) hg2)⟩

def bown_ (i j : Nat) : UInt8 := UInt8.ofNat (i + 1)
def bmks (i n : Nat) : List UInt8 := (List.range n).map (bown_ i)
theorem bmks_of {X : List UInt8} {i n : Nat} (hl : X.length = n) (h : ∀ l, l < n → X[l]? = some (bown_ i l)) : X = bmks i n := by
  apply List.ext_getElem?
  intro l
  by_cases hn : l < n
  · rw [h l hn]; simp [bmks, hn]
  · rw [List.getElem?_eq_none (by omega), List.getElem?_eq_none (by simp [bmks]; omega)]

structure BSt (w wr : World) (B : Nat) (v : Value) (m : Nat) (A : Nat → Option Addr) (C N : Nat → Nat) (X : Nat → List UInt8) : Prop where
  lst : BLst wr B v m A C N
  fam : BFam wr B m A C N X
  bel : Below B w wr

structure BMarked (i : Nat) (N : Nat → Nat) (X : Nat → List UInt8) : Prop where
  out : ∀ k, k < i → X k = bmks k (N k)
structure BMarking (i j : Nat) (X : Nat → List UInt8) : Prop where
  out : ∀ l, l < j → (X i)[l]? = some (bown_ i l)

theorem BSt.put {w wr w2 : World} {B m : Nat} {v : Value} {A : Nat → Option Addr} {C N : Nat → Nat} {X : Nat → List UInt8} (h : BSt w wr B v m A C N X) (hA : BApt m A) (hB : B ≤ w.heap.size) {i n c g : Nat} (hi : i < m) (hn : n = N i) (hc : c = C i) (hg : A i = some ⟨g, 0, none⟩)
    {Y : List UInt8} (hY : Y.length = n) (hown : BOwn w2 B (.slice (some ⟨g, 0, none⟩) n c) Y) (hgr : wr.grownBy w2 (Value.slice (some ⟨g, 0, none⟩) n c).ownBlock) : BSt w w2 B v m A C N (fun k => if k = i then Y else X k) := by
  have hb : blk (A i) = some g := by rw [hg]; rfl
  have hob : (Value.slice (some ⟨g, 0, none⟩) n c).ownBlock = blk (A i) := by rw [hb]; rfl
  have hold := h.fam.own i hi
  rw [hob] at hgr
  subst hn hc
  rw [← hg] at hown
  refine ⟨⟨own_grown h.lst.out hgr (fun q hq e => ?_)⟩, h.fam.put hA hi hY hown hgr, h.bel.grown hgr (Nat.le_trans hB h.bel.size) (fun k hk => (own_block hold.out (by rw [ob]; exact hk)).1)⟩
  exact own_apart h.lst.out hold.out (by decide) q hq (by rw [ob]; exact e)
theorem BMarked.put {i N X} (h : BMarked i N X) {Y : List UInt8} : BMarked i N (fun k => if k = i then Y else X k) := ⟨fun k hk => by
  have : k ≠ i := by omega
  simp only [this, if_false]
  exact h.out k hk⟩
theorem BMarked.next {i N X} (h : BMarked i N X) (hX : X i = bmks i (N i)) : BMarked (i + 1) N X := ⟨fun k hk => by
  rcases Nat.lt_succ_iff_lt_or_eq.1 hk with h1 | rfl
  · exact h.out k h1
  · exact hX⟩
theorem BMarking.put {i j X} (h : BMarking i j X) (hj : j < (X i).length) : BMarking i (j + 1) (fun k => if k = i then (X i).set j (bown_ i j) else X k) := ⟨fun l hl => by
  simp only [if_true]
  rcases Nat.lt_succ_iff_lt_or_eq.1 hl with h1 | rfl
  · rw [List.getElem?_set_ne (by omega)]; exact h.out l h1
  · simp [hj]⟩


def bfz (i : Nat) : UInt8 := UInt8.ofNat (i + 101)

/-- The front of a list, in the same row. -/
theorem bown_pre {w B g n c n0} {Y Y0 Z : List UInt8} (h : BOwn w B (.slice (some ⟨g, 0, none⟩) n c) Y) (hY : Y = Y0 ++ Z) (hn : n0 = Y0.length) : BOwn w B (.slice (some ⟨g, 0, none⟩) n0 c) Y0 := by
  subst hn hY
  rcases h.out.2 with ⟨e, _⟩ | ⟨g', cap, cur, e, e2, e3, e4, e5, e6, e7⟩
  · cases e
  · cases e
    refine ⟨by rw [bvs_len]; omega, .inr ⟨g, c, cur, rfl, e2, e3, by simp at e4; omega, e5, e6, ?_⟩⟩
    have : (cur.toList.take ((Y0 ++ Z).length * 1)).take (Y0.length * 1) = bvs Y0 := by
      rw [e7, show bvs (Y0 ++ Z) = bvs Y0 ++ bvs Z by simp [bvs]]
      rw [Nat.mul_one, ← bvs_len Y0]
      exact List.take_left
    rwa [List.take_take, Nat.min_eq_left (by simp)] at this

structure BGS (w wr : World) (B B2 : Nat) (v vf : Value) (m i : Nat) (A : Nat → Option Addr) (C N : Nat → Nat) (AF : Nat → Option Addr) (CF : Nat → Nat) : Prop where
  lst : BLst wr B v m A C N
  fam : BFam wr B m A C N (fun k => bmks k (N k))
  far : BLst wr B2 vf i AF CF (fun k => N k + 200)
  ff : BFam wr B i AF CF (fun k => N k + 200) (fun k => bmks k (N k) ++ List.replicate 200 (bfz k))
  apt : ∀ k l, k < i → i ≤ l → l < m → ∀ g, blk (AF k) = some g → blk (A l) ≠ some g
  bel : Below B w wr
  big : B ≤ B2 ∧ B2 ≤ wr.heap.size
  old : ∀ g, v.ownBlock = some g → g < B2

structure BGI (G : Value) (m i : Nat) (A : Nat → Option Addr) (C : Nat → Nat) (AF : Nat → Option Addr) : Prop where
  a1 : ∀ k, k < m → k ≠ i → ∀ g, blk (A k) = some g → G.ownBlock ≠ some g
  a2 : ∀ k, k < i → ∀ g, blk (AF k) = some g → G.ownBlock ≠ some g
  a3 : (∃ g n, A i = some ⟨g, 0, none⟩ ∧ G = .slice (some ⟨g, 0, none⟩) n (C i)) ∨ (∀ g, blk (A i) = some g → G.ownBlock ≠ some g)

theorem BGS.keep {w wr wr' B B2 v vf m i A C N AF CF} (h : BGS w wr B B2 v vf m i A C N AF CF) (hb : Below wr.heap.size wr wr') : BGS w wr' B B2 v vf m i A C N AF CF :=
  ⟨h.lst.keep hb, h.fam.keep hb, h.far.keep hb, h.ff.keep hb, h.apt, h.bel.trans (hb.mono (Nat.le_trans h.big.1 h.big.2)), ⟨h.big.1, Nat.le_trans h.big.2 hb.size⟩, h.old⟩

theorem BGS.first {w wr B B2 v vf m i A C N AF CF} (h : BGS w wr B B2 v vf m i A C N AF CF) (hA : BApt m A) (hi : i < m) : BGI (.slice (A i) (N i) (C i)) m i A C AF := by
  refine ⟨fun k hk hne g hg => ?_, fun k hk g hg => ?_, ?_⟩
  · rw [ob]; exact hA.out k i hk hi hne g hg
  · rw [ob]; exact h.apt k i hk (Nat.le_refl _) hi g hg
  · rcases (h.fam.own i hi).out.2 with ⟨e, _⟩ | ⟨g', cap, cur, e, _⟩
    · simp at e
      exact .inr fun g hg => by rw [e.1] at hg; cases hg
    · simp at e
      exact .inl ⟨g', N i, e.1, by rw [e.1]⟩

theorem BGS.grow {w wr wr' B B2 v vf m i A C N AF CF} (h : BGS w wr B B2 v vf m i A C N AF CF) (hi : i < m) {G G' : Value} {n j : Nat} (hI : BGI G m i A C AF) {t : UInt8}
    (hown : BOwn wr B G (bmks i (N i) ++ List.replicate j (bfz i))) (hgr : wr.grownBy wr' G.ownBlock) (hG : Grew wr wr' G G' n 1) (hown' : BOwn wr' B G' (bmks i (N i) ++ List.replicate (j + 1) (bfz i))) :
    BGS w wr' B B2 v vf m i A C N AF CF ∧ BGI G' m i A C AF := by
  refine ⟨⟨⟨own_grown h.lst.out hgr (own_apart h.lst.out hown.out (by decide))⟩, ⟨h.fam.len, fun k hk => ?_⟩, ⟨own_grown h.far.out hgr (own_apart h.far.out hown.out (by decide))⟩, ⟨h.ff.len, fun k hk => ⟨own_grown (h.ff.own k hk).out hgr (fun g hg e => hI.a2 k hk g (by rw [ob] at hg; exact hg) e)⟩⟩, h.apt, h.bel.grown hgr (Nat.le_trans h.big.1 h.big.2) (fun k hk => (own_block hown.out hk).1), ⟨h.big.1, Nat.le_trans h.big.2 hgr.size⟩, h.old⟩, ?_⟩
  · by_cases e : k = i
    · subst e
      rcases hI.a3 with ⟨g, n', hg, rfl⟩ | hno
      · cases hG with
        | room g' cap h1 h2 =>
          cases h1
          subst h2
          rw [hg]
          exact bown_pre hown' rfl (by simp [bmks])
        | new h1 h2 => exact ⟨own_grown (h.fam.own k hk).out h2 (fun _ _ e => by cases e)⟩
      · exact ⟨own_grown (h.fam.own k hk).out hgr (fun g hg e => hno g (by rw [ob] at hg; exact hg) e)⟩
    · exact ⟨own_grown (h.fam.own k hk).out hgr (fun g hg e' => hI.a1 k hk e g (by rw [ob] at hg; exact hg) e')⟩
  · cases hG with
    | room g' cap h1 h2 =>
      have hob : G'.ownBlock = G.ownBlock := by rw [h1, h2]; rfl
      refine ⟨fun k hk hne g hg => by rw [hob]; exact hI.a1 k hk hne g hg, fun k hk g hg => by rw [hob]; exact hI.a2 k hk g hg, ?_⟩
      rcases hI.a3 with ⟨g, n', hg, hG⟩ | hno
      · rw [h1] at hG
        cases hG
        exact .inl ⟨g', _, hg, h2⟩
      · exact .inr fun g hg => by rw [hob]; exact hno g hg
    | new h1 h2 =>
      refine ⟨fun k hk hne g hg e => ?_, fun k hk g hg e => ?_, .inr fun g hg e => ?_⟩
      · have := (own_block (h.fam.own k hk).out (by rw [ob]; exact hg)).2
        rw [h1] at e; cases e; omega
      · have := (own_block (h.ff.own k hk).out (by rw [ob]; exact hg)).2
        rw [h1] at e; cases e; omega
      · have := (own_block (h.fam.own i hi).out (by rw [ob]; exact hg)).2
        rw [h1] at e; cases e; omega

theorem BGS.next {w wr wr' B B2 v vf vf' m i A C N AF CF} (h : BGS w wr B B2 v vf m i A C N AF CF) (hi : i < m) {aG : Option Addr} {nG cG : Nat} (hn : nG = N i + 200) (hI : BGI (.slice aG nG cG) m i A C AF)
    (hown : BOwn wr B (.slice aG nG cG) (bmks i (N i) ++ List.replicate 200 (bfz i))) (hgr : wr.grownBy wr' vf.ownBlock)
    (hf : wr'.ownsRow B2 30 1 vf' (i + 1) ((List.range i).map (fun k => Value.slice (AF k) (N k + 200) (CF k)) ++ [.slice aG nG cG])) :
    BGS w wr' B B2 v vf' m (i + 1) A C N (fun k => if k = i then aG else AF k) (fun k => if k = i then cG else CF k) := by
  subst hn
  refine ⟨⟨own_grown h.lst.out hgr (fun q hq e => ?_)⟩, ⟨h.fam.len, fun k hk => ⟨own_grown (h.fam.own k hk).out hgr (own_apart (h.fam.own k hk).out h.far.out (by decide))⟩⟩, ⟨?_⟩, ⟨fun k hk => ?_, fun k hk => ?_⟩, fun k l hk hl hlm g hg => ?_, h.bel.grown hgr (Nat.le_trans h.big.1 h.big.2) (fun k hk => Nat.le_trans h.big.1 (own_block h.far.out hk).1), ⟨h.big.1, Nat.le_trans h.big.2 hgr.size⟩, h.old⟩
  · have := h.old q hq
    have := (own_block h.far.out e).1
    omega
  · rw [List.range_succ, List.map_append]
    have e : ((List.range i).map fun k => Value.slice (if k = i then aG else AF k) (N k + 200) (if k = i then cG else CF k)) = (List.range i).map (fun k => Value.slice (AF k) (N k + 200) (CF k)) := by
      apply List.map_congr_left
      intro k hk
      have : k ≠ i := by have := List.mem_range.1 hk; omega
      simp [this]
    rw [e]
    simpa using hf
  · simp only [bmks, List.length_append, List.length_replicate, List.length_map, List.length_range]
  · by_cases e : k = i
    · subst e
      simp only [if_true]
      exact ⟨own_grown hown.out hgr (own_apart hown.out h.far.out (by decide))⟩
    · simp only [e, if_false]
      exact ⟨own_grown (h.ff.own k (by omega)).out hgr (own_apart (h.ff.own k (by omega)).out h.far.out (by decide))⟩
  · by_cases e : k = i
    · subst e
      simp only [if_true] at hg
      intro e2
      exact hI.a1 l hlm (by omega) g e2 (by rw [ob]; exact hg)
    · simp only [e, if_false] at hg
      exact h.apt k l (by omega) (by omega) hlm g hg
end Go.Proofs.YtchobeakieljpaaGreatDoor
namespace Go.Proofs.YtchobeakieljpaaGreatDoor
open Go.ChangeShapes Go.WideShapes Go.ChangeAt Go.RowKit

theorem BOwn.tok {w B g n c} {Y : List UInt8} (h : BOwn w B (.slice (some ⟨g, 0, none⟩) n c) Y) {j : Nat} {t : UInt8} (ht : Y[j]? = some t) : w.cell? ⟨g, j, none⟩ = some (.int .u8 (t.toNat : Int)) ∧ w.frozen? ⟨g, j, none⟩ = false := by
  obtain ⟨hj, rfl⟩ := List.getElem?_eq_some_iff.1 ht
  rcases h.out.2 with ⟨e, _⟩ | ⟨g', cap, cur, e, e2, e3, e4, e5, e6, e7⟩
  · cases e
  · cases e
    have h1 := bvs_at Y j hj
    rw [← e7, List.getElem?_take, if_pos (by omega)] at h1
    exact ⟨cell_arr e3 (by rw [← h1]; simp), fz_of e3⟩
theorem BOwn.put {w B g n c} {Y : List UInt8} (h : BOwn w B (.slice (some ⟨g, 0, none⟩) n c) Y) {j : Nat} (hj : j < Y.length) (hn : n = Y.length) (y : UInt8) : BOwn (w.setCell ⟨g, j, none⟩ (.int .u8 (y.toNat : Int))) B (.slice (some ⟨g, 0, none⟩) n c) (Y.set j y) := by
  subst hn
  have := rowx_set h.out j (by omega) (.int .u8 (y.toNat : Int))
  have e : (bvs Y).set j (.int .u8 (y.toNat : Int)) = bvs (Y.set j y) := by simp [bvs, List.map_set]
  rw [e] at this
  exact ⟨by simpa using this⟩
theorem setCell_grown (w : World) (g j : Nat) (u : Value) : w.grownBy (w.setCell ⟨g, j, none⟩ u) (some g) := ⟨rfl, rfl, rfl, by simp [World.setCell], fun k hk hne => heap_set_other (fun e => hne (by rw [e]))⟩
theorem mark_nat {i : Nat} (h : i < 100) : ((bown_ i 0).toNat : Int) = (i : Int) + 1 ∧ ((bfz i).toNat : Int) = (i : Int) + 101 := by
  unfold bown_ bfz
  simp [UInt8.toNat_ofNat]
  omega
theorem own_slice4 {w : World} {B e s n xs} {v : Value} (h : w.ownsRow B e s v n xs) : ∃ a c, v = .slice a n c ∧ n ≤ c ∧ c ≤ 9223372036854775807 := by
  rcases h.2 with ⟨rfl, rfl⟩ | ⟨g, cap, cur, rfl, _, _, h1, h2, _⟩
  · exact ⟨none, 0, rfl, by omega, by omega⟩
  · exact ⟨_, cap, rfl, h1, h2⟩
theorem info28' : (Tryz.prog.info? 30).map (fun i => (i.zero, i.size, i.bytes)) = some (some (.slice none 0 0), 1, 24) := by kernel_rfl

set_option maxRecDepth 10000 in
set_option maxHeartbeats 4000000 in
theorem apart_any (w : World) (B : Nat) (hB : B ≤ w.heap.size) (v : Value) (m : Nat) (A : Nat → Option Addr) (C N : Nat → Nat) (X0 : Nat → List UInt8) (hL : BLst w B v m A C N) (hF : BFam w B m A C N X0) (hA : BApt m A)
    (hm : m ≤ 50) (hN : ∀ k, k < m → N k ≤ 900000000) : Calls Tryz.prog 10 #[v] w fun e w' => e = .returned (.bool true) ∧ Below B w w' := by
  obtain ⟨ao, cc, rfl, hc1, hc2, HV⟩ := hL.view
  have HN : Hid _ := hN
  clear hN HV
  obtain ⟨i0, hi0, hz0, hz1, hz2⟩ := info_parts info5
  obtain ⟨i1, hi1, hy0, hy1, hy2⟩ := info_parts info28'
  go_enter Tryz.func10, Tryz.ntmps10
  go_wp2_with fail
  go_loopw [3] (fun c wr => ∃ (i : Nat) (X : Nat → List UInt8), i ≤ m ∧ c = .int .i64 i ∧ BSt w wr B (.slice ao m cc) m A C N X ∧ BMarked i N X) (fun c _ => m - (intOf c).toNat)
  case atStart => exact ⟨0, X0, by omega, rfl, ⟨hL, hF, Below.refl _ _⟩, ⟨fun k hk => by omega⟩⟩
  case round =>
    obtain ⟨i, X, hi, rfl, HS, HM⟩ := hrel
    by_cases hlt : i < m
    · go_wp2_with fail
      go_loopw [4] (fun c wr => ∃ (j : Nat) (X : Nat → List UInt8), j ≤ N i ∧ c = .int .i64 j ∧ BSt w wr B (.slice ao m cc) m A C N X ∧ BMarked i N X ∧ BMarking i j X) (fun c _ => N i - (intOf c).toNat)
      case atStart => exact ⟨0, X, by omega, rfl, HS, HM, ⟨fun l hl => by omega⟩⟩
      case round =>
        obtain ⟨j, X, hj, rfl, HS, HM, HJ⟩ := hrel
        obtain ⟨_, _, e, _, _, HV⟩ := HS.lst.view
        cases e
        obtain ⟨b, rfl, hb1, hb2, hcells⟩ := HV (by omega)
        have hcell := hcells i hlt
        clear HV hcells
        obtain ⟨n, hn⟩ : ∃ n, n = N i := ⟨_, rfl⟩
        obtain ⟨ci, hci⟩ : ∃ c, c = C i := ⟨_, rfl⟩
        rw [← hn, ← hci] at hcell
        have hnl := HN.out i hlt
        by_cases hjn : j < N i
        · obtain ⟨g, hg, hg1, hg2⟩ := HS.fam.at hlt (by omega)
          rw [hg] at hcell
          have hown := HS.fam.own i hlt
          have hlen := HS.fam.len i hlt
          rw [hg, ← hn, ← hci] at hown
          rw [← hn] at hjn hnl hlen
          have HC : Hid (n = N i ∧ ci = C i ∧ A i = some ⟨g, 0, none⟩) := ⟨hn, hci, hg⟩
          clear hn hci hg hj
          obtain ⟨y, hy⟩ : ∃ y, (X i)[j]? = some y := ⟨_, List.getElem?_eq_getElem (by omega)⟩
          obtain ⟨hcl, hfz⟩ := hown.tok hy
          generalize y.toNat = old at hcl
          clear hy
          have HO := show Hid _ from hown
          clear hown
          have hi100 : i < 100 := by omega
          have hw1 : IntKind.u8.wrap ((i : Int) + 1) = (i : Int) + 1 := by rw [IntKind.wrap_u8]; omega
          go_wp2_with fail
          go_roundw
          case rel =>
            have hp := HO.out.put (j := j) (by omega) (by omega) (bown_ i j)
            rw [show ((bown_ i j).toNat : Int) = (i : Int) + 1 from (mark_nat hi100).1] at hp
            exact ⟨j + 1, _, by have := HC.out.1; omega, by go_num, HS.put hA hB hlt HC.out.1 HC.out.2.1 HC.out.2.2 (by simp; exact hlen) hp (setCell_grown _ _ _ _), HM.put, HJ.put (by omega)⟩
          case measure => have := HC.out.1; simp [intOf]; omega
        · have HX := bmks_of (HS.fam.len i hlt) (fun l hl => HJ.out l (by omega))
          have hje : j = N i := by omega
          rw [← hn] at hjn hnl hje
          have HC : Hid (n = N i ∧ ci = C i) := ⟨hn, hci⟩
          clear hn hci hj
          go_wp2_with fail
          go_roundw
          case rel => exact ⟨i + 1, X, by omega, by go_num, HS, HM.next HX⟩
          case measure => simp [intOf]; omega
    · have him : m = i := by omega
      subst him
      obtain ⟨B2, hB2⟩ : ∃ b, b = wr.heap.size := ⟨_, rfl⟩
      have hB3 := HS.bel.size
      have HG0 : BGS w wr B B2 (.slice ao m cc) (.slice none 0 0) m 0 A C N A C :=
        ⟨HS.lst, ⟨fun k hk => by simp [bmks], fun k hk => by have := HS.fam.own k hk; rw [HM.out k hk] at this; exact this⟩, ⟨World.ownsRow_nil _ _ _ _⟩, ⟨fun k hk => by omega, fun k hk => by omega⟩, fun k l hk => by omega, HS.bel, ⟨by omega, by omega⟩, fun g hg => by have := (own_block HS.lst.out hg).2; omega⟩
      clear hB2 HS HM hlt
      go_wp2_with fail
      go_loopw [5, 6] (fun vf c wr => ∃ (i : Nat) (AF : Nat → Option Addr) (CF : Nat → Nat), i ≤ m ∧ c = .int .i64 i ∧ BGS w wr B B2 (.slice ao m cc) vf m i A C N AF CF) (fun _ c _ => m - (intOf c).toNat)
      case atStart => exact ⟨0, _, _, by omega, rfl, HG0⟩
      case round =>
        obtain ⟨i, AF, CF, hi, rfl, HG⟩ := hrel
        by_cases hlt : i < m
        · obtain ⟨_, _, e, _, _, HV⟩ := HG.lst.view
          cases e
          obtain ⟨b, rfl, hb1, hb2, hcells⟩ := HV (by omega)
          have hcell := hcells i hlt
          clear HV hcells
          have hnl := HN.out i hlt
          have hsz := HG.big.2
          go_wp2_with fail
          go_loopw [7, 8] (fun G c wr => ∃ j : Nat, j ≤ 200 ∧ c = .int .i64 j ∧ BGS w wr B B2 (.slice (some ⟨b, 0, none⟩) m cc) u5 m i A C N AF CF ∧ BGI G m i A C AF ∧ BOwn wr B G (bmks i (N i) ++ List.replicate j (bfz i))) (fun _ c _ => 200 - (intOf c).toNat)
          case atStart => exact ⟨0, by omega, rfl, HG, HG.first hA hlt, by simpa using HG.fam.own i hlt⟩
          case round =>
            obtain ⟨j, hj, rfl, HG, HI, HO⟩ := hrel
            have hsz := HG.big
            have hlen : (bmks i (N i) ++ List.replicate j (bfz i)).length = N i + j := by simp [bmks]
            by_cases hj6 : j < 200
            · have hi100 : i < 100 := by omega
              have hw1 : IntKind.u8.wrap ((i : Int) + 101) = (i : Int) + 101 := by rw [IntKind.wrap_u8]; omega
              have hob := HO.out
              rw [hlen] at hob
              obtain ⟨aG, cG, e, g1, g2⟩ := own_slice4 hob
              subst e
              have HOB := show Hid (∀ o, (wr.alloc o).ownsRow B 5 1 (.slice aG (N i + j) cG) (N i + j) (bvs (bmks i (N i) ++ List.replicate j (bfz i)))) from fun o => hob.alloc o
              clear hob
              have hNl := HN.out i hlt
              go_wp2_with (first | (at_builtin; refine wpList_append_where rfl _ _ 30 rfl B 5 i0 _ 1 1 Tryz.underlying30 hi0 hz0 hz1 hz2 rfl (by decide) _ (N i + j) _ ?_ (HOB.out _) ⟨wr.heap.size, 0, none⟩ 1 1 (by omega) [.int .u8 ((i : Int) + 101)] ?_ rfl (cell_one_new _ _ _) (fun x hx => by simp at hx; subst hx; rfl) (by unfold maxLen; omega) (by omega) (by simp; omega) ?_; (next => rfl); (next => rfl); intro v7 w7 hown7 hgr7 hG7) | go_in)
              have hO7 : BOwn w7 B v7 (bmks i (N i) ++ List.replicate (j + 1) (bfz i)) := ⟨by
                rw [List.replicate_succ', ← List.append_assoc, bvs_append, List.length_append, hlen]
                have e5 : bvs [bfz i] = [.int .u8 ((i : Int) + 101)] := by simp [bvs]; exact (mark_nat hi100).2
                rw [e5]
                exact hown7⟩
              have h7 := (HG.keep ((Below.refl _ _).alloc (Nat.le_refl _) _)).grow hlt HI (t := bfz i) (HO.keep ((Below.refl _ _).alloc (Nat.le_refl _) _)) hgr7 hG7 hO7
              clear hown7 hgr7 hG7
              go_roundw
              case rel => exact ⟨j + 1, by omega, by go_num, h7.1, h7.2, hO7⟩
              case measure => simp [intOf]; omega
            · have hje : j = 200 := by omega
              subst hje
              obtain ⟨aG, cG, e, _, _⟩ := own_slice4 HO.out
              rw [hlen] at e
              subst e
              go_wp2_with (first | (at_builtin; refine wpList_append_own _ rfl _ _ 29 rfl B2 30 i1 _ 1 24 Tryz.underlying29 hi1 hy0 hy1 hy2 rfl (by decide) _ i _ rfl (HG.far.out.alloc _) ⟨wr.heap.size, 0, none⟩ 1 1 [.slice aG _ cG] rfl rfl (cell_one_new _ _ _) (fun x hx => by simp at hx; subst hx; rfl) (by unfold maxLen; omega) (by omega) (by simp; omega) ?_; intro v9 w9 hown9 hgr9 _) | fail)
              have h9 := (HG.keep ((Below.refl _ _).alloc (Nat.le_refl _) _)).next hlt rfl HI (HO.keep ((Below.refl _ _).alloc (Nat.le_refl _) _)) hgr9 hown9
              clear hown9 hgr9
              go_roundw
              case rel => exact ⟨i + 1, _, _, by omega, by go_num, h9⟩
              case measure => simp [intOf]; omega
        · have him : m = i := by omega
          subst him
          go_wp2_with fail
          go_loopw [9] (fun c wr => ∃ i : Nat, i ≤ m ∧ c = .int .i64 i ∧ BGS w wr B B2 (.slice ao m cc) u5 m m A C N AF CF) (fun c _ => m - (intOf c).toNat)
          case atStart => exact ⟨0, by omega, rfl, HG⟩
          case round =>
            obtain ⟨i, hi, rfl, HG⟩ := hrel
            obtain ⟨af, cf, e, hf1, hf2, HV2⟩ := HG.far.view
            subst e
            by_cases hlt : i < m
            · obtain ⟨_, _, e, _, _, HV⟩ := HG.lst.view
              cases e
              obtain ⟨b, rfl, hb1, hb2, hcells⟩ := HV (by omega)
              obtain ⟨bf, rfl, hbf1, hbf2, hcells2⟩ := HV2 (by omega)
              have hcell := hcells i hlt
              clear HV hcells HV2 hcells2
              have hnl := HN.out i hlt
              obtain ⟨n, hn⟩ : ∃ n, n = N i := ⟨_, rfl⟩
              rw [← hn] at hcell hnl
              have HNN : Hid (n = N i) := hn
              clear hn
              go_wp2_with fail
              go_loopw [11] (fun c wr => ∃ j : Nat, j ≤ n + 200 ∧ c = .int .i64 j ∧ BGS w wr B B2 (.slice (some ⟨b, 0, none⟩) m cc) (.slice (some ⟨bf, 0, none⟩) m cf) m m A C N AF CF) (fun c _ => n + 200 - (intOf c).toNat)
              case atStart => exact ⟨0, by omega, rfl, HG⟩
              case round =>
                obtain ⟨j, hj, rfl, HG⟩ := hrel
                obtain ⟨_, _, e, _, _, HV⟩ := HG.lst.view
                cases e
                obtain ⟨_, e, _, hb2, hcells⟩ := HV (by omega)
                cases e
                obtain ⟨_, _, e, _, _, HV2⟩ := HG.far.view
                cases e
                obtain ⟨_, e, _, hbf2, hcells2⟩ := HV2 (by omega)
                cases e
                have hc1 := hcells i hlt
                have hc2 := hcells2 i hlt
                rw [← HNN.out] at hc1 hc2
                clear HV hcells HV2 hcells2
                obtain ⟨gf, hgf, _, hgf2⟩ := HG.ff.at hlt (by omega)
                rw [hgf] at hc2
                have hO2 := HG.ff.own i hlt
                rw [hgf] at hO2
                by_cases hjn : j < n
                · have hjN : j < N i := by have := HNN.out; omega
                  obtain ⟨g, hg, _, hg2⟩ := HG.fam.at hlt (by omega)
                  rw [hg] at hc1
                  have hO1 := HG.fam.own i hlt
                  rw [hg] at hO1
                  have hp := hO1.tok (j := j) (t := bown_ i j) (by simp [bmks, hjN])
                  have hq := hO2.tok (j := j) (t := bown_ i j) (by rw [List.getElem?_append_left (by simp [bmks]; omega)]; simp [bmks, hjN])
                  have hi100 : i < 100 := by omega
                  have em : ((bown_ i j).toNat : Int) = (i : Int) + 1 := (mark_nat hi100).1
                  rw [em] at hp hq
                  obtain ⟨p0, _⟩ := hp
                  obtain ⟨q0, _⟩ := hq
                  have hw1 : IntKind.u8.wrap ((i : Int) + 1) = (i : Int) + 1 := by rw [IntKind.wrap_u8]; omega
                  clear em
                  have hjI : (j : Int) < (n : Int) + 200 := by omega
                  have hge : ¬ (n : Int) ≤ (j : Int) := by omega
                  have hge2 : decide ((n : Int) ≤ (j : Int)) = false := decide_eq_false hge
                  have hge3 : decide (n ≤ j) = false := decide_eq_false (by omega)
                  clear hgf hg hO1 hO2 hjN
                  go_wp2_with fail
                  go_roundw
                  case rel => exact ⟨j + 1, by omega, by go_num, HG⟩
                  case measure => simp [intOf]; omega
                · by_cases hj6 : j < n + 200
                  · have hq := hO2.tok (j := j) (t := bfz i) (by have := HNN.out; rw [List.getElem?_append_right (by simp [bmks]; omega), List.getElem?_replicate, if_pos (by simp [bmks]; omega)])
                    have hi100 : i < 100 := by omega
                    rw [(mark_nat hi100).2] at hq
                    obtain ⟨q0, _⟩ := hq
                    have hw1 : IntKind.u8.wrap ((i : Int) + 101) = (i : Int) + 101 := by rw [IntKind.wrap_u8]; omega
                    have hjI : (j : Int) < (n : Int) + 200 := by omega
                    have hjn' : ¬ (j : Int) < (n : Int) := by omega
                    have hge : (n : Int) ≤ (j : Int) := by omega
                    have hge2 : decide ((n : Int) ≤ (j : Int)) = true := decide_eq_true hge
                    have hjn2 : decide ((j : Int) < (n : Int)) = false := decide_eq_false hjn'
                    clear hgf hO2
                    go_wp2_with fail
                    go_roundw
                    case rel => exact ⟨j + 1, by omega, by go_num, HG⟩
                    case measure => simp [intOf]; omega
                  · have hjI : ¬ (j : Int) < (n : Int) + 200 := by omega
                    clear hgf hO2
                    go_wp2_with fail
                    go_roundw
                    case rel => exact ⟨i + 1, by omega, by go_num, HG⟩
                    case measure => simp [intOf]; omega
            · go_wp2_with fail
              go_ret
              exact ⟨rfl, HG.bel⟩
end Go.Proofs.YtchobeakieljpaaGreatDoor
namespace Go.Proofs.YtchobeakieljpaaGreatDoor
open Go.ChangeShapes Go.WideShapes Go.ChangeAt Go.RowKit

theorem weightsAll_mem' {H : Type} {P : Program} {e : TypeId} {d : DataW H} {n : Nat} : ∀ {l : List (DataW H)}, d ∈ l → n ∈ d.weights P e → n ∈ DataW.weightsAll P e l
  | [], h, _ => by cases h
  | x :: l, h, hn => by
    simp only [DataW.weightsAll, List.mem_append]
    rcases List.mem_cons.1 h with rfl | h
    · exact .inl hn
    · exact .inr (weightsAll_mem' h hn)

/-- A tree that came in: where its lists lie. -/
structure TV where
  no : Option Addr
  nc : Nat
  fo : Option Addr
  fc : Nat
  T : Tr
structure TVo (w : World) (x : TV) : Prop where
  n : Nodes w x.no x.nc x.T.nodes
  f : Ints w x.fo x.fc x.T.funcs
  k : KNil w x.no x.T.nodes
  z : x.fo = none → x.fc = 0
  r : Rch x.T.nodes
  l1 : x.T.nodes.length ≤ 140737488351232
  l2 : x.T.funcs.length ≤ 140737488351232
  v : ∀ n ∈ x.T.nodes, n.val ≤ 9223372036854775807
theorem TVo.below {w w' x} (h : TVo w x) (hb : Below w.heap.size w w') : TVo w' x := ⟨h.n.below hb (Nat.le_refl _), h.f.below hb (Nat.le_refl _), h.k.below h.n hb, h.z, h.r, h.l1, h.l2, h.v⟩
/-- A list of trees that came in. -/
structure Trs (w : World) (b off len : Nat) (R : Nat → TV) : Prop where
  lt : b < w.heap.size
  c : ∀ i, i < len → w.cell? ⟨b, off + i * 2, none⟩ = some (.slice (R i).no (R i).T.nodes.length (R i).nc) ∧ w.cell? ⟨b, off + i * 2 + 1, none⟩ = some (.slice (R i).fo (R i).T.funcs.length (R i).fc)
  o : ∀ i, i < len → TVo w (R i)
theorem Trs.below {w w' b off len R} (h : Trs w b off len R) (hb : Below w.heap.size w w') : Trs w' b off len R := ⟨Nat.lt_of_lt_of_le h.lt hb.size, fun i hi => by
  rw [hb.cell (p := ⟨b, off + i * 2, none⟩) h.lt, hb.cell (p := ⟨b, off + i * 2 + 1, none⟩) h.lt]
  exact h.c i hi, fun i hi => (h.o i hi).below hb⟩

set_option maxRecDepth 20000 in
theorem trees_view {H : Type} {enc : TypeId × Value → H} {W : World} {fuel : Nat} {ao : Option Addr} {len cap : Nat} {x : DataW H × List MemPlace} (h : DataW.trod enc Tryz.prog W 0 (fun _ => true) true fuel 22 [.slice ao len cap] = some x)
    (hw : ∀ n ∈ x.1.weights Tryz.prog 22, n ≤ reachBytes) :
    cap ≤ 9223372036854775807 ∧ len ≤ cap ∧ ∃ R : Nat → TV, 0 < len → ∃ b o, ao = some ⟨b, o, none⟩ ∧ Trs W b o len R := by
  rcases Deep.open_slice Tryz.underlying22 h with ⟨h0, _⟩ | ⟨a, len', cap', m, n, D, Pl, e, _, hl, hm, hmm, rfl, hx⟩
  · cases h0
    exact ⟨by omega, by omega, fun _ => ⟨none, 0, none, 0, ⟨[], []⟩⟩, fun h => by omega⟩
  · simp at e
    obtain ⟨rfl, rfl, rfl⟩ := e
    have hcap : cap ≤ 9223372036854775807 := hm
    have ce : Tryz.prog.cellsOf 27 = 2 := by kernel_rfl
    have cn : Tryz.prog.cellsOf 24 = 1 := by kernel_rfl
    have ci : Tryz.prog.cellsOf 25 = 1 := by kernel_rfl
    rw [ce] at hx
    have hml : len ≤ m := by rw [hmm]; simp; exact hl
    have each : ∀ i, i < len → ∃ q : TV, (W.cell? (a.add (i * 2)) = some (.slice q.no q.T.nodes.length q.nc) ∧ W.cell? (a.add (i * 2 + 1)) = some (.slice q.fo q.T.funcs.length q.fc)) ∧ TVo W q := by
      intro i hi
      obtain ⟨cs', h1, h2⟩ := hx i (by omega)
      obtain ⟨_, hlen, hcell⟩ := World.cells?_some h1
      have hwi : ∀ k ∈ (D i).weights Tryz.prog 27, k ≤ reachBytes := fun k hk => hw k (by
        simp only [DataW.weights, Tryz.underlying22, List.mem_cons, List.mem_append]
        refine .inr (.inl (weightsAll_mem' (d := D i) ?_ hk))
        exact List.mem_map.2 ⟨i, by simpa using hi, rfl⟩)
      obtain ⟨xs, k, hk, hxy, _, hxl, hf⟩ := DataW.trod_struct Tryz.underlying27 h2
      match cs', hlen with
      | [v0, v1], _ =>
        have g0 := hf 0 _ rfl
        have g1 := hf 1 _ rfl
        simp [cn, ci] at g0 g1
        match xs, hxl with
        | [y0, y1], _ =>
          have h0' : DataW.trod enc Tryz.prog W 0 (fun _ => true) true k 24 [v0] = some y0 := g0
          have h1' : DataW.trod enc Tryz.prog W 0 (fun _ => true) true k 25 [v1] = some y1 := g1
          obtain ⟨no, nc, N, e0, hN⟩ := nodes_view h0'
          obtain ⟨fo, fc, F, e1, hfz, hF⟩ := ints_view h1'
          simp only [List.cons.injEq, and_true] at e0 e1
          subst e0 e1
          have hwi2 := hwi
          have hD := congrArg Prod.fst hxy
          simp only at hD
          rw [hD] at hwi2
          obtain ⟨l1, hR, hK⟩ := nodes_rch h0' (fun n hn => hwi2 n (by simp only [DataW.weights, Tryz.underlying27, DataW.weightsEach, List.map, List.mem_append]; exact .inl hn)) hN
          obtain ⟨l2, _⟩ := ints_weight h1' (fun n hn => hwi2 n (by simp only [DataW.weights, Tryz.underlying27, DataW.weightsEach, List.map, List.mem_append]; exact .inr (.inl hn)))
          have q0 := hcell 0 (by omega)
          have q1 := hcell 1 (by omega)
          rw [Deep.add_add] at q0 q1
          exact ⟨⟨no, nc, fo, fc, ⟨N, F⟩⟩, ⟨by simpa using q0, by simpa using q1⟩, ⟨hN, hF, ⟨hK⟩, hfz, hR, l1, l2, nodes_val h0' hN⟩⟩
    haveI : Inhabited TV := ⟨⟨none, 0, none, 0, ⟨[], []⟩⟩⟩
    obtain ⟨q, hq⟩ := Deep.choose_lt each
    refine ⟨hcap, by omega, q, fun h0 => ?_⟩
    obtain ⟨b, off, spot⟩ := a
    have hspot : spot = none := by simpa [Addr.add] using World.cell?_spot (hq 0 h0).1.1
    subst hspot
    refine ⟨b, off, rfl, block_lt_of_cell (hq 0 h0).1.1, fun i hi => ?_, fun i hi => (hq i hi).2⟩
    have := (hq i hi).1
    simp only [add_plain] at this
    simpa [Nat.add_assoc] using this
end Go.Proofs.YtchobeakieljpaaGreatDoor
namespace Go.Proofs.YtchobeakieljpaaGreatDoor
open Go.ChangeShapes Go.WideShapes Go.ChangeAt Go.RowKit

theorem infoSB : (Tryz.prog.info? 30).map (fun i => (i.zero, i.size, i.bytes)) = some (some (.slice none 0 0), 1, 24) := by kernel_rfl
/-- append(texts, a, b). -/
theorem wpList_append_tt {w0 : World} {ops : Array Oper} {rest : List Oper} {op : Oper} {a : Act} {Q : Exit → Act → World → Prop} (hgd : op.guard = none) (s x : Operand)
    (ho : op.op = .call { callee := .builtin .append, args := #[s, x], argTypes := #[29, 29] })
    (B : Nat) (v : Value) (n g : Nat) (vs : List Value) (aa : Option Addr) (al ac : Nat) (ba : Option Addr) (bl bc : Nat) (hs : a.eval s = v) (hown : w0.ownsRow B 30 1 v n vs) (hx : a.eval x = .slice (some ⟨g, 0, none⟩) 2 2) (hg : g = w0.heap.size)
    (hl : n + 2 ≤ 1000000000) (hB : B ≤ w0.heap.size)
    (h : ∀ v' w', w'.ownsRow B 30 1 v' (n + 2) (vs ++ [.slice aa al ac, .slice ba bl bc]) → GI B w0 w' v v' → wpList Tryz.prog ops Q rest (a.put op.dst v') w') : wpList Tryz.prog ops Q (op :: rest) a (w0.alloc (.cells #[.slice aa al ac, .slice ba bl bc] 30)) := by
  subst hg
  obtain ⟨i0, hi, hz0, hz1, hz2⟩ := info_parts infoSB
  refine wpList_append_where hgd s x 29 ho B 30 i0 (.slice none 0 0) 1 24 Tryz.underlying29 hi hz0 hz1 hz2 rfl (by decide) v n vs hs (hown.alloc _) ⟨w0.heap.size, 0, none⟩ 2 2 (by omega) [.slice aa al ac, .slice ba bl bc] hx rfl (fun j u hj => ?_) (fun u hu => ?_) (by unfold maxLen; omega) (by omega) (by simp; omega) ?_
  · match j, hj with
    | 0, hj => simp at hj; subst hj; simp [Addr.add]
    | 1, hj => simp at hj; subst hj; simp [Addr.add]
    | j + 2, hj => simp at hj
  · simp at hu
    rcases hu with rfl | rfl <;> rfl
  · intro v' w' h1 h2 h3
    exact h v' w' h1 (gi_of hown hB h2 h3)

/-- The texts so far: two of each tree. -/
structure TS (w wr : World) (B : Nat) (v : Value) (m : Nat) (A : Nat → Option Addr) (C N : Nat → Nat) (X : Nat → List UInt8) : Prop where
  lst : BLst wr B v m A C N
  fam : BFam wr B m A C N X
  apt : BApt m A
  bel : Below B w wr
theorem TS.start (w wr : World) (B : Nat) (A : Nat → Option Addr) (C N : Nat → Nat) (X : Nat → List UInt8) (hb : Below B w wr) : TS w wr B (.slice none 0 0) 0 A C N X := ⟨⟨World.ownsRow_nil _ _ _ _⟩, ⟨fun k hk => by omega, fun k hk => by omega⟩, ⟨fun k l hk => by omega⟩, hb⟩
def ext {α : Type} (m : Nat) (f : Nat → α) (a b : α) : Nat → α := fun k => if k = m then a else if k = m + 1 then b else f k
theorem ext_lt {α : Type} {m : Nat} {f : Nat → α} {a b : α} {k : Nat} (h : k < m) : ext m f a b k = f k := by unfold ext; rw [if_neg (by omega), if_neg (by omega)]
theorem ext_0 {α : Type} {m : Nat} {f : Nat → α} {a b : α} : ext m f a b m = a := by unfold ext; rw [if_pos rfl]
theorem ext_1 {α : Type} {m : Nat} {f : Nat → α} {a b : α} : ext m f a b (m + 1) = b := by unfold ext; rw [if_neg (by omega), if_pos rfl]
/-- Two texts more. -/
theorem TS.add {w wr w5 w6 : World} {B : Nat} {v v' : Value} {m : Nat} {A : Nat → Option Addr} {C N : Nat → Nat} {X : Nat → List UInt8} (H : TS w wr B v m A C N X) (hB : B ≤ wr.heap.size) (h5 : Below wr.heap.size wr w5) (L : List UInt8)
    {aa : Option Addr} {al ac : Nat} {ba : Option Addr} {bl bc : Nat} (hal : al = L.length) (hbl : bl = L.length) (ha : OwnB w5 wr.heap.size (.slice aa al ac) al L) (hb : OwnB w5 wr.heap.size (.slice ba bl bc) bl L) (hab : ∀ g, blk aa = some g → blk ba ≠ some g)
    (hr : w6.ownsRow B 30 1 v' (m + 2) ((List.range m).map (fun k => Value.slice (A k) (N k) (C k)) ++ [.slice aa al ac, .slice ba bl bc])) (hG : GI B w5 w6 v v') :
    TS w w6 B v' (m + 2) (ext m A aa ba) (ext m C ac bc) (ext m N al bl) (ext m X L L) := by
  have wt5 := own_keep H.lst.out h5.block
  have nv : ∀ q, v.ownBlock = some q → q < wr.heap.size := fun q hq => (own_block H.lst.out hq).2
  have fa6 : ∀ q, wr.heap.size ≤ q → q < w5.heap.size → w6.heap[q]? = w5.heap[q]? := fun q h1 h2 => hG.blk q h2 (fun e => by have := nv q e; omega)
  have ha6 : OwnB w6 B (.slice aa al ac) al L := ⟨ha.len, own_move (own_base ha.out hB) fun q hq => by have := own_block ha.out hq; exact fa6 q this.1 this.2⟩
  have hb6 : OwnB w6 B (.slice ba bl bc) bl L := ⟨hb.len, own_move (own_base hb.out hB) fun q hq => by have := own_block hb.out hq; exact fa6 q this.1 this.2⟩
  have ga : ∀ g, blk aa = some g → wr.heap.size ≤ g := fun g hg => (own_block ha.out (by rw [ob]; exact hg)).1
  have gb : ∀ g, blk ba = some g → wr.heap.size ≤ g := fun g hg => (own_block hb.out (by rw [ob]; exact hg)).1
  have old : ∀ k, k < m → ∀ g, blk (A k) = some g → g < wr.heap.size := fun k hk g hg => (own_block (H.fam.own k hk).out (by rw [ob]; exact hg)).2
  refine ⟨⟨?_⟩, ⟨fun k hk => ?_, fun k hk => ?_⟩, ⟨fun k l hk hl hne g hg hg2 => ?_⟩, H.bel.trans ((h5.mono hB).trans hG.bel)⟩
  · have e : ((List.range (m + 2)).map fun k => Value.slice (ext m A aa ba k) (ext m N al bl k) (ext m C ac bc k)) = (List.range m).map (fun k => Value.slice (A k) (N k) (C k)) ++ [.slice aa al ac, .slice ba bl bc] := by
      rw [List.range_succ, List.range_succ, List.map_append, List.map_append, List.append_assoc]
      congr 1
      · apply List.map_congr_left
        intro k hk
        have := List.mem_range.1 hk
        rw [ext_lt this, ext_lt this, ext_lt this]
      · simp [ext_0, ext_1]
    rw [e]
    exact hr
  · rcases (show k < m ∨ k = m ∨ k = m + 1 by omega) with h | h | h
    · rw [ext_lt h, ext_lt h]; exact H.fam.len k h
    · subst h; rw [ext_0, ext_0]; exact hal.symm
    · subst h; rw [ext_1, ext_1]; exact hbl.symm
  · rcases (show k < m ∨ k = m ∨ k = m + 1 by omega) with h | h | h
    · rw [ext_lt h, ext_lt h, ext_lt h, ext_lt h]
      have ho := (H.fam.own k h).keep h5
      refine ⟨own_move ho.out fun q hq => hG.blk q (own_block ho.out hq).2 (fun e => ?_)⟩
      exact own_apart ho.out wt5 (by decide) q hq e
    · subst h; rw [ext_0, ext_0, ext_0, ext_0]; exact ⟨by rw [← hal]; exact ha6.out⟩
    · subst h; rw [ext_1, ext_1, ext_1, ext_1]; exact ⟨by rw [← hbl]; exact hb6.out⟩
  · rcases (show k < m ∨ k = m ∨ k = m + 1 by omega) with h | h | h <;> rcases (show l < m ∨ l = m ∨ l = m + 1 by omega) with h' | h' | h'
    · rw [ext_lt h] at hg; rw [ext_lt h'] at hg2; exact H.apt.out k l h h' hne g hg hg2
    · subst h'; rw [ext_lt h] at hg; rw [ext_0] at hg2; have := old k h g hg; have := ga g hg2; omega
    · subst h'; rw [ext_lt h] at hg; rw [ext_1] at hg2; have := old k h g hg; have := gb g hg2; omega
    · subst h; rw [ext_0] at hg; rw [ext_lt h'] at hg2; have := old l h' g hg2; have := ga g hg; omega
    · omega
    · subst h; subst h'; rw [ext_0] at hg; rw [ext_1] at hg2; exact hab g hg hg2
    · subst h; rw [ext_1] at hg; rw [ext_lt h'] at hg2; have := old l h' g hg2; have := gb g hg; omega
    · subst h; subst h'; rw [ext_1] at hg; rw [ext_0] at hg2; exact hab g hg2 hg
    · omega
end Go.Proofs.YtchobeakieljpaaGreatDoor
namespace Go.Proofs.YtchobeakieljpaaGreatDoor
open Go.ChangeShapes Go.WideShapes Go.ChangeAt Go.RowKit

theorem TS.keep {w wr w' : World} {B : Nat} {v : Value} {m : Nat} {A : Nat → Option Addr} {C N : Nat → Nat} {X : Nat → List UInt8} (H : TS w wr B v m A C N X) (hB : B ≤ wr.heap.size) (hb : Below wr.heap.size wr w') : TS w w' B v m A C N X := ⟨H.lst.keep hb, H.fam.keep hb, H.apt, H.bel.trans (hb.mono hB)⟩
structure Fitg (R : Nat → TV) (i : Nat) : Prop where
  out : ∀ k, k < i → TFit (R k).T
/-- The texts are the trees'. -/
structure Txg (q : Nat → Int × List UInt8) (i : Nat) (X : Nat → List UInt8) (N : Nat → Nat) : Prop where
  x : ∀ k, k < i → X (2 * k) = (q k).2 ∧ X (2 * k + 1) = (q k).2
  n : ∀ k, k < 2 * i → N k ≤ 900000000
theorem Txg.add {q i X N L n} (H : Txg q i X N) (hL : L = (q i).2) (hn : n ≤ 900000000) : Txg q (i + 1) (ext (2 * i) X L L) (ext (2 * i) N n n) := by
  refine ⟨fun k hk => ?_, fun k hk => ?_⟩
  · rcases (show k < i ∨ k = i by omega) with h | h
    · rw [ext_lt (by omega), ext_lt (by omega)]; exact H.x k h
    · subst h; rw [ext_0, ext_1]; exact ⟨hL, hL⟩
  · rcases (show k < 2 * i ∨ k = 2 * i ∨ k = 2 * i + 1 by omega) with h | h | h
    · rw [ext_lt h]; exact H.n k h
    · subst h; rw [ext_0]; exact hn
    · subst h; rw [ext_1]; exact hn
/-- What both Prints answer of a tree. -/
structure BP (T : Tr) (r : Int) (L : List UInt8) : Prop where
  p : ∀ (w : World) (no : Option Addr) (nc nn : Nat) (fo : Option Addr) (fc fn : Nat), AllTab w → nn = T.nodes.length → fn = T.funcs.length → Nodes w no nc T.nodes → Ints w fo fc T.funcs → Calls Tryz.prog 8 #[.agg #[.slice no nn nc, .slice fo fn fc]] w fun e w' => PR2 w w' r L e
  d : ∀ (w : World) (no : Option Addr) (nc nn : Nat) (fo : Option Addr) (fc fn : Nat), nn = T.nodes.length → fn = T.funcs.length → Nodes w no nc T.nodes → Ints w fo fc T.funcs → Calls Tryz.prog 9 #[.agg #[.slice no nn nc, .slice fo fn fc]] w fun e w' => PR2 w w' r L e
  l : L.length ≤ 900000000
structure BPs (R : Nat → TV) (len : Nat) (q : Nat → Int × List UInt8) : Prop where
  out : ∀ k, k < len → BP (R k).T (q k).1 (q k).2
theorem bps {R : Nat → TV} {len : Nat} (h : Fitg R len) : ∃ q, BPs R len q := by
  have each : ∀ k, k < len → ∃ q : Int × List UInt8, BP (R k).T q.1 q.2 := fun k hk => by
    obtain ⟨r, L, h1, h2, h3⟩ := both2 (R k).T (h.out k hk)
    exact ⟨(r, L), h1, h2, h3⟩
  obtain ⟨q, hq⟩ := Deep.choose_lt each
  exact ⟨q, ⟨hq⟩⟩

theorem own_slice3 {w : World} {B e s n xs} {v : Value} (h : w.ownsRow B e s v n xs) : ∃ a c, v = .slice a n c ∧ n ≤ c ∧ c ≤ 9223372036854775807 := by
  rcases h.2 with ⟨rfl, rfl⟩ | ⟨g, cap, cur, rfl, _, _, h1, h2, _⟩
  · exact ⟨none, 0, rfl, by omega, by omega⟩
  · exact ⟨_, cap, rfl, h1, h2⟩
theorem OwnB.some {w B a n c Y} (h : OwnB w B (.slice a n c) n Y) (hn : 0 < n) : ∃ g, a = Option.some ⟨g, 0, none⟩ ∧ B ≤ g ∧ g < w.heap.size := by
  rcases h.out.2 with ⟨e, e1⟩ | ⟨g, cap, cur, e, e2, e3, _⟩
  · omega
  · cases e
    exact ⟨g, rfl, e2, (Array.getElem?_eq_some_iff.1 e3).1⟩
theorem OwnB.at {w B g n c Y} (h : OwnB w B (.slice (Option.some ⟨g, 0, none⟩) n c) n Y) {j : Nat} (hj : j < n) : w.cell? ⟨g, j, none⟩ = Option.some (.int .u8 ((Y[j]'(by have := h.len; omega)).toNat : Int)) := by
  have hl := h.len
  rw [rowx_cell h.out j (by omega)]
  exact bvs_at Y j (by omega)
theorem OwnB.set {w B g n c Y} (h : OwnB w B (.slice (Option.some ⟨g, 0, none⟩) n c) n Y) {j : Nat} (hj : j < n) (y : UInt8) : OwnB (w.setCell ⟨g, j, none⟩ (.int .u8 (y.toNat : Int))) B (.slice (Option.some ⟨g, 0, none⟩) n c) n (Y.set j y) := by
  refine ⟨by simp; exact h.len, ?_⟩
  have := rowx_set h.out j (by omega) (.int .u8 (y.toNat : Int))
  have e : (bvs Y).set j (.int .u8 (y.toNat : Int)) = bvs (Y.set j y) := by simp [bvs, List.map_set]
  rwa [e] at this

theorem treeAll_long (a : Option Addr) (len cap : Nat) (h : 20 < len) (hl : len ≤ 9223372036854775807) (w : World) : Calls Tryz.prog 3 #[.slice a len cap] w fun e w' => e = .returned (.bool true) ∧ Below w.heap.size w w' := by
  go_enter Tryz.func3, Tryz.ntmps3
  go_wp2
  go_ret
  exact ⟨rfl, Below.refl _ _⟩

set_option maxHeartbeats 8000000 in
set_option maxRecDepth 100000 in
theorem treeAll_any (w : World) (hA : AllTab w) (ao : Option Addr) (len cap : Nat) (hl : len ≤ 20) (hcap : cap ≤ 9223372036854775807) (hlc : len ≤ cap) (R : Nat → TV) (hT : 0 < len → ∃ b off, ao = some ⟨b, off, none⟩ ∧ Trs w b off len R) :
    Calls Tryz.prog 3 #[.slice ao len cap] w fun e w' => e = .returned (.bool true) ∧ Below w.heap.size w w' := by
  have HA : Hid (AllTab w) := hA
  have HT := show Hid (0 < len → ∃ b off, ao = some ⟨b, off, none⟩ ∧ Trs w b off len R) from hT
  clear hA hT
  go_enter Tryz.func3, Tryz.ntmps3
  go_wp2_with fail
  go_loopw [3, 4] (fun nv iv wr => ∃ (i s : Nat), i ≤ len ∧ iv = .int .i64 i ∧ nv = .int .i64 s ∧ s ≤ i * 120000 ∧ Fitg R i ∧ Below w.heap.size w wr) (fun _ iv _ => len - (intOf iv).toNat)
  case atStart => exact ⟨0, 0, by omega, rfl, rfl, by omega, ⟨fun k hk => by omega⟩, Below.refl _ _⟩
  case round =>
    obtain ⟨i, s, hi, rfl, rfl, hs, HFt, hb⟩ := hrel
    have hbs := hb.size
    by_cases hlt : i < len
    · obtain ⟨b, off, rfl, hTr⟩ := HT.out (by omega)
      have hTr' := hTr.below hb
      have hbl := hTr.lt
      obtain ⟨c0, c1⟩ := hTr'.c i hlt
      have ho := hTr'.o i hlt
      have HX := show Hid (TVo wr (R i)) from ho
      obtain ⟨nn, hnn⟩ : ∃ nn, nn = (R i).T.nodes.length := ⟨_, rfl⟩
      obtain ⟨fn, hfn⟩ : ∃ fn, fn = (R i).T.funcs.length := ⟨_, rfl⟩
      rw [← hnn] at c0
      rw [← hfn] at c1
      have hfit := fits3_deep wr (R i).no (R i).nc nn (R i).fo (R i).fc fn (R i).T.nodes hnn ho.n ho.r (by rw [hnn]; exact ho.l1) (by rw [hfn]; exact ho.l2)
      have HNF := show Hid (nn = (R i).T.nodes.length ∧ fn = (R i).T.funcs.length) from ⟨hnn, hfn⟩
      have hnb : nn ≤ 140737488351232 := by rw [hnn]; exact ho.l1
      have hncc : nn ≤ (R i).nc ∧ (R i).nc ≤ 9223372036854775807 := by rw [hnn]; exact ⟨ho.n.le, ho.n.mx⟩
      obtain ⟨hnc1, hnc2⟩ := hncc
      clear hTr' hTr ho hnn hfn
      generalize (R i).no = no at *
      generalize (R i).nc = nc at *
      generalize (R i).fo = fo at *
      generalize (R i).fc = fc at *
      go_wp2_with fail
      refine hfit.mono ?_
      rintro e w1 ⟨⟨Rb, rfl, hRR⟩, hb1⟩
      clear hfit
      have HRR := show Hid _ from hRR
      clear hRR
      have d0 : w1.cell? ⟨b, off + i * 2, none⟩ = some (.slice no nn nc) := cell_below hb1 (by omega) c0
      clear c0 c1
      have hbw1 : Below w.heap.size w w1 := hb.trans (hb1.mono hbs)
      cases Rb
      · go_wp2_with fail
        go_ret
        exact ⟨rfl, hbw1⟩
      · obtain ⟨hsum, hkids, hdp⟩ := HRR.out rfl
        have HTF : Hid (TFit (R i).T) := ⟨by have := HNF.out; omega, by have := HNF.out; omega, hkids, fun n hn => by
          obtain ⟨j, hj, rfl⟩ := List.mem_iff_getElem.1 hn
          have := (HX.out.r.out j hj).2
          omega, HX.out.v, hdp⟩
        clear hkids hdp HRR
        have hnn9 : nn ≤ 120000 := by omega
        go_wp2_with fail
        go_roundw
        case rel => exact ⟨i + 1, s + nn, by omega, by go_num, by go_num, by omega, ⟨fun k hk => by
          rcases Nat.lt_succ_iff_lt_or_eq.1 hk with h | rfl
          · exact HFt.out k h
          · exact HTF.out⟩, hbw1⟩
        case measure => simp [intOf]; omega
    · have hil : len = i := by omega
      subst hil
      by_cases hbig : 12000 < s
      · go_wp2_with fail
        go_ret
        exact ⟨rfl, hb⟩
      obtain ⟨q, hq⟩ := bps HFt
      have HQ := show Hid (BPs R len q) from hq
      have HF := show Hid (Fitg R len) from HFt
      clear hq HFt
      go_wp2_with fail
      refine (alive3_any wr (HA.out.below hb)).mono ?_
      rintro e w2 ⟨rfl, hb2⟩
      have hbw2 : Below w.heap.size w w2 := hb.trans (hb2.mono hbs)
      have hbs2 := hbw2.size
      clear hb hb2
      go_wp2_with fail
      go_loopw [6, 7] (fun tv iv wr3 => ∃ (i : Nat) (A : Nat → Option Addr) (C N : Nat → Nat) (X : Nat → List UInt8), i ≤ len ∧ iv = .int .i64 i ∧ TS w2 wr3 w2.heap.size tv (2 * i) A C N X ∧ Txg q i X N) (fun _ iv _ => len - (intOf iv).toNat)
      case atStart => exact ⟨0, fun _ => none, fun _ => 0, fun _ => 0, fun _ => [], by omega, rfl, TS.start _ _ _ _ _ _ _ (Below.refl _ _), ⟨fun k hk => by omega, fun k hk => by omega⟩⟩
      case round =>
        obtain ⟨i, A, C, N, X, hi2, rfl, hTS, hTX⟩ := hrel
        have HTS := show Hid _ from hTS
        have HTX := show Hid _ from hTX
        have hB3 := hTS.bel.size
        have hbw3 : Below w.heap.size w wr := hbw2.trans (hTS.bel.mono hbs2)
        obtain ⟨ta, tc, rfl, _, _, _⟩ := hTS.lst.view
        clear hTS hTX
        obtain ⟨wO, rfl⟩ : ∃ wO, wO = wr := ⟨wr, rfl⟩
        by_cases hlt2 : i < len
        · obtain ⟨b, off, rfl, hTr⟩ := HT.out (by omega)
          have hbl := hTr.lt
          have HXX := show Hid (∀ wx, Below w.heap.size w wx → TVo wx (R i)) from fun wx h => (hTr.below h).o i hlt2
          obtain ⟨nn, hnn⟩ : ∃ nn, nn = (R i).T.nodes.length := ⟨_, rfl⟩
          obtain ⟨fn, hfn⟩ : ∃ fn, fn = (R i).T.funcs.length := ⟨_, rfl⟩
          have HNF := show Hid (nn = (R i).T.nodes.length ∧ fn = (R i).T.funcs.length) from ⟨hnn, hfn⟩
          have HC := show Hid (∀ wx, Below w.heap.size w wx → wx.cell? ⟨b, off + i * 2, none⟩ = some (.slice (R i).no nn (R i).nc) ∧ wx.cell? ⟨b, off + i * 2 + 1, none⟩ = some (.slice (R i).fo fn (R i).fc)) from fun wx h => by rw [hnn, hfn]; exact (hTr.below h).c i hlt2
          have HTF := show Hid (TFit (R i).T) from HF.out.out i hlt2
          have HBP := show Hid (BP (R i).T (q i).1 (q i).2) from HQ.out.out i hlt2
          have hm1 : nn ≤ 120000 := by rw [hnn]; exact HTF.out.nn
          have hm2 : fn ≤ 120000 := by rw [hfn]; exact HTF.out.fn
          have HCK := show Hid (∀ wx, Below w.heap.size w wx → Calls Tryz.prog 6 #[.agg #[.slice (R i).no nn (R i).nc, .slice (R i).fo fn (R i).fc]] wx fun e w' => e = .returned (.bool true) ∧ Below wx.heap.size wx w') from fun wx h => checks_any wx (HA.out.below h) _ _ nn _ _ fn (R i).T hnn hfn (HXX.out wx h).n (HXX.out wx h).f (HXX.out wx h).k (HXX.out wx h).z hm1 hm2 HTF.out.kb HTF.out.sb
          have HPK := show Hid (∀ wx, Below w.heap.size w wx → Calls Tryz.prog 7 #[.agg #[.slice (R i).no nn (R i).nc, .slice (R i).fo fn (R i).fc]] wx fun e w' => e = .returned (.bool true) ∧ Below wx.heap.size wx w') from fun wx h => prints_any wx (HA.out.below h) _ _ nn _ _ fn (R i).T hnn hfn (HXX.out wx h).n (HXX.out wx h).f (HXX.out wx h).k (HXX.out wx h).z HTF.out
          have HPP := show Hid (∀ wx, Below w.heap.size w wx → Calls Tryz.prog 8 #[.agg #[.slice (R i).no nn (R i).nc, .slice (R i).fo fn (R i).fc]] wx fun e w' => PR2 wx w' (q i).1 (q i).2 e) from fun wx h => HBP.out.p wx _ _ nn _ _ fn (HA.out.below h) hnn hfn (HXX.out wx h).n (HXX.out wx h).f
          have hLl := HBP.out.l
          have HQI := show Hid ((q i).2 = (q i).2) from rfl
          clear hnn hfn hTr
          generalize (R i).no = no at *
          generalize (R i).nc = nc at *
          generalize (R i).fo = fo at *
          generalize (R i).fc = fc at *
          obtain ⟨r, hr⟩ : ∃ r, r = (q i).1 := ⟨_, rfl⟩
          obtain ⟨L, hL⟩ : ∃ L, L = (q i).2 := ⟨_, rfl⟩
          rw [← hr, ← hL] at HPP
          rw [← hL] at hLl
          have HL := show Hid (L = (q i).2) from hL
          clear hr hL HQI HXX HBP HTF
          obtain ⟨c0, c1⟩ := HC.out wO hbw3
          go_wp2_with fail
          refine (HCK.out wO hbw3).mono ?_
          rintro e w4 ⟨rfl, hb4⟩
          have hbw4 : Below w.heap.size w w4 := hbw3.trans (hb4.mono (Nat.le_trans hbs2 hB3))
          have hs4 := hb4.size
          clear c0 c1
          obtain ⟨c0, c1⟩ := HC.out w4 hbw4
          go_wp2_with (first | (go_at_call 7; refine (HPK.out w4 hbw4).mono ?_; rintro e w5 ⟨rfl, hb5⟩
                                have hbw5 : Below w.heap.size w w5 := hbw4.trans (hb5.mono hbw4.size)
                                have hs5 := hb5.size
                                clear c0 c1
                                obtain ⟨c0, c1⟩ := HC.out w5 hbw5))
          refine (HPP.out w5 hbw5).mono ?_
          rintro e w6 ⟨⟨aa, an, ac, rfl, HO6⟩, hb6⟩
          have hbw6 : Below w.heap.size w w6 := hbw5.trans (hb6.mono hbw5.size)
          have hs6 := hb6.size
          clear c0 c1
          obtain ⟨c0, c1⟩ := HC.out w6 hbw6
          have HA6 := show Hid _ from HO6
          clear HO6
          go_wp2_with fail
          refine (HPP.out w6 hbw6).mono ?_
          rintro e w7 ⟨⟨ba, bn, bc, rfl, HO7⟩, hb7⟩
          have hbw7 : Below w.heap.size w w7 := hbw6.trans (hb7.mono hbw6.size)
          have hs7 := hb7.size
          clear c0 c1
          obtain ⟨c0, c1⟩ := HC.out w7 hbw7
          have HA7 := show Hid _ from HO7
          clear HO7
          go_wp2_with fail
          refine (HPP.out w7 hbw7).mono ?_
          rintro e w8 ⟨⟨ca, cn, cc, rfl, HO8⟩, hb8⟩
          have hs8 := hb8.size
          clear c0 c1
          have h1 := ((HA6.out.keep hb7).keep hb8).conv0
          have h2 := (HA7.out.keep hb8).conv0
          have h3 := HO8.conv0
          have HO8' := show Hid (OwnB w8 w7.heap.size (.slice ca cn cc) cn L) from HO8
          have hcn : cn ≤ 900000000 := by rw [HO8.len]; exact hLl
          clear HO8
          generalize bs L = t1 at *
          go_wp2_with fail
          clear h1 h2 h3
          go_loopw [15] (fun jv wr9 => ∃ (j : Nat) (Y : List UInt8), j ≤ cn ∧ jv = .int .i64 j ∧ OwnB wr9 w7.heap.size (.slice ca cn cc) cn Y ∧ Below w7.heap.size w7 wr9) (fun jv _ => cn - (intOf jv).toNat)
          case atStart => exact ⟨0, L, by omega, rfl, HO8'.out, hb8⟩
          case round =>
            obtain ⟨j, Y, hj, rfl, HO, hbb⟩ := hrel
            have HOO := show Hid _ from HO
            have hcc : cn ≤ cc ∧ cc ≤ 9223372036854775807 := by
              obtain ⟨_, _, e, h1, h2⟩ := own_slice3 HO.out
              cases e
              exact ⟨h1, h2⟩
            obtain ⟨hcc1, hcc2⟩ := hcc
            clear HO
            by_cases hjn : j < cn
            · obtain ⟨g, rfl, hg1, hg2⟩ := HOO.out.some (by omega)
              have hcl := HOO.out.at (j := j) hjn
              have hfz := rowx_fz HOO.out.out j
              generalize (Y[j]'(by have := HOO.out.len; omega)).toNat = old at hcl
              go_wp2_with fail
              go_roundw
              case rel => exact ⟨j + 1, Y.set j 7, by omega, by go_num, HOO.out.set hjn 7, hbb.setCell (p := ⟨g, j, none⟩) hg1 _⟩
              case measure => simp [intOf]; omega
            · have hb39 : Below wO.heap.size wO wr := ((((hb4.trans (hb5.mono hs4)).trans (hb6.mono (by omega))).trans (hb7.mono (by omega))).trans (hbb.mono (by omega)))
              have HT9 := show Hid _ from HTS.out.keep hB3 hb39
              have hB9 : w2.heap.size ≤ wr.heap.size := Nat.le_trans hB3 hb39.size
              have HRW := show Hid (wr.ownsRow w2.heap.size 30 1 (.slice ta (2 * i) tc) (2 * i) ((List.range (2 * i)).map fun k => Value.slice (A k) (N k) (C k))) from HT9.out.lst.out
              go_wp2_with (first
                | (at_builtin; refine wpList_append_tt rfl _ _ rfl w2.heap.size _ (2 * i) _ _ aa an ac ba bn bc ?_ HRW.out ?_ rfl (by omega) hB9 ?_; (next => rfl); (next => rfl); intro tv9 w9 hr9 hG9
                   have HR9 := show Hid _ from hr9
                   have HG9 := show Hid _ from hG9
                   clear hr9 hG9)
                | go_in)
              go_roundw
              case rel =>
                have ha9 : OwnB wr wO.heap.size (.slice aa an ac) an L := ⟨HA6.out.len, own_base ((HA6.out.keep hb7).keep hbb).out (by omega)⟩
                have hb9 : OwnB wr wO.heap.size (.slice ba bn bc) bn L := ⟨HA7.out.len, own_base (HA7.out.keep hbb).out (by omega)⟩
                have hab : ∀ g, blk aa = some g → blk ba ≠ some g := fun g hg hg2 => by
                  have h1 := (own_block HA6.out.out (by rw [ob]; exact hg)).2
                  have h2 := (own_block HA7.out.out (by rw [ob]; exact hg2)).1
                  omega
                have hadd := HTS.out.add hB3 hb39 L HA6.out.len HA7.out.len ha9 hb9 hab HR9.out HG9.out
                have hbn : bn = an := by rw [HA6.out.len, HA7.out.len]
                subst hbn
                exact ⟨i + 1, _, _, _, _, by omega, by go_num, hadd, HTX.out.add HL.out (by rw [HA6.out.len]; exact hLl)⟩
              case measure => simp [intOf]; omega
        · have hil2 : len = i := by omega
          subst hil2
          go_wp2_with fail
          go_loopw [16] (fun iv wr4 => ∃ k : Nat, k ≤ len ∧ iv = .int .i64 k ∧ TS w2 wr4 w2.heap.size (.slice ta (2 * len) tc) (2 * len) A C N X) (fun iv _ => len - (intOf iv).toNat)
          case atStart => exact ⟨0, by omega, rfl, HTS.out⟩
          case round =>
            obtain ⟨k, hk, rfl, hTS4⟩ := hrel
            have HT4 := show Hid _ from hTS4
            have hB4 := hTS4.bel.size
            have hbw4 : Below w.heap.size w wr := hbw2.trans (hTS4.bel.mono hbs2)
            clear hTS4
            by_cases hlt4 : k < len
            · obtain ⟨b, off, rfl, hTr⟩ := HT.out (by omega)
              obtain ⟨c0, c1⟩ := (hTr.below hbw4).c k hlt4
              have ho := (hTr.below hbw4).o k hlt4
              have hPr := (HQ.out.out k hlt4).d wr _ _ _ _ _ _ rfl rfl ho.n ho.f
              have HXK := show Hid (X (2 * k) = (q k).2 ∧ X (2 * k + 1) = (q k).2) from HTX.out.x k hlt4
              clear ho hTr
              generalize (R k).no = no at *
              generalize (R k).nc = nc at *
              generalize (R k).fo = fo at *
              generalize (R k).fc = fc at *
              generalize (R k).T.nodes.length = nn at *
              generalize (R k).T.funcs.length = fn at *
              obtain ⟨L, hL⟩ : ∃ L, L = (q k).2 := ⟨_, rfl⟩
              rw [← hL] at hPr HXK
              clear hL
              go_wp2_with fail
              refine hPr.mono ?_
              rintro e w5 ⟨⟨va, vn, vc, rfl, HV5⟩, hb5⟩
              have HT5 := show Hid _ from HT4.out.keep hB4 hb5
              obtain ⟨_, _, e, tb1, tb2, HV⟩ := HT5.out.lst.view
              cases e
              obtain ⟨bt, rfl, _, hbt, hcells⟩ := HV (by omega)
              have e0 := hcells (2 * k) (by omega)
              have e1 := hcells (2 * k + 1) (by omega)
              have own2 : ∀ m, m < 2 * len → X m = L → OwnB w5 w2.heap.size (.slice (A m) (N m) (C m)) (N m) L := fun m hm hx => by
                have h1 := HT5.out.fam.len m hm
                have h2 := (HT5.out.fam.own m hm).out
                rw [hx] at h1 h2
                rw [h1] at h2
                exact ⟨h1.symm, h2⟩
              have o0 := own2 (2 * k) (by omega) HXK.out.1
              have o1 := own2 (2 * k + 1) (by omega) HXK.out.2
              have k0 := fun n => (o0.keep (below_drewN (Below.refl _ _) n)).conv0
              have k1 := fun n => (o1.keep (below_drewN (Below.refl _ _) n)).conv0
              have k2 := fun n => (HV5.keep (below_drewN (Below.refl _ _) n)).conv0
              obtain ⟨p, hp⟩ : ∃ p, p = 2 * k := ⟨_, rfl⟩
              have hpl : p + 1 < 2 * len := by omega
              have m0 : (2 : Int) * (k : Int) = (p : Int) := by omega
              simp only [← hp] at e0 e1 k0 k1
              have hw0 : IntKind.i64.wrap (p : Int) = p := by rw [IntKind.wrap_i64]; omega
              have hw1 : IntKind.i64.wrap ((p : Int) + 1) = (p : Int) + 1 := by rw [IntKind.wrap_i64]; omega
              have hpi : (p : Int) < 2 * (len : Int) := by omega
              have hpi1 : (p : Int) + 1 < 2 * (len : Int) := by omega
              clear o0 o1 HV5 HV hcells own2 c0 c1 hPr hp
              generalize bs L = t1 at *
              generalize hA0 : A p = a0 at *
              generalize hN0 : N p = n0 at *
              generalize hC0 : C p = c0 at *
              generalize hA1 : A (p + 1) = a1 at *
              generalize hN1 : N (p + 1) = n1 at *
              generalize hC1 : C (p + 1) = c1 at *
              clear hA0 hN0 hC0 hA1 hN1 hC1
              go_wp2_with fail
              go_quiet (fail)
              go_wp2_with fail
              go_roundw
              case rel => exact ⟨k + 1, by omega, by go_num, HT5.out.keep (Nat.le_trans hB4 hb5.size) (below_drewN (Below.refl _ _) _)⟩
              case measure => simp [intOf]; omega
            · have hap := apart_any wr w2.heap.size hB4 (.slice ta (2 * len) tc) (2 * len) A C N X HT4.out.lst HT4.out.fam HT4.out.apt (by omega) (fun k hk => HTX.out.n k hk)
              go_wp2_with fail
              refine hap.mono ?_
              rintro e w5 ⟨rfl, hb5⟩
              go_wp2_with fail
              go_ret
              exact ⟨rfl, hbw4.trans (hb5.mono hbs2)⟩
end Go.Proofs.YtchobeakieljpaaGreatDoor
