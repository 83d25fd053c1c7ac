import Derived.Test.YtfofmmkihhnfmaaGreatDoorJac
import Derived.Test.YtfofmmkihhnfmaaGreatDoorJav
set_option linter.unusedVariables false
set_option linter.unusedSimpArgs false
namespace Go.Proofs.YtfofmmkihhnfmaaGreatDoor
open Go.ChangeShapes Go.WideShapes Go.ChangeAt Go.RowKit Go.Maps
theorem wpList_store_partR {ops : Array Oper} {rest : List Oper} {o : Oper} {a : Act} {w : World} {Q : Exit -> Act -> World -> Prop} (hgd : o.guard = none) (x y : Operand) (t : TypeId) (ho : o.op = .store t x y)
 (g off : Nat) (A : Array Value) (ty : TypeId) (hg : w.heap[g]? = some (.cells A ty (0, 0))) (cs : List Value) (hx : a.eval x = .pointer (some ⟨g, off, none⟩)) (hy : a.eval y = .agg cs.toArray) (hsz : (Tryz.prog.info? t).map (fun i => (i.size, i.zero.isSome)) = some (cs.length, true)) (h1 : ∀ u ∈ cs, u.oneCell' = true) (hlen : off + cs.length <= A.size)
 (h : wpList Tryz.prog ops Q rest (a.put o.dst undef) (w.setRow g (A.toList.take off ++ cs ++ A.toList.drop (off + cs.length)).toArray)) : wpList Tryz.prog ops Q (o :: rest) a w := by
 have hst := run_storeCells_at (P := Tryz.prog) g off ty cs 0 A w hg (by simpa using hlen) h1
 refine wpList_plain hgd fun _ hK => ?_
 obtain ⟨i0, hi, hz⟩ := Option.map_eq_some_iff.1 hsz
 unfold Oper.wp execOp
 have hz1 : i0.size = cs.length := congrArg Prod.fst hz
 have hrun : (storeVar t ⟨g, off, none⟩ (.agg cs.toArray)).run Tryz.prog w = .ok () (w.setRow g (A.toList.take off ++ cs ++ A.toList.drop (off + cs.length)).toArray) := by
  simp only [Nat.add_zero] at hst
  rw [<- hst]
  simp [storeVar, sizeOf, typeInfo, hi, Value.cells, hz1]
 simp only [ho, hx, hy, Instr.storeAt, Instr.sureAddr, Sem.run_bind, Sem.run_pure, Result.andThen_ok, hrun]
 exact hK _ _ h
theorem heap_setRow_otherR {w : World} {g k : Nat} {cs : Array Value} (h : k ≠ g) : (w.setRow g cs).heap[k]? = w.heap[k]? := by
 simp only [World.setRow, Array.getElem?_modify]
 rw [if_neg (by omega)]
theorem heap_setRow_atR {w : World} {g : Nat} {A cs : Array Value} {t : TypeId} (h : w.heap[g]? = some (.cells A t (0, 0))) : (w.setRow g cs).heap[g]? = some (.cells cs t (0, 0)) := by
 simp [World.setRow, Array.getElem?_modify, h]
theorem only_setRowR (w : World) (g : Nat) (cs : Array Value) : Only (fun k => k = g) w (w.setRow g cs) := ⟨rfl, rfl, rfl, by simp, fun k _ hn => heap_setRow_otherR hn⟩
theorem mOverR {s d w R} (h : Rm s d w R) :
 Calls Tryz.prog 70 #[.pointer (some ⟨s.mb, 66, none⟩)] w fun e w' => e = .returned (.bool R.over) /\ w' = w := told_over w (o := 66) h.cells.c73 h.cells.c67
structure OvR (s : Rst) (ve : Value) (w : World) (R : Rv) : Prop where
 c0 : w.cell? ⟨s.mb, 66, none⟩ = some ve
 c1 : w.cell? ⟨s.mb, 66 + 1, none⟩ = some (.int .i64 R.fin)
 c2 : w.cell? ⟨s.mb, 66 + 2, none⟩ = some (.int .i64 R.kd)
 c3 : w.cell? ⟨s.mb, 66 + 3, none⟩ = some (.int .i64 R.vl)
 c4 : w.cell? ⟨s.mb, 66 + 4, none⟩ = some (.int .i64 R.steps)
 c5 : w.cell? ⟨s.mb, 66 + 5, none⟩ = some (.int .i64 R.words)
 c6 : w.cell? ⟨s.mb, 66 + 6, none⟩ = some (.int .i64 R.deep)
 c7 : w.cell? ⟨s.mb, 66 + 7, none⟩ = some (.bool R.rests)
 box : ∃ A, w.heap[s.mb]? = some (.cells A 86 (0, 0))
 ev : Row w s.hi 62 2 ve (R.ev.map evc)
 evs : R.ev.length <= 1048576
theorem OvR.lt {s ve w R} (h : OvR s ve w R) : s.mb < w.heap.size := block_lt_of_cell h.c0
theorem OvR.fz {s ve w R} (h : OvR s ve w R) (i : Nat) : w.frozen? ⟨s.mb, i, none⟩ = false := by
 obtain ⟨A, hA⟩ := h.box
 exact fz_of hA
theorem Rm.ended {s d w R} (h : Rm s d w R) : OvR s d.ve w R :=
 let T := h.cells
 ⟨T.c66, T.c67, T.c68, T.c69, T.c70, T.c71, T.c72, T.c73, ⟨_, h.box⟩, h.rest.ev, h.rest.evs⟩
theorem OvR.apart {s ve w w' R} (h : OvR s ve w R) {F : Nat -> Prop} (ho : Only F w w') (h1 : ¬ F s.mb) (h2 : ∀ k, ve.ownBlock = some k -> ¬ F k) : OvR s ve w' R := by
 obtain ⟨A, hA⟩ := h.box
 have hA2 := (ho.block _ (gl hA) h1).trans hA
 have ce : ∀ i, w'.cell? ⟨s.mb, i, none⟩ = w.cell? ⟨s.mb, i, none⟩ := fun i => by simp [World.cell?, hA, hA2]
 exact ⟨(ce _).trans h.c0, (ce _).trans h.c1, (ce _).trans h.c2, (ce _).trans h.c3, (ce _).trans h.c4, (ce _).trans h.c5, (ce _).trans h.c6, (ce _).trans h.c7, ⟨_, hA2⟩, h.ev.move fun g hg => ho.block g (own_block h.ev.out hg).2 (h2 g hg), h.evs⟩
theorem OvR.below {s ve w w' R} (h : OvR s ve w R) (hb : Below w.heap.size w w') : OvR s ve w' R := h.apart (F := fun _ => False) (Only.of_below hb _) (fun q => q) (fun _ _ q => q)
theorem OvR.toldAt {s ve w R} (h : OvR s ve w R) : ToldAt w s.hi s.mb 66 R.ev R.fin R.kd R.vl R.steps R.words R.deep := ⟨⟨_, h.c0, h.ev⟩, h.c1, h.c2, h.c3, h.c4, h.c5, h.c6, h.evs⟩
theorem OvR.over {s ve w R} (h : OvR s ve w R) : Calls Tryz.prog 70 #[.pointer (some ⟨s.mb, 66, none⟩)] w fun e w' => e = .returned (.bool R.over) /\ w' = w := told_over w (o := 66) h.c7 h.c1
theorem OvR.made {s ve w R} (h : OvR s ve w R) (k : Int) : OvR s ve (w.setCell ⟨s.mb, 66 + 4, none⟩ (.int .i64 k)) { R with steps := k } := by
 obtain ⟨A, hA⟩ := h.box
 have hs := heap_set_at (i := 70) (v := .int .i64 k) hA
 have lt : 70 < A.size := by
  have := h.c4
  simp [World.cell?, hA] at this
  exact (gl this)
 have ne : ∀ i, i ≠ 70 -> (w.setCell ⟨s.mb, 70, none⟩ (.int .i64 k)).cell? ⟨s.mb, i, none⟩ = w.cell? ⟨s.mb, i, none⟩ := fun i hi => by
  simp [World.cell?, hs, hA, Array.getElem?_setIfInBounds_ne (Ne.symm hi)]
 refine ⟨(ne _ (by omega)).trans h.c0, (ne _ (by omega)).trans h.c1, (ne _ (by omega)).trans h.c2, (ne _ (by omega)).trans h.c3, cell_arr hs (by simp [Array.getElem?_setIfInBounds_self_of_lt, lt]), (ne _ (by omega)).trans h.c5, (ne _ (by omega)).trans h.c6, (ne _ (by omega)).trans h.c7, ⟨_, hs⟩, h.ev.move fun g hg => heap_set_other fun e => ?_, h.evs⟩
 exact own_not h.ev.out hA (by decide) (e ▸ hg)
def zlR : List Value := List.replicate 39 .nilFunc ++ ([.slice none 0 0, .slice none 0 0, .int .i64 0] ++ (List.replicate 16 (.int .i64 0) ++ [.map none, .int .i64 0, .int .i64 0, .int .i64 0, .int .i64 0, .pointer none, .int .i64 0, .slice none 0 0]))
theorem zlR_eq : Tryz.zeroCells82 = zlR.toArray := by kernel_rfl
theorem zlR_info : (Tryz.prog.info? 82).map (fun i => (i.size, i.zero.isSome)) = some (zlR.length, true) := by kernel_rfl
theorem zlR_one : ∀ u ∈ zlR, u.oneCell' = true := by decide
theorem rcs_drop {s d R} (h : R.rg.length = 16) : (rcs s d R).drop 66 = (rtl s d R).drop 8 := by
 apply List.ext_getElem?
 intro i
 rw [List.getElem?_drop, List.getElem?_drop, show 66 + i = 58 + (8 + i) by omega, rcs_tail h]
theorem rcs_len {s d R} (h : R.rg.length = 16) : (rcs s d R).length = 74 := by
 unfold rcs
 simp [tblR, rtl, h]
theorem Rm.gone {s d w R} (h : Rm s d w R) : OvR s d.ve (w.setRow s.mb (zlR ++ (rtl s d R).drop 8).toArray) R /\ FooR s d d w (w.setRow s.mb (zlR ++ (rtl s d R).drop 8).toArray) := by
 have h3 := heap_setRow_atR (cs := (zlR ++ (rtl s d R).drop 8).toArray) h.box
 refine ⟨⟨cell_arr h3 rfl, cell_arr h3 rfl, cell_arr h3 rfl, cell_arr h3 rfl, cell_arr h3 rfl, cell_arr h3 rfl, cell_arr h3 rfl, cell_arr h3 rfl, ⟨_, h3⟩, h.rest.ev.move fun g hg => heap_setRow_otherR fun e => not_ownR h.rest.ev.out h.rest.hi.2.1 (e ▸ hg), h.rest.evs⟩, ⟨(only_setRowR w s.mb _).mono fun k _ e => .inl e, fun k q => .inl q⟩⟩
set_option maxRecDepth 100000 in
theorem letGo_no {s d w R} (h : Rm s d w R) (ho : R.over = false) :
 Calls Tryz.prog 30 #[.pointer (some ⟨s.mb, 0, none⟩)] w fun e w' => e = .returned (.tuple #[]) /\ w' = w := by
 have HO : Hid _ := mOverR h
 rw [ho] at HO
 have hlt := h.lt
 generalize s.mb = mb at *
 clear h
 go_enter Tryz.func30, Tryz.ntmps30
 go_wp2_with (go_at_call 70; refine Calls.mono HO.out ?_; rintro e w1 ⟨rfl, rfl⟩)
 exact bodyPost_end (v := .tuple #[]) (by simp [results, Tryz.results30, go_sem]) rfl ⟨rfl, rfl⟩
set_option maxRecDepth 100000 in
theorem letGo_yes {s d w R} (h : Rm s d w R) (ho : R.over = true) :
 Calls Tryz.prog 30 #[.pointer (some ⟨s.mb, 0, none⟩)] w fun e w' => e = .returned (.tuple #[]) /\ OvR s d.ve w' R /\ FooR s d d w w' := by
 have HO : Hid _ := mOverR h
 rw [ho] at HO
 have hlt := h.lt
 have HG : Hid _ := h.gone
 have HBX : Hid _ := h.box
 have HLN : Hid (0 + zlR.length <= (rcs s d R).toArray.size) := by
  show _ <= _
  rw [List.size_toArray, rcs_len h.rg]
  decide
 have HEQ : Hid (((rcs s d R).toArray.toList.take 0 ++ zlR ++ (rcs s d R).toArray.toList.drop (0 + zlR.length)).toArray = (zlR ++ (rtl s d R).drop 8).toArray) := by
  show _ = _
  rw [show 0 + zlR.length = 66 from rfl, <- rcs_drop h.rg]
  rfl
 generalize s.mb = mb at *
 clear h
 go_enter Tryz.func30, Tryz.ntmps30
 go_wp2_with (first
  | (go_at_call 70; refine Calls.mono HO.out ?_; rintro e w1 ⟨rfl, rfl⟩)
  | (refine wpList_store_partR rfl _ _ 82 rfl mb 0 _ _ HBX.out zlR rfl (by rw [<- zlR_eq]; rfl) zlR_info zlR_one HLN.out ?_; rw [HEQ.out]))
 exact bodyPost_end (v := .tuple #[]) (by simp [results, Tryz.results30, go_sem]) rfl ⟨rfl, HG.out⟩
structure StR (s : Rst) (d0 : Rdy) (w0 w : World) (R : Rv) : Prop where
 out : ∃ d, (R.over = false -> Rm s d w R) /\ OvR s d.ve w R /\ FooR s d0 d w0 w
theorem Rm.stR {s d w R} (h : Rm s d w R) : StR s d w w R := ⟨d, fun _ => h, h.ended, FooR.refl _ _ _⟩
theorem StR.below {s d w W W' R} (h : StR s d w W R) (hb : Below W.heap.size W W') : StR s d w W' R := by
 obtain ⟨d1, h1, h2, h3⟩ := h.out
 exact ⟨d1, fun q => (h1 q).below hb, h2.below hb, h3.trans (FooR.of_below hb)⟩
set_option maxRecDepth 100000 in
theorem mStepR_no {s ve w R} (h : OvR s ve w R) (ho : R.over = true) :
 Calls Tryz.prog 32 #[.pointer (some ⟨s.mb, 0, none⟩)] w fun e w' => e = .returned (.bool false) /\ w' = w := by
 have HO : Hid _ := h.over
 rw [ho] at HO
 have hlt := h.lt
 generalize s.mb = mb at *
 clear h
 go_enter Tryz.func32, Tryz.ntmps32
 go_wp2_with (go_at_call 70; refine Calls.mono HO.out ?_; rintro e w1 ⟨rfl, rfl⟩)
 go_ret
 exact ⟨rfl, rfl⟩
def Rv.done (R R1 : Rv) : Bool × Rv := if R1.rests then (false, R1) else (true, { R1 with steps := R.steps + 1 })
theorem OvR.madeR {s d d' w w'} {R R1 : Rv} (h : OvR s d'.ve w' R1) (hf : FooR s d d' w w') (hst : R1.steps = R.steps) (hs : 0 <= R.steps /\ R.steps <= 4611686018427387904) (hm : R1.over = false -> Rm s d' w' R1) :
 Calls Tryz.prog 73 #[.pointer (some ⟨s.mb, 66, none⟩)] w' fun e w2 => e = .returned (.bool (R.done R1).1) /\ StR s d w w2 (R.done R1).2 := by
 by_cases hr : R1.rests = true
 ·rw [show R.done R1 = (false, R1) from if_pos hr]
  refine (told_made_no w' (o := 66) (by rw [<- hr]; exact h.c7)).mono ?_
  rintro e w2 ⟨rfl, rfl⟩
  exact ⟨rfl, d', hm, h, hf⟩
 ·have hr2 : R1.rests = false := by simpa using hr
  rw [show R.done R1 = (true, { R1 with steps := R.steps + 1 }) from if_neg hr]
  refine (told_made_yes w' (o := 66) (by rw [<- hr2]; exact h.c7) h.c4 (h.fz _) (by rw [hst]; exact hs.1) (by rw [hst]; exact hs.2)).mono ?_
  rintro e w2 ⟨rfl, rfl⟩
  have m := h.made (R1.steps + 1)
  rw [hst] at m
  rw [hst]
  refine ⟨rfl, d', fun q => ?_, m, hf.trans (FooR.set s d' _ _ _)⟩
  have q1 : R1.over = false := q
  have := (hm q1).made (R1.steps + 1)
  rw [hst] at this
  exact this.1
set_option maxRecDepth 100000 in
set_option maxHeartbeats 4000000 in
theorem mStepR_any {s d w R} (h : Rm s d w R) (ho : R.over = false) (hs : 0 <= R.steps /\ R.steps <= 4611686018427387904) (R1 : Rv) (hst : R1.steps = R.steps)
 (hA : Calls Tryz.prog 72 #[.pointer (some ⟨s.mb, 0, none⟩)] w fun e w' => e = .returned (.tuple #[]) /\ ∃ d', Rm s d' w' R1 /\ FooR s d d' w w') :
 Calls Tryz.prog 32 #[.pointer (some ⟨s.mb, 0, none⟩)] w fun e w' => e = .returned (.bool (R.done R1).1) /\ StR s d w w' (R.done R1).2 := by
 have HO : Hid (Calls Tryz.prog 70 #[.pointer (some ⟨s.mb, 66, none⟩)] w fun e w' => e = .returned (.bool false) /\ w = w') := by
  have := mOverR h
  rw [ho] at this
  exact this.mono fun e w' r => ⟨r.1, r.2.symm⟩
 have hlt := h.lt
 have HA : Hid (Calls Tryz.prog 72 #[.pointer (some ⟨s.mb, 0, none⟩)] w fun e w' => e = .returned (.tuple #[]) /\ s.mb < w'.heap.size /\ Calls Tryz.prog 30 #[.pointer (some ⟨s.mb, 0, none⟩)] w' fun e w2 => e = .returned (.tuple #[]) /\ s.mb < w2.heap.size /\ Calls Tryz.prog 73 #[.pointer (some ⟨s.mb, 66, none⟩)] w2 fun e w3 => e = .returned (.bool (R.done R1).1) /\ StR s d w w3 (R.done R1).2) := by
  refine hA.mono ?_
  rintro e w' ⟨rfl, d', q, f⟩
  refine ⟨rfl, q.lt, ?_⟩
  cases hov : R1.over with
  | false =>
    refine (letGo_no q hov).mono ?_
    rintro e w2 ⟨rfl, rfl⟩
    exact ⟨rfl, q.lt, q.ended.madeR f hst hs fun _ => q⟩
  | true =>
    refine (letGo_yes q hov).mono ?_
    rintro e w2 ⟨rfl, o2, f2⟩
    exact ⟨rfl, o2.lt, o2.madeR (f.trans f2) hst hs fun e => by rw [hov] at e; cases e⟩
 generalize (R.done R1).1 = T at *
 generalize (R.done R1).2 = R2 at *
 generalize s.mb = mb at *
 clear h hA hst hs ho
 go_enter Tryz.func32, Tryz.ntmps32
 go_wp2_with (go_at_call 70; refine Calls.mono HO.out ?_; rintro e w1 ⟨rfl, rfl⟩)
 refine Calls.mono HA.out ?_
 rintro e w2 ⟨rfl, l2, h2⟩
 have H2 : Hid _ := h2
 clear h2 HA HO
 go_wp2_with fail
 refine Calls.mono H2.out ?_
 rintro e w3 ⟨rfl, l3, h3⟩
 have H3 : Hid _ := h3
 clear h3
 go_wp2_with fail
 refine Calls.mono H3.out ?_
 rintro e w4 ⟨rfl, h4⟩
 have H4 : Hid _ := h4
 clear h4
 go_wp2_with fail
 go_ret
 exact ⟨rfl, H4.out⟩
end Go.Proofs.YtfofmmkihhnfmaaGreatDoor
namespace Go.Proofs.YtfofmmkihhnfmaaGreatDoor
open Go.ChangeShapes Go.WideShapes Go.ChangeAt Go.RowKit
set_option maxRecDepth 100000 in
set_option maxHeartbeats 4000000 in
theorem told_runL (w : World) {mb o B fuel N g : Nat} (fs : Array Value) (eg : OpensR g) (hf : fuel <= 1099511627776) (I : Nat -> World -> Prop) (J : World -> Prop) {E : List (Int × Int)} {x1 x2 x3 x4 x5 x6 : Int}
 (h0 : I 0 (w.alloc (.cells #[.slice none 0 0, .int .i64 0, .int .i64 0, .int .i64 0, .int .i64 0, .int .i64 0, .int .i64 0] 38)))
 (hI : ∀ k W, k < N -> I k W -> Calls Tryz.prog g (fs ++ (#[] ++ #[])) W fun e w' => e = .returned (.bool true) /\ I (k + 1) w')
 (hN : N < fuel -> ∀ W, I N W -> Calls Tryz.prog g (fs ++ (#[] ++ #[])) W fun e w' => e = .returned (.bool false) /\ J w')
 (hJ : ∀ W, FinR N fuel I J W -> ToldAt W B mb o E x1 x2 x3 x4 x5 x6 /\ W.heap[w.heap.size]? = some (.cells #[.slice none 0 0, .int .i64 0, .int .i64 0, .int .i64 0, .int .i64 0, .int .i64 0, .int .i64 0] 38 (0, 0))) :
 Calls Tryz.prog 31 #[.pointer (some ⟨mb, o, none⟩), .int .i64 fuel, .func (.func g) fs #[]] w fun e w' => ∃ v' wF, e = .returned (.tuple #[.agg #[v', .int .i64 x1, .int .i64 x2, .int .i64 x3, .int .i64 x4, .int .i64 x5, .int .i64 x6], .int .i64 0]) /\ FinR N fuel I J wF /\ Row w' wF.heap.size 62 2 v' (E.map evc) /\ Only (fun k => k = w.heap.size) wF w' := by
 have H0 : Hid _ := h0
 have HI : Hid _ := hI
 have HN : Hid _ := hN
 have HJ : Hid _ := hJ
 have hd1 : decide ((fuel : Int) < 0) = false := by simp
 have hd2 : decide (1099511627776 < (fuel : Int)) = false := by simp; omega
 clear h0 hI hN hJ
 go_enter Tryz.func31, Tryz.ntmps31
 go_wp2_with fail
 clear hd1 hd2
 go_loopw [1] (fun v wr => ∃ k : Nat, k <= fuel /\ k <= N /\ v = .int .i64 ((fuel - k : Nat) : Int) /\ Hid (I k wr)) (fun v _ => (intOf v).toNat)
 case atStart => exact ⟨0, by omega, by omega, rfl, H0⟩
 case round =>
  clear H0
  obtain ⟨k, hk, hkN, rfl, HK⟩ := hrel
  obtain ⟨wq, rfl⟩ : ∃ wq, wq = wr := ⟨_, rfl⟩
  by_cases hz : k = fuel
  ·have HFIN : Hid (FinR N fuel I J wq) := by
    show if N < fuel then J wq else I fuel wq
    rw [if_neg (by omega)]
    rw [<- hz]
    exact HK.out
   have e0 : ((fuel - k : Nat) : Int) = 0 := by omega
   rw [e0]
   clear e0 HK hz
   obtain ⟨T, kr⟩ := HJ.out wq HFIN.out
   have HOC : Hid _ := T.outcome
   have HKR : Hid _ := kr
   clear T kr HI HN HJ
   go_wp2_with fail
   refine Calls.mono HOC.out ?_
   rintro e w2 ⟨v2, rfl, hR2, b2⟩
   obtain ⟨ao2, cc2, rfl, _⟩ := evs_of hR2
   have hwf : w.heap.size < wq.heap.size := (gl HKR.out)
   have q0 := (b2.block w.heap.size hwf).trans HKR.out
   obtain ⟨W4, hW4⟩ : ∃ W, W = ((((((w2.setCell ⟨w.heap.size, 0, none⟩ (.slice ao2 E.length cc2)).setCell ⟨w.heap.size, 1, none⟩ (.int .i64 x1)).setCell ⟨w.heap.size, 2, none⟩ (.int .i64 x2)).setCell ⟨w.heap.size, 3, none⟩ (.int .i64 x3)).setCell ⟨w.heap.size, 4, none⟩ (.int .i64 x4)).setCell ⟨w.heap.size, 5, none⟩ (.int .i64 x5)).setCell ⟨w.heap.size, 6, none⟩ (.int .i64 x6) := ⟨_, rfl⟩
   have HRX : Hid (W4.heap[w.heap.size]? = some (.cells #[.slice ao2 E.length cc2, .int .i64 x1, .int .i64 x2, .int .i64 x3, .int .i64 x4, .int .i64 x5, .int .i64 x6] 38 (0, 0))) := by rw [hW4]; exact box_seven q0 _ _ _ _ _ _ _
   have hsame : ∀ g, g ≠ w.heap.size -> W4.heap[g]? = w2.heap[g]? := fun g n0 => by
    rw [hW4, heap_set_other n0, heap_set_other n0, heap_set_other n0, heap_set_other n0, heap_set_other n0, heap_set_other n0, heap_set_other n0]
   have HR4 : Hid (Row W4 wq.heap.size 62 2 (.slice ao2 E.length cc2) (E.map evc)) := hR2.move fun g hg => hsame g fun q => own_not hR2.out q0 (by decide) (q ▸ hg)
   have HSM : Hid (Only (fun k => k = w.heap.size) wq W4) := by rw [hW4]; exact only_sevenR (Only.of_below b2 _) _ _ _ _ _ _ _
   have t0 : w2.cell? ⟨w.heap.size, 0, none⟩ = some (.slice none 0 0) := cell_arr q0 rfl
   have t1 : w2.cell? ⟨w.heap.size, 1, none⟩ = some (.int .i64 0) := cell_arr q0 rfl
   have t2 : w2.cell? ⟨w.heap.size, 2, none⟩ = some (.int .i64 0) := cell_arr q0 rfl
   have t3 : w2.cell? ⟨w.heap.size, 3, none⟩ = some (.int .i64 0) := cell_arr q0 rfl
   have t4 : w2.cell? ⟨w.heap.size, 4, none⟩ = some (.int .i64 0) := cell_arr q0 rfl
   have t5 : w2.cell? ⟨w.heap.size, 5, none⟩ = some (.int .i64 0) := cell_arr q0 rfl
   have t6 : w2.cell? ⟨w.heap.size, 6, none⟩ = some (.int .i64 0) := cell_arr q0 rfl
   have u0 : w2.frozen? ⟨w.heap.size, 0, none⟩ = false := fz_of q0
   have u1 : w2.frozen? ⟨w.heap.size, 1, none⟩ = false := fz_of q0
   have u2 : w2.frozen? ⟨w.heap.size, 2, none⟩ = false := fz_of q0
   have u3 : w2.frozen? ⟨w.heap.size, 3, none⟩ = false := fz_of q0
   have u4 : w2.frozen? ⟨w.heap.size, 4, none⟩ = false := fz_of q0
   have u5 : w2.frozen? ⟨w.heap.size, 5, none⟩ = false := fz_of q0
   have u6 : w2.frozen? ⟨w.heap.size, 6, none⟩ = false := fz_of q0
   have HW4 : Hid _ := hW4
   clear hR2 b2 q0 hW4 hsame
   go_wp2_with fail
   rw [<- HW4.out]
   refine bodyPost_ret (v := .tuple #[.agg #[.slice ao2 E.length cc2, .int .i64 x1, .int .i64 x2, .int .i64 x3, .int .i64 x4, .int .i64 x5, .int .i64 x6], .int .i64 0]) ?_ rfl ⟨_, wq, rfl, HFIN.out, HR4.out, HSM.out⟩
   exact results_row_tmp Tryz.results31 _ _ w.heap.size 38 _ (0, 0) _ rfl HRX.out Tryz.underlying38 rfl (by kernel_rfl)
  ·obtain ⟨q, hq⟩ : ∃ q : Nat, fuel - k = q + 1 := ⟨fuel - k - 1, by omega⟩
   rw [hq]
   have hqb : q + 1 <= 1099511627776 := by omega
   have HQ : Hid (fuel - k = q + 1) := hq
   clear hq
   by_cases hN2 : k = N
   ·have HST : Hid (Calls Tryz.prog g (fs ++ (#[] ++ #[])) wq fun e w' => e = .returned (.bool false) /\ J w') := HN.out (by omega) wq (by rw [<- hN2]; exact HK.out)
    have HLT : Hid (N < fuel) := by show N < fuel; omega
    clear HK hN2
    go_wp2_with fail
    rw [eg.out]
    refine Calls.mono HST.out ?_
    rintro e w1 ⟨rfl, hj⟩
    have HFIN : Hid (FinR N fuel I J w1) := by
     show if N < fuel then J w1 else I fuel w1
     rw [if_pos HLT.out]
     exact hj
    clear hj
    obtain ⟨T, kr⟩ := HJ.out w1 HFIN.out
    have HOC : Hid _ := T.outcome
    have HKR : Hid _ := kr
    clear T kr HI HN HJ
    go_wp2_with fail
    refine Calls.mono HOC.out ?_
    rintro e w2 ⟨v2, rfl, hR2, b2⟩
    obtain ⟨ao2, cc2, rfl, _⟩ := evs_of hR2
    have hwf : w.heap.size < w1.heap.size := (gl HKR.out)
    have q0 := (b2.block w.heap.size hwf).trans HKR.out
    obtain ⟨W4, hW4⟩ : ∃ W, W = ((((((w2.setCell ⟨w.heap.size, 0, none⟩ (.slice ao2 E.length cc2)).setCell ⟨w.heap.size, 1, none⟩ (.int .i64 x1)).setCell ⟨w.heap.size, 2, none⟩ (.int .i64 x2)).setCell ⟨w.heap.size, 3, none⟩ (.int .i64 x3)).setCell ⟨w.heap.size, 4, none⟩ (.int .i64 x4)).setCell ⟨w.heap.size, 5, none⟩ (.int .i64 x5)).setCell ⟨w.heap.size, 6, none⟩ (.int .i64 x6) := ⟨_, rfl⟩
    have HRX : Hid (W4.heap[w.heap.size]? = some (.cells #[.slice ao2 E.length cc2, .int .i64 x1, .int .i64 x2, .int .i64 x3, .int .i64 x4, .int .i64 x5, .int .i64 x6] 38 (0, 0))) := by rw [hW4]; exact box_seven q0 _ _ _ _ _ _ _
    have hsame : ∀ g, g ≠ w.heap.size -> W4.heap[g]? = w2.heap[g]? := fun g n0 => by
     rw [hW4, heap_set_other n0, heap_set_other n0, heap_set_other n0, heap_set_other n0, heap_set_other n0, heap_set_other n0, heap_set_other n0]
    have HR4 : Hid (Row W4 w1.heap.size 62 2 (.slice ao2 E.length cc2) (E.map evc)) := hR2.move fun g hg => hsame g fun q => own_not hR2.out q0 (by decide) (q ▸ hg)
    have HSM : Hid (Only (fun k => k = w.heap.size) w1 W4) := by rw [hW4]; exact only_sevenR (Only.of_below b2 _) _ _ _ _ _ _ _
    have t0 : w2.cell? ⟨w.heap.size, 0, none⟩ = some (.slice none 0 0) := cell_arr q0 rfl
    have t1 : w2.cell? ⟨w.heap.size, 1, none⟩ = some (.int .i64 0) := cell_arr q0 rfl
    have t2 : w2.cell? ⟨w.heap.size, 2, none⟩ = some (.int .i64 0) := cell_arr q0 rfl
    have t3 : w2.cell? ⟨w.heap.size, 3, none⟩ = some (.int .i64 0) := cell_arr q0 rfl
    have t4 : w2.cell? ⟨w.heap.size, 4, none⟩ = some (.int .i64 0) := cell_arr q0 rfl
    have t5 : w2.cell? ⟨w.heap.size, 5, none⟩ = some (.int .i64 0) := cell_arr q0 rfl
    have t6 : w2.cell? ⟨w.heap.size, 6, none⟩ = some (.int .i64 0) := cell_arr q0 rfl
    have u0 : w2.frozen? ⟨w.heap.size, 0, none⟩ = false := fz_of q0
    have u1 : w2.frozen? ⟨w.heap.size, 1, none⟩ = false := fz_of q0
    have u2 : w2.frozen? ⟨w.heap.size, 2, none⟩ = false := fz_of q0
    have u3 : w2.frozen? ⟨w.heap.size, 3, none⟩ = false := fz_of q0
    have u4 : w2.frozen? ⟨w.heap.size, 4, none⟩ = false := fz_of q0
    have u5 : w2.frozen? ⟨w.heap.size, 5, none⟩ = false := fz_of q0
    have u6 : w2.frozen? ⟨w.heap.size, 6, none⟩ = false := fz_of q0
    have HW4 : Hid _ := hW4
    clear hR2 b2 q0 hW4 hsame
    go_wp2_with fail
    rw [<- HW4.out]
    refine bodyPost_ret (v := .tuple #[.agg #[.slice ao2 E.length cc2, .int .i64 x1, .int .i64 x2, .int .i64 x3, .int .i64 x4, .int .i64 x5, .int .i64 x6], .int .i64 0]) ?_ rfl ⟨_, w1, rfl, HFIN.out, HR4.out, HSM.out⟩
    exact results_row_tmp Tryz.results31 _ _ w.heap.size 38 _ (0, 0) _ rfl HRX.out Tryz.underlying38 rfl (by kernel_rfl)
   ·have HST : Hid (Calls Tryz.prog g (fs ++ (#[] ++ #[])) wq fun e w' => e = .returned (.bool true) /\ I (k + 1) w') := HI.out k wq (by omega) HK.out
    clear HK
    go_wp2_with fail
    rw [eg.out]
    refine Calls.mono HST.out ?_
    rintro e w1 ⟨rfl, hj⟩
    have HJ1 : Hid (I (k + 1) w1) := hj
    clear hj
    go_wp2_with fail
    go_roundw
    case rel => exact ⟨k + 1, by omega, by omega, by first | go_num | (congr 1; have := HQ.out; omega), HJ1.out⟩
    case measure => simp [intOf]; try omega
end Go.Proofs.YtfofmmkihhnfmaaGreatDoor
