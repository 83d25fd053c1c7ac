import Derived.Test.YtfbkopjncmkbiabGreatDoorKaw
import Derived.Test.YtfbkopjncmkbiabGreatDoorKax
set_option linter.unusedVariables false
set_option linter.unusedSimpArgs false
namespace Go.Proofs.YtfbkopjncmkbiabGreatDoor
open Go.ChangeShapes Go.WideShapes Go.ChangeAt Go.RowKit
theorem only_setR {F : Nat -> Prop} {w w1 : World} (h : Only F w w1) (a : Addr) (ha : F a.block) (v : Value) : Only F w (w1.setCell a v) := h.trans (Only.of_set w1 a v) fun i _ e => by
 have : i = a.block := e
 rw [this]; exact ha
theorem only_sevenR {w w1 : World} {gb : Nat} (h : Only (fun k => k = gb) w w1) (a b c d e f g : Value) : Only (fun k => k = gb) w (((((((w1.setCell ⟨gb, 0, none⟩ a).setCell ⟨gb, 1, none⟩ b).setCell ⟨gb, 2, none⟩ c).setCell ⟨gb, 3, none⟩ d).setCell ⟨gb, 4, none⟩ e).setCell ⟨gb, 5, none⟩ f).setCell ⟨gb, 6, none⟩ g) := by
 have S : ∀ {W : World}, Only (fun k => k = gb) w W -> ∀ (i : Nat) (v : Value), Only (fun k => k = gb) w (W.setCell ⟨gb, i, none⟩ v) := fun h i v => only_setR (F := fun k => k = gb) h ⟨gb, i, none⟩ rfl v
 exact S (S (S (S (S (S (S h 0 a) 1 b) 2 c) 3 d) 4 e) 5 f) 6 g
structure OpensR (g : Nat) : Prop where
 out : ∀ args w, (callFunc g args).run Tryz.prog w = .ok (.enter g args) w
theorem OpensR.of {g : Nat} {fn : Func} {c : Code} (hf : Tryz.prog.funcs[g]? = some fn) (hname : (fn.name == "runtime.NumGoroutine") = false) (hb : fn.body = some c) : OpensR g := by
 refine ⟨fun args w => ?_⟩
 have h1 : fn.name ≠ "runtime.NumGoroutine" := by simpa using hname
 simp [callFunc, hf, h1, hb, mark]
structure ToldAt (w : World) (B mb o : Nat) (E : List (Int × Int)) (x1 x2 x3 x4 x5 x6 : Int) : Prop where
 c0 : ∃ v, w.cell? ⟨mb, o, none⟩ = some v /\ Row w B 45 2 v (E.map evc)
 c1 : w.cell? ⟨mb, o + 1, none⟩ = some (.int .i64 x1)
 c2 : w.cell? ⟨mb, o + 2, none⟩ = some (.int .i64 x2)
 c3 : w.cell? ⟨mb, o + 3, none⟩ = some (.int .i64 x3)
 c4 : w.cell? ⟨mb, o + 4, none⟩ = some (.int .i64 x4)
 c5 : w.cell? ⟨mb, o + 5, none⟩ = some (.int .i64 x5)
 c6 : w.cell? ⟨mb, o + 6, none⟩ = some (.int .i64 x6)
 few : E.length <= 1048576
theorem ToldAt.outcome {w B mb o E x1 x2 x3 x4 x5 x6} (h : ToldAt w B mb o E x1 x2 x3 x4 x5 x6) : Calls Tryz.prog 43 #[.pointer (some ⟨mb, o, none⟩)] w fun e w' => ∃ v', e = .returned (.agg #[v', .int .i64 x1, .int .i64 x2, .int .i64 x3, .int .i64 x4, .int .i64 x5, .int .i64 x6]) /\ Row w' w.heap.size 45 2 v' (E.map evc) /\ Below w.heap.size w w' := by
 obtain ⟨v, h0, hR⟩ := h.c0
 exact told_outcome w h0 h.c1 h.c2 h.c3 h.c4 h.c5 h.c6 hR h.few
theorem results_row_tmp {P : Program} {fn : Func} {p u : Tmp} {ty : TypeId} (h : fn.results = #[.cell p ty, .tmp u]) (tmps : Array Value) (w : World) (g : Nat) (t : TypeId) (cs : Array Value) (fr : Nat × Nat) (d : TypeDesc)
 (hp : tmps.getD p undef = .pointer (some ⟨g, 0, none⟩)) (hg : w.heap[g]? = some (.cells cs t fr))
 (hu : P.underlying ty = some d) (hd : (match d with | .struct _ | .array _ _ => true | _ => false) = true) (hi : (P.info? ty).map (·.size) = some cs.size) :
 (results fn tmps).run P w = .ok (.tuple #[.agg cs, tmps.getD u undef]) w := by
 rw [results_cell_tmp h, hp]
 simp [asAddr, run_loadVar_row w g t ty cs fr d hg hu hd hi, Result.andThen]
def FinR (N fuel : Nat) (I : Nat -> World -> Prop) (J : World -> Prop) (W : World) : Prop := if N < fuel then J W else I fuel W
set_option maxRecDepth 100000 in
set_option maxHeartbeats 4000000 in
theorem told_run (w : World) {mb o B fuel N g : Nat} (fs : Array Value) (eg : OpensR g) (hf : fuel <= 1099511627776) (I : Nat -> World -> Prop) (J : World -> Prop) {E : List (Int × Int)} {x1 x2 x3 x4 x5 x6 : Int}
 (h0 : I 0 (w.alloc (.cells #[.slice none 0 0, .int .i64 0, .int .i64 0, .int .i64 0, .int .i64 0, .int .i64 0, .int .i64 0] 43)))
 (hI : ∀ k W, k < N -> I k W -> Calls Tryz.prog g (fs ++ (#[] ++ #[])) W fun e w' => e = .returned (.bool true) /\ I (k + 1) w')
 (hN : ∀ W, I N W -> Calls Tryz.prog g (fs ++ (#[] ++ #[])) W fun e w' => e = .returned (.bool false) /\ J w')
 (hJ : ∀ W, FinR N fuel I J W -> ToldAt W B mb o E x1 x2 x3 x4 x5 x6 /\ W.heap[w.heap.size]? = some (.cells #[.slice none 0 0, .int .i64 0, .int .i64 0, .int .i64 0, .int .i64 0, .int .i64 0, .int .i64 0] 43 (0, 0))) :
 Calls Tryz.prog 17 #[.pointer (some ⟨mb, o, none⟩), .int .i64 fuel, .func (.func g) fs #[]] w fun e w' => ∃ v' wF, e = .returned (.tuple #[.agg #[v', .int .i64 x1, .int .i64 x2, .int .i64 x3, .int .i64 x4, .int .i64 x5, .int .i64 x6], .int .i64 0]) /\ FinR N fuel I J wF /\ Row w' wF.heap.size 45 2 v' (E.map evc) /\ Only (fun k => k = w.heap.size) wF w' := by
 have H0 : Hid _ := h0
 have HI : Hid _ := hI
 have HN : Hid _ := hN
 have HJ : Hid _ := hJ
 have hd1 : decide ((fuel : Int) < 0) = false := by simp
 have hd2 : decide (1099511627776 < (fuel : Int)) = false := by simp; omega
 clear h0 hI hN hJ
 go_enter Tryz.func17, Tryz.ntmps17
 go_wp2_with fail
 clear hd1 hd2
 go_loopw [1] (fun v wr => ∃ k : Nat, k <= fuel /\ k <= N /\ v = .int .i64 ((fuel - k : Nat) : Int) /\ Hid (I k wr)) (fun v _ => (intOf v).toNat)
 case atStart => exact ⟨0, by omega, by omega, rfl, H0⟩
 case round =>
  clear H0
  obtain ⟨k, hk, hkN, rfl, HK⟩ := hrel
  obtain ⟨wq, rfl⟩ : ∃ wq, wq = wr := ⟨_, rfl⟩
  by_cases hz : k = fuel
  ·have HFIN : Hid (FinR N fuel I J wq) := by
    show if N < fuel then J wq else I fuel wq
    rw [if_neg (by omega)]
    rw [<- hz]
    exact HK.out
   have e0 : ((fuel - k : Nat) : Int) = 0 := by omega
   rw [e0]
   clear e0 HK hz
   obtain ⟨T, kr⟩ := HJ.out wq HFIN.out
   have HOC : Hid _ := T.outcome
   have HKR : Hid _ := kr
   clear T kr HI HN HJ
   go_wp2_with fail
   refine Calls.mono HOC.out ?_
   rintro e w2 ⟨v2, rfl, hR2, b2⟩
   obtain ⟨ao2, cc2, rfl, _⟩ := evs_of hR2
   have hwf : w.heap.size < wq.heap.size := (gl HKR.out)
   have q0 := (b2.block w.heap.size hwf).trans HKR.out
   obtain ⟨W4, hW4⟩ : ∃ W, W = ((((((w2.setCell ⟨w.heap.size, 0, none⟩ (.slice ao2 E.length cc2)).setCell ⟨w.heap.size, 1, none⟩ (.int .i64 x1)).setCell ⟨w.heap.size, 2, none⟩ (.int .i64 x2)).setCell ⟨w.heap.size, 3, none⟩ (.int .i64 x3)).setCell ⟨w.heap.size, 4, none⟩ (.int .i64 x4)).setCell ⟨w.heap.size, 5, none⟩ (.int .i64 x5)).setCell ⟨w.heap.size, 6, none⟩ (.int .i64 x6) := ⟨_, rfl⟩
   have HRX : Hid (W4.heap[w.heap.size]? = some (.cells #[.slice ao2 E.length cc2, .int .i64 x1, .int .i64 x2, .int .i64 x3, .int .i64 x4, .int .i64 x5, .int .i64 x6] 43 (0, 0))) := by rw [hW4]; exact box_seven q0 _ _ _ _ _ _ _
   have hsame : ∀ g, g ≠ w.heap.size -> W4.heap[g]? = w2.heap[g]? := fun g n0 => by
    rw [hW4, heap_set_other n0, heap_set_other n0, heap_set_other n0, heap_set_other n0, heap_set_other n0, heap_set_other n0, heap_set_other n0]
   have HR4 : Hid (Row W4 wq.heap.size 45 2 (.slice ao2 E.length cc2) (E.map evc)) := hR2.move fun g hg => hsame g fun q => own_not hR2.out q0 (by decide) (q ▸ hg)
   have HSM : Hid (Only (fun k => k = w.heap.size) wq W4) := by rw [hW4]; exact only_sevenR (Only.of_below b2 _) _ _ _ _ _ _ _
   have t0 : w2.cell? ⟨w.heap.size, 0, none⟩ = some (.slice none 0 0) := cell_arr q0 rfl
   have t1 : w2.cell? ⟨w.heap.size, 1, none⟩ = some (.int .i64 0) := cell_arr q0 rfl
   have t2 : w2.cell? ⟨w.heap.size, 2, none⟩ = some (.int .i64 0) := cell_arr q0 rfl
   have t3 : w2.cell? ⟨w.heap.size, 3, none⟩ = some (.int .i64 0) := cell_arr q0 rfl
   have t4 : w2.cell? ⟨w.heap.size, 4, none⟩ = some (.int .i64 0) := cell_arr q0 rfl
   have t5 : w2.cell? ⟨w.heap.size, 5, none⟩ = some (.int .i64 0) := cell_arr q0 rfl
   have t6 : w2.cell? ⟨w.heap.size, 6, none⟩ = some (.int .i64 0) := cell_arr q0 rfl
   have u0 : w2.frozen? ⟨w.heap.size, 0, none⟩ = false := fz_of q0
   have u1 : w2.frozen? ⟨w.heap.size, 1, none⟩ = false := fz_of q0
   have u2 : w2.frozen? ⟨w.heap.size, 2, none⟩ = false := fz_of q0
   have u3 : w2.frozen? ⟨w.heap.size, 3, none⟩ = false := fz_of q0
   have u4 : w2.frozen? ⟨w.heap.size, 4, none⟩ = false := fz_of q0
   have u5 : w2.frozen? ⟨w.heap.size, 5, none⟩ = false := fz_of q0
   have u6 : w2.frozen? ⟨w.heap.size, 6, none⟩ = false := fz_of q0
   have HW4 : Hid _ := hW4
   clear hR2 b2 q0 hW4 hsame
   go_wp2_with fail
   rw [<- HW4.out]
   refine bodyPost_ret (v := .tuple #[.agg #[.slice ao2 E.length cc2, .int .i64 x1, .int .i64 x2, .int .i64 x3, .int .i64 x4, .int .i64 x5, .int .i64 x6], .int .i64 0]) ?_ rfl ⟨_, wq, rfl, HFIN.out, HR4.out, HSM.out⟩
   exact results_row_tmp Tryz.results17 _ _ w.heap.size 43 _ (0, 0) _ rfl HRX.out Tryz.underlying43 rfl (by kernel_rfl)
  ·obtain ⟨q, hq⟩ : ∃ q : Nat, fuel - k = q + 1 := ⟨fuel - k - 1, by omega⟩
   rw [hq]
   have hqb : q + 1 <= 1099511627776 := by omega
   have HQ : Hid (fuel - k = q + 1) := hq
   clear hq
   by_cases hN2 : k = N
   ·have HST : Hid (Calls Tryz.prog g (fs ++ (#[] ++ #[])) wq fun e w' => e = .returned (.bool false) /\ J w') := HN.out wq (by rw [<- hN2]; exact HK.out)
    have HLT : Hid (N < fuel) := by show N < fuel; omega
    clear HK hN2
    go_wp2_with fail
    rw [eg.out]
    refine Calls.mono HST.out ?_
    rintro e w1 ⟨rfl, hj⟩
    have HFIN : Hid (FinR N fuel I J w1) := by
     show if N < fuel then J w1 else I fuel w1
     rw [if_pos HLT.out]
     exact hj
    clear hj
    obtain ⟨T, kr⟩ := HJ.out w1 HFIN.out
    have HOC : Hid _ := T.outcome
    have HKR : Hid _ := kr
    clear T kr HI HN HJ
    go_wp2_with fail
    refine Calls.mono HOC.out ?_
    rintro e w2 ⟨v2, rfl, hR2, b2⟩
    obtain ⟨ao2, cc2, rfl, _⟩ := evs_of hR2
    have hwf : w.heap.size < w1.heap.size := (gl HKR.out)
    have q0 := (b2.block w.heap.size hwf).trans HKR.out
    obtain ⟨W4, hW4⟩ : ∃ W, W = ((((((w2.setCell ⟨w.heap.size, 0, none⟩ (.slice ao2 E.length cc2)).setCell ⟨w.heap.size, 1, none⟩ (.int .i64 x1)).setCell ⟨w.heap.size, 2, none⟩ (.int .i64 x2)).setCell ⟨w.heap.size, 3, none⟩ (.int .i64 x3)).setCell ⟨w.heap.size, 4, none⟩ (.int .i64 x4)).setCell ⟨w.heap.size, 5, none⟩ (.int .i64 x5)).setCell ⟨w.heap.size, 6, none⟩ (.int .i64 x6) := ⟨_, rfl⟩
    have HRX : Hid (W4.heap[w.heap.size]? = some (.cells #[.slice ao2 E.length cc2, .int .i64 x1, .int .i64 x2, .int .i64 x3, .int .i64 x4, .int .i64 x5, .int .i64 x6] 43 (0, 0))) := by rw [hW4]; exact box_seven q0 _ _ _ _ _ _ _
    have hsame : ∀ g, g ≠ w.heap.size -> W4.heap[g]? = w2.heap[g]? := fun g n0 => by
     rw [hW4, heap_set_other n0, heap_set_other n0, heap_set_other n0, heap_set_other n0, heap_set_other n0, heap_set_other n0, heap_set_other n0]
    have HR4 : Hid (Row W4 w1.heap.size 45 2 (.slice ao2 E.length cc2) (E.map evc)) := hR2.move fun g hg => hsame g fun q => own_not hR2.out q0 (by decide) (q ▸ hg)
    have HSM : Hid (Only (fun k => k = w.heap.size) w1 W4) := by rw [hW4]; exact only_sevenR (Only.of_below b2 _) _ _ _ _ _ _ _
    have t0 : w2.cell? ⟨w.heap.size, 0, none⟩ = some (.slice none 0 0) := cell_arr q0 rfl
    have t1 : w2.cell? ⟨w.heap.size, 1, none⟩ = some (.int .i64 0) := cell_arr q0 rfl
    have t2 : w2.cell? ⟨w.heap.size, 2, none⟩ = some (.int .i64 0) := cell_arr q0 rfl
    have t3 : w2.cell? ⟨w.heap.size, 3, none⟩ = some (.int .i64 0) := cell_arr q0 rfl
    have t4 : w2.cell? ⟨w.heap.size, 4, none⟩ = some (.int .i64 0) := cell_arr q0 rfl
    have t5 : w2.cell? ⟨w.heap.size, 5, none⟩ = some (.int .i64 0) := cell_arr q0 rfl
    have t6 : w2.cell? ⟨w.heap.size, 6, none⟩ = some (.int .i64 0) := cell_arr q0 rfl
    have u0 : w2.frozen? ⟨w.heap.size, 0, none⟩ = false := fz_of q0
    have u1 : w2.frozen? ⟨w.heap.size, 1, none⟩ = false := fz_of q0
    have u2 : w2.frozen? ⟨w.heap.size, 2, none⟩ = false := fz_of q0
    have u3 : w2.frozen? ⟨w.heap.size, 3, none⟩ = false := fz_of q0
    have u4 : w2.frozen? ⟨w.heap.size, 4, none⟩ = false := fz_of q0
    have u5 : w2.frozen? ⟨w.heap.size, 5, none⟩ = false := fz_of q0
    have u6 : w2.frozen? ⟨w.heap.size, 6, none⟩ = false := fz_of q0
    have HW4 : Hid _ := hW4
    clear hR2 b2 q0 hW4 hsame
    go_wp2_with fail
    rw [<- HW4.out]
    refine bodyPost_ret (v := .tuple #[.agg #[.slice ao2 E.length cc2, .int .i64 x1, .int .i64 x2, .int .i64 x3, .int .i64 x4, .int .i64 x5, .int .i64 x6], .int .i64 0]) ?_ rfl ⟨_, w1, rfl, HFIN.out, HR4.out, HSM.out⟩
    exact results_row_tmp Tryz.results17 _ _ w.heap.size 43 _ (0, 0) _ rfl HRX.out Tryz.underlying43 rfl (by kernel_rfl)
   ·have HST : Hid (Calls Tryz.prog g (fs ++ (#[] ++ #[])) wq fun e w' => e = .returned (.bool true) /\ I (k + 1) w') := HI.out k wq (by omega) HK.out
    clear HK
    go_wp2_with fail
    rw [eg.out]
    refine Calls.mono HST.out ?_
    rintro e w1 ⟨rfl, hj⟩
    have HJ1 : Hid (I (k + 1) w1) := hj
    clear hj
    go_wp2_with fail
    go_roundw
    case rel => exact ⟨k + 1, by omega, by omega, by first | go_num | (congr 1; have := HQ.out; omega), HJ1.out⟩
    case measure => simp [intOf]; try omega
end Go.Proofs.YtfbkopjncmkbiabGreatDoor
namespace Go.Proofs.YtfbkopjncmkbiabGreatDoor
open Go.ChangeShapes Go.WideShapes Go.ChangeAt Go.RowKit Go.Maps
structure Mst where
 mb : Nat
 fb : Nat
 fo : Nat
 fn : Nat
 fc : Nat
 hb : Nat
 hm : Nat
 hn : Nat
 lo : Nat
 hi : Nat
 w0 : World
structure Mdy where
 ia : Option Addr
 ic : Nat
 vw : Value
 vn : Value
 vp : Value
 ve : Value
def acv (s : Mst) (a : Ac) : List Value := [.pointer (some ⟨s.fb, s.fo + a.fi * 5, none⟩), .int .i64 (a.bk : Int), .int .i64 (a.bh : Int), .int .i64 (a.fst : Int)]
def tblM : List Value := [.nilFunc, .func (.func 23) #[] #[], .func (.func 37) #[] #[], .func (.func 37) #[] #[], .func (.func 37) #[] #[], .func (.func 24) #[] #[], .func (.func 24) #[] #[], .func (.func 37) #[] #[], .func (.func 37) #[] #[], .func (.func 37) #[] #[], .func (.func 37) #[] #[], .func (.func 25) #[] #[], .func (.func 25) #[] #[], .func (.func 37) #[] #[], .func (.func 37) #[] #[], .func (.func 37) #[] #[], .func (.func 37) #[] #[], .func (.func 37) #[] #[], .func (.func 37) #[] #[], .func (.func 37) #[] #[], .func (.func 26) #[] #[], .func (.func 27) #[] #[], .func (.func 28) #[] #[], .func (.func 29) #[] #[], .func (.func 30) #[] #[], .func (.func 31) #[] #[], .func (.func 32) #[] #[], .func (.func 33) #[] #[], .func (.func 34) #[] #[], .func (.func 35) #[] #[], .func (.func 36) #[] #[]]
def mcs (s : Mst) (d : Mdy) (M : Ms) : List Value := tblM ++ [.slice (some ⟨s.fb, s.fo, none⟩) s.fn s.fc, .slice d.ia M.inp.length d.ic, .pointer (some ⟨s.hb, 0, none⟩),
 .pointer (some ⟨s.fb, s.fo + M.here.fi * 5, none⟩), .int .i64 (M.here.bk : Int), .int .i64 (M.here.bh : Int), .int .i64 (M.here.fst : Int), d.vw, d.vn, d.vp, d.ve, .int .i64 M.fin, .int .i64 M.kd, .int .i64 M.vl, .int .i64 M.steps, .int .i64 M.words, .int .i64 M.deep, .bool M.rests]
def Agr (s : Mst) (w : World) : Prop := ∀ k, s.lo <= k -> k < s.hi -> w.heap[k]? = s.w0.heap[k]?
def foot (s : Mst) (d : Mdy) (k : Nat) : Prop := k = s.mb \/ CF s.hb s.hm s.hn k \/ d.vw.ownBlock = some k \/ d.vn.ownBlock = some k \/ d.vp.ownBlock = some k \/ d.ve.ownBlock = some k
structure MRest (FS : List Fu) (s : Mst) (d : Mdy) (w : World) (I N P : List Int) (W : List Ac) (E : List (Int × Int)) (hp : Hpd) : Prop where
 agr : Agr s w
 fus : ∀ w', Agr s w' -> Fus w' (some ⟨s.fb, s.fo, none⟩) s.fc FS
 fn : s.fn = FS.length
 inp : ∀ w', Agr s w' -> Ints w' d.ia d.ic I
 ch : CH w s.hb s.hm s.hn hp.tk hp.ln hp.mm hp.c
 nums : OwnI w s.hi d.vn N.length N
 phis : OwnI w s.hi d.vp P.length P
 apart : ∀ b, d.vn.ownBlock = some b -> d.vp.ownBlock ≠ some b
 wait : Row w s.hi 64 4 d.vw (W.map (acv s))
 ev : Row w s.hi 45 2 d.ve (E.map evc)
 evs : E.length <= 1048576
 hi : s.lo <= s.hi /\ s.hi <= w.heap.size
 out : ∀ k, k = s.mb \/ CF s.hb s.hm s.hn k -> k < s.lo \/ s.hi <= k
 box : ∃ A, w.heap[s.mb]? = some (.cells A 71 (0, 0))
theorem not_own {w : World} {B e z v n xs} (h : w.ownsRow B e z v n xs) {g : Nat} {x : Obj} (hx : w.heap[g]? = some x) (hne : ∀ cs f, x ≠ .cells cs e f) : v.ownBlock ≠ some g := by
 rcases h.2 with ⟨rfl, _⟩ | ⟨g', cap, cur, rfl, e2, e3, _⟩
 ·simp [Value.ownBlock]
 ·intro e
  simp [Value.ownBlock] at e
  subst e
  rw [hx] at e3
  exact hne _ _ (Option.some.inj e3)
theorem cf_row {w : World} {h m n tk ln f c B e z v k xs} (H : CH w h m n tk ln f c) (ho : w.ownsRow B e z v k xs) (he : e ≠ 84) : ∀ g, CF h m n g -> v.ownBlock ≠ some g := by
 obtain ⟨D, ⟨es, cl, d1, _⟩, _⟩ := H.o1
 obtain ⟨E, ⟨es2, cl2, e1, _⟩, _⟩ := H.o2
 rintro g (rfl | rfl | rfl)
 ·exact not_own ho H.box (fun cs f q => he (by cases q; rfl))
 ·exact not_own ho d1 (fun cs f q => by cases q)
 ·exact not_own ho e1 (fun cs f q => by cases q)
theorem cf_mb {w : World} {h m n tk ln f c g A fr} (H : CH w h m n tk ln f c) (hb : w.heap[g]? = some (.cells A 71 fr)) : ¬ CF h m n g := by
 obtain ⟨D, ⟨es, cl, d1, _⟩, _⟩ := H.o1
 obtain ⟨E, ⟨es2, cl2, e1, _⟩, _⟩ := H.o2
 rintro (rfl | rfl | rfl)
 ·have := H.box; rw [hb] at this; cases this
 ·rw [hb] at d1; cases d1
 ·rw [hb] at e1; cases e1
structure Foo (s : Mst) (d d' : Mdy) (w w' : World) : Prop where
 only : Only (foot s d) w w'
 new : ∀ k, foot s d' k -> foot s d k \/ w.heap.size <= k
theorem Foo.refl (s : Mst) (d : Mdy) (w : World) : Foo s d d w w := ⟨Only.refl _ _, fun k h => .inl h⟩
theorem Foo.trans {s d d' d'' w w' w''} (h : Foo s d d' w w') (k : Foo s d' d'' w' w'') : Foo s d d'' w w'' :=
 ⟨h.only.trans k.only fun i hi hf => (h.new i hf).elim id (fun q => by omega), fun i hf => (k.new i hf).elim (fun q => h.new i q) (fun q => .inr (Nat.le_trans h.only.size q))⟩
theorem Foo.of_below {s d w w'} (h : Below w.heap.size w w') : Foo s d d w w' := ⟨Only.of_below h _, fun k q => .inl q⟩
theorem MRest.row_mb {FS : List Fu} {s : Mst} {d : Mdy} {w : World} {inp nums phis : List Int} {wait : List Ac} {ev : List (Int × Int)} {hp : Hpd} (h : MRest FS s d w inp nums phis wait ev hp) : d.vn.ownBlock ≠ some s.mb /\ d.vp.ownBlock ≠ some s.mb /\ d.vw.ownBlock ≠ some s.mb /\ d.ve.ownBlock ≠ some s.mb /\ ¬ CF s.hb s.hm s.hn s.mb := by
 obtain ⟨A, hA⟩ := h.box
 exact ⟨own_not h.nums.out hA (by decide), own_not h.phis.out hA (by decide), own_not h.wait.out hA (by decide), own_not h.ev.out hA (by decide), cf_mb h.ch hA⟩
theorem MRest.box_ne {FS : List Fu} {s : Mst} {d : Mdy} {w w' : World} {inp nums phis : List Int} {wait : List Ac} {ev : List (Int × Int)} {hp : Hpd} (h : MRest FS s d w inp nums phis wait ev hp) (hs : w.heap.size <= w'.heap.size) (hk : ∀ k, k < w.heap.size -> k ≠ s.mb -> w'.heap[k]? = w.heap[k]?) (hA : ∃ A, w'.heap[s.mb]? = some (.cells A 71 (0, 0))) : MRest FS s d w' inp nums phis wait ev hp := by
 obtain ⟨n1, n2, n3, n4, n5⟩ := h.row_mb
 have hh := h.hi
 refine ⟨fun k h1 h2 => ?_, h.fus, h.fn, h.inp, ?_, ?_, ?_, h.apart, ?_, ?_, h.evs, ⟨hh.1, by omega⟩, h.out, hA⟩
 ·rw [hk k (by omega) (fun e => by have := h.out k (.inl e); omega)]; exact h.agr k h1 h2
 ·exact h.ch.move fun g hg => hk g (h.ch.lt g hg) (fun e => n5 (e ▸ hg))
 ·exact ⟨h.nums.len, own_move h.nums.out fun g hg => hk g (own_block h.nums.out hg).2 (fun e => n1 (e ▸ hg))⟩
 ·exact ⟨h.phis.len, own_move h.phis.out fun g hg => hk g (own_block h.phis.out hg).2 (fun e => n2 (e ▸ hg))⟩
 ·exact h.wait.move fun g hg => hk g (own_block h.wait.out hg).2 (fun e => n3 (e ▸ hg))
 ·exact h.ev.move fun g hg => hk g (own_block h.ev.out hg).2 (fun e => n4 (e ▸ hg))
theorem MRest.set {FS : List Fu} {s : Mst} {d : Mdy} {w : World} {inp nums phis : List Int} {wait : List Ac} {ev : List (Int × Int)} {hp : Hpd} (h : MRest FS s d w inp nums phis wait ev hp) (i : Nat) (v : Value) : MRest FS s d (w.setCell ⟨s.mb, i, none⟩ v) inp nums phis wait ev hp := by
 obtain ⟨A, hA⟩ := h.box
 exact h.box_ne (by simp [World.setCell]) (fun k _ hk => heap_set_other hk) ⟨_, heap_set_at hA⟩
theorem MRest.below {FS : List Fu} {s : Mst} {d : Mdy} {w w' : World} {inp nums phis : List Int} {wait : List Ac} {ev : List (Int × Int)} {hp : Hpd} (h : MRest FS s d w inp nums phis wait ev hp) (hb : Below w.heap.size w w') : MRest FS s d w' inp nums phis wait ev hp := by
 obtain ⟨A, hA⟩ := h.box
 exact h.box_ne hb.size (fun k hk _ => hb.block k hk) ⟨A, (hb.block _ (gl hA)).trans hA⟩
theorem MRest.setNums {FS : List Fu} {s : Mst} {d : Mdy} {w w' : World} {inp nums phis : List Int} {wait : List Ac} {ev : List (Int × Int)} {hp : Hpd} (h : MRest FS s d w inp nums phis wait ev hp) {v' : Value} {nums' : List Int} (g : GI s.hi w w' d.vn v') (ho : OwnI w' s.hi v' nums'.length nums') : MRest FS s { d with vn := v' } w' inp nums' phis wait ev hp /\ w'.heap[s.mb]? = w.heap[s.mb]? /\ Foo s d { d with vn := v' } w w' := by
 obtain ⟨A, hA⟩ := h.box
 obtain ⟨n1, n2, n3, n4, n5⟩ := h.row_mb
 have hh := h.hi
 have hmb := g.blk s.mb (gl hA) n1
 have hsz := g.size
 refine ⟨⟨fun k h1 h2 => ?_, h.fus, h.fn, h.inp, ?_, ho, ?_, ?_, ?_, ?_, h.evs, ⟨hh.1, by omega⟩, h.out, A, hmb.trans hA⟩, hmb, ⟨⟨g.bel.os, g.bel.tape, g.bel.output, hsz, fun k hk hn => g.blk k hk (fun e => hn (.inr (.inr (.inr (.inl e)))))⟩, fun k hk => ?_⟩⟩
 ·rw [g.bel.block k h2]; exact h.agr k h1 h2
 ·exact h.ch.move fun b hb => g.blk b (h.ch.lt b hb) (cf_row h.ch h.nums.out (by decide) b hb)
 ·exact h.phis.gi g (fun b hb e => h.apart b e hb)
 ·intro b hb hp
  exact h.phis.giA g (fun b hb e => h.apart b e hb) b hp hb
 ·exact h.wait.move fun b hb => g.blk b (own_block h.wait.out hb).2 (fun e => own_apart h.wait.out h.nums.out (by decide) b hb e)
 ·exact h.ev.move fun b hb => g.blk b (own_block h.ev.out hb).2 (fun e => own_apart h.ev.out h.nums.out (by decide) b hb e)
 ·rcases hk with q | q | q | q | q | q
  ·exact .inl (.inl q)
  ·exact .inl (.inr (.inl q))
  ·exact .inl (.inr (.inr (.inl q)))
  ·rcases g.own k q with e | e
   ·exact .inl (.inr (.inr (.inr (.inl e))))
   ·exact .inr e
  ·exact .inl (.inr (.inr (.inr (.inr (.inl q)))))
  ·exact .inl (.inr (.inr (.inr (.inr (.inr q)))))
theorem MRest.setPhis {FS : List Fu} {s : Mst} {d : Mdy} {w w' : World} {inp nums phis : List Int} {wait : List Ac} {ev : List (Int × Int)} {hp : Hpd} (h : MRest FS s d w inp nums phis wait ev hp) {v' : Value} {phis' : List Int} (g : GI s.hi w w' d.vp v') (ho : OwnI w' s.hi v' phis'.length phis') : MRest FS s { d with vp := v' } w' inp nums phis' wait ev hp /\ w'.heap[s.mb]? = w.heap[s.mb]? /\ Foo s d { d with vp := v' } w w' := by
 obtain ⟨A, hA⟩ := h.box
 obtain ⟨n1, n2, n3, n4, n5⟩ := h.row_mb
 have hh := h.hi
 have hmb := g.blk s.mb (gl hA) n2
 have hsz := g.size
 refine ⟨⟨fun k h1 h2 => ?_, h.fus, h.fn, h.inp, ?_, ?_, ho, ?_, ?_, ?_, h.evs, ⟨hh.1, by omega⟩, h.out, A, hmb.trans hA⟩, hmb, ⟨⟨g.bel.os, g.bel.tape, g.bel.output, hsz, fun k hk hn => g.blk k hk (fun e => hn (.inr (.inr (.inr (.inr (.inl e))))))⟩, fun k hk => ?_⟩⟩
 ·rw [g.bel.block k h2]; exact h.agr k h1 h2
 ·exact h.ch.move fun b hb => g.blk b (h.ch.lt b hb) (cf_row h.ch h.phis.out (by decide) b hb)
 ·exact h.nums.gi g (fun b hb e => h.apart b hb e)
 ·intro b hb hp
  exact h.nums.giA g (fun b hb e => h.apart b hb e) b hb hp
 ·exact h.wait.move fun b hb => g.blk b (own_block h.wait.out hb).2 (fun e => own_apart h.wait.out h.phis.out (by decide) b hb e)
 ·exact h.ev.move fun b hb => g.blk b (own_block h.ev.out hb).2 (fun e => own_apart h.ev.out h.phis.out (by decide) b hb e)
 ·rcases hk with q | q | q | q | q | q
  ·exact .inl (.inl q)
  ·exact .inl (.inr (.inl q))
  ·exact .inl (.inr (.inr (.inl q)))
  ·exact .inl (.inr (.inr (.inr (.inl q))))
  ·rcases g.own k q with e | e
   ·exact .inl (.inr (.inr (.inr (.inr (.inl e)))))
   ·exact .inr e
  ·exact .inl (.inr (.inr (.inr (.inr (.inr q)))))
theorem MRest.setWait {FS : List Fu} {s : Mst} {d : Mdy} {w w' : World} {inp nums phis : List Int} {wait : List Ac} {ev : List (Int × Int)} {hp : Hpd} (h : MRest FS s d w inp nums phis wait ev hp) {v' : Value} {wait' : List Ac} (g : GI s.hi w w' d.vw v') (ho : Row w' s.hi 64 4 v' (wait'.map (acv s))) : MRest FS s { d with vw := v' } w' inp nums phis wait' ev hp /\ w'.heap[s.mb]? = w.heap[s.mb]? /\ Foo s d { d with vw := v' } w w' := by
 obtain ⟨A, hA⟩ := h.box
 obtain ⟨n1, n2, n3, n4, n5⟩ := h.row_mb
 have hh := h.hi
 have hmb := g.blk s.mb (gl hA) n3
 have hsz := g.size
 refine ⟨⟨fun k h1 h2 => ?_, h.fus, h.fn, h.inp, ?_, ?_, ?_, h.apart, ho, ?_, h.evs, ⟨hh.1, by omega⟩, h.out, A, hmb.trans hA⟩, hmb, ⟨⟨g.bel.os, g.bel.tape, g.bel.output, hsz, fun k hk hn => g.blk k hk (fun e => hn (.inr (.inr (.inl e))))⟩, fun k hk => ?_⟩⟩
 ·rw [g.bel.block k h2]; exact h.agr k h1 h2
 ·exact h.ch.move fun b hb => g.blk b (h.ch.lt b hb) (cf_row h.ch h.wait.out (by decide) b hb)
 ·exact ⟨h.nums.len, own_move h.nums.out fun b hb => g.blk b (own_block h.nums.out hb).2 (fun e => own_apart h.nums.out h.wait.out (by decide) b hb e)⟩
 ·exact ⟨h.phis.len, own_move h.phis.out fun b hb => g.blk b (own_block h.phis.out hb).2 (fun e => own_apart h.phis.out h.wait.out (by decide) b hb e)⟩
 ·exact h.ev.move fun b hb => g.blk b (own_block h.ev.out hb).2 (fun e => own_apart h.ev.out h.wait.out (by decide) b hb e)
 ·rcases hk with q | q | q | q | q | q
  ·exact .inl (.inl q)
  ·exact .inl (.inr (.inl q))
  ·rcases g.own k q with e | e
   ·exact .inl (.inr (.inr (.inl e)))
   ·exact .inr e
  ·exact .inl (.inr (.inr (.inr (.inl q))))
  ·exact .inl (.inr (.inr (.inr (.inr (.inl q)))))
  ·exact .inl (.inr (.inr (.inr (.inr (.inr q)))))
theorem MRest.setEv {FS : List Fu} {s : Mst} {d : Mdy} {w w' : World} {inp nums phis : List Int} {wait : List Ac} {ev : List (Int × Int)} {hp : Hpd} (h : MRest FS s d w inp nums phis wait ev hp) {v' : Value} {ev' : List (Int × Int)} (g : GI s.hi w w' d.ve v') (ho : Row w' s.hi 45 2 v' (ev'.map evc)) (hl : ev'.length <= 1048576) : MRest FS s { d with ve := v' } w' inp nums phis wait ev' hp /\ w'.heap[s.mb]? = w.heap[s.mb]? /\ Foo s d { d with ve := v' } w w' := by
 obtain ⟨A, hA⟩ := h.box
 obtain ⟨n1, n2, n3, n4, n5⟩ := h.row_mb
 have hh := h.hi
 have hmb := g.blk s.mb (gl hA) n4
 have hsz := g.size
 refine ⟨⟨fun k h1 h2 => ?_, h.fus, h.fn, h.inp, ?_, ?_, ?_, h.apart, ?_, ho, hl, ⟨hh.1, by omega⟩, h.out, A, hmb.trans hA⟩, hmb, ⟨⟨g.bel.os, g.bel.tape, g.bel.output, hsz, fun k hk hn => g.blk k hk (fun e => hn (.inr (.inr (.inr (.inr (.inr e))))))⟩, fun k hk => ?_⟩⟩
 ·rw [g.bel.block k h2]; exact h.agr k h1 h2
 ·exact h.ch.move fun b hb => g.blk b (h.ch.lt b hb) (cf_row h.ch h.ev.out (by decide) b hb)
 ·exact ⟨h.nums.len, own_move h.nums.out fun b hb => g.blk b (own_block h.nums.out hb).2 (fun e => own_apart h.nums.out h.ev.out (by decide) b hb e)⟩
 ·exact ⟨h.phis.len, own_move h.phis.out fun b hb => g.blk b (own_block h.phis.out hb).2 (fun e => own_apart h.phis.out h.ev.out (by decide) b hb e)⟩
 ·exact h.wait.move fun b hb => g.blk b (own_block h.wait.out hb).2 (fun e => own_apart h.wait.out h.ev.out (by decide) b hb e)
 ·rcases hk with q | q | q | q | q | q
  ·exact .inl (.inl q)
  ·exact .inl (.inr (.inl q))
  ·exact .inl (.inr (.inr (.inl q)))
  ·exact .inl (.inr (.inr (.inr (.inl q))))
  ·exact .inl (.inr (.inr (.inr (.inr (.inl q)))))
  ·rcases g.own k q with e | e
   ·exact .inl (.inr (.inr (.inr (.inr (.inr e)))))
   ·exact .inr e
structure Mach (FS : List Fu) (s : Mst) (d : Mdy) (w : World) (M : Ms) : Prop where
 box : w.heap[s.mb]? = some (.cells (mcs s d M).toArray 71 (0, 0))
 rest : MRest FS s d w M.inp M.nums M.phis M.wait M.ev M.hp
theorem Foo.set (s : Mst) (d : Mdy) (w : World) (i : Nat) (v : Value) : Foo s d d w (w.setCell ⟨s.mb, i, none⟩ v) := ⟨(Only.of_set w _ v).mono fun k _ hk => .inl hk, fun k hk => .inl hk⟩
structure McC (s : Mst) (d : Mdy) (w : World) (M : Ms) : Prop where
 c31 : w.cell? ⟨s.mb, 31, none⟩ = some (.slice (some ⟨s.fb, s.fo, none⟩) s.fn s.fc)
 c32 : w.cell? ⟨s.mb, 32, none⟩ = some (.slice d.ia M.inp.length d.ic)
 c34 : w.cell? ⟨s.mb, 34, none⟩ = some (.pointer (some ⟨s.fb, s.fo + M.here.fi * 5, none⟩))
 c35 : w.cell? ⟨s.mb, 35, none⟩ = some (.int .i64 (M.here.bk : Int))
 c36 : w.cell? ⟨s.mb, 36, none⟩ = some (.int .i64 (M.here.bh : Int))
 c37 : w.cell? ⟨s.mb, 37, none⟩ = some (.int .i64 (M.here.fst : Int))
 c38 : w.cell? ⟨s.mb, 38, none⟩ = some d.vw
 c39 : w.cell? ⟨s.mb, 39, none⟩ = some d.vn
 c40 : w.cell? ⟨s.mb, 40, none⟩ = some d.vp
 lt : s.mb < w.heap.size
theorem Mach.cells {FS s d w M} (h : Mach FS s d w M) : McC s d w M :=
 ⟨cell_arr h.box rfl, cell_arr h.box rfl, cell_arr h.box rfl, cell_arr h.box rfl, cell_arr h.box rfl, cell_arr h.box rfl, cell_arr h.box rfl, cell_arr h.box rfl, cell_arr h.box rfl, (gl h.box)⟩
theorem Mach.below {FS s d w w' M} (h : Mach FS s d w M) (hb : Below w.heap.size w w') : Mach FS s d w' M := ⟨(hb.block _ (gl h.box)).trans h.box, h.rest.below hb⟩
theorem Mach.fus {FS s d w M} (h : Mach FS s d w M) : Fus w (some ⟨s.fb, s.fo, none⟩) s.fc FS := h.rest.fus w h.rest.agr
theorem Mach.fn {FS s d w M} (h : Mach FS s d w M) : s.fn = FS.length := h.rest.fn
set_option maxRecDepth 100000 in
theorem mIn_any (w : World) {fb p b o n c bk bh fst : Nat} (c4 : w.cell? ⟨fb, p + 4, none⟩ = some (.slice (some ⟨b, o, none⟩) n c)) (hbk : bk < n) (hn : n <= 9223372036854775807) :
 Calls Tryz.prog 44 #[.agg #[.pointer (some ⟨fb, p, none⟩), .int .i64 bk, .int .i64 bh, .int .i64 fst]] w fun e w' => e = .returned (.pointer (some ⟨b, o + bk * 6, none⟩)) /\ Below w.heap.size w w' := by
 have hlt : fb < w.heap.size := block_lt_of_cell c4
 have A0 := below_new w (.cells #[.pointer (some ⟨fb, p, none⟩), .int .i64 bk, .int .i64 bh, .int .i64 fst] 64)
 have HA : Hid _ := A0
 clear A0
 go_enter Tryz.func44, Tryz.ntmps44
 go_wp2_with fail
 go_quiet (fail)
 go_wp2_with fail
 go_ret
 exact ⟨rfl, below_drawn HA.out _⟩
set_option maxRecDepth 100000 in
theorem mNumber_any {FS s d w M} (h : Mach FS s d w M) (v : Nat) (x : Int) (hx : M.nums[M.here.fst + v]? = some x) (hl : M.nums.length <= 1000000000000) :
 Calls Tryz.prog 73 #[.pointer (some ⟨s.mb, 0, none⟩), .int .i64 (v : Int)] w fun e w' => e = .returned (.int .i64 x) /\ Below w.heap.size w w' := by
 obtain ⟨c31, c32, c34, c35, c36, c37, c38, c39, c40, hlt⟩ := h.cells
 have hlen : M.here.fst + v < M.nums.length := (List.getElem?_eq_some_iff.1 hx).1
 obtain ⟨ao, c, e, hI⟩ := h.rest.nums.ints
 obtain ⟨b, o, rfl, k1⟩ := hI.at hlen
 have e2 : M.nums[M.here.fst + v] = x := (List.getElem?_eq_some_iff.1 hx).2
 rw [e2] at k1
 rw [e] at c39
 have hc := hI.le
 have hmx := hI.mx
 obtain ⟨n, hn⟩ : ∃ n, n = M.nums.length := ⟨_, rfl⟩
 obtain ⟨f, hf⟩ : ∃ f, f = M.here.fst := ⟨_, rfl⟩
 obtain ⟨mb, hmb⟩ : ∃ mb, mb = s.mb := ⟨_, rfl⟩
 rw [<- hn] at c39 hlen hc hl
 rw [<- hf] at c37 k1 hlen
 rw [<- hmb] at c37 c39 hlt ⊢
 obtain ⟨q, hq⟩ : ∃ q, q = f + v := ⟨_, rfl⟩
 rw [<- hq] at k1 hlen
 have hwr : (f : Int) + (v : Int) = (q : Int) := by omega
 have hwx : IntKind.i64.wrap (q : Int) = (q : Int) := by rw [IntKind.wrap_i64]; omega
 have hqn : (q : Int) < (n : Int) := by omega
 clear hI hx e e2 hn hf h c31 c32 c34 c35 c36 c38 c40 hmb hq
 go_enter Tryz.func73, Tryz.ntmps73
 go_wp2_with fail
 go_quiet (fail)
 go_wp2_with fail
 go_ret
 exact ⟨rfl, below_drawn (Below.refl _ _) _⟩
end Go.Proofs.YtfbkopjncmkbiabGreatDoor
