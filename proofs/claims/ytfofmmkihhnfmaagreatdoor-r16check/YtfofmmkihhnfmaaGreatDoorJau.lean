import Derived.Tactics
import Derived.Tactics2
import Derived.Defers
import Derived.Recover
import Derived.Laws.Pointers
import Derived.Test.YtfofmmkihhnfmaaGreatDoorJat
set_option linter.unusedVariables false
set_option linter.unusedSimpArgs false
namespace Go.Proofs.YtfofmmkihhnfmaaGreatDoor
open Go.ChangeShapes Go.WideShapes Go.ChangeAt Go.RowKit Go.Maps
theorem catchR_idle (p : Addr) (w : World) :
 CallsD Tryz.prog 109 #[.pointer (some p)] .returning w fun e u' w' => e = .returned (.tuple #[]) /\ u' = .returning /\ w' = w := by
 refine callsD_of_wpS Tryz.func109 rfl fun c₀ cs hu => ?_
 have hn : ∀ W : World, (binOp BinOp.neq 20 .nilIface .nilIface).run Tryz.prog W = .ok (.bool false) W := fun _ => by kernel_rfl
 apply wpS_seq
 apply wpS_region
 simp [wpOpsS, go_sem, recoverD, hu, Tryz.ntmps109, Exit.thenS]
 apply wpS_seq
 apply wpS_region
 simp [wpOpsS, go_sem, hn, Exit.thenS]
 refine wpS_cond (t := false) (by simp [Act.eval, Array.replicate]) ?_
 simp only [Bool.false_eq_true, if_false]
 refine wpS_of_wp (wp_skip ?_)
 cases c₀
 simp_all [bodyPostS, results, Tryz.results109]
theorem catchR_stuck {s d w R} (h : Rm s d w R) (pb : Nat) (hp : w.cell? ⟨pb, 0, none⟩ = some (.pointer (some ⟨s.mb, 0, none⟩))) (hz : w.frozen? ⟨pb, 0, none⟩ = false) (k : Int) :
 CallsD Tryz.prog 109 #[.pointer (some ⟨pb, 0, none⟩)] (.panicking [{ v := .iface 137 (.int .i64 k), recovered := false }]) w fun e u' w' => e = .returned (.tuple #[]) /\ u' = .panicking [{ v := .iface 137 (.int .i64 k), recovered := true }] /\ ∃ d', Rm s d' w' (R.stuck k) /\ FooR s d d' w w' := by
 have hlt := h.lt
 have HS : Hid (Calls Tryz.prog 110 #[.pointer (some ⟨s.mb, 66, none⟩), .int .i64 k] w.drew fun e w' => e = .returned (.tuple #[]) /\ ∃ d', Rm s d' w' (R.stuck k) /\ FooR s d d' w w') := by
  refine (mStuckR (h.below (Below.refl _ _).drew) k).mono ?_
  rintro e w' ⟨rfl, d', q1, q2⟩
  exact ⟨rfl, d', q1, (FooR.of_below (Below.refl _ _).drew).trans q2⟩
 have hpb : pb < w.heap.size := block_lt_of_cell hp
 generalize s.mb = mb at *
 clear h
 refine callsD_of_wpS Tryz.func109 rfl fun c₀ cs hu => ?_
 have hn : ∀ W : World, (binOp BinOp.neq 20 (.iface 137 (.int .i64 k)) .nilIface).run Tryz.prog W = .ok (.bool true) W := fun _ => by kernel_rfl
 have hta : ∀ W : World, (Instr.typeAssert (.iface 137 (.int .i64 k)) 20 137 false).run Tryz.prog W = .ok (.int .i64 k) W := fun _ => by kernel_rfl
 apply wpS_seq
 apply wpS_region
 simp [wpOpsS, go_sem, recoverD, hu, Tryz.ntmps109, Exit.thenS]
 apply wpS_seq
 apply wpS_region
 simp [wpOpsS, go_sem, hn, Exit.thenS]
 refine wpS_cond (t := true) (by simp [Act.eval, Array.replicate]) ?_
 simp only [if_true]
 refine wpS_of_wp ?_
 rw [show (#[Value.pointer (some (⟨pb, 0, none⟩ : Addr))] ++ ((((Array.replicate 10 undef).setIfInBounds 1 (Value.iface 137 (Value.int IntKind.i64 k))).setIfInBounds 0 (Value.iface 137 (Value.int IntKind.i64 k))).setIfInBounds 2 (Value.iface 137 (Value.int IntKind.i64 k))).setIfInBounds 3 (Value.bool true)) = #[Value.pointer (some (⟨pb, 0, none⟩ : Addr)), (Value.iface 137 (Value.int IntKind.i64 k)), (Value.iface 137 (Value.int IntKind.i64 k)), (Value.iface 137 (Value.int IntKind.i64 k)), .bool true, undef, undef, undef, undef, undef, undef] from rfl]
 have S8 : (fun w' : World => w'.cell? ⟨pb, 0, none⟩ = some (.pointer (some ⟨mb, 0, none⟩)) /\ pb < w'.heap.size /\ mb < w'.heap.size) w.drew := ⟨hp, hpb, hlt⟩
 refine lec_start (S := fun w' : World => w'.cell? ⟨pb, 0, none⟩ = some (.pointer (some ⟨mb, 0, none⟩)) /\ pb < w'.heap.size /\ mb < w'.heap.size) (z := 5) (by kernel_rfl) ?_
 show lec _ _ _ _ _ 6 _ _ _
 try simp only [List.size_toArray, List.length_cons, List.length_nil, Array.replicate]
 refine lec_takeT [1, 2, 5] (i := 0) (v := ?v0z) rfl (by kernel_rfl) (by kernel_rfl) (by kernel_rfl) (by kernel_rfl) (fun _ _ _ h => h) (.inl ⟨by rfl, ?hy0z⟩) S8 ?rest0z
 case hy0z =>
  rintro w' ⟨g0, g1, g2⟩
  go_simp
  all_goals with_reducible rfl
 try simp only [Act.put, List.getElem_toArray, List.getElem_cons_succ, List.getElem_cons_zero, List.setIfInBounds_toArray, List.set_cons_zero, List.set_cons_succ]
 refine lec_takeP (i := 1) (v := ?v1z) rfl (by kernel_rfl) (by kernel_rfl) (by kernel_rfl) (by kernel_rfl) (fun _ _ _ h => h) (.inl ⟨by rfl, ?hy1z⟩) S8 ?rest1z
 case hy1z =>
  rintro w' _
  go_simp
  all_goals with_reducible rfl
 try simp only [Act.put, List.getElem_toArray, List.getElem_cons_succ, List.getElem_cons_zero, List.setIfInBounds_toArray, List.set_cons_zero, List.set_cons_succ]
 refine lec_takeP (i := 2) (v := ?v2z) rfl (by kernel_rfl) (by kernel_rfl) (by kernel_rfl) (by kernel_rfl) (fun _ _ _ h => h) (.inl ⟨by rfl, ?hy2z⟩) S8 ?rest2z
 case hy2z =>
  rintro w' _
  go_simp
  all_goals with_reducible rfl
 try simp only [Act.put, List.getElem_toArray, List.getElem_cons_succ, List.getElem_cons_zero, List.setIfInBounds_toArray, List.set_cons_zero, List.set_cons_succ]
 refine lec_takeP (i := 3) (v := ?v3z) rfl (by kernel_rfl) (by kernel_rfl) (by kernel_rfl) (by kernel_rfl) (fun _ _ _ h => h) (.inl ⟨by rfl, ?hy3z⟩) S8 ?rest3z
 case hy3z =>
  rintro w' _
  go_simp
  all_goals with_reducible rfl
 try simp only [Act.put, List.getElem_toArray, List.getElem_cons_succ, List.getElem_cons_zero, List.setIfInBounds_toArray, List.set_cons_zero, List.set_cons_succ]
 refine lec_takeP (i := 4) (v := ?v4z) rfl (by kernel_rfl) (by kernel_rfl) (by kernel_rfl) (by kernel_rfl) (fun _ _ _ h => h) (.inl ⟨by rfl, ?hy4z⟩) S8 ?rest4z
 case hy4z =>
  rintro w' _
  go_simp
  all_goals with_reducible rfl
 try simp only [Act.put, List.getElem_toArray, List.getElem_cons_succ, List.getElem_cons_zero, List.setIfInBounds_toArray, List.set_cons_zero, List.set_cons_succ]
 refine lec_one (i := 5) rfl (by kernel_rfl) ?_
 intro K5 hK5
 rw [if_pos (by rfl)]
 go_simp
 refine Calls.mono HS.out ?_
 rintro e w2 ⟨rfl, h2⟩
 have H2 : Hid _ := h2
 clear h2
 go_simp
 refine hK5 _ _ (fun h => by cases h) ?_
 clear hK5
 try simp only [Act.put, List.getElem_toArray, List.getElem_cons_succ, List.getElem_cons_zero, List.setIfInBounds_toArray, List.set_cons_zero, List.set_cons_succ]
 refine lec_done (by kernel_rfl) ?_
 clear S8
 cases c₀
 exact ⟨rfl, _, rfl, .tuple #[], by simp [results, Tryz.results109, go_sem], rfl, rfl, H2.out⟩
def InsP (s : Rst) (d : Rdy) (w : World) (R : Rv) (x : Ri) (e : Ending) (w' : World) : Prop :=
 (∀ k, R.why x = some k -> e = .panicked [{ v := .iface 137 (.int .i64 k), recovered := false }] /\ Below w.heap.size w w') /\ (R.why x = none -> e = .returned (.tuple #[]) /\ ∃ d', Rm s d' w' (R.does s.FS s.S s.room x) /\ FooR s d d' w w')
theorem InsP.ok {s d w R x R' g A} (hw : R.why x = none) (hd : R.does s.FS s.S s.room x = R') (hc : Calls Tryz.prog g A w fun e w' => e = .returned (.tuple #[]) /\ ∃ d', Rm s d' w' R' /\ FooR s d d' w w') : Calls Tryz.prog g A w (InsP s d w R x) :=
 hc.mono fun e w' r => ⟨fun k q => (by rw [hw] at q; cases q), fun _ => by rw [hd]; exact r⟩
theorem InsP.st {s d w R x k g A} (hw : R.why x = some k) (hc : Calls Tryz.prog g A w fun e w' => e = .panicked [{ v := .iface 137 (.int .i64 k), recovered := false }] /\ Below w.heap.size w w') : Calls Tryz.prog g A w (InsP s d w R x) :=
 hc.mono fun e w' r => ⟨fun k' q => (by rw [hw] at q; cases q; exact r), fun q => (by rw [hw] at q; cases q)⟩
structure Pre (s : Rst) (R : Rv) (x : Ri) : Prop where
 op : 1 <= x.op /\ x.op <= 38
 ra : 0 <= x.a /\ x.a <= 15
 rb : 0 <= x.b /\ x.b <= 15
 rc : 0 <= x.c /\ x.c <= 15
 fits : ∀ j, Fits (R.rg.getD j 0)
 word : x.op = 24 \/ x.op = 25 -> Fits (R.base + x.n)
 call : x.op = 26 -> ∃ f, 0 <= x.n /\ s.FS[x.n.toNat]? = some f /\ 2 <= f.fr
 len : s.FS.length <= 1000000
 S : 0 <= s.S /\ s.S <= 1099511627776
 room : 0 <= s.room /\ s.room <= 1099511627776
 top : 0 <= R.top /\ R.top <= s.S
 base : Fits R.base /\ Fits (R.base + 1)
 frames : 0 <= R.frames /\ R.frames <= 4611686018427387000
 nx : Fits R.nx
 cs : R.cs < 999999999
 hc : R.hc < 1000000000
set_option maxRecDepth 100000 in
set_option maxHeartbeats 4000000 in
theorem ins_any {s d w R} (h : Rm s d w R) (x : Ri) (p : Pre s R x) (g : Nat) (hg : tblR[x.op.toNat]? = some (.func (.func g) #[] #[])) :
 Calls Tryz.prog g #[.pointer (some ⟨s.mb, 0, none⟩), .agg #[.int .i64 x.op, .int .i64 x.a, .int .i64 x.b, .int .i64 x.c, .int .i64 x.n]] w (InsP s d w R x) := by
 obtain ⟨op, a, b, c, n⟩ := x
 obtain ⟨ho, ⟨a0, a1⟩, ⟨b0, b1⟩, ⟨c0, c1⟩, hf, hwd, hcl, hln, hS, hrm, htp, hbs, hfr, hnx, hcs, hhc⟩ := p
 simp only at *
 obtain ⟨a, rfl⟩ : ∃ m : Nat, a = (m : Int) := ⟨a.toNat, by omega⟩
 obtain ⟨b, rfl⟩ : ∃ m : Nat, b = (m : Int) := ⟨b.toNat, by omega⟩
 obtain ⟨c, rfl⟩ : ∃ m : Nat, c = (m : Int) := ⟨c.toNat, by omega⟩
 have ha : a < 16 := by omega
 have hb : b < 16 := by omega
 have hc : c < 16 := by omega
 have hop : op = 1 \/ op = 2 \/ op = 3 \/ op = 4 \/ op = 5 \/ op = 6 \/ op = 7 \/ op = 8 \/ op = 9 \/ op = 10 \/ op = 11 \/ op = 12 \/ op = 13 \/ op = 14 \/ op = 15 \/ op = 16 \/ op = 17 \/ op = 18 \/ op = 19 \/ op = 20 \/ op = 21 \/ op = 22 \/ op = 23 \/ op = 24 \/ op = 25 \/ op = 26 \/ op = 27 \/ op = 28 \/ op = 29 \/ op = 30 \/ op = 31 \/ op = 32 \/ op = 33 \/ op = 34 \/ op = 35 \/ op = 36 \/ op = 37 \/ op = 38 := by omega
 rcases hop with rfl | rfl | rfl | rfl | rfl | rfl | rfl | rfl | rfl | rfl | rfl | rfl | rfl | rfl | rfl | rfl | rfl | rfl | rfl | rfl | rfl | rfl | rfl | rfl | rfl | rfl | rfl | rfl | rfl | rfl | rfl | rfl | rfl | rfl | rfl | rfl | rfl | rfl
 ·cases (show some (Value.func (.func 42) #[] #[]) = _ from hg)
  exact InsP.ok rfl rfl (rNumber h _ a b c n ha)
 ·cases (show some (Value.func (.func 43) #[] #[]) = _ from hg)
  exact InsP.ok rfl rfl (rMove h _ a b c n ha hb)
 ·cases (show some (Value.func (.func 66) #[] #[]) = _ from hg)
  exact InsP.ok rfl rfl (rCalc h _ a b c n ha hb hc ho)
 ·cases (show some (Value.func (.func 66) #[] #[]) = _ from hg)
  exact InsP.ok rfl rfl (rCalc h _ a b c n ha hb hc ho)
 ·cases (show some (Value.func (.func 66) #[] #[]) = _ from hg)
  exact InsP.ok rfl rfl (rCalc h _ a b c n ha hb hc ho)
 ·cases (show some (Value.func (.func 44) #[] #[]) = _ from hg)
  by_cases hq : R.rg.getD c 0 = 0
  ·exact InsP.st (if_pos (c := R.rg.getD c 0 = 0) hq) (rDiv_st h _ a b c n hc ho hq)
  ·exact InsP.ok (if_neg (c := R.rg.getD c 0 = 0) hq) rfl (rDiv h _ a b c n ha hb hc ho hq)
 ·cases (show some (Value.func (.func 44) #[] #[]) = _ from hg)
  by_cases hq : R.rg.getD c 0 = 0
  ·exact InsP.st (if_pos (c := R.rg.getD c 0 = 0) hq) (rDiv_st h _ a b c n hc ho hq)
  ·exact InsP.ok (if_neg (c := R.rg.getD c 0 = 0) hq) rfl (rDiv h _ a b c n ha hb hc ho hq)
 ·cases (show some (Value.func (.func 66) #[] #[]) = _ from hg)
  exact InsP.ok rfl rfl (rCalc h _ a b c n ha hb hc ho)
 ·cases (show some (Value.func (.func 66) #[] #[]) = _ from hg)
  exact InsP.ok rfl rfl (rCalc h _ a b c n ha hb hc ho)
 ·cases (show some (Value.func (.func 66) #[] #[]) = _ from hg)
  exact InsP.ok rfl rfl (rCalc h _ a b c n ha hb hc ho)
 ·cases (show some (Value.func (.func 66) #[] #[]) = _ from hg)
  exact InsP.ok rfl rfl (rCalc h _ a b c n ha hb hc ho)
 ·cases (show some (Value.func (.func 45) #[] #[]) = _ from hg)
  by_cases hq : R.rg.getD c 0 < 0
  ·exact InsP.st (if_pos (c := R.rg.getD c 0 < 0) hq) (rShift_st h _ a b c n hc ho hq)
  ·exact InsP.ok (if_neg (c := R.rg.getD c 0 < 0) hq) rfl (rShift h _ a b c n ha hb hc ho hq)
 ·cases (show some (Value.func (.func 45) #[] #[]) = _ from hg)
  by_cases hq : R.rg.getD c 0 < 0
  ·exact InsP.st (if_pos (c := R.rg.getD c 0 < 0) hq) (rShift_st h _ a b c n hc ho hq)
  ·exact InsP.ok (if_neg (c := R.rg.getD c 0 < 0) hq) rfl (rShift h _ a b c n ha hb hc ho hq)
 ·cases (show some (Value.func (.func 66) #[] #[]) = _ from hg)
  exact InsP.ok rfl rfl (rCalc h _ a b c n ha hb hc ho)
 ·cases (show some (Value.func (.func 66) #[] #[]) = _ from hg)
  exact InsP.ok rfl rfl (rCalc h _ a b c n ha hb hc ho)
 ·cases (show some (Value.func (.func 66) #[] #[]) = _ from hg)
  exact InsP.ok rfl rfl (rCalc h _ a b c n ha hb hc ho)
 ·cases (show some (Value.func (.func 66) #[] #[]) = _ from hg)
  exact InsP.ok rfl rfl (rCalc h _ a b c n ha hb hc ho)
 ·cases (show some (Value.func (.func 46) #[] #[]) = _ from hg)
  exact InsP.ok rfl rfl (rTurn h _ a b c n ha hb ho)
 ·cases (show some (Value.func (.func 46) #[] #[]) = _ from hg)
  exact InsP.ok rfl rfl (rTurn h _ a b c n ha hb ho)
 ·cases (show some (Value.func (.func 47) #[] #[]) = _ from hg)
  by_cases hq : R.rg.getD b 0 = 0 \/ R.rg.getD b 0 = 1
  ·exact InsP.ok (if_neg (c := bad01 (R.rg.getD b 0)) (fun q => q hq)) rfl (rNot h _ a b c n ha hb ho hq)
  ·exact InsP.st (if_pos (c := bad01 (R.rg.getD b 0)) hq) (rNot_st h _ a b c n hb ho hq)
 ·cases (show some (Value.func (.func 48) #[] #[]) = _ from hg)
  exact InsP.ok rfl rfl (rJump h _ a b c n)
 ·cases (show some (Value.func (.func 49) #[] #[]) = _ from hg)
  by_cases hq : R.rg.getD a 0 = 0
  ·exact InsP.ok rfl (if_pos (c := R.rg.getD a 0 = 0) hq) (rJumpZ0 h _ a b c n ha hq)
  ·exact InsP.ok rfl (if_neg (c := R.rg.getD a 0 = 0) hq) (rJumpZ1 h _ a b c n ha hq)
 ·cases (show some (Value.func (.func 50) #[] #[]) = _ from hg)
  by_cases hq : R.rg.getD a 0 = 0
  ·exact InsP.ok rfl (if_pos (c := R.rg.getD a 0 = 0) hq) (rJumpE0 h _ a b c n ha hq)
  ·exact InsP.ok rfl (if_neg (c := R.rg.getD a 0 = 0) hq) (rJumpE1 h _ a b c n ha hq)
 ·cases (show some (Value.func (.func 51) #[] #[]) = _ from hg)
  exact InsP.ok rfl rfl (rGetW h _ a b c n ha (hwd (by omega)))
 ·cases (show some (Value.func (.func 52) #[] #[]) = _ from hg)
  exact InsP.ok rfl rfl (rSetW h _ a b c n ha (hwd (by omega)) (hf _) (by omega))
 ·cases (show some (Value.func (.func 53) #[] #[]) = _ from hg)
  obtain ⟨f, n0, hfs, hf2⟩ := hcl rfl
  obtain ⟨m, rfl⟩ : ∃ m : Nat, n = (m : Int) := ⟨n.toNat, by omega⟩
  have hfs' : s.FS[m]? = some f := hfs
  have hd : R.does s.FS s.S s.room ⟨26, a, b, c, (m : Int)⟩ = R.call s.S f R.nx := by
   show (match s.FS[m]? with | none => R | some f => R.call s.S f R.nx) = _
   rw [hfs']
  by_cases hq : f.fr > s.S - R.top
  ·exact InsP.ok rfl (hd.trans (if_pos (c := f.fr > s.S - R.top) hq)) (rCall_no h _ a b c m f hfs' hln hS htp hq)
  ·exact InsP.ok rfl (hd.trans (if_neg (c := f.fr > s.S - R.top) hq)) (rCall_yes h _ a b c m f hfs' hln hS htp hq hf2 hnx hbs.1 hfr hcs)
 ·cases (show some (Value.func (.func 54) #[] #[]) = _ from hg)
  exact InsP.ok rfl rfl (rBack h _ a b c n hbs.1 hbs.2 ⟨by omega, by omega⟩)
 ·cases (show some (Value.func (.func 55) #[] #[]) = _ from hg)
  by_cases hq : R.rg.getD b 0 < 0
  ·exact InsP.st (if_pos (c := R.rg.getD b 0 < 0) hq) (rAlloc_st h _ a b c n hb hq)
  ·by_cases hq2 : R.rg.getD b 0 ≥ s.room - R.tk
   ·exact InsP.ok (if_neg (c := R.rg.getD b 0 < 0) hq) (if_pos (c := R.rg.getD b 0 ≥ s.room - R.tk) hq2) (rAlloc_full h _ a b c n hb hrm hq hq2)
   ·exact InsP.ok (if_neg (c := R.rg.getD b 0 < 0) hq) (if_neg (c := R.rg.getD b 0 ≥ s.room - R.tk) hq2) (rAlloc_ok h _ a b c n ha hb hrm hhc hq hq2)
 ·cases (show some (Value.func (.func 56) #[] #[]) = _ from hg)
  by_cases hq : R.rg.getD b 0 = 0 \/ (R.ln (R.rg.getD b 0)).isSome = true
  ·exact InsP.ok (if_pos (c := R.rg.getD b 0 = 0 \/ (R.ln (R.rg.getD b 0)).isSome = true) hq) rfl (rLen h _ a b c n ha hb hf (decide_eq_true hq))
  ·exact InsP.st (if_neg (c := R.rg.getD b 0 = 0 \/ (R.ln (R.rg.getD b 0)).isSome = true) hq) (rLen_st h _ a b c n hb hf (decide_eq_false hq))
 ·cases (show some (Value.func (.func 57) #[] #[]) = _ from hg)
  obtain ⟨W, hW⟩ : ∃ W, W = (if R.rg.getD b 0 = 0 then (some 1 : Option Int) else match R.ln (R.rg.getD b 0) with | none => some 1 | some l => if R.rg.getD c 0 < 0 \/ R.rg.getD c 0 ≥ l then some 2 else none) := ⟨_, rfl⟩
  have hw : R.why ⟨30, a, b, c, n⟩ = W := hW.symm
  cases W with
  | some k => exact InsP.st hw (rGetE_st h _ a b c n hb hc hf k hW.symm)
  | none =>
    by_cases h0 : R.rg.getD b 0 = 0
    ·rw [if_pos h0] at hW
     cases hW
    ·rw [if_neg h0] at hW
     cases hl : R.ln (R.rg.getD b 0) with
     | none =>
       rw [hl] at hW
       cases hW
     | some l =>
       rw [hl] at hW
       by_cases h1 : R.rg.getD c 0 < 0 \/ R.rg.getD c 0 ≥ l
       ·have hW2 : none = (if R.rg.getD c 0 < 0 \/ R.rg.getD c 0 ≥ l then (some 2 : Option Int) else none) := hW
        rw [if_pos h1] at hW2
        cases hW2
       ·exact InsP.ok hw rfl (rGetE h _ a b c n ha hb hc hf l hl h0 (fun q => h1 (.inl q)) (fun q => h1 (.inr q)))
 ·cases (show some (Value.func (.func 58) #[] #[]) = _ from hg)
  obtain ⟨W, hW⟩ : ∃ W, W = (if R.rg.getD b 0 = 0 then (some 1 : Option Int) else match R.ln (R.rg.getD b 0) with | none => some 1 | some l => if R.rg.getD c 0 < 0 \/ R.rg.getD c 0 ≥ l then some 2 else none) := ⟨_, rfl⟩
  have hw : R.why ⟨31, a, b, c, n⟩ = W := hW.symm
  cases W with
  | some k => exact InsP.st hw (rSetE_st h _ a b c n hb hc hf k hW.symm)
  | none =>
    by_cases h0 : R.rg.getD b 0 = 0
    ·rw [if_pos h0] at hW
     cases hW
    ·rw [if_neg h0] at hW
     cases hl : R.ln (R.rg.getD b 0) with
     | none =>
       rw [hl] at hW
       cases hW
     | some l =>
       rw [hl] at hW
       by_cases h1 : R.rg.getD c 0 < 0 \/ R.rg.getD c 0 ≥ l
       ·have hW2 : none = (if R.rg.getD c 0 < 0 \/ R.rg.getD c 0 ≥ l then (some 2 : Option Int) else none) := hW
        rw [if_pos h1] at hW2
        cases hW2
       ·exact InsP.ok hw rfl (rSetE h _ a b c n ha hb hc hf l hl h0 (fun q => h1 (.inl q)) (fun q => h1 (.inr q)) hhc)
 ·cases (show some (Value.func (.func 59) #[] #[]) = _ from hg)
  by_cases hq : R.rg.getD a 0 = 0
  ·have q := rTrapZ h 32 a b c n ha
   rw [if_pos (beq_iff_eq.2 hq)] at q
   exact InsP.ok rfl (if_pos (c := R.rg.getD a 0 = 0) hq) q
  ·have q := rTrapZ h 32 a b c n ha
   rw [if_neg (fun e => hq (beq_iff_eq.1 e))] at q
   exact InsP.ok rfl (if_neg (c := R.rg.getD a 0 = 0) hq) q
 ·cases (show some (Value.func (.func 60) #[] #[]) = _ from hg)
  by_cases hq : R.rg.getD a 0 < 0
  ·have q := rTrapN h 33 a b c n ha
   rw [if_pos (decide_eq_true_iff.2 hq)] at q
   exact InsP.ok rfl (if_pos (c := R.rg.getD a 0 < 0) hq) q
  ·have q := rTrapN h 33 a b c n ha
   rw [if_neg (fun e => hq (decide_eq_true_iff.1 e))] at q
   exact InsP.ok rfl (if_neg (c := R.rg.getD a 0 < 0) hq) q
 ·cases (show some (Value.func (.func 61) #[] #[]) = _ from hg)
  by_cases hq : R.rg.getD a 0 < 0
  ·exact InsP.ok rfl (if_pos (c := R.rg.getD a 0 < 0 \/ R.rg.getD a 0 ≥ R.rg.getD b 0) (.inl hq)) (rTrapU0 h _ a b c n ha hb hq)
  ·by_cases hq2 : R.rg.getD a 0 ≥ R.rg.getD b 0
   ·exact InsP.ok rfl (if_pos (c := R.rg.getD a 0 < 0 \/ R.rg.getD a 0 ≥ R.rg.getD b 0) (.inr hq2)) (rTrapU1 h _ a b c n ha hb hq hq2)
   ·exact InsP.ok rfl (if_neg (c := R.rg.getD a 0 < 0 \/ R.rg.getD a 0 ≥ R.rg.getD b 0) (by omega)) (rTrapU2 h _ a b c n ha hb hq hq2)
 ·cases (show some (Value.func (.func 62) #[] #[]) = _ from hg)
  by_cases hq : n = 6
  ·subst hq
   exact InsP.ok rfl rfl (rTrap0 h _ a b c ha)
  ·exact InsP.ok rfl (congrArg (R.panic n) (if_neg hq)) (rTrap1 h _ a b c n ha hq)
 ·cases (show some (Value.func (.func 63) #[] #[]) = _ from hg)
  cases hM : R.inp with
  | nil =>
    have hd : R.does s.FS s.S s.room ⟨36, a, b, c, n⟩ = R.panic 5 0 := by
     show R.take a = _
     unfold Rv.take
     rw [hM]
    exact InsP.ok rfl hd (rTake0 h _ a b c n hM)
  | cons y L =>
    have hd : R.does s.FS s.S s.room ⟨36, a, b, c, n⟩ = { R.set a y with inp := L } := by
     show R.take a = _
     unfold Rv.take
     rw [hM]
    exact InsP.ok rfl hd (rTake1 h _ a b c n ha y L hM)
 ·cases (show some (Value.func (.func 64) #[] #[]) = _ from hg)
  exact InsP.ok rfl rfl (rTellI h _ a b c n ha)
 ·cases (show some (Value.func (.func 65) #[] #[]) = _ from hg)
  by_cases hq : R.rg.getD a 0 = 0 \/ R.rg.getD a 0 = 1
  ·exact InsP.ok (if_neg (c := bad01 (R.rg.getD a 0)) (fun q => q hq)) rfl (rTellB h _ a b c n ha ho hq)
  ·exact InsP.st (if_pos (c := bad01 (R.rg.getD a 0)) hq) (rTellB_st h _ a b c n ha ho hq)
end Go.Proofs.YtfofmmkihhnfmaaGreatDoor
