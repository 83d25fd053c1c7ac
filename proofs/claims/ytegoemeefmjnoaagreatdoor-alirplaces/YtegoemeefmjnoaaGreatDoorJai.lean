import Derived.Test.YtegoemeefmjnoaaGreatDoorJag
import Derived.Test.YtegoemeefmjnoaaGreatDoorJah
set_option linter.unusedVariables false
set_option linter.unusedSimpArgs false
namespace Go.Proofs.YtegoemeefmjnoaaGreatDoor
open Go.ChangeShapes Go.WideShapes Go.ChangeAt Go.RowKit Go.Maps
structure FewA (f : Af) : Prop where
 p : f.params.length <= 10000000
 b : f.blks.length <= 10000000
 w : ∀ b ∈ f.blks, b.body.length <= 10000000 /\ b.ways.length <= 10000000 /\ ∀ x ∈ b.body, x.args.length <= 10000000 /\ x.saves.length <= 10000000
set_option maxRecDepth 100000 in
set_option maxHeartbeats 16000000 in
theorem copiedA_any (w : World) {ao : Option Addr} {n c : Nat} {FS : List Af} (hF : Afs w ao c FS) (hn : n = FS.length) (hne : FS ≠ []) (hsz : n <= 10000000) (few : ∀ f ∈ FS, FewA f) :
 Calls Tryz.prog 23 #[.slice ao n c] w fun e w' => ∃ L c', e = .returned (.slice (some ⟨L, 0, none⟩) n c') /\ Below w.heap.size w w' /\ w.heap.size <= L /\ ∀ W, (∀ b, w.heap.size <= b -> b < w'.heap.size -> W.heap[b]? = w'.heap[b]?) -> Afs W (some ⟨L, 0, none⟩) c' FS := by
 obtain ⟨B, hB⟩ : ∃ B, B = w.heap.size := ⟨_, rfl⟩
 have hpos : 0 < n := by rw [hn]; exact List.length_pos_iff.2 hne
 obtain ⟨xs0, e1, e2, e3⟩ := hF.out
 have HCF : Hid (Calls Tryz.prog 35 #[.slice ao n c] w fun e w' => ∃ L c' xs, e = .returned (.slice (some ⟨L, 0, none⟩) n c') /\ Opn EnF 37 5 w w' B w'.heap.size (fun b => b = L) (.slice (some ⟨L, 0, none⟩) n c') 0 0 FS xs /\ n <= c' /\ c' <= 9223372036854775807 /\ B <= L) := by
  refine (cloneAf_any w e2 (by rw [e1]; exact hn) hsz).mono ?_
  rintro e w' ⟨v, rfl, hR, hb⟩
  obtain ⟨L, c', cs, ev, h1, h2, h3, h4⟩ := hR.some (by omega)
  subst ev
  rw [e1, <- hn] at hR h1
  refine ⟨L, c', xs0, by rw [e1, <- hn], ?_, h1, h2, by omega⟩
  exact Opn.start (B1 := w.heap.size) (by omega) (by rw [hB]; exact hb) hR (fun _ _ => rfl) e2.one e1 (fun i hi => e3 i hi) (Nat.le_refl _) (by have := hb.size; omega) (fun g hg => by cases hg; rfl)
 have HNN : Hid (n = FS.length) := hn
 have HFW : Hid (∀ f ∈ FS, FewA f) := few
 have HBB : Hid (B = w.heap.size) := hB
 clear hF hn hne few e1 e2 e3 hB
 go_enter Tryz.func23, Tryz.ntmps23
 go_wp2_with (go_at_call 35; refine Calls.mono HCF.out ?_; rintro e w1 ⟨L, c', xs, rfl, hA, hc1, hc2, hBL⟩; have HA0 : Hid _ := hA; clear hA)
 clear HCF
 go_loopw [14] (fun u wr => ∃ (j : Nat), j <= n /\ u = .int .i64 j /\ Hid (∃ xs, Opn EnF 37 5 w wr B wr.heap.size (fun b => b = L) (.slice (some ⟨L, 0, none⟩) n c') j j FS xs)) (fun u _ => n - (intOf u).toNat)
 case atStart => exact ⟨0, by omega, rfl, _, HA0.out⟩
 case round =>
  clear HA0
  obtain ⟨j, hj, rfl, HJ⟩ := hrel
  obtain ⟨wq, rfl⟩ : ∃ wq, wq = wr := ⟨_, rfl⟩
  by_cases hjn : j < n
  ·have hjF : j < FS.length := by have := HNN.out; omega
   have hfw := HFW.out FS[j] (List.getElem_mem hjF)
   have hjI : (j : Int) < (n : Int) := by omega
   obtain ⟨xsj, hAj⟩ := HJ.out
   obtain ⟨paf, pcf, qaf, qcf, exj, hPL, hBL2⟩ := hAj.un j hjF (Nat.le_refl _)
   obtain ⟨ysj, hyl, hys, hyu⟩ := hBL2.out
   obtain ⟨g9, c9, ev9, _, _, hBg, _, lL, hXg, fzL, hcL⟩ := hAj.at hjF
   have eg : L = g9 := hXg.symm
   subst eg
   clear ev9 hXg
   rw [exj] at hcL
   have bq := hAj.low
   obtain ⟨pnf, hpn⟩ : ∃ p, p = FS[j].params.length := ⟨_, rfl⟩
   obtain ⟨qnf, hqn⟩ : ∃ p, p = FS[j].blks.length := ⟨_, rfl⟩
   have k1 : wq.cell? ⟨L, j * 5 + 1, none⟩ = some (.slice paf pnf pcf) := by rw [hpn]; exact hcL 1 _ rfl
   have k4 : wq.cell? ⟨L, j * 5 + 4, none⟩ = some (.slice qaf qnf qcf) := by rw [hqn]; exact hcL 4 _ rfl
   have hXL : ∀ b, b = L -> b < wq.heap.size := fun b e => by rw [e]; exact lL
   have bd : Below wq.heap.size wq wq.drew := (Below.refl _ _).drew
   have HC1 : Hid (Calls Tryz.prog 36 #[.slice paf pnf pcf] wq.drew fun e w' => ∃ v, e = .returned v /\ Row w' wq.drew.heap.size 24 2 v (FS[j].params.map lov) /\ Below wq.drew.heap.size wq.drew w') := cloneLoc_any wq.drew (StsG.below hPL (bq.trans (bd.mono (by have := bq.size; have := HBB.out; omega))) (by rw [HBB.out]; exact Nat.le_refl _)) (by simp [hpn]) (by rw [hpn]; exact hfw.p)
   have HC2 : Hid (∀ w5, Below wq.drew.heap.size wq.drew w5 -> Calls Tryz.prog 37 #[.slice qaf qnf qcf] w5 fun e w' => ∃ v, e = .returned v /\ Row w' w5.heap.size 34 5 v ysj /\ Below w5.heap.size w5 w') := fun w5 b5 => cloneAb_any w5 (hys.below (bq.trans ((bd.trans b5).mono (by have := bq.size; have := HBB.out; omega))) (by rw [HBB.out]; exact Nat.le_refl _)) (by rw [hyl, hqn]) (by rw [hqn]; exact hfw.b)
   have HSSf : Hid (∀ W, Below wq.drew.heap.size wq.drew W -> (fun w' : World => w'.cell? ⟨L, j * 5 + 1, none⟩ = some (.slice paf pnf pcf) /\ w'.cell? ⟨L, j * 5 + 4, none⟩ = some (.slice qaf qnf qcf) /\ L < w'.heap.size) W) := fun W hW => by
    have cc := fun (o : Nat) => hW.cell (p := ⟨L, o, none⟩) lL
    exact ⟨(cc _).trans k1, (cc _).trans k4, by have := hW.size; have e : wq.drew.heap.size = wq.heap.size := rfl; omega⟩
   have Saf : (fun w' : World => w'.cell? ⟨L, j * 5 + 1, none⟩ = some (.slice paf pnf pcf) /\ w'.cell? ⟨L, j * 5 + 4, none⟩ = some (.slice qaf qnf qcf) /\ L < w'.heap.size) wq.drew := ⟨k1, k4, lL⟩
   have HAF : Hid (∀ w5 v1 w6 v2, Below wq.drew.heap.size wq.drew w5 -> Row w5 wq.drew.heap.size 24 2 v1 (FS[j].params.map lov) -> Below w5.heap.size w5 w6 -> Row w6 w5.heap.size 34 5 v2 ysj -> w6.cell? ⟨L, j * 5 + 1, none⟩ = some (.slice paf pnf pcf) /\ w6.frozen? ⟨L, j * 5 + 1, none⟩ = false /\ L < w6.heap.size /\ w6.cell? ⟨L, j * 5 + 4, none⟩ = some (.slice qaf qnf qcf) /\ w6.frozen? ⟨L, j * 5 + 4, none⟩ = false /\ Hid (∀ w4, w4 = (w6.setCell ⟨L, j * 5 + 1, none⟩ v1).setCell ⟨L, j * 5 + 4, none⟩ v2 -> FOpen 37 34 w w4 B wq.heap.size (fun b => b = L) (.slice (some ⟨L, 0, none⟩) n c') j FS hjF v2 w4 0)) := fun w5 v1 w6 v2 b1 r1 b2 r2 => by
    have b6 : Below wq.heap.size wq w6 := bd.trans (b1.trans (b2.mono b1.size))
    have cc := fun (o : Nat) => b6.cell (p := ⟨L, o, none⟩) lL
    have hLb := b6.block L lL
    have ff : ∀ o, w6.frozen? ⟨L, o, none⟩ = false := fun o => by
     have := fzL o
     simp [World.frozen?, hLb] at this ⊢
     exact this
    refine ⟨(cc _).trans k1, ff _, by have := b6.size; omega, (cc _).trans k4, ff _, fun w4 hw4 => ?_⟩
    exact FOpen.start hAj hXL hjF (bd.trans b1) r1 b2 r2 hys.one hyl hyu (by rw [HNN.out]) hw4
   have HFE : Hid (FewA FS[j]) := hfw
   have HJF : Hid (j < FS.length) := hjF
   have HWQ : Hid (w.heap.size <= wq.heap.size) := bq.size
   have HQN : Hid (qnf = FS[j].blks.length) := hqn
   have HPN : Hid (pnf = FS[j].params.length) := hpn
   clear HJ hAj hPL hBL2 hys hyu exj hcL k1 k4 hfw bd bq fzL hXL hpn hqn
   go_upto_region 6 with fail
   refine lec_start (S := fun w' : World => w'.cell? ⟨L, j * 5 + 1, none⟩ = some (.slice paf pnf pcf) /\ w'.cell? ⟨L, j * 5 + 4, none⟩ = some (.slice qaf qnf qcf) /\ L < w'.heap.size) (z := 11) (by kernel_rfl) ?_
   show lec _ _ _ _ _ 18 _ _ _
   try simp only [List.size_toArray, List.length_cons, List.length_nil, Array.replicate]
   refine lec_takeP (i := 0) (v := ?v0f) rfl (by kernel_rfl) (by kernel_rfl) (by kernel_rfl) (by kernel_rfl) (fun _ _ _ h => h) (.inl ⟨by rfl, ?hy0f⟩) Saf ?rest0f
   case hy0f =>
    rintro w' _
    go_simp
    all_goals with_reducible rfl
   try simp only [Act.put, List.getElem_toArray, List.getElem_cons_succ, List.getElem_cons_zero, List.setIfInBounds_toArray, List.set_cons_zero, List.set_cons_succ]
   refine lec_takeP (i := 1) (v := ?v1f) rfl (by kernel_rfl) (by kernel_rfl) (by kernel_rfl) (by kernel_rfl) (fun _ _ _ h => h) (.inl ⟨by rfl, ?hy1f⟩) Saf ?rest1f
   case hy1f =>
    rintro w' _
    go_simp
    all_goals with_reducible rfl
   try simp only [Act.put, List.getElem_toArray, List.getElem_cons_succ, List.getElem_cons_zero, List.setIfInBounds_toArray, List.set_cons_zero, List.set_cons_succ]
   refine lec_takeP (i := 2) (v := ?v2f) rfl (by kernel_rfl) (by kernel_rfl) (by kernel_rfl) (by kernel_rfl) (fun _ _ _ h => h) (.inl ⟨by rfl, ?hy2f⟩) Saf ?rest2f
   case hy2f =>
    rintro w' _
    go_simp
    all_goals with_reducible rfl
   try simp only [Act.put, List.getElem_toArray, List.getElem_cons_succ, List.getElem_cons_zero, List.setIfInBounds_toArray, List.set_cons_zero, List.set_cons_succ]
   refine lec_takeP (i := 3) (v := ?v3f) rfl (by kernel_rfl) (by kernel_rfl) (by kernel_rfl) (by kernel_rfl) (fun _ _ _ h => h) (.inl ⟨by rfl, ?hy3f⟩) Saf ?rest3f
   case hy3f =>
    rintro w' _
    go_simp
    all_goals with_reducible rfl
   try simp only [Act.put, List.getElem_toArray, List.getElem_cons_succ, List.getElem_cons_zero, List.setIfInBounds_toArray, List.set_cons_zero, List.set_cons_succ]
   refine lec_takeP (i := 4) (v := ?v4f) rfl (by kernel_rfl) (by kernel_rfl) (by kernel_rfl) (by kernel_rfl) (fun _ _ _ h => h) (.inl ⟨by rfl, ?hy4f⟩) Saf ?rest4f
   case hy4f =>
    rintro w' _
    go_simp
    all_goals with_reducible rfl
   try simp only [Act.put, List.getElem_toArray, List.getElem_cons_succ, List.getElem_cons_zero, List.setIfInBounds_toArray, List.set_cons_zero, List.set_cons_succ]
   refine lec_takeT [6, 11, 12, 13, 14, 15, 16, 17] (i := 5) (v := ?v5f) rfl (by kernel_rfl) (by kernel_rfl) (by kernel_rfl) (by kernel_rfl) (fun _ _ _ h => h) (.inl ⟨by rfl, ?hy5f⟩) Saf ?rest5f
   case hy5f =>
    rintro w' ⟨h1, h2, h3⟩
    go_simp
    all_goals with_reducible rfl
   try simp only [Act.put, List.getElem_toArray, List.getElem_cons_succ, List.getElem_cons_zero, List.setIfInBounds_toArray, List.set_cons_zero, List.set_cons_succ]
   refine lec_takeP (i := 7) (v := ?v7f) rfl (by kernel_rfl) (by kernel_rfl) (by kernel_rfl) (by kernel_rfl) (fun _ _ _ h => h) (.inl ⟨by rfl, ?hy7f⟩) Saf ?rest7f
   case hy7f =>
    rintro w' _
    go_simp
    all_goals with_reducible rfl
   try simp only [Act.put, List.getElem_toArray, List.getElem_cons_succ, List.getElem_cons_zero, List.setIfInBounds_toArray, List.set_cons_zero, List.set_cons_succ]
   refine lec_takeP (i := 8) (v := ?v8f) rfl (by kernel_rfl) (by kernel_rfl) (by kernel_rfl) (by kernel_rfl) (fun _ _ _ h => h) (.inl ⟨by rfl, ?hy8f⟩) Saf ?rest8f
   case hy8f =>
    rintro w' _
    go_simp
    all_goals with_reducible rfl
   try simp only [Act.put, List.getElem_toArray, List.getElem_cons_succ, List.getElem_cons_zero, List.setIfInBounds_toArray, List.set_cons_zero, List.set_cons_succ]
   refine lec_takeP (i := 9) (v := ?v9f) rfl (by kernel_rfl) (by kernel_rfl) (by kernel_rfl) (by kernel_rfl) (fun _ _ _ h => h) (.inl ⟨by rfl, ?hy9f⟩) Saf ?rest9f
   case hy9f =>
    rintro w' _
    go_simp
    all_goals with_reducible rfl
   try simp only [Act.put, List.getElem_toArray, List.getElem_cons_succ, List.getElem_cons_zero, List.setIfInBounds_toArray, List.set_cons_zero, List.set_cons_succ]
   refine lec_takeT [11, 12, 13, 14, 15, 16, 17] (i := 10) (v := ?v10f) rfl (by kernel_rfl) (by kernel_rfl) (by kernel_rfl) (by kernel_rfl) (fun _ _ _ h => h) (.inl ⟨by rfl, ?hy10f⟩) Saf ?rest10f
   case hy10f =>
    rintro w' ⟨h1, h2, h3⟩
    go_simp
    all_goals with_reducible rfl
   try simp only [Act.put, List.getElem_toArray, List.getElem_cons_succ, List.getElem_cons_zero, List.setIfInBounds_toArray, List.set_cons_zero, List.set_cons_succ]
   refine lec_one (i := 6) rfl (by kernel_rfl) ?_
   intro K6 hK6
   rw [if_pos (by rfl)]
   go_simp
   refine Calls.mono HC1.out ?_
   rintro e w5f ⟨v1f, rfl, r1f, b1f⟩
   obtain ⟨xaf, xcf, ev1f, -, -⟩ := own_slice r1f.out
   replace ev1f : v1f = .slice xaf pnf xcf := ev1f.trans (by rw [List.length_map]; exact congrArg (fun q => Value.slice xaf q xcf) HPN.out.symm)
   subst ev1f
   have HR1f : Hid _ := r1f
   have HB1f : Hid _ := b1f
   have Sbf := HSSf.out w5f b1f
   clear r1f b1f
   go_simp
   refine hK6 _ _ (fun _ => Sbf) ?_
   clear hK6
   try simp only [Act.put, List.getElem_toArray, List.getElem_cons_succ, List.getElem_cons_zero, List.setIfInBounds_toArray, List.set_cons_zero, List.set_cons_succ]
   refine lec_one (i := 11) rfl (by kernel_rfl) ?_
   intro K11 hK11
   rw [if_pos (by rfl)]
   go_simp
   refine Calls.mono (HC2.out w5f HB1f.out) ?_
   rintro e w6f ⟨v2f, rfl, r2f, b2f⟩
   obtain ⟨yaf, ycf, ev2f, -, -⟩ := own_slice r2f.out
   replace ev2f : v2f = .slice yaf qnf ycf := ev2f.trans (by rw [hyl]; exact congrArg (fun q => Value.slice yaf q ycf) HQN.out.symm)
   subst ev2f
   obtain ⟨s1f, s2f, s3f, s4f, s5f, HOPf⟩ := HAF.out w5f _ w6f _ HB1f.out HR1f.out b2f r2f
   clear r2f b2f HR1f HB1f
   go_simp
   refine hK11 _ _ (fun h => by cases h) ?_
   clear hK11
   try simp only [Act.put, List.getElem_toArray, List.getElem_cons_succ, List.getElem_cons_zero, List.setIfInBounds_toArray, List.set_cons_zero, List.set_cons_succ]
   refine lec_one (i := 12) rfl (by kernel_rfl) ?_
   intro K12 hK12
   rw [if_pos (by rfl)]
   go_simp
   refine hK12 _ _ (fun h => by cases h) ?_
   clear hK12
   try simp only [Act.put, List.getElem_toArray, List.getElem_cons_succ, List.getElem_cons_zero, List.setIfInBounds_toArray, List.set_cons_zero, List.set_cons_succ]
   refine lec_one (i := 13) rfl (by kernel_rfl) ?_
   intro K13 hK13
   rw [if_pos (by rfl)]
   go_simp
   refine hK13 _ _ (fun h => by cases h) ?_
   clear hK13
   try simp only [Act.put, List.getElem_toArray, List.getElem_cons_succ, List.getElem_cons_zero, List.setIfInBounds_toArray, List.set_cons_zero, List.set_cons_succ]
   refine lec_one (i := 14) rfl (by kernel_rfl) ?_
   intro K14 hK14
   rw [if_pos (by rfl)]
   go_simp
   refine hK14 _ _ (fun h => by cases h) ?_
   clear hK14
   try simp only [Act.put, List.getElem_toArray, List.getElem_cons_succ, List.getElem_cons_zero, List.setIfInBounds_toArray, List.set_cons_zero, List.set_cons_succ]
   refine lec_one (i := 15) rfl (by kernel_rfl) ?_
   intro K15 hK15
   rw [if_pos (by rfl)]
   go_simp
   refine hK15 _ _ (fun h => by cases h) ?_
   clear hK15
   try simp only [Act.put, List.getElem_toArray, List.getElem_cons_succ, List.getElem_cons_zero, List.setIfInBounds_toArray, List.set_cons_zero, List.set_cons_succ]
   refine lec_one (i := 16) rfl (by kernel_rfl) ?_
   intro K16 hK16
   rw [if_pos (by rfl)]
   go_simp
   refine hK16 _ _ (fun h => by cases h) ?_
   clear hK16
   try simp only [Act.put, List.getElem_toArray, List.getElem_cons_succ, List.getElem_cons_zero, List.setIfInBounds_toArray, List.set_cons_zero, List.set_cons_succ]
   refine lec_one (i := 17) rfl (by kernel_rfl) ?_
   intro K17 hK17
   rw [if_pos (by rfl)]
   go_simp
   refine hK17 _ _ (fun h => by cases h) ?_
   clear hK17
   try simp only [Act.put, List.getElem_toArray, List.getElem_cons_succ, List.getElem_cons_zero, List.setIfInBounds_toArray, List.set_cons_zero, List.set_cons_succ]
   refine lec_done (by kernel_rfl) ?_
   obtain ⟨w4, hw4⟩ : ∃ w4, w4 = (w6f.setCell ⟨L, j * 5 + 1, none⟩ (.slice xaf pnf xcf)).setCell ⟨L, j * 5 + 4, none⟩ (.slice yaf qnf ycf) := ⟨_, rfl⟩
   have HFO : Hid _ := HOPf.out w4 hw4
   rw [<- hw4]
   clear hw4 HOPf Saf HC1 HC2 HAF HSSf s1f s2f s3f s4f s5f Sbf
   have HVN : Hid ((.slice (some ⟨L, 0, none⟩) n c' : Value) = .slice (some ⟨L, 0, none⟩) n c') := rfl
   obtain ⟨k4, lL4⟩ := HFO.out.cells rfl
   go_wp2_with fail
   clear k4 lL4
   go_loopw [41] (fun u wr => ∃ (k : Nat), k <= qnf /\ u = .int .i64 k /\ Hid (FOpen 37 34 w w4 B wq.heap.size (fun b => b = L) (.slice (some ⟨L, 0, none⟩) n c') j FS HJF.out (.slice yaf qnf ycf) wr k)) (fun u _ => qnf - (intOf u).toNat)
   case atStart => exact ⟨0, by omega, rfl, HFO⟩
   case round =>
    clear HFO
    obtain ⟨k, hkq, rfl, HK⟩ := hrel
    obtain ⟨wk, rfl⟩ : ∃ wk, wk = wr := ⟨_, rfl⟩
    obtain ⟨k4, lL4⟩ := HK.out.cells rfl
    by_cases hkn : k < qnf
    ·have hkI : (k : Int) < (qnf : Int) := by omega
     have hkB : k < FS[j].blks.length := Nat.lt_of_lt_of_eq hkn HQN.out
     obtain ⟨xsk, pa1, pc1, pa2, pc2, ysk, hp0, -, e2k, -, hpk⟩ := HK.out.out
     obtain ⟨g9, c9, ev9, hq1, hq2, hBg, _, lK, hXK, fzK, hcK⟩ := hpk.at hkB
     simp at ev9
     obtain ⟨eya, -, -⟩ := ev9
     subst eya
     obtain ⟨K, eK⟩ : ∃ K, K = g9 := ⟨_, rfl⟩
     subst eK
     obtain ⟨pab, pcb, qab, qcb, exk, hBY, hWI⟩ := hpk.un k hkB (Nat.le_refl _)
     obtain ⟨zsk, hzl, hzs, hzu⟩ := hBY.out
     rw [exk] at hcK
     have bk := hpk.low
     have hfb := HFE.out.w FS[j].blks[k] (List.getElem_mem hkB)
     obtain ⟨pnb, hpb⟩ : ∃ p, p = FS[j].blks[k].body.length := ⟨_, rfl⟩
     obtain ⟨qnb, hqb⟩ : ∃ p, p = FS[j].blks[k].ways.length := ⟨_, rfl⟩
     have y0 : wk.cell? ⟨K, k * 5, none⟩ = some (.slice pab pnb pcb) := by rw [hpb]; exact hcK 0 _ rfl
     have y4 : wk.cell? ⟨K, k * 5 + 4, none⟩ = some (.slice qab qnb qcb) := by rw [hqb]; exact hcK 4 _ rfl
     have hXB : ∀ b, (b = L \/ (Value.slice (some ⟨K, 0, none⟩) qnf ycf).ownBlock = some b) -> b < wk.heap.size := fun b e => e.elim (fun e => by rw [e]; exact lL4) (fun e => by cases e; exact lK)
     have bd : Below wk.heap.size wk wk.drew := (Below.refl _ _).drew
     have hwk : w.heap.size <= wk.heap.size := by have := HWQ.out; have := HK.out.on.size; have := hp0.sz.2; omega
     have bwk : Below w.heap.size w wk := by rw [<- HBB.out]; exact bk
     have HD1 : Hid (Calls Tryz.prog 38 #[.slice pab pnb pcb] wk.drew fun e w' => ∃ v, e = .returned v /\ Row w' wk.drew.heap.size 29 6 v zsk /\ Below wk.drew.heap.size wk.drew w') := cloneAi_any wk.drew (hzs.below (bwk.trans (bd.mono hwk)) (Nat.le_refl _)) (hpb.trans hzl.symm) (by rw [hpb]; exact hfb.1)
     have HD2 : Hid (∀ w5, Below wk.drew.heap.size wk.drew w5 -> Calls Tryz.prog 39 #[.slice qab qnb qcb] w5 fun e w' => ∃ v, e = .returned v /\ OwnI w' w5.heap.size v qnb FS[j].blks[k].ways /\ Below w5.heap.size w5 w') := fun w5 b5 => cloneInts_any w5 (hWI.below (bwk.trans ((bd.trans b5).mono hwk)) (Nat.le_refl _)) hqb (by rw [hqb]; have := hfb.2.1; omega)
     have HSSb : Hid (∀ W, Below wk.drew.heap.size wk.drew W -> (fun w' : World => w'.cell? ⟨K, k * 5, none⟩ = some (.slice pab pnb pcb) /\ w'.cell? ⟨K, k * 5 + 4, none⟩ = some (.slice qab qnb qcb) /\ K < w'.heap.size) W) := fun W hW => by
      have cc := fun (o : Nat) => hW.cell (p := ⟨K, o, none⟩) lK
      exact ⟨(cc _).trans y0, (cc _).trans y4, by have := hW.size; have e : wk.drew.heap.size = wk.heap.size := rfl; omega⟩
     have Sab : (fun w' : World => w'.cell? ⟨K, k * 5, none⟩ = some (.slice pab pnb pcb) /\ w'.cell? ⟨K, k * 5 + 4, none⟩ = some (.slice qab qnb qcb) /\ K < w'.heap.size) wk.drew := ⟨y0, y4, lK⟩
     have HAB : Hid (∀ w5 v1 w6 v2, Below wk.drew.heap.size wk.drew w5 -> Row w5 wk.drew.heap.size 29 6 v1 zsk -> Below w5.heap.size w5 w6 -> OwnI w6 w5.heap.size v2 qnb FS[j].blks[k].ways -> w6.cell? ⟨K, k * 5, none⟩ = some (.slice pab pnb pcb) /\ w6.frozen? ⟨K, k * 5, none⟩ = false /\ K < w6.heap.size /\ w6.cell? ⟨K, k * 5 + 4, none⟩ = some (.slice qab qnb qcb) /\ w6.frozen? ⟨K, k * 5 + 4, none⟩ = false /\ Hid (∀ w7, w7 = (w6.setCell ⟨K, k * 5, none⟩ v1).setCell ⟨K, k * 5 + 4, none⟩ v2 -> Only (fun b => b = K) wk w7 /\ BOpen 34 29 w w7 B wk.heap.size (fun b => b = L \/ (Value.slice (some ⟨K, 0, none⟩) qnf ycf).ownBlock = some b) (.slice (some ⟨K, 0, none⟩) qnf ycf) k FS[j].blks hkB v1 w7 0)) := fun w5 v1 w6 v2 b1 r1 b2 r2 => by
      have b6 : Below wk.heap.size wk w6 := bd.trans (b1.trans (b2.mono b1.size))
      have cc := fun (o : Nat) => b6.cell (p := ⟨K, o, none⟩) lK
      have hLb := b6.block K lK
      have ff : ∀ o, w6.frozen? ⟨K, o, none⟩ = false := fun o => by
       have := fzK o
       simp [World.frozen?, hLb] at this ⊢
       exact this
      refine ⟨(cc _).trans y0, ff _, by have := b6.size; omega, (cc _).trans y4, ff _, fun w7 hw7 => ?_⟩
      refine ⟨by rw [hw7]; exact ((Only.of_below b6 (fun b => b = K)).trans (Only.of_set w6 ⟨K, k * 5, none⟩ v1) (fun _ _ e => e)).trans (Only.of_set _ ⟨K, k * 5 + 4, none⟩ v2) (fun _ _ e => e), ?_⟩
      exact BOpen.start hpk hXB hkB (bd.trans b1) r1 hzs.one hzl hzu b2 r2 rfl hw7
     have HBW : Hid (∀ x ∈ FS[j].blks[k].body, x.args.length <= 10000000 /\ x.saves.length <= 10000000) := hfb.2.2
     have HKB : Hid (k < FS[j].blks.length) := hkB
     have HWK : Hid (w.heap.size <= wk.heap.size) := hwk
     have HPB : Hid (pnb = FS[j].blks[k].body.length) := hpb
     have hqnm : qnf <= 9223372036854775807 := by rw [HQN.out]; omega
     have HFK := HK
     clear HK hp0 hpk hcK exk hBY hWI hzs hzu bk hfb hpb hqb y0 y4 hXB bd hwk bwk fzK e2k hq1 hq2
     go_upto_region 11 with fail
     refine lec_start (S := fun w' : World => w'.cell? ⟨K, k * 5, none⟩ = some (.slice pab pnb pcb) /\ w'.cell? ⟨K, k * 5 + 4, none⟩ = some (.slice qab qnb qcb) /\ K < w'.heap.size) (z := 12) (by kernel_rfl) ?_
     show lec _ _ _ _ _ 20 _ _ _
     try simp only [List.size_toArray, List.length_cons, List.length_nil, Array.replicate]
     refine lec_takeP (i := 0) (v := ?v0b) rfl (by kernel_rfl) (by kernel_rfl) (by kernel_rfl) (by kernel_rfl) (fun _ _ _ h => h) (.inl ⟨by rfl, ?hy0b⟩) Sab ?rest0b
     case hy0b =>
      rintro w' _
      go_simp
      all_goals with_reducible rfl
     try simp only [Act.put, List.getElem_toArray, List.getElem_cons_succ, List.getElem_cons_zero, List.setIfInBounds_toArray, List.set_cons_zero, List.set_cons_succ]
     refine lec_takeP (i := 1) (v := ?v1b) rfl (by kernel_rfl) (by kernel_rfl) (by kernel_rfl) (by kernel_rfl) (fun _ _ _ h => h) (.inl ⟨by rfl, ?hy1b⟩) Sab ?rest1b
     case hy1b =>
      rintro w' _
      go_simp
      all_goals with_reducible rfl
     try simp only [Act.put, List.getElem_toArray, List.getElem_cons_succ, List.getElem_cons_zero, List.setIfInBounds_toArray, List.set_cons_zero, List.set_cons_succ]
     refine lec_takeP (i := 2) (v := ?v2b) rfl (by kernel_rfl) (by kernel_rfl) (by kernel_rfl) (by kernel_rfl) (fun _ _ _ h => h) (.inl ⟨by rfl, ?hy2b⟩) Sab ?rest2b
     case hy2b =>
      rintro w' _
      go_simp
      all_goals with_reducible rfl
     try simp only [Act.put, List.getElem_toArray, List.getElem_cons_succ, List.getElem_cons_zero, List.setIfInBounds_toArray, List.set_cons_zero, List.set_cons_succ]
     refine lec_takeP (i := 3) (v := ?v3b) rfl (by kernel_rfl) (by kernel_rfl) (by kernel_rfl) (by kernel_rfl) (fun _ _ _ h => h) (.inl ⟨by rfl, ?hy3b⟩) Sab ?rest3b
     case hy3b =>
      rintro w' _
      go_simp
      all_goals with_reducible rfl
     try simp only [Act.put, List.getElem_toArray, List.getElem_cons_succ, List.getElem_cons_zero, List.setIfInBounds_toArray, List.set_cons_zero, List.set_cons_succ]
     refine lec_takeP (i := 4) (v := ?v4b) rfl (by kernel_rfl) (by kernel_rfl) (by kernel_rfl) (by kernel_rfl) (fun _ _ _ h => h) (.inl ⟨by rfl, ?hy4b⟩) Sab ?rest4b
     case hy4b =>
      rintro w' _
      go_simp
      all_goals with_reducible rfl
     try simp only [Act.put, List.getElem_toArray, List.getElem_cons_succ, List.getElem_cons_zero, List.setIfInBounds_toArray, List.set_cons_zero, List.set_cons_succ]
     refine lec_takeT [6, 12, 13, 14, 15, 16, 17, 18, 19] (i := 5) (v := ?v5b) rfl (by kernel_rfl) (by kernel_rfl) (by kernel_rfl) (by kernel_rfl) (fun _ _ _ h => h) (.inl ⟨by rfl, ?hy5b⟩) Sab ?rest5b
     case hy5b =>
      rintro w' ⟨h1, h2, h3⟩
      go_simp
      all_goals with_reducible rfl
     try simp only [Act.put, List.getElem_toArray, List.getElem_cons_succ, List.getElem_cons_zero, List.setIfInBounds_toArray, List.set_cons_zero, List.set_cons_succ]
     refine lec_takeP (i := 7) (v := ?v7b) rfl (by kernel_rfl) (by kernel_rfl) (by kernel_rfl) (by kernel_rfl) (fun _ _ _ h => h) (.inl ⟨by rfl, ?hy7b⟩) Sab ?rest7b
     case hy7b =>
      rintro w' _
      go_simp
      all_goals with_reducible rfl
     try simp only [Act.put, List.getElem_toArray, List.getElem_cons_succ, List.getElem_cons_zero, List.setIfInBounds_toArray, List.set_cons_zero, List.set_cons_succ]
     refine lec_takeP (i := 8) (v := ?v8b) rfl (by kernel_rfl) (by kernel_rfl) (by kernel_rfl) (by kernel_rfl) (fun _ _ _ h => h) (.inl ⟨by rfl, ?hy8b⟩) Sab ?rest8b
     case hy8b =>
      rintro w' _
      go_simp
      all_goals with_reducible rfl
     try simp only [Act.put, List.getElem_toArray, List.getElem_cons_succ, List.getElem_cons_zero, List.setIfInBounds_toArray, List.set_cons_zero, List.set_cons_succ]
     refine lec_takeP (i := 9) (v := ?v9b) rfl (by kernel_rfl) (by kernel_rfl) (by kernel_rfl) (by kernel_rfl) (fun _ _ _ h => h) (.inl ⟨by rfl, ?hy9b⟩) Sab ?rest9b
     case hy9b =>
      rintro w' _
      go_simp
      all_goals with_reducible rfl
     try simp only [Act.put, List.getElem_toArray, List.getElem_cons_succ, List.getElem_cons_zero, List.setIfInBounds_toArray, List.set_cons_zero, List.set_cons_succ]
     refine lec_takeP (i := 10) (v := ?v10b) rfl (by kernel_rfl) (by kernel_rfl) (by kernel_rfl) (by kernel_rfl) (fun _ _ _ h => h) (.inl ⟨by rfl, ?hy10b⟩) Sab ?rest10b
     case hy10b =>
      rintro w' _
      go_simp
      all_goals with_reducible rfl
     try simp only [Act.put, List.getElem_toArray, List.getElem_cons_succ, List.getElem_cons_zero, List.setIfInBounds_toArray, List.set_cons_zero, List.set_cons_succ]
     refine lec_takeT [12, 13, 14, 15, 16, 17, 18, 19] (i := 11) (v := ?v11b) rfl (by kernel_rfl) (by kernel_rfl) (by kernel_rfl) (by kernel_rfl) (fun _ _ _ h => h) (.inl ⟨by rfl, ?hy11b⟩) Sab ?rest11b
     case hy11b =>
      rintro w' ⟨h1, h2, h3⟩
      go_simp
      all_goals with_reducible rfl
     try simp only [Act.put, List.getElem_toArray, List.getElem_cons_succ, List.getElem_cons_zero, List.setIfInBounds_toArray, List.set_cons_zero, List.set_cons_succ]
     refine lec_one (i := 6) rfl (by kernel_rfl) ?_
     intro K6 hK6
     rw [if_pos (by rfl)]
     go_simp
     refine Calls.mono HD1.out ?_
     rintro e w5b ⟨v1b, rfl, r1b, b1b⟩
     obtain ⟨xab, xcb, ev1b, -, -⟩ := own_slice r1b.out
     replace ev1b : v1b = .slice xab pnb xcb := ev1b.trans (by rw [hzl]; exact congrArg (fun q => Value.slice xab q xcb) HPB.out.symm)
     subst ev1b
     have HR1b : Hid _ := r1b
     have HB1b : Hid _ := b1b
     have Sbb := HSSb.out w5b b1b
     clear r1b b1b
     go_simp
     refine hK6 _ _ (fun _ => Sbb) ?_
     clear hK6
     try simp only [Act.put, List.getElem_toArray, List.getElem_cons_succ, List.getElem_cons_zero, List.setIfInBounds_toArray, List.set_cons_zero, List.set_cons_succ]
     refine lec_one (i := 12) rfl (by kernel_rfl) ?_
     intro K12 hK12
     rw [if_pos (by rfl)]
     go_simp
     refine Calls.mono (HD2.out w5b HB1b.out) ?_
     rintro e w6b ⟨v2b, rfl, r2b, b2b⟩
     obtain ⟨yab, ycb, ev2b, -, -⟩ := own_slice r2b.out
     subst ev2b
     obtain ⟨s1b, s2b, s3b, s4b, s5b, HOPb⟩ := HAB.out w5b _ w6b _ HB1b.out HR1b.out b2b r2b
     clear r2b b2b HR1b HB1b
     go_simp
     refine hK12 _ _ (fun h => by cases h) ?_
     clear hK12
     try simp only [Act.put, List.getElem_toArray, List.getElem_cons_succ, List.getElem_cons_zero, List.setIfInBounds_toArray, List.set_cons_zero, List.set_cons_succ]
     refine lec_one (i := 13) rfl (by kernel_rfl) ?_
     intro K13 hK13
     rw [if_pos (by rfl)]
     go_simp
     refine hK13 _ _ (fun h => by cases h) ?_
     clear hK13
     try simp only [Act.put, List.getElem_toArray, List.getElem_cons_succ, List.getElem_cons_zero, List.setIfInBounds_toArray, List.set_cons_zero, List.set_cons_succ]
     refine lec_one (i := 14) rfl (by kernel_rfl) ?_
     intro K14 hK14
     rw [if_pos (by rfl)]
     go_simp
     refine hK14 _ _ (fun h => by cases h) ?_
     clear hK14
     try simp only [Act.put, List.getElem_toArray, List.getElem_cons_succ, List.getElem_cons_zero, List.setIfInBounds_toArray, List.set_cons_zero, List.set_cons_succ]
     refine lec_one (i := 15) rfl (by kernel_rfl) ?_
     intro K15 hK15
     rw [if_pos (by rfl)]
     go_simp
     refine hK15 _ _ (fun h => by cases h) ?_
     clear hK15
     try simp only [Act.put, List.getElem_toArray, List.getElem_cons_succ, List.getElem_cons_zero, List.setIfInBounds_toArray, List.set_cons_zero, List.set_cons_succ]
     refine lec_one (i := 16) rfl (by kernel_rfl) ?_
     intro K16 hK16
     rw [if_pos (by rfl)]
     go_simp
     refine hK16 _ _ (fun h => by cases h) ?_
     clear hK16
     try simp only [Act.put, List.getElem_toArray, List.getElem_cons_succ, List.getElem_cons_zero, List.setIfInBounds_toArray, List.set_cons_zero, List.set_cons_succ]
     refine lec_one (i := 17) rfl (by kernel_rfl) ?_
     intro K17 hK17
     rw [if_pos (by rfl)]
     go_simp
     refine hK17 _ _ (fun h => by cases h) ?_
     clear hK17
     try simp only [Act.put, List.getElem_toArray, List.getElem_cons_succ, List.getElem_cons_zero, List.setIfInBounds_toArray, List.set_cons_zero, List.set_cons_succ]
     refine lec_one (i := 18) rfl (by kernel_rfl) ?_
     intro K18 hK18
     rw [if_pos (by rfl)]
     go_simp
     refine hK18 _ _ (fun h => by cases h) ?_
     clear hK18
     try simp only [Act.put, List.getElem_toArray, List.getElem_cons_succ, List.getElem_cons_zero, List.setIfInBounds_toArray, List.set_cons_zero, List.set_cons_succ]
     refine lec_one (i := 19) rfl (by kernel_rfl) ?_
     intro K19 hK19
     rw [if_pos (by rfl)]
     go_simp
     refine hK19 _ _ (fun h => by cases h) ?_
     clear hK19
     try simp only [Act.put, List.getElem_toArray, List.getElem_cons_succ, List.getElem_cons_zero, List.setIfInBounds_toArray, List.set_cons_zero, List.set_cons_succ]
     refine lec_done (by kernel_rfl) ?_
     obtain ⟨w7, hw7⟩ : ∃ w7, w7 = (w6b.setCell ⟨K, k * 5, none⟩ (.slice xab pnb xcb)).setCell ⟨K, k * 5 + 1 + 3, none⟩ (.slice yab qnb ycb) := ⟨_, rfl⟩
     obtain ⟨o7, hbo⟩ := HOPb.out w7 hw7
     have HO7 : Hid _ := o7
     have HBO : Hid _ := hbo
     rw [<- hw7]
     clear hw7 HOPb Sab HD1 HD2 HAB HSSb s1b s2b s3b s4b s5b Sbb o7 hbo
     obtain ⟨z0, lK7⟩ := HBO.out.cells rfl
     go_wp2_with fail
     clear z0 lK7 k4 lL4
     go_loopw [73] (fun u wr => ∃ (i : Nat), i <= pnb /\ u = .int .i64 i /\ Hid (BOpen 34 29 w w7 B wk.heap.size (fun b => b = L \/ (Value.slice (some ⟨K, 0, none⟩) qnf ycf).ownBlock = some b) (.slice (some ⟨K, 0, none⟩) qnf ycf) k FS[j].blks HKB.out (.slice xab pnb xcb) wr i)) (fun u _ => pnb - (intOf u).toNat)
     case atStart => exact ⟨0, by omega, rfl, HBO⟩
     case round =>
      clear HBO
      obtain ⟨i, hiq, rfl, HI⟩ := hrel
      obtain ⟨wi, rfl⟩ : ∃ wi, wi = wr := ⟨_, rfl⟩
      obtain ⟨z0, lK7⟩ := HI.out.cells rfl
      by_cases hin : i < pnb
      ·have hiI : (i : Int) < (pnb : Int) := by omega
       have hiB : i < FS[j].blks[k].body.length := Nat.lt_of_lt_of_eq hin HPB.out
       obtain ⟨ysi, ia1, ic1, ia2, ic2, zsi, hq0, -, -, -, hpi⟩ := HI.out.out
       obtain ⟨g9, c9, ev9, hq1, hq2, _, _, lV, hXV, fzV, hcV⟩ := hpi.at hiB
       simp at ev9
       obtain ⟨exa, -, -⟩ := ev9
       subst exa
       obtain ⟨V, eV⟩ : ∃ V, V = g9 := ⟨_, rfl⟩
       subst eV
       obtain ⟨pai, pci, qai, qci, exi, hAY, hSY⟩ := hpi.un i hiB (Nat.le_refl _)
       rw [exi] at hcV
       have bi := hpi.low
       have hfx := HBW.out FS[j].blks[k].body[i] (List.getElem_mem hiB)
       obtain ⟨pni, hpi2⟩ : ∃ p, p = FS[j].blks[k].body[i].args.length := ⟨_, rfl⟩
       obtain ⟨qni, hqi2⟩ : ∃ p, p = FS[j].blks[k].body[i].saves.length := ⟨_, rfl⟩
       have x4 : wi.cell? ⟨V, i * 6 + 4, none⟩ = some (.slice pai pni pci) := by rw [hpi2]; exact hcV 4 _ rfl
       have x5 : wi.cell? ⟨V, i * 6 + 5, none⟩ = some (.slice qai qni qci) := by rw [hqi2]; exact hcV 5 _ rfl
       have bd : Below wi.heap.size wi wi.drew := (Below.refl _ _).drew
       have bwi : Below w.heap.size w wi := by rw [<- HBB.out]; exact bi
       have hwi : w.heap.size <= wi.heap.size := bwi.size
       have HE1 : Hid (Calls Tryz.prog 36 #[.slice pai pni pci] wi.drew fun e w' => ∃ v, e = .returned v /\ Row w' wi.drew.heap.size 24 2 v (FS[j].blks[k].body[i].args.map lov) /\ Below wi.drew.heap.size wi.drew w') := cloneLoc_any wi.drew (StsG.below hAY (bwi.trans (bd.mono hwi)) (Nat.le_refl _)) (by simp [hpi2]) (by rw [hpi2]; exact hfx.1)
       have HE2 : Hid (∀ w5, Below wi.drew.heap.size wi.drew w5 -> Calls Tryz.prog 39 #[.slice qai qni qci] w5 fun e w' => ∃ v, e = .returned v /\ OwnI w' w5.heap.size v qni FS[j].blks[k].body[i].saves /\ Below w5.heap.size w5 w') := fun w5 b5 => cloneInts_any w5 (hSY.below (bwi.trans ((bd.trans b5).mono hwi)) (Nat.le_refl _)) hqi2 (by rw [hqi2]; have := hfx.2; omega)
       have HSSi : Hid (∀ W, Below wi.drew.heap.size wi.drew W -> (fun w' : World => w'.cell? ⟨V, i * 6 + 4, none⟩ = some (.slice pai pni pci) /\ w'.cell? ⟨V, i * 6 + 5, none⟩ = some (.slice qai qni qci) /\ V < w'.heap.size) W) := fun W hW => by
        have cc := fun (o : Nat) => hW.cell (p := ⟨V, o, none⟩) lV
        exact ⟨(cc _).trans x4, (cc _).trans x5, by have := hW.size; have e : wi.drew.heap.size = wi.heap.size := rfl; omega⟩
       have Sai : (fun w' : World => w'.cell? ⟨V, i * 6 + 4, none⟩ = some (.slice pai pni pci) /\ w'.cell? ⟨V, i * 6 + 5, none⟩ = some (.slice qai qni qci) /\ V < w'.heap.size) wi.drew := ⟨x4, x5, lV⟩
       have HAI : Hid (∀ w5 v1 w6 v2, Below wi.drew.heap.size wi.drew w5 -> Row w5 wi.drew.heap.size 24 2 v1 (FS[j].blks[k].body[i].args.map lov) -> Below w5.heap.size w5 w6 -> OwnI w6 w5.heap.size v2 qni FS[j].blks[k].body[i].saves -> w6.cell? ⟨V, i * 6 + 4, none⟩ = some (.slice pai pni pci) /\ w6.frozen? ⟨V, i * 6 + 4, none⟩ = false /\ V < w6.heap.size /\ w6.cell? ⟨V, i * 6 + 5, none⟩ = some (.slice qai qni qci) /\ w6.frozen? ⟨V, i * 6 + 5, none⟩ = false /\ Hid (∀ w9, w9 = (w6.setCell ⟨V, i * 6 + 4, none⟩ v1).setCell ⟨V, i * 6 + 5, none⟩ v2 -> BOpen 34 29 w w7 B wk.heap.size (fun b => b = L \/ (Value.slice (some ⟨K, 0, none⟩) qnf ycf).ownBlock = some b) (.slice (some ⟨K, 0, none⟩) qnf ycf) k FS[j].blks HKB.out (.slice (some ⟨V, 0, none⟩) pnb xcb) w9 (i + 1))) := fun w5 v1 w6 v2 b1 r1 b2 r2 => by
        have b6 : Below wi.heap.size wi w6 := bd.trans (b1.trans (b2.mono b1.size))
        have cc := fun (o : Nat) => b6.cell (p := ⟨V, o, none⟩) lV
        have hLb := b6.block V lV
        have ff : ∀ o, w6.frozen? ⟨V, o, none⟩ = false := fun o => by
         have := fzV o
         simp [World.frozen?, hLb] at this ⊢
         exact this
        refine ⟨(cc _).trans x4, ff _, by have := b6.size; omega, (cc _).trans x5, ff _, fun w9 hw9 => ?_⟩
        exact HI.out.next hiB (bd.trans b1) r1 b2 r2 rfl hw9
       have HPI : Hid (pni = FS[j].blks[k].body[i].args.length) := hpi2
       have hpnm : pnb <= 9223372036854775807 := by rw [HPB.out]; omega
       clear HI hq0 hpi hcV exi hAY hSY bi hfx hpi2 hqi2 x4 x5 bd bwi hwi fzV hq1 hq2
       go_upto_region 16 with fail
       refine lec_start (S := fun w' : World => w'.cell? ⟨V, i * 6 + 4, none⟩ = some (.slice pai pni pci) /\ w'.cell? ⟨V, i * 6 + 5, none⟩ = some (.slice qai qni qci) /\ V < w'.heap.size) (z := 11) (by kernel_rfl) ?_
       show lec _ _ _ _ _ 18 _ _ _
       try simp only [List.size_toArray, List.length_cons, List.length_nil, Array.replicate]
       refine lec_takeP (i := 0) (v := ?v0i) rfl (by kernel_rfl) (by kernel_rfl) (by kernel_rfl) (by kernel_rfl) (fun _ _ _ h => h) (.inl ⟨by rfl, ?hy0i⟩) Sai ?rest0i
       case hy0i =>
        rintro w' _
        go_simp
        all_goals with_reducible rfl
       try simp only [Act.put, List.getElem_toArray, List.getElem_cons_succ, List.getElem_cons_zero, List.setIfInBounds_toArray, List.set_cons_zero, List.set_cons_succ]
       refine lec_takeP (i := 1) (v := ?v1i) rfl (by kernel_rfl) (by kernel_rfl) (by kernel_rfl) (by kernel_rfl) (fun _ _ _ h => h) (.inl ⟨by rfl, ?hy1i⟩) Sai ?rest1i
       case hy1i =>
        rintro w' _
        go_simp
        all_goals with_reducible rfl
       try simp only [Act.put, List.getElem_toArray, List.getElem_cons_succ, List.getElem_cons_zero, List.setIfInBounds_toArray, List.set_cons_zero, List.set_cons_succ]
       refine lec_takeP (i := 2) (v := ?v2i) rfl (by kernel_rfl) (by kernel_rfl) (by kernel_rfl) (by kernel_rfl) (fun _ _ _ h => h) (.inl ⟨by rfl, ?hy2i⟩) Sai ?rest2i
       case hy2i =>
        rintro w' _
        go_simp
        all_goals with_reducible rfl
       try simp only [Act.put, List.getElem_toArray, List.getElem_cons_succ, List.getElem_cons_zero, List.setIfInBounds_toArray, List.set_cons_zero, List.set_cons_succ]
       refine lec_takeP (i := 3) (v := ?v3i) rfl (by kernel_rfl) (by kernel_rfl) (by kernel_rfl) (by kernel_rfl) (fun _ _ _ h => h) (.inl ⟨by rfl, ?hy3i⟩) Sai ?rest3i
       case hy3i =>
        rintro w' _
        go_simp
        all_goals with_reducible rfl
       try simp only [Act.put, List.getElem_toArray, List.getElem_cons_succ, List.getElem_cons_zero, List.setIfInBounds_toArray, List.set_cons_zero, List.set_cons_succ]
       refine lec_takeP (i := 4) (v := ?v4i) rfl (by kernel_rfl) (by kernel_rfl) (by kernel_rfl) (by kernel_rfl) (fun _ _ _ h => h) (.inl ⟨by rfl, ?hy4i⟩) Sai ?rest4i
       case hy4i =>
        rintro w' _
        go_simp
        all_goals with_reducible rfl
       try simp only [Act.put, List.getElem_toArray, List.getElem_cons_succ, List.getElem_cons_zero, List.setIfInBounds_toArray, List.set_cons_zero, List.set_cons_succ]
       refine lec_takeT [6, 11, 12, 13, 14, 15, 16, 17] (i := 5) (v := ?v5i) rfl (by kernel_rfl) (by kernel_rfl) (by kernel_rfl) (by kernel_rfl) (fun _ _ _ h => h) (.inl ⟨by rfl, ?hy5i⟩) Sai ?rest5i
       case hy5i =>
        rintro w' ⟨h1, h2, h3⟩
        go_simp
        all_goals with_reducible rfl
       try simp only [Act.put, List.getElem_toArray, List.getElem_cons_succ, List.getElem_cons_zero, List.setIfInBounds_toArray, List.set_cons_zero, List.set_cons_succ]
       refine lec_takeP (i := 7) (v := ?v7i) rfl (by kernel_rfl) (by kernel_rfl) (by kernel_rfl) (by kernel_rfl) (fun _ _ _ h => h) (.inl ⟨by rfl, ?hy7i⟩) Sai ?rest7i
       case hy7i =>
        rintro w' _
        go_simp
        all_goals with_reducible rfl
       try simp only [Act.put, List.getElem_toArray, List.getElem_cons_succ, List.getElem_cons_zero, List.setIfInBounds_toArray, List.set_cons_zero, List.set_cons_succ]
       refine lec_takeP (i := 8) (v := ?v8i) rfl (by kernel_rfl) (by kernel_rfl) (by kernel_rfl) (by kernel_rfl) (fun _ _ _ h => h) (.inl ⟨by rfl, ?hy8i⟩) Sai ?rest8i
       case hy8i =>
        rintro w' _
        go_simp
        all_goals with_reducible rfl
       try simp only [Act.put, List.getElem_toArray, List.getElem_cons_succ, List.getElem_cons_zero, List.setIfInBounds_toArray, List.set_cons_zero, List.set_cons_succ]
       refine lec_takeP (i := 9) (v := ?v9i) rfl (by kernel_rfl) (by kernel_rfl) (by kernel_rfl) (by kernel_rfl) (fun _ _ _ h => h) (.inl ⟨by rfl, ?hy9i⟩) Sai ?rest9i
       case hy9i =>
        rintro w' _
        go_simp
        all_goals with_reducible rfl
       try simp only [Act.put, List.getElem_toArray, List.getElem_cons_succ, List.getElem_cons_zero, List.setIfInBounds_toArray, List.set_cons_zero, List.set_cons_succ]
       refine lec_takeT [11, 12, 13, 14, 15, 16, 17] (i := 10) (v := ?v10i) rfl (by kernel_rfl) (by kernel_rfl) (by kernel_rfl) (by kernel_rfl) (fun _ _ _ h => h) (.inl ⟨by rfl, ?hy10i⟩) Sai ?rest10i
       case hy10i =>
        rintro w' ⟨h1, h2, h3⟩
        go_simp
        all_goals with_reducible rfl
       try simp only [Act.put, List.getElem_toArray, List.getElem_cons_succ, List.getElem_cons_zero, List.setIfInBounds_toArray, List.set_cons_zero, List.set_cons_succ]
       refine lec_one (i := 6) rfl (by kernel_rfl) ?_
       intro K6 hK6
       rw [if_pos (by rfl)]
       go_simp
       refine Calls.mono HE1.out ?_
       rintro e w5i ⟨v1i, rfl, r1i, b1i⟩
       obtain ⟨xai, xci, ev1i, -, -⟩ := own_slice r1i.out
       replace ev1i : v1i = .slice xai pni xci := ev1i.trans (by rw [List.length_map]; exact congrArg (fun q => Value.slice xai q xci) HPI.out.symm)
       subst ev1i
       have HR1i : Hid _ := r1i
       have HB1i : Hid _ := b1i
       have Sbi := HSSi.out w5i b1i
       clear r1i b1i
       go_simp
       refine hK6 _ _ (fun _ => Sbi) ?_
       clear hK6
       try simp only [Act.put, List.getElem_toArray, List.getElem_cons_succ, List.getElem_cons_zero, List.setIfInBounds_toArray, List.set_cons_zero, List.set_cons_succ]
       refine lec_one (i := 11) rfl (by kernel_rfl) ?_
       intro K11 hK11
       rw [if_pos (by rfl)]
       go_simp
       refine Calls.mono (HE2.out w5i HB1i.out) ?_
       rintro e w6i ⟨v2i, rfl, r2i, b2i⟩
       obtain ⟨yai, yci, ev2i, -, -⟩ := own_slice r2i.out
       subst ev2i
       obtain ⟨s1i, s2i, s3i, s4i, s5i, HOPi⟩ := HAI.out w5i _ w6i _ HB1i.out HR1i.out b2i r2i
       clear r2i b2i HR1i HB1i
       go_simp
       refine hK11 _ _ (fun h => by cases h) ?_
       clear hK11
       try simp only [Act.put, List.getElem_toArray, List.getElem_cons_succ, List.getElem_cons_zero, List.setIfInBounds_toArray, List.set_cons_zero, List.set_cons_succ]
       refine lec_one (i := 12) rfl (by kernel_rfl) ?_
       intro K12 hK12
       rw [if_pos (by rfl)]
       go_simp
       refine hK12 _ _ (fun h => by cases h) ?_
       clear hK12
       try simp only [Act.put, List.getElem_toArray, List.getElem_cons_succ, List.getElem_cons_zero, List.setIfInBounds_toArray, List.set_cons_zero, List.set_cons_succ]
       refine lec_one (i := 13) rfl (by kernel_rfl) ?_
       intro K13 hK13
       rw [if_pos (by rfl)]
       go_simp
       refine hK13 _ _ (fun h => by cases h) ?_
       clear hK13
       try simp only [Act.put, List.getElem_toArray, List.getElem_cons_succ, List.getElem_cons_zero, List.setIfInBounds_toArray, List.set_cons_zero, List.set_cons_succ]
       refine lec_one (i := 14) rfl (by kernel_rfl) ?_
       intro K14 hK14
       rw [if_pos (by rfl)]
       go_simp
       refine hK14 _ _ (fun h => by cases h) ?_
       clear hK14
       try simp only [Act.put, List.getElem_toArray, List.getElem_cons_succ, List.getElem_cons_zero, List.setIfInBounds_toArray, List.set_cons_zero, List.set_cons_succ]
       refine lec_one (i := 15) rfl (by kernel_rfl) ?_
       intro K15 hK15
       rw [if_pos (by rfl)]
       go_simp
       refine hK15 _ _ (fun h => by cases h) ?_
       clear hK15
       try simp only [Act.put, List.getElem_toArray, List.getElem_cons_succ, List.getElem_cons_zero, List.setIfInBounds_toArray, List.set_cons_zero, List.set_cons_succ]
       refine lec_one (i := 16) rfl (by kernel_rfl) ?_
       intro K16 hK16
       rw [if_pos (by rfl)]
       go_simp
       refine hK16 _ _ (fun h => by cases h) ?_
       clear hK16
       try simp only [Act.put, List.getElem_toArray, List.getElem_cons_succ, List.getElem_cons_zero, List.setIfInBounds_toArray, List.set_cons_zero, List.set_cons_succ]
       refine lec_one (i := 17) rfl (by kernel_rfl) ?_
       intro K17 hK17
       rw [if_pos (by rfl)]
       go_simp
       refine hK17 _ _ (fun h => by cases h) ?_
       clear hK17
       try simp only [Act.put, List.getElem_toArray, List.getElem_cons_succ, List.getElem_cons_zero, List.setIfInBounds_toArray, List.set_cons_zero, List.set_cons_succ]
       refine lec_done (by kernel_rfl) ?_
       obtain ⟨w9, hw9⟩ : ∃ w9, w9 = (w6i.setCell ⟨V, i * 6 + 4, none⟩ (.slice xai pni xci)).setCell ⟨V, i * 6 + 5, none⟩ (.slice yai qni yci) := ⟨_, rfl⟩
       have HN9 : Hid _ := HOPi.out w9 hw9
       rw [<- hw9]
       clear hw9 HOPi Sai HE1 HE2 HAI HSSi s1i s2i s3i s4i s5i Sbi z0 lK7
       go_wp2_with fail
       go_roundw
       case rel => exact ⟨i + 1, by omega, by first | rfl | go_num, HN9.out⟩
       case measure => simp [intOf]; try omega
      ·have hie : i = pnb := by omega
       have HCL : Hid (FOpen 37 34 w w4 B wq.heap.size (fun b => b = L) (.slice (some ⟨L, 0, none⟩) n c') j FS HJF.out (.slice (some ⟨K, 0, none⟩) qnf ycf) wi (k + 1)) := by
        have hI := HI.out
        have e9 : i = FS[j].blks[k].body.length := hie.trans HPB.out
        subst e9
        refine HFK.out.next hI.close ?_
        refine (HO7.out.mono (F' := fun b => (Value.slice (some ⟨K, 0, none⟩) qnf ycf).ownBlock = some b) fun b _ e => by rw [e]; rfl).trans hI.on fun b hb e => ?_
        exact absurd (hI.new b e) (by omega)
       clear HI hie
       go_wp2_with fail
       go_roundw
       case rel => exact ⟨k + 1, by omega, by first | rfl | go_num, HCL.out⟩
       case measure => simp [intOf]; try omega
    ·have hke : k = qnf := by omega
     have HCJ : Hid (∃ xs, Opn EnF 37 5 w wk B wk.heap.size (fun b => b = L) (.slice (some ⟨L, 0, none⟩) n c') (j + 1) (j + 1) FS xs) := by
      have hK := HK.out
      have e9 : k = FS[j].blks.length := hke.trans HQN.out
      subst e9
      exact hK.close
     clear HK hke k4 lL4
     go_wp2_with fail
     go_roundw
     case rel => exact ⟨j + 1, by omega, by first | rfl | go_num, HCJ.out⟩
     case measure => simp [intOf]; try omega
  ·obtain ⟨xsj, hAj⟩ := HJ.out
   have hje : j = FS.length := by have := HNN.out; omega
   have HFI : Hid (Below w.heap.size w wq /\ w.heap.size <= L /\ ∀ W, (∀ b, w.heap.size <= b -> b < wq.heap.size -> W.heap[b]? = wq.heap[b]?) -> Afs W (some ⟨L, 0, none⟩) c' FS) := by
    subst hje
    obtain ⟨ao, co, ev, hs⟩ := hAj.fin (Y := fun _ => False) (fun b q => q.elim) (fun g _ q => q)
    simp at ev
    obtain ⟨rfl, _, rfl⟩ := ev
    have hb := hAj.low
    rw [<- HBB.out]
    exact ⟨hb, hBL, fun W hW => hs W fun b h1 h2 _ => hW b h1 h2⟩
   clear HJ hAj hje
   go_wp2_with fail
   go_ret
   exact ⟨L, c', rfl, HFI.out⟩
end Go.Proofs.YtegoemeefmjnoaaGreatDoor
