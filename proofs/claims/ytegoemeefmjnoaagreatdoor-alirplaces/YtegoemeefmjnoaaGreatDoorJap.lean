import Derived.Test.YtegoemeefmjnoaaGreatDoorJao
set_option linter.unusedVariables false
set_option linter.unusedSimpArgs false
namespace Go.Proofs.YtegoemeefmjnoaaGreatDoor
open Go.ChangeShapes Go.WideShapes Go.ChangeAt Go.RowKit Go.Maps
set_option maxRecDepth 100000 in
set_option maxHeartbeats 8000000 in
theorem mBack_yes {FS s d w M} (h : Mca FS s d w M) {W' : List Fa} {F F1 F2 : Fa} (hw : M.wait = W' ++ [F]) (hl : W'.length <= 1000000000000) {x : Ai} (hx : insOf FS F = some x) (hk : F.keep x.saves = some F1) {v : Int} (hset : F1.set x.dst v = some F2) :
 Calls Tryz.prog 53 #[.pointer (some ⟨s.ws.mb, 0, none⟩), .int .i64 v] w fun e w' => e = .returned (.tuple #[]) /\ ∃ d', Mca FS s d' w' { M with here := F2, wait := W' } /\ FooA s d d' w w' := by
 obtain ⟨vb, vc, A, m, ev, hv1, hv2, hvm, hvl, hFr, hA, hAs, hcell, hpop⟩ := h.pop hw
 have c12 := h.cells.c12
 have hlt := h.cells.lt
 rw [ev] at c12
 obtain ⟨r0, r1, r2, r3, r4, r5, r6, r7, hr⟩ := list8 hFr
 have ef : fav s F m = [.pointer (some ⟨s.fb, s.fo + F.fi * 5, none⟩), .pointer (some ⟨s.bb F.fi, s.bo F.fi + F.bk * 5, none⟩), .int .i64 (F.bh : Int), .int .i64 r0, .int .i64 r1, .int .i64 r2, .int .i64 r3, .int .i64 r4, .int .i64 r5, .int .i64 r6, .int .i64 r7, .map m] := by simp [fav, hr]
 rw [ef] at hcell
 have k0 : w.cell? ⟨vb, W'.length * 12, none⟩ = some (.pointer (some ⟨s.fb, s.fo + F.fi * 5, none⟩)) := hcell 0 _ rfl
 have k1 : w.cell? ⟨vb, W'.length * 12 + 1, none⟩ = some (.pointer (some ⟨s.bb F.fi, s.bo F.fi + F.bk * 5, none⟩)) := hcell 1 _ rfl
 have k2 : w.cell? ⟨vb, W'.length * 12 + 2, none⟩ = some (.int .i64 (F.bh : Int)) := hcell 2 _ rfl
 have k3 : w.cell? ⟨vb, W'.length * 12 + 3, none⟩ = some (.int .i64 r0) := hcell 3 _ rfl
 have k4 : w.cell? ⟨vb, W'.length * 12 + 4, none⟩ = some (.int .i64 r1) := hcell 4 _ rfl
 have k5 : w.cell? ⟨vb, W'.length * 12 + 5, none⟩ = some (.int .i64 r2) := hcell 5 _ rfl
 have k6 : w.cell? ⟨vb, W'.length * 12 + 6, none⟩ = some (.int .i64 r3) := hcell 6 _ rfl
 have k7 : w.cell? ⟨vb, W'.length * 12 + 7, none⟩ = some (.int .i64 r4) := hcell 7 _ rfl
 have k8 : w.cell? ⟨vb, W'.length * 12 + 8, none⟩ = some (.int .i64 r5) := hcell 8 _ rfl
 have k9 : w.cell? ⟨vb, W'.length * 12 + 9, none⟩ = some (.int .i64 r6) := hcell 9 _ rfl
 have k10 : w.cell? ⟨vb, W'.length * 12 + 10, none⟩ = some (.int .i64 r7) := hcell 10 _ rfl
 have k11 : w.cell? ⟨vb, W'.length * 12 + 11, none⟩ = some (.map m) := hcell 11 _ rfl
 obtain ⟨w1, hw1⟩ : ∃ w1, w1 = w.setRow s.ws.mb ((fav s M.here d.mh ++ ([d.vw, fnv s] ++ wcs s.ws d.wd M.wv)).toArray.toList.take 0 ++ fav s F m ++ (fav s M.here d.mh ++ ([d.vw, fnv s] ++ wcs s.ws d.wd M.wv)).toArray.toList.drop (0 + (fav s F m).length)).toArray := ⟨_, rfl⟩
 obtain ⟨w2, hw2⟩ : ∃ w2, w2 = w1.setRow vb (A.toList.take (W'.length * 12) ++ zfr ++ A.toList.drop (W'.length * 12 + zfr.length)).toArray := ⟨_, rfl⟩
 obtain ⟨w3, hw3⟩ : ∃ w3, w3 = w2.setCell ⟨s.ws.mb, 12, none⟩ (.slice (some ⟨vb, 0, none⟩) W'.length vc) := ⟨_, rfl⟩
 obtain ⟨a1, d1, d2, z1, z2, z3, z4, f2, hP⟩ := hpop w1 w2 w3 hw1 hw2 hw3
 rw [ev] at d1 d2
 obtain ⟨d3, hM3, hF3⟩ := hP.out
 have lt3 := hM3.cells.lt
 have hMl : ∀ w5, Below w3.heap.size w3 w5 -> Mca FS s d3 w5 { M with here := F, wait := W' } /\ FooA s d d3 w w5 := fun w5 b5 => ⟨hM3.below b5, hF3.trans (FooA.of_below b5)⟩
 have HLA : Hid (Calls Tryz.prog 46 #[.pointer (some ⟨s.ws.mb, 0, none⟩)] w3 fun e w' => (∃ ib p, e = .returned (.pointer (some ⟨ib, p, none⟩)) /\ InsAt s.ws ib p x) /\ Below w3.heap.size w3 w') := fLast_any hM3.rs.fns hM3.fb hM3.agr hx
 have HKP : Hid (∀ w5 ib p, Below w3.heap.size w3 w5 -> InsAt s.ws ib p x -> ∃ sa sc dk dn, x.dst = (dk, dn) /\ (w5.cell? ⟨ib, p + 5, none⟩ = some (.slice sa x.saves.length sc) /\ ib < w5.heap.size /\ s.ws.mb < w5.heap.size) /\ Hid (Calls Tryz.prog 42 #[.pointer (some ⟨s.ws.mb, 0, none⟩), .slice sa x.saves.length sc] w5 fun e w' => e = .returned (.tuple #[]) /\ ∃ d', Mca FS s d' w' { M with here := F1, wait := W' } /\ FooA s d d' w w' /\ (w'.cell? ⟨ib, p + 2, none⟩ = some (.int .i64 dk) /\ w'.cell? ⟨ib, p + 2 + 1, none⟩ = some (.int .i64 dn) /\ ib < w'.heap.size /\ s.ws.mb < w'.heap.size) /\ Hid (∀ w6, Below w'.heap.size w' w6 -> Calls Tryz.prog 57 #[.pointer (some ⟨s.ws.mb, 0, none⟩), .agg #[.int .i64 dk, .int .i64 dn], .int .i64 v] w6 fun e w' => e = .returned (.tuple #[]) /\ ∃ d', Mca FS s d' w' { M with here := F2, wait := W' } /\ FooA s d d' w w'))) := by
  intro w5 ib p b5 hI
  obtain ⟨hM5, hF5⟩ := hMl w5 b5
  obtain ⟨xa, xc, sa, sc, hst, hc, hL, hS⟩ := hI.out
  obtain ⟨y0, y1, y2, y3, y4, y5, y6⟩ := hc w5 hM5.agr
  refine ⟨sa, sc, x.dst.1, x.dst.2, rfl, ⟨y6, y0, hM5.cells.lt⟩, (fKeep_any hM5.fb (hS w5 hM5.agr) rfl (fun ib' io ea hne e => ?_) F1 hk).mono ?_⟩
  ·have hst2 : s.ws.st ib' := agr_inW (o := io) fun W hW => by
    obtain ⟨b', o', e', hA'⟩ := (hS W hW).out hne
    rw [ea] at e'
    cases e'
    exact ⟨_, by have := hA'.cell 0 (List.length_pos_iff.2 hne); simpa using this⟩
   exact (hM5.rs.wm.rest.out ib' hst2).1 e
  ·rintro e w' ⟨rfl, q1, q2⟩
   have hc1 := hM5.here q1 (q2.mono fun k _ e => .inl e) (.inl rfl)
   obtain ⟨u0, u1, u2, u3, u4, u5, u6⟩ := hc w' hc1.1.agr
   refine ⟨rfl, _, hc1.1, hF5.trans hc1.2, ⟨u3, u4, u0, hc1.1.cells.lt⟩, fun w6 b6 => ?_⟩
   have hM6 := hc1.1.below b6
   refine (fSet_any hM6.fb x.dst v F2 hset).mono ?_
   rintro e w8 ⟨rfl, m', g1, g2, g3⟩
   have hc2 := hM6.here g1 g2 g3
   exact ⟨rfl, _, hc2.1, ((hF5.trans hc1.2).trans (FooA.of_below b6)).trans hc2.2⟩
 have HBX : Hid _ := h.boxQ
 have hXl : (fav s M.here d.mh ++ ([d.vw, fnv s] ++ wcs s.ws d.wd M.wv)).toArray.size = 24 := by simp [fav_len h.rg, wcs]
 have HO : Hid (∀ u ∈ ([.pointer (some ⟨s.fb, s.fo + F.fi * 5, none⟩), .pointer (some ⟨s.bb F.fi, s.bo F.fi + F.bk * 5, none⟩), .int .i64 (F.bh : Int), .int .i64 r0, .int .i64 r1, .int .i64 r2, .int .i64 r3, .int .i64 r4, .int .i64 r5, .int .i64 r6, .int .i64 r7, .map m] : List Value), u.oneCell' = true) := by rw [<- ef]; exact fav_one s F m
 rw [ef] at hw1
 have HW1 : Hid _ := hw1
 have HW2 : Hid _ := hw2
 have HW3 : Hid _ := hw3
 have HA1 : Hid _ := a1
 have hni : ((W'.length : Nat) : Int) < ((W'.length + 1 : Nat) : Int) := by omega
 generalize (fav s M.here d.mh ++ ([d.vw, fnv s] ++ wcs s.ws d.wd M.wv)).toArray = AX at *
 generalize s.ws.mb = mb at *
 generalize s.ws.t = tt at *
 generalize hnn : W'.length = n at *
 have hw9 : IntKind.i64.wrap (((n + 1 : Nat) : Int) - 1) = (n : Int) := by rw [IntKind.wrap_i64]; omega
 have hwn : ((n : Int)) < ((n + 1 : Nat) : Int) := by omega
 have hw8 : wrap64 (((n + 1 : Nat) : Int) - 1) = (n : Int) := by unfold wrap64; omega
 generalize x.saves.length = sn at *
 clear h ev hw hx hk hset hr ef hcell hpop hP hM3 hF3 hMl hw1 hw2 hw3 a1 hA hFr hnn
 go_enter Tryz.func53, Tryz.ntmps53
 go_upto_region 4 with (refine wpList_store_partA rfl _ _ 80 rfl mb 0 AX tt HBX.out [.pointer (some ⟨s.fb, s.fo + F.fi * 5, none⟩), .pointer (some ⟨s.bb F.fi, s.bo F.fi + F.bk * 5, none⟩), .int .i64 (F.bh : Int), .int .i64 r0, .int .i64 r1, .int .i64 r2, .int .i64 r3, .int .i64 r4, .int .i64 r5, .int .i64 r6, .int .i64 r7, .map m] rfl rfl info_fr HO.out (by rw [hXl]; simp) ?_; rw [<- HW1.out]; clear HW1)
 go_upto_region 5 with (refine wpList_store_partA rfl _ _ 80 rfl vb (n * 12) A 80 HA1.out zfr (by first | rfl | simp [go_sem]) rfl info_fr zfr_one hAs ?_; rw [<- HW2.out]; clear HW2)
 go_upto_region 6 with fail
 rw [<- HW3.out]
 clear HW3 HBX HO HA1 d1 d2 c12 f2 k0 k1 k2 k3 k4 k5 k6 k7 k8 k9 k10 k11
 go_upto_region 7 with (go_at_call 46; refine Calls.mono HLA.out ?_; rintro e w5 ⟨⟨ib, ip, rfl, hI⟩, b5⟩; have HI : Hid _ := hI; have HB5 : Hid _ := b5; clear hI b5)
 obtain ⟨sa, sc, dk, dn, edst, ⟨y1, y2, y3⟩, hkp⟩ := HKP.out w5.drew ib ip (HB5.out.trans (Below.refl _ _).drew) HI.out
 have HKE : Hid _ := hkp.out
 have Sa : (fun w' : World => w'.cell? ⟨ib, ip + 5, none⟩ = some (.slice sa sn sc) /\ ib < w'.heap.size /\ mb < w'.heap.size) w5.drew := ⟨y1, y2, y3⟩
 clear hkp HKP edst
 refine lec_start (S := fun w' : World => w'.cell? ⟨ib, ip + 5, none⟩ = some (.slice sa sn sc) /\ ib < w'.heap.size /\ mb < w'.heap.size) (z := 7) (by kernel_rfl) ?_
 show lec _ _ _ _ _ 8 _ _ _
 try simp only [List.size_toArray, List.length_cons, List.length_nil, Array.replicate]
 refine lec_takeP (i := 0) (v := ?v0z) rfl (by kernel_rfl) (by kernel_rfl) (by kernel_rfl) (by kernel_rfl) (fun _ _ _ h => h) (.inl ⟨by rfl, ?hy0z⟩) Sa ?rest0z
 case hy0z =>
  rintro w' _
  go_simp
  all_goals with_reducible rfl
 try simp only [Act.put, List.getElem_toArray, List.getElem_cons_succ, List.getElem_cons_zero, List.setIfInBounds_toArray, List.set_cons_zero, List.set_cons_succ]
 refine lec_takeP (i := 1) (v := ?v1z) rfl (by kernel_rfl) (by kernel_rfl) (by kernel_rfl) (by kernel_rfl) (fun _ _ _ h => h) (.inl ⟨by rfl, ?hy1z⟩) Sa ?rest1z
 case hy1z =>
  rintro w' _
  go_simp
  all_goals with_reducible rfl
 try simp only [Act.put, List.getElem_toArray, List.getElem_cons_succ, List.getElem_cons_zero, List.setIfInBounds_toArray, List.set_cons_zero, List.set_cons_succ]
 refine lec_takeP (i := 2) (v := ?v2z) rfl (by kernel_rfl) (by kernel_rfl) (by kernel_rfl) (by kernel_rfl) (fun _ _ _ h => h) (.inl ⟨by rfl, ?hy2z⟩) Sa ?rest2z
 case hy2z =>
  rintro w' _
  go_simp
  all_goals with_reducible rfl
 try simp only [Act.put, List.getElem_toArray, List.getElem_cons_succ, List.getElem_cons_zero, List.setIfInBounds_toArray, List.set_cons_zero, List.set_cons_succ]
 refine lec_takeP (i := 3) (v := ?v3z) rfl (by kernel_rfl) (by kernel_rfl) (by kernel_rfl) (by kernel_rfl) (fun _ _ _ h => h) (.inl ⟨by rfl, ?hy3z⟩) Sa ?rest3z
 case hy3z =>
  rintro w' _
  go_simp
  all_goals with_reducible rfl
 try simp only [Act.put, List.getElem_toArray, List.getElem_cons_succ, List.getElem_cons_zero, List.setIfInBounds_toArray, List.set_cons_zero, List.set_cons_succ]
 refine lec_takeP (i := 4) (v := ?v4z) rfl (by kernel_rfl) (by kernel_rfl) (by kernel_rfl) (by kernel_rfl) (fun _ _ _ h => h) (.inl ⟨by rfl, ?hy4z⟩) Sa ?rest4z
 case hy4z =>
  rintro w' _
  go_simp
  all_goals with_reducible rfl
 try simp only [Act.put, List.getElem_toArray, List.getElem_cons_succ, List.getElem_cons_zero, List.setIfInBounds_toArray, List.set_cons_zero, List.set_cons_succ]
 refine lec_takeP (i := 5) (v := ?v5z) rfl (by kernel_rfl) (by kernel_rfl) (by kernel_rfl) (by kernel_rfl) (fun _ _ _ h => h) (.inl ⟨by rfl, ?hy5z⟩) Sa ?rest5z
 case hy5z =>
  rintro w' _
  go_simp
  all_goals with_reducible rfl
 try simp only [Act.put, List.getElem_toArray, List.getElem_cons_succ, List.getElem_cons_zero, List.setIfInBounds_toArray, List.set_cons_zero, List.set_cons_succ]
 refine lec_takeT [7] (i := 6) (v := ?v6z) rfl (by kernel_rfl) (by kernel_rfl) (by kernel_rfl) (by kernel_rfl) (fun _ _ _ h => h) (.inl ⟨by rfl, ?hy6z⟩) Sa ?rest6z
 case hy6z =>
  rintro w' ⟨h1, h2, h3⟩
  go_simp
  all_goals with_reducible rfl
 try simp only [Act.put, List.getElem_toArray, List.getElem_cons_succ, List.getElem_cons_zero, List.setIfInBounds_toArray, List.set_cons_zero, List.set_cons_succ]
 refine lec_one (i := 7) rfl (by kernel_rfl) ?_
 intro K7 hK7
 rw [if_pos (by rfl)]
 go_simp
 refine Calls.mono HKE.out ?_
 rintro e w6 ⟨rfl, h6⟩
 have H6 : Hid _ := h6
 clear h6
 go_simp
 refine hK7 _ _ (fun h => by cases h) ?_
 clear hK7
 try simp only [Act.put, List.getElem_toArray, List.getElem_cons_succ, List.getElem_cons_zero, List.setIfInBounds_toArray, List.set_cons_zero, List.set_cons_succ]
 refine lec_done (by kernel_rfl) ?_
 obtain ⟨d6, hM6, hF6, ⟨x1, x2, x3, x4⟩, hse⟩ := H6.out
 have HSE2 : Hid _ := hse.out w6.drew (Below.refl _ _).drew
 have Sb : (fun w' : World => w'.cell? ⟨ib, ip + 2, none⟩ = some (.int .i64 dk) /\ w'.cell? ⟨ib, ip + 2 + 1, none⟩ = some (.int .i64 dn) /\ ib < w'.heap.size /\ mb < w'.heap.size) w6.drew := ⟨x1, x2, x3, x4⟩
 clear hM6 hF6 hse H6 Sa HKE HLA
 go_upto_region 8 with fail
 refine lec_start (S := fun w' : World => w'.cell? ⟨ib, ip + 2, none⟩ = some (.int .i64 dk) /\ w'.cell? ⟨ib, ip + 2 + 1, none⟩ = some (.int .i64 dn) /\ ib < w'.heap.size /\ mb < w'.heap.size) (z := 8) (by kernel_rfl) ?_
 show lec _ _ _ _ _ 9 _ _ _
 try simp only [List.size_toArray, List.length_cons, List.length_nil, Array.replicate]
 refine lec_takeP (i := 0) (v := ?v0y) rfl (by kernel_rfl) (by kernel_rfl) (by kernel_rfl) (by kernel_rfl) (fun _ _ _ h => h) (.inl ⟨by rfl, ?hy0y⟩) Sb ?rest0y
 case hy0y =>
  rintro w' _
  go_simp
  all_goals with_reducible rfl
 try simp only [Act.put, List.getElem_toArray, List.getElem_cons_succ, List.getElem_cons_zero, List.setIfInBounds_toArray, List.set_cons_zero, List.set_cons_succ]
 refine lec_takeP (i := 1) (v := ?v1y) rfl (by kernel_rfl) (by kernel_rfl) (by kernel_rfl) (by kernel_rfl) (fun _ _ _ h => h) (.inl ⟨by rfl, ?hy1y⟩) Sb ?rest1y
 case hy1y =>
  rintro w' _
  go_simp
  all_goals with_reducible rfl
 try simp only [Act.put, List.getElem_toArray, List.getElem_cons_succ, List.getElem_cons_zero, List.setIfInBounds_toArray, List.set_cons_zero, List.set_cons_succ]
 refine lec_takeP (i := 2) (v := ?v2y) rfl (by kernel_rfl) (by kernel_rfl) (by kernel_rfl) (by kernel_rfl) (fun _ _ _ h => h) (.inl ⟨by rfl, ?hy2y⟩) Sb ?rest2y
 case hy2y =>
  rintro w' _
  go_simp
  all_goals with_reducible rfl
 try simp only [Act.put, List.getElem_toArray, List.getElem_cons_succ, List.getElem_cons_zero, List.setIfInBounds_toArray, List.set_cons_zero, List.set_cons_succ]
 refine lec_takeP (i := 3) (v := ?v3y) rfl (by kernel_rfl) (by kernel_rfl) (by kernel_rfl) (by kernel_rfl) (fun _ _ _ h => h) (.inl ⟨by rfl, ?hy3y⟩) Sb ?rest3y
 case hy3y =>
  rintro w' _
  go_simp
  all_goals with_reducible rfl
 try simp only [Act.put, List.getElem_toArray, List.getElem_cons_succ, List.getElem_cons_zero, List.setIfInBounds_toArray, List.set_cons_zero, List.set_cons_succ]
 refine lec_takeP (i := 4) (v := ?v4y) rfl (by kernel_rfl) (by kernel_rfl) (by kernel_rfl) (by kernel_rfl) (fun _ _ _ h => h) (.inl ⟨by rfl, ?hy4y⟩) Sb ?rest4y
 case hy4y =>
  rintro w' _
  go_simp
  all_goals with_reducible rfl
 try simp only [Act.put, List.getElem_toArray, List.getElem_cons_succ, List.getElem_cons_zero, List.setIfInBounds_toArray, List.set_cons_zero, List.set_cons_succ]
 refine lec_takeP (i := 5) (v := ?v5y) rfl (by kernel_rfl) (by kernel_rfl) (by kernel_rfl) (by kernel_rfl) (fun _ _ _ h => h) (.inl ⟨by rfl, ?hy5y⟩) Sb ?rest5y
 case hy5y =>
  rintro w' _
  go_simp
  all_goals with_reducible rfl
 try simp only [Act.put, List.getElem_toArray, List.getElem_cons_succ, List.getElem_cons_zero, List.setIfInBounds_toArray, List.set_cons_zero, List.set_cons_succ]
 refine lec_takeT [8] (i := 6) (v := ?v6y) rfl (by kernel_rfl) (by kernel_rfl) (by kernel_rfl) (by kernel_rfl) (fun _ _ _ h => h) (.inl ⟨by rfl, ?hy6y⟩) Sb ?rest6y
 case hy6y =>
  rintro w' ⟨h1, h2, h3, h4⟩
  go_simp
  all_goals with_reducible rfl
 try simp only [Act.put, List.getElem_toArray, List.getElem_cons_succ, List.getElem_cons_zero, List.setIfInBounds_toArray, List.set_cons_zero, List.set_cons_succ]
 refine lec_takeP (i := 7) (v := ?v7y) rfl (by kernel_rfl) (by kernel_rfl) (by kernel_rfl) (by kernel_rfl) (fun _ _ _ h => h) (.inl ⟨by rfl, ?hy7y⟩) Sb ?rest7y
 case hy7y =>
  rintro w' _
  go_simp
  all_goals with_reducible rfl
 try simp only [Act.put, List.getElem_toArray, List.getElem_cons_succ, List.getElem_cons_zero, List.setIfInBounds_toArray, List.set_cons_zero, List.set_cons_succ]
 refine lec_one (i := 8) rfl (by kernel_rfl) ?_
 intro K8 hK8
 rw [if_pos (by rfl)]
 go_simp
 refine Calls.mono HSE2.out ?_
 rintro e w8 ⟨rfl, h8⟩
 have H8 : Hid _ := h8
 clear h8
 go_simp
 refine hK8 _ _ (fun h => by cases h) ?_
 clear hK8
 try simp only [Act.put, List.getElem_toArray, List.getElem_cons_succ, List.getElem_cons_zero, List.setIfInBounds_toArray, List.set_cons_zero, List.set_cons_succ]
 refine lec_done (by kernel_rfl) ?_
 clear Sb HSE2
 go_wp2_with fail
 exact bodyPost_end (v := .tuple #[]) (by simp [results, Tryz.results53, go_sem]) rfl ⟨rfl, H8.out⟩
theorem mBack_any {FS s d w M} (h : Mca FS s d w M) (hl : M.wait.length <= 1000000000000) (v : Int) (M' : Ma) (hM : M.back FS v = some M') :
 Calls Tryz.prog 53 #[.pointer (some ⟨s.ws.mb, 0, none⟩), .int .i64 v] w fun e w' => e = .returned (.tuple #[]) /\ ∃ d', Mca FS s d' w' M' /\ FooA s d d' w w' := by
 unfold Ma.back at hM
 cases hL : M.wait.getLast? with
 | none =>
   rw [hL] at hM
   cases hM
   exact mBack_end h (List.getLast?_eq_none_iff.1 hL) v
 | some F =>
   rw [hL] at hM
   simp only at hM
   cases hx : insOf FS F with
   | none => rw [hx] at hM; cases hM
   | some x =>
     rw [hx] at hM
     simp only at hM
     cases hk : F.keep x.saves with
     | none => rw [hk] at hM; cases hM
     | some F1 =>
       rw [hk] at hM
       simp only at hM
       cases hs : F1.set x.dst v with
       | none => rw [hs] at hM; cases hM
       | some F2 =>
         rw [hs] at hM
         cases hM
         obtain ⟨W', e⟩ := List.getLast?_eq_some_iff.1 hL
         have hd : M.wait.dropLast = W' := by rw [e]; simp
         rw [hd]
         exact mBack_yes h e (by rw [e] at hl; simp at hl; omega) hx hk hs
end Go.Proofs.YtegoemeefmjnoaaGreatDoor
