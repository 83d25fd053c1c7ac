import Derived.Test.YtfofmmkihhnfmaaGreatDoorJae
import Derived.Test.YtfofmmkihhnfmaaGreatDoorJal
import Derived.Test.YtfofmmkihhnfmaaGreatDoorJax
import Derived.Test.YtfofmmkihhnfmaaGreatDoorJay
set_option linter.unusedVariables false
set_option linter.unusedSimpArgs false
namespace Go.Proofs.YtfofmmkihhnfmaaGreatDoor
open Go.ChangeShapes Go.WideShapes Go.ChangeAt Go.RowKit Go.Maps
theorem riv_one (C : List Ri) : ∀ u ∈ (C.map riv).flatten, u.oneCell' = true := fun u hu => by
 obtain ⟨l, hl, hu⟩ := List.mem_flatten.1 hu
 obtain ⟨x, _, rfl⟩ := List.mem_map.1 hl
 simp [riv] at hu
 rcases hu with rfl | rfl | rfl | rfl | rfl <;> rfl
theorem rfv_one (FS : List Rf) : ∀ u ∈ (FS.map rfv).flatten, u.oneCell' = true := fun u hu => by
 obtain ⟨l, hl, hu⟩ := List.mem_flatten.1 hu
 obtain ⟨x, _, rfl⟩ := List.mem_map.1 hl
 simp [rfv] at hu
 rcases hu with rfl | rfl | rfl | rfl | rfl <;> rfl
def cs66 (co : Option Addr) (cn ce : Nat) (fo : Option Addr) (fn fe : Nat) (sb : Nat) (S : Int) (h : Nat) (r : Int) (io : Option Addr) (n ie : Nat) : List Value := tblR ++ [.slice co cn ce, .slice fo fn fe, .int .i64 0, .int .i64 0, .int .i64 0, .int .i64 0, .int .i64 0, .int .i64 0, .int .i64 0, .int .i64 0, .int .i64 0, .int .i64 0, .int .i64 0, .int .i64 0, .int .i64 0, .int .i64 0, .int .i64 0, .int .i64 0, .int .i64 0, .map (some sb), .int .i64 S, .int .i64 (-1), .int .i64 0, .int .i64 0, .pointer (some ⟨h + 1 + 1, 0, none⟩), .int .i64 r, .slice io n ie]
def tl8 : List Value := [.slice none 0 0, .int .i64 0, .int .i64 0, .int .i64 0, .int .i64 0, .int .i64 0, .int .i64 0, .bool false]
theorem rcs_zero (s : Rst) (io : Option Addr) (ie : Nat) (I : List Int) {h : Nat} (hh : s.hb = h + 1 + 1) : rcs s ⟨io, ie, .slice none 0 0⟩ (Rv.zero I) = cs66 s.co s.C.length s.cc s.fo s.FS.length s.fc s.sb s.S h s.room io I.length ie ++ tl8 := by
 unfold rcs rtl cs66
 rw [hh]
 rfl
theorem form_fr {C : List Ri} {FS : List Rf} {m : Int} (h : formR C FS m = true) : FoR C FS := by
 unfold formR at h
 simp only [Bool.and_eq_true] at h
 exact foR_of h.1 h.2.2.2
set_option maxRecDepth 100000 in
set_option maxHeartbeats 8000000 in
theorem newR_yes (w : World) (hTab : Tab w) (ca : Option Addr) (cn cc : Nat) (fa : Option Addr) (fn fc : Nat) (k : Nat) (C : List Ri) (FS : List Rf) (hcn : cn = C.length) (hfn : fn = FS.length) (hC : StsG w ca cc 5 (C.map riv)) (hF : StsG w fa fc 5 (FS.map rfv)) (hlen : cn <= 10000000) (hfl : fn <= 1000000) (ia : Option Addr) (n ic : Nat) (I : List Int) (hin : n = I.length) (hI : Ints w ia ic I) (hn : n <= 1048576) (S r : Int) (f : Rf) (hf : FS[k]? = some f) (hform : formR C FS (k : Int) = true) (hS : 0 <= S /\ S <= 1099511627776) (hr : 0 <= r /\ r <= 1099511627776) :
 Calls Tryz.prog 9 #[.agg #[.slice ca cn cc, .slice fa fn fc, .int .i64 (k : Int)], .slice ia n ic, .agg #[.int .i64 S, .int .i64 r]] w fun e w' => ∃ s d W9, e = .returned (.tuple #[.pointer (some ⟨s.mb, 0, none⟩), .int .i64 0]) /\ (s.C = C /\ s.FS = FS /\ s.S = S /\ s.room = r) /\ Below w.heap.size w W9 /\ StR s d W9 w' ((Rv.zero I).call S f (-1)) /\ (∀ j, footR s d j -> w.heap.size <= j) /\ (∀ j, s.st j -> w.heap.size <= j) := by
 obtain ⟨W, hW⟩ : ∃ W, W = (w.alloc (.cells #[.slice ca cn cc, .slice fa fn fc, .int .i64 (k : Int)] 25)).alloc (.cells #[.int .i64 S, .int .i64 r] 28) := ⟨_, rfl⟩
 have T2 := TwoR.start w (.cells #[.slice ca cn cc, .slice fa fn fc, .int .i64 (k : Int)] 25) (.cells #[.int .i64 S, .int .i64 r] 28)
 rw [<- hW] at T2
 have z : (w.alloc (.cells #[.slice ca cn cc, .slice fa fn fc, .int .i64 (k : Int)] 25)).heap.size = w.heap.size + 1 := by simp
 obtain ⟨xb, hxb⟩ : ∃ xb, xb = w.heap.size := ⟨_, rfl⟩
 have HSS : Hid (∀ W, TwoR w (.cells #[.slice ca cn cc, .slice fa fn fc, .int .i64 (k : Int)] 25) (.cells #[.int .i64 S, .int .i64 r] 28) W -> (fun w' : World => w'.cell? ⟨xb, 0, none⟩ = some (.slice ca cn cc) /\ w'.cell? ⟨xb, 1, none⟩ = some (.slice fa fn fc) /\ w'.cell? ⟨xb, 2, none⟩ = some (.int .i64 (k : Int)) /\ w'.cell? ⟨xb + 1, 0, none⟩ = some (.int .i64 S) /\ w'.cell? ⟨xb + 1, 1, none⟩ = some (.int .i64 r) /\ xb < w'.heap.size /\ xb + 1 < w'.heap.size) W) := fun W h => by
  rw [hxb]
  have e := h.a.one
  have e2 := h.b.one
  rw [z] at e2
  exact ⟨cell_arr e rfl, cell_arr e rfl, cell_arr e rfl, cell_arr e2 rfl, cell_arr e2 rfl, h.a.lt, (gl e2)⟩
 obtain ⟨c0, c1, c2, d0, d1, l1, l2⟩ := HSS.out W T2
 have HCK : Hid (Calls Tryz.prog 15 #[.agg #[.slice ca cn cc, .slice fa fn fc, .int .i64 (k : Int)]] W fun e w' => e = .returned (.int .i64 0) /\ Below W.heap.size W w') := by
  have q := checkR W (hTab.oneR T2.a) ca cn cc fa fn fc (k : Int) C FS hcn hfn (hC.below T2.a.low (Nat.le_refl _)) (hF.below T2.a.low (Nat.le_refl _)) (by omega) hfl
  rw [hform, if_pos rfl] at q
  exact q
 have HL : Hid (∀ W2, Calls Tryz.prog 22 #[.agg #[.int .i64 S, .int .i64 r]] W2 fun e w' => e = .returned (.bool true) /\ Below W2.heap.size W2 w') := fun W2 => limFit W2 S r (by rw [decide_eq_true hS, decide_eq_true hr]; rfl)
 have HCI : Hid (∀ W2, TwoR w (.cells #[.slice ca cn cc, .slice fa fn fc, .int .i64 (k : Int)] 25) (.cells #[.int .i64 S, .int .i64 r] 28) W2 -> Calls Tryz.prog 24 #[.slice ca cn cc] W2 fun e w' => ∃ v, e = .returned v /\ Row w' W2.heap.size 71 5 v (C.map riv) /\ Below W2.heap.size W2 w') := fun W2 h => cloneIns_any W2 (hC.below h.a.low (Nat.le_refl _)) (by simpa using hcn) (by omega)
 have HCF : Hid (∀ W2, TwoR w (.cells #[.slice ca cn cc, .slice fa fn fc, .int .i64 (k : Int)] 25) (.cells #[.int .i64 S, .int .i64 r] 28) W2 -> Calls Tryz.prog 25 #[.slice fa fn fc] W2 fun e w' => ∃ v, e = .returned v /\ Row w' W2.heap.size 59 5 v (FS.map rfv) /\ Below W2.heap.size W2 w') := fun W2 h => cloneRf_any W2 (hF.below h.a.low (Nat.le_refl _)) (by simpa using hfn) (by omega)
 have HCN : Hid (∀ W2, TwoR w (.cells #[.slice ca cn cc, .slice fa fn fc, .int .i64 (k : Int)] 25) (.cells #[.int .i64 S, .int .i64 r] 28) W2 -> Calls Tryz.prog 28 #[.slice ia n ic] W2 fun e w' => ∃ v, e = .returned v /\ OwnI w' W2.heap.size v n I /\ Below W2.heap.size W2 w') := fun W2 h => cloneInts_any W2 (hI.below h.a.low (Nat.le_refl _)) hin (by omega)
 have hz : decide ((1048576 : Int) < (n : Int)) = false := decide_eq_false (by omega)
 have HT1 : Hid _ := T2
 have HXB : Hid _ := hxb
 have HW : Hid _ := hW
 have HFF : Hid (FS[k]? = some f /\ formR C FS (k : Int) = true /\ FS.length <= 1000000 /\ (0 <= S /\ S <= 1099511627776) /\ (0 <= r /\ r <= 1099511627776) /\ n = I.length) := ⟨hf, hform, by omega, hS, hr, hin⟩
 clear hTab hC hF hcn hfn hlen hfl T2 hxb z hW hf hform hS hr hI hin hn
 go_enter Tryz.func9, Tryz.ntmps9
 go_upto_region 1 with fail
 rw [<- HW.out, <- HXB.out]
 clear HW
 go_wp2_with fail
 refine Calls.mono HCK.out ?_
 rintro e w1 ⟨rfl, b1⟩
 have HTA : Hid (TwoR w (.cells #[.slice ca cn cc, .slice fa fn fc, .int .i64 (k : Int)] 25) (.cells #[.int .i64 S, .int .i64 r] 28) w1) := HT1.out.next b1
 obtain ⟨y0, y1, y2, v0, v1, m1, m2⟩ := HSS.out w1 HTA.out
 go_wp2_with fail
 refine Calls.mono (HL.out _) ?_
 rintro e w2 ⟨rfl, b2⟩
 have HT2 : Hid (TwoR w (.cells #[.slice ca cn cc, .slice fa fn fc, .int .i64 (k : Int)] 25) (.cells #[.int .i64 S, .int .i64 r] 28) w2) := HTA.out.next b2
 clear c0 c1 c2 d0 d1 l1 l2 y0 y1 y2 v0 v1 m1 m2 HCK HL hz HT1 HTA b1 b2
 go_upto_region 8 with fail
 have S8 : (fun w' : World => w'.cell? ⟨xb, 0, none⟩ = some (.slice ca cn cc) /\ w'.cell? ⟨xb, 1, none⟩ = some (.slice fa fn fc) /\ w'.cell? ⟨xb, 2, none⟩ = some (.int .i64 (k : Int)) /\ w'.cell? ⟨xb + 1, 0, none⟩ = some (.int .i64 S) /\ w'.cell? ⟨xb + 1, 1, none⟩ = some (.int .i64 r) /\ xb < w'.heap.size /\ xb + 1 < w'.heap.size) w2.drew := HSS.out w2 HT2.out
 refine lec_start (S := fun w' : World => w'.cell? ⟨xb, 0, none⟩ = some (.slice ca cn cc) /\ w'.cell? ⟨xb, 1, none⟩ = some (.slice fa fn fc) /\ w'.cell? ⟨xb, 2, none⟩ = some (.int .i64 (k : Int)) /\ w'.cell? ⟨xb + 1, 0, none⟩ = some (.int .i64 S) /\ w'.cell? ⟨xb + 1, 1, none⟩ = some (.int .i64 r) /\ xb < w'.heap.size /\ xb + 1 < w'.heap.size) (z := 18) (by kernel_rfl) ?_
 show lec _ _ _ _ _ 19 _ _ _
 try simp only [List.size_toArray, List.length_cons, List.length_nil, Array.replicate]
 refine lec_takeP (i := 1) (v := ?v1z) rfl (by kernel_rfl) (by kernel_rfl) (by kernel_rfl) (by kernel_rfl) (fun _ _ _ h => h) (.inl ⟨by rfl, ?hy1z⟩) S8 ?rest1z
 case hy1z =>
  rintro w' _
  go_simp
  all_goals with_reducible rfl
 try simp only [Act.put, List.getElem_toArray, List.getElem_cons_succ, List.getElem_cons_zero, List.setIfInBounds_toArray, List.set_cons_zero, List.set_cons_succ]
 refine lec_takeT [3, 6, 9, 10, 14, 15, 16, 17, 18] (i := 2) (v := ?v2z) rfl (by kernel_rfl) (by kernel_rfl) (by kernel_rfl) (by kernel_rfl) (fun _ _ _ h => h) (.inl ⟨by rfl, ?hy2z⟩) S8 ?rest2z
 case hy2z =>
  rintro w' ⟨g0, g1, g2, g3, g4, g5, g6⟩
  go_simp
  all_goals with_reducible rfl
 try simp only [Act.put, List.getElem_toArray, List.getElem_cons_succ, List.getElem_cons_zero, List.setIfInBounds_toArray, List.set_cons_zero, List.set_cons_succ]
 refine lec_takeP (i := 4) (v := ?v4z) rfl (by kernel_rfl) (by kernel_rfl) (by kernel_rfl) (by kernel_rfl) (fun _ _ _ h => h) (.inl ⟨by rfl, ?hy4z⟩) S8 ?rest4z
 case hy4z =>
  rintro w' _
  go_simp
  all_goals with_reducible rfl
 try simp only [Act.put, List.getElem_toArray, List.getElem_cons_succ, List.getElem_cons_zero, List.setIfInBounds_toArray, List.set_cons_zero, List.set_cons_succ]
 refine lec_takeT [6, 9, 10, 14, 15, 16, 17, 18] (i := 5) (v := ?v5z) rfl (by kernel_rfl) (by kernel_rfl) (by kernel_rfl) (by kernel_rfl) (fun _ _ _ h => h) (.inl ⟨by rfl, ?hy5z⟩) S8 ?rest5z
 case hy5z =>
  rintro w' ⟨g0, g1, g2, g3, g4, g5, g6⟩
  go_simp
  all_goals with_reducible rfl
 try simp only [Act.put, List.getElem_toArray, List.getElem_cons_succ, List.getElem_cons_zero, List.setIfInBounds_toArray, List.set_cons_zero, List.set_cons_succ]
 refine lec_takeP (i := 7) (v := ?v7z) rfl (by kernel_rfl) (by kernel_rfl) (by kernel_rfl) (by kernel_rfl) (fun _ _ _ h => h) (.inl ⟨by rfl, ?hy7z⟩) S8 ?rest7z
 case hy7z =>
  rintro w' _
  go_simp
  all_goals with_reducible rfl
 try simp only [Act.put, List.getElem_toArray, List.getElem_cons_succ, List.getElem_cons_zero, List.setIfInBounds_toArray, List.set_cons_zero, List.set_cons_succ]
 refine lec_takeT [9, 10, 14, 15, 16, 17, 18] (i := 8) (v := ?v8z) rfl (by kernel_rfl) (by kernel_rfl) (by kernel_rfl) (by kernel_rfl) (fun _ _ _ h => h) (.inl ⟨by rfl, ?hy8z⟩) S8 ?rest8z
 case hy8z =>
  rintro w' ⟨g0, g1, g2, g3, g4, g5, g6⟩
  go_simp
  all_goals with_reducible rfl
 try simp only [Act.put, List.getElem_toArray, List.getElem_cons_succ, List.getElem_cons_zero, List.setIfInBounds_toArray, List.set_cons_zero, List.set_cons_succ]
 refine lec_takeP (i := 11) (v := ?v11z) rfl (by kernel_rfl) (by kernel_rfl) (by kernel_rfl) (by kernel_rfl) (fun _ _ _ h => h) (.inl ⟨by rfl, ?hy11z⟩) S8 ?rest11z
 case hy11z =>
  rintro w' _
  go_simp
  all_goals with_reducible rfl
 try simp only [Act.put, List.getElem_toArray, List.getElem_cons_succ, List.getElem_cons_zero, List.setIfInBounds_toArray, List.set_cons_zero, List.set_cons_succ]
 refine lec_takeT [15, 16, 17, 18] (i := 12) (v := ?v12z) rfl (by kernel_rfl) (by kernel_rfl) (by kernel_rfl) (by kernel_rfl) (fun _ _ _ h => h) (.inl ⟨by rfl, ?hy12z⟩) S8 ?rest12z
 case hy12z =>
  rintro w' ⟨g0, g1, g2, g3, g4, g5, g6⟩
  go_simp
  all_goals with_reducible rfl
 try simp only [Act.put, List.getElem_toArray, List.getElem_cons_succ, List.getElem_cons_zero, List.setIfInBounds_toArray, List.set_cons_zero, List.set_cons_succ]
 refine lec_takeP (i := 13) (v := ?v13z) rfl (by kernel_rfl) (by kernel_rfl) (by kernel_rfl) (by kernel_rfl) (fun _ _ _ h => h) (.inl ⟨by rfl, ?hy13z⟩) S8 ?rest13z
 case hy13z =>
  rintro w' _
  go_simp
  all_goals with_reducible rfl
 try simp only [Act.put, List.getElem_toArray, List.getElem_cons_succ, List.getElem_cons_zero, List.setIfInBounds_toArray, List.set_cons_zero, List.set_cons_succ]
 refine lec_one (i := 0) rfl (by kernel_rfl) ?_
 intro K0 hK0
 rw [if_pos (by rfl)]
 go_simp
 refine Calls.mono (tableR _) ?_
 rintro e a3 ⟨rfl, b3⟩
 have HT3 : Hid _ := HT2.out.next (((Below.refl _ _).drew).trans b3)
 have S8 : (fun w' : World => w'.cell? ⟨xb, 0, none⟩ = some (.slice ca cn cc) /\ w'.cell? ⟨xb, 1, none⟩ = some (.slice fa fn fc) /\ w'.cell? ⟨xb, 2, none⟩ = some (.int .i64 (k : Int)) /\ w'.cell? ⟨xb + 1, 0, none⟩ = some (.int .i64 S) /\ w'.cell? ⟨xb + 1, 1, none⟩ = some (.int .i64 r) /\ xb < w'.heap.size /\ xb + 1 < w'.heap.size) a3 := HSS.out a3 HT3.out
 go_simp
 refine hK0 _ _ (fun _ => S8) ?_
 clear hK0
 try simp only [Act.put, List.getElem_toArray, List.getElem_cons_succ, List.getElem_cons_zero, List.setIfInBounds_toArray, List.set_cons_zero, List.set_cons_succ]
 refine lec_one (i := 3) rfl (by kernel_rfl) ?_
 intro K3 hK3
 rw [if_pos (by rfl)]
 go_simp
 refine Calls.mono (HCI.out _ HT3.out) ?_
 rintro e a4 ⟨vC, rfl, hC4, b4⟩
 obtain ⟨co, ce, evC, _⟩ := row_sts hC4 (riv_one C)
 have HC4 : Hid _ := hC4
 subst evC
 clear hC4
 have HT4 : Hid _ := HT3.out.next (b4)
 have S8 : (fun w' : World => w'.cell? ⟨xb, 0, none⟩ = some (.slice ca cn cc) /\ w'.cell? ⟨xb, 1, none⟩ = some (.slice fa fn fc) /\ w'.cell? ⟨xb, 2, none⟩ = some (.int .i64 (k : Int)) /\ w'.cell? ⟨xb + 1, 0, none⟩ = some (.int .i64 S) /\ w'.cell? ⟨xb + 1, 1, none⟩ = some (.int .i64 r) /\ xb < w'.heap.size /\ xb + 1 < w'.heap.size) a4 := HSS.out a4 HT4.out
 go_simp
 refine hK3 _ _ (fun _ => S8) ?_
 clear hK3
 try simp only [Act.put, List.getElem_toArray, List.getElem_cons_succ, List.getElem_cons_zero, List.setIfInBounds_toArray, List.set_cons_zero, List.set_cons_succ]
 refine lec_one (i := 6) rfl (by kernel_rfl) ?_
 intro K6 hK6
 rw [if_pos (by rfl)]
 go_simp
 refine Calls.mono (HCF.out _ HT4.out) ?_
 rintro e a5 ⟨vF, rfl, hF5, b5⟩
 obtain ⟨fo, fe, evF, _⟩ := row_sts hF5 (rfv_one FS)
 have HF5 : Hid _ := hF5
 subst evF
 clear hF5
 have HT5 : Hid _ := HT4.out.next (b5)
 have S8 : (fun w' : World => w'.cell? ⟨xb, 0, none⟩ = some (.slice ca cn cc) /\ w'.cell? ⟨xb, 1, none⟩ = some (.slice fa fn fc) /\ w'.cell? ⟨xb, 2, none⟩ = some (.int .i64 (k : Int)) /\ w'.cell? ⟨xb + 1, 0, none⟩ = some (.int .i64 S) /\ w'.cell? ⟨xb + 1, 1, none⟩ = some (.int .i64 r) /\ xb < w'.heap.size /\ xb + 1 < w'.heap.size) a5 := HSS.out a5 HT5.out
 go_simp
 refine hK6 _ _ (fun _ => S8) ?_
 clear hK6
 try simp only [Act.put, List.getElem_toArray, List.getElem_cons_succ, List.getElem_cons_zero, List.setIfInBounds_toArray, List.set_cons_zero, List.set_cons_succ]
 refine lec_one (i := 9) rfl (by kernel_rfl) ?_
 intro K9 hK9
 rw [if_pos (by rfl)]
 go_simp
 refine Calls.mono (newStackR _ S) ?_
 rintro e a6 ⟨sb, rfl, b6, hsb, hsw⟩
 have HSW : Hid _ := hsw
 have HSB : Hid _ := hsb
 clear hsw hsb
 have HT6 : Hid _ := HT5.out.next (b6)
 have S8 : (fun w' : World => w'.cell? ⟨xb, 0, none⟩ = some (.slice ca cn cc) /\ w'.cell? ⟨xb, 1, none⟩ = some (.slice fa fn fc) /\ w'.cell? ⟨xb, 2, none⟩ = some (.int .i64 (k : Int)) /\ w'.cell? ⟨xb + 1, 0, none⟩ = some (.int .i64 S) /\ w'.cell? ⟨xb + 1, 1, none⟩ = some (.int .i64 r) /\ xb < w'.heap.size /\ xb + 1 < w'.heap.size) a6 := HSS.out a6 HT6.out
 go_simp
 refine hK9 _ _ (fun _ => S8) ?_
 clear hK9
 try simp only [Act.put, List.getElem_toArray, List.getElem_cons_succ, List.getElem_cons_zero, List.setIfInBounds_toArray, List.set_cons_zero, List.set_cons_succ]
 refine lec_one (i := 10) rfl (by kernel_rfl) ?_
 intro K10 hK10
 rw [if_pos (by rfl)]
 go_simp
 refine Calls.mono (new_any _) ?_
 rintro e a7 ⟨rfl, hch, b7, z7⟩
 have HCH : Hid _ := hch
 have HZ7 : Hid _ := z7
 clear hch z7
 have HT7 : Hid _ := HT6.out.next (b7)
 have S8 : (fun w' : World => w'.cell? ⟨xb, 0, none⟩ = some (.slice ca cn cc) /\ w'.cell? ⟨xb, 1, none⟩ = some (.slice fa fn fc) /\ w'.cell? ⟨xb, 2, none⟩ = some (.int .i64 (k : Int)) /\ w'.cell? ⟨xb + 1, 0, none⟩ = some (.int .i64 S) /\ w'.cell? ⟨xb + 1, 1, none⟩ = some (.int .i64 r) /\ xb < w'.heap.size /\ xb + 1 < w'.heap.size) a7 := HSS.out a7 HT7.out
 go_simp
 refine hK10 _ _ (fun _ => S8) ?_
 clear hK10
 try simp only [Act.put, List.getElem_toArray, List.getElem_cons_succ, List.getElem_cons_zero, List.setIfInBounds_toArray, List.set_cons_zero, List.set_cons_succ]
 refine lec_one (i := 14) rfl (by kernel_rfl) ?_
 intro K14 hK14
 rw [if_pos (by rfl)]
 go_simp
 refine Calls.mono (HCN.out _ HT7.out) ?_
 rintro e a8 ⟨vI, rfl, hI8, b8⟩
 obtain ⟨io, ie, evI, _⟩ := hI8.ints
 have HI8 : Hid _ := hI8
 subst evI
 clear hI8
 have HT8 : Hid _ := HT7.out.next (b8)
 have S8 : (fun w' : World => w'.cell? ⟨xb, 0, none⟩ = some (.slice ca cn cc) /\ w'.cell? ⟨xb, 1, none⟩ = some (.slice fa fn fc) /\ w'.cell? ⟨xb, 2, none⟩ = some (.int .i64 (k : Int)) /\ w'.cell? ⟨xb + 1, 0, none⟩ = some (.int .i64 S) /\ w'.cell? ⟨xb + 1, 1, none⟩ = some (.int .i64 r) /\ xb < w'.heap.size /\ xb + 1 < w'.heap.size) a8 := HSS.out a8 HT8.out
 go_simp
 refine hK14 _ _ (fun _ => S8) ?_
 clear hK14
 try simp only [Act.put, List.getElem_toArray, List.getElem_cons_succ, List.getElem_cons_zero, List.setIfInBounds_toArray, List.set_cons_zero, List.set_cons_succ]
 refine lec_takeP (i := 15) (v := .agg (cs66 co C.length ce fo FS.length fe sb S a6.heap.size r io n ie).toArray) rfl (by kernel_rfl) (by kernel_rfl) (by kernel_rfl) (by kernel_rfl) (fun _ _ _ h => h) (.inl ⟨by rfl, fun w' _ => by kernel_rfl⟩) S8 ?_
 try simp only [Act.put, List.getElem_toArray, List.getElem_cons_succ, List.getElem_cons_zero, List.setIfInBounds_toArray, List.set_cons_zero, List.set_cons_succ]
 refine lec_takeP (i := 16) (v := .agg (cs66 co C.length ce fo FS.length fe sb S a6.heap.size r io n ie ++ tl8).toArray) rfl (by kernel_rfl) (by kernel_rfl) (by kernel_rfl) (by kernel_rfl) (fun _ _ _ h => h) (.inl ⟨by rfl, fun w' _ => by kernel_rfl⟩) S8 ?_
 try simp only [Act.put, List.getElem_toArray, List.getElem_cons_succ, List.getElem_cons_zero, List.setIfInBounds_toArray, List.set_cons_zero, List.set_cons_succ]
 refine lec_one (i := 17) rfl (by kernel_rfl) ?_
 intro K17 hK17
 rw [if_pos (by rfl)]
 go_simp
 have HT9 : Hid _ := HT8.out.next (below_newR a8 (.cells (cs66 co C.length ce fo FS.length fe sb S a6.heap.size r io n ie ++ tl8).toArray 86))
 have S9 : (fun w' : World => w'.cell? ⟨xb, 0, none⟩ = some (.slice ca cn cc) /\ w'.cell? ⟨xb, 1, none⟩ = some (.slice fa fn fc) /\ w'.cell? ⟨xb, 2, none⟩ = some (.int .i64 (k : Int)) /\ w'.cell? ⟨xb + 1, 0, none⟩ = some (.int .i64 S) /\ w'.cell? ⟨xb + 1, 1, none⟩ = some (.int .i64 r) /\ xb < w'.heap.size /\ xb + 1 < w'.heap.size) (a8.alloc (.cells (cs66 co C.length ce fo FS.length fe sb S a6.heap.size r io n ie ++ tl8).toArray 86)) := HSS.out _ HT9.out
 refine hK17 _ _ (fun _ => S9) ?_
 clear S8
 have S8 := S9
 clear S9
 clear hK17
 try simp only [Act.put, List.getElem_toArray, List.getElem_cons_succ, List.getElem_cons_zero, List.setIfInBounds_toArray, List.set_cons_zero, List.set_cons_succ]
 refine lec_one (i := 18) rfl (by kernel_rfl) ?_
 intro K18 hK18
 rw [if_pos (by rfl)]
 go_simp
 go_simp
 refine hK18 _ _ (fun h => by cases h) ?_
 clear hK18
 try simp only [Act.put, List.getElem_toArray, List.getElem_cons_succ, List.getElem_cons_zero, List.setIfInBounds_toArray, List.set_cons_zero, List.set_cons_succ]
 refine lec_done (by kernel_rfl) ?_
 clear S8
 obtain ⟨W9, hW9⟩ : ∃ W9, W9 = a8.alloc (.cells (cs66 co C.length ce fo FS.length fe sb S a6.heap.size r io n ie ++ tl8).toArray 86) := ⟨_, rfl⟩
 rw [<- hW9]
 obtain ⟨y0, y1, y2, v0, v1, m1, m2⟩ := HSS.out W9 (by rw [hW9]; exact HT9.out)
 obtain ⟨gf, gform, glen, gS, gr, gn⟩ := HFF.out
 subst gn
 have b9 : Below a8.heap.size a8 W9 := by rw [hW9]; exact below_newR _ _
 have b79 : Below a7.heap.size a7 W9 := b8.trans (b9.mono b8.size)
 have b69 : Below a6.heap.size a6 W9 := b7.trans (b79.mono b7.size)
 have b59 : Below a5.heap.size a5 W9 := b6.trans (b69.mono b6.size)
 have b49 : Below a4.heap.size a4 W9 := b5.trans (b59.mono b5.size)
 have hC9 := HC4.out.keep b49
 have hF9 := HF5.out.keep b59
 have hI9 := HI8.out.keep b9
 have z4 := b4.size
 have z5 := b5.size
 have z6 := b6.size
 have z7 := HZ7.out
 have z8 := b8.size
 have z9 : W9.heap.size = a8.heap.size + 1 := by rw [hW9]; simp
 have zsb := HSB.out
 have lsb := HSW.out.lt.1
 have lw3 := HT3.out.a.low.size
 have oC : ∀ g, (Value.slice co (C.map riv).length ce).ownBlock = some g -> a3.heap.size <= g /\ g < a4.heap.size := fun g hg => own_block HC4.out.out hg
 have oF : ∀ g, (Value.slice fo (FS.map rfv).length fe).ownBlock = some g -> a4.heap.size <= g /\ g < a5.heap.size := fun g hg => own_block HF5.out.out hg
 have oI : ∀ g, (Value.slice io I.length ie).ownBlock = some g -> a7.heap.size <= g /\ g < a8.heap.size := fun g hg => own_block HI8.out.out hg
 obtain ⟨s, hs⟩ : ∃ s : Rst, s = ⟨a8.heap.size, a6.heap.size + 1 + 1, a6.heap.size, a6.heap.size + 1, sb, a8.heap.size + 1, co, ce, fo, fe, C, FS, S, r, fun g => (Value.slice co (C.map riv).length ce).ownBlock = some g \/ (Value.slice fo (FS.map rfv).length fe).ownBlock = some g \/ (Value.slice io I.length ie).ownBlock = some g, W9⟩ := ⟨_, rfl⟩
 have hst : ∀ g, s.st g -> (a3.heap.size <= g /\ g < a5.heap.size) \/ (a7.heap.size <= g /\ g < a8.heap.size) := fun g hg => by
  rw [hs] at hg
  rcases hg with q | q | q
  ·have := oC g q; omega
  ·have := oF g q; omega
  ·have := oI g q; omega
 have hcf : ∀ g, CF s.hb s.hm s.hn g -> a6.heap.size <= g /\ g < a7.heap.size := fun g hg => by
  rw [hs] at hg
  rcases hg with q | q | q <;> (simp only at q; omega)
 have hbx : W9.heap[a8.heap.size]? = some (.cells (rcs s ⟨io, ie, .slice none 0 0⟩ (Rv.zero I)).toArray 86 (0, 0)) := by
  rw [rcs_zero s io ie I (h := a6.heap.size) (by rw [hs]), hs, hW9]
  exact heap_alloc_new _ _
 have hrm : Rm s ⟨io, ie, .slice none 0 0⟩ W9 (Rv.zero I) := by
  refine ⟨by rw [show s.mb = a8.heap.size by rw [hs]]; exact hbx, rfl, ⟨fun g _ => by rw [show s.w0 = W9 by rw [hs]], fun w' hw' => ?_, fun w' hw' => ?_, fun w' hw' => ?_, ?_, ?_, Row.nil _ _ _ _, by simp [Rv.zero], ?_, fun g hg => ?_, fun hg => ?_, ⟨_, by rw [show s.mb = a8.heap.size by rw [hs]]; exact hbx⟩⟩⟩
  ·rw [hs] at hw'
   have q := hC9.move (w' := w') fun g hg => hw' g (.inl hg)
   obtain ⟨ao, c, e, h⟩ := row_sts q (riv_one C)
   cases e
   rw [hs]
   exact h
  ·rw [hs] at hw'
   have q := hF9.move (w' := w') fun g hg => hw' g (.inr (.inl hg))
   obtain ⟨ao, c, e, h⟩ := row_sts q (rfv_one FS)
   cases e
   rw [hs]
   exact h
  ·rw [hs] at hw'
   have q : OwnI w' a7.heap.size (.slice io I.length ie) I.length I := ⟨hI9.len, own_move hI9.out fun g hg => hw' g (.inr (.inr hg))⟩
   obtain ⟨ao, c, e, h⟩ := q.ints
   cases e
   exact h
  ·rw [hs]
   exact HCH.out.move fun g hg => b79.block g (HCH.out.lt g hg)
  ·rw [hs]
   exact HSW.out.move (b69.block sb lsb)
  ·refine ⟨?_, ?_, fun g hg => ?_, ?_, fun g hg => ?_⟩
   ·rw [show s.hi = a8.heap.size + 1 by rw [hs]]; omega
   ·rw [show s.hi = a8.heap.size + 1 by rw [hs], show s.mb = a8.heap.size by rw [hs]]; omega
   ·have := hcf g hg
    rw [show s.hi = a8.heap.size + 1 by rw [hs]]; omega
   ·rw [show s.hi = a8.heap.size + 1 by rw [hs], show s.sb = sb by rw [hs]]; omega
   ·have := hst g hg
    rw [show s.hi = a8.heap.size + 1 by rw [hs]]; omega
  ·have q := hst g hg
   refine ⟨?_, fun h => ?_, ?_⟩
   ·rw [show s.mb = a8.heap.size by rw [hs]]; omega
   ·have := hcf g h; omega
   ·rw [show s.sb = sb by rw [hs]]; omega
  ·have := hcf _ hg
   rw [show s.sb = sb by rw [hs]] at this
   omega
 have hfoot : ∀ j, footR s ⟨io, ie, .slice none 0 0⟩ j -> w.heap.size <= j := fun j hj => by
  rcases hj with q | q | q | q
  ·rw [show s.mb = a8.heap.size by rw [hs]] at q; omega
  ·have := hcf j q; omega
  ·rw [show s.sb = sb by rw [hs]] at q; omega
  ·simp [Value.ownBlock] at q
 have hstw : ∀ j, s.st j -> w.heap.size <= j := fun j hj => by have := hst j hj; omega
 have b09 : Below w.heap.size w W9 := HT3.out.a.low.trans ((b4.trans (b49.mono b4.size)).mono lw3)
 have hfr := (form_fr gform).fr f (List.mem_of_getElem? gf)
 have HBG : Hid (Calls Tryz.prog 29 #[.pointer (some ⟨s.mb, 0, none⟩), .int .i64 (k : Int), .int .i64 (-1)] W9 fun e w' => e = .returned (.tuple #[]) /\ s.mb < w'.heap.size /\ Calls Tryz.prog 30 #[.pointer (some ⟨s.mb, 0, none⟩)] w' fun e w2 => e = .returned (.tuple #[]) /\ StR s ⟨io, ie, .slice none 0 0⟩ W9 w2 ((Rv.zero I).call S f (-1))) := by
  have gfs : s.FS[k]? = some f := by rw [hs]; exact gf
  have gl : s.FS.length <= 1000000 := by rw [hs]; exact glen
  have gSS : 0 <= s.S /\ s.S <= 1099511627776 := by rw [hs]; exact gS
  have eS : s.S = S := by rw [hs]
  have fin : ∀ R1 w', (∃ d', Rm s d' w' R1 /\ FooR s ⟨io, ie, .slice none 0 0⟩ d' W9 w') -> s.mb < w'.heap.size /\ Calls Tryz.prog 30 #[.pointer (some ⟨s.mb, 0, none⟩)] w' fun e w2 => e = .returned (.tuple #[]) /\ StR s ⟨io, ie, .slice none 0 0⟩ W9 w2 R1 := fun R1 w' ⟨d', q1, q2⟩ => by
   refine ⟨q1.lt, ?_⟩
   cases ho : R1.over with
   | false =>
     refine (letGo_no q1 ho).mono ?_
     rintro e w2 ⟨rfl, rfl⟩
     exact ⟨rfl, d', fun _ => q1, q1.ended, q2⟩
   | true =>
     refine (letGo_yes q1 ho).mono ?_
     rintro e w2 ⟨rfl, o2, f2⟩
     exact ⟨rfl, d', fun q => (by rw [ho] at q; cases q), o2, q2.trans f2⟩
  unfold Rv.call
  by_cases hq : f.fr > S - (Rv.zero I).top
  ·rw [if_pos hq]
   refine (rBegin_no hrm k f gfs (-1) gl gSS (by show (0 : Int) <= 0 /\ (0 : Int) <= s.S; omega) (by rw [eS]; exact hq)).mono ?_
   rintro e w' ⟨rfl, q⟩
   exact ⟨rfl, fin _ _ q⟩
  ·rw [if_neg hq]
   refine (rBegin_yes hrm k f gfs (-1) gl gSS (by show (0 : Int) <= 0 /\ (0 : Int) <= s.S; omega) (by rw [eS]; exact hq) hfr.1 (by unfold Fits; omega) (by show Fits (-1); unfold Fits; omega) (by show (0 : Int) <= 0 /\ (0 : Int) <= _; omega) (by show 0 < 999999999; omega)).mono ?_
   rintro e w' ⟨rfl, q⟩
   exact ⟨rfl, fin _ _ q⟩
 have HEN : Hid ((s.C = C /\ s.FS = FS /\ s.S = S /\ s.room = r) /\ Below w.heap.size w W9 /\ (∀ j, footR s ⟨io, ie, .slice none 0 0⟩ j -> w.heap.size <= j) /\ (∀ j, s.st j -> w.heap.size <= j)) := ⟨by rw [hs]; exact ⟨rfl, rfl, rfl, rfl⟩, b09, hfoot, hstw⟩
 have emb : a8.heap.size = s.mb := by rw [hs]
 rw [emb]
 clear hs hst hcf hbx hrm hfoot hstw b09 hfr oC oF oI hC9 hF9 hI9 b9 b79 b69 b59 b49 gf gform glen gS gr z4 z5 z6 z7 z8 z9 zsb lsb lw3 hW9 emb
 clear HSS HCI HCF HCN HFF HT2 HT3 HT4 HT5 HT6 HT7 HT8 HT9 HC4 HF5 HSW HSB HCH HZ7 HI8 b3 b4 b5 b6 b7 b8
 go_wp2_with fail
 refine Calls.mono HBG.out ?_
 rintro e x1 ⟨rfl, lx, hlg⟩
 have HLG : Hid _ := hlg
 clear hlg HBG
 go_wp2_with fail
 refine Calls.mono HLG.out ?_
 rintro e x2 ⟨rfl, hst2⟩
 have HS2 : Hid _ := hst2
 clear hst2 HLG
 go_wp2_with fail
 go_ret2
 exact ⟨s, _, W9, rfl, HEN.out.1, HEN.out.2.1, HS2.out, HEN.out.2.2.1, HEN.out.2.2.2⟩
theorem regs_of {x : Ri} (h : regsF x = true) : (1 <= x.op /\ x.op <= 38) /\ (0 <= x.a /\ x.a <= 15) /\ (0 <= x.b /\ x.b <= 15) /\ (0 <= x.c /\ x.c <= 15) := by
 unfold regsF at h
 simp only [Bool.and_eq_true, decide_eq_true_eq] at h
 obtain ⟨h0, h1, h2, h3⟩ := h
 have ok : ∀ cnt i r : Int, okR cnt i r = true -> 0 <= r /\ r <= 15 := fun cnt i r q => by
  unfold okR at q
  split at q
  ·simpa using q
  ·have : r = 0 := by simpa using q
   omega
 refine ⟨?_, ok _ _ _ h1, ok _ _ _ h2, ok _ _ _ h3⟩
 unfold rcnt at h0
 split at h0
 ·omega
 split at h0
 ·omega
 split at h0
 ·omega
 split at h0
 ·omega
 ·omega
theorem num_jump {n : Nat} {f : Rf} {x : Ri} (h : numF n f x = true) (ho : x.op = 21 \/ x.op = 22 \/ x.op = 23) : f.fi <= x.n /\ x.n <= f.fi + f.ct - 1 := by
 unfold numF at h
 rw [if_neg (by omega), if_pos ho] at h
 simpa using h
theorem num_word {n : Nat} {f : Rf} {x : Ri} (h : numF n f x = true) (ho : x.op = 24 \/ x.op = 25) : 2 <= x.n /\ x.n <= f.fr - 1 := by
 unfold numF at h
 rw [if_neg (by omega), if_neg (by omega), if_pos ho] at h
 simpa using h
theorem num_call {n : Nat} {f : Rf} {x : Ri} (h : numF n f x = true) (ho : x.op = 26) : 0 <= x.n /\ x.n <= (n : Int) - 1 := by
 unfold numF at h
 rw [if_neg (by omega), if_neg (by omega), if_neg (by omega), if_pos ho] at h
 simpa using h
structure PgR (s : Rst) : Prop where
 form : FoR s.C s.FS
 lenC : s.C.length <= 1000000000
 lenF : s.FS.length <= 1000000
 S : 0 <= s.S /\ s.S <= 1099511627776
 room : 0 <= s.room /\ s.room <= 1099511627776
 nums : ∀ x ∈ s.C, Fits x.n
structure RI (s : Rst) (n : Nat) (R : Rv) : Prop where
 val : ValR s.room R
 at_ : R.over = false -> ∃ A f, AtR s.C s.FS s.S R A f
 cs : R.cs <= 2 * n + 2
 hc : R.hc <= n
 steps : R.steps <= (n : Int)
structure HereR (s : Rst) (R : Rv) (A : List (Nat × Int)) (f : Rf) : Prop where
 at_ : AtR s.C s.FS s.S R A f
 mem : f ∈ s.FS
 base : 0 <= R.base /\ R.base + f.fr <= s.S
 regs : regsF (R.at s.C) = true
 num : numF s.FS.length f (R.at s.C) = true
 lt : 0 <= R.nx /\ R.nx.toNat < s.C.length
 frames : 0 <= R.frames /\ R.frames <= 1099511627778
 on : ¬ lastF (R.at s.C).op = true -> R.nx + 1 < f.fi + f.ct
theorem hereR {s : Rst} (hP : PgR s) {R : Rv} {A : List (Nat × Int)} {f : Rf} (h : AtR s.C s.FS s.S R A f) : HereR s R A f := by
 obtain ⟨k, B, e, hk⟩ := h.hd
 have hm := List.mem_of_getElem? hk
 have hF : ∀ g ∈ s.FS, 2 <= Rf.fr g := fun g hg => (hP.form.fr g hg).1
 have hn := h.act
 rw [e] at hn
 have hb := hn.nonneg hF
 have hc := hP.form.cut f hm
 have hi := hP.form.ins f hm R.nx h.nx.1 h.nx.2
 have hl := h.le
 have ht := h.top
 have hS := hP.S
 have hf := hP.form.fr f hm
 have hfr := h.frames
 rw [e] at hfr
 simp only [List.length_cons] at hfr
 have hnx := h.nx
 refine ⟨h, hm, ⟨hb.1, by omega⟩, hi.1, hi.2, by omega, by omega, fun q => ?_⟩
 rcases Int.lt_or_eq_of_le (show R.nx + 1 <= f.fi + f.ct by omega) with p | p
 ·exact p
 ·exfalso
  apply q
  have hla := hP.form.last f hm
  have e2 : f.fi + f.ct - 1 = R.nx := by omega
  rw [e2] at hla
  exact hla
theorem RI.pre {s : Rst} (hP : PgR s) {R : Rv} {n : Nat} (h : RI s n R) (ho : R.over = false) (hn : n <= 100000000) : StepPre s R := by
 obtain ⟨A, f, ha⟩ := h.at_ ho
 have H := hereR hP ha
 obtain ⟨j, hj⟩ : ∃ j : Nat, R.nx = (j : Int) := ⟨R.nx.toNat, by have := H.lt; omega⟩
 have hjl : j < s.C.length := by have := H.lt; omega
 have ex : R.at s.C = s.C[j] := by
  unfold Rv.at
  rw [hj]
  simp [List.getD, hjl]
 have hr := H.regs
 have hnu := H.num
 rw [ex] at hr hnu
 obtain ⟨r1, r2, r3, r4⟩ := regs_of hr
 have hb := H.base
 have hS := hP.S
 have hC := hP.lenC
 have hfr2 := hP.form.fr f H.mem
 refine ⟨⟨j, hj, hjl, ⟨r1, r2, r3, r4, fun i => ?_, fun q => ?_, fun q => ?_, hP.lenF, hS, hP.room, ?_, ⟨?_, ?_⟩, ?_, ?_, ?_, ?_⟩⟩, hC, h.val.steps, by have := h.steps; omega⟩
 ·have := h.val.reg (i : Int)
  exact this
 ·have w := num_word hnu q
  show Fits (R.base + _)
  unfold Fits
  omega
 ·have w := num_call hnu q
  have hk : s.C[j].n.toNat < s.FS.length := by omega
  exact ⟨s.FS[s.C[j].n.toNat], w.1, by simp [hk], (hP.form.fr _ (List.getElem_mem hk)).1⟩
 ·show 0 <= R.top /\ R.top <= s.S
  have := ha.top
  have := ha.le
  have := (hP.form.fr f H.mem).1
  omega
 ·show Fits R.base
  unfold Fits
  omega
 ·show Fits (R.base + 1)
  unfold Fits
  omega
 ·show 0 <= R.frames /\ R.frames <= _
  have := H.frames
  omega
 ·show Fits (R.nx + 1)
  unfold Fits
  omega
 ·show R.cs < _
  have := h.cs
  omega
 ·show R.hc < _
  have := h.hc
  omega
theorem AtR.go {C FS S R R' A f} (h : AtR C FS S R A f) (e1 : R'.sw = R.sw) (e2 : R'.base = R.base) (e3 : R'.top = R.top) (e4 : R'.frames = R.frames) (hn : f.fi <= R'.nx /\ R'.nx < f.fi + f.ct) : AtR C FS S R' A f :=
 ⟨by rw [e1]; exact h.act, by rw [e2]; exact h.hd, by rw [e2, e3]; exact h.top, by rw [e3]; exact h.le, hn, by rw [e4]; exact h.frames⟩
theorem AtR.sts {C FS S R A f} (hF : ∀ g ∈ FS, 2 <= Rf.fr g) (h : AtR C FS S R A f) {i x : Int} (hi : R.base + 2 <= i) : AtR C FS S { R with sw := upd R.sw i x, cs := R.cs + 1 } A f := by
 obtain ⟨k, B, e, hk⟩ := h.hd
 refine ⟨?_, h.hd, h.top, h.le, h.nx, h.frames⟩
 have := h.act
 rw [e] at this ⊢
 exact this.upd_at hF hi
theorem AtR.push {C FS S R A f} (hF : FoR C FS) (h : AtR C FS S R A f) {m : Nat} {g : Rf} (hg : FS[m]? = some g) {back : Int} (hb : f.fi <= back /\ back < f.fi + f.ct) (hle : ¬ g.fr > S - R.top) : AtR C FS S (R.push g back) ((m, R.top) :: A) g := by
 have hF2 : ∀ g ∈ FS, 2 <= Rf.fr g := fun g hg => (hF.fr g hg).1
 obtain ⟨k, B, e, hk⟩ := h.hd
 have hgm := List.mem_of_getElem? hg
 have hc := hF.cut g hgm
 have hf2 := hF2 f (List.mem_of_getElem? hk)
 have ht := h.top
 refine ⟨?_, ⟨m, A, rfl, hg⟩, rfl, by show R.top + g.fr <= S; omega, by show g.fi <= g.fi /\ g.fi < g.fi + g.ct; omega, ?_⟩
 ·show ActR FS (upd (upd R.sw R.top back) (R.top + 1) R.base) ((m, R.top) :: A)
  have ha := h.act
  rw [e] at ha ⊢
  have u0 : upd (upd R.sw R.top back) (R.top + 1) R.base R.top = back := by
   unfold upd
   rw [if_neg (by omega), if_pos rfl]
  have u1 : upd (upd R.sw R.top back) (R.top + 1) R.base (R.top + 1) = R.base := by
   unfold upd
   rw [if_pos rfl]
  exact ⟨⟨f, hk, ht, by rw [u0]; exact hb.1, by rw [u0]; exact hb.2⟩, u1, (ha.upd_at hF2 (by omega)).upd_at hF2 (by omega)⟩
 ·show R.frames + 1 = (((m, R.top) :: A).length : Nat)
  have := h.frames
  simp only [List.length_cons]
  omega
theorem AtR.pop {C FS S R A f} (hF : FoR C FS) (h : AtR C FS S R A f) (hne : ¬ R.sw (R.base + 1) = -1) : ∃ A' f', AtR C FS S R.back A' f' := by
 have hF2 : ∀ g ∈ FS, 2 <= Rf.fr g := fun g hg => (hF.fr g hg).1
 obtain ⟨k, B, e, hk⟩ := h.hd
 have ha := h.act
 rw [e] at ha
 cases B with
 | nil =>
   obtain ⟨h1, h2, h3⟩ := ha
   rw [h1] at hne
   exact absurd h3 hne
 | cons p B =>
   obtain ⟨j, b⟩ := p
   obtain ⟨⟨g, g1, g2, g3, g4⟩, g5, g6⟩ := ha
   have hfr := h.frames
   rw [e] at hfr
   refine ⟨(j, b) :: B, g, g6, ⟨j, B, by rw [<- g5]; rfl, g1⟩, ?_, ?_, ⟨g3, g4⟩, ?_⟩
   ·show R.base = R.sw (R.base + 1) + g.fr
    rw [g5]; exact g2
   ·show R.base <= S
    have := h.le
    have := h.top
    have := hF2 f (List.mem_of_getElem? hk)
    omega
   ·show R.frames - 1 = _
    rw [hfr]
    simp only [List.length_cons]
    omega
theorem ValR.nx {room R} (h : ValR room R) (x : Int) : ValR room { R with nx := x } := ⟨h.rg, h.fits, h.sw, h.mm, h.inp, h.tk, h.ln, h.steps⟩
theorem ValR.told {room R} (h : ValR room R) (k x : Int) : ValR room (R.panic k x) := ⟨h.rg, h.fits, h.sw, h.mm, h.inp, h.tk, h.ln, h.steps⟩
theorem ValR.stuck {room R} (h : ValR room R) (k : Int) : ValR room (R.stuck k) := ⟨h.rg, h.fits, h.sw, h.mm, h.inp, h.tk, h.ln, h.steps⟩
theorem ValR.tell {room R} (h : ValR room R) (k x : Int) : ValR room (R.tell k x) := by
 unfold Rv.tell
 split <;> exact ⟨h.rg, h.fits, h.sw, h.mm, h.inp, h.tk, h.ln, h.steps⟩
theorem ValR.ite {room A B} {c : Prop} [Decidable c] (hA : ValR room A) (hB : ValR room B) : ValR room (if c then A else B) := by
 split
 ·exact hA
 ·exact hB
theorem ValR.iteF {room A B} {c : Prop} [Decidable c] (hA : c -> ValR room A) (hB : ValR room B) : ValR room (if c then A else B) := by
 split
 ·next h => exact hA h
 ·exact hB
theorem ValR.sts {room R} (h : ValR room R) (i : Int) {x : Int} (hx : Fits x) (c : Nat) : ValR room { R with sw := upd R.sw i x, cs := c } := ⟨h.rg, h.fits, fit_upd h.sw i hx, h.mm, h.inp, h.tk, h.ln, h.steps⟩
theorem ValR.stx {room R} (h : ValR room R) (i : Int) {x : Int} (hx : Fits x) (c : Nat) : ValR room { R with mm := upd R.mm i x, hc := c } := ⟨h.rg, h.fits, h.sw, fit_upd h.mm i hx, h.inp, h.tk, h.ln, h.steps⟩
theorem ValR.push {room R} (h : ValR room R) (f : Rf) {b : Int} (hb : Fits b) (hbs : Fits R.base) : ValR room (R.push f b) := ⟨h.rg, h.fits, fit_upd (fit_upd h.sw _ hb) _ hbs, h.mm, h.inp, h.tk, h.ln, h.steps⟩
theorem ValR.back {room R} (h : ValR room R) : ValR room R.back := ⟨h.rg, h.fits, h.sw, h.mm, h.inp, h.tk, h.ln, h.steps⟩
theorem ValR.take {room R} (h : ValR room R) (a : Int) : ValR room (R.take a) := by
 unfold Rv.take
 split
 ·exact h.told 5 0
 ·next y I e =>
  have hy : Fits y := h.inp y (by rw [e]; simp)
  have q := h.set a hy
  exact ⟨q.rg, q.fits, q.sw, q.mm, fun x hx => h.inp x (by rw [e]; simp [hx]), q.tk, q.ln, q.steps⟩
theorem ValR.alloc {room R} (h : ValR room R) (hr : 0 <= room /\ room <= 1099511627776) (a : Int) {k : Int} (hk : 0 <= k) : ValR room (R.alloc room a k) := by
 unfold Rv.alloc
 split
 ·exact h.told 8 0
 ·next e =>
  have ht := h.tk
  have q := h.set a (x := R.tk + 1) (by unfold Fits; omega)
  refine ⟨q.rg, q.fits, q.sw, q.mm, q.inp, by show 0 <= R.tk + k + 1 /\ (R.tk + k + 1 <= room \/ R.tk + k + 1 = 0); omega, fun b j hj => ?_, q.steps⟩
  show 1 <= b /\ 0 <= j /\ b + j <= R.tk + k + 1
  have hj2 : upd R.ln (R.tk + 1) (some k) b = some j := hj
  unfold upd at hj2
  split at hj2
  ·next eb => cases hj2; omega
  ·have := h.ln b j hj2; omega
theorem ValR.lenF {room R} (h : ValR room R) (hr : 0 <= room /\ room <= 1099511627776) (x : Int) : Fits ((R.ln x).getD 0) := by
 cases e : R.ln x with
 | none => exact fitR_zero
 | some k =>
   have := h.ln x k e
   have := h.tk
   show Fits k
   unfold Fits
   omega
theorem ValR.does {s : Rst} {R : Rv} (h : ValR s.room R) (x : Ri) (p : Pre s R x) (hn : x.op = 1 -> Fits x.n) (hw : R.why x = none) : ValR s.room (R.does s.FS s.S s.room x) := by
 unfold Rv.does
 have hg := fun i => h.reg i
 have k0 : x.op = 28 -> 0 <= R.reg x.b := fun e => by
  unfold Rv.why at hw
  rw [if_neg (by omega), if_neg (by omega), if_neg (by omega), if_pos e] at hw
  split at hw
  ·cases hw
  ·omega
 refine ValR.iteF (fun e => h.set _ (hn e)) (ValR.iteF (fun _ => h.set _ (hg _)) (ValR.iteF (fun _ => h.set _ (fitR_do (hg _) (hg _))) (ValR.iteF (fun _ => h.set _ (fitR_do (hg _) fitR_zero)) (ValR.iteF (fun _ => h.nx _) (ValR.iteF (fun _ => ValR.ite (h.nx _) h) (ValR.iteF (fun _ => ValR.ite h (h.nx _)) (ValR.iteF (fun _ => h.set _ (h.sw _)) (ValR.iteF (fun _ => h.sts _ (hg _) _) (ValR.iteF (fun _ => ?_) (ValR.iteF (fun _ => h.back) (ValR.iteF (fun e => h.alloc p.room _ (k0 e)) (ValR.iteF (fun _ => h.set _ (h.lenF p.room _)) (ValR.iteF (fun _ => h.set _ (h.mm _)) (ValR.iteF (fun _ => h.stx _ (hg _) _) (ValR.iteF (fun _ => ValR.ite (h.told _ _) h) (ValR.iteF (fun _ => ValR.ite (h.told _ _) h) (ValR.iteF (fun _ => ValR.ite (h.told _ _) h) (ValR.iteF (fun _ => h.told _ _) (ValR.iteF (fun _ => h.take _) (ValR.iteF (fun _ => h.tell _ _) (h.tell _ _)))))))))))))))))))))
 split
 ·exact h
 ·unfold Rv.call
  exact ValR.ite (h.told 7 0) (h.push _ p.nx p.base.1)
end Go.Proofs.YtfofmmkihhnfmaaGreatDoor
