import Derived.Test.YtdbkjjelaipcfaaGreatDoorKba
import Derived.Test.YtdbkjjelaipcfaaGreatDoorKbd
set_option linter.unusedVariables false
set_option linter.unusedSimpArgs false
namespace Go.Proofs.YtdbkjjelaipcfaaGreatDoor
open Go.ChangeShapes Go.WideShapes Go.ChangeAt Go.RowKit Go.Maps
theorem mf_all {FS : List Fu} {m : Int} (h : checkP FS m = 0) : ∀ f ∈ FS, MF f := by
 unfold checkP at h
 split at h
 ·cases h
 rename_i hf
 simp only [Bool.not_eq_false, formedP, Bool.and_eq_true, List.all_eq_true] at hf
 have key : ∀ L : List Fu, firstP FS L = 0 -> ∀ f ∈ L, faultP FS f = 0 := by
  intro L
  induction L with
  | nil => intro _ f hf; cases hf
  | cons x L ih =>
    intro h0 f hf
    unfold firstP at h0
    split at h0
    ·rename_i e
     rcases List.mem_cons.1 hf with rfl | hm
     ·exact e
     ·exact ih h0 f hm
    ·rename_i e
     exact absurd h0 e
 intro f hm
 exact mf_of (hf.2.2 f hm) (key FS h f hm)
set_option maxRecDepth 100000 in
set_option maxHeartbeats 8000000 in
theorem ssaMade_any (w : World) (hTab : Tab w) {fa : Option Addr} {fn fc : Nat} {mn : Int} {FS : List Fu} (hF : Fus w fa fc FS) (ef : fn = FS.length) (hb : szS FS <= 1048576) :
 Calls Tryz.prog 6 #[.agg #[.slice fa fn fc, .int .i64 mn]] w fun e w' => e = .returned (.bool true) /\ Below w.heap.size w w' := by
 obtain ⟨W0, hW0⟩ : ∃ W, W = w.alloc (.cells #[.slice fa fn fc, .int .i64 mn] 24) := ⟨_, rfl⟩
 have b0 : Below w.heap.size w W0 := by rw [hW0]; exact below_new _ _
 have ks : W0.heap[w.heap.size]? = some (.cells #[.slice fa fn fc, .int .i64 mn] 24) := by rw [hW0]; exact heap_alloc_new _ _
 have HW0L : Hid (w.heap.size < W0.heap.size) := (gl ks)
 have HKS : Hid (∀ w', Below W0.heap.size W0 w' -> w'.cell? ⟨w.heap.size, 0, none⟩ = some (.slice fa fn fc) /\ w'.cell? ⟨w.heap.size, 1, none⟩ = some (.int .i64 mn)) := fun w' hb => by
  have e1 := (hb.block _ (gl ks)).trans ks
  exact ⟨cell_arr e1 rfl, cell_arr e1 rfl⟩
 have HTB : Hid (∀ w', Below w.heap.size w w' -> Tab w') := fun w' hb => hTab.below hb hTab.1
 have HF : Hid (∀ w', Below w.heap.size w w' -> Fus w' fa fc FS) := fun w' hb => hF.below hb (Nat.le_refl _)
 have hfx : fn <= fc /\ fc <= 9223372036854775807 := by have := hF.le; have := hF.mx; omega
 have HEF : Hid (fn = FS.length) := ef
 have HBF : Hid (szS FS <= 1048576) := hb
 have HB0 : Hid (Below w.heap.size w W0) := b0
 obtain ⟨a0, a1⟩ := HKS.out W0 (Below.refl _ _)
 clear hTab hF ef hb b0 ks
 go_enter Tryz.func6, Tryz.ntmps6
 go_wp2_with fail
 rw [<- hW0]
 clear hW0
 refine (alive9_any W0 (HTB.out W0 HB0.out)).mono ?_
 rintro e w1 ⟨rfl, b1⟩
 have HB1 : Hid (Below W0.heap.size W0 w1) := b1
 have HW1 : Hid (Below w.heap.size w w1) := HB0.out.trans (b1.mono HB0.out.size)
 obtain ⟨a0, a1⟩ := HKS.out w1 b1
 clear b1
 go_wp2_with fail
 refine (small_any w1 (HF.out w1 HW1.out) HEF.out HBF.out).mono ?_
 rintro e w2 ⟨⟨R1, rfl, hR1⟩, b2⟩
 have HB2 : Hid (Below W0.heap.size W0 w2) := HB1.out.trans (b2.mono HB1.out.size)
 have HW2 : Hid (Below w.heap.size w w2) := HB0.out.trans (HB2.out.mono HB0.out.size)
 have HR1 : Hid (R1 = true -> FS.length <= 300 /\ ∀ f ∈ FS, f.blks.length <= 2000) := hR1
 obtain ⟨a0, a1⟩ := HKS.out w2 HB2.out
 clear b2 hR1 HB1 HW1
 cases R1 with
 | false =>
   go_wp2_with fail
   go_ret
   exact ⟨rfl, HW2.out⟩
 | true =>
   have h300 : fn <= 300 := by have := (HR1.out rfl).1; have := HEF.out; omega
   obtain ⟨r1, hr1⟩ : ∃ r, r = checkP FS mn := ⟨_, rfl⟩
   have HC1 : Hid (∀ (w' : World) (a : Option Addr) (c : Nat), Below w.heap.size w w' -> Fus w' a c FS -> Calls Tryz.prog 10 #[.agg #[.slice a fn c, .int .i64 mn]] w' fun e w'' => e = .returned (.int .i64 r1) /\ Below w'.heap.size w' w'') := fun w' a c hb hf => check_any w' (HTB.out w' hb) a fn c FS HEF.out hf (by omega) (fewF_of HBF.out (HR1.out rfl).2) mn r1 hr1.symm
   have HL1 : Hid _ := lent_any w2 (mn := mn) (HF.out w2 HW2.out) HEF.out (by omega) (few_of HBF.out)
   have HMF : Hid (r1 = 0 -> ∀ f ∈ FS, MF f) := fun e => mf_all (by rw [<- hr1]; exact e)
   have HFW : Hid (∀ f ∈ FS, FewF f) := fewF_of HBF.out (HR1.out rfl).2
   clear hr1
   go_wp2_with fail
   refine Calls.mono HL1.out ?_
   rintro e w4 ⟨fb, fc2, rfl, L4, k4, b4⟩
   obtain ⟨lb, hlb⟩ : ∃ lb, lb = w2.heap.size + 1 := ⟨_, rfl⟩
   rw [<- hlb] at k4 ⊢
   rw [<- HEF.out] at k4
   have HL4 : Hid (LM w4 w2.heap.size fb fc2 FS) := L4
   have HB4 : Hid (Below W0.heap.size W0 w4) := HB2.out.trans (b4.mono HB2.out.size)
   have HW4 : Hid (Below w.heap.size w w4) := HB0.out.trans (HB4.out.mono HB0.out.size)
   have l0 : w4.cell? ⟨lb, 0, none⟩ = some (.slice (some ⟨fb, 0, none⟩) fn fc2) := cell_arr k4 rfl
   have l1 : w4.cell? ⟨lb, 1, none⟩ = some (.int .i64 mn) := cell_arr k4 rfl
   have hl4 := (gl k4)
   clear L4 k4 b4 hlb HL1 HB2 HW2
   go_wp2_with fail
   refine (HC1.out w4 _ _ HW4.out HL4.out.fus).mono ?_
   rintro e w5 ⟨rfl, b5⟩
   have HB5 : Hid (Below W0.heap.size W0 w5) := HB4.out.trans (b5.mono HB4.out.size)
   clear b5 HL4 HB4 HW4 l0 l1 hl4 a0 a1
   go_wp2_with fail
   go_loopw [6] (fun v wr => ∃ k : Nat, k <= fn /\ v = .int .i64 k /\ Hid (Below W0.heap.size W0 wr)) (fun v _ => fn - (intOf v).toNat)
   case atStart => exact ⟨0, by omega, rfl, HB5⟩
   case round =>
    clear HB5
    obtain ⟨k, hk, rfl, HB⟩ := hrel
    obtain ⟨wo, rfl⟩ : ∃ wo, wo = wr := ⟨_, rfl⟩
    obtain ⟨a0, a1⟩ := HKS.out wo HB.out
    have HWo : Hid (Below w.heap.size w wo) := HB0.out.trans (HB.out.mono HB0.out.size)
    have hwl : w.heap.size < wo.heap.size := by have := HW0L.out; have := HB.out.size; omega
    by_cases hr : r1 = 0
    ·subst hr
     by_cases hlt : k < fn
     ·have hkf : k < FS.length := by have := HEF.out; omega
      obtain ⟨b', o', ka, kc, la, lc, ma, mc, ea, hlt0, d0, d1, d2, d3, d4, j1, j2, j3⟩ := (HF.out wo HWo.out).at hkf
      rw [ea] at a0
      have hM := HMF.out rfl _ (List.getElem_mem hkf)
      have hW := HFW.out _ (List.getElem_mem hkf)
      obtain ⟨f, hf⟩ : ∃ f, f = FS[k] := ⟨_, rfl⟩
      rw [<- hf] at d0 d1 d2 d3 d4 j1 j2 j3 hM hW
      obtain ⟨pn, hpn⟩ : ∃ n, n = f.params.length := ⟨_, rfl⟩
      obtain ⟨vn, hvn⟩ : ∃ n, n = f.vals.length := ⟨_, rfl⟩
      obtain ⟨bn, hbn⟩ : ∃ n, n = f.blks.length := ⟨_, rfl⟩
      obtain ⟨s, hs⟩ : ∃ n, n = f.name := ⟨_, rfl⟩
      obtain ⟨r, hr⟩ : ∃ n, n = f.result := ⟨_, rfl⟩
      rw [<- hs] at d0
      rw [<- hpn] at d1
      rw [<- hr] at d2
      rw [<- hvn] at d3
      rw [<- hbn] at d4
      obtain ⟨W5, hW5⟩ : ∃ W, W = wo.alloc (.cells #[.string s, .slice ka pn kc, .int .i64 r, .slice la vn lc, .slice ma bn mc] 38) := ⟨_, rfl⟩
      have b5 : Below wo.heap.size wo W5 := by rw [hW5]; exact below_new _ _
      have k5 : W5.heap[wo.heap.size]? = some (.cells #[.string s, .slice ka pn kc, .int .i64 r, .slice la vn lc, .slice ma bn mc] 38 (0, 0)) := by rw [hW5]; exact heap_alloc_new _ _
      have HB5 : Hid (Below W0.heap.size W0 W5) := HB.out.trans (b5.mono HB.out.size)
      have HMD : Hid (bn <= 60 -> vn <= 300 -> Calls Tryz.prog 15 #[.agg #[.string s, .slice ka pn kc, .int .i64 r, .slice la vn lc, .slice ma bn mc]] W5 fun e w' => e = .returned (.bool true) /\ Below W5.heap.size W5 w') := fun h1 h2 => made_any W5 (LF.below ⟨hpn, hvn, hbn, j1, j2, j3⟩ b5) hM h1 h2 hW.tot
      have m3 : vn <= lc /\ lc <= 9223372036854775807 := by have := j2.le; have := j2.mx; omega
      have m4 : bn <= mc /\ mc <= 9223372036854775807 := by have := j3.le; have := j3.mx; omega
      have z0 : W5.cell? ⟨wo.heap.size, 0, none⟩ = some (.string s) := cell_arr k5 rfl
      have z1 : W5.cell? ⟨wo.heap.size, 1, none⟩ = some (.slice ka pn kc) := cell_arr k5 rfl
      have z2 : W5.cell? ⟨wo.heap.size, 2, none⟩ = some (.int .i64 r) := cell_arr k5 rfl
      have z3 : W5.cell? ⟨wo.heap.size, 3, none⟩ = some (.slice la vn lc) := cell_arr k5 rfl
      have z4 : W5.cell? ⟨wo.heap.size, 4, none⟩ = some (.slice ma bn mc) := cell_arr k5 rfl
      obtain ⟨FB, hFB⟩ : ∃ B, B = wo.heap.size := ⟨_, rfl⟩
      rw [<- hFB] at z0 z1 z2 z3 z4
      clear hf hpn hvn hbn hs hr j1 j2 j3 hM hW b5 k5 ea
      go_upto_region 10 with fail
      rw [<- hW5]
      rw [<- hFB]
      clear hW5 hFB d0 d1 d2 d3 d4 a0 a1
      by_cases h60 : bn <= 60
      ·have e60 : decide ((bn : Int) <= 60) = true := by simp; omega
       by_cases h30 : vn <= 300
       ·have e30 : decide ((vn : Int) <= 300) = true := by simp; omega
        have HMM : Hid _ := HMD.out h60 h30
        clear h60 h30
        go_wp2_with fail
        refine Calls.mono HMM.out ?_
        rintro e w6 ⟨rfl, b6⟩
        have HB6 : Hid (Below W0.heap.size W0 w6) := HB5.out.trans (b6.mono HB5.out.size)
        clear b6 z0 z1 z2 z3 z4
        go_wp2_with fail
        go_roundw
        case rel => exact ⟨k + 1, by omega, by go_num, HB6.out⟩
        case measure => simp [intOf]; omega
       ·have e30 : decide ((vn : Int) <= 300) = false := by simp; omega
        clear h60 h30
        go_wp2_with fail
        go_roundw
        case rel => exact ⟨k + 1, by omega, by go_num, HB5.out⟩
        case measure => simp [intOf]; omega
      ·have e60 : decide ((bn : Int) <= 60) = false := by simp; omega
       clear h60
       go_wp2_with fail
       go_roundw
       case rel => exact ⟨k + 1, by omega, by go_num, HB5.out⟩
       case measure => simp [intOf]; omega
     ·go_wp2_with fail
      go_ret
      exact ⟨rfl, HWo.out⟩
    ·have hr0 : (r1 == 0) = false := by simp [hr]
     go_wp2_with fail
     go_ret
     exact ⟨rfl, HWo.out⟩
end Go.Proofs.YtdbkjjelaipcfaaGreatDoor
