import Derived.Test.YtdbkjjelaipcfaaGreatDoorJbo
import Derived.Test.YtdbkjjelaipcfaaGreatDoorJbp
set_option linter.unusedVariables false
set_option linter.unusedSimpArgs false
namespace Go.Proofs.YtdbkjjelaipcfaaGreatDoor
open Go.ChangeShapes Go.WideShapes Go.ChangeAt Go.RowKit Go.Maps
set_option maxRecDepth 100000 in
set_option maxHeartbeats 8000000 in
theorem ssaCheck_any (w : World) (hTab : Tab w) {fa : Option Addr} {fn fc : Nat} {mn : Int} {FS : List Fu} (hF : Fus w fa fc FS) (ef : fn = FS.length) (hb : szS FS <= 1048576) :
 Calls Tryz.prog 3 #[.agg #[.slice fa fn fc, .int .i64 mn]] w fun e w' => e = .returned (.bool true) /\ Below w.heap.size w w' := by
 obtain ⟨W0, hW0⟩ : ∃ W, W = w.alloc (.cells #[.slice fa fn fc, .int .i64 mn] 24) := ⟨_, rfl⟩
 have b0 : Below w.heap.size w W0 := by rw [hW0]; exact below_new _ _
 have ks : W0.heap[w.heap.size]? = some (.cells #[.slice fa fn fc, .int .i64 mn] 24) := by rw [hW0]; exact heap_alloc_new _ _
 have HKS : Hid (∀ w', Below W0.heap.size W0 w' -> w'.cell? ⟨w.heap.size, 0, none⟩ = some (.slice fa fn fc) /\ w'.cell? ⟨w.heap.size, 1, none⟩ = some (.int .i64 mn)) := fun w' hb => by
  have e1 := (hb.block _ (gl ks)).trans ks
  exact ⟨cell_arr e1 rfl, cell_arr e1 rfl⟩
 have HTB : Hid (∀ w', Below w.heap.size w w' -> Tab w') := fun w' hb => hTab.below hb hTab.1
 have HF : Hid (∀ w', Below w.heap.size w w' -> Fus w' fa fc FS) := fun w' hb => hF.below hb (Nat.le_refl _)
 have HEF : Hid (fn = FS.length) := ef
 have HBF : Hid (szS FS <= 1048576) := hb
 have HB0 : Hid (Below w.heap.size w W0) := b0
 obtain ⟨a0, a1⟩ := HKS.out W0 (Below.refl _ _)
 clear hTab hF ef hb b0 ks
 go_enter Tryz.func3, Tryz.ntmps3
 go_wp2_with fail
 rw [<- hW0]
 clear hW0
 refine (alive9_any W0 (HTB.out W0 HB0.out)).mono ?_
 rintro e w1 ⟨rfl, b1⟩
 have HB1 : Hid (Below W0.heap.size W0 w1) := b1
 have HW1 : Hid (Below w.heap.size w w1) := HB0.out.trans (b1.mono HB0.out.size)
 obtain ⟨a0, a1⟩ := HKS.out w1 b1
 clear b1
 go_wp2_with fail
 refine (small_any w1 (HF.out w1 HW1.out) HEF.out HBF.out).mono ?_
 rintro e w2 ⟨⟨R1, rfl, hR1⟩, b2⟩
 have HB2 : Hid (Below W0.heap.size W0 w2) := HB1.out.trans (b2.mono HB1.out.size)
 have HW2 : Hid (Below w.heap.size w w2) := HB0.out.trans (HB2.out.mono HB0.out.size)
 have HR1 : Hid (R1 = true -> FS.length <= 300 /\ ∀ f ∈ FS, f.blks.length <= 2000) := hR1
 obtain ⟨a0, a1⟩ := HKS.out w2 HB2.out
 clear b2 hR1 HB1 HW1
 cases R1 with
 | false =>
   go_wp2_with fail
   go_ret
   exact ⟨rfl, HW2.out⟩
 | true =>
   have h300 : fn <= 300 := by have := (HR1.out rfl).1; have := HEF.out; omega
   obtain ⟨r1, hr1⟩ : ∃ r, r = checkP FS mn := ⟨_, rfl⟩
   have HC1 : Hid (∀ (w' : World) (a : Option Addr) (c : Nat), Below w.heap.size w w' -> Fus w' a c FS -> Calls Tryz.prog 10 #[.agg #[.slice a fn c, .int .i64 mn]] w' fun e w'' => e = .returned (.int .i64 r1) /\ Below w'.heap.size w' w'') := fun w' a c hb hf => check_any w' (HTB.out w' hb) a fn c FS HEF.out hf (by omega) (fewF_of HBF.out (HR1.out rfl).2) mn r1 hr1.symm
   have HD1 : Hid (∀ w' : World, Below w.heap.size w w' -> Calls Tryz.prog 11 #[.agg #[.slice fa fn fc, .int .i64 mn]] w' fun e w'' => e = .returned (.int .i64 r1) /\ Below w'.heap.size w' w'') := fun w' hb => by rw [hr1]; exact ref9_any w' (HF.out w' hb) HEF.out HBF.out (HR1.out rfl).2
   have HL1 : Hid _ := lent_any w2 (mn := mn) (HF.out w2 HW2.out) HEF.out (by omega) (few_of HBF.out)
   clear hr1
   go_wp2_with fail
   refine Calls.mono HL1.out ?_
   rintro e w4 ⟨fb, fc2, rfl, L4, k4, b4⟩
   obtain ⟨lb, hlb⟩ : ∃ lb, lb = w2.heap.size + 1 := ⟨_, rfl⟩
   rw [<- hlb] at k4 ⊢
   rw [<- HEF.out] at k4
   have HL4 : Hid (LM w4 w2.heap.size fb fc2 FS) := L4
   have HK4 : Hid (w4.heap[lb]? = some (.cells #[.slice (some ⟨fb, 0, none⟩) fn fc2, .int .i64 mn] 32 (0, 0))) := k4
   have HB4 : Hid (Below W0.heap.size W0 w4) := HB2.out.trans (b4.mono HB2.out.size)
   have HW4 : Hid (Below w.heap.size w w4) := HB0.out.trans (HB4.out.mono HB0.out.size)
   have l0 : w4.cell? ⟨lb, 0, none⟩ = some (.slice (some ⟨fb, 0, none⟩) fn fc2) := cell_arr k4 rfl
   have l1 : w4.cell? ⟨lb, 1, none⟩ = some (.int .i64 mn) := cell_arr k4 rfl
   have hl4 := (gl k4)
   clear L4 k4 b4 hlb HL1 HB2 HW2
   go_wp2_with fail
   refine (HC1.out w4 _ _ HW4.out HL4.out.fus).mono ?_
   rintro e w5 ⟨rfl, b5⟩
   have HL5 : Hid _ := HL4.out.below b5
   have HK5 : Hid (w5.heap[lb]? = some (.cells #[.slice (some ⟨fb, 0, none⟩) fn fc2, .int .i64 mn] 32 (0, 0))) := (b5.block lb hl4).trans HK4.out
   have HB5 : Hid (Below W0.heap.size W0 w5) := HB4.out.trans (b5.mono HB4.out.size)
   have HW5 : Hid (Below w.heap.size w w5) := HB0.out.trans (HB5.out.mono HB0.out.size)
   have hl5 := (gl HK5.out)
   obtain ⟨a0, a1⟩ := HKS.out w5 HB5.out
   have er1 : (r1 == r1) = true := by simp
   clear b5 HL4 HK4 HB4 HW4 l0 l1
   go_wp2_with fail
   refine (HD1.out w5 HW5.out).mono ?_
   rintro e w6 ⟨rfl, b6⟩
   have HB6 : Hid (Below W0.heap.size W0 w6) := HB5.out.trans (b6.mono HB5.out.size)
   have HW6 : Hid (Below w.heap.size w w6) := HB0.out.trans (HB6.out.mono HB0.out.size)
   have HST : Hid _ := stays_any w6 (mn := mn) (HL5.out.below b6) ((b6.block lb hl5).trans HK5.out) (HF.out w6 HW6.out) HEF.out (by omega) (few_of HBF.out)
   obtain ⟨a0, a1⟩ := HKS.out w6 HB6.out
   clear b6 HL5 HK5 HB5 HW5
   go_wp2_with fail
   refine Calls.mono HST.out ?_
   rintro e w7 ⟨rfl, b7⟩
   have HW7 : Hid (Below w.heap.size w w7) := HW6.out.trans (b7.mono HW6.out.size)
   clear b7
   go_wp2_with fail
   go_ret
   exact ⟨rfl, HW7.out⟩
end Go.Proofs.YtdbkjjelaipcfaaGreatDoor
