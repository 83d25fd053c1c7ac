import Derived.Test.YtfbkopjncmkbiabGreatDoorKbj
set_option linter.unusedVariables false
set_option linter.unusedSimpArgs false
namespace Go.Proofs.YtfbkopjncmkbiabGreatDoor
open Go.ChangeShapes Go.WideShapes Go.ChangeAt Go.RowKit Go.Maps
def Ms.fresh (I : List Int) : Ms := ⟨I, ⟨0, 0, 0, 0⟩, [], [], [], [], 0, 0, 0, 0, 0, 0, false, ⟨0, fun _ => none, fun _ => 0, 0⟩⟩
structure NewM (FS : List Fu) (w w' : World) (e : Ending) (M : Ms) : Prop where
 out : ∃ s d, e = .returned (.tuple #[.pointer (some ⟨s.mb, 0, none⟩), .int .i64 0]) /\ Mach FS s d w' M /\ Below w.heap.size w w' /\ w.heap.size <= s.lo /\ ∀ k, foot s d k -> w.heap.size <= k
theorem new_rest {wB wC wD wE wF : World} {L c' fn c4 il : Nat} {a4 : Option Addr} {FS : List Fu} {I : List Int} (hfn : fn = FS.length) (hC : Below wB.heap.size wB wC) (hFus : ∀ W, (∀ b, wB.heap.size <= b -> b < wC.heap.size -> W.heap[b]? = wC.heap[b]?) -> Fus W (some ⟨L, 0, none⟩) c' FS)
 (hO : OwnI wD wC.heap.size (.slice a4 il c4) il I) (hD : Below wC.heap.size wC wD) (hH : CH wE (wD.heap.size + 1 + 1) wD.heap.size (wD.heap.size + 1) 0 (fun _ => none) (fun _ => 0) 0) (hE : Below wD.heap.size wD wE) (hEs : wE.heap.size = wD.heap.size + 1 + 1 + 1) {A : Array Value} (hF : wF = wE.alloc (.cells A 71)) :
 MRest FS ⟨wE.heap.size, L, 0, fn, c', wD.heap.size + 1 + 1, wD.heap.size, wD.heap.size + 1, wB.heap.size, wD.heap.size, wF⟩ ⟨a4, c4, .slice none 0 0, .slice none 0 0, .slice none 0 0, .slice none 0 0⟩ wF I [] [] [] [] ⟨0, fun _ => none, fun _ => 0, 0⟩ := by
 have bF : Below wE.heap.size wE wF := by rw [hF]; exact below_new wE _
 have s1 := hC.size
 have s2 := hD.size
 have s3 := hE.size
 have s4 := bF.size
 have up : ∀ k, k < wC.heap.size -> wF.heap[k]? = wC.heap[k]? := fun k hk => ((bF.block k (by omega)).trans (hE.block k (by omega))).trans (hD.block k hk)
 refine ⟨fun _ _ _ => rfl, fun w' hw' => hFus w' fun b h1 h2 => (hw' b h1 (by show b < wD.heap.size; omega)).trans (up b h2), hfn, fun w' hw' => ?_, hH.move fun g hg => bF.block g (hH.lt g hg), OwnI.nil _ _, OwnI.nil _ _, fun b h => by simp [Value.ownBlock] at h, Row.nil _ _ _ _, Row.nil _ _ _ _, by simp, ⟨by show wB.heap.size <= wD.heap.size; omega, by show wD.heap.size <= wF.heap.size; omega⟩, fun k hk => ?_, ⟨A, by rw [hF]; exact heap_alloc_new _ _⟩⟩
 ·have hO2 : OwnI w' wC.heap.size (.slice a4 il c4) il I := ⟨hO.len, own_move hO.out fun g hg => by
   have q := own_block hO.out hg
   rw [hw' g (by show wB.heap.size <= g; omega) q.2, bF.block g (by omega), hE.block g q.2]⟩
  obtain ⟨a, c, e, hI⟩ := hO2.ints
  cases e
  exact hI
 ·right
  show wD.heap.size <= k
  rcases hk with q | q | q | q
  ·have : k = wE.heap.size := q; omega
  ·have : k = wD.heap.size + 1 + 1 := q; omega
  ·have : k = wD.heap.size := q; omega
  ·have : k = wD.heap.size + 1 := q; omega
set_option maxRecDepth 100000 in
set_option maxHeartbeats 4000000 in
theorem mNew_yes (w : World) (hTab : Tab w) {fa : Option Addr} {fn fc n : Nat} {FS : List Fu} (hfn : fn = FS.length) (hF : Fus w fa fc FS) (hlen : fn <= 1000000) (hfew : ∀ f ∈ FS, FewF f) (hC : ∀ f ∈ FS, FewC f) (hF10 : Few10 FS) (hck : checkP FS (n : Int) = 0) (f : Fu) (hnf : FS[n]? = some f) {ia : Option Addr} {il ic : Nat} {I : List Int} (hI : Ints w ia ic I) (hil : il = I.length) (hin : il <= 1048576) (M0 : Ms) (hM0 : (Ms.fresh I).begin FS n [] = some M0) :
 Calls Tryz.prog 5 #[.agg #[.slice fa fn fc, .int .i64 (n : Int)], .slice ia il ic] w fun e w' => NewM FS w w' e M0 := by
 obtain ⟨w1, hw1⟩ : ∃ w1, w1 = w.alloc (.cells #[.slice fa fn fc, .int .i64 (n : Int)] 40) := ⟨_, rfl⟩
 have b1 : Below w.heap.size w w1 := by rw [hw1]; exact below_new w _
 have hbx : w1.heap[w.heap.size]? = some (.cells #[.slice fa fn fc, .int .i64 (n : Int)] 40 (0, 0)) := by rw [hw1]; exact heap_alloc_new _ _
 have hne : FS ≠ [] := by intro e; rw [e] at hnf; simp at hnf
 have hgl := (gl hbx)
 obtain ⟨g, hg⟩ : ∃ g, g = w.heap.size := ⟨_, rfl⟩
 have HCK : Hid (Calls Tryz.prog 11 #[.agg #[.slice fa fn fc, .int .i64 (n : Int)]] w1 fun e w' => e = .returned (.int .i64 0) /\ Below w1.heap.size w1 w') := check_any w1 (hTab.below b1 hTab.1) fa fn fc FS hfn (hF.below b1 (Nat.le_refl _)) hlen hfew (n : Int) 0 hck
 have HS : Hid (∀ W, Below w1.heap.size w1 W -> W.cell? ⟨g, 0, none⟩ = some (.slice fa fn fc) /\ W.cell? ⟨g, 1, none⟩ = some (.int .i64 (n : Int)) /\ g < W.heap.size) := fun W hW => by
  rw [hg]
  have q := (hW.block _ hgl).trans hbx
  exact ⟨cell_arr q rfl, cell_arr q rfl, by have := hW.size; omega⟩
 have HOP : Hid (∀ W, Below w1.heap.size w1 W -> Calls Tryz.prog 12 #[] W fun e w' => e = .returned (.agg #[.nilFunc, .func (.func 23) #[] #[], .func (.func 37) #[] #[], .func (.func 37) #[] #[], .func (.func 37) #[] #[], .func (.func 24) #[] #[], .func (.func 24) #[] #[], .func (.func 37) #[] #[], .func (.func 37) #[] #[], .func (.func 37) #[] #[], .func (.func 37) #[] #[], .func (.func 25) #[] #[], .func (.func 25) #[] #[], .func (.func 37) #[] #[], .func (.func 37) #[] #[], .func (.func 37) #[] #[], .func (.func 37) #[] #[], .func (.func 37) #[] #[], .func (.func 37) #[] #[], .func (.func 37) #[] #[], .func (.func 26) #[] #[], .func (.func 27) #[] #[], .func (.func 28) #[] #[], .func (.func 29) #[] #[], .func (.func 30) #[] #[], .func (.func 31) #[] #[], .func (.func 32) #[] #[], .func (.func 33) #[] #[], .func (.func 34) #[] #[], .func (.func 35) #[] #[], .func (.func 36) #[] #[]]) /\ Below W.heap.size W w' /\ Below w1.heap.size w1 w') := fun W hW => (operationsM_any W).mono fun e w' q => ⟨q.1, q.2, hW.trans (q.2.mono hW.size)⟩
 have HCP : Hid (∀ W, Below w1.heap.size w1 W -> Calls Tryz.prog 13 #[.slice fa fn fc] W fun e w' => ∃ L c', e = .returned (.slice (some ⟨L, 0, none⟩) fn c') /\ Below W.heap.size W w' /\ Below w1.heap.size w1 w' /\ ∀ V, (∀ b, W.heap.size <= b -> b < w'.heap.size -> V.heap[b]? = w'.heap[b]?) -> Fus V (some ⟨L, 0, none⟩) c' FS) := fun W hW => (copied_any W ((hF.below b1 (Nat.le_refl _)).below hW (Nat.le_refl _)) hfn hne (by omega) hC).mono fun e w' ⟨L, c', q1, q2, _, q3⟩ => ⟨L, c', q1, q2, hW.trans (q2.mono hW.size), q3⟩
 have HCI : Hid (∀ W, Below w1.heap.size w1 W -> Calls Tryz.prog 14 #[.slice ia il ic] W fun e w' => ∃ v, e = .returned v /\ OwnI w' W.heap.size v il I /\ Below W.heap.size W w' /\ Below w1.heap.size w1 w') := fun W hW => (cloneI_any W ((hI.below b1 (Nat.le_refl _)).below hW (Nat.le_refl _)) hil (by omega)).mono fun e w' ⟨v, q1, q2, q3⟩ => ⟨v, q1, q2, q3, hW.trans (q3.mono hW.size)⟩
 have HHN : Hid (∀ W, Below w1.heap.size w1 W -> Calls Tryz.prog 15 #[] W fun e w' => e = .returned (.pointer (some ⟨W.heap.size + 1 + 1, 0, none⟩)) /\ CH w' (W.heap.size + 1 + 1) W.heap.size (W.heap.size + 1) 0 (fun _ => none) (fun _ => 0) 0 /\ Below W.heap.size W w' /\ w'.heap.size = W.heap.size + 1 + 1 + 1 /\ Below w1.heap.size w1 w') := fun W hW => (new_any W).mono fun e w' ⟨q1, q2, q3, q4⟩ => ⟨q1, q2, q3, q4, hW.trans (q3.mono hW.size)⟩
 have HBG : Hid (∀ wB wC wD wE wF L c' a4 c4, Below w1.heap.size w1 wB -> Below wB.heap.size wB wC -> (∀ V, (∀ b, wB.heap.size <= b -> b < wC.heap.size -> V.heap[b]? = wC.heap[b]?) -> Fus V (some ⟨L, 0, none⟩) c' FS) -> OwnI wD wC.heap.size (.slice a4 il c4) il I -> Below wC.heap.size wC wD -> CH wE (wD.heap.size + 1 + 1) wD.heap.size (wD.heap.size + 1) 0 (fun _ => none) (fun _ => 0) 0 -> Below wD.heap.size wD wE -> wE.heap.size = wD.heap.size + 1 + 1 + 1 -> wF = wE.alloc (.cells #[.nilFunc, .func (.func 23) #[] #[], .func (.func 37) #[] #[], .func (.func 37) #[] #[], .func (.func 37) #[] #[], .func (.func 24) #[] #[], .func (.func 24) #[] #[], .func (.func 37) #[] #[], .func (.func 37) #[] #[], .func (.func 37) #[] #[], .func (.func 37) #[] #[], .func (.func 25) #[] #[], .func (.func 25) #[] #[], .func (.func 37) #[] #[], .func (.func 37) #[] #[], .func (.func 37) #[] #[], .func (.func 37) #[] #[], .func (.func 37) #[] #[], .func (.func 37) #[] #[], .func (.func 37) #[] #[], .func (.func 26) #[] #[], .func (.func 27) #[] #[], .func (.func 28) #[] #[], .func (.func 29) #[] #[], .func (.func 30) #[] #[], .func (.func 31) #[] #[], .func (.func 32) #[] #[], .func (.func 33) #[] #[], .func (.func 34) #[] #[], .func (.func 35) #[] #[], .func (.func 36) #[] #[], .slice (some ⟨L, 0, none⟩) fn c', .slice a4 il c4, .pointer (some ⟨wD.heap.size + 1 + 1, 0, none⟩), .pointer none, .int .i64 0, .int .i64 0, .int .i64 0, .slice none 0 0, .slice none 0 0, .slice none 0 0, .slice none 0 0, .int .i64 0, .int .i64 0, .int .i64 0, .int .i64 0, .int .i64 0, .int .i64 0, .bool false] 71) ->
  Below w1.heap.size w1 wF /\ Hid (Calls Tryz.prog 16 #[.pointer (some ⟨wE.heap.size, 0, none⟩), .int .i64 (n : Int), .slice none 0 0] wF fun e w' => e = .returned (.tuple #[]) /\ NewM FS w w' (.returned (.tuple #[.pointer (some ⟨wE.heap.size, 0, none⟩), .int .i64 0])) M0)) := by
  intro wB wC wD wE wF L c' a4 c4 hB hCc hFus hO hD hH hE hEs hwF
  have R := new_rest hfn hCc hFus hO hD hH hE hEs hwF
  have bF : Below wE.heap.size wE wF := by rw [hwF]; exact below_new wE _
  have s0 := b1.size
  have s1 := hB.size
  have s2 := hCc.size
  have s3 := hD.size
  have s4 := hE.size
  have b1F : Below w1.heap.size w1 wF := (((hB.trans (hCc.mono s1)).trans (hD.mono (by omega))).trans (hE.mono (by omega))).trans (bF.mono (by omega))
  refine ⟨b1F, ?_⟩
  have key := mBegin_gen (M := Ms.fresh I) (y34 := .pointer none) (y35 := .int .i64 0) (y36 := .int .i64 0) (y37 := .int .i64 0) (s := ⟨wE.heap.size, L, 0, fn, c', wD.heap.size + 1 + 1, wD.heap.size, wD.heap.size + 1, wB.heap.size, wD.heap.size, wF⟩) (d := ⟨a4, c4, .slice none 0 0, .slice none 0 0, .slice none 0 0, .slice none 0 0⟩) (w := wF) (by
   rw [hwF]
   have e := hO.len
   subst e
   exact heap_alloc_new _ _) R n f hnf [] none 0 0 rfl (fun w' _ => ⟨Nat.le_refl _, by decide, fun h => absurd rfl h⟩) M0 hM0 (hF10.prm f (List.mem_of_getElem? hnf)) (by simp [Ms.fresh]) (by simp [Ms.fresh])
  refine key.mono ?_
  rintro e w' ⟨rfl, d', q1, q2⟩
  have hft : ∀ k, foot ⟨wE.heap.size, L, 0, fn, c', wD.heap.size + 1 + 1, wD.heap.size, wD.heap.size + 1, wB.heap.size, wD.heap.size, wF⟩ ⟨a4, c4, .slice none 0 0, .slice none 0 0, .slice none 0 0, .slice none 0 0⟩ k -> w.heap.size <= k := fun k hk => by
   rcases hk with q | (q | q | q) | q | q | q | q
   ·have : k = wE.heap.size := q; omega
   ·have : k = wD.heap.size + 1 + 1 := q; omega
   ·have : k = wD.heap.size := q; omega
   ·have : k = wD.heap.size + 1 := q; omega
   all_goals simp [Value.ownBlock] at q
  refine ⟨rfl, _, d', rfl, q1, ?_, by show w.heap.size <= wB.heap.size; omega, fun k hk => ?_⟩
  ·exact (b1.trans (b1F.mono s0)).trans (q2.only.below (by have := b1F.size; omega) hft)
  ·rcases q2.new k hk with q | q
   ·exact hft k q
   ·have := b1F.size; omega
 have hinI : decide ((1048576 : Int) < (il : Int)) = false := by simp; omega
 have hinI2 : (il : Int) <= 1048576 := by omega
 have hilm : il <= ic /\ ic <= 9223372036854775807 := by have := hI.le; have := hI.mx; omega
 have hfnm : fn <= fc /\ fc <= 9223372036854775807 := by have := hF.le; have := hF.mx; omega
 clear hTab hfn hF hlen hfew hC hF10 hck hnf hI hil hin hM0 b1 hbx hne hgl
 go_enter Tryz.func5, Tryz.ntmps5
 go_upto_region 1 with fail
 rw [<- hw1, <- hg]
 clear hw1 hg
 have B0 : Below w1.heap.size w1 w1 := Below.refl _ _
 obtain ⟨x0, x1, x2⟩ := HS.out w1 B0
 go_upto_region 6 with (go_at_call 11; refine Calls.mono HCK.out ?_; rintro e wA ⟨rfl, bA⟩)
 clear x0 x1 x2 B0 HCK
 have bA2 : Below w1.heap.size w1 wA.drew := bA.drew
 obtain ⟨p0, p1, p2⟩ := HS.out wA.drew bA2
 go_region_held (fun W => W.cell? ⟨g, 0, none⟩ = some (.slice fa fn fc) /\ W.cell? ⟨g, 1, none⟩ = some (.int .i64 (n : Int)) /\ g < W.heap.size)
  (first | exact ⟨p0, p1, p2⟩ | exact S2 | exact S3 | exact S4 | exact S5 | exact HS.out _ (Below.alloc bE bE.size _))
  (first
   | (go_at_call 15; refine (HHN.out _ bD).mono ?_; rintro e wE ⟨rfl, hCH, hE1, hE2, bE⟩; have S5 := HS.out _ bE)
   | (go_at_call 14; refine (HCI.out _ bC).mono ?_; rintro e wD ⟨vD, rfl, hOD, hD1, bD⟩; have S4 := HS.out _ bD; obtain ⟨a4, c4, e9, _, _⟩ := own_slice hOD.out; subst e9)
   | (go_at_call 13; refine (HCP.out _ bB).mono ?_; rintro e wC ⟨L, c', rfl, hC1, bC, hFC⟩; have S3 := HS.out _ bC)
   | (go_at_call 12; refine (HOP.out _ bA2).mono ?_; rintro e wB ⟨rfl, hB1, bB⟩; have S2 := HS.out _ bB))
 all_goals
  obtain ⟨wF, hwF⟩ : ∃ wF, wF = wE.alloc (.cells #[.nilFunc, .func (.func 23) #[] #[], .func (.func 37) #[] #[], .func (.func 37) #[] #[], .func (.func 37) #[] #[], .func (.func 24) #[] #[], .func (.func 24) #[] #[], .func (.func 37) #[] #[], .func (.func 37) #[] #[], .func (.func 37) #[] #[], .func (.func 37) #[] #[], .func (.func 25) #[] #[], .func (.func 25) #[] #[], .func (.func 37) #[] #[], .func (.func 37) #[] #[], .func (.func 37) #[] #[], .func (.func 37) #[] #[], .func (.func 37) #[] #[], .func (.func 37) #[] #[], .func (.func 37) #[] #[], .func (.func 26) #[] #[], .func (.func 27) #[] #[], .func (.func 28) #[] #[], .func (.func 29) #[] #[], .func (.func 30) #[] #[], .func (.func 31) #[] #[], .func (.func 32) #[] #[], .func (.func 33) #[] #[], .func (.func 34) #[] #[], .func (.func 35) #[] #[], .func (.func 36) #[] #[], .slice (some ⟨L, 0, none⟩) fn c', .slice a4 il c4, .pointer (some ⟨wD.heap.size + 1 + 1, 0, none⟩), .pointer none, .int .i64 0, .int .i64 0, .int .i64 0, .slice none 0 0, .slice none 0 0, .slice none 0 0, .slice none 0 0, .int .i64 0, .int .i64 0, .int .i64 0, .int .i64 0, .int .i64 0, .int .i64 0, .bool false] 71) := ⟨_, rfl⟩
  obtain ⟨bF, HBE⟩ := HBG.out wB wC wD wE wF L c' a4 c4 bB hC1 hFC hOD hD1 hCH hE1 hE2 hwF
  rw [<- hwF]
  obtain ⟨u0, u1, u2⟩ := HS.out wF bF
  rw [hE2] at HBE
  clear hwF HBG HS HOP HCP HCI HHN hFC hOD hCH S2 S3 S4 S5 hE2
  go_wp2_with (go_at_call 16; refine Calls.mono HBE.out ?_; rintro e wG ⟨rfl, hG⟩; have HG : Hid _ := hG; clear hG)
  go_ret2
  exact HG.out
set_option maxRecDepth 100000 in
set_option maxHeartbeats 4000000 in
theorem mNew_bad (w : World) (hTab : Tab w) {fa : Option Addr} {fn fc : Nat} {n : Int} {FS : List Fu} (hfn : fn = FS.length) (hF : Fus w fa fc FS) (hlen : fn <= 1000000) (hfew : ∀ f ∈ FS, FewF f) {R : Int} (hck : checkP FS n = R) (hR : R ≠ 0) (v : Value) :
 Calls Tryz.prog 5 #[.agg #[.slice fa fn fc, .int .i64 n], v] w fun e w' => e = .returned (.tuple #[.pointer none, .int .i64 R]) /\ Below w.heap.size w w' := by
 obtain ⟨w1, hw1⟩ : ∃ w1, w1 = w.alloc (.cells #[.slice fa fn fc, .int .i64 n] 40) := ⟨_, rfl⟩
 have b1 : Below w.heap.size w w1 := by rw [hw1]; exact below_new w _
 have hbx : w1.heap[w.heap.size]? = some (.cells #[.slice fa fn fc, .int .i64 n] 40 (0, 0)) := by rw [hw1]; exact heap_alloc_new _ _
 have hgl := (gl hbx)
 obtain ⟨g, hg⟩ : ∃ g, g = w.heap.size := ⟨_, rfl⟩
 have HCK : Hid (Calls Tryz.prog 11 #[.agg #[.slice fa fn fc, .int .i64 n]] w1 fun e w' => e = .returned (.int .i64 R) /\ Below w1.heap.size w1 w') := check_any w1 (hTab.below b1 hTab.1) fa fn fc FS hfn (hF.below b1 (Nat.le_refl _)) hlen hfew n R hck
 have HS : Hid (∀ W, Below w1.heap.size w1 W -> W.cell? ⟨g, 0, none⟩ = some (.slice fa fn fc) /\ W.cell? ⟨g, 1, none⟩ = some (.int .i64 n) /\ g < W.heap.size) := fun W hW => by
  rw [hg]
  have q := (hW.block _ hgl).trans hbx
  exact ⟨cell_arr q rfl, cell_arr q rfl, by have := hW.size; omega⟩
 have HB : Hid (∀ W, Below w1.heap.size w1 W -> Below w.heap.size w W) := fun W hW => b1.trans (hW.mono b1.size)
 have hRb : (R == 0) = false := by simpa using hR
 clear hTab hfn hF hlen hfew hck b1 hbx hgl hR
 go_enter Tryz.func5, Tryz.ntmps5
 go_upto_region 1 with fail
 rw [<- hw1, <- hg]
 clear hw1 hg
 have B0 : Below w1.heap.size w1 w1 := Below.refl _ _
 obtain ⟨x0, x1, x2⟩ := HS.out w1 B0
 go_wp2_with (go_at_call 11; refine Calls.mono HCK.out ?_; rintro e wA ⟨rfl, bA⟩)
 all_goals try go_ret2
 all_goals exact ⟨rfl, HB.out _ (by first | exact bA | exact bA.drew)⟩
set_option maxRecDepth 100000 in
set_option maxHeartbeats 4000000 in
theorem mNew_long (w : World) (hTab : Tab w) {fa : Option Addr} {fn fc : Nat} {n : Int} {FS : List Fu} (hfn : fn = FS.length) (hF : Fus w fa fc FS) (hlen : fn <= 1000000) (hfew : ∀ f ∈ FS, FewF f) (hck : checkP FS n = 0) {ia : Option Addr} {il ic : Nat} (hin : 1048576 < il) (hmx : il <= 9223372036854775807) :
 Calls Tryz.prog 5 #[.agg #[.slice fa fn fc, .int .i64 n], .slice ia il ic] w fun e w' => e = .returned (.tuple #[.pointer none, .int .i64 4]) /\ Below w.heap.size w w' := by
 obtain ⟨w1, hw1⟩ : ∃ w1, w1 = w.alloc (.cells #[.slice fa fn fc, .int .i64 n] 40) := ⟨_, rfl⟩
 have b1 : Below w.heap.size w w1 := by rw [hw1]; exact below_new w _
 have hbx : w1.heap[w.heap.size]? = some (.cells #[.slice fa fn fc, .int .i64 n] 40 (0, 0)) := by rw [hw1]; exact heap_alloc_new _ _
 have hgl := (gl hbx)
 obtain ⟨g, hg⟩ : ∃ g, g = w.heap.size := ⟨_, rfl⟩
 have HCK : Hid (Calls Tryz.prog 11 #[.agg #[.slice fa fn fc, .int .i64 n]] w1 fun e w' => e = .returned (.int .i64 0) /\ Below w1.heap.size w1 w') := check_any w1 (hTab.below b1 hTab.1) fa fn fc FS hfn (hF.below b1 (Nat.le_refl _)) hlen hfew n 0 hck
 have HS : Hid (∀ W, Below w1.heap.size w1 W -> W.cell? ⟨g, 0, none⟩ = some (.slice fa fn fc) /\ W.cell? ⟨g, 1, none⟩ = some (.int .i64 n) /\ g < W.heap.size) := fun W hW => by
  rw [hg]
  have q := (hW.block _ hgl).trans hbx
  exact ⟨cell_arr q rfl, cell_arr q rfl, by have := hW.size; omega⟩
 have HB : Hid (∀ W, Below w1.heap.size w1 W -> Below w.heap.size w W) := fun W hW => b1.trans (hW.mono b1.size)
 have hinI : decide ((1048576 : Int) < (il : Int)) = true := by simp; omega
 have hinI2 : (1048576 : Int) < (il : Int) := by omega
 clear hTab hfn hF hlen hfew hck b1 hbx hgl hin
 go_enter Tryz.func5, Tryz.ntmps5
 go_upto_region 1 with fail
 rw [<- hw1, <- hg]
 clear hw1 hg
 have B0 : Below w1.heap.size w1 w1 := Below.refl _ _
 obtain ⟨x0, x1, x2⟩ := HS.out w1 B0
 go_wp2_with (go_at_call 11; refine Calls.mono HCK.out ?_; rintro e wA ⟨rfl, bA⟩)
 all_goals try go_ret2
 all_goals exact ⟨rfl, HB.out _ (by first | exact bA | exact bA.drew | exact bA.drew.drew)⟩
inductive StepsTo (FS : List Fu) (M : Ms) : Bool -> Ms -> Prop where
 | over : M.over = true -> StepsTo FS M false M
 | made (M1 : Ms) : M.over = false -> M.adv FS = some M1 -> Roomy M.on -> (∀ f b, FS[M.here.fi]? = some f -> f.blks[M.here.bk]? = some b -> b.kind = 3 -> M.wait = [] \/ 0 <= b.val) -> (0 <= M1.steps /\ M1.steps <= 4611686018427387904) -> M1.rests = false -> StepsTo FS M true { M1 with steps := M1.steps + 1 }
 | rest (M1 : Ms) : M.over = false -> M.adv FS = some M1 -> Roomy M.on -> (∀ f b, FS[M.here.fi]? = some f -> f.blks[M.here.bk]? = some b -> b.kind = 3 -> M.wait = [] \/ 0 <= b.val) -> (0 <= M1.steps /\ M1.steps <= 4611686018427387904) -> M1.rests = true -> StepsTo FS M false M1
theorem Mach.stp {FS s d w M} (h : Mach FS s d w M) : Stp FS s d w w M := ⟨d, fun _ => h, h.ended, Foo.refl _ _ _⟩
theorem Stp.step {FS s d w W M T M'} (hF : Few10 FS) (h : Stp FS s d w W M) (hs : StepsTo FS M T M') :
 Calls Tryz.prog 7 #[.pointer (some ⟨s.mb, 0, none⟩)] W fun e w' => e = .returned (.bool T) /\ Stp FS s d w w' M' := by
 obtain ⟨d1, h1, h2, h3⟩ := h.out
 cases hs with
 | over ho =>
   refine (mStep_no h2 ho).mono ?_
   rintro e w' ⟨rfl, rfl⟩
   exact ⟨rfl, h⟩
 | made M1 ho hM hR hk hb hr =>
   refine (mStep_any (h1 ho) ho M1 hM hF hR hk hb).mono ?_
   rintro e w' ⟨q, _⟩
   obtain ⟨q1, q2⟩ := q hr
   obtain ⟨d2, k1, k2, k3⟩ := q2.out
   exact ⟨q1, d2, k1, k2, h3.trans k3⟩
 | rest _ ho hM hR hk hb hr =>
   refine (mStep_any (h1 ho) ho M' hM hF hR hk hb).mono ?_
   rintro e w' ⟨_, q⟩
   obtain ⟨q1, q2⟩ := q hr
   obtain ⟨d2, k1, k2, k3⟩ := q2.out
   exact ⟨q1, d2, k1, k2, h3.trans k3⟩
theorem Over10.below {s d w w' M} (h : Over10 s d w M) (hb : Below w.heap.size w w') : Over10 s d w' M := by
 obtain ⟨A, hA⟩ := h.box
 have hA2 := (hb.block _ (gl hA)).trans hA
 have ce : ∀ i, w'.cell? ⟨s.mb, i, none⟩ = w.cell? ⟨s.mb, i, none⟩ := fun i => by simp [World.cell?, hA, hA2]
 exact ⟨⟨(ce _).trans h.told.c41, (ce _).trans h.told.c42, (ce _).trans h.told.c43, (ce _).trans h.told.c44, (ce _).trans h.told.c45, (ce _).trans h.told.c46, (ce _).trans h.told.c47, (ce _).trans h.told.c48, fun i => fz_of hA2⟩, ⟨_, hA2⟩, h.ev.move fun g hg => hb.block g (own_block h.ev.out hg).2, h.evs⟩
theorem Over10.toldAt {s d w M} (h : Over10 s d w M) : ToldAt w s.hi s.mb 41 M.ev M.fin M.kd M.vl M.steps M.words M.deep :=
 ⟨⟨_, h.told.c41, h.ev⟩, h.told.c42, h.told.c43, h.told.c44, h.told.c45, h.told.c46, h.told.c47, h.evs⟩
theorem Stp.below {FS s d w W W' M} (h : Stp FS s d w W M) (hb : Below W.heap.size W W') : Stp FS s d w W' M := by
 obtain ⟨d1, h1, h2, h3⟩ := h.out
 exact ⟨d1, fun q => (h1 q).below hb, h2.below hb, h3.trans (Foo.of_below hb)⟩
def otv (v : Value) (M : Ms) : Value := .agg #[v, .int .i64 M.fin, .int .i64 M.kd, .int .i64 M.vl, .int .i64 M.steps, .int .i64 M.words, .int .i64 M.deep]
set_option maxRecDepth 100000 in
theorem mRun_of (w wq : World) {mb fuel : Nat} (hlt : mb < w.heap.size) (hf : fuel <= 1099511627776) {E : List (Int × Int)} {x1 x2 x3 x4 x5 x6 : Int} (P : World -> Prop) (hwq : wq = w.alloc (.cells #[.slice none 0 0, .int .i64 0, .int .i64 0, .int .i64 0, .int .i64 0, .int .i64 0, .int .i64 0] 43))
 (hR : Calls Tryz.prog 17 #[.pointer (some ⟨mb, 41, none⟩), .int .i64 fuel, .func (.func 7) #[.pointer (some ⟨mb, 0, none⟩)] #[]] wq fun e w' => ∃ v' wF, e = .returned (.tuple #[.agg #[v', .int .i64 x1, .int .i64 x2, .int .i64 x3, .int .i64 x4, .int .i64 x5, .int .i64 x6], .int .i64 0]) /\ P wF /\ Row w' wF.heap.size 45 2 v' (E.map evc) /\ Only (fun k => k = wq.heap.size) wF w')
 (hP : ∀ wF, P wF -> wF.heap[w.heap.size]? = some (.cells #[.slice none 0 0, .int .i64 0, .int .i64 0, .int .i64 0, .int .i64 0, .int .i64 0, .int .i64 0] 43 (0, 0)) ) :
 Calls Tryz.prog 6 #[.pointer (some ⟨mb, 0, none⟩), .int .i64 fuel] w fun e w' => ∃ v' wF, e = .returned (.tuple #[.agg #[v', .int .i64 x1, .int .i64 x2, .int .i64 x3, .int .i64 x4, .int .i64 x5, .int .i64 x6], .int .i64 0]) /\ P wF /\ Row w' wF.heap.size 45 2 v' (E.map evc) /\ Only (fun k => k = w.heap.size \/ k = wq.heap.size) wF w' := by
 have HR : Hid _ := hR
 have HP : Hid _ := hP
 have hs : wq.heap.size = w.heap.size + 1 := by rw [hwq]; simp
 have HS : Hid _ := hs
 clear hR hP hs
 go_enter Tryz.func6, Tryz.ntmps6
 go_upto_region 1 with fail
 rw [<- hwq]
 clear hwq
 go_wp2_with fail
 refine Calls.mono HR.out ?_
 rintro e w2 ⟨v2, wF, rfl, hp, hR2, o2⟩
 obtain ⟨ao2, cc2, rfl, _⟩ := evs_of hR2
 have hkr := HP.out wF hp
 have hwf : w.heap.size < wF.heap.size := (gl hkr)
 have q0 := (o2.block w.heap.size hwf (by show ¬ w.heap.size = wq.heap.size; rw [HS.out]; omega)).trans hkr
 obtain ⟨W4, hW4⟩ : ∃ W, W = (((((((w2.setCell ⟨w.heap.size, 0, none⟩ (.slice ao2 E.length cc2)).setCell ⟨w.heap.size, 1, none⟩ (.int .i64 x1)).setCell ⟨w.heap.size, 2, none⟩ (.int .i64 x2)).setCell ⟨w.heap.size, 3, none⟩ (.int .i64 x3)).setCell ⟨w.heap.size, 4, none⟩ (.int .i64 x4)).setCell ⟨w.heap.size, 5, none⟩ (.int .i64 x5)).setCell ⟨w.heap.size, 6, none⟩ (.int .i64 x6)) := ⟨_, rfl⟩
 have HRX : Hid (W4.heap[w.heap.size]? = some (.cells #[.slice ao2 E.length cc2, .int .i64 x1, .int .i64 x2, .int .i64 x3, .int .i64 x4, .int .i64 x5, .int .i64 x6] 43 (0, 0))) := by rw [hW4]; exact box_seven q0 _ _ _ _ _ _ _
 have hsame : ∀ g, g ≠ w.heap.size -> W4.heap[g]? = w2.heap[g]? := fun g n0 => by
  rw [hW4, heap_set_other n0, heap_set_other n0, heap_set_other n0, heap_set_other n0, heap_set_other n0, heap_set_other n0, heap_set_other n0]
 have HR4 : Hid (Row W4 wF.heap.size 45 2 (.slice ao2 E.length cc2) (E.map evc)) := hR2.move fun g hg => hsame g fun q => own_not hR2.out q0 (by decide) (q ▸ hg)
 have HO4 : Hid (Only (fun k => k = w.heap.size \/ k = wq.heap.size) wF W4) := by
  rw [hW4]
  have z := only_sevenR (w := w2) (w1 := w2) (gb := w.heap.size) (Only.refl _ _) (.slice ao2 E.length cc2) (.int .i64 x1) (.int .i64 x2) (.int .i64 x3) (.int .i64 x4) (.int .i64 x5) (.int .i64 x6)
  exact (o2.mono fun i _ h => .inr h).trans z fun i _ h => .inl h
 have t0 : w2.cell? ⟨w.heap.size, 0, none⟩ = some (.slice none 0 0) := cell_arr q0 rfl
 have t1 : w2.cell? ⟨w.heap.size, 1, none⟩ = some (.int .i64 0) := cell_arr q0 rfl
 have t2 : w2.cell? ⟨w.heap.size, 2, none⟩ = some (.int .i64 0) := cell_arr q0 rfl
 have t3 : w2.cell? ⟨w.heap.size, 3, none⟩ = some (.int .i64 0) := cell_arr q0 rfl
 have t4 : w2.cell? ⟨w.heap.size, 4, none⟩ = some (.int .i64 0) := cell_arr q0 rfl
 have t5 : w2.cell? ⟨w.heap.size, 5, none⟩ = some (.int .i64 0) := cell_arr q0 rfl
 have t6 : w2.cell? ⟨w.heap.size, 6, none⟩ = some (.int .i64 0) := cell_arr q0 rfl
 have u0 : w2.frozen? ⟨w.heap.size, 0, none⟩ = false := fz_of q0
 have u1 : w2.frozen? ⟨w.heap.size, 1, none⟩ = false := fz_of q0
 have u2 : w2.frozen? ⟨w.heap.size, 2, none⟩ = false := fz_of q0
 have u3 : w2.frozen? ⟨w.heap.size, 3, none⟩ = false := fz_of q0
 have u4 : w2.frozen? ⟨w.heap.size, 4, none⟩ = false := fz_of q0
 have u5 : w2.frozen? ⟨w.heap.size, 5, none⟩ = false := fz_of q0
 have u6 : w2.frozen? ⟨w.heap.size, 6, none⟩ = false := fz_of q0
 have HW4 : Hid _ := hW4
 have HPF : Hid (P wF) := hp
 clear hR2 o2 q0 hW4 hsame hp hkr
 go_wp2_with fail
 rw [<- HW4.out]
 refine bodyPost_ret (v := .tuple #[.agg #[.slice ao2 E.length cc2, .int .i64 x1, .int .i64 x2, .int .i64 x3, .int .i64 x4, .int .i64 x5, .int .i64 x6], .int .i64 0]) ?_ rfl ⟨_, wF, rfl, HPF.out, HR4.out, HO4.out⟩
 exact results_row_tmp Tryz.results6 _ _ w.heap.size 43 _ (0, 0) _ rfl HRX.out Tryz.underlying43 rfl (by kernel_rfl)
theorem opens_stepR : OpensR 7 := OpensR.of Tryz.func7 (by kernel_rfl) rfl
theorem Mach.foot_lt {FS s d w M} (h : Mach FS s d w M) : ∀ k, foot s d k -> k < w.heap.size := by
 rintro k (rfl | q | q | q | q | q)
 ·exact (gl h.box)
 ·exact h.rest.ch.lt k q
 ·exact (own_block h.rest.wait.out q).2
 ·exact (own_block h.rest.nums.out q).2
 ·exact (own_block h.rest.phis.out q).2
 ·exact (own_block h.rest.ev.out q).2
theorem Over10.apart {s d w w' M} (h : Over10 s d w M) {F : Nat -> Prop} (ho : Only F w w') (h1 : ¬ F s.mb) (h2 : ∀ k, d.ve.ownBlock = some k -> ¬ F k) : Over10 s d w' M := by
 obtain ⟨A, hA⟩ := h.box
 have hA2 := (ho.block _ (gl hA) h1).trans hA
 have ce : ∀ i, w'.cell? ⟨s.mb, i, none⟩ = w.cell? ⟨s.mb, i, none⟩ := fun i => by simp [World.cell?, hA, hA2]
 exact ⟨⟨(ce _).trans h.told.c41, (ce _).trans h.told.c42, (ce _).trans h.told.c43, (ce _).trans h.told.c44, (ce _).trans h.told.c45, (ce _).trans h.told.c46, (ce _).trans h.told.c47, (ce _).trans h.told.c48, fun i => fz_of hA2⟩, ⟨_, hA2⟩, h.ev.move fun g hg => ho.block g (own_block h.ev.out hg).2 (h2 g hg), h.evs⟩
theorem Mach.apart {FS s d w w' M} (h : Mach FS s d w M) {F : Nat -> Prop} (ho : Only F w w') (hf : ∀ k, F k -> ¬ foot s d k /\ ¬ (s.lo <= k /\ k < s.hi)) : Mach FS s d w' M := by
 have up : ∀ k, foot s d k -> w'.heap[k]? = w.heap[k]? := fun k hk => ho.block k (h.foot_lt k hk) fun q => (hf k q).1 hk
 have hh := h.rest.hi
 have hb := (up s.mb (.inl rfl)).trans h.box
 exact ⟨hb, ⟨fun k h1 h2 => (ho.block k (by omega) fun q => (hf k q).2 ⟨h1, h2⟩).trans (h.rest.agr k h1 h2), h.rest.fus, h.rest.fn, h.rest.inp, h.rest.ch.move fun b q => up b (.inr (.inl q)), ⟨h.rest.nums.len, own_move h.rest.nums.out fun g q => up g (.inr (.inr (.inr (.inl q))))⟩, ⟨h.rest.phis.len, own_move h.rest.phis.out fun g q => up g (.inr (.inr (.inr (.inr (.inl q)))))⟩, h.rest.apart, h.rest.wait.move fun g q => up g (.inr (.inr (.inl q))), h.rest.ev.move fun g q => up g (.inr (.inr (.inr (.inr (.inr q))))), h.rest.evs, ⟨hh.1, Nat.le_trans hh.2 ho.size⟩, h.rest.out, ⟨_, hb⟩⟩⟩
theorem run_core {FS s d w wb M} (hF : Few10 FS) (hb : Below w.heap.size w wb) (h1 : M.over = false -> Mach FS s d w M) (h2 : Over10 s d w M) {fuel N : Nat} (Q : Nat -> Ms) (h0 : Q 0 = M) (hQ : ∀ k, k < N -> StepsTo FS (Q k) true (Q (k + 1))) {MJ : Ms} (hN : StepsTo FS (Q N) false MJ) {MF : Ms} (hMF : MF = if N < fuel then MJ else Q fuel) {g1 g2 : Nat} (k1 : wb.heap[g1]? = some (.cells #[.slice none 0 0, .int .i64 0, .int .i64 0, .int .i64 0, .int .i64 0, .int .i64 0, .int .i64 0] 43 (0, 0))) (k2 : wb.heap[g2]? = some (.cells #[.slice none 0 0, .int .i64 0, .int .i64 0, .int .i64 0, .int .i64 0, .int .i64 0, .int .i64 0] 43 (0, 0))) :
 ∃ (I : Nat -> World -> Prop) (J : World -> Prop), I 0 wb /\ (∀ k W, k < N -> I k W -> Calls Tryz.prog 7 #[.pointer (some ⟨s.mb, 0, none⟩)] W fun e w' => e = .returned (.bool true) /\ I (k + 1) w') /\ (∀ W, I N W -> Calls Tryz.prog 7 #[.pointer (some ⟨s.mb, 0, none⟩)] W fun e w' => e = .returned (.bool false) /\ J w') /\ ∀ W, FinR N fuel I J W -> Stp FS s d wb W MF /\ W.heap[g1]? = some (.cells #[.slice none 0 0, .int .i64 0, .int .i64 0, .int .i64 0, .int .i64 0, .int .i64 0, .int .i64 0] 43 (0, 0)) /\ W.heap[g2]? = some (.cells #[.slice none 0 0, .int .i64 0, .int .i64 0, .int .i64 0, .int .i64 0, .int .i64 0, .int .i64 0] 43 (0, 0)) /\ (MF.over = false -> M.over = false) := by
 cases hov : M.over with
 | false =>
   have hm := (h1 hov).below hb
   have n1 := hm.not_foot k1 (by decide) (by decide) (by decide) (by decide) (by decide)
   have n2 := hm.not_foot k2 (by decide) (by decide) (by decide) (by decide) (by decide)
   refine ⟨fun k W => Stp FS s d wb W (Q k), fun W => Stp FS s d wb W MJ, by show Stp FS s d wb wb (Q 0); rw [h0]; exact hm.stp, fun k W hk hi => hi.step hF (hQ k hk), fun W hi => hi.step hF hN, fun W hW => ?_⟩
   have hS : Stp FS s d wb W MF := by
    unfold FinR at hW
    rw [hMF]
    split at hW
    ·rename_i c; rw [if_pos c]; exact hW
    ·rename_i c; rw [if_neg c]; exact hW
   obtain ⟨d2, _, _, f⟩ := hS.out
   exact ⟨hS, (f.only.block _ (gl k1) n1).trans k1, (f.only.block _ (gl k2) n2).trans k2, fun _ => rfl⟩
 | true =>
   have hN0 : N = 0 := by
    rcases Nat.eq_zero_or_pos N with q | q
    ·exact q
    ·have z := hQ 0 q
     rw [h0] at z
     generalize hT : true = T at z
     generalize Q (0 + 1) = MM at z
     cases z with
     | over _ => cases hT
     | made M1 ho => rw [hov] at ho; cases ho
     | rest M1 ho => rw [hov] at ho; cases ho
   subst hN0
   have hMJ : MJ = M := by
    rw [h0] at hN
    cases hN with
    | over _ => rfl
    | rest _ ho => rw [hov] at ho; cases ho
   have hS : Stp FS s d wb wb M := ⟨d, fun q => (by rw [hov] at q; cases q), h2.below hb, Foo.refl _ _ _⟩
   refine ⟨fun k W => k = 0 /\ W = wb, fun W => W = wb, ⟨rfl, rfl⟩, fun k W hk => absurd hk (Nat.not_lt_zero _), fun W hi => ?_, fun W hW => ?_⟩
   ·obtain ⟨_, rfl⟩ := hi
    exact (mStep_no (h2.below hb) hov).mono fun e w' q => ⟨q.1, q.2.symm⟩
   ·unfold FinR at hW
    have e : W = wb /\ MF = M := by
     rw [hMF]
     split at hW
     ·rename_i c; rw [if_pos c]; exact ⟨hW, hMJ⟩
     ·rename_i c; rw [if_neg c]; obtain ⟨q1, q2⟩ := hW; exact ⟨q2, by rw [q1]; exact h0⟩
    obtain ⟨rfl, rfl⟩ := e
    exact ⟨hS, k1, k2, fun q => (by rw [hov] at q; cases q)⟩
theorem mRun_any {FS s d w0 w M} (hF : Few10 FS) (h : Stp FS s d w0 w M) {fuel N : Nat} (hf : fuel <= 1099511627776) (Q : Nat -> Ms) (h0 : Q 0 = M) (hQ : ∀ k, k < N -> StepsTo FS (Q k) true (Q (k + 1))) {MJ : Ms} (hN : StepsTo FS (Q N) false MJ) {MF : Ms} (hMF : MF = if N < fuel then MJ else Q fuel) :
 Calls Tryz.prog 6 #[.pointer (some ⟨s.mb, 0, none⟩), .int .i64 fuel] w fun e w' => ∃ v d' B, e = .returned (.tuple #[otv v MF, .int .i64 0]) /\ (MF.over = false -> Mach FS s d' w' MF /\ ∀ k, foot s d' k -> k < B) /\ Over10 s d' w' MF /\ Foo s d d' w0 w' /\ w.heap.size <= B /\ Row w' B 45 2 v (MF.ev.map evc) := by
 obtain ⟨d1, h1, h2, h3⟩ := h.out
 obtain ⟨wq, hwq⟩ : ∃ wq, wq = w.alloc (.cells #[.slice none 0 0, .int .i64 0, .int .i64 0, .int .i64 0, .int .i64 0, .int .i64 0, .int .i64 0] 43) := ⟨_, rfl⟩
 obtain ⟨wb, hwb⟩ : ∃ wb, wb = wq.alloc (.cells #[.slice none 0 0, .int .i64 0, .int .i64 0, .int .i64 0, .int .i64 0, .int .i64 0, .int .i64 0] 43) := ⟨_, rfl⟩
 have bq : Below w.heap.size w wq := by rw [hwq]; exact below_new w _
 have bb : Below wq.heap.size wq wb := by rw [hwb]; exact below_new wq _
 have bwb : Below w.heap.size w wb := bq.trans (bb.mono bq.size)
 have k0 : wq.heap[w.heap.size]? = some (.cells #[.slice none 0 0, .int .i64 0, .int .i64 0, .int .i64 0, .int .i64 0, .int .i64 0, .int .i64 0] 43 (0, 0)) := by rw [hwq]; exact heap_alloc_new _ _
 have k1 : wb.heap[w.heap.size]? = some (.cells #[.slice none 0 0, .int .i64 0, .int .i64 0, .int .i64 0, .int .i64 0, .int .i64 0, .int .i64 0] 43 (0, 0)) := (bb.block _ (gl k0)).trans k0
 have k2 : wb.heap[wq.heap.size]? = some (.cells #[.slice none 0 0, .int .i64 0, .int .i64 0, .int .i64 0, .int .i64 0, .int .i64 0, .int .i64 0] 43 (0, 0)) := by rw [hwb]; exact heap_alloc_new _ _
 obtain ⟨I, J, c1, c2, c3, c4⟩ := run_core hF bwb h1 h2 Q h0 hQ hN hMF k1 k2
 have T := told_run wq (mb := s.mb) (o := 41) (B := s.hi) (fuel := fuel) (N := N) #[.pointer (some ⟨s.mb, 0, none⟩)] opens_stepR hf I J (E := MF.ev) (x1 := MF.fin) (x2 := MF.kd) (x3 := MF.vl) (x4 := MF.steps) (x5 := MF.words) (x6 := MF.deep) (by rw [<- hwb]; exact c1) c2 c3 (fun W hW => by
  obtain ⟨q1, q2, q3, _⟩ := c4 W hW
  obtain ⟨d2, _, o2, _⟩ := q1.out
  exact ⟨o2.toldAt, q3⟩)
 refine (mRun_of w wq h2.lt hf _ hwq T fun wF hW => (c4 wF hW).2.1).mono ?_
 rintro e w' ⟨v, wF, rfl, hW, hR, hO⟩
 obtain ⟨q1, q2, q3, q4⟩ := c4 wF hW
 obtain ⟨d2, m2, o2, f2⟩ := q1.out
 obtain ⟨A, hA⟩ := o2.box
 have nb : ∀ k, k = w.heap.size \/ k = wq.heap.size -> wF.heap[k]? = some (.cells #[.slice none 0 0, .int .i64 0, .int .i64 0, .int .i64 0, .int .i64 0, .int .i64 0, .int .i64 0] 43 (0, 0)) := fun k hk => by rcases hk with rfl | rfl <;> assumption
 have a1 : ¬ (s.mb = w.heap.size \/ s.mb = wq.heap.size) := fun hk => by
  have := nb _ hk; rw [hA] at this; cases this
 have a2 : ∀ k, d2.ve.ownBlock = some k -> ¬ (k = w.heap.size \/ k = wq.heap.size) := fun k q hk => own_not o2.ev.out (nb _ hk) (by decide) q
 have sz := bwb.size
 have sz0 := bq.size
 have sz2 := f2.only.size
 have sz3 := h3.only.size
 have g2 : Foo s d d2 w0 wF := (h3.trans (Foo.of_below bwb)).trans f2
 refine ⟨v, d2, wF.heap.size, rfl, fun ho => ⟨(m2 ho).apart hO fun k hk => ⟨(m2 ho).not_foot (nb k hk) (by decide) (by decide) (by decide) (by decide) (by decide), fun q => ?_⟩, (m2 ho).foot_lt⟩, o2.apart hO a1 a2, ⟨g2.only.trans hO fun i hi hF => ?_, g2.new⟩, by omega, hR⟩
 ·have := (h1 (q4 ho)).rest.hi
  rcases hk with e | e <;> omega
 ·have : i = w.heap.size \/ i = wq.heap.size := hF
  rcases this with e | e <;> omega
def frF : Fu := ⟨⟨#[109, 97, 105, 110]⟩, [], 0, [⟨24, 1, 0, []⟩, ⟨24, 1, 0, []⟩, ⟨2, 1, 0, [0, 1]⟩, ⟨26, 0, 0, [2]⟩], [⟨[], [0, 1, 2, 3], 3, -1, [], []⟩]⟩
theorem fr_check : checkP [frF] 0 = 0 := by decide +kernel
theorem fr_few : ∀ f ∈ [frF], FewF f := by
 intro f hf
 simp only [List.mem_cons, List.not_mem_nil, or_false] at hf
 subst hf
 exact ⟨by decide, by decide⟩
theorem fr_fewC : ∀ f ∈ [frF], FewC f := by
 intro f hf
 simp only [List.mem_cons, List.not_mem_nil, or_false] at hf
 subst hf
 exact ⟨by decide, by decide, by decide, by decide, by decide⟩
theorem fr_few10 : Few10 [frF] := by
 constructor <;> (intro f hf; simp only [List.mem_cons, List.not_mem_nil, or_false] at hf; subst hf; decide)
theorem Roomy.one {M : Ms} (h1 : M.nums.length <= 800000000) (h2 : M.here.fst = 0) (h3 : M.wait = []) (h4 : M.here.bh <= 1000000000) : Roomy M :=
 ⟨h1, by omega, by rw [h3]; decide, fun a ha => by rw [h3] at ha; simp at ha, h4⟩
theorem StepsTo.one {FS : List Fu} {M M1 : Ms} (ho : M.over = false) (hM : M.adv FS = some M1) (h1 : M.nums.length <= 800000000) (h2 : M.here.fst = 0) (h3 : M.wait = []) (h4 : M.here.bh + 1 <= 1000000000) (hs : 0 <= M1.steps /\ M1.steps <= 4611686018427387904) (hr : M1.rests = false) : StepsTo FS M true { M1 with steps := M1.steps + 1 } :=
 .made M1 ho hM (Roomy.one h1 h2 h3 h4) (fun f b _ _ _ => .inl h3) hs hr
def frM (k : Nat) : Ms := match k with
 | 0 => ⟨[7, -3], ⟨0, 0, 0, 0⟩, [], [], [], [], 0, 0, 0, 0, 0, 1, false, ⟨0, fun _ => none, fun _ => 0, 0⟩⟩
 | 1 => ⟨[-3], ⟨0, 0, 1, 0⟩, [], [7], [], [], 0, 0, 0, 1, 0, 1, false, ⟨0, fun _ => none, fun _ => 0, 0⟩⟩
 | 2 => ⟨[], ⟨0, 0, 2, 0⟩, [], [7, -3], [], [], 0, 0, 0, 2, 0, 1, false, ⟨0, fun _ => none, fun _ => 0, 0⟩⟩
 | 3 => ⟨[], ⟨0, 0, 3, 0⟩, [], [7, -3, 4], [], [], 0, 0, 0, 3, 0, 1, false, ⟨0, fun _ => none, fun _ => 0, 0⟩⟩
 | 4 => ⟨[], ⟨0, 0, 4, 0⟩, [], [7, -3, 4], [], [(1, 4)], 0, 0, 0, 4, 0, 1, false, ⟨0, fun _ => none, fun _ => 0, 0⟩⟩
 | _ => ⟨[], ⟨0, 0, 5, 0⟩, [], [7, -3, 4], [], [(1, 4)], 1, 0, 0, 5, 0, 1, false, ⟨0, fun _ => none, fun _ => 0, 0⟩⟩
theorem fr_begin : (Ms.fresh [7, -3]).begin [frF] 0 [] = some (frM 0) := by rfl
theorem fr_steps : ∀ k, k < 5 -> StepsTo [frF] (frM k) true (frM (k + 1)) := by
 intro k hk
 have : k = 0 \/ k = 1 \/ k = 2 \/ k = 3 \/ k = 4 := by omega
 rcases this with rfl | rfl | rfl | rfl | rfl
 ·exact StepsTo.one (M1 := { frM 1 with steps := 0 }) rfl rfl (by decide) rfl rfl (by decide) (by decide) rfl
 ·exact StepsTo.one (M1 := { frM 2 with steps := 1 }) rfl rfl (by decide) rfl rfl (by decide) (by decide) rfl
 ·exact StepsTo.one (M1 := { frM 3 with steps := 2 }) rfl (by kernel_rfl) (by decide) rfl rfl (by decide) (by decide) rfl
 ·exact StepsTo.one (M1 := { frM 4 with steps := 3 }) rfl rfl (by decide) rfl rfl (by decide) (by decide) rfl
 ·exact StepsTo.one (M1 := { frM 5 with steps := 4 }) rfl rfl (by decide) rfl rfl (by decide) (by decide) rfl
theorem fr_end : StepsTo [frF] (frM 5) false (frM 5) := .over rfl
def al (w : World) (X : List Obj) : World := X.foldl World.alloc w
theorem al_below (X : List Obj) : ∀ w : World, Below w.heap.size w (al w X) := by
 induction X with
 | nil => intro w; exact Below.refl _ _
 | cons x xs ih => intro w; exact (below_new w x).trans ((ih (w.alloc x)).mono (by simp))
theorem al_at (X : List Obj) : ∀ (w : World) (i : Nat) (h : i < X.length), (al w X).heap[w.heap.size + i]? = some X[i] := by
 induction X with
 | nil => intro w i h; simp at h
 | cons x xs ih =>
   intro w i h
   cases i with
   | zero =>
     show (al (w.alloc x) xs).heap[w.heap.size]? = _
     rw [(al_below xs (w.alloc x)).block _ (by simp)]
     exact heap_alloc_new w x
   | succ i =>
     have := ih (w.alloc x) i (by simpa using h)
     rw [show (w.alloc x).heap.size + i = w.heap.size + (i + 1) by simp; omega] at this
     exact this
theorem ints_none (w : World) : Ints w none 0 [] := ⟨Nat.le_refl _, by decide, fun h => absurd rfl h⟩
def frX (B : Nat) : List Obj := [.cells #[.slice (some ⟨B + 6, 0, none⟩) 1 1, .int .i64 0] 40, .cells #[.int .i64 0, .int .i64 1] 3, .cells #[.int .i64 2] 3, .cells #[.int .i64 24, .int .i64 1, .int .i64 0, .slice none 0 0, .int .i64 24, .int .i64 1, .int .i64 0, .slice none 0 0, .int .i64 2, .int .i64 1, .int .i64 0, .slice (some ⟨B + 1, 0, none⟩) 2 2, .int .i64 26, .int .i64 0, .int .i64 0, .slice (some ⟨B + 2, 0, none⟩) 1 1] 25, .cells #[.int .i64 0, .int .i64 1, .int .i64 2, .int .i64 3] 3, .cells #[.slice none 0 0, .slice (some ⟨B + 4, 0, none⟩) 4 4, .int .i64 3, .int .i64 (-1), .slice none 0 0, .slice none 0 0] 30, .cells #[.string ⟨#[109, 97, 105, 110]⟩, .slice none 0 0, .int .i64 0, .slice (some ⟨B + 3, 0, none⟩) 4 4, .slice (some ⟨B + 5, 0, none⟩) 1 1] 33]
set_option maxRecDepth 100000 in
set_option maxHeartbeats 4000000 in
theorem first_any (w : World) : Calls Tryz.prog 9 #[] w fun e w' => e = .returned (.agg #[.slice (some ⟨w.heap.size + 6, 0, none⟩) 1 1, .int .i64 0]) /\ w' = al w (frX w.heap.size) := by
 have hb := al_at (frX w.heap.size) w 0 (by simp [frX])
 go_enter Tryz.func9, Tryz.ntmps9
 go_wp2_with fail
 refine bodyPost_ret (v := .agg #[.slice (some ⟨w.heap.size + 6, 0, none⟩) 1 1, .int .i64 0]) ?_ rfl ⟨rfl, rfl⟩
 exact results_cell_row Tryz.results9 _ _ w.heap.size 40 _ (0, 0) _ rfl hb Tryz.underlying40 rfl (by kernel_rfl)
theorem fr_fus (w : World) : Fus (al w (frX w.heap.size)) (some ⟨w.heap.size + 6, 0, none⟩) 1 [frF] := by
 have hx : ∀ i (h : i < (frX w.heap.size).length), (al w (frX w.heap.size)).heap[w.heap.size + i]? = some (frX w.heap.size)[i] := fun i h => al_at _ w i h
 obtain ⟨B, hB⟩ : ∃ B, B = w.heap.size := ⟨_, rfl⟩
 obtain ⟨W, hW⟩ : ∃ W, W = al w (frX w.heap.size) := ⟨_, rfl⟩
 rw [<- hW] at hx ⊢
 rw [<- hB] at hx ⊢
 clear hW hB
 have h0 := hx 0 (by simp [frX])
 have h1 := hx 1 (by simp [frX])
 have h2 := hx 2 (by simp [frX])
 have h3 := hx 3 (by simp [frX])
 have h4 := hx 4 (by simp [frX])
 have h5 := hx 5 (by simp [frX])
 have h6 := hx 6 (by simp [frX])
 have hl : ∀ j : Nat, j < 7 -> B + j < W.heap.size := fun j hj => (Array.getElem?_eq_some_iff.1 (hx j (by simpa [frX] using hj))).1
 clear hx
 have i1 : Ints W (some ⟨B + 1, 0, none⟩) 2 [0, 1] := ints_exact (L := [0, 1]) h1 (by decide)
 have i2 : Ints W (some ⟨B + 2, 0, none⟩) 1 [2] := ints_exact (L := [2]) h2 (by decide)
 have i4 : Ints W (some ⟨B + 4, 0, none⟩) 4 [0, 1, 2, 3] := ints_exact (L := [0, 1, 2, 3]) h4 (by decide)
 have hv0 : Vls W (some ⟨B + 3, 0, none⟩) 4 frF.vals := by
  refine ⟨Nat.le_of_ble_eq_true (by kernel_rfl), by decide, fun _ => ⟨B + 3, 0, rfl, hl 3 (by omega), fun i hi => ?_⟩⟩
  match i, hi with
  | 0, _ => exact ⟨none, 0, cell_arr (i := 0) h3 rfl, cell_arr (i := 1) h3 rfl, cell_arr (i := 2) h3 rfl, cell_arr (i := 3) h3 rfl, (ints_none W)⟩
  | 1, _ => exact ⟨none, 0, cell_arr (i := 4) h3 rfl, cell_arr (i := 5) h3 rfl, cell_arr (i := 6) h3 rfl, cell_arr (i := 7) h3 rfl, (ints_none W)⟩
  | 2, _ => exact ⟨some ⟨B + 1, 0, none⟩, 2, cell_arr (i := 8) h3 rfl, cell_arr (i := 9) h3 rfl, cell_arr (i := 10) h3 rfl, cell_arr (i := 11) h3 rfl, i1⟩
  | 3, _ => exact ⟨some ⟨B + 2, 0, none⟩, 1, cell_arr (i := 12) h3 rfl, cell_arr (i := 13) h3 rfl, cell_arr (i := 14) h3 rfl, cell_arr (i := 15) h3 rfl, i2⟩
 have hk0 : Bks W (some ⟨B + 5, 0, none⟩) 1 frF.blks := by
  refine ⟨Nat.le_of_ble_eq_true (by kernel_rfl), by decide, fun _ => ⟨B + 5, 0, rfl, hl 5 (by omega), fun i hi => ?_⟩⟩
  match i, hi with
  | 0, _ => exact ⟨none, 0, some ⟨B + 4, 0, none⟩, 4, none, 0, none, 0, cell_arr (i := 0) h5 rfl, cell_arr (i := 1) h5 rfl, cell_arr (i := 2) h5 rfl, cell_arr (i := 3) h5 rfl, cell_arr (i := 4) h5 rfl, cell_arr (i := 5) h5 rfl, (ints_none W), i4, (ints_none W), (ints_none W)⟩
 refine ⟨Nat.le_of_ble_eq_true (by kernel_rfl), by decide, fun _ => ⟨B + 6, 0, rfl, hl 6 (by omega), fun i hi => ?_⟩⟩
 match i, hi with
 | 0, _ => exact ⟨none, 0, some ⟨B + 3, 0, none⟩, 4, some ⟨B + 5, 0, none⟩, 1, cell_arr (i := 0) h6 rfl, cell_arr (i := 1) h6 rfl, cell_arr (i := 2) h6 rfl, cell_arr (i := 3) h6 rfl, cell_arr (i := 4) h6 rfl, (ints_none W), hv0, hk0⟩
end Go.Proofs.YtfbkopjncmkbiabGreatDoor
