import Derived.Deep.RegionHeld3
import Derived.Test.YtfbkopjncmkbiabGreatDoorKal
set_option linter.unusedVariables false
set_option linter.unusedSimpArgs false
namespace Go.Proofs.YtfbkopjncmkbiabGreatDoor
open Go.ChangeShapes Go.WideShapes Go.ChangeAt Go.RowKit Go.Maps
def isPh (f : Fu) (x : Int) : Bool := decide ((gv f x).op = 32)
theorem isPhi_at (w : World) {s : ByteArray} {pa : Option Addr} {pn pc : Nat} {r : Int} {va : Option Addr} {vn vc : Nat} {ba : Option Addr} {bn bc : Nat} {fa : Option Addr} {fn fc : Nat} {f : Fu} {FS : List Fu} (C : Ctx w s pa pn pc r va vn vc ba bn bc fa fn fc f FS) (x : Int) (hx : wi vn x = true) (R : Bool) (hR : isPh f x = R) :
 Calls Tryz.prog 92 #[.agg #[.string s, .slice pa pn pc, .int .i64 r, .slice va vn vc, .slice ba bn bc, .slice fa fn fc], .int .i64 x] w fun e w' => e = .returned (.bool R) /\ Below w.heap.size w w' := by
 subst hR
 unfold isPh
 have A0 : Af1 w (.cells #[.string s, .slice pa pn pc, .int .i64 r, .slice va vn vc, .slice ba bn bc, .slice fa fn fc] 77) (w.alloc (.cells #[.string s, .slice pa pn pc, .int .i64 r, .slice va vn vc, .slice ba bn bc, .slice fa fn fc] 77)) := Af1.refl _ _
 obtain ⟨j, b, o, ka, kl, kc, rfl, hj, hvn, rfl, hlt, c0, c1, c2, c3, hkl, hI⟩ := (C.below A0.low (Nat.le_refl _)).val hx
 generalize gv f (j : Int) = y at c0 c1 c2 c3 hkl hI
 clear C hkl hI c3 c1 c2 hx
 go_enter Tryz.func92, Tryz.ntmps92
 go_wp2_with fail
 go_ret
 exact ⟨rfl, A0.low⟩
theorem ret_len (a b : Nat) : Ending.returned (.bool ((a : Int) == (b : Int))) = .returned (.bool (true && decide (a = b))) := by
 by_cases e : a = b
 ·subst e; simp
 ·have : ¬ (a : Int) = b := by omega
  simp [e, this]
theorem opens_p1 : Opens 90 := Opens.of Tryz.func90 (by kernel_rfl) rfl
theorem opens_p11 : Opens 91 := Opens.of Tryz.func91 (by kernel_rfl) rfl
theorem opens_p12 : Opens 93 := Opens.of Tryz.func93 (by kernel_rfl) rfl
theorem phis12_any (w : World) {s : ByteArray} {pa : Option Addr} {pn pc : Nat} {r : Int} {va : Option Addr} {vn vc : Nat} {ba : Option Addr} {bn bc : Nat} {fa : Option Addr} {fn fc : Nat} {f : Fu} {FS : List Fu} (C : Ctx w s pa pn pc r va vn vc ba bn bc fa fn fc f FS) (fb : Nat) (hf : w.heap[fb]? = some (.cells #[.string s, .slice pa pn pc, .int .i64 r, .slice va vn vc, .slice ba bn bc, .slice fa fn fc] 77 (0, 0))) (i : Nat) (x : Int) (hx : wi vn x = true) :
 Calls Tryz.prog 93 #[.int .i64 i, .int .i64 x, .pointer (some ⟨fb, 0, none⟩)] w fun e w' => e = .returned (.bool (!isPh f x)) /\ Below w.heap.size w w' := by
 obtain ⟨f0, f1, f2, f3, f4, f5⟩ := fcells hf
 have HC : Hid _ := C
 generalize hR : isPh f x = R
 clear C hf
 go_enter Tryz.func93, Tryz.ntmps93
 go_wp2_with (go_at_call 92; refine (isPhi_at _ HC.out _ hx _ hR).mono ?_; rintro e w1 ⟨rfl, hb1⟩)
 go_ret
 exact ⟨rfl, hb1⟩
set_option maxRecDepth 100000 in
set_option maxHeartbeats 4000000 in
theorem phis11_any (w : World) {s : ByteArray} {pa : Option Addr} {pn pc : Nat} {r : Int} {va : Option Addr} {vn vc : Nat} {ba : Option Addr} {bn bc : Nat} {fa : Option Addr} {fn fc : Nat} {f : Fu} {FS : List Fu} (C : Ctx w s pa pn pc r va vn vc ba bn bc fa fn fc f FS) (fb kb : Nat) (hf : w.heap[fb]? = some (.cells #[.string s, .slice pa pn pc, .int .i64 r, .slice va vn vc, .slice ba bn bc, .slice fa fn fc] 77 (0, 0))) {ka : Option Addr} {kl kc : Nat} {la : Option Addr} {ll lc : Nat} {kd vl : Int} {ma : Option Addr} {ml mc : Nat} {na : Option Addr} {nl nc : Nat} (hk : w.heap[kb]? = some (.cells #[.slice ka kl kc, .slice la ll lc, .int .i64 kd, .int .i64 vl, .slice ma ml mc, .slice na nl nc] 30 (0, 0))) (i : Nat) (x : Int) (hx : wi vn x = true) :
 Calls Tryz.prog 91 #[.int .i64 i, .int .i64 x, .pointer (some ⟨fb, 0, none⟩), .pointer (some ⟨kb, 0, none⟩)] w fun e w' => e = .returned (.bool (isPh f x && decide ((gv f x).args.length = nl))) /\ Below w.heap.size w w' := by
 have HC : Hid _ := C
 have hlf := (gl hf)
 have hlk := (gl hk)
 obtain ⟨f0, f1, f2, f3, f4, f5⟩ := fcells hf
 obtain ⟨b0, b1, b2, b3, b4, b5⟩ := bcells hk
 have hd : Below w.heap.size w w.drew := (Below.refl _ _).drew
 have HD : Hid (Ctx w.drew s pa pn pc r va vn vc ba bn bc fa fn fc f FS) := C.below hd (Nat.le_refl _)
 obtain ⟨j, b, o, xa, xl, xc, rfl, hj, hvn, rfl, hlt, c0, c1, c2, c3, hkl, hI⟩ := C.val hx
 rw [<- hkl]
 have S0 : (fun w' : World => w'.cell? ⟨fb, 0, none⟩ = some (.string s) /\ w'.cell? ⟨fb, 1, none⟩ = some (.slice pa pn pc) /\ w'.cell? ⟨fb, 2, none⟩ = some (.int .i64 r) /\ w'.cell? ⟨fb, 3, none⟩ = some (.slice (some ⟨b, o, none⟩) vn vc) /\ w'.cell? ⟨fb, 4, none⟩ = some (.slice ba bn bc) /\ w'.cell? ⟨fb, 5, none⟩ = some (.slice fa fn fc) /\ w'.cell? ⟨kb, 5, none⟩ = some (.slice na nl nc) /\ w'.cell? ⟨b, o + j * 4 + 3, none⟩ = some (.slice xa xl xc)) w.drew := ⟨f0, f1, f2, f3, f4, f5, b5, c3⟩
 have HS : Hid (∀ w1, Below w.drew.heap.size w.drew w1 -> (fun w' : World => w'.cell? ⟨fb, 0, none⟩ = some (.string s) /\ w'.cell? ⟨fb, 1, none⟩ = some (.slice pa pn pc) /\ w'.cell? ⟨fb, 2, none⟩ = some (.int .i64 r) /\ w'.cell? ⟨fb, 3, none⟩ = some (.slice (some ⟨b, o, none⟩) vn vc) /\ w'.cell? ⟨fb, 4, none⟩ = some (.slice ba bn bc) /\ w'.cell? ⟨fb, 5, none⟩ = some (.slice fa fn fc) /\ w'.cell? ⟨kb, 5, none⟩ = some (.slice na nl nc) /\ w'.cell? ⟨b, o + j * 4 + 3, none⟩ = some (.slice xa xl xc)) w1) := fun w1 hb1 => ⟨(hb1.cell (p := ⟨fb, 0, none⟩) hlf).trans f0, (hb1.cell (p := ⟨fb, 1, none⟩) hlf).trans f1, (hb1.cell (p := ⟨fb, 2, none⟩) hlf).trans f2, (hb1.cell (p := ⟨fb, 3, none⟩) hlf).trans f3, (hb1.cell (p := ⟨fb, 4, none⟩) hlf).trans f4, (hb1.cell (p := ⟨fb, 5, none⟩) hlf).trans f5, (hb1.cell (p := ⟨kb, 5, none⟩) hlk).trans b5, (hb1.cell (p := ⟨b, o + j * 4 + 3, none⟩) hlt).trans c3⟩
 clear C hkl hI c0 c1 c2
 cases hR : isPh f (j : Int) with
 | false =>
   go_enter Tryz.func91, Tryz.ntmps91
   go_wp2_with fail
   refine led_start (S := fun w' : World => w'.cell? ⟨fb, 0, none⟩ = some (.string s) /\ w'.cell? ⟨fb, 1, none⟩ = some (.slice pa pn pc) /\ w'.cell? ⟨fb, 2, none⟩ = some (.int .i64 r) /\ w'.cell? ⟨fb, 3, none⟩ = some (.slice (some ⟨b, o, none⟩) vn vc) /\ w'.cell? ⟨fb, 4, none⟩ = some (.slice ba bn bc) /\ w'.cell? ⟨fb, 5, none⟩ = some (.slice fa fn fc) /\ w'.cell? ⟨kb, 5, none⟩ = some (.slice na nl nc) /\ w'.cell? ⟨b, o + j * 4 + 3, none⟩ = some (.slice xa xl xc)) (z := 17) (by kernel_rfl) ?_
   refine led_n 0 S0 ?_
   refine led_n 1 S0 ?_
   refine led_one (i := 2) rfl (by kernel_rfl) ?_
   intro K' hK
   rw [if_pos (by rfl)]
   go_simp
   refine (isPhi_at w.drew HD.out _ hx _ hR).mono ?_
   rintro e w1 ⟨rfl, hb1⟩
   have S1 := HS.out w1 hb1
   refine hK _ _ (fun _ => S1) ?_
   try simp only [Act.put, zi, zz, zs]
   refine led_n 3 S1 ?_
   refine led_t (i := 4) (v := undef) rfl (by kernel_rfl) (.inr ⟨by kernel_rfl, rfl⟩) S1 ?_
   try simp only [Act.put, zi, zz, zs]
   refine led_t (i := 5) (v := undef) rfl (by kernel_rfl) (.inr ⟨by kernel_rfl, rfl⟩) S1 ?_
   try simp only [Act.put, zi, zz, zs]
   refine led_t (i := 6) (v := undef) rfl (by kernel_rfl) (.inr ⟨by kernel_rfl, rfl⟩) S1 ?_
   try simp only [Act.put, zi, zz, zs]
   refine led_t (i := 7) (v := undef) rfl (by kernel_rfl) (.inr ⟨by kernel_rfl, rfl⟩) S1 ?_
   try simp only [Act.put, zi, zz, zs]
   refine led_t (i := 8) (v := undef) rfl (by kernel_rfl) (.inr ⟨by kernel_rfl, rfl⟩) S1 ?_
   try simp only [Act.put, zi, zz, zs]
   refine led_t (i := 9) (v := undef) rfl (by kernel_rfl) (.inr ⟨by kernel_rfl, rfl⟩) S1 ?_
   try simp only [Act.put, zi, zz, zs]
   refine led_t (i := 10) (v := undef) rfl (by kernel_rfl) (.inr ⟨by kernel_rfl, rfl⟩) S1 ?_
   try simp only [Act.put, zi, zz, zs]
   refine led_t (i := 11) (v := undef) rfl (by kernel_rfl) (.inr ⟨by kernel_rfl, rfl⟩) S1 ?_
   try simp only [Act.put, zi, zz, zs]
   refine led_t (i := 12) (v := undef) rfl (by kernel_rfl) (.inr ⟨by kernel_rfl, rfl⟩) S1 ?_
   try simp only [Act.put, zi, zz, zs]
   refine led_t (i := 13) (v := undef) rfl (by kernel_rfl) (.inr ⟨by kernel_rfl, rfl⟩) S1 ?_
   try simp only [Act.put, zi, zz, zs]
   refine led_t (i := 14) (v := undef) rfl (by kernel_rfl) (.inr ⟨by kernel_rfl, rfl⟩) S1 ?_
   try simp only [Act.put, zi, zz, zs]
   refine led_t (i := 15) (v := undef) rfl (by kernel_rfl) (.inr ⟨by kernel_rfl, rfl⟩) S1 ?_
   try simp only [Act.put, zi, zz, zs]
   refine led_n 16 S1 ?_
   refine led_one (i := 17) rfl (by kernel_rfl) ?_
   intro K2 hK2
   rw [if_pos (by rfl)]
   go_simp
   refine hK2 _ _ (fun h => absurd rfl h) ?_
   refine led_done (by kernel_rfl) ?_
   go_wp2_with fail
   go_ret
   exact ⟨rfl, hd.trans hb1⟩
 | true =>
   go_enter Tryz.func91, Tryz.ntmps91
   go_wp2_with fail
   go_region_held (fun w' => w'.cell? ⟨fb, 0, none⟩ = some (.string s) /\ w'.cell? ⟨fb, 1, none⟩ = some (.slice pa pn pc) /\ w'.cell? ⟨fb, 2, none⟩ = some (.int .i64 r) /\ w'.cell? ⟨fb, 3, none⟩ = some (.slice (some ⟨b, o, none⟩) vn vc) /\ w'.cell? ⟨fb, 4, none⟩ = some (.slice ba bn bc) /\ w'.cell? ⟨fb, 5, none⟩ = some (.slice fa fn fc) /\ w'.cell? ⟨kb, 5, none⟩ = some (.slice na nl nc) /\ w'.cell? ⟨b, o + j * 4 + 3, none⟩ = some (.slice xa xl xc)) (first | exact S0 | exact S1)
    (first | (go_at_call 92; refine (isPhi_at w.drew HD.out _ hx _ hR).mono ?_; rintro e w1 ⟨rfl, hb1⟩; have S1 := HS.out w1 hb1))
   all_goals go_wp2_with fail
   all_goals go_ret
   all_goals first | exact ⟨ret_len xl nl, hd.trans hb1⟩ | exact ⟨ret_len xl nl, below_drawn (hd.trans hb1) _⟩
def phP (f : Fu) (n : Nat) (x : Int) : Bool := isPh f x && decide ((gv f x).args.length = n)
def phiB (f : Fu) (b : Bk) : Bool := b.phis.all (phP f b.preds.length) && b.body.all (fun x => !isPh f x)
def phisP (f : Fu) : Bool := decide ((f.blks.getD 0 noB).phis.length = 0) && f.blks.all (phiB f)
theorem everyP11_at (w : World) {s : ByteArray} {pa : Option Addr} {pn pc : Nat} {r : Int} {va : Option Addr} {vn vc : Nat} {ba : Option Addr} {bn bc : Nat} {fa : Option Addr} {fn fc : Nat} {f : Fu} {FS : List Fu} (C : Ctx w s pa pn pc r va vn vc ba bn bc fa fn fc f FS) (fb kb : Nat) (hf : w.heap[fb]? = some (.cells #[.string s, .slice pa pn pc, .int .i64 r, .slice va vn vc, .slice ba bn bc, .slice fa fn fc] 77 (0, 0))) {ka : Option Addr} {kl kc : Nat} {la : Option Addr} {ll lc : Nat} {kd vl : Int} {ma : Option Addr} {ml mc : Nat} {na : Option Addr} {nl nc : Nat} (hk : w.heap[kb]? = some (.cells #[.slice ka kl kc, .slice la ll lc, .int .i64 kd, .int .i64 vl, .slice ma ml mc, .slice na nl nc] 30 (0, 0))) (ao : Option Addr) (n c : Nat) (L : List Int) (hn : n = L.length) (hL : Ints w ao c L) (hx : ∀ x ∈ L, wi vn x = true) (R : Bool) (hR : L.all (phP f nl) = R) :
 Calls Tryz.prog 78 #[.slice ao n c, .func (.func 91) #[] #[.pointer (some ⟨fb, 0, none⟩), .pointer (some ⟨kb, 0, none⟩)]] w fun e w' => e = .returned (.bool R) /\ Below w.heap.size w w' := by
 subst hR
 rw [<- evr_plain (phP f nl) L 0]
 refine everyI_any w ao c n L hn hL _ _ _ opens_p11 _ (Asks.two fun W i x hi hb hv => ?_)
 obtain rfl := hv.out
 exact phis11_any W (C.below hb (Nat.le_refl _)) fb kb ((hb.block _ (gl hf)).trans hf) ((hb.block _ (gl hk)).trans hk) i L[i] (hx _ (List.getElem_mem hi))
theorem everyP12_at (w : World) {s : ByteArray} {pa : Option Addr} {pn pc : Nat} {r : Int} {va : Option Addr} {vn vc : Nat} {ba : Option Addr} {bn bc : Nat} {fa : Option Addr} {fn fc : Nat} {f : Fu} {FS : List Fu} (C : Ctx w s pa pn pc r va vn vc ba bn bc fa fn fc f FS) (fb : Nat) (hf : w.heap[fb]? = some (.cells #[.string s, .slice pa pn pc, .int .i64 r, .slice va vn vc, .slice ba bn bc, .slice fa fn fc] 77 (0, 0))) (ao : Option Addr) (n c : Nat) (L : List Int) (hn : n = L.length) (hL : Ints w ao c L) (hx : ∀ x ∈ L, wi vn x = true) (R : Bool) (hR : L.all (fun x => !isPh f x) = R) :
 Calls Tryz.prog 78 #[.slice ao n c, .func (.func 93) #[] #[.pointer (some ⟨fb, 0, none⟩)]] w fun e w' => e = .returned (.bool R) /\ Below w.heap.size w w' := by
 subst hR
 rw [<- evr_plain (fun x => !isPh f x) L 0]
 refine everyI_any w ao c n L hn hL _ _ _ opens_p12 _ (Asks.one fun W i x hi hb hv => ?_)
 obtain rfl := hv.out
 exact phis12_any W (C.below hb (Nat.le_refl _)) fb ((hb.block _ (gl hf)).trans hf) i L[i] (hx _ (List.getElem_mem hi))
set_option maxRecDepth 100000 in
set_option maxHeartbeats 2000000 in
theorem phis1_any (w : World) {s : ByteArray} {pa : Option Addr} {pn pc : Nat} {r : Int} {va : Option Addr} {vn vc : Nat} {ba : Option Addr} {bn bc : Nat} {fa : Option Addr} {fn fc : Nat} {f : Fu} {FS : List Fu} (C : Ctx w s pa pn pc r va vn vc ba bn bc fa fn fc f FS) (fb : Nat) (hf : w.heap[fb]? = some (.cells #[.string s, .slice pa pn pc, .int .i64 r, .slice va vn vc, .slice ba bn bc, .slice fa fn fc] 77 (0, 0))) (i : Nat) (ka : Option Addr) (kl kc : Nat) (la : Option Addr) (ll lc : Nat) (kd vl : Int) (ma : Option Addr) (ml mc : Nat) (na : Option Addr) (nl nc : Nat) (A B M N : List Int) (e1 : kl = A.length) (h1 : Ints w ka kc A) (e2 : ll = B.length) (h2 : Ints w la lc B) (e4 : nl = N.length) (hA : ∀ x ∈ A, wi vn x = true) (hB : ∀ x ∈ B, wi vn x = true) :
 Calls Tryz.prog 90 #[.int .i64 i, .agg #[.slice ka kl kc, .slice la ll lc, .int .i64 kd, .int .i64 vl, .slice ma ml mc, .slice na nl nc], .pointer (some ⟨fb, 0, none⟩)] w fun e w' => e = .returned (.bool (phiB f ⟨A, B, kd, vl, M, N⟩)) /\ Below w.heap.size w w' := by
 have hlf := (gl hf)
 have A0 : Af1 w (.cells #[.slice ka kl kc, .slice la ll lc, .int .i64 kd, .int .i64 vl, .slice ma ml mc, .slice na nl nc] 30) (w.alloc (.cells #[.slice ka kl kc, .slice la ll lc, .int .i64 kd, .int .i64 vl, .slice ma ml mc, .slice na nl nc] 30)) := Af1.refl _ _
 have HC : Hid (∀ w', Af1 w (.cells #[.slice ka kl kc, .slice la ll lc, .int .i64 kd, .int .i64 vl, .slice ma ml mc, .slice na nl nc] 30) w' -> Ctx w' s pa pn pc r va vn vc ba bn bc fa fn fc f FS) := fun w' h => C.below h.low (Nat.le_refl _)
 have HF : Hid (∀ w', Af1 w (.cells #[.slice ka kl kc, .slice la ll lc, .int .i64 kd, .int .i64 vl, .slice ma ml mc, .slice na nl nc] 30) w' -> w'.heap[fb]? = some (.cells #[.string s, .slice pa pn pc, .int .i64 r, .slice va vn vc, .slice ba bn bc, .slice fa fn fc] 77 (0, 0))) := fun w' h => (h.low.block _ hlf).trans hf
 have H1 : Hid (∀ w', Af1 w (.cells #[.slice ka kl kc, .slice la ll lc, .int .i64 kd, .int .i64 vl, .slice ma ml mc, .slice na nl nc] 30) w' -> Ints w' ka kc A) := fun w' h => h1.below h.low (Nat.le_refl _)
 have H2 : Hid (∀ w', Af1 w (.cells #[.slice ka kl kc, .slice la ll lc, .int .i64 kd, .int .i64 vl, .slice ma ml mc, .slice na nl nc] 30) w' -> Ints w' la lc B) := fun w' h => h2.below h.low (Nat.le_refl _)
 have E1 : Hid (kl = A.length) := e1
 have E2 : Hid (ll = B.length) := e2
 have X1 : Hid (∀ x ∈ A, wi vn x = true) := hA
 have X2 : Hid (∀ x ∈ B, wi vn x = true) := hB
 unfold phiB
 simp only
 rw [<- e4]
 clear C h1 h2 e1 e2 e4 hA hB hf
 cases q1 : A.all (phP f nl) with
 | false =>
   go_enter Tryz.func90, Tryz.ntmps90
   go_wp2_with (go_at_call 78; refine (everyP11_at _ (HC.out _ A0) fb w.heap.size (HF.out _ A0) A0.one _ _ _ A E1.out (H1.out _ A0) X1.out _ q1).mono ?_; rintro e w1 ⟨rfl, hb1⟩)
   go_ret
   exact ⟨rfl, (A0.next hb1).low⟩
 | true =>
   generalize q2 : B.all (fun x => !isPh f x) = R
   go_enter Tryz.func90, Tryz.ntmps90
   go_wp2_with (first
    | (go_at_call 78; refine (everyP12_at w1 (HC.out _ A1) fb (HF.out _ A1) _ _ _ B E2.out (H2.out _ A1) X2.out _ q2).mono ?_; rintro e w2 ⟨rfl, hb2⟩)
    | (go_at_call 78; refine (everyP11_at _ (HC.out _ A0) fb w.heap.size (HF.out _ A0) A0.one _ _ _ A E1.out (H1.out _ A0) X1.out _ q1).mono ?_; rintro e w1 ⟨rfl, hb1⟩; have A1 := A0.next hb1; obtain ⟨v0, v1, v2, v3, v4, v5⟩ := bcells A1.one))
   go_ret
   exact ⟨by simp, (A1.next hb2).low⟩
theorem formP_blocks {f : Fu} {FS : List Fu} (h : formP FS f = true) : 0 < f.blks.length /\ ∀ b ∈ f.blks, blockP f b = true := by
 simp only [formP, Bool.and_eq_true, decide_eq_true_eq, List.all_eq_true] at h
 exact ⟨h.2.2.1, h.2.2.2.2.2.2⟩
theorem blockP_ph {f : Fu} {b : Bk} (h : blockP f b = true) : (∀ x ∈ b.phis, wi f.vals.length x = true) /\ (∀ x ∈ b.body, wi f.vals.length x = true) := by
 simp only [blockP, mayP, Bool.and_eq_true, List.all_eq_true] at h
 exact ⟨fun x hx => (h.1 x hx).1, fun x hx => (h.2.1 x hx).1⟩
theorem everyP1_at (w : World) {s : ByteArray} {pa : Option Addr} {pn pc : Nat} {r : Int} {va : Option Addr} {vn vc : Nat} {ba : Option Addr} {bn bc : Nat} {fa : Option Addr} {fn fc : Nat} {f : Fu} {FS : List Fu} (C : Ctx w s pa pn pc r va vn vc ba bn bc fa fn fc f FS) (hform : formP FS f = true) (fb : Nat) (hf : w.heap[fb]? = some (.cells #[.string s, .slice pa pn pc, .int .i64 r, .slice va vn vc, .slice ba bn bc, .slice fa fn fc] 77 (0, 0))) (R : Bool) (hR : f.blks.all (phiB f) = R) :
 Calls Tryz.prog 82 #[.slice ba bn bc, .func (.func 90) #[] #[.pointer (some ⟨fb, 0, none⟩)]] w fun e w' => e = .returned (.bool R) /\ Below w.heap.size w w' := by
 subst hR
 rw [<- evr_plain (phiB f) f.blks 0]
 refine everyB_any w ba bc bn f.blks C.eb C.hb _ _ _ opens_p1 _ (Asks.one fun W i x hi hb hv => ?_)
 obtain ⟨ka, kc, la, lc, ma, mc, na, nc, rfl, h1, h2, h3, h4⟩ := hv.out
 have hp := blockP_ph ((formP_blocks hform).2 _ (List.getElem_mem hi))
 rw [<- C.ev] at hp
 exact phis1_any W (C.below hb (Nat.le_refl _)) fb ((hb.block _ (gl hf)).trans hf) i ka _ kc la _ lc _ _ ma _ mc na _ nc _ _ _ _ rfl h1 rfl h2 rfl hp.1 hp.2
set_option maxRecDepth 100000 in
theorem phisFit_any (w : World) {s : ByteArray} {pa : Option Addr} {pn pc : Nat} {r : Int} {va : Option Addr} {vn vc : Nat} {ba : Option Addr} {bn bc : Nat} {fa : Option Addr} {fn fc : Nat} {f : Fu} {FS : List Fu} (C : Ctx w s pa pn pc r va vn vc ba bn bc fa fn fc f FS) (hform : formP FS f = true) :
 Calls Tryz.prog 55 #[.agg #[.string s, .slice pa pn pc, .int .i64 r, .slice va vn vc, .slice ba bn bc, .slice fa fn fc]] w fun e w' => e = .returned (.bool (phisP f)) /\ Below w.heap.size w w' := by
 have A0 : Af1 w (.cells #[.string s, .slice pa pn pc, .int .i64 r, .slice va vn vc, .slice ba bn bc, .slice fa fn fc] 77) (w.alloc (.cells #[.string s, .slice pa pn pc, .int .i64 r, .slice va vn vc, .slice ba bn bc, .slice fa fn fc] 77)) := Af1.refl _ _
 have C2 := C.below A0.low (Nat.le_refl _)
 have HC : Hid _ := C2
 have h0 := (formP_blocks hform).1
 obtain ⟨b, o, ka, kc, la, lc, ma, mc, na, nc, rfl, hlb, c0, c1, c2, c3, c4, c5, i1, i2, i3, i4⟩ := C2.hb.at h0
 have hbn : 0 < bn := by have := C.eb; omega
 have hbx : bn <= 9223372036854775807 := by have := C.hb.le; have := C.hb.mx; have := C.eb; omega
 unfold phisP
 have e0 : (f.blks.getD 0 noB).phis.length = f.blks[0].phis.length := by simp [h0]
 rw [e0]
 generalize f.blks[0].phis.length = n at c0
 have HX : Hid _ := hform
 clear C C2 h0 c1 c2 c3 c4 c5 i1 i2 i3 i4 e0 hform
 simp only [Nat.zero_mul, Nat.add_zero] at c0
 by_cases hn : n = 0
 ·subst hn
  generalize q : f.blks.all (phiB f) = R
  go_enter Tryz.func55, Tryz.ntmps55
  go_wp2_with (go_at_call 82; refine (everyP1_at _ HC.out HX.out w.heap.size A0.one _ q).mono ?_; rintro e w1 ⟨rfl, hb1⟩)
  go_ret
  exact ⟨by simp, (A0.next hb1).low⟩
 ·rw [decide_eq_false hn]
  go_enter Tryz.func55, Tryz.ntmps55
  go_wp2_with fail
  go_ret
  exact ⟨by simp, A0.low⟩
def isP (f : Fu) (x t : Int) : Bool := isTy t && decide ((gv f x).ty = t)
theorem isType_at (w : World) (t : Int) (R : Bool) (h : isTy t = R) : Calls Tryz.prog 118 #[.int .i64 t] w fun e w' => e = .returned (.bool R) /\ w' = w := by subst h; exact isType_any w t
theorem is_at (w : World) {s : ByteArray} {pa : Option Addr} {pn pc : Nat} {r : Int} {va : Option Addr} {vn vc : Nat} {ba : Option Addr} {bn bc : Nat} {fa : Option Addr} {fn fc : Nat} {f : Fu} {FS : List Fu} (C : Ctx w s pa pn pc r va vn vc ba bn bc fa fn fc f FS) (x t : Int) (hx : wi vn x = true) (R : Bool) (hR : isP f x t = R) :
 Calls Tryz.prog 130 #[.agg #[.string s, .slice pa pn pc, .int .i64 r, .slice va vn vc, .slice ba bn bc, .slice fa fn fc], .int .i64 x, .int .i64 t] w fun e w' => e = .returned (.bool R) /\ Below w.heap.size w w' := by
 subst hR
 unfold isP
 have A0 : Af1 w (.cells #[.string s, .slice pa pn pc, .int .i64 r, .slice va vn vc, .slice ba bn bc, .slice fa fn fc] 77) (w.alloc (.cells #[.string s, .slice pa pn pc, .int .i64 r, .slice va vn vc, .slice ba bn bc, .slice fa fn fc] 77)) := Af1.refl _ _
 obtain ⟨j, b, o, ka, kl, kc, rfl, hj, hvn, rfl, hlt, c0, c1, c2, c3, hkl, hI⟩ := (C.below A0.low (Nat.le_refl _)).val hx
 generalize gv f (j : Int) = y at c0 c1 c2 c3 hkl hI
 clear C hkl hI c0 c2 c3 hx
 cases hq : isTy t with
 | false =>
   go_enter Tryz.func130, Tryz.ntmps130
   go_wp2_with (go_at_call 118; refine (isType_at _ _ _ hq).mono ?_; rintro e w' ⟨rfl, rfl⟩)
   go_ret
   exact ⟨rfl, A0.low⟩
 | true =>
   generalize y.ty = u at c1
   by_cases e : u = t
   ·subst e
    go_enter Tryz.func130, Tryz.ntmps130
    go_wp2_with (go_at_call 118; refine (isType_at _ _ _ hq).mono ?_; rintro e w' ⟨rfl, rfl⟩)
    go_ret
    exact ⟨by simp, A0.low⟩
   ·go_enter Tryz.func130, Tryz.ntmps130
    go_wp2_with (go_at_call 118; refine (isType_at _ _ _ hq).mono ?_; rintro e w' ⟨rfl, rfl⟩)
    go_ret
    exact ⟨by simp [e], A0.low⟩
def constP (ty imm : Int) : Bool := decide (ty = 1 \/ (ty = 2 /\ (imm = 0 \/ imm = 1)) \/ (ty = 3 /\ imm = 0))
theorem constantFits_any (w : World) (op ty imm : Int) (ka : Option Addr) (kl kc : Nat) :
 Calls Tryz.prog 129 #[.agg #[.int .i64 op, .int .i64 ty, .int .i64 imm, .slice ka kl kc]] w fun e w' => e = .returned (.bool (constP ty imm)) /\ Below w.heap.size w w' := by
 have A0 : Af1 w (.cells #[.int .i64 op, .int .i64 ty, .int .i64 imm, .slice ka kl kc] 25) (w.alloc (.cells #[.int .i64 op, .int .i64 ty, .int .i64 imm, .slice ka kl kc] 25)) := Af1.refl _ _
 unfold constP
 by_cases h1 : ty = 1
 ·subst h1
  go_enter Tryz.func129, Tryz.ntmps129
  go_wp2_with fail
  go_ret
  exact ⟨by simp, A0.low⟩
 by_cases h2 : ty = 2
 ·subst h2
  by_cases i0 : imm = 0
  ·subst i0
   go_enter Tryz.func129, Tryz.ntmps129
   go_wp2_with fail
   go_ret
   exact ⟨by simp, A0.low⟩
  ·go_enter Tryz.func129, Tryz.ntmps129
   go_wp2_with fail
   go_ret
   exact ⟨by by_cases i1 : imm = 1 <;> simp [i0, i1], A0.low⟩
 by_cases h3 : ty = 3
 ·subst h3
  go_enter Tryz.func129, Tryz.ntmps129
  go_wp2_with fail
  go_ret
  exact ⟨by by_cases i0 : imm = 0 <;> simp [i0], A0.low⟩
 ·go_enter Tryz.func129, Tryz.ntmps129
  go_wp2_with fail
  go_ret
  exact ⟨by simp [h1, h2, h3], A0.low⟩
def termTy (f : Fu) (kd vl : Int) : Bool := if kd = 2 then isP f vl 2 else if kd = 4 then isP f vl 1 else if vl = -1 then true else isP f vl f.result
set_option maxRecDepth 100000 in
theorem termTypeFits_any (w : World) {s : ByteArray} {pa : Option Addr} {pn pc : Nat} {r : Int} {va : Option Addr} {vn vc : Nat} {ba : Option Addr} {bn bc : Nat} {fa : Option Addr} {fn fc : Nat} {f : Fu} {FS : List Fu} (C : Ctx w s pa pn pc r va vn vc ba bn bc fa fn fc f FS) (kd vl : Int) (ma : Option Addr) (ml mc : Nat) (hx : kd = 2 \/ kd = 4 \/ ¬ vl = -1 -> wi vn vl = true) :
 Calls Tryz.prog 98 #[.agg #[.string s, .slice pa pn pc, .int .i64 r, .slice va vn vc, .slice ba bn bc, .slice fa fn fc], .agg #[.int .i64 kd, .int .i64 vl, .slice ma ml mc]] w fun e w' => e = .returned (.bool (termTy f kd vl)) /\ Below w.heap.size w w' := by
 have A0 : Aft w (.cells #[.string s, .slice pa pn pc, .int .i64 r, .slice va vn vc, .slice ba bn bc, .slice fa fn fc] 77) (.cells #[.int .i64 kd, .int .i64 vl, .slice ma ml mc] 28) ((w.alloc (.cells #[.string s, .slice pa pn pc, .int .i64 r, .slice va vn vc, .slice ba bn bc, .slice fa fn fc] 77)).alloc (.cells #[.int .i64 kd, .int .i64 vl, .slice ma ml mc] 28)) := Aft.refl _ _ _
 have HC : Hid _ := C.below A0.low (Nat.le_refl _)
 unfold termTy
 rw [<- C.er]
 clear C
 by_cases k2 : kd = 2
 ·subst k2
  rw [if_pos rfl]
  have hw := hx (.inl rfl)
  generalize hR : isP f vl 2 = R
  clear hx
  go_enter Tryz.func98, Tryz.ntmps98
  go_wp2_with (go_at_call 130; refine (is_at _ HC.out _ _ hw _ hR).mono ?_; rintro e w1 ⟨rfl, hb1⟩)
  go_ret
  exact ⟨rfl, (A0.next hb1).low⟩
 rw [if_neg k2]
 by_cases k4 : kd = 4
 ·subst k4
  rw [if_pos rfl]
  have hw := hx (.inr (.inl rfl))
  generalize hR : isP f vl 1 = R
  clear hx
  go_enter Tryz.func98, Tryz.ntmps98
  go_wp2_with (go_at_call 130; refine (is_at _ HC.out _ _ hw _ hR).mono ?_; rintro e w1 ⟨rfl, hb1⟩)
  go_ret
  exact ⟨rfl, (A0.next hb1).low⟩
 rw [if_neg k4]
 by_cases kv : vl = -1
 ·subst kv
  rw [if_pos rfl]
  clear hx
  go_enter Tryz.func98, Tryz.ntmps98
  go_wp2_with fail
  go_ret
  exact ⟨rfl, A0.low⟩
 ·rw [if_neg kv]
  have hw := hx (.inr (.inr kv))
  generalize hR : isP f vl r = R
  clear hx
  go_enter Tryz.func98, Tryz.ntmps98
  go_wp2_with (go_at_call 130; refine (is_at _ HC.out _ _ hw _ hR).mono ?_; rintro e w1 ⟨rfl, hb1⟩)
  go_ret
  exact ⟨rfl, (A0.next hb1).low⟩
theorem opens_t1 : Opens 132 := Opens.of Tryz.func132 (by kernel_rfl) rfl
theorem opens_t2 : Opens 134 := Opens.of Tryz.func134 (by kernel_rfl) rfl
theorem opens_c1 : Opens 169 := Opens.of Tryz.func169 (by kernel_rfl) rfl
theorem opens_y1 : Opens 97 := Opens.of Tryz.func97 (by kernel_rfl) rfl
theorem opens_ty : Opens 96 := Opens.of Tryz.func96 (by kernel_rfl) rfl
theorem types1_any (w : World) {s : ByteArray} {pa : Option Addr} {pn pc : Nat} {r : Int} {va : Option Addr} {vn vc : Nat} {ba : Option Addr} {bn bc : Nat} {fa : Option Addr} {fn fc : Nat} {f : Fu} {FS : List Fu} (C : Ctx w s pa pn pc r va vn vc ba bn bc fa fn fc f FS) (fb vb : Nat) (hf : w.heap[fb]? = some (.cells #[.string s, .slice pa pn pc, .int .i64 r, .slice va vn vc, .slice ba bn bc, .slice fa fn fc] 77 (0, 0))) {op ty imm : Int} {ka : Option Addr} {kl kc : Nat} (hv : w.heap[vb]? = some (.cells #[.int .i64 op, .int .i64 ty, .int .i64 imm, .slice ka kl kc] 25 (0, 0))) (i : Nat) (x : Int) (hx : wi vn x = true) :
 Calls Tryz.prog 132 #[.int .i64 i, .int .i64 x, .pointer (some ⟨fb, 0, none⟩), .pointer (some ⟨vb, 0, none⟩)] w fun e w' => e = .returned (.bool (isP f x ty)) /\ Below w.heap.size w w' := by
 obtain ⟨f0, f1, f2, f3, f4, f5⟩ := fcells hf
 obtain ⟨v0, v1, v2, v3⟩ := vcells hv
 have HC : Hid _ := C
 generalize hR : isP f x ty = R
 clear C hf hv
 go_enter Tryz.func132, Tryz.ntmps132
 go_wp2_with (go_at_call 130; refine (is_at _ HC.out _ _ hx _ hR).mono ?_; rintro e w1 ⟨rfl, hb1⟩)
 go_ret
 exact ⟨rfl, hb1⟩
theorem everyT1_at (w : World) {s : ByteArray} {pa : Option Addr} {pn pc : Nat} {r : Int} {va : Option Addr} {vn vc : Nat} {ba : Option Addr} {bn bc : Nat} {fa : Option Addr} {fn fc : Nat} {f : Fu} {FS : List Fu} (C : Ctx w s pa pn pc r va vn vc ba bn bc fa fn fc f FS) (fb vb : Nat) (hf : w.heap[fb]? = some (.cells #[.string s, .slice pa pn pc, .int .i64 r, .slice va vn vc, .slice ba bn bc, .slice fa fn fc] 77 (0, 0))) {op ty imm : Int} {ka : Option Addr} {kl kc : Nat} (hv : w.heap[vb]? = some (.cells #[.int .i64 op, .int .i64 ty, .int .i64 imm, .slice ka kl kc] 25 (0, 0))) (ao : Option Addr) (n c : Nat) (L : List Int) (hn : n = L.length) (hL : Ints w ao c L) (hx : ∀ x ∈ L, wi vn x = true) (R : Bool) (hR : L.all (fun x => isP f x ty) = R) :
 Calls Tryz.prog 78 #[.slice ao n c, .func (.func 132) #[] #[.pointer (some ⟨fb, 0, none⟩), .pointer (some ⟨vb, 0, none⟩)]] w fun e w' => e = .returned (.bool R) /\ Below w.heap.size w w' := by
 subst hR
 rw [<- evr_plain (fun x => isP f x ty) L 0]
 refine everyI_any w ao c n L hn hL _ _ _ opens_t1 _ (Asks.two fun W i x hi hb hv' => ?_)
 obtain rfl := hv'.out
 exact types1_any W (C.below hb (Nat.le_refl _)) fb vb ((hb.block _ (gl hf)).trans hf) ((hb.block _ (gl hv)).trans hv) i L[i] (hx _ (List.getElem_mem hi))
def shA (H : Shp) (i : Nat) : Int := if i = 0 then H.a0 else if i = 1 then H.a1 else H.a2
theorem hcells {w : World} {g : Nat} {H : Shp} (h : w.heap[g]? = some (.cells #[.int .i64 H.count, .int .i64 H.a0, .int .i64 H.a1, .int .i64 H.a2, .int .i64 H.gives] 157 (0, 0))) : ∀ i, i < 3 -> w.cell? ⟨g, 1 + i, none⟩ = some (.int .i64 (shA H i)) := by
 intro i hi
 match i, hi with
 | 0, _ => exact cell_arr h rfl
 | 1, _ => exact cell_arr h rfl
 | 2, _ => exact cell_arr h rfl
set_option maxRecDepth 100000 in
set_option maxHeartbeats 2000000 in
theorem types2_any (w : World) {s : ByteArray} {pa : Option Addr} {pn pc : Nat} {r : Int} {va : Option Addr} {vn vc : Nat} {ba : Option Addr} {bn bc : Nat} {fa : Option Addr} {fn fc : Nat} {f : Fu} {FS : List Fu} (C : Ctx w s pa pn pc r va vn vc ba bn bc fa fn fc f FS) (fb hbk : Nat) (hf : w.heap[fb]? = some (.cells #[.string s, .slice pa pn pc, .int .i64 r, .slice va vn vc, .slice ba bn bc, .slice fa fn fc] 77 (0, 0))) {H : Shp} (hh : w.heap[hbk]? = some (.cells #[.int .i64 H.count, .int .i64 H.a0, .int .i64 H.a1, .int .i64 H.a2, .int .i64 H.gives] 157 (0, 0))) (i : Nat) (hi : i < 3) (x : Int) (hx : wi vn x = true) :
 Calls Tryz.prog 134 #[.int .i64 i, .int .i64 x, .pointer (some ⟨fb, 0, none⟩), .pointer (some ⟨hbk, 0, none⟩)] w fun e w' => e = .returned (.bool (isP f x (shA H i))) /\ Below w.heap.size w w' := by
 obtain ⟨f0, f1, f2, f3, f4, f5⟩ := fcells hf
 have hc := hcells hh i hi
 have hd : Below w.heap.size w w.drew := (Below.refl _ _).drew
 have HD : Hid (Ctx w.drew s pa pn pc r va vn vc ba bn bc fa fn fc f FS) := C.below hd (Nat.le_refl _)
 generalize shA H i = t at hc
 generalize hR : isP f x t = R
 have hlf := (gl hf)
 have hlh := (gl hh)
 have S0 : (fun w' : World => w'.cell? ⟨fb, 0, none⟩ = some (.string s) /\ w'.cell? ⟨fb, 1, none⟩ = some (.slice pa pn pc) /\ w'.cell? ⟨fb, 2, none⟩ = some (.int .i64 r) /\ w'.cell? ⟨fb, 3, none⟩ = some (.slice va vn vc) /\ w'.cell? ⟨fb, 4, none⟩ = some (.slice ba bn bc) /\ w'.cell? ⟨fb, 5, none⟩ = some (.slice fa fn fc) /\ w'.cell? ⟨hbk, 1 + i, none⟩ = some (.int .i64 t)) w.drew := ⟨f0, f1, f2, f3, f4, f5, hc⟩
 have HS : Hid (∀ w1, Below w.drew.heap.size w.drew w1 -> (fun w' : World => w'.cell? ⟨fb, 0, none⟩ = some (.string s) /\ w'.cell? ⟨fb, 1, none⟩ = some (.slice pa pn pc) /\ w'.cell? ⟨fb, 2, none⟩ = some (.int .i64 r) /\ w'.cell? ⟨fb, 3, none⟩ = some (.slice va vn vc) /\ w'.cell? ⟨fb, 4, none⟩ = some (.slice ba bn bc) /\ w'.cell? ⟨fb, 5, none⟩ = some (.slice fa fn fc) /\ w'.cell? ⟨hbk, 1 + i, none⟩ = some (.int .i64 t)) w1) := fun w1 hb1 => ⟨(hb1.cell (p := ⟨fb, 0, none⟩) hlf).trans f0, (hb1.cell (p := ⟨fb, 1, none⟩) hlf).trans f1, (hb1.cell (p := ⟨fb, 2, none⟩) hlf).trans f2, (hb1.cell (p := ⟨fb, 3, none⟩) hlf).trans f3, (hb1.cell (p := ⟨fb, 4, none⟩) hlf).trans f4, (hb1.cell (p := ⟨fb, 5, none⟩) hlf).trans f5, (hb1.cell (p := ⟨hbk, 1 + i, none⟩) hlh).trans hc⟩
 clear C hf hh
 have hi2 : (i : Int) < 3 := by omega
 go_enter Tryz.func134, Tryz.ntmps134
 go_wp2_with fail
 go_region_held (fun w' => w'.cell? ⟨fb, 0, none⟩ = some (.string s) /\ w'.cell? ⟨fb, 1, none⟩ = some (.slice pa pn pc) /\ w'.cell? ⟨fb, 2, none⟩ = some (.int .i64 r) /\ w'.cell? ⟨fb, 3, none⟩ = some (.slice va vn vc) /\ w'.cell? ⟨fb, 4, none⟩ = some (.slice ba bn bc) /\ w'.cell? ⟨fb, 5, none⟩ = some (.slice fa fn fc) /\ w'.cell? ⟨hbk, 1 + i, none⟩ = some (.int .i64 t)) (first | exact S0 | exact S1)
  (first | (go_at_call 130; refine (is_at w.drew HD.out _ _ hx _ hR).mono ?_; rintro e w1 ⟨rfl, hb1⟩; have S1 := HS.out w1 hb1))
 all_goals go_wp2_with fail
 all_goals go_ret
 all_goals first | exact ⟨rfl, hd.trans hb1⟩ | exact ⟨rfl, below_drawn (hd.trans hb1) _⟩
structure Gx (w : World) (gs : ByteArray) (ka : Option Addr) (kl kc : Nat) (gr : Int) (la : Option Addr) (ll lc : Nat) (ma : Option Addr) (ml mc : Nat) (G : Fu) : Prop where
 ek : kl = G.params.length
 er : gr = G.result
 el : ll = G.vals.length
 hk : Ints w ka kc G.params
 hl : Vls w la lc G.vals
theorem Gx.below {w w' : World} {K : Nat} {gs ka kl kc gr la ll lc ma ml mc G} (h : Gx w gs ka kl kc gr la ll lc ma ml mc G) (hb : Below K w w') (hK : w.heap.size <= K) : Gx w' gs ka kl kc gr la ll lc ma ml mc G :=
 ⟨h.ek, h.er, h.el, h.hk.below hb hK, h.hl.below hb hK⟩
theorem gcells {w : World} {g : Nat} {gs : ByteArray} {ka : Option Addr} {kl kc : Nat} {gr : Int} {la : Option Addr} {ll lc : Nat} {ma : Option Addr} {ml mc : Nat} (h : w.heap[g]? = some (.cells #[.string gs, .slice ka kl kc, .int .i64 gr, .slice la ll lc, .slice ma ml mc] 33 (0, 0))) : w.cell? ⟨g, 0, none⟩ = some (.string gs) /\ w.cell? ⟨g, 1, none⟩ = some (.slice ka kl kc) /\ w.cell? ⟨g, 2, none⟩ = some (.int .i64 gr) /\ w.cell? ⟨g, 3, none⟩ = some (.slice la ll lc) /\ w.cell? ⟨g, 4, none⟩ = some (.slice ma ml mc) :=
 ⟨cell_arr h rfl, cell_arr h rfl, cell_arr h rfl, cell_arr h rfl, cell_arr h rfl⟩
theorem Vls.at {w ao cap} {L : List Vl} (h : Vls w ao cap L) {j : Nat} (hj : j < L.length) : ∃ (b o : Nat), ao = some ⟨b, o, none⟩ /\ b < w.heap.size /\ w.cell? ⟨b, o + j * 4 + 1, none⟩ = some (.int .i64 L[j].ty) := by
 obtain ⟨b, o, e, hlt, hA⟩ := h.out (by intro e; rw [e] at hj; simp at hj)
 obtain ⟨ka, kc, c0, c1, c2, c3, hI⟩ := (hA j hj).out
 exact ⟨b, o, e, hlt, c1⟩
def calA (f G : Fu) (i : Nat) (x : Int) : Bool := isP f x (gv G (G.params.getD i 0)).ty
set_option maxRecDepth 100000 in
set_option maxHeartbeats 4000000 in
theorem calls1_any (w : World) {s : ByteArray} {pa : Option Addr} {pn pc : Nat} {r : Int} {va : Option Addr} {vn vc : Nat} {ba : Option Addr} {bn bc : Nat} {fa : Option Addr} {fn fc : Nat} {f : Fu} {FS : List Fu} (C : Ctx w s pa pn pc r va vn vc ba bn bc fa fn fc f FS) (fb gb : Nat) (hf : w.heap[fb]? = some (.cells #[.string s, .slice pa pn pc, .int .i64 r, .slice va vn vc, .slice ba bn bc, .slice fa fn fc] 77 (0, 0))) {gs : ByteArray} {ka : Option Addr} {kl kc : Nat} {gr : Int} {la : Option Addr} {ll lc : Nat} {ma : Option Addr} {ml mc : Nat} {G : Fu} (hg : w.heap[gb]? = some (.cells #[.string gs, .slice ka kl kc, .int .i64 gr, .slice la ll lc, .slice ma ml mc] 33 (0, 0))) (GX : Gx w gs ka kl kc gr la ll lc ma ml mc G) (i : Nat) (hi : i < kl) (hpi : wi ll (G.params.getD i 0) = true) (x : Int) (hx : wi vn x = true) :
 Calls Tryz.prog 169 #[.int .i64 i, .int .i64 x, .pointer (some ⟨fb, 0, none⟩), .pointer (some ⟨gb, 0, none⟩)] w fun e w' => e = .returned (.bool (calA f G i x)) /\ Below w.heap.size w w' := by
 obtain ⟨f0, f1, f2, f3, f4, f5⟩ := fcells hf
 obtain ⟨g0, g1, g2, g3, g4⟩ := gcells hg
 have hlf := (gl hf)
 have hlg := (gl hg)
 have hi' : i < G.params.length := by have := GX.ek; omega
 obtain ⟨b1, o1, rfl, k1⟩ := GX.hk.at hi'
 have hl1 : b1 < w.heap.size := by have := block_lt_of_cell k1; simpa using this
 have e1 : G.params.getD i 0 = G.params[i] := by simp [hi']
 unfold calA
 rw [e1] at hpi ⊢
 simp only [wi, decide_eq_true_eq] at hpi
 obtain ⟨j, hj⟩ : ∃ j : Nat, G.params[i] = j := ⟨G.params[i].toNat, by omega⟩
 rw [hj] at k1 hpi ⊢
 have hjl : j < ll := by omega
 have hjl' : j < G.vals.length := by have := GX.el; omega
 obtain ⟨b2, o2, rfl, hl2, k2⟩ := GX.hl.at hjl'
 rw [gv_at G j hjl']
 have hll : ll <= 9223372036854775807 := by have := GX.hl.le; have := GX.hl.mx; have := GX.el; omega
 have hkl : kl <= 9223372036854775807 := by have := GX.hk.le; have := GX.hk.mx; have := GX.ek; omega
 generalize G.vals[j].ty = t at k2
 have hd : Below w.heap.size w w.drew := (Below.refl _ _).drew
 have HD : Hid (Ctx w.drew s pa pn pc r va vn vc ba bn bc fa fn fc f FS) := C.below hd (Nat.le_refl _)
 have S0 : (fun w' : World => w'.cell? ⟨fb, 0, none⟩ = some (.string s) /\ w'.cell? ⟨fb, 1, none⟩ = some (.slice pa pn pc) /\ w'.cell? ⟨fb, 2, none⟩ = some (.int .i64 r) /\ w'.cell? ⟨fb, 3, none⟩ = some (.slice va vn vc) /\ w'.cell? ⟨fb, 4, none⟩ = some (.slice ba bn bc) /\ w'.cell? ⟨fb, 5, none⟩ = some (.slice fa fn fc) /\ w'.cell? ⟨gb, 3, none⟩ = some (.slice (some ⟨b2, o2, none⟩) ll lc) /\ w'.cell? ⟨gb, 1, none⟩ = some (.slice (some ⟨b1, o1, none⟩) kl kc) /\ w'.cell? ⟨b1, o1 + i, none⟩ = some (.int .i64 (j : Int)) /\ w'.cell? ⟨b2, o2 + j * 4 + 1, none⟩ = some (.int .i64 t)) w.drew := ⟨f0, f1, f2, f3, f4, f5, g3, g1, k1, k2⟩
 have HS : Hid (∀ w1, Below w.drew.heap.size w.drew w1 -> (fun w' : World => w'.cell? ⟨fb, 0, none⟩ = some (.string s) /\ w'.cell? ⟨fb, 1, none⟩ = some (.slice pa pn pc) /\ w'.cell? ⟨fb, 2, none⟩ = some (.int .i64 r) /\ w'.cell? ⟨fb, 3, none⟩ = some (.slice va vn vc) /\ w'.cell? ⟨fb, 4, none⟩ = some (.slice ba bn bc) /\ w'.cell? ⟨fb, 5, none⟩ = some (.slice fa fn fc) /\ w'.cell? ⟨gb, 3, none⟩ = some (.slice (some ⟨b2, o2, none⟩) ll lc) /\ w'.cell? ⟨gb, 1, none⟩ = some (.slice (some ⟨b1, o1, none⟩) kl kc) /\ w'.cell? ⟨b1, o1 + i, none⟩ = some (.int .i64 (j : Int)) /\ w'.cell? ⟨b2, o2 + j * 4 + 1, none⟩ = some (.int .i64 t)) w1) := fun w1 hb1 => ⟨(hb1.cell (p := ⟨fb, 0, none⟩) hlf).trans f0, (hb1.cell (p := ⟨fb, 1, none⟩) hlf).trans f1, (hb1.cell (p := ⟨fb, 2, none⟩) hlf).trans f2, (hb1.cell (p := ⟨fb, 3, none⟩) hlf).trans f3, (hb1.cell (p := ⟨fb, 4, none⟩) hlf).trans f4, (hb1.cell (p := ⟨fb, 5, none⟩) hlf).trans f5, (hb1.cell (p := ⟨gb, 3, none⟩) hlg).trans g3, (hb1.cell (p := ⟨gb, 1, none⟩) hlg).trans g1, (hb1.cell (p := ⟨b1, o1 + i, none⟩) hl1).trans k1, (hb1.cell (p := ⟨b2, o2 + j * 4 + 1, none⟩) hl2).trans k2⟩
 generalize hR : isP f x t = R
 clear C hf hg GX hi' hpi hj hjl' e1
 go_enter Tryz.func169, Tryz.ntmps169
 go_wp2_with fail
 go_region_held (fun w' => w'.cell? ⟨fb, 0, none⟩ = some (.string s) /\ w'.cell? ⟨fb, 1, none⟩ = some (.slice pa pn pc) /\ w'.cell? ⟨fb, 2, none⟩ = some (.int .i64 r) /\ w'.cell? ⟨fb, 3, none⟩ = some (.slice va vn vc) /\ w'.cell? ⟨fb, 4, none⟩ = some (.slice ba bn bc) /\ w'.cell? ⟨fb, 5, none⟩ = some (.slice fa fn fc) /\ w'.cell? ⟨gb, 3, none⟩ = some (.slice (some ⟨b2, o2, none⟩) ll lc) /\ w'.cell? ⟨gb, 1, none⟩ = some (.slice (some ⟨b1, o1, none⟩) kl kc) /\ w'.cell? ⟨b1, o1 + i, none⟩ = some (.int .i64 (j : Int)) /\ w'.cell? ⟨b2, o2 + j * 4 + 1, none⟩ = some (.int .i64 t)) (first | exact S0 | exact S1)
  (first | (go_at_call 130; refine (is_at w.drew HD.out _ _ hx _ hR).mono ?_; rintro e w1 ⟨rfl, hb1⟩; have S1 := HS.out w1 hb1))
 all_goals go_wp2_with fail
 all_goals go_ret
 all_goals first | exact ⟨rfl, hd.trans hb1⟩ | exact ⟨rfl, below_drawn (hd.trans hb1) _⟩
end Go.Proofs.YtfbkopjncmkbiabGreatDoor
