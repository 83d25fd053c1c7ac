import Derived.Deep.RegionHeld3
import Derived.Test.YtfbkopjncmkbiaaGreatDoorJaj
set_option linter.unusedVariables false
set_option linter.unusedSimpArgs false
namespace Go.Proofs.YtfbkopjncmkbiaaGreatDoor
open Go.ChangeShapes Go.WideShapes Go.ChangeAt Go.RowKit Go.Maps
def isPh (f : Fu) (x : Int) : Bool := decide ((gv f x).op = 32)
theorem isPhi_at (w : World) {s : ByteArray} {pa : Option Addr} {pn pc : Nat} {r : Int} {va : Option Addr} {vn vc : Nat} {ba : Option Addr} {bn bc : Nat} {fa : Option Addr} {fn fc : Nat} {f : Fu} {FS : List Fu} (C : Ctx w s pa pn pc r va vn vc ba bn bc fa fn fc f FS) (x : Int) (hx : wi vn x = true) (R : Bool) (hR : isPh f x = R) :
 Calls Tryz.prog 102 #[.agg #[.string s, .slice pa pn pc, .int .i64 r, .slice va vn vc, .slice ba bn bc, .slice fa fn fc], .int .i64 x] w fun e w' => e = .returned (.bool R) /\ Below w.heap.size w w' := by
 subst hR
 unfold isPh
 have A0 : Af1 w (.cells #[.string s, .slice pa pn pc, .int .i64 r, .slice va vn vc, .slice ba bn bc, .slice fa fn fc] 85) (w.alloc (.cells #[.string s, .slice pa pn pc, .int .i64 r, .slice va vn vc, .slice ba bn bc, .slice fa fn fc] 85)) := Af1.refl _ _
 obtain ⟨j, b, o, ka, kl, kc, rfl, hj, hvn, rfl, hlt, c0, c1, c2, c3, hkl, hI⟩ := (C.below A0.low (Nat.le_refl _)).val hx
 generalize gv f (j : Int) = y at c0 c1 c2 c3 hkl hI
 clear C hkl hI c3 c1 c2 hx
 go_enter Tryz.func102, Tryz.ntmps102
 go_wp2_with fail
 go_ret
 exact ⟨rfl, A0.low⟩
theorem ret_len (a b : Nat) : Ending.returned (.bool ((a : Int) == (b : Int))) = .returned (.bool (true && decide (a = b))) := by
 by_cases e : a = b
 ·subst e; simp
 ·have : ¬ (a : Int) = b := by omega
  simp [e, this]
theorem opens_p1 : Opens 100 := Opens.of Tryz.func100 (by kernel_rfl) rfl
theorem opens_p11 : Opens 101 := Opens.of Tryz.func101 (by kernel_rfl) rfl
theorem opens_p12 : Opens 103 := Opens.of Tryz.func103 (by kernel_rfl) rfl
theorem phis12_any (w : World) {s : ByteArray} {pa : Option Addr} {pn pc : Nat} {r : Int} {va : Option Addr} {vn vc : Nat} {ba : Option Addr} {bn bc : Nat} {fa : Option Addr} {fn fc : Nat} {f : Fu} {FS : List Fu} (C : Ctx w s pa pn pc r va vn vc ba bn bc fa fn fc f FS) (fb : Nat) (hf : w.heap[fb]? = some (.cells #[.string s, .slice pa pn pc, .int .i64 r, .slice va vn vc, .slice ba bn bc, .slice fa fn fc] 85 (0, 0))) (i : Nat) (x : Int) (hx : wi vn x = true) :
 Calls Tryz.prog 103 #[.int .i64 i, .int .i64 x, .pointer (some ⟨fb, 0, none⟩)] w fun e w' => e = .returned (.bool (!isPh f x)) /\ Below w.heap.size w w' := by
 obtain ⟨f0, f1, f2, f3, f4, f5⟩ := fcells hf
 have HC : Hid _ := C
 generalize hR : isPh f x = R
 clear C hf
 go_enter Tryz.func103, Tryz.ntmps103
 go_wp2_with (go_at_call 102; refine (isPhi_at _ HC.out _ hx _ hR).mono ?_; rintro e w1 ⟨rfl, hb1⟩)
 go_ret
 exact ⟨rfl, hb1⟩
set_option maxRecDepth 100000 in
set_option maxHeartbeats 4000000 in
theorem phis11_any (w : World) {s : ByteArray} {pa : Option Addr} {pn pc : Nat} {r : Int} {va : Option Addr} {vn vc : Nat} {ba : Option Addr} {bn bc : Nat} {fa : Option Addr} {fn fc : Nat} {f : Fu} {FS : List Fu} (C : Ctx w s pa pn pc r va vn vc ba bn bc fa fn fc f FS) (fb kb : Nat) (hf : w.heap[fb]? = some (.cells #[.string s, .slice pa pn pc, .int .i64 r, .slice va vn vc, .slice ba bn bc, .slice fa fn fc] 85 (0, 0))) {ka : Option Addr} {kl kc : Nat} {la : Option Addr} {ll lc : Nat} {kd vl : Int} {ma : Option Addr} {ml mc : Nat} {na : Option Addr} {nl nc : Nat} (hk : w.heap[kb]? = some (.cells #[.slice ka kl kc, .slice la ll lc, .int .i64 kd, .int .i64 vl, .slice ma ml mc, .slice na nl nc] 50 (0, 0))) (i : Nat) (x : Int) (hx : wi vn x = true) :
 Calls Tryz.prog 101 #[.int .i64 i, .int .i64 x, .pointer (some ⟨fb, 0, none⟩), .pointer (some ⟨kb, 0, none⟩)] w fun e w' => e = .returned (.bool (isPh f x && decide ((gv f x).args.length = nl))) /\ Below w.heap.size w w' := by
 have HC : Hid _ := C
 have hlf := (gl hf)
 have hlk := (gl hk)
 obtain ⟨f0, f1, f2, f3, f4, f5⟩ := fcells hf
 obtain ⟨b0, b1, b2, b3, b4, b5⟩ := bcells hk
 have hd : Below w.heap.size w w.drew := (Below.refl _ _).drew
 have HD : Hid (Ctx w.drew s pa pn pc r va vn vc ba bn bc fa fn fc f FS) := C.below hd (Nat.le_refl _)
 obtain ⟨j, b, o, xa, xl, xc, rfl, hj, hvn, rfl, hlt, c0, c1, c2, c3, hkl, hI⟩ := C.val hx
 rw [<- hkl]
 have S0 : (fun w' : World => w'.cell? ⟨fb, 0, none⟩ = some (.string s) /\ w'.cell? ⟨fb, 1, none⟩ = some (.slice pa pn pc) /\ w'.cell? ⟨fb, 2, none⟩ = some (.int .i64 r) /\ w'.cell? ⟨fb, 3, none⟩ = some (.slice (some ⟨b, o, none⟩) vn vc) /\ w'.cell? ⟨fb, 4, none⟩ = some (.slice ba bn bc) /\ w'.cell? ⟨fb, 5, none⟩ = some (.slice fa fn fc) /\ w'.cell? ⟨kb, 5, none⟩ = some (.slice na nl nc) /\ w'.cell? ⟨b, o + j * 4 + 3, none⟩ = some (.slice xa xl xc)) w.drew := ⟨f0, f1, f2, f3, f4, f5, b5, c3⟩
 have HS : Hid (∀ w1, Below w.drew.heap.size w.drew w1 -> (fun w' : World => w'.cell? ⟨fb, 0, none⟩ = some (.string s) /\ w'.cell? ⟨fb, 1, none⟩ = some (.slice pa pn pc) /\ w'.cell? ⟨fb, 2, none⟩ = some (.int .i64 r) /\ w'.cell? ⟨fb, 3, none⟩ = some (.slice (some ⟨b, o, none⟩) vn vc) /\ w'.cell? ⟨fb, 4, none⟩ = some (.slice ba bn bc) /\ w'.cell? ⟨fb, 5, none⟩ = some (.slice fa fn fc) /\ w'.cell? ⟨kb, 5, none⟩ = some (.slice na nl nc) /\ w'.cell? ⟨b, o + j * 4 + 3, none⟩ = some (.slice xa xl xc)) w1) := fun w1 hb1 => ⟨(hb1.cell (p := ⟨fb, 0, none⟩) hlf).trans f0, (hb1.cell (p := ⟨fb, 1, none⟩) hlf).trans f1, (hb1.cell (p := ⟨fb, 2, none⟩) hlf).trans f2, (hb1.cell (p := ⟨fb, 3, none⟩) hlf).trans f3, (hb1.cell (p := ⟨fb, 4, none⟩) hlf).trans f4, (hb1.cell (p := ⟨fb, 5, none⟩) hlf).trans f5, (hb1.cell (p := ⟨kb, 5, none⟩) hlk).trans b5, (hb1.cell (p := ⟨b, o + j * 4 + 3, none⟩) hlt).trans c3⟩
 clear C hkl hI c0 c1 c2
 cases hR : isPh f (j : Int) with
 | false =>
   go_enter Tryz.func101, Tryz.ntmps101
   go_wp2_with fail
   refine led_start (S := fun w' : World => w'.cell? ⟨fb, 0, none⟩ = some (.string s) /\ w'.cell? ⟨fb, 1, none⟩ = some (.slice pa pn pc) /\ w'.cell? ⟨fb, 2, none⟩ = some (.int .i64 r) /\ w'.cell? ⟨fb, 3, none⟩ = some (.slice (some ⟨b, o, none⟩) vn vc) /\ w'.cell? ⟨fb, 4, none⟩ = some (.slice ba bn bc) /\ w'.cell? ⟨fb, 5, none⟩ = some (.slice fa fn fc) /\ w'.cell? ⟨kb, 5, none⟩ = some (.slice na nl nc) /\ w'.cell? ⟨b, o + j * 4 + 3, none⟩ = some (.slice xa xl xc)) (z := 17) (by kernel_rfl) ?_
   refine led_n 0 S0 ?_
   refine led_n 1 S0 ?_
   refine led_one (i := 2) rfl (by kernel_rfl) ?_
   intro K' hK
   rw [if_pos (by rfl)]
   go_simp
   refine (isPhi_at w.drew HD.out _ hx _ hR).mono ?_
   rintro e w1 ⟨rfl, hb1⟩
   have S1 := HS.out w1 hb1
   refine hK _ _ (fun _ => S1) ?_
   try simp only [Act.put, zi, zz, zs]
   refine led_n 3 S1 ?_
   refine led_t (i := 4) (v := undef) rfl (by kernel_rfl) (.inr ⟨by kernel_rfl, rfl⟩) S1 ?_
   try simp only [Act.put, zi, zz, zs]
   refine led_t (i := 5) (v := undef) rfl (by kernel_rfl) (.inr ⟨by kernel_rfl, rfl⟩) S1 ?_
   try simp only [Act.put, zi, zz, zs]
   refine led_t (i := 6) (v := undef) rfl (by kernel_rfl) (.inr ⟨by kernel_rfl, rfl⟩) S1 ?_
   try simp only [Act.put, zi, zz, zs]
   refine led_t (i := 7) (v := undef) rfl (by kernel_rfl) (.inr ⟨by kernel_rfl, rfl⟩) S1 ?_
   try simp only [Act.put, zi, zz, zs]
   refine led_t (i := 8) (v := undef) rfl (by kernel_rfl) (.inr ⟨by kernel_rfl, rfl⟩) S1 ?_
   try simp only [Act.put, zi, zz, zs]
   refine led_t (i := 9) (v := undef) rfl (by kernel_rfl) (.inr ⟨by kernel_rfl, rfl⟩) S1 ?_
   try simp only [Act.put, zi, zz, zs]
   refine led_t (i := 10) (v := undef) rfl (by kernel_rfl) (.inr ⟨by kernel_rfl, rfl⟩) S1 ?_
   try simp only [Act.put, zi, zz, zs]
   refine led_t (i := 11) (v := undef) rfl (by kernel_rfl) (.inr ⟨by kernel_rfl, rfl⟩) S1 ?_
   try simp only [Act.put, zi, zz, zs]
   refine led_t (i := 12) (v := undef) rfl (by kernel_rfl) (.inr ⟨by kernel_rfl, rfl⟩) S1 ?_
   try simp only [Act.put, zi, zz, zs]
   refine led_t (i := 13) (v := undef) rfl (by kernel_rfl) (.inr ⟨by kernel_rfl, rfl⟩) S1 ?_
   try simp only [Act.put, zi, zz, zs]
   refine led_t (i := 14) (v := undef) rfl (by kernel_rfl) (.inr ⟨by kernel_rfl, rfl⟩) S1 ?_
   try simp only [Act.put, zi, zz, zs]
   refine led_t (i := 15) (v := undef) rfl (by kernel_rfl) (.inr ⟨by kernel_rfl, rfl⟩) S1 ?_
   try simp only [Act.put, zi, zz, zs]
   refine led_n 16 S1 ?_
   refine led_one (i := 17) rfl (by kernel_rfl) ?_
   intro K2 hK2
   rw [if_pos (by rfl)]
   go_simp
   refine hK2 _ _ (fun h => absurd rfl h) ?_
   refine led_done (by kernel_rfl) ?_
   go_wp2_with fail
   go_ret
   exact ⟨rfl, hd.trans hb1⟩
 | true =>
   go_enter Tryz.func101, Tryz.ntmps101
   go_wp2_with fail
   go_region_held (fun w' => w'.cell? ⟨fb, 0, none⟩ = some (.string s) /\ w'.cell? ⟨fb, 1, none⟩ = some (.slice pa pn pc) /\ w'.cell? ⟨fb, 2, none⟩ = some (.int .i64 r) /\ w'.cell? ⟨fb, 3, none⟩ = some (.slice (some ⟨b, o, none⟩) vn vc) /\ w'.cell? ⟨fb, 4, none⟩ = some (.slice ba bn bc) /\ w'.cell? ⟨fb, 5, none⟩ = some (.slice fa fn fc) /\ w'.cell? ⟨kb, 5, none⟩ = some (.slice na nl nc) /\ w'.cell? ⟨b, o + j * 4 + 3, none⟩ = some (.slice xa xl xc)) (first | exact S0 | exact S1)
    (first | (go_at_call 102; refine (isPhi_at w.drew HD.out _ hx _ hR).mono ?_; rintro e w1 ⟨rfl, hb1⟩; have S1 := HS.out w1 hb1))
   all_goals go_wp2_with fail
   all_goals go_ret
   all_goals first | exact ⟨ret_len xl nl, hd.trans hb1⟩ | exact ⟨ret_len xl nl, below_drawn (hd.trans hb1) _⟩
def phP (f : Fu) (n : Nat) (x : Int) : Bool := isPh f x && decide ((gv f x).args.length = n)
def phiB (f : Fu) (b : Bk) : Bool := b.phis.all (phP f b.preds.length) && b.body.all (fun x => !isPh f x)
def phisP (f : Fu) : Bool := decide ((f.blks.getD 0 noB).phis.length = 0) && f.blks.all (phiB f)
theorem everyP11_at (w : World) {s : ByteArray} {pa : Option Addr} {pn pc : Nat} {r : Int} {va : Option Addr} {vn vc : Nat} {ba : Option Addr} {bn bc : Nat} {fa : Option Addr} {fn fc : Nat} {f : Fu} {FS : List Fu} (C : Ctx w s pa pn pc r va vn vc ba bn bc fa fn fc f FS) (fb kb : Nat) (hf : w.heap[fb]? = some (.cells #[.string s, .slice pa pn pc, .int .i64 r, .slice va vn vc, .slice ba bn bc, .slice fa fn fc] 85 (0, 0))) {ka : Option Addr} {kl kc : Nat} {la : Option Addr} {ll lc : Nat} {kd vl : Int} {ma : Option Addr} {ml mc : Nat} {na : Option Addr} {nl nc : Nat} (hk : w.heap[kb]? = some (.cells #[.slice ka kl kc, .slice la ll lc, .int .i64 kd, .int .i64 vl, .slice ma ml mc, .slice na nl nc] 50 (0, 0))) (ao : Option Addr) (n c : Nat) (L : List Int) (hn : n = L.length) (hL : Ints w ao c L) (hx : ∀ x ∈ L, wi vn x = true) (R : Bool) (hR : L.all (phP f nl) = R) :
 Calls Tryz.prog 88 #[.slice ao n c, .func (.func 101) #[] #[.pointer (some ⟨fb, 0, none⟩), .pointer (some ⟨kb, 0, none⟩)]] w fun e w' => e = .returned (.bool R) /\ Below w.heap.size w w' := by
 subst hR
 rw [<- evr_plain (phP f nl) L 0]
 refine everyI_any w ao c n L hn hL _ _ _ opens_p11 _ (Asks.two fun W i x hi hb hv => ?_)
 obtain rfl := hv.out
 exact phis11_any W (C.below hb (Nat.le_refl _)) fb kb ((hb.block _ (gl hf)).trans hf) ((hb.block _ (gl hk)).trans hk) i L[i] (hx _ (List.getElem_mem hi))
theorem everyP12_at (w : World) {s : ByteArray} {pa : Option Addr} {pn pc : Nat} {r : Int} {va : Option Addr} {vn vc : Nat} {ba : Option Addr} {bn bc : Nat} {fa : Option Addr} {fn fc : Nat} {f : Fu} {FS : List Fu} (C : Ctx w s pa pn pc r va vn vc ba bn bc fa fn fc f FS) (fb : Nat) (hf : w.heap[fb]? = some (.cells #[.string s, .slice pa pn pc, .int .i64 r, .slice va vn vc, .slice ba bn bc, .slice fa fn fc] 85 (0, 0))) (ao : Option Addr) (n c : Nat) (L : List Int) (hn : n = L.length) (hL : Ints w ao c L) (hx : ∀ x ∈ L, wi vn x = true) (R : Bool) (hR : L.all (fun x => !isPh f x) = R) :
 Calls Tryz.prog 88 #[.slice ao n c, .func (.func 103) #[] #[.pointer (some ⟨fb, 0, none⟩)]] w fun e w' => e = .returned (.bool R) /\ Below w.heap.size w w' := by
 subst hR
 rw [<- evr_plain (fun x => !isPh f x) L 0]
 refine everyI_any w ao c n L hn hL _ _ _ opens_p12 _ (Asks.one fun W i x hi hb hv => ?_)
 obtain rfl := hv.out
 exact phis12_any W (C.below hb (Nat.le_refl _)) fb ((hb.block _ (gl hf)).trans hf) i L[i] (hx _ (List.getElem_mem hi))
set_option maxRecDepth 100000 in
set_option maxHeartbeats 2000000 in
theorem phis1_any (w : World) {s : ByteArray} {pa : Option Addr} {pn pc : Nat} {r : Int} {va : Option Addr} {vn vc : Nat} {ba : Option Addr} {bn bc : Nat} {fa : Option Addr} {fn fc : Nat} {f : Fu} {FS : List Fu} (C : Ctx w s pa pn pc r va vn vc ba bn bc fa fn fc f FS) (fb : Nat) (hf : w.heap[fb]? = some (.cells #[.string s, .slice pa pn pc, .int .i64 r, .slice va vn vc, .slice ba bn bc, .slice fa fn fc] 85 (0, 0))) (i : Nat) (ka : Option Addr) (kl kc : Nat) (la : Option Addr) (ll lc : Nat) (kd vl : Int) (ma : Option Addr) (ml mc : Nat) (na : Option Addr) (nl nc : Nat) (A B M N : List Int) (e1 : kl = A.length) (h1 : Ints w ka kc A) (e2 : ll = B.length) (h2 : Ints w la lc B) (e4 : nl = N.length) (hA : ∀ x ∈ A, wi vn x = true) (hB : ∀ x ∈ B, wi vn x = true) :
 Calls Tryz.prog 100 #[.int .i64 i, .agg #[.slice ka kl kc, .slice la ll lc, .int .i64 kd, .int .i64 vl, .slice ma ml mc, .slice na nl nc], .pointer (some ⟨fb, 0, none⟩)] w fun e w' => e = .returned (.bool (phiB f ⟨A, B, kd, vl, M, N⟩)) /\ Below w.heap.size w w' := by
 have hlf := (gl hf)
 have A0 : Af1 w (.cells #[.slice ka kl kc, .slice la ll lc, .int .i64 kd, .int .i64 vl, .slice ma ml mc, .slice na nl nc] 50) (w.alloc (.cells #[.slice ka kl kc, .slice la ll lc, .int .i64 kd, .int .i64 vl, .slice ma ml mc, .slice na nl nc] 50)) := Af1.refl _ _
 have HC : Hid (∀ w', Af1 w (.cells #[.slice ka kl kc, .slice la ll lc, .int .i64 kd, .int .i64 vl, .slice ma ml mc, .slice na nl nc] 50) w' -> Ctx w' s pa pn pc r va vn vc ba bn bc fa fn fc f FS) := fun w' h => C.below h.low (Nat.le_refl _)
 have HF : Hid (∀ w', Af1 w (.cells #[.slice ka kl kc, .slice la ll lc, .int .i64 kd, .int .i64 vl, .slice ma ml mc, .slice na nl nc] 50) w' -> w'.heap[fb]? = some (.cells #[.string s, .slice pa pn pc, .int .i64 r, .slice va vn vc, .slice ba bn bc, .slice fa fn fc] 85 (0, 0))) := fun w' h => (h.low.block _ hlf).trans hf
 have H1 : Hid (∀ w', Af1 w (.cells #[.slice ka kl kc, .slice la ll lc, .int .i64 kd, .int .i64 vl, .slice ma ml mc, .slice na nl nc] 50) w' -> Ints w' ka kc A) := fun w' h => h1.below h.low (Nat.le_refl _)
 have H2 : Hid (∀ w', Af1 w (.cells #[.slice ka kl kc, .slice la ll lc, .int .i64 kd, .int .i64 vl, .slice ma ml mc, .slice na nl nc] 50) w' -> Ints w' la lc B) := fun w' h => h2.below h.low (Nat.le_refl _)
 have E1 : Hid (kl = A.length) := e1
 have E2 : Hid (ll = B.length) := e2
 have X1 : Hid (∀ x ∈ A, wi vn x = true) := hA
 have X2 : Hid (∀ x ∈ B, wi vn x = true) := hB
 unfold phiB
 simp only
 rw [<- e4]
 clear C h1 h2 e1 e2 e4 hA hB hf
 cases q1 : A.all (phP f nl) with
 | false =>
   go_enter Tryz.func100, Tryz.ntmps100
   go_wp2_with (go_at_call 88; refine (everyP11_at _ (HC.out _ A0) fb w.heap.size (HF.out _ A0) A0.one _ _ _ A E1.out (H1.out _ A0) X1.out _ q1).mono ?_; rintro e w1 ⟨rfl, hb1⟩)
   go_ret
   exact ⟨rfl, (A0.next hb1).low⟩
 | true =>
   generalize q2 : B.all (fun x => !isPh f x) = R
   go_enter Tryz.func100, Tryz.ntmps100
   go_wp2_with (first
    | (go_at_call 88; refine (everyP12_at w1 (HC.out _ A1) fb (HF.out _ A1) _ _ _ B E2.out (H2.out _ A1) X2.out _ q2).mono ?_; rintro e w2 ⟨rfl, hb2⟩)
    | (go_at_call 88; refine (everyP11_at _ (HC.out _ A0) fb w.heap.size (HF.out _ A0) A0.one _ _ _ A E1.out (H1.out _ A0) X1.out _ q1).mono ?_; rintro e w1 ⟨rfl, hb1⟩; have A1 := A0.next hb1; obtain ⟨v0, v1, v2, v3, v4, v5⟩ := bcells A1.one))
   go_ret
   exact ⟨by simp, (A1.next hb2).low⟩
theorem formP_blocks {f : Fu} {FS : List Fu} (h : formP FS f = true) : 0 < f.blks.length /\ ∀ b ∈ f.blks, blockP f b = true := by
 simp only [formP, Bool.and_eq_true, decide_eq_true_eq, List.all_eq_true] at h
 exact ⟨h.2.2.1, h.2.2.2.2.2.2⟩
theorem blockP_ph {f : Fu} {b : Bk} (h : blockP f b = true) : (∀ x ∈ b.phis, wi f.vals.length x = true) /\ (∀ x ∈ b.body, wi f.vals.length x = true) := by
 simp only [blockP, mayP, Bool.and_eq_true, List.all_eq_true] at h
 exact ⟨fun x hx => (h.1 x hx).1, fun x hx => (h.2.1 x hx).1⟩
theorem everyP1_at (w : World) {s : ByteArray} {pa : Option Addr} {pn pc : Nat} {r : Int} {va : Option Addr} {vn vc : Nat} {ba : Option Addr} {bn bc : Nat} {fa : Option Addr} {fn fc : Nat} {f : Fu} {FS : List Fu} (C : Ctx w s pa pn pc r va vn vc ba bn bc fa fn fc f FS) (hform : formP FS f = true) (fb : Nat) (hf : w.heap[fb]? = some (.cells #[.string s, .slice pa pn pc, .int .i64 r, .slice va vn vc, .slice ba bn bc, .slice fa fn fc] 85 (0, 0))) (R : Bool) (hR : f.blks.all (phiB f) = R) :
 Calls Tryz.prog 92 #[.slice ba bn bc, .func (.func 100) #[] #[.pointer (some ⟨fb, 0, none⟩)]] w fun e w' => e = .returned (.bool R) /\ Below w.heap.size w w' := by
 subst hR
 rw [<- evr_plain (phiB f) f.blks 0]
 refine everyB_any w ba bc bn f.blks C.eb C.hb _ _ _ opens_p1 _ (Asks.one fun W i x hi hb hv => ?_)
 obtain ⟨ka, kc, la, lc, ma, mc, na, nc, rfl, h1, h2, h3, h4⟩ := hv.out
 have hp := blockP_ph ((formP_blocks hform).2 _ (List.getElem_mem hi))
 rw [<- C.ev] at hp
 exact phis1_any W (C.below hb (Nat.le_refl _)) fb ((hb.block _ (gl hf)).trans hf) i ka _ kc la _ lc _ _ ma _ mc na _ nc _ _ _ _ rfl h1 rfl h2 rfl hp.1 hp.2
set_option maxRecDepth 100000 in
theorem phisFit_any (w : World) {s : ByteArray} {pa : Option Addr} {pn pc : Nat} {r : Int} {va : Option Addr} {vn vc : Nat} {ba : Option Addr} {bn bc : Nat} {fa : Option Addr} {fn fc : Nat} {f : Fu} {FS : List Fu} (C : Ctx w s pa pn pc r va vn vc ba bn bc fa fn fc f FS) (hform : formP FS f = true) :
 Calls Tryz.prog 66 #[.agg #[.string s, .slice pa pn pc, .int .i64 r, .slice va vn vc, .slice ba bn bc, .slice fa fn fc]] w fun e w' => e = .returned (.bool (phisP f)) /\ Below w.heap.size w w' := by
 have A0 : Af1 w (.cells #[.string s, .slice pa pn pc, .int .i64 r, .slice va vn vc, .slice ba bn bc, .slice fa fn fc] 85) (w.alloc (.cells #[.string s, .slice pa pn pc, .int .i64 r, .slice va vn vc, .slice ba bn bc, .slice fa fn fc] 85)) := Af1.refl _ _
 have C2 := C.below A0.low (Nat.le_refl _)
 have HC : Hid _ := C2
 have h0 := (formP_blocks hform).1
 obtain ⟨b, o, ka, kc, la, lc, ma, mc, na, nc, rfl, hlb, c0, c1, c2, c3, c4, c5, i1, i2, i3, i4⟩ := C2.hb.at h0
 have hbn : 0 < bn := by have := C.eb; omega
 have hbx : bn <= 9223372036854775807 := by have := C.hb.le; have := C.hb.mx; have := C.eb; omega
 unfold phisP
 have e0 : (f.blks.getD 0 noB).phis.length = f.blks[0].phis.length := by simp [h0]
 rw [e0]
 generalize f.blks[0].phis.length = n at c0
 have HX : Hid _ := hform
 clear C C2 h0 c1 c2 c3 c4 c5 i1 i2 i3 i4 e0 hform
 simp only [Nat.zero_mul, Nat.add_zero] at c0
 by_cases hn : n = 0
 ·subst hn
  generalize q : f.blks.all (phiB f) = R
  go_enter Tryz.func66, Tryz.ntmps66
  go_wp2_with (go_at_call 92; refine (everyP1_at _ HC.out HX.out w.heap.size A0.one _ q).mono ?_; rintro e w1 ⟨rfl, hb1⟩)
  go_ret
  exact ⟨by simp, (A0.next hb1).low⟩
 ·rw [decide_eq_false hn]
  go_enter Tryz.func66, Tryz.ntmps66
  go_wp2_with fail
  go_ret
  exact ⟨by simp, A0.low⟩
end Go.Proofs.YtfbkopjncmkbiaaGreatDoor
