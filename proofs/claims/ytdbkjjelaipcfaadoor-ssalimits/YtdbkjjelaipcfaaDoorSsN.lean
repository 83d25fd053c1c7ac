import Derived.Test.YtdbkjjelaipcfaaDoorSsM
set_option linter.unusedVariables false
set_option linter.unusedSimpArgs false
namespace Go.Proofs.YtdbkjjelaipcfaaDoor
open Go.ChangeShapes Go.WideShapes Go.ChangeAt Go.RowKit Go.Maps

def phP (f : Fu) (n : Nat) (x : Int) : Bool := isPh f x && decide ((gv f x).args.length = n)
def phiB (f : Fu) (b : Bk) : Bool := b.phis.all (phP f b.preds.length) && b.body.all (fun x => !isPh f x)
def phisP (f : Fu) : Bool := decide ((f.blks.getD 0 noB).phis.length = 0) && f.blks.all (phiB f)
theorem everyP11_at (w : World) {s : ByteArray} {pa : Option Addr} {pn pc : Nat} {r : Int} {va : Option Addr} {vn vc : Nat} {ba : Option Addr} {bn bc : Nat} {fa : Option Addr} {fn fc : Nat} {f : Fu} {FS : List Fu} (C : Ctx w s pa pn pc r va vn vc ba bn bc fa fn fc f FS) (fb kb : Nat) (hf : w.heap[fb]? = some (.cells #[.string s, .slice pa pn pc, .int .i64 r, .slice va vn vc, .slice ba bn bc, .slice fa fn fc] 47 (0, 0))) {ka : Option Addr} {kl kc : Nat} {la : Option Addr} {ll lc : Nat} {kd vl : Int} {ma : Option Addr} {ml mc : Nat} {na : Option Addr} {nl nc : Nat} (hk : w.heap[kb]? = some (.cells #[.slice ka kl kc, .slice la ll lc, .int .i64 kd, .int .i64 vl, .slice ma ml mc, .slice na nl nc] 33 (0, 0))) (ao : Option Addr) (n c : Nat) (L : List Int) (hn : n = L.length) (hL : Ints w ao c L) (hx : ∀ x ∈ L, wi vn x = true) (R : Bool) (hR : L.all (phP f nl) = R) :
    Calls Tryd.prog 25 #[.slice ao n c, .func (.func 38) #[] #[.pointer (some ⟨fb, 0, none⟩), .pointer (some ⟨kb, 0, none⟩)]] w fun e w' => e = .returned (.bool R) ∧ Below w.heap.size w w' := by
  subst hR
  rw [← evr_plain (phP f nl) L 0]
  refine everyI_any w ao c n L hn hL _ _ _ opens_p11 _ (Asks.two fun W i x hi hb hv => ?_)
  obtain rfl := hv.out
  exact phis11_any W (C.below hb (Nat.le_refl _)) fb kb ((hb.block _ (Array.getElem?_eq_some_iff.1 hf).1).trans hf) ((hb.block _ (Array.getElem?_eq_some_iff.1 hk).1).trans hk) i L[i] (hx _ (List.getElem_mem hi))
theorem everyP12_at (w : World) {s : ByteArray} {pa : Option Addr} {pn pc : Nat} {r : Int} {va : Option Addr} {vn vc : Nat} {ba : Option Addr} {bn bc : Nat} {fa : Option Addr} {fn fc : Nat} {f : Fu} {FS : List Fu} (C : Ctx w s pa pn pc r va vn vc ba bn bc fa fn fc f FS) (fb : Nat) (hf : w.heap[fb]? = some (.cells #[.string s, .slice pa pn pc, .int .i64 r, .slice va vn vc, .slice ba bn bc, .slice fa fn fc] 47 (0, 0))) (ao : Option Addr) (n c : Nat) (L : List Int) (hn : n = L.length) (hL : Ints w ao c L) (hx : ∀ x ∈ L, wi vn x = true) (R : Bool) (hR : L.all (fun x => !isPh f x) = R) :
    Calls Tryd.prog 25 #[.slice ao n c, .func (.func 40) #[] #[.pointer (some ⟨fb, 0, none⟩)]] w fun e w' => e = .returned (.bool R) ∧ Below w.heap.size w w' := by
  subst hR
  rw [← evr_plain (fun x => !isPh f x) L 0]
  refine everyI_any w ao c n L hn hL _ _ _ opens_p12 _ (Asks.one fun W i x hi hb hv => ?_)
  obtain rfl := hv.out
  exact phis12_any W (C.below hb (Nat.le_refl _)) fb ((hb.block _ (Array.getElem?_eq_some_iff.1 hf).1).trans hf) i L[i] (hx _ (List.getElem_mem hi))
set_option maxRecDepth 100000 in
set_option maxHeartbeats 2000000 in
theorem phis1_any (w : World) {s : ByteArray} {pa : Option Addr} {pn pc : Nat} {r : Int} {va : Option Addr} {vn vc : Nat} {ba : Option Addr} {bn bc : Nat} {fa : Option Addr} {fn fc : Nat} {f : Fu} {FS : List Fu} (C : Ctx w s pa pn pc r va vn vc ba bn bc fa fn fc f FS) (fb : Nat) (hf : w.heap[fb]? = some (.cells #[.string s, .slice pa pn pc, .int .i64 r, .slice va vn vc, .slice ba bn bc, .slice fa fn fc] 47 (0, 0))) (i : Nat) (ka : Option Addr) (kl kc : Nat) (la : Option Addr) (ll lc : Nat) (kd vl : Int) (ma : Option Addr) (ml mc : Nat) (na : Option Addr) (nl nc : Nat) (A B M N : List Int) (e1 : kl = A.length) (h1 : Ints w ka kc A) (e2 : ll = B.length) (h2 : Ints w la lc B) (e4 : nl = N.length) (hA : ∀ x ∈ A, wi vn x = true) (hB : ∀ x ∈ B, wi vn x = true) :
    Calls Tryd.prog 37 #[.int .i64 i, .agg #[.slice ka kl kc, .slice la ll lc, .int .i64 kd, .int .i64 vl, .slice ma ml mc, .slice na nl nc], .pointer (some ⟨fb, 0, none⟩)] w fun e w' => e = .returned (.bool (phiB f ⟨A, B, kd, vl, M, N⟩)) ∧ Below w.heap.size w w' := by
  have hlf := (Array.getElem?_eq_some_iff.1 hf).1
  have A0 : Af1 w (.cells #[.slice ka kl kc, .slice la ll lc, .int .i64 kd, .int .i64 vl, .slice ma ml mc, .slice na nl nc] 33) (w.alloc (.cells #[.slice ka kl kc, .slice la ll lc, .int .i64 kd, .int .i64 vl, .slice ma ml mc, .slice na nl nc] 33)) := Af1.refl _ _
  have HC : Hid (∀ w', Af1 w (.cells #[.slice ka kl kc, .slice la ll lc, .int .i64 kd, .int .i64 vl, .slice ma ml mc, .slice na nl nc] 33) w' → Ctx w' s pa pn pc r va vn vc ba bn bc fa fn fc f FS) := fun w' h => C.below h.low (Nat.le_refl _)
  have HF : Hid (∀ w', Af1 w (.cells #[.slice ka kl kc, .slice la ll lc, .int .i64 kd, .int .i64 vl, .slice ma ml mc, .slice na nl nc] 33) w' → w'.heap[fb]? = some (.cells #[.string s, .slice pa pn pc, .int .i64 r, .slice va vn vc, .slice ba bn bc, .slice fa fn fc] 47 (0, 0))) := fun w' h => (h.low.block _ hlf).trans hf
  have H1 : Hid (∀ w', Af1 w (.cells #[.slice ka kl kc, .slice la ll lc, .int .i64 kd, .int .i64 vl, .slice ma ml mc, .slice na nl nc] 33) w' → Ints w' ka kc A) := fun w' h => h1.below h.low (Nat.le_refl _)
  have H2 : Hid (∀ w', Af1 w (.cells #[.slice ka kl kc, .slice la ll lc, .int .i64 kd, .int .i64 vl, .slice ma ml mc, .slice na nl nc] 33) w' → Ints w' la lc B) := fun w' h => h2.below h.low (Nat.le_refl _)
  have E1 : Hid (kl = A.length) := e1
  have E2 : Hid (ll = B.length) := e2
  have X1 : Hid (∀ x ∈ A, wi vn x = true) := hA
  have X2 : Hid (∀ x ∈ B, wi vn x = true) := hB
  unfold phiB
  simp only
  rw [← e4]
  clear C h1 h2 e1 e2 e4 hA hB hf
  cases q1 : A.all (phP f nl) with
  | false =>
    go_enter Tryd.func37, Tryd.ntmps37
    go_wp2_with (go_at_call 25; refine (everyP11_at _ (HC.out _ A0) fb w.heap.size (HF.out _ A0) A0.one _ _ _ A E1.out (H1.out _ A0) X1.out _ q1).mono ?_; rintro e w1 ⟨rfl, hb1⟩)
    go_ret
    exact ⟨rfl, (A0.next hb1).low⟩
  | true =>
    generalize q2 : B.all (fun x => !isPh f x) = R
    go_enter Tryd.func37, Tryd.ntmps37
    go_wp2_with (first
      | (go_at_call 25; refine (everyP12_at w1 (HC.out _ A1) fb (HF.out _ A1) _ _ _ B E2.out (H2.out _ A1) X2.out _ q2).mono ?_; rintro e w2 ⟨rfl, hb2⟩)
      | (go_at_call 25; refine (everyP11_at _ (HC.out _ A0) fb w.heap.size (HF.out _ A0) A0.one _ _ _ A E1.out (H1.out _ A0) X1.out _ q1).mono ?_; rintro e w1 ⟨rfl, hb1⟩; have A1 := A0.next hb1; obtain ⟨v0, v1, v2, v3, v4, v5⟩ := bcells A1.one))
    go_ret
    exact ⟨by simp, (A1.next hb2).low⟩
theorem formP_blocks {f : Fu} {FS : List Fu} (h : formP FS f = true) : 0 < f.blks.length ∧ ∀ b ∈ f.blks, blockP f b = true := by
  simp only [formP, Bool.and_eq_true, decide_eq_true_eq, List.all_eq_true] at h
  exact ⟨h.2.2.1, h.2.2.2.2.2.2⟩
theorem blockP_ph {f : Fu} {b : Bk} (h : blockP f b = true) : (∀ x ∈ b.phis, wi f.vals.length x = true) ∧ (∀ x ∈ b.body, wi f.vals.length x = true) := by
  simp only [blockP, mayP, Bool.and_eq_true, List.all_eq_true] at h
  exact ⟨fun x hx => (h.1 x hx).1, fun x hx => (h.2.1 x hx).1⟩
theorem everyP1_at (w : World) {s : ByteArray} {pa : Option Addr} {pn pc : Nat} {r : Int} {va : Option Addr} {vn vc : Nat} {ba : Option Addr} {bn bc : Nat} {fa : Option Addr} {fn fc : Nat} {f : Fu} {FS : List Fu} (C : Ctx w s pa pn pc r va vn vc ba bn bc fa fn fc f FS) (hform : formP FS f = true) (fb : Nat) (hf : w.heap[fb]? = some (.cells #[.string s, .slice pa pn pc, .int .i64 r, .slice va vn vc, .slice ba bn bc, .slice fa fn fc] 47 (0, 0))) (R : Bool) (hR : f.blks.all (phiB f) = R) :
    Calls Tryd.prog 29 #[.slice ba bn bc, .func (.func 37) #[] #[.pointer (some ⟨fb, 0, none⟩)]] w fun e w' => e = .returned (.bool R) ∧ Below w.heap.size w w' := by
  subst hR
  rw [← evr_plain (phiB f) f.blks 0]
  refine everyB_any w ba bc bn f.blks C.eb C.hb _ _ _ opens_p1 _ (Asks.one fun W i x hi hb hv => ?_)
  obtain ⟨ka, kc, la, lc, ma, mc, na, nc, rfl, h1, h2, h3, h4⟩ := hv.out
  have hp := blockP_ph ((formP_blocks hform).2 _ (List.getElem_mem hi))
  rw [← C.ev] at hp
  exact phis1_any W (C.below hb (Nat.le_refl _)) fb ((hb.block _ (Array.getElem?_eq_some_iff.1 hf).1).trans hf) i ka _ kc la _ lc _ _ ma _ mc na _ nc _ _ _ _ rfl h1 rfl h2 rfl hp.1 hp.2
set_option maxRecDepth 100000 in
theorem phisFit_any (w : World) {s : ByteArray} {pa : Option Addr} {pn pc : Nat} {r : Int} {va : Option Addr} {vn vc : Nat} {ba : Option Addr} {bn bc : Nat} {fa : Option Addr} {fn fc : Nat} {f : Fu} {FS : List Fu} (C : Ctx w s pa pn pc r va vn vc ba bn bc fa fn fc f FS) (hform : formP FS f = true) :
    Calls Tryd.prog 18 #[.agg #[.string s, .slice pa pn pc, .int .i64 r, .slice va vn vc, .slice ba bn bc, .slice fa fn fc]] w fun e w' => e = .returned (.bool (phisP f)) ∧ Below w.heap.size w w' := by
  have A0 : Af1 w (.cells #[.string s, .slice pa pn pc, .int .i64 r, .slice va vn vc, .slice ba bn bc, .slice fa fn fc] 47) (w.alloc (.cells #[.string s, .slice pa pn pc, .int .i64 r, .slice va vn vc, .slice ba bn bc, .slice fa fn fc] 47)) := Af1.refl _ _
  have C2 := C.below A0.low (Nat.le_refl _)
  have HC : Hid _ := C2
  have h0 := (formP_blocks hform).1
  obtain ⟨b, o, ka, kc, la, lc, ma, mc, na, nc, rfl, hlb, c0, c1, c2, c3, c4, c5, i1, i2, i3, i4⟩ := C2.hb.at h0
  have hbn : 0 < bn := by have := C.eb; omega
  have hbx : bn ≤ 9223372036854775807 := by have := C.hb.le; have := C.hb.mx; have := C.eb; omega
  unfold phisP
  have e0 : (f.blks.getD 0 noB).phis.length = f.blks[0].phis.length := by simp [h0]
  rw [e0]
  generalize f.blks[0].phis.length = n at c0
  have HX : Hid _ := hform
  clear C C2 h0 c1 c2 c3 c4 c5 i1 i2 i3 i4 e0 hform
  simp only [Nat.zero_mul, Nat.add_zero] at c0
  by_cases hn : n = 0
  · subst hn
    generalize q : f.blks.all (phiB f) = R
    go_enter Tryd.func18, Tryd.ntmps18
    go_wp2_with (go_at_call 29; refine (everyP1_at _ HC.out HX.out w.heap.size A0.one _ q).mono ?_; rintro e w1 ⟨rfl, hb1⟩)
    go_ret
    exact ⟨by simp, (A0.next hb1).low⟩
  · rw [decide_eq_false hn]
    go_enter Tryd.func18, Tryd.ntmps18
    go_wp2_with fail
    go_ret
    exact ⟨by simp, A0.low⟩
end Go.Proofs.YtdbkjjelaipcfaaDoor
