import Derived.Test.YtdbkjjelaipcfaaDoorSuN
set_option linter.unusedVariables false
set_option linter.unusedSimpArgs false
namespace Go.Proofs.YtdbkjjelaipcfaaDoor
open Go.ChangeShapes Go.WideShapes Go.ChangeAt Go.RowKit Go.Maps

theorem everyU11_at (w : World) {s : ByteArray} {pa : Option Addr} {pn pc : Nat} {r : Int} {va : Option Addr} {vn vc : Nat} {ba : Option Addr} {bn bc : Nat} {fa : Option Addr} {fn fc : Nat} {f : Fu} {FS : List Fu} (C : Ctx w s pa pn pc r va vn vc ba bn bc fa fn fc f FS) (fb : Nat) (hf : w.heap[fb]? = some (.cells #[.string s, .slice pa pn pc, .int .i64 r, .slice va vn vc, .slice ba bn bc, .slice fa fn fc] 47 (0, 0))) {ub kb : Nat} {qa : Option Addr} {qc : Nat} {ra : Option Addr} {rn rc : Nat} {P R : List (Int × Int)} (U : UC w ub qa vn qc ra rn rc P R) {ka : Option Addr} {kl kc : Nat} {la : Option Addr} {ll lc : Nat} {kd vl : Int} {ma : Option Addr} {ml mc : Nat} {na : Option Addr} {nl nc : Nat} (hk : w.heap[kb]? = some (.cells #[.slice ka kl kc, .slice la ll lc, .int .i64 kd, .int .i64 vl, .slice ma ml mc, .slice na nl nc] 33 (0, 0))) (N : List Int) (hN : nl = N.length) (hI : Ints w na nc N) (hNr : ∀ x ∈ N, wi rn x = true) (ao : Option Addr) (n c : Nat) (L : List Int) (hn : n = L.length) (hL : Ints w ao c L) (hLr : ∀ x ∈ L, wi vn x = true ∧ (∀ y ∈ (gv f x).args, wi vn y = true) ∧ (gv f x).args.length = nl) (T : Bool) (hT : L.all (useP f P R N) = T) :
    Calls Tryd.prog 25 #[.slice ao n c, .func (.func 50) #[] #[.pointer (some ⟨fb, 0, none⟩), .pointer (some ⟨ub, 0, none⟩), .pointer (some ⟨kb, 0, none⟩)]] w fun e w' => e = .returned (.bool T) ∧ Below w.heap.size w w' := by
  subst hT
  rw [← evr_plain (useP f P R N) L 0]
  refine everyI_any w ao c n L hn hL _ _ _ opens_u11 _ (Asks.three fun W i x hi hb hv => ?_)
  obtain rfl := hv.out
  have h := hLr L[i] (List.getElem_mem hi)
  exact uses11_any W (C.below hb (Nat.le_refl _)) fb ((hb.block _ (Array.getElem?_eq_some_iff.1 hf).1).trans hf) (U.below hb) ((hb.block _ (Array.getElem?_eq_some_iff.1 hk).1).trans hk) N hN (hI.below hb (Nat.le_refl _)) hNr i L[i] h.1 h.2.1 h.2.2
theorem everyU12_at (w : World) {s : ByteArray} {pa : Option Addr} {pn pc : Nat} {r : Int} {va : Option Addr} {vn vc : Nat} {ba : Option Addr} {bn bc : Nat} {fa : Option Addr} {fn fc : Nat} {f : Fu} {FS : List Fu} (C : Ctx w s pa pn pc r va vn vc ba bn bc fa fn fc f FS) (fb : Nat) (hf : w.heap[fb]? = some (.cells #[.string s, .slice pa pn pc, .int .i64 r, .slice va vn vc, .slice ba bn bc, .slice fa fn fc] 47 (0, 0))) {ub bb : Nat} {qa : Option Addr} {qc : Nat} {ra : Option Addr} {rn rc : Nat} {P R : List (Int × Int)} (U : UC w ub qa vn qc ra rn rc P R) (k : Nat) (hb : w.heap[bb]? = some (.cells #[.int .i64 (k : Int)] 3 (0, 0))) (hk : k < rn) (ao : Option Addr) (n c : Nat) (L : List Int) (hn : n = L.length) (hL : Ints w ao c L) (hLr : ∀ x ∈ L, wi vn x = true ∧ (∀ y ∈ (gv f x).args, wi vn y = true)) (T : Bool) (hT : evr (useV f P R k) 0 L = T) :
    Calls Tryd.prog 25 #[.slice ao n c, .func (.func 53) #[] #[.pointer (some ⟨fb, 0, none⟩), .pointer (some ⟨ub, 0, none⟩), .pointer (some ⟨bb, 0, none⟩)]] w fun e w' => e = .returned (.bool T) ∧ Below w.heap.size w w' := by
  subst hT
  refine everyI_any w ao c n L hn hL _ _ _ opens_u12 _ (Asks.three fun W i x hi hbW hv => ?_)
  obtain rfl := hv.out
  have h := hLr L[i] (List.getElem_mem hi)
  exact uses12_any W (C.below hbW (Nat.le_refl _)) fb ((hbW.block _ (Array.getElem?_eq_some_iff.1 hf).1).trans hf) (U.below hbW) k ((hbW.block _ (Array.getElem?_eq_some_iff.1 hb).1).trans hb) hk i L[i] h.1 h.2
set_option maxRecDepth 100000 in
set_option maxHeartbeats 4000000 in
theorem uses1_any (w : World) {s : ByteArray} {pa : Option Addr} {pn pc : Nat} {r : Int} {va : Option Addr} {vn vc : Nat} {ba : Option Addr} {bn bc : Nat} {fa : Option Addr} {fn fc : Nat} {f : Fu} {FS : List Fu} (C : Ctx w s pa pn pc r va vn vc ba bn bc fa fn fc f FS) (fb : Nat) (hf : w.heap[fb]? = some (.cells #[.string s, .slice pa pn pc, .int .i64 r, .slice va vn vc, .slice ba bn bc, .slice fa fn fc] 47 (0, 0))) {ub : Nat} {qa : Option Addr} {qc : Nat} {ra : Option Addr} {rn rc : Nat} {P R : List (Int × Int)} (U : UC w ub qa vn qc ra rn rc P R) (i : Nat) (hi : i < rn) (ka : Option Addr) (kl kc : Nat) (la : Option Addr) (ll lc : Nat) (kd vl : Int) (ma : Option Addr) (ml mc : Nat) (na : Option Addr) (nl nc : Nat) (A B M N : List Int) (e1 : kl = A.length) (h1 : Ints w ka kc A) (e2 : ll = B.length) (h2 : Ints w la lc B) (e4 : nl = N.length) (h4 : Ints w na nc N) (hNr : ∀ x ∈ N, wi rn x = true)
    (hA : ∀ x ∈ A, wi vn x = true ∧ (∀ y ∈ (gv f x).args, wi vn y = true) ∧ (gv f x).args.length = nl) (hB : ∀ x ∈ B, wi vn x = true ∧ (∀ y ∈ (gv f x).args, wi vn y = true)) (hvl : ¬ vl = -1 → wi vn vl = true) :
    Calls Tryd.prog 49 #[.int .i64 i, .agg #[.slice ka kl kc, .slice la ll lc, .int .i64 kd, .int .i64 vl, .slice ma ml mc, .slice na nl nc], .pointer (some ⟨fb, 0, none⟩), .pointer (some ⟨ub, 0, none⟩)] w fun e w' => e = .returned (.bool (useB f P R i ⟨A, B, kd, vl, M, N⟩)) ∧ Below w.heap.size w w' := by
  have hlf := (Array.getElem?_eq_some_iff.1 hf).1
  have hlu := (Array.getElem?_eq_some_iff.1 U.box).1
  have A0 : Aft w (.cells #[.int .i64 (i : Int)] 3) (.cells #[.slice ka kl kc, .slice la ll lc, .int .i64 kd, .int .i64 vl, .slice ma ml mc, .slice na nl nc] 33) ((w.alloc (.cells #[.int .i64 (i : Int)] 3)).alloc (.cells #[.slice ka kl kc, .slice la ll lc, .int .i64 kd, .int .i64 vl, .slice ma ml mc, .slice na nl nc] 33)) := Aft.refl _ _ _
  have HQ1 : Hid (∀ w', Aft w (.cells #[.int .i64 (i : Int)] 3) (.cells #[.slice ka kl kc, .slice la ll lc, .int .i64 kd, .int .i64 vl, .slice ma ml mc, .slice na nl nc] 33) w' → ∀ T, A.all (useP f P R N) = T → Calls Tryd.prog 25 #[.slice ka kl kc, .func (.func 50) #[] #[.pointer (some ⟨fb, 0, none⟩), .pointer (some ⟨ub, 0, none⟩), .pointer (some ⟨w.heap.size + 1, 0, none⟩)]] w' fun e w'' => e = .returned (.bool T) ∧ Below w'.heap.size w' w'') := fun w' h T hT =>
    everyU11_at w' (C.below h.low (Nat.le_refl _)) fb ((h.low.block _ hlf).trans hf) (U.below h.low) h.two N e4 (h4.below h.low (Nat.le_refl _)) hNr ka kl kc A e1 (h1.below h.low (Nat.le_refl _)) hA T hT
  have HQ2 : Hid (∀ w', Aft w (.cells #[.int .i64 (i : Int)] 3) (.cells #[.slice ka kl kc, .slice la ll lc, .int .i64 kd, .int .i64 vl, .slice ma ml mc, .slice na nl nc] 33) w' → ∀ T, evr (useV f P R i) 0 B = T → Calls Tryd.prog 25 #[.slice la ll lc, .func (.func 53) #[] #[.pointer (some ⟨fb, 0, none⟩), .pointer (some ⟨ub, 0, none⟩), .pointer (some ⟨w.heap.size, 0, none⟩)]] w' fun e w'' => e = .returned (.bool T) ∧ Below w'.heap.size w' w'') := fun w' h T hT =>
    everyU12_at w' (C.below h.low (Nat.le_refl _)) fb ((h.low.block _ hlf).trans hf) (U.below h.low) i h.one hi la ll lc B e2 (h2.below h.low (Nat.le_refl _)) hB T hT
  have HQ3 : Hid (∀ w', Aft w (.cells #[.int .i64 (i : Int)] 3) (.cells #[.slice ka kl kc, .slice la ll lc, .int .i64 kd, .int .i64 vl, .slice ma ml mc, .slice na nl nc] 33) w' → ¬ vl = -1 → ∀ T, thereP P R vl i = T → Calls Tryd.prog 52 #[.agg #[.slice qa vn qc, .slice ra rn rc], .int .i64 vl, .int .i64 (i : Int)] w' fun e w'' => e = .returned (.bool T) ∧ Below w'.heap.size w' w'') := fun w' h hn T hT =>
    (U.below h.low).there vl i (hvl hn) (by simp [wi]; omega) T hT
  have HQ4 : Hid (∀ w', Aft w (.cells #[.int .i64 (i : Int)] 3) (.cells #[.slice ka kl kc, .slice la ll lc, .int .i64 kd, .int .i64 vl, .slice ma ml mc, .slice na nl nc] 33) w' → w'.cell? ⟨ub, 0, none⟩ = some (.slice qa vn qc) ∧ w'.cell? ⟨ub, 1, none⟩ = some (.slice ra rn rc) ∧ w'.cell? ⟨w.heap.size, 0, none⟩ = some (.int .i64 (i : Int))) := fun w' h => ⟨cell_arr (U.below h.low).box rfl, cell_arr (U.below h.low).box rfl, cell_arr h.one rfl⟩
  unfold useB
  simp only
  clear C hf U h1 h2 h4 hNr hA hB hvl e1 e2 e4 hlf hlu hi
  cases q1 : A.all (useP f P R N) with
  | false =>
    go_enter Tryd.func49, Tryd.ntmps49
    go_wp2_with (go_at_call 25; refine (HQ1.out _ A0 _ q1).mono ?_; rintro e w1 ⟨rfl, hb1⟩)
    go_ret
    exact ⟨rfl, (A0.next hb1).low⟩
  | true =>
  cases q2 : evr (useV f P R i) 0 B with
  | false =>
    go_enter Tryd.func49, Tryd.ntmps49
    go_wp2_with (first
      | (go_at_call 25; refine (HQ2.out w1 A1 _ q2).mono ?_; rintro e w2 ⟨rfl, hb2⟩)
      | (go_at_call 25; refine (HQ1.out _ A0 _ q1).mono ?_; rintro e w1 ⟨rfl, hb1⟩; have A1 := A0.next hb1; obtain ⟨v0, v1, v2, v3, v4, v5⟩ := bcells A1.two))
    go_ret
    exact ⟨rfl, (A1.next hb2).low⟩
  | true =>
  by_cases hv : vl = -1
  · subst hv
    go_enter Tryd.func49, Tryd.ntmps49
    go_wp2_with (first
      | (go_at_call 25; refine (HQ2.out w1 A1 _ q2).mono ?_; rintro e w2 ⟨rfl, hb2⟩; have A2 := A1.next hb2; obtain ⟨x0, x1, x2, x3, x4, x5⟩ := bcells A2.two)
      | (go_at_call 25; refine (HQ1.out _ A0 _ q1).mono ?_; rintro e w1 ⟨rfl, hb1⟩; have A1 := A0.next hb1; obtain ⟨v0, v1, v2, v3, v4, v5⟩ := bcells A1.two))
    go_ret
    exact ⟨rfl, A2.low⟩
  · generalize q3 : thereP P R vl i = T
    have hv' : (vl == -1) = false := by simp [hv]
    have HV : Hid (¬ vl = -1) := hv
    rw [decide_eq_false hv]
    clear hv
    go_enter Tryd.func49, Tryd.ntmps49
    go_wp2_with (first
      | (go_at_call 52; refine (HQ3.out w2 A2 HV.out _ q3).mono ?_; rintro e w3 ⟨rfl, hb3⟩)
      | (go_at_call 25; refine (HQ2.out w1 A1 _ q2).mono ?_; rintro e w2 ⟨rfl, hb2⟩; have A2 := A1.next hb2; obtain ⟨x0, x1, x2, x3, x4, x5⟩ := bcells A2.two; obtain ⟨y0, y1, y2⟩ := HQ4.out w2 A2)
      | (go_at_call 25; refine (HQ1.out _ A0 _ q1).mono ?_; rintro e w1 ⟨rfl, hb1⟩; have A1 := A0.next hb1; obtain ⟨v0, v1, v2, v3, v4, v5⟩ := bcells A1.two))
    go_ret
    exact ⟨by simp, (A2.next hb3).low⟩
end Go.Proofs.YtdbkjjelaipcfaaDoor
