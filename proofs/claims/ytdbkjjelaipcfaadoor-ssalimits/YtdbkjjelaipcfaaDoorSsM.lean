import Derived.Test.YtdbkjjelaipcfaaDoorLsI
import Derived.Deep.RegionHeld3
set_option linter.unusedVariables false
set_option linter.unusedSimpArgs false
namespace Go.Proofs.YtdbkjjelaipcfaaDoor
open Go.ChangeShapes Go.WideShapes Go.ChangeAt Go.RowKit Go.Maps

def isPh (f : Fu) (x : Int) : Bool := decide ((gv f x).op = 32)
theorem isPhi_at (w : World) {s : ByteArray} {pa : Option Addr} {pn pc : Nat} {r : Int} {va : Option Addr} {vn vc : Nat} {ba : Option Addr} {bn bc : Nat} {fa : Option Addr} {fn fc : Nat} {f : Fu} {FS : List Fu} (C : Ctx w s pa pn pc r va vn vc ba bn bc fa fn fc f FS) (x : Int) (hx : wi vn x = true) (R : Bool) (hR : isPh f x = R) :
    Calls Tryd.prog 39 #[.agg #[.string s, .slice pa pn pc, .int .i64 r, .slice va vn vc, .slice ba bn bc, .slice fa fn fc], .int .i64 x] w fun e w' => e = .returned (.bool R) ∧ Below w.heap.size w w' := by
  subst hR
  unfold isPh
  have A0 : Af1 w (.cells #[.string s, .slice pa pn pc, .int .i64 r, .slice va vn vc, .slice ba bn bc, .slice fa fn fc] 47) (w.alloc (.cells #[.string s, .slice pa pn pc, .int .i64 r, .slice va vn vc, .slice ba bn bc, .slice fa fn fc] 47)) := Af1.refl _ _
  obtain ⟨j, b, o, ka, kl, kc, rfl, hj, hvn, rfl, hlt, c0, c1, c2, c3, hkl, hI⟩ := (C.below A0.low (Nat.le_refl _)).val hx
  generalize gv f (j : Int) = y at c0 c1 c2 c3 hkl hI
  clear C hkl hI c3 c1 c2 hx
  go_enter Tryd.func39, Tryd.ntmps39
  go_wp2_with fail
  go_ret
  exact ⟨rfl, A0.low⟩
theorem ret_len (a b : Nat) : Ending.returned (.bool ((a : Int) == (b : Int))) = .returned (.bool (true && decide (a = b))) := by
  by_cases e : a = b
  · subst e; simp
  · have : ¬ (a : Int) = b := by omega
    simp [e, this]
theorem opens_p1 : Opens 37 := Opens.of Tryd.func37 (by kernel_rfl) rfl
theorem opens_p11 : Opens 38 := Opens.of Tryd.func38 (by kernel_rfl) rfl
theorem opens_p12 : Opens 40 := Opens.of Tryd.func40 (by kernel_rfl) rfl
theorem phis12_any (w : World) {s : ByteArray} {pa : Option Addr} {pn pc : Nat} {r : Int} {va : Option Addr} {vn vc : Nat} {ba : Option Addr} {bn bc : Nat} {fa : Option Addr} {fn fc : Nat} {f : Fu} {FS : List Fu} (C : Ctx w s pa pn pc r va vn vc ba bn bc fa fn fc f FS) (fb : Nat) (hf : w.heap[fb]? = some (.cells #[.string s, .slice pa pn pc, .int .i64 r, .slice va vn vc, .slice ba bn bc, .slice fa fn fc] 47 (0, 0))) (i : Nat) (x : Int) (hx : wi vn x = true) :
    Calls Tryd.prog 40 #[.int .i64 i, .int .i64 x, .pointer (some ⟨fb, 0, none⟩)] w fun e w' => e = .returned (.bool (!isPh f x)) ∧ Below w.heap.size w w' := by
  obtain ⟨f0, f1, f2, f3, f4, f5⟩ := fcells hf
  have HC : Hid _ := C
  generalize hR : isPh f x = R
  clear C hf
  go_enter Tryd.func40, Tryd.ntmps40
  go_wp2_with (go_at_call 39; refine (isPhi_at _ HC.out _ hx _ hR).mono ?_; rintro e w1 ⟨rfl, hb1⟩)
  go_ret
  exact ⟨rfl, hb1⟩
set_option maxRecDepth 100000 in
set_option maxHeartbeats 4000000 in
theorem phis11_any (w : World) {s : ByteArray} {pa : Option Addr} {pn pc : Nat} {r : Int} {va : Option Addr} {vn vc : Nat} {ba : Option Addr} {bn bc : Nat} {fa : Option Addr} {fn fc : Nat} {f : Fu} {FS : List Fu} (C : Ctx w s pa pn pc r va vn vc ba bn bc fa fn fc f FS) (fb kb : Nat) (hf : w.heap[fb]? = some (.cells #[.string s, .slice pa pn pc, .int .i64 r, .slice va vn vc, .slice ba bn bc, .slice fa fn fc] 47 (0, 0))) {ka : Option Addr} {kl kc : Nat} {la : Option Addr} {ll lc : Nat} {kd vl : Int} {ma : Option Addr} {ml mc : Nat} {na : Option Addr} {nl nc : Nat} (hk : w.heap[kb]? = some (.cells #[.slice ka kl kc, .slice la ll lc, .int .i64 kd, .int .i64 vl, .slice ma ml mc, .slice na nl nc] 33 (0, 0))) (i : Nat) (x : Int) (hx : wi vn x = true) :
    Calls Tryd.prog 38 #[.int .i64 i, .int .i64 x, .pointer (some ⟨fb, 0, none⟩), .pointer (some ⟨kb, 0, none⟩)] w fun e w' => e = .returned (.bool (isPh f x && decide ((gv f x).args.length = nl))) ∧ Below w.heap.size w w' := by
  have HC : Hid _ := C
  have hlf := (Array.getElem?_eq_some_iff.1 hf).1
  have hlk := (Array.getElem?_eq_some_iff.1 hk).1
  obtain ⟨f0, f1, f2, f3, f4, f5⟩ := fcells hf
  obtain ⟨b0, b1, b2, b3, b4, b5⟩ := bcells hk
  have hd : Below w.heap.size w w.drew := (Below.refl _ _).drew
  have HD : Hid (Ctx w.drew s pa pn pc r va vn vc ba bn bc fa fn fc f FS) := C.below hd (Nat.le_refl _)
  obtain ⟨j, b, o, xa, xl, xc, rfl, hj, hvn, rfl, hlt, c0, c1, c2, c3, hkl, hI⟩ := C.val hx
  rw [← hkl]
  have S0 : (fun w' : World => w'.cell? ⟨fb, 0, none⟩ = some (.string s) ∧ w'.cell? ⟨fb, 1, none⟩ = some (.slice pa pn pc) ∧ w'.cell? ⟨fb, 2, none⟩ = some (.int .i64 r) ∧ w'.cell? ⟨fb, 3, none⟩ = some (.slice (some ⟨b, o, none⟩) vn vc) ∧ w'.cell? ⟨fb, 4, none⟩ = some (.slice ba bn bc) ∧ w'.cell? ⟨fb, 5, none⟩ = some (.slice fa fn fc) ∧ w'.cell? ⟨kb, 5, none⟩ = some (.slice na nl nc) ∧ w'.cell? ⟨b, o + j * 4 + 3, none⟩ = some (.slice xa xl xc)) w.drew := ⟨f0, f1, f2, f3, f4, f5, b5, c3⟩
  have HS : Hid (∀ w1, Below w.drew.heap.size w.drew w1 → (fun w' : World => w'.cell? ⟨fb, 0, none⟩ = some (.string s) ∧ w'.cell? ⟨fb, 1, none⟩ = some (.slice pa pn pc) ∧ w'.cell? ⟨fb, 2, none⟩ = some (.int .i64 r) ∧ w'.cell? ⟨fb, 3, none⟩ = some (.slice (some ⟨b, o, none⟩) vn vc) ∧ w'.cell? ⟨fb, 4, none⟩ = some (.slice ba bn bc) ∧ w'.cell? ⟨fb, 5, none⟩ = some (.slice fa fn fc) ∧ w'.cell? ⟨kb, 5, none⟩ = some (.slice na nl nc) ∧ w'.cell? ⟨b, o + j * 4 + 3, none⟩ = some (.slice xa xl xc)) w1) := fun w1 hb1 => ⟨(hb1.cell (p := ⟨fb, 0, none⟩) hlf).trans f0, (hb1.cell (p := ⟨fb, 1, none⟩) hlf).trans f1, (hb1.cell (p := ⟨fb, 2, none⟩) hlf).trans f2, (hb1.cell (p := ⟨fb, 3, none⟩) hlf).trans f3, (hb1.cell (p := ⟨fb, 4, none⟩) hlf).trans f4, (hb1.cell (p := ⟨fb, 5, none⟩) hlf).trans f5, (hb1.cell (p := ⟨kb, 5, none⟩) hlk).trans b5, (hb1.cell (p := ⟨b, o + j * 4 + 3, none⟩) hlt).trans c3⟩
  clear C hkl hI c0 c1 c2
  cases hR : isPh f (j : Int) with
  | false =>
    go_enter Tryd.func38, Tryd.ntmps38
    go_wp2_with fail
    refine led_start (S := fun w' : World => w'.cell? ⟨fb, 0, none⟩ = some (.string s) ∧ w'.cell? ⟨fb, 1, none⟩ = some (.slice pa pn pc) ∧ w'.cell? ⟨fb, 2, none⟩ = some (.int .i64 r) ∧ w'.cell? ⟨fb, 3, none⟩ = some (.slice (some ⟨b, o, none⟩) vn vc) ∧ w'.cell? ⟨fb, 4, none⟩ = some (.slice ba bn bc) ∧ w'.cell? ⟨fb, 5, none⟩ = some (.slice fa fn fc) ∧ w'.cell? ⟨kb, 5, none⟩ = some (.slice na nl nc) ∧ w'.cell? ⟨b, o + j * 4 + 3, none⟩ = some (.slice xa xl xc)) (z := 17) (by kernel_rfl) ?_
    refine led_take (i := 0) (v := ?v0) rfl (by kernel_rfl) (by kernel_rfl) (by kernel_rfl) (by kernel_rfl) (fun _ _ _ h => h) (.inl ⟨by rfl, ?hy0⟩) S0 ?rest0
    case hy0 =>
      rintro w' ⟨h1, h2, h3, h4, h5, h6, h7, h8⟩
      go_simp
      all_goals with_reducible rfl
    try simp only [Act.put, List.setIfInBounds_toArray, List.set_cons_zero, List.set_cons_succ]
    refine led_take (i := 1) (v := ?v1) rfl (by kernel_rfl) (by kernel_rfl) (by kernel_rfl) (by kernel_rfl) (fun _ _ _ h => h) (.inl ⟨by rfl, ?hy1⟩) S0 ?rest1
    case hy1 =>
      rintro w' ⟨h1, h2, h3, h4, h5, h6, h7, h8⟩
      go_simp
      all_goals with_reducible rfl
    try simp only [Act.put, List.setIfInBounds_toArray, List.set_cons_zero, List.set_cons_succ]
    refine led_one (i := 2) rfl (by kernel_rfl) ?_
    intro K' hK
    rw [if_pos (by rfl)]
    go_simp
    refine (isPhi_at w.drew HD.out _ hx _ hR).mono ?_
    rintro e w1 ⟨rfl, hb1⟩
    have S1 := HS.out w1 hb1
    refine hK _ _ (fun _ => S1) ?_
    try simp only [Act.put, List.setIfInBounds_toArray, List.set_cons_zero, List.set_cons_succ]
    refine led_take (i := 3) (v := ?v3) rfl (by kernel_rfl) (by kernel_rfl) (by kernel_rfl) (by kernel_rfl) (fun _ _ _ h => h) (.inl ⟨by rfl, ?hy3⟩) S1 ?rest3
    case hy3 =>
      rintro w' ⟨h1, h2, h3, h4, h5, h6, h7, h8⟩
      go_simp
      all_goals with_reducible rfl
    try simp only [Act.put, List.setIfInBounds_toArray, List.set_cons_zero, List.set_cons_succ]
    refine led_take (i := 4) (v := undef) rfl (by kernel_rfl) (by kernel_rfl) (by kernel_rfl) (by kernel_rfl) (fun _ _ _ h => h) (.inr ⟨by kernel_rfl, rfl⟩) S1 ?_
    try simp only [Act.put, List.setIfInBounds_toArray, List.set_cons_zero, List.set_cons_succ]
    refine led_take (i := 5) (v := undef) rfl (by kernel_rfl) (by kernel_rfl) (by kernel_rfl) (by kernel_rfl) (fun _ _ _ h => h) (.inr ⟨by kernel_rfl, rfl⟩) S1 ?_
    try simp only [Act.put, List.setIfInBounds_toArray, List.set_cons_zero, List.set_cons_succ]
    refine led_take (i := 6) (v := undef) rfl (by kernel_rfl) (by kernel_rfl) (by kernel_rfl) (by kernel_rfl) (fun _ _ _ h => h) (.inr ⟨by kernel_rfl, rfl⟩) S1 ?_
    try simp only [Act.put, List.setIfInBounds_toArray, List.set_cons_zero, List.set_cons_succ]
    refine led_take (i := 7) (v := undef) rfl (by kernel_rfl) (by kernel_rfl) (by kernel_rfl) (by kernel_rfl) (fun _ _ _ h => h) (.inr ⟨by kernel_rfl, rfl⟩) S1 ?_
    try simp only [Act.put, List.setIfInBounds_toArray, List.set_cons_zero, List.set_cons_succ]
    refine led_take (i := 8) (v := undef) rfl (by kernel_rfl) (by kernel_rfl) (by kernel_rfl) (by kernel_rfl) (fun _ _ _ h => h) (.inr ⟨by kernel_rfl, rfl⟩) S1 ?_
    try simp only [Act.put, List.setIfInBounds_toArray, List.set_cons_zero, List.set_cons_succ]
    refine led_take (i := 9) (v := undef) rfl (by kernel_rfl) (by kernel_rfl) (by kernel_rfl) (by kernel_rfl) (fun _ _ _ h => h) (.inr ⟨by kernel_rfl, rfl⟩) S1 ?_
    try simp only [Act.put, List.setIfInBounds_toArray, List.set_cons_zero, List.set_cons_succ]
    refine led_take (i := 10) (v := undef) rfl (by kernel_rfl) (by kernel_rfl) (by kernel_rfl) (by kernel_rfl) (fun _ _ _ h => h) (.inr ⟨by kernel_rfl, rfl⟩) S1 ?_
    try simp only [Act.put, List.setIfInBounds_toArray, List.set_cons_zero, List.set_cons_succ]
    refine led_take (i := 11) (v := undef) rfl (by kernel_rfl) (by kernel_rfl) (by kernel_rfl) (by kernel_rfl) (fun _ _ _ h => h) (.inr ⟨by kernel_rfl, rfl⟩) S1 ?_
    try simp only [Act.put, List.setIfInBounds_toArray, List.set_cons_zero, List.set_cons_succ]
    refine led_take (i := 12) (v := undef) rfl (by kernel_rfl) (by kernel_rfl) (by kernel_rfl) (by kernel_rfl) (fun _ _ _ h => h) (.inr ⟨by kernel_rfl, rfl⟩) S1 ?_
    try simp only [Act.put, List.setIfInBounds_toArray, List.set_cons_zero, List.set_cons_succ]
    refine led_take (i := 13) (v := undef) rfl (by kernel_rfl) (by kernel_rfl) (by kernel_rfl) (by kernel_rfl) (fun _ _ _ h => h) (.inr ⟨by kernel_rfl, rfl⟩) S1 ?_
    try simp only [Act.put, List.setIfInBounds_toArray, List.set_cons_zero, List.set_cons_succ]
    refine led_take (i := 14) (v := undef) rfl (by kernel_rfl) (by kernel_rfl) (by kernel_rfl) (by kernel_rfl) (fun _ _ _ h => h) (.inr ⟨by kernel_rfl, rfl⟩) S1 ?_
    try simp only [Act.put, List.setIfInBounds_toArray, List.set_cons_zero, List.set_cons_succ]
    refine led_take (i := 15) (v := undef) rfl (by kernel_rfl) (by kernel_rfl) (by kernel_rfl) (by kernel_rfl) (fun _ _ _ h => h) (.inr ⟨by kernel_rfl, rfl⟩) S1 ?_
    try simp only [Act.put, List.setIfInBounds_toArray, List.set_cons_zero, List.set_cons_succ]
    refine led_take (i := 16) (v := ?v16) rfl (by kernel_rfl) (by kernel_rfl) (by kernel_rfl) (by kernel_rfl) (fun _ _ _ h => h) (.inl ⟨by rfl, ?hy16⟩) S1 ?rest16
    case hy16 =>
      rintro w' ⟨h1, h2, h3, h4, h5, h6, h7, h8⟩
      go_simp
      all_goals with_reducible rfl
    try simp only [Act.put, List.setIfInBounds_toArray, List.set_cons_zero, List.set_cons_succ]
    refine led_one (i := 17) rfl (by kernel_rfl) ?_
    intro K2 hK2
    rw [if_pos (by rfl)]
    go_simp
    refine hK2 _ _ (fun h => absurd rfl h) ?_
    refine led_done (by kernel_rfl) ?_
    go_wp2_with fail
    go_ret
    exact ⟨rfl, hd.trans hb1⟩
  | true =>
    go_enter Tryd.func38, Tryd.ntmps38
    go_wp2_with fail
    go_region_held (fun w' => w'.cell? ⟨fb, 0, none⟩ = some (.string s) ∧ w'.cell? ⟨fb, 1, none⟩ = some (.slice pa pn pc) ∧ w'.cell? ⟨fb, 2, none⟩ = some (.int .i64 r) ∧ w'.cell? ⟨fb, 3, none⟩ = some (.slice (some ⟨b, o, none⟩) vn vc) ∧ w'.cell? ⟨fb, 4, none⟩ = some (.slice ba bn bc) ∧ w'.cell? ⟨fb, 5, none⟩ = some (.slice fa fn fc) ∧ w'.cell? ⟨kb, 5, none⟩ = some (.slice na nl nc) ∧ w'.cell? ⟨b, o + j * 4 + 3, none⟩ = some (.slice xa xl xc)) (first | exact S0 | exact S1)
      (first | (go_at_call 39; refine (isPhi_at w.drew HD.out _ hx _ hR).mono ?_; rintro e w1 ⟨rfl, hb1⟩; have S1 := HS.out w1 hb1))
    all_goals go_wp2_with fail
    all_goals go_ret
    all_goals first | exact ⟨ret_len xl nl, hd.trans hb1⟩ | exact ⟨ret_len xl nl, below_drawn (hd.trans hb1) _⟩
end Go.Proofs.YtdbkjjelaipcfaaDoor
