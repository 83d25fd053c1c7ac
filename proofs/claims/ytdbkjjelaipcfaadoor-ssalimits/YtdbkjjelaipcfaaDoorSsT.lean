import Derived.Test.YtdbkjjelaipcfaaDoorSsS
set_option linter.unusedVariables false
set_option linter.unusedSimpArgs false
namespace Go.Proofs.YtdbkjjelaipcfaaDoor
open Go.ChangeShapes Go.WideShapes Go.ChangeAt Go.RowKit Go.Maps

set_option maxRecDepth 100000 in
set_option maxHeartbeats 2000000 in
theorem typeFits_other (w : World) {s : ByteArray} {pa : Option Addr} {pn pc : Nat} {r : Int} {va : Option Addr} {vn vc : Nat} {ba : Option Addr} {bn bc : Nat} {fa : Option Addr} {fn fc : Nat} {f : Fu} {FS : List Fu} (C : Ctx w s pa pn pc r va vn vc ba bn bc fa fn fc f FS) (i : Nat) (ty imm : Int) (ka : Option Addr) (kl kc : Nat) (A : List Int) (hkl : kl = A.length) (hA : Ints w ka kc A) (hx : ∀ x ∈ A, wi vn x = true) (op : Int) (h1 : ¬ op = 1) (h13 : ¬ op = 13) (h14 : ¬ op = 14) (h25 : ¬ op = 25) (h32 : ¬ op = 32) (h33 : ¬ op = 33) (h3 : kl ≤ 3) : Calls Tryd.prog 43 #[.agg #[.string s, .slice pa pn pc, .int .i64 r, .slice va vn vc, .slice ba bn bc, .slice fa fn fc], .int .i64 i, .agg #[.int .i64 op, .int .i64 ty, .int .i64 imm, .slice ka kl kc]] w fun e w' => e = .returned (.bool (decide (ty = (shp op).gives) && evr (fun i x => isP f x (shA (shp op) i)) 0 A)) ∧ Below w.heap.size w w' := by
  have A0 : Aft w (.cells #[.string s, .slice pa pn pc, .int .i64 r, .slice va vn vc, .slice ba bn bc, .slice fa fn fc] 47) (.cells #[.int .i64 op, .int .i64 ty, .int .i64 imm, .slice ka kl kc] 25) ((w.alloc (.cells #[.string s, .slice pa pn pc, .int .i64 r, .slice va vn vc, .slice ba bn bc, .slice fa fn fc] 47)).alloc (.cells #[.int .i64 op, .int .i64 ty, .int .i64 imm, .slice ka kl kc] 25)) := Aft.refl _ _ _
  generalize hH : shp op = H
  have hsh : ∀ w, Calls Tryd.prog 72 #[.int .i64 op] w fun e w' => e = .returned (.agg #[.int .i64 H.count, .int .i64 H.a0, .int .i64 H.a1, .int .i64 H.a2, .int .i64 H.gives]) ∧ Below w.heap.size w w' := fun w => by
    have := shapeOf_any w op
    rw [hH] at this
    exact this
  have HS : Hid _ := hsh
  have HC : Hid (∀ w', Aft w (.cells #[.string s, .slice pa pn pc, .int .i64 r, .slice va vn vc, .slice ba bn bc, .slice fa fn fc] 47) (.cells #[.int .i64 op, .int .i64 ty, .int .i64 imm, .slice ka kl kc] 25) w' → Ctx w' s pa pn pc r va vn vc ba bn bc fa fn fc f FS) := fun w' h => C.below h.low (Nat.le_refl _)
  have HA : Hid (∀ w', Aft w (.cells #[.string s, .slice pa pn pc, .int .i64 r, .slice va vn vc, .slice ba bn bc, .slice fa fn fc] 47) (.cells #[.int .i64 op, .int .i64 ty, .int .i64 imm, .slice ka kl kc] 25) w' → Ints w' ka kc A) := fun w' h => hA.below h.low (Nat.le_refl _)
  have HL : Hid (kl = A.length) := hkl
  have HX : Hid (∀ x ∈ A, wi vn x = true) := hx
  have H3 : Hid (kl ≤ 3) := h3
  clear C hA hx hkl hsh hH h3
  by_cases ht : ty = H.gives
  · rw [decide_eq_true ht]
    generalize hR : evr (fun i x => isP f x (shA H i)) 0 A = R
    have ht' : (ty == H.gives) = true := by simp [ht]
    clear ht
    go_enter Tryd.func43, Tryd.ntmps43
    go_wp2_with (first
      | (go_at_call 72; refine (HS.out _).mono ?_; rintro e w1 ⟨rfl, hb1⟩; have A1 := A0.next hb1; obtain ⟨v0, v1, v2, v3⟩ := vcells A1.two; have hs1 := A1.size; have A2 : Aft w (.cells #[.string s, .slice pa pn pc, .int .i64 r, .slice va vn vc, .slice ba bn bc, .slice fa fn fc] 47) (.cells #[.int .i64 op, .int .i64 ty, .int .i64 imm, .slice ka kl kc] 25) (w1.alloc (.cells #[.int .i64 H.count, .int .i64 H.a0, .int .i64 H.a1, .int .i64 H.a2, .int .i64 H.gives] 96)) := A1.next ((Below.refl _ _).alloc (Nat.le_refl _) _); obtain ⟨u0, u1, u2, u3⟩ := vcells A2.two)
      | (go_at_call 25; refine (everyT2_at _ (HC.out _ A2) w.heap.size w1.heap.size A2.one (heap_alloc_new _ _) _ _ _ A HL.out H3.out (HA.out _ A2) HX.out _ hR).mono ?_; rintro e w2 ⟨rfl, hb2⟩))
    go_ret
    exact ⟨by simp, (A2.next hb2).low⟩
  · rw [decide_eq_false ht]
    have ht' : (ty == H.gives) = false := by simp [ht]
    clear ht
    go_enter Tryd.func43, Tryd.ntmps43
    go_wp2_with (go_at_call 72; refine (HS.out _).mono ?_; rintro e w1 ⟨rfl, hb1⟩; have A1 := A0.next hb1; obtain ⟨v0, v1, v2, v3⟩ := vcells A1.two; have hs1 := A1.size; have A2 : Aft w (.cells #[.string s, .slice pa pn pc, .int .i64 r, .slice va vn vc, .slice ba bn bc, .slice fa fn fc] 47) (.cells #[.int .i64 op, .int .i64 ty, .int .i64 imm, .slice ka kl kc] 25) (w1.alloc (.cells #[.int .i64 H.count, .int .i64 H.a0, .int .i64 H.a1, .int .i64 H.a2, .int .i64 H.gives] 96)) := A1.next ((Below.refl _ _).alloc (Nat.le_refl _) _); obtain ⟨u0, u1, u2, u3⟩ := vcells A2.two)
    go_ret
    exact ⟨by simp, A2.low⟩
end Go.Proofs.YtdbkjjelaipcfaaDoor
