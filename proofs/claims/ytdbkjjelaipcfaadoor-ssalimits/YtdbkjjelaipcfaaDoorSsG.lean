import Derived.Test.YtdbkjjelaipcfaaDoorSsF
set_option linter.unusedVariables false
set_option linter.unusedSimpArgs false
namespace Go.Proofs.YtdbkjjelaipcfaaDoor
open Go.ChangeShapes Go.WideShapes Go.ChangeAt Go.RowKit Go.Maps

theorem fcells {w : World} {g : Nat} {s : ByteArray} {pa : Option Addr} {pn pc : Nat} {r : Int} {va : Option Addr} {vn vc : Nat} {ba : Option Addr} {bn bc : Nat} {fa : Option Addr} {fn fc : Nat} (h : w.heap[g]? = some (.cells #[.string s, .slice pa pn pc, .int .i64 r, .slice va vn vc, .slice ba bn bc, .slice fa fn fc] 47 (0, 0))) : w.cell? ⟨g, 0, none⟩ = some (.string s) ∧ w.cell? ⟨g, 1, none⟩ = some (.slice pa pn pc) ∧ w.cell? ⟨g, 2, none⟩ = some (.int .i64 r) ∧ w.cell? ⟨g, 3, none⟩ = some (.slice va vn vc) ∧ w.cell? ⟨g, 4, none⟩ = some (.slice ba bn bc) ∧ w.cell? ⟨g, 5, none⟩ = some (.slice fa fn fc) :=
  ⟨cell_arr h rfl, cell_arr h rfl, cell_arr h rfl, cell_arr h rfl, cell_arr h rfl, cell_arr h rfl⟩
theorem vcells {w : World} {g : Nat} {op ty imm : Int} {ka : Option Addr} {kl kc : Nat} (h : w.heap[g]? = some (.cells #[.int .i64 op, .int .i64 ty, .int .i64 imm, .slice ka kl kc] 25 (0, 0))) : w.cell? ⟨g, 0, none⟩ = some (.int .i64 op) ∧ w.cell? ⟨g, 1, none⟩ = some (.int .i64 ty) ∧ w.cell? ⟨g, 2, none⟩ = some (.int .i64 imm) ∧ w.cell? ⟨g, 3, none⟩ = some (.slice ka kl kc) :=
  ⟨cell_arr h rfl, cell_arr h rfl, cell_arr h rfl, cell_arr h rfl⟩
theorem bcells {w : World} {g : Nat} {ka : Option Addr} {kl kc : Nat} {la : Option Addr} {ll lc : Nat} {kd vl : Int} {ma : Option Addr} {ml mc : Nat} {na : Option Addr} {nl nc : Nat} (h : w.heap[g]? = some (.cells #[.slice ka kl kc, .slice la ll lc, .int .i64 kd, .int .i64 vl, .slice ma ml mc, .slice na nl nc] 33 (0, 0))) : w.cell? ⟨g, 0, none⟩ = some (.slice ka kl kc) ∧ w.cell? ⟨g, 1, none⟩ = some (.slice la ll lc) ∧ w.cell? ⟨g, 2, none⟩ = some (.int .i64 kd) ∧ w.cell? ⟨g, 3, none⟩ = some (.int .i64 vl) ∧ w.cell? ⟨g, 4, none⟩ = some (.slice ma ml mc) ∧ w.cell? ⟨g, 5, none⟩ = some (.slice na nl nc) :=
  ⟨cell_arr h rfl, cell_arr h rfl, cell_arr h rfl, cell_arr h rfl, cell_arr h rfl, cell_arr h rfl⟩
theorem tcells {w : World} {g : Nat} {kd vl : Int} {ma : Option Addr} {ml mc : Nat} (h : w.heap[g]? = some (.cells #[.int .i64 kd, .int .i64 vl, .slice ma ml mc] 31 (0, 0))) : w.cell? ⟨g, 0, none⟩ = some (.int .i64 kd) ∧ w.cell? ⟨g, 1, none⟩ = some (.int .i64 vl) ∧ w.cell? ⟨g, 2, none⟩ = some (.slice ma ml mc) :=
  ⟨cell_arr h rfl, cell_arr h rfl, cell_arr h rfl⟩
/-- Two boxes, and what came behind. -/
structure Aft (w : World) (A B : Obj) (w' : World) : Prop where
  b : Below (w.heap.size + 1 + 1) ((w.alloc A).alloc B) w'
theorem Aft.refl (w : World) (A B : Obj) : Aft w A B ((w.alloc A).alloc B) := ⟨Below.refl _ _⟩
theorem Aft.low {w A B w'} (h : Aft w A B w') : Below w.heap.size w w' := (((Below.refl _ _).alloc (Nat.le_refl _) _).alloc (by simp) _).trans (h.b.mono (by omega))
theorem Aft.size {w A B w'} (h : Aft w A B w') : w.heap.size + 1 + 1 ≤ w'.heap.size := by have := h.b.size; simpa using this
theorem Aft.next {w A B w' w''} (h : Aft w A B w') (hb : Below w'.heap.size w' w'') : Aft w A B w'' := ⟨h.b.trans (hb.mono h.size)⟩
theorem Aft.drawn {w A B w'} (h : Aft w A B w') (q : Nat) : Aft w A B (w'.drewN q) := ⟨below_drawn h.b q⟩
theorem Aft.one {w A B w'} (h : Aft w A B w') : w'.heap[w.heap.size]? = some A := by rw [h.b.block _ (by omega), heap_alloc_old _ _ (by simp)]; exact heap_alloc_new w A
theorem Aft.two {w A B w'} (h : Aft w A B w') : w'.heap[w.heap.size + 1]? = some B := by rw [h.b.block _ (by omega)]; simpa using heap_alloc_new (w.alloc A) B

theorem isOp_at (w : World) (t : Int) (R : Bool) (h : isOpn t = R) : Calls Tryd.prog 59 #[.int .i64 t] w fun e w' => e = .returned (.bool R) ∧ w' = w := by subst h; exact isOp_any w t
theorem isTn_at (w : World) (t : Int) (R : Bool) (h : isTn t = R) : Calls Tryd.prog 24 #[.int .i64 t] w fun e w' => e = .returned (.bool R) ∧ w' = w := by subst h; exact isTypeOrNone_any w t
theorem immFits_at (w : World) {s : ByteArray} {pa : Option Addr} {pn pc : Nat} {r : Int} {va : Option Addr} {vn vc : Nat} {ba : Option Addr} {bn bc : Nat} {fa : Option Addr} {fn fc : Nat} (op ty imm : Int) (ka : Option Addr) (kl kc : Nat) (R : Bool) (h : immP fn op imm = R) :
    Calls Tryd.prog 60 #[.agg #[.string s, .slice pa pn pc, .int .i64 r, .slice va vn vc, .slice ba bn bc, .slice fa fn fc], .agg #[.int .i64 op, .int .i64 ty, .int .i64 imm, .slice ka kl kc]] w fun e w' => e = .returned (.bool R) ∧ Below w.heap.size w w' := by subst h; exact immFits_any w op ty imm ka kl kc
theorem countFits_at (w : World) {s : ByteArray} {pa : Option Addr} {pn pc : Nat} {r : Int} {va : Option Addr} {vn vc : Nat} {ba : Option Addr} {bn bc : Nat} {fa : Option Addr} {fn fc : Nat} {f : Fu} {FS : List Fu} (C : Ctx w s pa pn pc r va vn vc ba bn bc fa fn fc f FS) (op ty imm : Int) (ka : Option Addr) (kl kc : Nat) (hi : op = 25 → wi fn imm = true) (R : Bool) (h : countP FS op imm kl = R) :
    Calls Tryd.prog 61 #[.agg #[.string s, .slice pa pn pc, .int .i64 r, .slice va vn vc, .slice ba bn bc, .slice fa fn fc], .agg #[.int .i64 op, .int .i64 ty, .int .i64 imm, .slice ka kl kc]] w fun e w' => e = .returned (.bool R) ∧ Below w.heap.size w w' := by subst h; exact countFits_any w C op ty imm ka kl kc hi
theorem allWithinV_at (w : World) (ao : Option Addr) (c n : Nat) (L : List Int) (hn : n = L.length) (hL : Ints w ao c L) (la : Option Addr) (ln lc : Nat) (R : Bool) (h : L.all (wi ln) = R) :
    Calls Tryd.prog 62 #[.slice ao n c, .slice la ln lc] w fun e w' => e = .returned (.bool R) ∧ Below w.heap.size w w' := by subst h; exact allWithinV_any w ao c n L hn hL la ln lc
theorem allWithinB_at (w : World) (ao : Option Addr) (c n : Nat) (L : List Int) (hn : n = L.length) (hL : Ints w ao c L) (la : Option Addr) (ln lc : Nat) (R : Bool) (h : L.all (wi ln) = R) :
    Calls Tryd.prog 64 #[.slice ao n c, .slice la ln lc] w fun e w' => e = .returned (.bool R) ∧ Below w.heap.size w w' := by subst h; exact allWithinB_any w ao c n L hn hL la ln lc

set_option maxRecDepth 100000 in
set_option maxHeartbeats 4000000 in
theorem valueFits_any (w : World) {s : ByteArray} {pa : Option Addr} {pn pc : Nat} {r : Int} {va : Option Addr} {vn vc : Nat} {ba : Option Addr} {bn bc : Nat} {fa : Option Addr} {fn fc : Nat} {f : Fu} {FS : List Fu} (C : Ctx w s pa pn pc r va vn vc ba bn bc fa fn fc f FS) (i : Nat) (op ty imm : Int) (ka : Option Addr) (kl kc : Nat) (A : List Int) (hkl : kl = A.length) (hA : Ints w ka kc A) :
    Calls Tryd.prog 28 #[.agg #[.string s, .slice pa pn pc, .int .i64 r, .slice va vn vc, .slice ba bn bc, .slice fa fn fc], .int .i64 i, .agg #[.int .i64 op, .int .i64 ty, .int .i64 imm, .slice ka kl kc]] w fun e w' => e = .returned (.bool (valueP f FS ⟨op, ty, imm, A⟩)) ∧ Below w.heap.size w w' := by
  have HC : Hid (∀ w', Aft w (.cells #[.string s, .slice pa pn pc, .int .i64 r, .slice va vn vc, .slice ba bn bc, .slice fa fn fc] 47) (.cells #[.int .i64 op, .int .i64 ty, .int .i64 imm, .slice ka kl kc] 25) w' → Ctx w' s pa pn pc r va vn vc ba bn bc fa fn fc f FS) := fun w' h => C.below h.low (Nat.le_refl _)
  have HI : Hid (∀ w', Aft w (.cells #[.string s, .slice pa pn pc, .int .i64 r, .slice va vn vc, .slice ba bn bc, .slice fa fn fc] 47) (.cells #[.int .i64 op, .int .i64 ty, .int .i64 imm, .slice ka kl kc] 25) w' → Ints w' ka kc A) := fun w' h => hA.below h.low (Nat.le_refl _)
  have HL : Hid (kl = A.length) := hkl
  have A0 : Aft w (.cells #[.string s, .slice pa pn pc, .int .i64 r, .slice va vn vc, .slice ba bn bc, .slice fa fn fc] 47) (.cells #[.int .i64 op, .int .i64 ty, .int .i64 imm, .slice ka kl kc] 25) ((w.alloc (.cells #[.string s, .slice pa pn pc, .int .i64 r, .slice va vn vc, .slice ba bn bc, .slice fa fn fc] 47)).alloc (.cells #[.int .i64 op, .int .i64 ty, .int .i64 imm, .slice ka kl kc] 25)) := Aft.refl _ _ _
  have imp : immP fn op imm = true → op = 25 → wi fn imm = true := by
    intro h e; subst e; unfold immP at h; rw [if_neg (by omega), if_pos rfl] at h; exact h
  have HM : Hid (immP fn op imm = true → op = 25 → wi fn imm = true) := imp
  clear imp
  unfold valueP
  simp only
  rw [← C.ef, ← C.ev, ← hkl]
  clear C hA hkl
  cases h1 : isOpn op with
  | false =>
    go_enter Tryd.func28, Tryd.ntmps28
    go_wp2_with (go_at_call 59; refine (isOp_at _ _ _ h1).mono ?_; rintro e w' ⟨rfl, rfl⟩)
    go_ret
    exact ⟨rfl, A0.low⟩
  | true =>
  cases h2 : immP fn op imm with
  | false =>
    go_enter Tryd.func28, Tryd.ntmps28
    go_wp2_with (first
      | (go_at_call 59; refine (isOp_at _ _ _ h1).mono ?_; rintro e w' ⟨rfl, rfl⟩)
      | (go_at_call 60; refine (immFits_at _ _ _ _ _ _ _ _ h2).mono ?_; rintro e w1 ⟨rfl, hb1⟩))
    go_ret
    exact ⟨rfl, (A0.next hb1).low⟩
  | true =>
  have HX := HM.out h2
  cases h3 : countP FS op imm kl with
  | false =>
    go_enter Tryd.func28, Tryd.ntmps28
    go_wp2_with (first
      | (go_at_call 59; refine (isOp_at _ _ _ h1).mono ?_; rintro e w' ⟨rfl, rfl⟩)
      | (go_at_call 60; refine (immFits_at _ _ _ _ _ _ _ _ h2).mono ?_; rintro e w1 ⟨rfl, hb1⟩; have A1 := A0.next hb1; obtain ⟨f0, f1, f2, f3, f4, f5⟩ := fcells A1.one; obtain ⟨v0, v1, v2, v3⟩ := vcells A1.two)
      | (go_at_call 61; refine (countFits_at w1 (HC.out w1 A1) _ _ _ _ _ _ HX _ h3).mono ?_; rintro e w2 ⟨rfl, hb2⟩))
    go_ret
    exact ⟨rfl, (A1.next hb2).low⟩
  | true =>
  cases h4 : A.all (wi vn) with
  | false =>
    go_enter Tryd.func28, Tryd.ntmps28
    go_wp2_with (first
      | (go_at_call 59; refine (isOp_at _ _ _ h1).mono ?_; rintro e w' ⟨rfl, rfl⟩)
      | (go_at_call 60; refine (immFits_at _ _ _ _ _ _ _ _ h2).mono ?_; rintro e w1 ⟨rfl, hb1⟩; have A1 := A0.next hb1; obtain ⟨f0, f1, f2, f3, f4, f5⟩ := fcells A1.one; obtain ⟨v0, v1, v2, v3⟩ := vcells A1.two)
      | (go_at_call 61; refine (countFits_at w1 (HC.out w1 A1) _ _ _ _ _ _ HX _ h3).mono ?_; rintro e w2 ⟨rfl, hb2⟩; have A2 := A1.next hb2; obtain ⟨f0', f1', f2', f3', f4', f5'⟩ := fcells A2.one; obtain ⟨v0', v1', v2', v3'⟩ := vcells A2.two)
      | (go_at_call 62; refine (allWithinV_at w2 _ _ _ A HL.out (HI.out w2 A2) _ _ _ _ h4).mono ?_; rintro e w3 ⟨rfl, hb3⟩))
    go_ret
    exact ⟨rfl, (A2.next hb3).low⟩
  | true =>
    generalize h5 : isTn ty = R
    go_enter Tryd.func28, Tryd.ntmps28
    go_wp2_with (first
      | (go_at_call 59; refine (isOp_at _ _ _ h1).mono ?_; rintro e w' ⟨rfl, rfl⟩)
      | (go_at_call 60; refine (immFits_at _ _ _ _ _ _ _ _ h2).mono ?_; rintro e w1 ⟨rfl, hb1⟩; have A1 := A0.next hb1; obtain ⟨f0, f1, f2, f3, f4, f5⟩ := fcells A1.one; obtain ⟨v0, v1, v2, v3⟩ := vcells A1.two)
      | (go_at_call 61; refine (countFits_at w1 (HC.out w1 A1) _ _ _ _ _ _ HX _ h3).mono ?_; rintro e w2 ⟨rfl, hb2⟩; have A2 := A1.next hb2; obtain ⟨f0', f1', f2', f3', f4', f5'⟩ := fcells A2.one; obtain ⟨v0', v1', v2', v3'⟩ := vcells A2.two)
      | (go_at_call 62; refine (allWithinV_at w2 _ _ _ A HL.out (HI.out w2 A2) _ _ _ _ h4).mono ?_; rintro e w3 ⟨rfl, hb3⟩; have A3 := A2.next hb3; obtain ⟨v0'', v1'', v2'', v3''⟩ := vcells A3.two)
      | (go_at_call 24; refine (isTn_at _ _ _ h5).mono ?_; rintro e w' ⟨rfl, rfl⟩))
    go_ret
    exact ⟨by simp, A3.low⟩
end Go.Proofs.YtdbkjjelaipcfaaDoor
