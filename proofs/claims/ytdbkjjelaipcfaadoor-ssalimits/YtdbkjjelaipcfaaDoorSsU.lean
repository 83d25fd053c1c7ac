import Derived.Test.YtdbkjjelaipcfaaDoorSsT
set_option linter.unusedVariables false
set_option linter.unusedSimpArgs false
namespace Go.Proofs.YtdbkjjelaipcfaaDoor
open Go.ChangeShapes Go.WideShapes Go.ChangeAt Go.RowKit Go.Maps

theorem typeFits_no13 (w : World) {s : ByteArray} {pa : Option Addr} {pn pc : Nat} {r : Int} {va : Option Addr} {vn vc : Nat} {ba : Option Addr} {bn bc : Nat} {fa : Option Addr} {fn fc : Nat} (i : Nat) (ty imm : Int) (ka : Option Addr) (kl kc : Nat) (ht : ¬ ty = 2) : Calls Tryd.prog 43 #[.agg #[.string s, .slice pa pn pc, .int .i64 r, .slice va vn vc, .slice ba bn bc, .slice fa fn fc], .int .i64 i, .agg #[.int .i64 13, .int .i64 ty, .int .i64 imm, .slice ka kl kc]] w fun e w' => e = .returned (.bool false) ∧ Below w.heap.size w w' := by
  have A0 : Aft w (.cells #[.string s, .slice pa pn pc, .int .i64 r, .slice va vn vc, .slice ba bn bc, .slice fa fn fc] 47) (.cells #[.int .i64 13, .int .i64 ty, .int .i64 imm, .slice ka kl kc] 25) ((w.alloc (.cells #[.string s, .slice pa pn pc, .int .i64 r, .slice va vn vc, .slice ba bn bc, .slice fa fn fc] 47)).alloc (.cells #[.int .i64 13, .int .i64 ty, .int .i64 imm, .slice ka kl kc] 25)) := Aft.refl _ _ _
  have ht' : (ty == 2) = false := by simp [ht]
  clear ht
  go_enter Tryd.func43, Tryd.ntmps43
  go_wp2_with fail
  go_quiet (fail)
  go_wp2_with fail
  go_ret
  exact ⟨rfl, below_drawn A0.low _⟩
theorem typeFits_no14 (w : World) {s : ByteArray} {pa : Option Addr} {pn pc : Nat} {r : Int} {va : Option Addr} {vn vc : Nat} {ba : Option Addr} {bn bc : Nat} {fa : Option Addr} {fn fc : Nat} (i : Nat) (ty imm : Int) (ka : Option Addr) (kl kc : Nat) (ht : ¬ ty = 2) : Calls Tryd.prog 43 #[.agg #[.string s, .slice pa pn pc, .int .i64 r, .slice va vn vc, .slice ba bn bc, .slice fa fn fc], .int .i64 i, .agg #[.int .i64 14, .int .i64 ty, .int .i64 imm, .slice ka kl kc]] w fun e w' => e = .returned (.bool false) ∧ Below w.heap.size w w' := by
  have A0 : Aft w (.cells #[.string s, .slice pa pn pc, .int .i64 r, .slice va vn vc, .slice ba bn bc, .slice fa fn fc] 47) (.cells #[.int .i64 14, .int .i64 ty, .int .i64 imm, .slice ka kl kc] 25) ((w.alloc (.cells #[.string s, .slice pa pn pc, .int .i64 r, .slice va vn vc, .slice ba bn bc, .slice fa fn fc] 47)).alloc (.cells #[.int .i64 14, .int .i64 ty, .int .i64 imm, .slice ka kl kc] 25)) := Aft.refl _ _ _
  have ht' : (ty == 2) = false := by simp [ht]
  clear ht
  go_enter Tryd.func43, Tryd.ntmps43
  go_wp2_with fail
  go_quiet (fail)
  go_wp2_with fail
  go_ret
  exact ⟨rfl, below_drawn A0.low _⟩
set_option maxRecDepth 100000 in
set_option maxHeartbeats 4000000 in
theorem typeFits_yes13 (w : World) {s : ByteArray} {pa : Option Addr} {pn pc : Nat} {r : Int} {va : Option Addr} {vn vc : Nat} {ba : Option Addr} {bn bc : Nat} {fa : Option Addr} {fn fc : Nat} {f : Fu} {FS : List Fu} (C : Ctx w s pa pn pc r va vn vc ba bn bc fa fn fc f FS) (i : Nat) (imm : Int) (ka : Option Addr) (kc : Nat) (x y : Int) (hA : Ints w ka kc [x, y]) (hx : wi vn x = true) (hy : wi vn y = true) : Calls Tryd.prog 43 #[.agg #[.string s, .slice pa pn pc, .int .i64 r, .slice va vn vc, .slice ba bn bc, .slice fa fn fc], .int .i64 i, .agg #[.int .i64 13, .int .i64 2, .int .i64 imm, .slice ka 2 kc]] w fun e w' => e = .returned (.bool (isP f x (gv f y).ty)) ∧ Below w.heap.size w w' := by
  obtain ⟨b1, o1, rfl, hAt⟩ := hA.out (by simp)
  have k0 : w.cell? ⟨b1, o1, none⟩ = some (.int .i64 x) := by have := hAt.cell 0 (by simp); simpa using this
  have k1 : w.cell? ⟨b1, o1 + 1, none⟩ = some (.int .i64 y) := by have := hAt.cell 1 (by simp); simpa using this
  have hl1 := hAt.lt
  obtain ⟨j, b2, o2, xa, xl, xc, rfl, hj, hvn, rfl, hl2, c0, c1, c2, c3, hkl, hI⟩ := C.val hy
  generalize (gv f (j : Int)).ty = t at c1
  have A0 : Aft w (.cells #[.string s, .slice pa pn pc, .int .i64 r, .slice (some ⟨b2, o2, none⟩) vn vc, .slice ba bn bc, .slice fa fn fc] 47) (.cells #[.int .i64 13, .int .i64 2, .int .i64 imm, .slice (some ⟨b1, o1, none⟩) 2 kc] 25) ((w.alloc (.cells #[.string s, .slice pa pn pc, .int .i64 r, .slice (some ⟨b2, o2, none⟩) vn vc, .slice ba bn bc, .slice fa fn fc] 47)).alloc (.cells #[.int .i64 13, .int .i64 2, .int .i64 imm, .slice (some ⟨b1, o1, none⟩) 2 kc] 25)) := Aft.refl _ _ _
  obtain ⟨f0, f1, f2, f3, f4, f5⟩ := fcells A0.one
  obtain ⟨v0, v1, v2, v3⟩ := vcells A0.two
  have d0 := (A0.low.cell (p := ⟨b1, o1, none⟩) hl1).trans k0
  have d1 := (A0.low.cell (p := ⟨b1, o1 + 1, none⟩) hl1).trans k1
  have d2 := (A0.low.cell (p := ⟨b2, o2 + j * 4 + 1, none⟩) hl2).trans c1
  have hd : Below ((w.alloc (.cells #[.string s, .slice pa pn pc, .int .i64 r, .slice (some ⟨b2, o2, none⟩) vn vc, .slice ba bn bc, .slice fa fn fc] 47)).alloc (.cells #[.int .i64 13, .int .i64 2, .int .i64 imm, .slice (some ⟨b1, o1, none⟩) 2 kc] 25)).heap.size ((w.alloc (.cells #[.string s, .slice pa pn pc, .int .i64 r, .slice (some ⟨b2, o2, none⟩) vn vc, .slice ba bn bc, .slice fa fn fc] 47)).alloc (.cells #[.int .i64 13, .int .i64 2, .int .i64 imm, .slice (some ⟨b1, o1, none⟩) 2 kc] 25)) ((w.alloc (.cells #[.string s, .slice pa pn pc, .int .i64 r, .slice (some ⟨b2, o2, none⟩) vn vc, .slice ba bn bc, .slice fa fn fc] 47)).alloc (.cells #[.int .i64 13, .int .i64 2, .int .i64 imm, .slice (some ⟨b1, o1, none⟩) 2 kc] 25)).drew := (Below.refl _ _).drew
  have HD : Hid (Ctx ((w.alloc (.cells #[.string s, .slice pa pn pc, .int .i64 r, .slice (some ⟨b2, o2, none⟩) vn vc, .slice ba bn bc, .slice fa fn fc] 47)).alloc (.cells #[.int .i64 13, .int .i64 2, .int .i64 imm, .slice (some ⟨b1, o1, none⟩) 2 kc] 25)).drew s pa pn pc r (some ⟨b2, o2, none⟩) vn vc ba bn bc fa fn fc f FS) := C.below (A0.next hd).low (Nat.le_refl _)
  have S0 : (fun w' : World => w'.cell? ⟨w.heap.size, 0, none⟩ = some (.string s) ∧ w'.cell? ⟨w.heap.size, 1, none⟩ = some (.slice pa pn pc) ∧ w'.cell? ⟨w.heap.size, 2, none⟩ = some (.int .i64 r) ∧ w'.cell? ⟨w.heap.size, 3, none⟩ = some (.slice (some ⟨b2, o2, none⟩) vn vc) ∧ w'.cell? ⟨w.heap.size, 4, none⟩ = some (.slice ba bn bc) ∧ w'.cell? ⟨w.heap.size, 5, none⟩ = some (.slice fa fn fc) ∧ w'.cell? ⟨w.heap.size + 1, 1, none⟩ = some (.int .i64 2) ∧ w'.cell? ⟨w.heap.size + 1, 3, none⟩ = some (.slice (some ⟨b1, o1, none⟩) 2 kc) ∧ w'.cell? ⟨b1, o1, none⟩ = some (.int .i64 x) ∧ w'.cell? ⟨b1, o1 + 1, none⟩ = some (.int .i64 (j : Int)) ∧ w'.cell? ⟨b2, o2 + j * 4 + 1, none⟩ = some (.int .i64 t)) ((w.alloc (.cells #[.string s, .slice pa pn pc, .int .i64 r, .slice (some ⟨b2, o2, none⟩) vn vc, .slice ba bn bc, .slice fa fn fc] 47)).alloc (.cells #[.int .i64 13, .int .i64 2, .int .i64 imm, .slice (some ⟨b1, o1, none⟩) 2 kc] 25)).drew := ⟨f0, f1, f2, f3, f4, f5, v1, v3, d0, d1, d2⟩
  have HS : Hid (∀ w1, Below ((w.alloc (.cells #[.string s, .slice pa pn pc, .int .i64 r, .slice (some ⟨b2, o2, none⟩) vn vc, .slice ba bn bc, .slice fa fn fc] 47)).alloc (.cells #[.int .i64 13, .int .i64 2, .int .i64 imm, .slice (some ⟨b1, o1, none⟩) 2 kc] 25)).drew.heap.size ((w.alloc (.cells #[.string s, .slice pa pn pc, .int .i64 r, .slice (some ⟨b2, o2, none⟩) vn vc, .slice ba bn bc, .slice fa fn fc] 47)).alloc (.cells #[.int .i64 13, .int .i64 2, .int .i64 imm, .slice (some ⟨b1, o1, none⟩) 2 kc] 25)).drew w1 → (fun w' : World => w'.cell? ⟨w.heap.size, 0, none⟩ = some (.string s) ∧ w'.cell? ⟨w.heap.size, 1, none⟩ = some (.slice pa pn pc) ∧ w'.cell? ⟨w.heap.size, 2, none⟩ = some (.int .i64 r) ∧ w'.cell? ⟨w.heap.size, 3, none⟩ = some (.slice (some ⟨b2, o2, none⟩) vn vc) ∧ w'.cell? ⟨w.heap.size, 4, none⟩ = some (.slice ba bn bc) ∧ w'.cell? ⟨w.heap.size, 5, none⟩ = some (.slice fa fn fc) ∧ w'.cell? ⟨w.heap.size + 1, 1, none⟩ = some (.int .i64 2) ∧ w'.cell? ⟨w.heap.size + 1, 3, none⟩ = some (.slice (some ⟨b1, o1, none⟩) 2 kc) ∧ w'.cell? ⟨b1, o1, none⟩ = some (.int .i64 x) ∧ w'.cell? ⟨b1, o1 + 1, none⟩ = some (.int .i64 (j : Int)) ∧ w'.cell? ⟨b2, o2 + j * 4 + 1, none⟩ = some (.int .i64 t)) w1) := fun w1 hb1 => by
    have A1 := (A0.next hd).next hb1
    obtain ⟨f0, f1, f2, f3, f4, f5⟩ := fcells A1.one
    obtain ⟨v0, v1, v2, v3⟩ := vcells A1.two
    exact ⟨f0, f1, f2, f3, f4, f5, v1, v3, (A1.low.cell (p := ⟨b1, o1, none⟩) hl1).trans k0, (A1.low.cell (p := ⟨b1, o1 + 1, none⟩) hl1).trans k1, (A1.low.cell (p := ⟨b2, o2 + j * 4 + 1, none⟩) hl2).trans c1⟩
  generalize hR : isP f x t = R
  have HA0 : Hid _ := A0
  clear C hA hAt k0 k1 c0 c1 c2 c3 hkl hI hy v0 v2
  go_enter Tryd.func43, Tryd.ntmps43
  go_wp2_with fail
  go_region_held (fun w' => w'.cell? ⟨w.heap.size, 0, none⟩ = some (.string s) ∧ w'.cell? ⟨w.heap.size, 1, none⟩ = some (.slice pa pn pc) ∧ w'.cell? ⟨w.heap.size, 2, none⟩ = some (.int .i64 r) ∧ w'.cell? ⟨w.heap.size, 3, none⟩ = some (.slice (some ⟨b2, o2, none⟩) vn vc) ∧ w'.cell? ⟨w.heap.size, 4, none⟩ = some (.slice ba bn bc) ∧ w'.cell? ⟨w.heap.size, 5, none⟩ = some (.slice fa fn fc) ∧ w'.cell? ⟨w.heap.size + 1, 1, none⟩ = some (.int .i64 2) ∧ w'.cell? ⟨w.heap.size + 1, 3, none⟩ = some (.slice (some ⟨b1, o1, none⟩) 2 kc) ∧ w'.cell? ⟨b1, o1, none⟩ = some (.int .i64 x) ∧ w'.cell? ⟨b1, o1 + 1, none⟩ = some (.int .i64 (j : Int)) ∧ w'.cell? ⟨b2, o2 + j * 4 + 1, none⟩ = some (.int .i64 t)) (first | exact S0 | exact S1)
    (first | (go_at_call 69; refine (is_at ((w.alloc (.cells #[.string s, .slice pa pn pc, .int .i64 r, .slice (some ⟨b2, o2, none⟩) vn vc, .slice ba bn bc, .slice fa fn fc] 47)).alloc (.cells #[.int .i64 13, .int .i64 2, .int .i64 imm, .slice (some ⟨b1, o1, none⟩) 2 kc] 25)).drew HD.out _ _ hx _ hR).mono ?_; rintro e w1 ⟨rfl, hb1⟩; have S1 := HS.out w1 hb1))
  all_goals go_wp2_with fail
  all_goals go_ret
  all_goals first | exact ⟨by simp, ((HA0.out.next hd).next hb1).low⟩ | exact ⟨rfl, ((HA0.out.next hd).next hb1).low⟩
set_option maxRecDepth 100000 in
set_option maxHeartbeats 4000000 in
theorem typeFits_yes14 (w : World) {s : ByteArray} {pa : Option Addr} {pn pc : Nat} {r : Int} {va : Option Addr} {vn vc : Nat} {ba : Option Addr} {bn bc : Nat} {fa : Option Addr} {fn fc : Nat} {f : Fu} {FS : List Fu} (C : Ctx w s pa pn pc r va vn vc ba bn bc fa fn fc f FS) (i : Nat) (imm : Int) (ka : Option Addr) (kc : Nat) (x y : Int) (hA : Ints w ka kc [x, y]) (hx : wi vn x = true) (hy : wi vn y = true) : Calls Tryd.prog 43 #[.agg #[.string s, .slice pa pn pc, .int .i64 r, .slice va vn vc, .slice ba bn bc, .slice fa fn fc], .int .i64 i, .agg #[.int .i64 14, .int .i64 2, .int .i64 imm, .slice ka 2 kc]] w fun e w' => e = .returned (.bool (isP f x (gv f y).ty)) ∧ Below w.heap.size w w' := by
  obtain ⟨b1, o1, rfl, hAt⟩ := hA.out (by simp)
  have k0 : w.cell? ⟨b1, o1, none⟩ = some (.int .i64 x) := by have := hAt.cell 0 (by simp); simpa using this
  have k1 : w.cell? ⟨b1, o1 + 1, none⟩ = some (.int .i64 y) := by have := hAt.cell 1 (by simp); simpa using this
  have hl1 := hAt.lt
  obtain ⟨j, b2, o2, xa, xl, xc, rfl, hj, hvn, rfl, hl2, c0, c1, c2, c3, hkl, hI⟩ := C.val hy
  generalize (gv f (j : Int)).ty = t at c1
  have A0 : Aft w (.cells #[.string s, .slice pa pn pc, .int .i64 r, .slice (some ⟨b2, o2, none⟩) vn vc, .slice ba bn bc, .slice fa fn fc] 47) (.cells #[.int .i64 14, .int .i64 2, .int .i64 imm, .slice (some ⟨b1, o1, none⟩) 2 kc] 25) ((w.alloc (.cells #[.string s, .slice pa pn pc, .int .i64 r, .slice (some ⟨b2, o2, none⟩) vn vc, .slice ba bn bc, .slice fa fn fc] 47)).alloc (.cells #[.int .i64 14, .int .i64 2, .int .i64 imm, .slice (some ⟨b1, o1, none⟩) 2 kc] 25)) := Aft.refl _ _ _
  obtain ⟨f0, f1, f2, f3, f4, f5⟩ := fcells A0.one
  obtain ⟨v0, v1, v2, v3⟩ := vcells A0.two
  have d0 := (A0.low.cell (p := ⟨b1, o1, none⟩) hl1).trans k0
  have d1 := (A0.low.cell (p := ⟨b1, o1 + 1, none⟩) hl1).trans k1
  have d2 := (A0.low.cell (p := ⟨b2, o2 + j * 4 + 1, none⟩) hl2).trans c1
  have hd : Below ((w.alloc (.cells #[.string s, .slice pa pn pc, .int .i64 r, .slice (some ⟨b2, o2, none⟩) vn vc, .slice ba bn bc, .slice fa fn fc] 47)).alloc (.cells #[.int .i64 14, .int .i64 2, .int .i64 imm, .slice (some ⟨b1, o1, none⟩) 2 kc] 25)).heap.size ((w.alloc (.cells #[.string s, .slice pa pn pc, .int .i64 r, .slice (some ⟨b2, o2, none⟩) vn vc, .slice ba bn bc, .slice fa fn fc] 47)).alloc (.cells #[.int .i64 14, .int .i64 2, .int .i64 imm, .slice (some ⟨b1, o1, none⟩) 2 kc] 25)) ((w.alloc (.cells #[.string s, .slice pa pn pc, .int .i64 r, .slice (some ⟨b2, o2, none⟩) vn vc, .slice ba bn bc, .slice fa fn fc] 47)).alloc (.cells #[.int .i64 14, .int .i64 2, .int .i64 imm, .slice (some ⟨b1, o1, none⟩) 2 kc] 25)).drew := (Below.refl _ _).drew
  have HD : Hid (Ctx ((w.alloc (.cells #[.string s, .slice pa pn pc, .int .i64 r, .slice (some ⟨b2, o2, none⟩) vn vc, .slice ba bn bc, .slice fa fn fc] 47)).alloc (.cells #[.int .i64 14, .int .i64 2, .int .i64 imm, .slice (some ⟨b1, o1, none⟩) 2 kc] 25)).drew s pa pn pc r (some ⟨b2, o2, none⟩) vn vc ba bn bc fa fn fc f FS) := C.below (A0.next hd).low (Nat.le_refl _)
  have S0 : (fun w' : World => w'.cell? ⟨w.heap.size, 0, none⟩ = some (.string s) ∧ w'.cell? ⟨w.heap.size, 1, none⟩ = some (.slice pa pn pc) ∧ w'.cell? ⟨w.heap.size, 2, none⟩ = some (.int .i64 r) ∧ w'.cell? ⟨w.heap.size, 3, none⟩ = some (.slice (some ⟨b2, o2, none⟩) vn vc) ∧ w'.cell? ⟨w.heap.size, 4, none⟩ = some (.slice ba bn bc) ∧ w'.cell? ⟨w.heap.size, 5, none⟩ = some (.slice fa fn fc) ∧ w'.cell? ⟨w.heap.size + 1, 1, none⟩ = some (.int .i64 2) ∧ w'.cell? ⟨w.heap.size + 1, 3, none⟩ = some (.slice (some ⟨b1, o1, none⟩) 2 kc) ∧ w'.cell? ⟨b1, o1, none⟩ = some (.int .i64 x) ∧ w'.cell? ⟨b1, o1 + 1, none⟩ = some (.int .i64 (j : Int)) ∧ w'.cell? ⟨b2, o2 + j * 4 + 1, none⟩ = some (.int .i64 t)) ((w.alloc (.cells #[.string s, .slice pa pn pc, .int .i64 r, .slice (some ⟨b2, o2, none⟩) vn vc, .slice ba bn bc, .slice fa fn fc] 47)).alloc (.cells #[.int .i64 14, .int .i64 2, .int .i64 imm, .slice (some ⟨b1, o1, none⟩) 2 kc] 25)).drew := ⟨f0, f1, f2, f3, f4, f5, v1, v3, d0, d1, d2⟩
  have HS : Hid (∀ w1, Below ((w.alloc (.cells #[.string s, .slice pa pn pc, .int .i64 r, .slice (some ⟨b2, o2, none⟩) vn vc, .slice ba bn bc, .slice fa fn fc] 47)).alloc (.cells #[.int .i64 14, .int .i64 2, .int .i64 imm, .slice (some ⟨b1, o1, none⟩) 2 kc] 25)).drew.heap.size ((w.alloc (.cells #[.string s, .slice pa pn pc, .int .i64 r, .slice (some ⟨b2, o2, none⟩) vn vc, .slice ba bn bc, .slice fa fn fc] 47)).alloc (.cells #[.int .i64 14, .int .i64 2, .int .i64 imm, .slice (some ⟨b1, o1, none⟩) 2 kc] 25)).drew w1 → (fun w' : World => w'.cell? ⟨w.heap.size, 0, none⟩ = some (.string s) ∧ w'.cell? ⟨w.heap.size, 1, none⟩ = some (.slice pa pn pc) ∧ w'.cell? ⟨w.heap.size, 2, none⟩ = some (.int .i64 r) ∧ w'.cell? ⟨w.heap.size, 3, none⟩ = some (.slice (some ⟨b2, o2, none⟩) vn vc) ∧ w'.cell? ⟨w.heap.size, 4, none⟩ = some (.slice ba bn bc) ∧ w'.cell? ⟨w.heap.size, 5, none⟩ = some (.slice fa fn fc) ∧ w'.cell? ⟨w.heap.size + 1, 1, none⟩ = some (.int .i64 2) ∧ w'.cell? ⟨w.heap.size + 1, 3, none⟩ = some (.slice (some ⟨b1, o1, none⟩) 2 kc) ∧ w'.cell? ⟨b1, o1, none⟩ = some (.int .i64 x) ∧ w'.cell? ⟨b1, o1 + 1, none⟩ = some (.int .i64 (j : Int)) ∧ w'.cell? ⟨b2, o2 + j * 4 + 1, none⟩ = some (.int .i64 t)) w1) := fun w1 hb1 => by
    have A1 := (A0.next hd).next hb1
    obtain ⟨f0, f1, f2, f3, f4, f5⟩ := fcells A1.one
    obtain ⟨v0, v1, v2, v3⟩ := vcells A1.two
    exact ⟨f0, f1, f2, f3, f4, f5, v1, v3, (A1.low.cell (p := ⟨b1, o1, none⟩) hl1).trans k0, (A1.low.cell (p := ⟨b1, o1 + 1, none⟩) hl1).trans k1, (A1.low.cell (p := ⟨b2, o2 + j * 4 + 1, none⟩) hl2).trans c1⟩
  generalize hR : isP f x t = R
  have HA0 : Hid _ := A0
  clear C hA hAt k0 k1 c0 c1 c2 c3 hkl hI hy v0 v2
  go_enter Tryd.func43, Tryd.ntmps43
  go_wp2_with fail
  go_region_held (fun w' => w'.cell? ⟨w.heap.size, 0, none⟩ = some (.string s) ∧ w'.cell? ⟨w.heap.size, 1, none⟩ = some (.slice pa pn pc) ∧ w'.cell? ⟨w.heap.size, 2, none⟩ = some (.int .i64 r) ∧ w'.cell? ⟨w.heap.size, 3, none⟩ = some (.slice (some ⟨b2, o2, none⟩) vn vc) ∧ w'.cell? ⟨w.heap.size, 4, none⟩ = some (.slice ba bn bc) ∧ w'.cell? ⟨w.heap.size, 5, none⟩ = some (.slice fa fn fc) ∧ w'.cell? ⟨w.heap.size + 1, 1, none⟩ = some (.int .i64 2) ∧ w'.cell? ⟨w.heap.size + 1, 3, none⟩ = some (.slice (some ⟨b1, o1, none⟩) 2 kc) ∧ w'.cell? ⟨b1, o1, none⟩ = some (.int .i64 x) ∧ w'.cell? ⟨b1, o1 + 1, none⟩ = some (.int .i64 (j : Int)) ∧ w'.cell? ⟨b2, o2 + j * 4 + 1, none⟩ = some (.int .i64 t)) (first | exact S0 | exact S1)
    (first | (go_at_call 69; refine (is_at ((w.alloc (.cells #[.string s, .slice pa pn pc, .int .i64 r, .slice (some ⟨b2, o2, none⟩) vn vc, .slice ba bn bc, .slice fa fn fc] 47)).alloc (.cells #[.int .i64 14, .int .i64 2, .int .i64 imm, .slice (some ⟨b1, o1, none⟩) 2 kc] 25)).drew HD.out _ _ hx _ hR).mono ?_; rintro e w1 ⟨rfl, hb1⟩; have S1 := HS.out w1 hb1))
  all_goals go_wp2_with fail
  all_goals go_ret
  all_goals first | exact ⟨by simp, ((HA0.out.next hd).next hb1).low⟩ | exact ⟨rfl, ((HA0.out.next hd).next hb1).low⟩
end Go.Proofs.YtdbkjjelaipcfaaDoor
