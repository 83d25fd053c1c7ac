import Derived.Test.YtfbkopjncmkbiaaGreatDoorJal
set_option linter.unusedVariables false
set_option linter.unusedSimpArgs false
namespace Go.Proofs.YtfbkopjncmkbiaaGreatDoor
open Go.ChangeShapes Go.WideShapes Go.ChangeAt Go.RowKit Go.Maps
theorem typeFits_no13 (w : World) {s : ByteArray} {pa : Option Addr} {pn pc : Nat} {r : Int} {va : Option Addr} {vn vc : Nat} {ba : Option Addr} {bn bc : Nat} {fa : Option Addr} {fn fc : Nat} (i : Nat) (ty imm : Int) (ka : Option Addr) (kl kc : Nat) (ht : ¬ ty = 2) : Calls Tryz.prog 106 #[.agg #[.string s, .slice pa pn pc, .int .i64 r, .slice va vn vc, .slice ba bn bc, .slice fa fn fc], .int .i64 i, .agg #[.int .i64 13, .int .i64 ty, .int .i64 imm, .slice ka kl kc]] w fun e w' => e = .returned (.bool false) /\ Below w.heap.size w w' := by
 have A0 : Aft w (.cells #[.string s, .slice pa pn pc, .int .i64 r, .slice va vn vc, .slice ba bn bc, .slice fa fn fc] 85) (.cells #[.int .i64 13, .int .i64 ty, .int .i64 imm, .slice ka kl kc] 45) ((w.alloc (.cells #[.string s, .slice pa pn pc, .int .i64 r, .slice va vn vc, .slice ba bn bc, .slice fa fn fc] 85)).alloc (.cells #[.int .i64 13, .int .i64 ty, .int .i64 imm, .slice ka kl kc] 45)) := Aft.refl _ _ _
 have ht' : (ty == 2) = false := by simp [ht]
 clear ht
 go_enter Tryz.func106, Tryz.ntmps106
 go_wp2_with fail
 go_quiet (fail)
 go_wp2_with fail
 go_ret
 exact ⟨rfl, below_drawn A0.low _⟩
theorem typeFits_no14 (w : World) {s : ByteArray} {pa : Option Addr} {pn pc : Nat} {r : Int} {va : Option Addr} {vn vc : Nat} {ba : Option Addr} {bn bc : Nat} {fa : Option Addr} {fn fc : Nat} (i : Nat) (ty imm : Int) (ka : Option Addr) (kl kc : Nat) (ht : ¬ ty = 2) : Calls Tryz.prog 106 #[.agg #[.string s, .slice pa pn pc, .int .i64 r, .slice va vn vc, .slice ba bn bc, .slice fa fn fc], .int .i64 i, .agg #[.int .i64 14, .int .i64 ty, .int .i64 imm, .slice ka kl kc]] w fun e w' => e = .returned (.bool false) /\ Below w.heap.size w w' := by
 have A0 : Aft w (.cells #[.string s, .slice pa pn pc, .int .i64 r, .slice va vn vc, .slice ba bn bc, .slice fa fn fc] 85) (.cells #[.int .i64 14, .int .i64 ty, .int .i64 imm, .slice ka kl kc] 45) ((w.alloc (.cells #[.string s, .slice pa pn pc, .int .i64 r, .slice va vn vc, .slice ba bn bc, .slice fa fn fc] 85)).alloc (.cells #[.int .i64 14, .int .i64 ty, .int .i64 imm, .slice ka kl kc] 45)) := Aft.refl _ _ _
 have ht' : (ty == 2) = false := by simp [ht]
 clear ht
 go_enter Tryz.func106, Tryz.ntmps106
 go_wp2_with fail
 go_quiet (fail)
 go_wp2_with fail
 go_ret
 exact ⟨rfl, below_drawn A0.low _⟩
set_option maxRecDepth 100000 in
set_option maxHeartbeats 4000000 in
theorem typeFits_yes13 (w : World) {s : ByteArray} {pa : Option Addr} {pn pc : Nat} {r : Int} {va : Option Addr} {vn vc : Nat} {ba : Option Addr} {bn bc : Nat} {fa : Option Addr} {fn fc : Nat} {f : Fu} {FS : List Fu} (C : Ctx w s pa pn pc r va vn vc ba bn bc fa fn fc f FS) (i : Nat) (imm : Int) (ka : Option Addr) (kc : Nat) (x y : Int) (hA : Ints w ka kc [x, y]) (hx : wi vn x = true) (hy : wi vn y = true) : Calls Tryz.prog 106 #[.agg #[.string s, .slice pa pn pc, .int .i64 r, .slice va vn vc, .slice ba bn bc, .slice fa fn fc], .int .i64 i, .agg #[.int .i64 13, .int .i64 2, .int .i64 imm, .slice ka 2 kc]] w fun e w' => e = .returned (.bool (isP f x (gv f y).ty)) /\ Below w.heap.size w w' := by
 obtain ⟨b1, o1, rfl, hAt⟩ := hA.out (by simp)
 have k0 : w.cell? ⟨b1, o1, none⟩ = some (.int .i64 x) := by have := hAt.cell 0 (by simp); simpa using this
 have k1 : w.cell? ⟨b1, o1 + 1, none⟩ = some (.int .i64 y) := by have := hAt.cell 1 (by simp); simpa using this
 have hl1 := hAt.lt
 obtain ⟨j, b2, o2, xa, xl, xc, rfl, hj, hvn, rfl, hl2, c0, c1, c2, c3, hkl, hI⟩ := C.val hy
 generalize (gv f (j : Int)).ty = t at c1
 have A0 : Aft w (.cells #[.string s, .slice pa pn pc, .int .i64 r, .slice (some ⟨b2, o2, none⟩) vn vc, .slice ba bn bc, .slice fa fn fc] 85) (.cells #[.int .i64 13, .int .i64 2, .int .i64 imm, .slice (some ⟨b1, o1, none⟩) 2 kc] 45) ((w.alloc (.cells #[.string s, .slice pa pn pc, .int .i64 r, .slice (some ⟨b2, o2, none⟩) vn vc, .slice ba bn bc, .slice fa fn fc] 85)).alloc (.cells #[.int .i64 13, .int .i64 2, .int .i64 imm, .slice (some ⟨b1, o1, none⟩) 2 kc] 45)) := Aft.refl _ _ _
 obtain ⟨f0, f1, f2, f3, f4, f5⟩ := fcells A0.one
 obtain ⟨v0, v1, v2, v3⟩ := vcells A0.two
 have d0 := (A0.low.cell (p := ⟨b1, o1, none⟩) hl1).trans k0
 have d1 := (A0.low.cell (p := ⟨b1, o1 + 1, none⟩) hl1).trans k1
 have d2 := (A0.low.cell (p := ⟨b2, o2 + j * 4 + 1, none⟩) hl2).trans c1
 have hd : Below ((w.alloc (.cells #[.string s, .slice pa pn pc, .int .i64 r, .slice (some ⟨b2, o2, none⟩) vn vc, .slice ba bn bc, .slice fa fn fc] 85)).alloc (.cells #[.int .i64 13, .int .i64 2, .int .i64 imm, .slice (some ⟨b1, o1, none⟩) 2 kc] 45)).heap.size ((w.alloc (.cells #[.string s, .slice pa pn pc, .int .i64 r, .slice (some ⟨b2, o2, none⟩) vn vc, .slice ba bn bc, .slice fa fn fc] 85)).alloc (.cells #[.int .i64 13, .int .i64 2, .int .i64 imm, .slice (some ⟨b1, o1, none⟩) 2 kc] 45)) ((w.alloc (.cells #[.string s, .slice pa pn pc, .int .i64 r, .slice (some ⟨b2, o2, none⟩) vn vc, .slice ba bn bc, .slice fa fn fc] 85)).alloc (.cells #[.int .i64 13, .int .i64 2, .int .i64 imm, .slice (some ⟨b1, o1, none⟩) 2 kc] 45)).drew := (Below.refl _ _).drew
 have HD : Hid (Ctx ((w.alloc (.cells #[.string s, .slice pa pn pc, .int .i64 r, .slice (some ⟨b2, o2, none⟩) vn vc, .slice ba bn bc, .slice fa fn fc] 85)).alloc (.cells #[.int .i64 13, .int .i64 2, .int .i64 imm, .slice (some ⟨b1, o1, none⟩) 2 kc] 45)).drew s pa pn pc r (some ⟨b2, o2, none⟩) vn vc ba bn bc fa fn fc f FS) := C.below (A0.next hd).low (Nat.le_refl _)
 have S0 : (fun w' : World => w'.cell? ⟨w.heap.size, 0, none⟩ = some (.string s) /\ w'.cell? ⟨w.heap.size, 1, none⟩ = some (.slice pa pn pc) /\ w'.cell? ⟨w.heap.size, 2, none⟩ = some (.int .i64 r) /\ w'.cell? ⟨w.heap.size, 3, none⟩ = some (.slice (some ⟨b2, o2, none⟩) vn vc) /\ w'.cell? ⟨w.heap.size, 4, none⟩ = some (.slice ba bn bc) /\ w'.cell? ⟨w.heap.size, 5, none⟩ = some (.slice fa fn fc) /\ w'.cell? ⟨w.heap.size + 1, 1, none⟩ = some (.int .i64 2) /\ w'.cell? ⟨w.heap.size + 1, 3, none⟩ = some (.slice (some ⟨b1, o1, none⟩) 2 kc) /\ w'.cell? ⟨b1, o1, none⟩ = some (.int .i64 x) /\ w'.cell? ⟨b1, o1 + 1, none⟩ = some (.int .i64 (j : Int)) /\ w'.cell? ⟨b2, o2 + j * 4 + 1, none⟩ = some (.int .i64 t)) ((w.alloc (.cells #[.string s, .slice pa pn pc, .int .i64 r, .slice (some ⟨b2, o2, none⟩) vn vc, .slice ba bn bc, .slice fa fn fc] 85)).alloc (.cells #[.int .i64 13, .int .i64 2, .int .i64 imm, .slice (some ⟨b1, o1, none⟩) 2 kc] 45)).drew := ⟨f0, f1, f2, f3, f4, f5, v1, v3, d0, d1, d2⟩
 have HS : Hid (∀ w1, Below ((w.alloc (.cells #[.string s, .slice pa pn pc, .int .i64 r, .slice (some ⟨b2, o2, none⟩) vn vc, .slice ba bn bc, .slice fa fn fc] 85)).alloc (.cells #[.int .i64 13, .int .i64 2, .int .i64 imm, .slice (some ⟨b1, o1, none⟩) 2 kc] 45)).drew.heap.size ((w.alloc (.cells #[.string s, .slice pa pn pc, .int .i64 r, .slice (some ⟨b2, o2, none⟩) vn vc, .slice ba bn bc, .slice fa fn fc] 85)).alloc (.cells #[.int .i64 13, .int .i64 2, .int .i64 imm, .slice (some ⟨b1, o1, none⟩) 2 kc] 45)).drew w1 -> (fun w' : World => w'.cell? ⟨w.heap.size, 0, none⟩ = some (.string s) /\ w'.cell? ⟨w.heap.size, 1, none⟩ = some (.slice pa pn pc) /\ w'.cell? ⟨w.heap.size, 2, none⟩ = some (.int .i64 r) /\ w'.cell? ⟨w.heap.size, 3, none⟩ = some (.slice (some ⟨b2, o2, none⟩) vn vc) /\ w'.cell? ⟨w.heap.size, 4, none⟩ = some (.slice ba bn bc) /\ w'.cell? ⟨w.heap.size, 5, none⟩ = some (.slice fa fn fc) /\ w'.cell? ⟨w.heap.size + 1, 1, none⟩ = some (.int .i64 2) /\ w'.cell? ⟨w.heap.size + 1, 3, none⟩ = some (.slice (some ⟨b1, o1, none⟩) 2 kc) /\ w'.cell? ⟨b1, o1, none⟩ = some (.int .i64 x) /\ w'.cell? ⟨b1, o1 + 1, none⟩ = some (.int .i64 (j : Int)) /\ w'.cell? ⟨b2, o2 + j * 4 + 1, none⟩ = some (.int .i64 t)) w1) := fun w1 hb1 => by
  have A1 := (A0.next hd).next hb1
  obtain ⟨f0, f1, f2, f3, f4, f5⟩ := fcells A1.one
  obtain ⟨v0, v1, v2, v3⟩ := vcells A1.two
  exact ⟨f0, f1, f2, f3, f4, f5, v1, v3, (A1.low.cell (p := ⟨b1, o1, none⟩) hl1).trans k0, (A1.low.cell (p := ⟨b1, o1 + 1, none⟩) hl1).trans k1, (A1.low.cell (p := ⟨b2, o2 + j * 4 + 1, none⟩) hl2).trans c1⟩
 generalize hR : isP f x t = R
 have HA0 : Hid _ := A0
 clear C hA hAt k0 k1 c0 c1 c2 c3 hkl hI hy v0 v2
 go_enter Tryz.func106, Tryz.ntmps106
 go_wp2_with fail
 go_region_held (fun w' => w'.cell? ⟨w.heap.size, 0, none⟩ = some (.string s) /\ w'.cell? ⟨w.heap.size, 1, none⟩ = some (.slice pa pn pc) /\ w'.cell? ⟨w.heap.size, 2, none⟩ = some (.int .i64 r) /\ w'.cell? ⟨w.heap.size, 3, none⟩ = some (.slice (some ⟨b2, o2, none⟩) vn vc) /\ w'.cell? ⟨w.heap.size, 4, none⟩ = some (.slice ba bn bc) /\ w'.cell? ⟨w.heap.size, 5, none⟩ = some (.slice fa fn fc) /\ w'.cell? ⟨w.heap.size + 1, 1, none⟩ = some (.int .i64 2) /\ w'.cell? ⟨w.heap.size + 1, 3, none⟩ = some (.slice (some ⟨b1, o1, none⟩) 2 kc) /\ w'.cell? ⟨b1, o1, none⟩ = some (.int .i64 x) /\ w'.cell? ⟨b1, o1 + 1, none⟩ = some (.int .i64 (j : Int)) /\ w'.cell? ⟨b2, o2 + j * 4 + 1, none⟩ = some (.int .i64 t)) (first | exact S0 | exact S1)
  (first | (go_at_call 140; refine (is_at ((w.alloc (.cells #[.string s, .slice pa pn pc, .int .i64 r, .slice (some ⟨b2, o2, none⟩) vn vc, .slice ba bn bc, .slice fa fn fc] 85)).alloc (.cells #[.int .i64 13, .int .i64 2, .int .i64 imm, .slice (some ⟨b1, o1, none⟩) 2 kc] 45)).drew HD.out _ _ hx _ hR).mono ?_; rintro e w1 ⟨rfl, hb1⟩; have S1 := HS.out w1 hb1))
 all_goals go_wp2_with fail
 all_goals go_ret
 all_goals first | exact ⟨by simp, ((HA0.out.next hd).next hb1).low⟩ | exact ⟨rfl, ((HA0.out.next hd).next hb1).low⟩
set_option maxRecDepth 100000 in
set_option maxHeartbeats 4000000 in
theorem typeFits_yes14 (w : World) {s : ByteArray} {pa : Option Addr} {pn pc : Nat} {r : Int} {va : Option Addr} {vn vc : Nat} {ba : Option Addr} {bn bc : Nat} {fa : Option Addr} {fn fc : Nat} {f : Fu} {FS : List Fu} (C : Ctx w s pa pn pc r va vn vc ba bn bc fa fn fc f FS) (i : Nat) (imm : Int) (ka : Option Addr) (kc : Nat) (x y : Int) (hA : Ints w ka kc [x, y]) (hx : wi vn x = true) (hy : wi vn y = true) : Calls Tryz.prog 106 #[.agg #[.string s, .slice pa pn pc, .int .i64 r, .slice va vn vc, .slice ba bn bc, .slice fa fn fc], .int .i64 i, .agg #[.int .i64 14, .int .i64 2, .int .i64 imm, .slice ka 2 kc]] w fun e w' => e = .returned (.bool (isP f x (gv f y).ty)) /\ Below w.heap.size w w' := by
 obtain ⟨b1, o1, rfl, hAt⟩ := hA.out (by simp)
 have k0 : w.cell? ⟨b1, o1, none⟩ = some (.int .i64 x) := by have := hAt.cell 0 (by simp); simpa using this
 have k1 : w.cell? ⟨b1, o1 + 1, none⟩ = some (.int .i64 y) := by have := hAt.cell 1 (by simp); simpa using this
 have hl1 := hAt.lt
 obtain ⟨j, b2, o2, xa, xl, xc, rfl, hj, hvn, rfl, hl2, c0, c1, c2, c3, hkl, hI⟩ := C.val hy
 generalize (gv f (j : Int)).ty = t at c1
 have A0 : Aft w (.cells #[.string s, .slice pa pn pc, .int .i64 r, .slice (some ⟨b2, o2, none⟩) vn vc, .slice ba bn bc, .slice fa fn fc] 85) (.cells #[.int .i64 14, .int .i64 2, .int .i64 imm, .slice (some ⟨b1, o1, none⟩) 2 kc] 45) ((w.alloc (.cells #[.string s, .slice pa pn pc, .int .i64 r, .slice (some ⟨b2, o2, none⟩) vn vc, .slice ba bn bc, .slice fa fn fc] 85)).alloc (.cells #[.int .i64 14, .int .i64 2, .int .i64 imm, .slice (some ⟨b1, o1, none⟩) 2 kc] 45)) := Aft.refl _ _ _
 obtain ⟨f0, f1, f2, f3, f4, f5⟩ := fcells A0.one
 obtain ⟨v0, v1, v2, v3⟩ := vcells A0.two
 have d0 := (A0.low.cell (p := ⟨b1, o1, none⟩) hl1).trans k0
 have d1 := (A0.low.cell (p := ⟨b1, o1 + 1, none⟩) hl1).trans k1
 have d2 := (A0.low.cell (p := ⟨b2, o2 + j * 4 + 1, none⟩) hl2).trans c1
 have hd : Below ((w.alloc (.cells #[.string s, .slice pa pn pc, .int .i64 r, .slice (some ⟨b2, o2, none⟩) vn vc, .slice ba bn bc, .slice fa fn fc] 85)).alloc (.cells #[.int .i64 14, .int .i64 2, .int .i64 imm, .slice (some ⟨b1, o1, none⟩) 2 kc] 45)).heap.size ((w.alloc (.cells #[.string s, .slice pa pn pc, .int .i64 r, .slice (some ⟨b2, o2, none⟩) vn vc, .slice ba bn bc, .slice fa fn fc] 85)).alloc (.cells #[.int .i64 14, .int .i64 2, .int .i64 imm, .slice (some ⟨b1, o1, none⟩) 2 kc] 45)) ((w.alloc (.cells #[.string s, .slice pa pn pc, .int .i64 r, .slice (some ⟨b2, o2, none⟩) vn vc, .slice ba bn bc, .slice fa fn fc] 85)).alloc (.cells #[.int .i64 14, .int .i64 2, .int .i64 imm, .slice (some ⟨b1, o1, none⟩) 2 kc] 45)).drew := (Below.refl _ _).drew
 have HD : Hid (Ctx ((w.alloc (.cells #[.string s, .slice pa pn pc, .int .i64 r, .slice (some ⟨b2, o2, none⟩) vn vc, .slice ba bn bc, .slice fa fn fc] 85)).alloc (.cells #[.int .i64 14, .int .i64 2, .int .i64 imm, .slice (some ⟨b1, o1, none⟩) 2 kc] 45)).drew s pa pn pc r (some ⟨b2, o2, none⟩) vn vc ba bn bc fa fn fc f FS) := C.below (A0.next hd).low (Nat.le_refl _)
 have S0 : (fun w' : World => w'.cell? ⟨w.heap.size, 0, none⟩ = some (.string s) /\ w'.cell? ⟨w.heap.size, 1, none⟩ = some (.slice pa pn pc) /\ w'.cell? ⟨w.heap.size, 2, none⟩ = some (.int .i64 r) /\ w'.cell? ⟨w.heap.size, 3, none⟩ = some (.slice (some ⟨b2, o2, none⟩) vn vc) /\ w'.cell? ⟨w.heap.size, 4, none⟩ = some (.slice ba bn bc) /\ w'.cell? ⟨w.heap.size, 5, none⟩ = some (.slice fa fn fc) /\ w'.cell? ⟨w.heap.size + 1, 1, none⟩ = some (.int .i64 2) /\ w'.cell? ⟨w.heap.size + 1, 3, none⟩ = some (.slice (some ⟨b1, o1, none⟩) 2 kc) /\ w'.cell? ⟨b1, o1, none⟩ = some (.int .i64 x) /\ w'.cell? ⟨b1, o1 + 1, none⟩ = some (.int .i64 (j : Int)) /\ w'.cell? ⟨b2, o2 + j * 4 + 1, none⟩ = some (.int .i64 t)) ((w.alloc (.cells #[.string s, .slice pa pn pc, .int .i64 r, .slice (some ⟨b2, o2, none⟩) vn vc, .slice ba bn bc, .slice fa fn fc] 85)).alloc (.cells #[.int .i64 14, .int .i64 2, .int .i64 imm, .slice (some ⟨b1, o1, none⟩) 2 kc] 45)).drew := ⟨f0, f1, f2, f3, f4, f5, v1, v3, d0, d1, d2⟩
 have HS : Hid (∀ w1, Below ((w.alloc (.cells #[.string s, .slice pa pn pc, .int .i64 r, .slice (some ⟨b2, o2, none⟩) vn vc, .slice ba bn bc, .slice fa fn fc] 85)).alloc (.cells #[.int .i64 14, .int .i64 2, .int .i64 imm, .slice (some ⟨b1, o1, none⟩) 2 kc] 45)).drew.heap.size ((w.alloc (.cells #[.string s, .slice pa pn pc, .int .i64 r, .slice (some ⟨b2, o2, none⟩) vn vc, .slice ba bn bc, .slice fa fn fc] 85)).alloc (.cells #[.int .i64 14, .int .i64 2, .int .i64 imm, .slice (some ⟨b1, o1, none⟩) 2 kc] 45)).drew w1 -> (fun w' : World => w'.cell? ⟨w.heap.size, 0, none⟩ = some (.string s) /\ w'.cell? ⟨w.heap.size, 1, none⟩ = some (.slice pa pn pc) /\ w'.cell? ⟨w.heap.size, 2, none⟩ = some (.int .i64 r) /\ w'.cell? ⟨w.heap.size, 3, none⟩ = some (.slice (some ⟨b2, o2, none⟩) vn vc) /\ w'.cell? ⟨w.heap.size, 4, none⟩ = some (.slice ba bn bc) /\ w'.cell? ⟨w.heap.size, 5, none⟩ = some (.slice fa fn fc) /\ w'.cell? ⟨w.heap.size + 1, 1, none⟩ = some (.int .i64 2) /\ w'.cell? ⟨w.heap.size + 1, 3, none⟩ = some (.slice (some ⟨b1, o1, none⟩) 2 kc) /\ w'.cell? ⟨b1, o1, none⟩ = some (.int .i64 x) /\ w'.cell? ⟨b1, o1 + 1, none⟩ = some (.int .i64 (j : Int)) /\ w'.cell? ⟨b2, o2 + j * 4 + 1, none⟩ = some (.int .i64 t)) w1) := fun w1 hb1 => by
  have A1 := (A0.next hd).next hb1
  obtain ⟨f0, f1, f2, f3, f4, f5⟩ := fcells A1.one
  obtain ⟨v0, v1, v2, v3⟩ := vcells A1.two
  exact ⟨f0, f1, f2, f3, f4, f5, v1, v3, (A1.low.cell (p := ⟨b1, o1, none⟩) hl1).trans k0, (A1.low.cell (p := ⟨b1, o1 + 1, none⟩) hl1).trans k1, (A1.low.cell (p := ⟨b2, o2 + j * 4 + 1, none⟩) hl2).trans c1⟩
 generalize hR : isP f x t = R
 have HA0 : Hid _ := A0
 clear C hA hAt k0 k1 c0 c1 c2 c3 hkl hI hy v0 v2
 go_enter Tryz.func106, Tryz.ntmps106
 go_wp2_with fail
 go_region_held (fun w' => w'.cell? ⟨w.heap.size, 0, none⟩ = some (.string s) /\ w'.cell? ⟨w.heap.size, 1, none⟩ = some (.slice pa pn pc) /\ w'.cell? ⟨w.heap.size, 2, none⟩ = some (.int .i64 r) /\ w'.cell? ⟨w.heap.size, 3, none⟩ = some (.slice (some ⟨b2, o2, none⟩) vn vc) /\ w'.cell? ⟨w.heap.size, 4, none⟩ = some (.slice ba bn bc) /\ w'.cell? ⟨w.heap.size, 5, none⟩ = some (.slice fa fn fc) /\ w'.cell? ⟨w.heap.size + 1, 1, none⟩ = some (.int .i64 2) /\ w'.cell? ⟨w.heap.size + 1, 3, none⟩ = some (.slice (some ⟨b1, o1, none⟩) 2 kc) /\ w'.cell? ⟨b1, o1, none⟩ = some (.int .i64 x) /\ w'.cell? ⟨b1, o1 + 1, none⟩ = some (.int .i64 (j : Int)) /\ w'.cell? ⟨b2, o2 + j * 4 + 1, none⟩ = some (.int .i64 t)) (first | exact S0 | exact S1)
  (first | (go_at_call 140; refine (is_at ((w.alloc (.cells #[.string s, .slice pa pn pc, .int .i64 r, .slice (some ⟨b2, o2, none⟩) vn vc, .slice ba bn bc, .slice fa fn fc] 85)).alloc (.cells #[.int .i64 14, .int .i64 2, .int .i64 imm, .slice (some ⟨b1, o1, none⟩) 2 kc] 45)).drew HD.out _ _ hx _ hR).mono ?_; rintro e w1 ⟨rfl, hb1⟩; have S1 := HS.out w1 hb1))
 all_goals go_wp2_with fail
 all_goals go_ret
 all_goals first | exact ⟨by simp, ((HA0.out.next hd).next hb1).low⟩ | exact ⟨rfl, ((HA0.out.next hd).next hb1).low⟩
def typeP (f : Fu) (FS : List Fu) (v : Vl) : Bool :=
 if v.op = 1 then constP v.ty v.imm else if v.op = 13 \/ v.op = 14 then decide (v.ty = 2) && isP f (v.args.getD 0 0) (gv f (v.args.getD 1 0)).ty else if v.op = 25 then callP f FS v.ty v.imm v.args
 else if v.op = 32 then isTy v.ty && v.args.all (fun x => isP f x v.ty) else if v.op = 33 then isTy v.ty else decide (v.ty = (shp v.op).gives) && evr (fun i x => isP f x (shA (shp v.op) i)) 0 v.args
theorem ite_count {c : Prop} [Decidable c] {a b : Shp} (ha : a.count <= 3) (hb : b.count <= 3) : (if c then a else b).count <= 3 := by
 by_cases h : c
 ·rw [if_pos h]; exact ha
 ·rw [if_neg h]; exact hb
theorem shp_le (op : Int) : (shp op).count <= 3 := by
 unfold shp
 repeat refine ite_count (by decide) ?_
 decide
theorem typeFits_any (w : World) {s : ByteArray} {pa : Option Addr} {pn pc : Nat} {r : Int} {va : Option Addr} {vn vc : Nat} {ba : Option Addr} {bn bc : Nat} {fa : Option Addr} {fn fc : Nat} {f : Fu} {FS : List Fu} (C : Ctx w s pa pn pc r va vn vc ba bn bc fa fn fc f FS) (hfs : ∀ G ∈ FS, formP FS G = true) (i : Nat) (v : Vl) (hv : valueP f FS v = true) (ka : Option Addr) (kc : Nat) (hA : Ints w ka kc v.args) :
 Calls Tryz.prog 106 #[.agg #[.string s, .slice pa pn pc, .int .i64 r, .slice va vn vc, .slice ba bn bc, .slice fa fn fc], .int .i64 i, .agg #[.int .i64 v.op, .int .i64 v.ty, .int .i64 v.imm, .slice ka v.args.length kc]] w fun e w' => e = .returned (.bool (typeP f FS v)) /\ Below w.heap.size w w' := by
 obtain ⟨op, ty, imm, A⟩ := v
 simp only [valueP, Bool.and_eq_true, List.all_eq_true] at hv
 obtain ⟨_, h2, h3, h4, _⟩ := hv
 rw [<- C.ev] at h4
 simp only at hA h2 h3 h4
 unfold typeP
 simp only
 by_cases h1 : op = 1
 ·subst h1
  rw [if_pos rfl]
  exact typeFits_const w C i ty imm ka _ kc A rfl hA h4
 rw [if_neg h1]
 by_cases h13 : op = 13 \/ op = 14
 ·rw [if_pos h13]
  have hl : A.length = 2 := by
   have := h3
   unfold countP at this
   rw [if_neg (by omega), if_neg (by omega)] at this
   have e : shp op = ⟨2, 0, 0, 0, 2⟩ := by unfold shp; rw [if_neg (by omega), if_pos h13]
   rw [e] at this
   simp only [decide_eq_true_eq] at this
   omega
  match A, hl with
  | [x, y], _ =>
    have hx := h4 x (by simp)
    have hy := h4 y (by simp)
    by_cases ht : ty = 2
    ·subst ht
     rcases h13 with rfl | rfl
     ·simpa using typeFits_yes13 w C i imm ka kc x y hA hx hy
     ·simpa using typeFits_yes14 w C i imm ka kc x y hA hx hy
    ·rw [decide_eq_false ht]
     rcases h13 with rfl | rfl
     ·exact typeFits_no13 w i ty imm ka _ kc ht
     ·exact typeFits_no14 w i ty imm ka _ kc ht
 rw [if_neg h13]
 by_cases h25 : op = 25
 ·subst h25
  rw [if_pos rfl]
  refine typeFits_call w C i ty imm ka _ kc A rfl hA h4 ?_ ?_ hfs
  ·have := h2
   unfold immP at this
   rw [if_neg (by omega), if_pos rfl] at this
   rw [C.ef]; exact this
  ·have := h3
   unfold countP at this
   rw [if_neg (by omega), if_pos rfl] at this
   simpa using this
 rw [if_neg h25]
 by_cases h32 : op = 32
 ·subst h32
  rw [if_pos rfl]
  exact typeFits_phi w C i ty imm ka _ kc A rfl hA h4
 rw [if_neg h32]
 by_cases h33 : op = 33
 ·subst h33
  rw [if_pos rfl]
  exact typeFits_param w C i ty imm ka _ kc A rfl hA h4
 rw [if_neg h33]
 refine typeFits_other w C i ty imm ka _ kc A rfl hA h4 op h1 (by omega) (by omega) h25 h32 h33 ?_
 have := h3
 unfold countP at this
 rw [if_neg h32, if_neg h25] at this
 simp only [decide_eq_true_eq] at this
 have := shp_le op
 omega
def typesP (FS : List Fu) (f : Fu) : Bool := f.vals.all (typeP f FS) && f.blks.all (fun b => termTy f b.kind b.val)
theorem formP_vals {f : Fu} {FS : List Fu} (h : formP FS f = true) : ∀ v ∈ f.vals, valueP f FS v = true := by
 simp only [formP, Bool.and_eq_true, decide_eq_true_eq, List.all_eq_true] at h
 exact h.2.2.2.2.2.1
theorem blockP_term {f : Fu} {b : Bk} (h : blockP f b = true) : b.kind = 2 \/ b.kind = 4 \/ ¬ b.val = -1 -> wi f.vals.length b.val = true := by
 simp only [blockP, Bool.and_eq_true] at h
 have := h.2.2.2
 unfold termP at this
 simp only [Bool.and_eq_true, decide_eq_true_eq] at this
 obtain ⟨⟨k1, k2⟩, _, _, h4⟩ := this
 intro hc
 split at h4
 ·exact h4
 ·rename_i hu
  simp at h4
  exfalso
  apply hu
  unfold tuses
  rcases hc with hc | hc | hc
  ·rw [if_neg (by omega), if_neg (by omega)]
  ·rw [if_neg (by omega), if_neg (by omega)]
  ·exact absurd h4 hc
theorem everyTy_at (w : World) {s : ByteArray} {pa : Option Addr} {pn pc : Nat} {r : Int} {va : Option Addr} {vn vc : Nat} {ba : Option Addr} {bn bc : Nat} {fa : Option Addr} {fn fc : Nat} {f : Fu} {FS : List Fu} (C : Ctx w s pa pn pc r va vn vc ba bn bc fa fn fc f FS) (hfs : ∀ G ∈ FS, formP FS G = true) (hform : formP FS f = true) (R : Bool) (hR : f.vals.all (typeP f FS) = R) :
 Calls Tryz.prog 90 #[.slice va vn vc, .func (.func 106) #[.agg #[.string s, .slice pa pn pc, .int .i64 r, .slice va vn vc, .slice ba bn bc, .slice fa fn fc]] #[]] w fun e w' => e = .returned (.bool R) /\ Below w.heap.size w w' := by
 subst hR
 rw [<- evr_plain (typeP f FS) f.vals 0]
 refine everyV_any w va vc vn f.vals C.ev C.hv _ _ _ opens_ty _ (Asks.meth fun W i x hi hb hv => ?_)
 obtain ⟨ka, kc, rfl, hI⟩ := hv.out
 exact typeFits_any W (C.below hb (Nat.le_refl _)) hfs i _ (formP_vals hform _ (List.getElem_mem hi)) ka kc hI
theorem everyY1_at (w : World) {s : ByteArray} {pa : Option Addr} {pn pc : Nat} {r : Int} {va : Option Addr} {vn vc : Nat} {ba : Option Addr} {bn bc : Nat} {fa : Option Addr} {fn fc : Nat} {f : Fu} {FS : List Fu} (C : Ctx w s pa pn pc r va vn vc ba bn bc fa fn fc f FS) (hform : formP FS f = true) (fb : Nat) (hf : w.heap[fb]? = some (.cells #[.string s, .slice pa pn pc, .int .i64 r, .slice va vn vc, .slice ba bn bc, .slice fa fn fc] 85 (0, 0))) (R : Bool) (hR : f.blks.all (fun b => termTy f b.kind b.val) = R) :
 Calls Tryz.prog 92 #[.slice ba bn bc, .func (.func 107) #[] #[.pointer (some ⟨fb, 0, none⟩)]] w fun e w' => e = .returned (.bool R) /\ Below w.heap.size w w' := by
 subst hR
 rw [<- evr_plain (fun b => termTy f b.kind b.val) f.blks 0]
 refine everyB_any w ba bc bn f.blks C.eb C.hb _ _ _ opens_y1 _ (Asks.one fun W i x hi hb hv => ?_)
 obtain ⟨ka, kc, la, lc, ma, mc, na, nc, rfl, h1, h2, h3, h4⟩ := hv.out
 have hp := blockP_term ((formP_blocks hform).2 _ (List.getElem_mem hi))
 rw [<- C.ev] at hp
 exact typesY1_any W (C.below hb (Nat.le_refl _)) fb ((hb.block _ (gl hf)).trans hf) i ka _ kc la _ lc _ _ ma _ mc na _ nc hp
set_option maxRecDepth 100000 in
theorem typesFit_any (w : World) {s : ByteArray} {pa : Option Addr} {pn pc : Nat} {r : Int} {va : Option Addr} {vn vc : Nat} {ba : Option Addr} {bn bc : Nat} {fa : Option Addr} {fn fc : Nat} {f : Fu} {FS : List Fu} (C : Ctx w s pa pn pc r va vn vc ba bn bc fa fn fc f FS) (hfs : ∀ G ∈ FS, formP FS G = true) (hform : formP FS f = true) :
 Calls Tryz.prog 68 #[.agg #[.string s, .slice pa pn pc, .int .i64 r, .slice va vn vc, .slice ba bn bc, .slice fa fn fc]] w fun e w' => e = .returned (.bool (typesP FS f)) /\ Below w.heap.size w w' := by
 have A0 : Af1 w (.cells #[.string s, .slice pa pn pc, .int .i64 r, .slice va vn vc, .slice ba bn bc, .slice fa fn fc] 85) (w.alloc (.cells #[.string s, .slice pa pn pc, .int .i64 r, .slice va vn vc, .slice ba bn bc, .slice fa fn fc] 85)) := Af1.refl _ _
 have HC : Hid (∀ w', Af1 w (.cells #[.string s, .slice pa pn pc, .int .i64 r, .slice va vn vc, .slice ba bn bc, .slice fa fn fc] 85) w' -> Ctx w' s pa pn pc r va vn vc ba bn bc fa fn fc f FS) := fun w' h => C.below h.low (Nat.le_refl _)
 have HF : Hid _ := hfs
 have HX : Hid _ := hform
 unfold typesP
 clear C hfs hform
 cases q1 : f.vals.all (typeP f FS) with
 | false =>
   go_enter Tryz.func68, Tryz.ntmps68
   go_wp2_with (go_at_call 90; refine (everyTy_at _ (HC.out _ A0) HF.out HX.out _ q1).mono ?_; rintro e w1 ⟨rfl, hb1⟩)
   go_ret
   exact ⟨rfl, (A0.next hb1).low⟩
 | true =>
   generalize q2 : f.blks.all (fun b => termTy f b.kind b.val) = R
   go_enter Tryz.func68, Tryz.ntmps68
   go_wp2_with (first
    | (go_at_call 90; refine (everyTy_at _ (HC.out _ A0) HF.out HX.out _ q1).mono ?_; rintro e w1 ⟨rfl, hb1⟩; have A1 := A0.next hb1; obtain ⟨f0, f1, f2, f3, f4, f5⟩ := fcells A1.one)
    | (go_at_call 92; refine (everyY1_at w1 (HC.out _ A1) HX.out w.heap.size A1.one _ q2).mono ?_; rintro e w2 ⟨rfl, hb2⟩))
   go_ret
   exact ⟨by simp, (A1.next hb2).low⟩
end Go.Proofs.YtfbkopjncmkbiaaGreatDoor
