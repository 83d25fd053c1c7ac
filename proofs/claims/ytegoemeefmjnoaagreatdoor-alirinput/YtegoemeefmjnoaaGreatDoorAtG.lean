import Derived.Test.YtegoemeefmjnoaaGreatDoorJbj
set_option linter.unusedVariables false
set_option linter.unusedSimpArgs false
namespace Go.Proofs.YtegoemeefmjnoaaGreatDoor
open Go.ChangeShapes Go.WideShapes Go.ChangeAt Go.RowKit Go.Maps

/-- New of what is none. -/
theorem mNewA_bad (w : World) {fa : Option Addr} {fn fc : Nat} (m : Int) {ia : Option Addr} {il ic : Nat} (hCk : ∀ W, Below w.heap.size w W → Calls Tryz.prog 22 #[.agg #[.slice fa fn fc, .int .i64 m]] W fun e w' => e = .returned (.int .i64 190) ∧ Below W.heap.size W w') :
    Calls Tryz.prog 11 #[.agg #[.slice fa fn fc, .int .i64 m], .slice ia il ic] w fun e w' => e = .returned (.tuple #[.pointer none, .int .i64 190]) ∧ Below w.heap.size w w' := by
  obtain ⟨W0, hW0⟩ : ∃ W0, W0 = w.alloc (.cells #[.slice fa fn fc, .int .i64 m] 44) := ⟨_, rfl⟩
  obtain ⟨ab, hab⟩ : ∃ ab, ab = w.heap.size := ⟨_, rfl⟩
  have b0 : Below w.heap.size w W0 := by rw [hW0]; exact below_newA w _
  have hx0 : W0.heap[ab]? = some (.cells #[.slice fa fn fc, .int .i64 m] 44 (0, 0)) := by rw [hW0, hab]; exact heap_alloc_new w _
  have a0 : W0.cell? ⟨ab, 0, none⟩ = some (.slice fa fn fc) := cell_arr hx0 rfl
  have a1 : W0.cell? ⟨ab, 1, none⟩ = some (.int .i64 m) := cell_arr hx0 rfl
  have la : ab < W0.heap.size := (Array.getElem?_eq_some_iff.1 hx0).1
  have HCK : Hid _ := hCk W0 b0
  have HB : Hid _ := b0
  clear hCk hx0 b0
  go_enter Tryz.func11, Tryz.ntmps11
  go_upto_region 1 with fail
  rw [← hW0, ← hab]
  clear hW0 hab
  go_wp2_with (go_at_call 22; refine Calls.mono HCK.out ?_; rintro e w1 ⟨rfl, b1⟩; have HB1 : Hid _ := b1; clear b1)
  go_ret2
  exact ⟨rfl, HB.out.trans (HB1.out.mono HB.out.size)⟩
/-- New of an input that is too long. -/
theorem mNewA_long (w : World) {fa : Option Addr} {fn fc : Nat} (m : Int) {ia : Option Addr} {il ic : Nat} (hil : 1048576 < il) (hCk : ∀ W, Below w.heap.size w W → Calls Tryz.prog 22 #[.agg #[.slice fa fn fc, .int .i64 m]] W fun e w' => e = .returned (.int .i64 0) ∧ Below W.heap.size W w') :
    Calls Tryz.prog 11 #[.agg #[.slice fa fn fc, .int .i64 m], .slice ia il ic] w fun e w' => e = .returned (.tuple #[.pointer none, .int .i64 4]) ∧ Below w.heap.size w w' := by
  obtain ⟨W0, hW0⟩ : ∃ W0, W0 = w.alloc (.cells #[.slice fa fn fc, .int .i64 m] 44) := ⟨_, rfl⟩
  obtain ⟨ab, hab⟩ : ∃ ab, ab = w.heap.size := ⟨_, rfl⟩
  have b0 : Below w.heap.size w W0 := by rw [hW0]; exact below_newA w _
  have hx0 : W0.heap[ab]? = some (.cells #[.slice fa fn fc, .int .i64 m] 44 (0, 0)) := by rw [hW0, hab]; exact heap_alloc_new w _
  have a0 : W0.cell? ⟨ab, 0, none⟩ = some (.slice fa fn fc) := cell_arr hx0 rfl
  have a1 : W0.cell? ⟨ab, 1, none⟩ = some (.int .i64 m) := cell_arr hx0 rfl
  have la : ab < W0.heap.size := (Array.getElem?_eq_some_iff.1 hx0).1
  have HCK : Hid _ := hCk W0 b0
  have HB : Hid _ := b0
  have hge : decide (1048576 < (il : Int)) = true := by simp; omega
  clear hCk hx0 b0 hil
  go_enter Tryz.func11, Tryz.ntmps11
  go_upto_region 1 with fail
  rw [← hW0, ← hab]
  clear hW0 hab
  go_wp2_with (go_at_call 22; refine Calls.mono HCK.out ?_; rintro e w1 ⟨rfl, b1⟩; have HB1 : Hid _ := b1; clear b1)
  go_ret2
  exact ⟨rfl, HB.out.trans (HB1.out.mono HB.out.size)⟩
theorem OkA.newS {FS : List Af} {n : Nat} (ok : OkA FS n) (w : World) (hTab : Tab w) {fa : Option Addr} {fn fc : Nat} (hF : Afs w fa fc FS) (hfn : fn = FS.length) {ia : Option Addr} {il ic : Nat} {I : List Int} (hI : Ints w ia ic I) (hil : il = I.length) (hin : il ≤ 1048576) :
    Calls Tryz.prog 11 #[.agg #[.slice fa fn fc, .int .i64 (n : Int)], .slice ia il ic] w fun e w' => ∃ mb s d, s.ws.mb = mb ∧ e = .returned (.tuple #[.pointer (some ⟨mb, 0, none⟩), .int .i64 0]) ∧ Mca FS s d w' (Ma.start I n) ∧ Below w.heap.size w w' ∧ (∀ k, footA s d k → w.heap.size ≤ k) ∧ ∀ k, s.ws.st k → w.heap.size ≤ k :=
  (newA_form w hTab hF hfn (by rw [hfn]; exact ok.len) ok.fm ok.ne ok.few (fun f hf => (ok.few f hf).n) (by rw [hfn]; exact ok.lt) hI hil hin).mono fun e w' h => by
    obtain ⟨mb, e1, h1⟩ := h
    obtain ⟨s, d, q1, q2, q3, q4, _⟩ := h1.out
    exact ⟨mb, s, d, q1, e1, q2, h1.low, q3, q4⟩
end Go.Proofs.YtegoemeefmjnoaaGreatDoor
