import Derived.Test.YtfofmmkihhnfmaaGreatDoorJad
import Derived.Test.YtfofmmkihhnfmaaGreatDoorJak
import Derived.Test.YtfofmmkihhnfmaaGreatDoorJax
set_option linter.unusedVariables false
set_option linter.unusedSimpArgs false
namespace Go.Proofs.YtfofmmkihhnfmaaGreatDoor
open Go.ChangeShapes Go.WideShapes Go.ChangeAt Go.RowKit Go.Maps
def nil39 : Array Value := #[.nilFunc, .nilFunc, .nilFunc, .nilFunc, .nilFunc, .nilFunc, .nilFunc, .nilFunc, .nilFunc, .nilFunc, .nilFunc, .nilFunc, .nilFunc, .nilFunc, .nilFunc, .nilFunc, .nilFunc, .nilFunc, .nilFunc, .nilFunc, .nilFunc, .nilFunc, .nilFunc, .nilFunc, .nilFunc, .nilFunc, .nilFunc, .nilFunc, .nilFunc, .nilFunc, .nilFunc, .nilFunc, .nilFunc, .nilFunc, .nilFunc, .nilFunc, .nilFunc, .nilFunc, .nilFunc]
def tab0 : Array Value := #[.nilFunc, .func (.func 42) #[] #[], .func (.func 43) #[] #[], .nilFunc, .nilFunc, .nilFunc, .func (.func 44) #[] #[], .func (.func 44) #[] #[], .nilFunc, .nilFunc, .nilFunc, .nilFunc, .func (.func 45) #[] #[], .func (.func 45) #[] #[], .nilFunc, .nilFunc, .nilFunc, .nilFunc, .func (.func 46) #[] #[], .func (.func 46) #[] #[], .func (.func 47) #[] #[], .func (.func 48) #[] #[], .func (.func 49) #[] #[], .func (.func 50) #[] #[], .func (.func 51) #[] #[], .func (.func 52) #[] #[], .func (.func 53) #[] #[], .func (.func 54) #[] #[], .func (.func 55) #[] #[], .func (.func 56) #[] #[], .func (.func 57) #[] #[], .func (.func 58) #[] #[], .func (.func 59) #[] #[], .func (.func 60) #[] #[], .func (.func 61) #[] #[], .func (.func 62) #[] #[], .func (.func 63) #[] #[], .func (.func 64) #[] #[], .func (.func 65) #[] #[]]
theorem eql_nil (W : World) : (binOp .eql 65 .nilFunc .nilFunc).run Tryz.prog W = .ok (.bool true) W := by kernel_rfl
theorem eql_div (W : World) : (binOp .eql 65 (.func (.func 44) #[] #[]) .nilFunc).run Tryz.prog W = .ok (.bool false) W := by kernel_rfl
theorem eql_shf (W : World) : (binOp .eql 65 (.func (.func 45) #[] #[]) .nilFunc).run Tryz.prog W = .ok (.bool false) W := by kernel_rfl
set_option maxRecDepth 100000 in
set_option maxHeartbeats 8000000 in
theorem tableR (w : World) : Calls Tryz.prog 23 #[] w fun e w' => e = .returned (.agg tblR.toArray) /\ Below w.heap.size w w' := by
 obtain ⟨W0, hW0⟩ : ∃ W0, W0 = w.alloc (.cells nil39 67) := ⟨_, rfl⟩
 obtain ⟨W1, hW1⟩ : ∃ W1, W1 = W0.alloc (.cells tab0 67) := ⟨_, rfl⟩
 have b0 : Below w.heap.size w W0 := by rw [hW0]; exact below_newR _ _
 have h0 : W0.heap[w.heap.size]? = some (.cells nil39 67 (0, 0)) := by rw [hW0]; exact heap_alloc_new _ _
 have h1 : W1.heap[W0.heap.size]? = some (.cells tab0 67 (0, 0)) := by rw [hW1]; exact heap_alloc_new _ _
 have hr : W1.heap[w.heap.size]? = some (.cells nil39 67 (0, 0)) := by rw [hW1, heap_alloc_old _ _ (gl h0)]; exact h0
 have b1 : Below w.heap.size w W1 := by rw [hW1]; exact b0.alloc b0.size _
 have z0 : W0.heap.size = w.heap.size + 1 := by rw [hW0]; simp
 have HZ : Hid _ := z0
 have HRB : Hid (W1.heap[w.heap.size]? = some (.cells nil39 67 (0, 0)) /\ Below w.heap.size w W1) := ⟨hr, b1⟩
 have H1 : Hid _ := h1
 have ltb : W0.heap.size < W1.heap.size := (gl h1)
 have en := @eql_nil
 have ed := @eql_div
 have es := @eql_shf
 have hst := fun (w' : World) (a : Addr) => run_store Tryz.prog w' a (.func (.func 66) #[] #[]) .plain rfl
 have HQ0 : Hid _ := hW0
 have HQ1 : Hid _ := hW1
 clear b0 h0 h1 hr b1 z0 hW0 hW1
 go_enter Tryz.func23, Tryz.ntmps23
 go_upto_region 1 with fail
 rw [show (w.alloc (.cells #[.nilFunc, .nilFunc, .nilFunc, .nilFunc, .nilFunc, .nilFunc, .nilFunc, .nilFunc, .nilFunc, .nilFunc, .nilFunc, .nilFunc, .nilFunc, .nilFunc, .nilFunc, .nilFunc, .nilFunc, .nilFunc, .nilFunc, .nilFunc, .nilFunc, .nilFunc, .nilFunc, .nilFunc, .nilFunc, .nilFunc, .nilFunc, .nilFunc, .nilFunc, .nilFunc, .nilFunc, .nilFunc, .nilFunc, .nilFunc, .nilFunc, .nilFunc, .nilFunc, .nilFunc, .nilFunc] 67)) = W0 from HQ0.out.symm]
 go_wp2_with (refine wpList_store_row rfl 67 _ _ rfl W0.heap.size tab0 rfl rfl 67 _ (heap_alloc_new _ _) (by kernel_rfl) rfl (by kernel_rfl) ?_; rw [World.setRow_alloc_new]; rw [<- HQ1.out])
 obtain ⟨tb, htb⟩ : ∃ tb, tb = W0.heap.size := ⟨_, rfl⟩
 rw [<- htb] at H1 ltb HZ
 rw [<- htb]
 obtain ⟨rb, hrb⟩ : ∃ rb, rb = w.heap.size := ⟨_, rfl⟩
 rw [<- hrb] at HRB HZ
 have HRX : Hid _ := hrb
 rw [<- hrb]
 clear HQ0 HQ1 htb hrb
 generalize W1 = U0 at *
 refine wp_loop_rounds 16 ?_
 rw [rounds_succ]
 have c3 : U0.cell? ⟨tb, 3, none⟩ = some (.nilFunc) := cell_arr H1.out rfl
 have f3 : U0.frozen? ⟨tb, 3, none⟩ = false := fz_of H1.out
 go_wp2_with fail
 obtain ⟨U1, hU⟩ : ∃ U, U = U0.setCell ⟨tb, 3, none⟩ (.func (.func 66) #[] #[]) := ⟨_, rfl⟩
 rw [<- hU]
 have H2 : Hid (U1.heap[tb]? = some (.cells #[.nilFunc, .func (.func 42) #[] #[], .func (.func 43) #[] #[], .func (.func 66) #[] #[], .nilFunc, .nilFunc, .func (.func 44) #[] #[], .func (.func 44) #[] #[], .nilFunc, .nilFunc, .nilFunc, .nilFunc, .func (.func 45) #[] #[], .func (.func 45) #[] #[], .nilFunc, .nilFunc, .nilFunc, .nilFunc, .func (.func 46) #[] #[], .func (.func 46) #[] #[], .func (.func 47) #[] #[], .func (.func 48) #[] #[], .func (.func 49) #[] #[], .func (.func 50) #[] #[], .func (.func 51) #[] #[], .func (.func 52) #[] #[], .func (.func 53) #[] #[], .func (.func 54) #[] #[], .func (.func 55) #[] #[], .func (.func 56) #[] #[], .func (.func 57) #[] #[], .func (.func 58) #[] #[], .func (.func 59) #[] #[], .func (.func 60) #[] #[], .func (.func 61) #[] #[], .func (.func 62) #[] #[], .func (.func 63) #[] #[], .func (.func 64) #[] #[], .func (.func 65) #[] #[]] 67 (0, 0))) := by
  show _ = _
  rw [hU, heap_set_at H1.out]
  rfl
 have HR2 : Hid (U1.heap[rb]? = some (.cells nil39 67 (0, 0)) /\ Below rb w U1) := by
  have hne : rb ≠ tb := by have := HZ.out; omega
  rw [hU]
  exact ⟨(heap_set_other hne).trans HRB.out.1, HRB.out.2.setCell (show rb <= tb by have := HZ.out; omega) _⟩
 have ltb2 : tb < U1.heap.size := (gl H2.out)
 clear hU H1 HRB c3 f3 ltb
 have H1 := H2
 have HRB := HR2
 have ltb := ltb2
 clear H2 HR2 ltb2
 rw [rounds_succ]
 have c4 : U1.cell? ⟨tb, 4, none⟩ = some (.nilFunc) := cell_arr H1.out rfl
 have f4 : U1.frozen? ⟨tb, 4, none⟩ = false := fz_of H1.out
 go_wp2_with fail
 obtain ⟨U2, hU⟩ : ∃ U, U = U1.setCell ⟨tb, 4, none⟩ (.func (.func 66) #[] #[]) := ⟨_, rfl⟩
 rw [<- hU]
 have H2 : Hid (U2.heap[tb]? = some (.cells #[.nilFunc, .func (.func 42) #[] #[], .func (.func 43) #[] #[], .func (.func 66) #[] #[], .func (.func 66) #[] #[], .nilFunc, .func (.func 44) #[] #[], .func (.func 44) #[] #[], .nilFunc, .nilFunc, .nilFunc, .nilFunc, .func (.func 45) #[] #[], .func (.func 45) #[] #[], .nilFunc, .nilFunc, .nilFunc, .nilFunc, .func (.func 46) #[] #[], .func (.func 46) #[] #[], .func (.func 47) #[] #[], .func (.func 48) #[] #[], .func (.func 49) #[] #[], .func (.func 50) #[] #[], .func (.func 51) #[] #[], .func (.func 52) #[] #[], .func (.func 53) #[] #[], .func (.func 54) #[] #[], .func (.func 55) #[] #[], .func (.func 56) #[] #[], .func (.func 57) #[] #[], .func (.func 58) #[] #[], .func (.func 59) #[] #[], .func (.func 60) #[] #[], .func (.func 61) #[] #[], .func (.func 62) #[] #[], .func (.func 63) #[] #[], .func (.func 64) #[] #[], .func (.func 65) #[] #[]] 67 (0, 0))) := by
  show _ = _
  rw [hU, heap_set_at H1.out]
  rfl
 have HR2 : Hid (U2.heap[rb]? = some (.cells nil39 67 (0, 0)) /\ Below rb w U2) := by
  have hne : rb ≠ tb := by have := HZ.out; omega
  rw [hU]
  exact ⟨(heap_set_other hne).trans HRB.out.1, HRB.out.2.setCell (show rb <= tb by have := HZ.out; omega) _⟩
 have ltb2 : tb < U2.heap.size := (gl H2.out)
 clear hU H1 HRB c4 f4 ltb
 have H1 := H2
 have HRB := HR2
 have ltb := ltb2
 clear H2 HR2 ltb2
 rw [rounds_succ]
 have c5 : U2.cell? ⟨tb, 5, none⟩ = some (.nilFunc) := cell_arr H1.out rfl
 have f5 : U2.frozen? ⟨tb, 5, none⟩ = false := fz_of H1.out
 go_wp2_with fail
 obtain ⟨U3, hU⟩ : ∃ U, U = U2.setCell ⟨tb, 5, none⟩ (.func (.func 66) #[] #[]) := ⟨_, rfl⟩
 rw [<- hU]
 have H2 : Hid (U3.heap[tb]? = some (.cells #[.nilFunc, .func (.func 42) #[] #[], .func (.func 43) #[] #[], .func (.func 66) #[] #[], .func (.func 66) #[] #[], .func (.func 66) #[] #[], .func (.func 44) #[] #[], .func (.func 44) #[] #[], .nilFunc, .nilFunc, .nilFunc, .nilFunc, .func (.func 45) #[] #[], .func (.func 45) #[] #[], .nilFunc, .nilFunc, .nilFunc, .nilFunc, .func (.func 46) #[] #[], .func (.func 46) #[] #[], .func (.func 47) #[] #[], .func (.func 48) #[] #[], .func (.func 49) #[] #[], .func (.func 50) #[] #[], .func (.func 51) #[] #[], .func (.func 52) #[] #[], .func (.func 53) #[] #[], .func (.func 54) #[] #[], .func (.func 55) #[] #[], .func (.func 56) #[] #[], .func (.func 57) #[] #[], .func (.func 58) #[] #[], .func (.func 59) #[] #[], .func (.func 60) #[] #[], .func (.func 61) #[] #[], .func (.func 62) #[] #[], .func (.func 63) #[] #[], .func (.func 64) #[] #[], .func (.func 65) #[] #[]] 67 (0, 0))) := by
  show _ = _
  rw [hU, heap_set_at H1.out]
  rfl
 have HR2 : Hid (U3.heap[rb]? = some (.cells nil39 67 (0, 0)) /\ Below rb w U3) := by
  have hne : rb ≠ tb := by have := HZ.out; omega
  rw [hU]
  exact ⟨(heap_set_other hne).trans HRB.out.1, HRB.out.2.setCell (show rb <= tb by have := HZ.out; omega) _⟩
 have ltb2 : tb < U3.heap.size := (gl H2.out)
 clear hU H1 HRB c5 f5 ltb
 have H1 := H2
 have HRB := HR2
 have ltb := ltb2
 clear H2 HR2 ltb2
 rw [rounds_succ]
 have c6 : U3.cell? ⟨tb, 6, none⟩ = some (.func (.func 44) #[] #[]) := cell_arr H1.out rfl
 go_wp2_with fail
 clear c6
 rw [rounds_succ]
 have c7 : U3.cell? ⟨tb, 7, none⟩ = some (.func (.func 44) #[] #[]) := cell_arr H1.out rfl
 go_wp2_with fail
 clear c7
 rw [rounds_succ]
 have c8 : U3.cell? ⟨tb, 8, none⟩ = some (.nilFunc) := cell_arr H1.out rfl
 have f8 : U3.frozen? ⟨tb, 8, none⟩ = false := fz_of H1.out
 go_wp2_with fail
 obtain ⟨U4, hU⟩ : ∃ U, U = U3.setCell ⟨tb, 8, none⟩ (.func (.func 66) #[] #[]) := ⟨_, rfl⟩
 rw [<- hU]
 have H2 : Hid (U4.heap[tb]? = some (.cells #[.nilFunc, .func (.func 42) #[] #[], .func (.func 43) #[] #[], .func (.func 66) #[] #[], .func (.func 66) #[] #[], .func (.func 66) #[] #[], .func (.func 44) #[] #[], .func (.func 44) #[] #[], .func (.func 66) #[] #[], .nilFunc, .nilFunc, .nilFunc, .func (.func 45) #[] #[], .func (.func 45) #[] #[], .nilFunc, .nilFunc, .nilFunc, .nilFunc, .func (.func 46) #[] #[], .func (.func 46) #[] #[], .func (.func 47) #[] #[], .func (.func 48) #[] #[], .func (.func 49) #[] #[], .func (.func 50) #[] #[], .func (.func 51) #[] #[], .func (.func 52) #[] #[], .func (.func 53) #[] #[], .func (.func 54) #[] #[], .func (.func 55) #[] #[], .func (.func 56) #[] #[], .func (.func 57) #[] #[], .func (.func 58) #[] #[], .func (.func 59) #[] #[], .func (.func 60) #[] #[], .func (.func 61) #[] #[], .func (.func 62) #[] #[], .func (.func 63) #[] #[], .func (.func 64) #[] #[], .func (.func 65) #[] #[]] 67 (0, 0))) := by
  show _ = _
  rw [hU, heap_set_at H1.out]
  rfl
 have HR2 : Hid (U4.heap[rb]? = some (.cells nil39 67 (0, 0)) /\ Below rb w U4) := by
  have hne : rb ≠ tb := by have := HZ.out; omega
  rw [hU]
  exact ⟨(heap_set_other hne).trans HRB.out.1, HRB.out.2.setCell (show rb <= tb by have := HZ.out; omega) _⟩
 have ltb2 : tb < U4.heap.size := (gl H2.out)
 clear hU H1 HRB c8 f8 ltb
 have H1 := H2
 have HRB := HR2
 have ltb := ltb2
 clear H2 HR2 ltb2
 rw [rounds_succ]
 have c9 : U4.cell? ⟨tb, 9, none⟩ = some (.nilFunc) := cell_arr H1.out rfl
 have f9 : U4.frozen? ⟨tb, 9, none⟩ = false := fz_of H1.out
 go_wp2_with fail
 obtain ⟨U5, hU⟩ : ∃ U, U = U4.setCell ⟨tb, 9, none⟩ (.func (.func 66) #[] #[]) := ⟨_, rfl⟩
 rw [<- hU]
 have H2 : Hid (U5.heap[tb]? = some (.cells #[.nilFunc, .func (.func 42) #[] #[], .func (.func 43) #[] #[], .func (.func 66) #[] #[], .func (.func 66) #[] #[], .func (.func 66) #[] #[], .func (.func 44) #[] #[], .func (.func 44) #[] #[], .func (.func 66) #[] #[], .func (.func 66) #[] #[], .nilFunc, .nilFunc, .func (.func 45) #[] #[], .func (.func 45) #[] #[], .nilFunc, .nilFunc, .nilFunc, .nilFunc, .func (.func 46) #[] #[], .func (.func 46) #[] #[], .func (.func 47) #[] #[], .func (.func 48) #[] #[], .func (.func 49) #[] #[], .func (.func 50) #[] #[], .func (.func 51) #[] #[], .func (.func 52) #[] #[], .func (.func 53) #[] #[], .func (.func 54) #[] #[], .func (.func 55) #[] #[], .func (.func 56) #[] #[], .func (.func 57) #[] #[], .func (.func 58) #[] #[], .func (.func 59) #[] #[], .func (.func 60) #[] #[], .func (.func 61) #[] #[], .func (.func 62) #[] #[], .func (.func 63) #[] #[], .func (.func 64) #[] #[], .func (.func 65) #[] #[]] 67 (0, 0))) := by
  show _ = _
  rw [hU, heap_set_at H1.out]
  rfl
 have HR2 : Hid (U5.heap[rb]? = some (.cells nil39 67 (0, 0)) /\ Below rb w U5) := by
  have hne : rb ≠ tb := by have := HZ.out; omega
  rw [hU]
  exact ⟨(heap_set_other hne).trans HRB.out.1, HRB.out.2.setCell (show rb <= tb by have := HZ.out; omega) _⟩
 have ltb2 : tb < U5.heap.size := (gl H2.out)
 clear hU H1 HRB c9 f9 ltb
 have H1 := H2
 have HRB := HR2
 have ltb := ltb2
 clear H2 HR2 ltb2
 rw [rounds_succ]
 have c10 : U5.cell? ⟨tb, 10, none⟩ = some (.nilFunc) := cell_arr H1.out rfl
 have f10 : U5.frozen? ⟨tb, 10, none⟩ = false := fz_of H1.out
 go_wp2_with fail
 obtain ⟨U6, hU⟩ : ∃ U, U = U5.setCell ⟨tb, 10, none⟩ (.func (.func 66) #[] #[]) := ⟨_, rfl⟩
 rw [<- hU]
 have H2 : Hid (U6.heap[tb]? = some (.cells #[.nilFunc, .func (.func 42) #[] #[], .func (.func 43) #[] #[], .func (.func 66) #[] #[], .func (.func 66) #[] #[], .func (.func 66) #[] #[], .func (.func 44) #[] #[], .func (.func 44) #[] #[], .func (.func 66) #[] #[], .func (.func 66) #[] #[], .func (.func 66) #[] #[], .nilFunc, .func (.func 45) #[] #[], .func (.func 45) #[] #[], .nilFunc, .nilFunc, .nilFunc, .nilFunc, .func (.func 46) #[] #[], .func (.func 46) #[] #[], .func (.func 47) #[] #[], .func (.func 48) #[] #[], .func (.func 49) #[] #[], .func (.func 50) #[] #[], .func (.func 51) #[] #[], .func (.func 52) #[] #[], .func (.func 53) #[] #[], .func (.func 54) #[] #[], .func (.func 55) #[] #[], .func (.func 56) #[] #[], .func (.func 57) #[] #[], .func (.func 58) #[] #[], .func (.func 59) #[] #[], .func (.func 60) #[] #[], .func (.func 61) #[] #[], .func (.func 62) #[] #[], .func (.func 63) #[] #[], .func (.func 64) #[] #[], .func (.func 65) #[] #[]] 67 (0, 0))) := by
  show _ = _
  rw [hU, heap_set_at H1.out]
  rfl
 have HR2 : Hid (U6.heap[rb]? = some (.cells nil39 67 (0, 0)) /\ Below rb w U6) := by
  have hne : rb ≠ tb := by have := HZ.out; omega
  rw [hU]
  exact ⟨(heap_set_other hne).trans HRB.out.1, HRB.out.2.setCell (show rb <= tb by have := HZ.out; omega) _⟩
 have ltb2 : tb < U6.heap.size := (gl H2.out)
 clear hU H1 HRB c10 f10 ltb
 have H1 := H2
 have HRB := HR2
 have ltb := ltb2
 clear H2 HR2 ltb2
 rw [rounds_succ]
 have c11 : U6.cell? ⟨tb, 11, none⟩ = some (.nilFunc) := cell_arr H1.out rfl
 have f11 : U6.frozen? ⟨tb, 11, none⟩ = false := fz_of H1.out
 go_wp2_with fail
 obtain ⟨U7, hU⟩ : ∃ U, U = U6.setCell ⟨tb, 11, none⟩ (.func (.func 66) #[] #[]) := ⟨_, rfl⟩
 rw [<- hU]
 have H2 : Hid (U7.heap[tb]? = some (.cells #[.nilFunc, .func (.func 42) #[] #[], .func (.func 43) #[] #[], .func (.func 66) #[] #[], .func (.func 66) #[] #[], .func (.func 66) #[] #[], .func (.func 44) #[] #[], .func (.func 44) #[] #[], .func (.func 66) #[] #[], .func (.func 66) #[] #[], .func (.func 66) #[] #[], .func (.func 66) #[] #[], .func (.func 45) #[] #[], .func (.func 45) #[] #[], .nilFunc, .nilFunc, .nilFunc, .nilFunc, .func (.func 46) #[] #[], .func (.func 46) #[] #[], .func (.func 47) #[] #[], .func (.func 48) #[] #[], .func (.func 49) #[] #[], .func (.func 50) #[] #[], .func (.func 51) #[] #[], .func (.func 52) #[] #[], .func (.func 53) #[] #[], .func (.func 54) #[] #[], .func (.func 55) #[] #[], .func (.func 56) #[] #[], .func (.func 57) #[] #[], .func (.func 58) #[] #[], .func (.func 59) #[] #[], .func (.func 60) #[] #[], .func (.func 61) #[] #[], .func (.func 62) #[] #[], .func (.func 63) #[] #[], .func (.func 64) #[] #[], .func (.func 65) #[] #[]] 67 (0, 0))) := by
  show _ = _
  rw [hU, heap_set_at H1.out]
  rfl
 have HR2 : Hid (U7.heap[rb]? = some (.cells nil39 67 (0, 0)) /\ Below rb w U7) := by
  have hne : rb ≠ tb := by have := HZ.out; omega
  rw [hU]
  exact ⟨(heap_set_other hne).trans HRB.out.1, HRB.out.2.setCell (show rb <= tb by have := HZ.out; omega) _⟩
 have ltb2 : tb < U7.heap.size := (gl H2.out)
 clear hU H1 HRB c11 f11 ltb
 have H1 := H2
 have HRB := HR2
 have ltb := ltb2
 clear H2 HR2 ltb2
 rw [rounds_succ]
 have c12 : U7.cell? ⟨tb, 12, none⟩ = some (.func (.func 45) #[] #[]) := cell_arr H1.out rfl
 go_wp2_with fail
 clear c12
 rw [rounds_succ]
 have c13 : U7.cell? ⟨tb, 13, none⟩ = some (.func (.func 45) #[] #[]) := cell_arr H1.out rfl
 go_wp2_with fail
 clear c13
 rw [rounds_succ]
 have c14 : U7.cell? ⟨tb, 14, none⟩ = some (.nilFunc) := cell_arr H1.out rfl
 have f14 : U7.frozen? ⟨tb, 14, none⟩ = false := fz_of H1.out
 go_wp2_with fail
 obtain ⟨U8, hU⟩ : ∃ U, U = U7.setCell ⟨tb, 14, none⟩ (.func (.func 66) #[] #[]) := ⟨_, rfl⟩
 rw [<- hU]
 have H2 : Hid (U8.heap[tb]? = some (.cells #[.nilFunc, .func (.func 42) #[] #[], .func (.func 43) #[] #[], .func (.func 66) #[] #[], .func (.func 66) #[] #[], .func (.func 66) #[] #[], .func (.func 44) #[] #[], .func (.func 44) #[] #[], .func (.func 66) #[] #[], .func (.func 66) #[] #[], .func (.func 66) #[] #[], .func (.func 66) #[] #[], .func (.func 45) #[] #[], .func (.func 45) #[] #[], .func (.func 66) #[] #[], .nilFunc, .nilFunc, .nilFunc, .func (.func 46) #[] #[], .func (.func 46) #[] #[], .func (.func 47) #[] #[], .func (.func 48) #[] #[], .func (.func 49) #[] #[], .func (.func 50) #[] #[], .func (.func 51) #[] #[], .func (.func 52) #[] #[], .func (.func 53) #[] #[], .func (.func 54) #[] #[], .func (.func 55) #[] #[], .func (.func 56) #[] #[], .func (.func 57) #[] #[], .func (.func 58) #[] #[], .func (.func 59) #[] #[], .func (.func 60) #[] #[], .func (.func 61) #[] #[], .func (.func 62) #[] #[], .func (.func 63) #[] #[], .func (.func 64) #[] #[], .func (.func 65) #[] #[]] 67 (0, 0))) := by
  show _ = _
  rw [hU, heap_set_at H1.out]
  rfl
 have HR2 : Hid (U8.heap[rb]? = some (.cells nil39 67 (0, 0)) /\ Below rb w U8) := by
  have hne : rb ≠ tb := by have := HZ.out; omega
  rw [hU]
  exact ⟨(heap_set_other hne).trans HRB.out.1, HRB.out.2.setCell (show rb <= tb by have := HZ.out; omega) _⟩
 have ltb2 : tb < U8.heap.size := (gl H2.out)
 clear hU H1 HRB c14 f14 ltb
 have H1 := H2
 have HRB := HR2
 have ltb := ltb2
 clear H2 HR2 ltb2
 rw [rounds_succ]
 have c15 : U8.cell? ⟨tb, 15, none⟩ = some (.nilFunc) := cell_arr H1.out rfl
 have f15 : U8.frozen? ⟨tb, 15, none⟩ = false := fz_of H1.out
 go_wp2_with fail
 obtain ⟨U9, hU⟩ : ∃ U, U = U8.setCell ⟨tb, 15, none⟩ (.func (.func 66) #[] #[]) := ⟨_, rfl⟩
 rw [<- hU]
 have H2 : Hid (U9.heap[tb]? = some (.cells #[.nilFunc, .func (.func 42) #[] #[], .func (.func 43) #[] #[], .func (.func 66) #[] #[], .func (.func 66) #[] #[], .func (.func 66) #[] #[], .func (.func 44) #[] #[], .func (.func 44) #[] #[], .func (.func 66) #[] #[], .func (.func 66) #[] #[], .func (.func 66) #[] #[], .func (.func 66) #[] #[], .func (.func 45) #[] #[], .func (.func 45) #[] #[], .func (.func 66) #[] #[], .func (.func 66) #[] #[], .nilFunc, .nilFunc, .func (.func 46) #[] #[], .func (.func 46) #[] #[], .func (.func 47) #[] #[], .func (.func 48) #[] #[], .func (.func 49) #[] #[], .func (.func 50) #[] #[], .func (.func 51) #[] #[], .func (.func 52) #[] #[], .func (.func 53) #[] #[], .func (.func 54) #[] #[], .func (.func 55) #[] #[], .func (.func 56) #[] #[], .func (.func 57) #[] #[], .func (.func 58) #[] #[], .func (.func 59) #[] #[], .func (.func 60) #[] #[], .func (.func 61) #[] #[], .func (.func 62) #[] #[], .func (.func 63) #[] #[], .func (.func 64) #[] #[], .func (.func 65) #[] #[]] 67 (0, 0))) := by
  show _ = _
  rw [hU, heap_set_at H1.out]
  rfl
 have HR2 : Hid (U9.heap[rb]? = some (.cells nil39 67 (0, 0)) /\ Below rb w U9) := by
  have hne : rb ≠ tb := by have := HZ.out; omega
  rw [hU]
  exact ⟨(heap_set_other hne).trans HRB.out.1, HRB.out.2.setCell (show rb <= tb by have := HZ.out; omega) _⟩
 have ltb2 : tb < U9.heap.size := (gl H2.out)
 clear hU H1 HRB c15 f15 ltb
 have H1 := H2
 have HRB := HR2
 have ltb := ltb2
 clear H2 HR2 ltb2
 rw [rounds_succ]
 have c16 : U9.cell? ⟨tb, 16, none⟩ = some (.nilFunc) := cell_arr H1.out rfl
 have f16 : U9.frozen? ⟨tb, 16, none⟩ = false := fz_of H1.out
 go_wp2_with fail
 obtain ⟨U10, hU⟩ : ∃ U, U = U9.setCell ⟨tb, 16, none⟩ (.func (.func 66) #[] #[]) := ⟨_, rfl⟩
 rw [<- hU]
 have H2 : Hid (U10.heap[tb]? = some (.cells #[.nilFunc, .func (.func 42) #[] #[], .func (.func 43) #[] #[], .func (.func 66) #[] #[], .func (.func 66) #[] #[], .func (.func 66) #[] #[], .func (.func 44) #[] #[], .func (.func 44) #[] #[], .func (.func 66) #[] #[], .func (.func 66) #[] #[], .func (.func 66) #[] #[], .func (.func 66) #[] #[], .func (.func 45) #[] #[], .func (.func 45) #[] #[], .func (.func 66) #[] #[], .func (.func 66) #[] #[], .func (.func 66) #[] #[], .nilFunc, .func (.func 46) #[] #[], .func (.func 46) #[] #[], .func (.func 47) #[] #[], .func (.func 48) #[] #[], .func (.func 49) #[] #[], .func (.func 50) #[] #[], .func (.func 51) #[] #[], .func (.func 52) #[] #[], .func (.func 53) #[] #[], .func (.func 54) #[] #[], .func (.func 55) #[] #[], .func (.func 56) #[] #[], .func (.func 57) #[] #[], .func (.func 58) #[] #[], .func (.func 59) #[] #[], .func (.func 60) #[] #[], .func (.func 61) #[] #[], .func (.func 62) #[] #[], .func (.func 63) #[] #[], .func (.func 64) #[] #[], .func (.func 65) #[] #[]] 67 (0, 0))) := by
  show _ = _
  rw [hU, heap_set_at H1.out]
  rfl
 have HR2 : Hid (U10.heap[rb]? = some (.cells nil39 67 (0, 0)) /\ Below rb w U10) := by
  have hne : rb ≠ tb := by have := HZ.out; omega
  rw [hU]
  exact ⟨(heap_set_other hne).trans HRB.out.1, HRB.out.2.setCell (show rb <= tb by have := HZ.out; omega) _⟩
 have ltb2 : tb < U10.heap.size := (gl H2.out)
 clear hU H1 HRB c16 f16 ltb
 have H1 := H2
 have HRB := HR2
 have ltb := ltb2
 clear H2 HR2 ltb2
 rw [rounds_succ]
 have c17 : U10.cell? ⟨tb, 17, none⟩ = some (.nilFunc) := cell_arr H1.out rfl
 have f17 : U10.frozen? ⟨tb, 17, none⟩ = false := fz_of H1.out
 go_wp2_with fail
 obtain ⟨U11, hU⟩ : ∃ U, U = U10.setCell ⟨tb, 17, none⟩ (.func (.func 66) #[] #[]) := ⟨_, rfl⟩
 rw [<- hU]
 have H2 : Hid (U11.heap[tb]? = some (.cells #[.nilFunc, .func (.func 42) #[] #[], .func (.func 43) #[] #[], .func (.func 66) #[] #[], .func (.func 66) #[] #[], .func (.func 66) #[] #[], .func (.func 44) #[] #[], .func (.func 44) #[] #[], .func (.func 66) #[] #[], .func (.func 66) #[] #[], .func (.func 66) #[] #[], .func (.func 66) #[] #[], .func (.func 45) #[] #[], .func (.func 45) #[] #[], .func (.func 66) #[] #[], .func (.func 66) #[] #[], .func (.func 66) #[] #[], .func (.func 66) #[] #[], .func (.func 46) #[] #[], .func (.func 46) #[] #[], .func (.func 47) #[] #[], .func (.func 48) #[] #[], .func (.func 49) #[] #[], .func (.func 50) #[] #[], .func (.func 51) #[] #[], .func (.func 52) #[] #[], .func (.func 53) #[] #[], .func (.func 54) #[] #[], .func (.func 55) #[] #[], .func (.func 56) #[] #[], .func (.func 57) #[] #[], .func (.func 58) #[] #[], .func (.func 59) #[] #[], .func (.func 60) #[] #[], .func (.func 61) #[] #[], .func (.func 62) #[] #[], .func (.func 63) #[] #[], .func (.func 64) #[] #[], .func (.func 65) #[] #[]] 67 (0, 0))) := by
  show _ = _
  rw [hU, heap_set_at H1.out]
  rfl
 have HR2 : Hid (U11.heap[rb]? = some (.cells nil39 67 (0, 0)) /\ Below rb w U11) := by
  have hne : rb ≠ tb := by have := HZ.out; omega
  rw [hU]
  exact ⟨(heap_set_other hne).trans HRB.out.1, HRB.out.2.setCell (show rb <= tb by have := HZ.out; omega) _⟩
 have ltb2 : tb < U11.heap.size := (gl H2.out)
 clear hU H1 HRB c17 f17 ltb
 have H1 := H2
 have HRB := HR2
 have ltb := ltb2
 clear H2 HR2 ltb2
 rw [rounds_succ]
 have HE : Hid (tblR.toArray = #[.nilFunc, .func (.func 42) #[] #[], .func (.func 43) #[] #[], .func (.func 66) #[] #[], .func (.func 66) #[] #[], .func (.func 66) #[] #[], .func (.func 44) #[] #[], .func (.func 44) #[] #[], .func (.func 66) #[] #[], .func (.func 66) #[] #[], .func (.func 66) #[] #[], .func (.func 66) #[] #[], .func (.func 45) #[] #[], .func (.func 45) #[] #[], .func (.func 66) #[] #[], .func (.func 66) #[] #[], .func (.func 66) #[] #[], .func (.func 66) #[] #[], .func (.func 46) #[] #[], .func (.func 46) #[] #[], .func (.func 47) #[] #[], .func (.func 48) #[] #[], .func (.func 49) #[] #[], .func (.func 50) #[] #[], .func (.func 51) #[] #[], .func (.func 52) #[] #[], .func (.func 53) #[] #[], .func (.func 54) #[] #[], .func (.func 55) #[] #[], .func (.func 56) #[] #[], .func (.func 57) #[] #[], .func (.func 58) #[] #[], .func (.func 59) #[] #[], .func (.func 60) #[] #[], .func (.func 61) #[] #[], .func (.func 62) #[] #[], .func (.func 63) #[] #[], .func (.func 64) #[] #[], .func (.func 65) #[] #[]]) := rfl
 have HRR : Hid _ := HRB.out.1
 have HBB : Hid _ := HRB.out.2
 have lrb : rb < U11.heap.size := (gl HRB.out.1)
 clear en ed es hst HRB
 go_wp2_with (first
  | (refine wpList_load_row rfl 67 _ rfl _ rfl 67 _ _ _ H1.out Tryz.underlying67 rfl (by kernel_rfl) ?_)
  | (refine wpList_store_row rfl 67 _ _ rfl rb tblR.toArray rfl rfl 67 _ HRR.out (by kernel_rfl) rfl (by kernel_rfl) ?_))
 refine bodyPost_ret (v := .agg tblR.toArray) ?_ rfl ⟨rfl, ?_⟩
 ·exact results_cell_row rfl _ _ rb 67 tblR.toArray (0, 0) _ rfl (heap_setRow_atR HRR.out) Tryz.underlying67 rfl (by kernel_rfl)
 ·rw [<- HRX.out]
  exact ⟨HBB.out.os, HBB.out.tape, HBB.out.output, by simpa using HBB.out.size, fun k hk => (heap_setRow_otherR (by omega)).trans (HBB.out.block k hk)⟩
theorem info_ri : (Tryz.prog.info? 71).map (fun i => (i.zero, i.size, i.bytes)) = some (some (.agg #[.int .i64 0, .int .i64 0, .int .i64 0, .int .i64 0, .int .i64 0]), 5, 40) := by kernel_rfl
set_option maxRecDepth 10000 in
set_option maxHeartbeats 1000000 in
theorem cloneIns_any (w : World) {ao : Option Addr} {n c : Nat} {xs : List (List Value)} (hE : StsG w ao c 5 xs) (hn : n = xs.length) (hsz : n <= 10000000) :
 Calls Tryz.prog 24 #[.slice ao n c] w fun e w' => ∃ v, e = .returned v /\ Row w' w.heap.size 71 5 v xs /\ Below w.heap.size w w' := by
 cases ao with
 | none =>
   have e : xs = [] := by
    cases xs with
    | nil => rfl
    | cons x L => obtain ⟨b, o, e, _⟩ := hE.out (by simp); cases e
   subst e
   simp at hn
   subst hn
   have heq : ∀ w : World, (binOp .eql 22 (.slice none 0 c) (.slice none 0 0)).run Tryz.prog w = .ok (.bool true) w := fun _ => by kernel_rfl
   go_enter Tryz.func24, Tryz.ntmps24
   go_wp2_with fail
   go_ret
   exact ⟨_, rfl, Row.nil _ _ _ _, Below.refl _ _⟩
 | some ad =>
   obtain ⟨W, hW⟩ : ∃ W, W = w.alloc (.cells #[] 71) := ⟨_, rfl⟩
   have hR : Row W w.heap.size 71 5 (.slice (some ⟨w.heap.size, 0, none⟩) 0 0) [] := by rw [hW]; exact row_empty w _ 5
   have hb : Below w.heap.size w W := by rw [hW]; exact (Below.refl _ _).alloc (Nat.le_refl _) _
   have HR : Hid _ := hR
   have HB : Hid _ := hb
   have heq : ∀ w : World, (binOp .eql 22 (.slice (some ad) n c) (.slice none 0 0)).run Tryz.prog w = .ok (.bool false) w := fun _ => by kernel_rfl
   have hBs : w.heap.size <= W.heap.size := hb.size
   have HC : Hid (xs ≠ [] -> ∃ a2, some ad = some a2 /\ ∀ j u, xs.flatten[j]? = some u -> W.cell? (a2.add j) = some u) := fun hne => by
    obtain ⟨b, o, e, hlt, hc⟩ := hE.out hne
    refine ⟨ad, rfl, fun j u hu => ?_⟩
    have := hc j u hu
    cases e
    rw [add_noneR]
    exact (hb.cell (p := ⟨b, o + j, none⟩) hlt).trans this
   have HN : Hid (n = xs.length) := hn
   have HL : Hid (∀ y ∈ xs, y.length = 5) := hE.len
   have HO : Hid (∀ u ∈ xs.flatten, u.oneCell' = true) := hE.one
   have hlx : ([] : List (List Value)).length + n <= 1000000000 := by simp; omega
   have hcc : n <= c /\ c <= 9223372036854775807 := by have := hE.le; have := hE.mx; omega
   clear hE hn hR hb
   go_enter Tryz.func24, Tryz.ntmps24
   go_wp2_with (first
    | (at_builtin; rw [<- hW]; refine wpList_step fun K hK => ?_; refine step_append_rowsG rfl _ _ 22 71 5 _ 40 rfl Tryz.underlying22 info_ri rfl (by decide) (by decide) w.heap.size (.slice (some ⟨w.heap.size, 0, none⟩) 0 0) [] rfl HR.out (some ad) n c rfl xs HN.out HL.out HC.out HO.out hlx hBs ?_; intro v7 w7 h7 g7; refine hK _ _ ?_; clear hK
       have H7 : Hid (Row w7 w.heap.size 71 5 v7 xs) := by rw [List.nil_append] at h7; exact h7
       have B7 : Hid (Below w.heap.size w w7) := HB.out.trans g7.bel
       clear h7 g7)
    | go_in)
   go_ret
   exact ⟨_, rfl, H7.out, B7.out⟩
theorem info_rf : (Tryz.prog.info? 59).map (fun i => (i.zero, i.size, i.bytes)) = some (some (.agg #[.string ⟨#[]⟩, .int .i64 0, .int .i64 0, .int .i64 0, .int .i64 0]), 5, 48) := by kernel_rfl
set_option maxRecDepth 10000 in
set_option maxHeartbeats 1000000 in
theorem cloneRf_any (w : World) {ao : Option Addr} {n c : Nat} {xs : List (List Value)} (hE : StsG w ao c 5 xs) (hn : n = xs.length) (hsz : n <= 10000000) :
 Calls Tryz.prog 25 #[.slice ao n c] w fun e w' => ∃ v, e = .returned v /\ Row w' w.heap.size 59 5 v xs /\ Below w.heap.size w w' := by
 cases ao with
 | none =>
   have e : xs = [] := by
    cases xs with
    | nil => rfl
    | cons x L => obtain ⟨b, o, e, _⟩ := hE.out (by simp); cases e
   subst e
   simp at hn
   subst hn
   have heq : ∀ w : World, (binOp .eql 23 (.slice none 0 c) (.slice none 0 0)).run Tryz.prog w = .ok (.bool true) w := fun _ => by kernel_rfl
   go_enter Tryz.func25, Tryz.ntmps25
   go_wp2_with fail
   go_ret
   exact ⟨_, rfl, Row.nil _ _ _ _, Below.refl _ _⟩
 | some ad =>
   obtain ⟨W, hW⟩ : ∃ W, W = w.alloc (.cells #[] 59) := ⟨_, rfl⟩
   have hR : Row W w.heap.size 59 5 (.slice (some ⟨w.heap.size, 0, none⟩) 0 0) [] := by rw [hW]; exact row_empty w _ 5
   have hb : Below w.heap.size w W := by rw [hW]; exact (Below.refl _ _).alloc (Nat.le_refl _) _
   have HR : Hid _ := hR
   have HB : Hid _ := hb
   have heq : ∀ w : World, (binOp .eql 23 (.slice (some ad) n c) (.slice none 0 0)).run Tryz.prog w = .ok (.bool false) w := fun _ => by kernel_rfl
   have hBs : w.heap.size <= W.heap.size := hb.size
   have HC : Hid (xs ≠ [] -> ∃ a2, some ad = some a2 /\ ∀ j u, xs.flatten[j]? = some u -> W.cell? (a2.add j) = some u) := fun hne => by
    obtain ⟨b, o, e, hlt, hc⟩ := hE.out hne
    refine ⟨ad, rfl, fun j u hu => ?_⟩
    have := hc j u hu
    cases e
    rw [add_noneR]
    exact (hb.cell (p := ⟨b, o + j, none⟩) hlt).trans this
   have HN : Hid (n = xs.length) := hn
   have HL : Hid (∀ y ∈ xs, y.length = 5) := hE.len
   have HO : Hid (∀ u ∈ xs.flatten, u.oneCell' = true) := hE.one
   have hlx : ([] : List (List Value)).length + n <= 1000000000 := by simp; omega
   have hcc : n <= c /\ c <= 9223372036854775807 := by have := hE.le; have := hE.mx; omega
   clear hE hn hR hb
   go_enter Tryz.func25, Tryz.ntmps25
   go_wp2_with (first
    | (at_builtin; rw [<- hW]; refine wpList_step fun K hK => ?_; refine step_append_rowsG rfl _ _ 23 59 5 _ 48 rfl Tryz.underlying23 info_rf rfl (by decide) (by decide) w.heap.size (.slice (some ⟨w.heap.size, 0, none⟩) 0 0) [] rfl HR.out (some ad) n c rfl xs HN.out HL.out HC.out HO.out hlx hBs ?_; intro v7 w7 h7 g7; refine hK _ _ ?_; clear hK
       have H7 : Hid (Row w7 w.heap.size 59 5 v7 xs) := by rw [List.nil_append] at h7; exact h7
       have B7 : Hid (Below w.heap.size w w7) := HB.out.trans g7.bel
       clear h7 g7)
    | go_in)
   go_ret
   exact ⟨_, rfl, H7.out, B7.out⟩
set_option maxRecDepth 100000 in
theorem newStackR (w : World) (size : Int) : Calls Tryz.prog 26 #[.int .i64 size] w fun e w' => ∃ sb, e = .returned (.agg #[.map (some sb), .int .i64 size, .int .i64 (-1), .int .i64 0, .int .i64 0]) /\ Below w.heap.size w w' /\ w.heap.size <= sb /\ SW w' sb 0 (fun _ => 0) := by
 have hmm := @run_makeMap Tryz.prog
 go_enter Tryz.func26, Tryz.ntmps26
 go_wp2_with fail
 have h0 : ((w.alloc (.cells #[.map (some (w.heap.size + 1)), .int .i64 size, .int .i64 (-1), .int .i64 0, .int .i64 0] 75)).alloc (.map #[] 0)).heap[w.heap.size]? = some (.cells #[.map (some (w.heap.size + 1)), .int .i64 size, .int .i64 (-1), .int .i64 0, .int .i64 0] 75 (0, 0)) := by
  rw [heap_alloc_old _ _ (by simp)]
  exact heap_alloc_new _ _
 refine bodyPost_ret (v := .agg #[.map (some (w.heap.size + 1)), .int .i64 size, .int .i64 (-1), .int .i64 0, .int .i64 0]) ?_ rfl ⟨w.heap.size + 1, rfl, ((Below.refl _ _).alloc (Nat.le_refl _) _).alloc (by simp) _, by omega, ?_⟩
 ·exact results_cell_row Tryz.results26 _ _ w.heap.size 75 _ (0, 0) _ rfl h0 Tryz.underlying75 rfl (by kernel_rfl)
 ·have own := World.ownsMap_made (w.alloc (.cells #[.map (some (w.heap.size + 1)), .int .i64 size, .int .i64 (-1), .int .i64 0, .int .i64 0] 75)) Tryz.prog 3 (plainElem (H := Unit) Tryz.prog 3)
  have e : (w.alloc (.cells #[.map (some (w.heap.size + 1)), .int .i64 size, .int .i64 (-1), .int .i64 0, .int .i64 0] 75)).heap.size = w.heap.size + 1 := by simp
  rw [e] at own
  exact ⟨_, own, fun a _ => rfl⟩
theorem limFit (w : World) (S r : Int) {T : Bool} (hT : (decide (0 <= S /\ S <= 1099511627776) && decide (0 <= r /\ r <= 1099511627776)) = T) : Calls Tryz.prog 22 #[.agg #[.int .i64 S, .int .i64 r]] w fun e w' => e = .returned (.bool T) /\ Below w.heap.size w w' := by
 subst hT
 have HB : Hid _ := below_newR w (.cells #[.int .i64 S, .int .i64 r] 28)
 by_cases h0 : 0 <= S
 ·by_cases h1 : S <= 1099511627776
  ·by_cases h2 : 0 <= r
   ·by_cases h3 : r <= 1099511627776
    ·go_enter Tryz.func22, Tryz.ntmps22
     go_wp2_with fail
     go_ret
     exact ⟨by simp [h0, h1, h2, h3], HB.out⟩
    ·go_enter Tryz.func22, Tryz.ntmps22
     go_wp2_with fail
     go_ret
     exact ⟨by simp [h0, h1, h2]; omega, HB.out⟩
   ·go_enter Tryz.func22, Tryz.ntmps22
    go_wp2_with fail
    go_ret
    exact ⟨by simp [h0, h1]; omega, HB.out⟩
  ·go_enter Tryz.func22, Tryz.ntmps22
   go_wp2_with fail
   go_ret
   exact ⟨by simp [h0]; omega, HB.out⟩
 ·go_enter Tryz.func22, Tryz.ntmps22
  go_wp2_with fail
  go_ret
  exact ⟨by simp; omega, HB.out⟩
def newErr (C : List Ri) (FS : List Rf) (m : Int) (n : Nat) (S r : Int) : Int :=
 if formR C FS m = false then 210 else if 1048576 < n then 4 else if (decide (0 <= S /\ S <= 1099511627776) && decide (0 <= r /\ r <= 1099511627776)) = false then 5 else 0
set_option maxRecDepth 100000 in
set_option maxHeartbeats 4000000 in
theorem newR_bad (w : World) (hTab : Tab w) (ca : Option Addr) (cn cc : Nat) (fa : Option Addr) (fn fc : Nat) (m : Int) (C : List Ri) (FS : List Rf) (hcn : cn = C.length) (hfn : fn = FS.length) (hC : StsG w ca cc 5 (C.map riv)) (hF : StsG w fa fc 5 (FS.map rfv)) (hlen : cn <= 1000000000) (hfl : fn <= 1000000) (ia : Option Addr) (n ic : Nat) (hn : n <= 1000000000) (S r : Int) (k : Int) (hk : newErr C FS m n S r = k) (hk0 : ¬ k = 0) :
 Calls Tryz.prog 9 #[.agg #[.slice ca cn cc, .slice fa fn fc, .int .i64 m], .slice ia n ic, .agg #[.int .i64 S, .int .i64 r]] w fun e w' => e = .returned (.tuple #[.pointer none, .int .i64 k]) /\ Below w.heap.size w w' := by
 obtain ⟨W, hW⟩ : ∃ W, W = (w.alloc (.cells #[.slice ca cn cc, .slice fa fn fc, .int .i64 m] 25)).alloc (.cells #[.int .i64 S, .int .i64 r] 28) := ⟨_, rfl⟩
 have T2 := TwoR.start w (.cells #[.slice ca cn cc, .slice fa fn fc, .int .i64 m] 25) (.cells #[.int .i64 S, .int .i64 r] 28)
 rw [<- hW] at T2
 have z : (w.alloc (.cells #[.slice ca cn cc, .slice fa fn fc, .int .i64 m] 25)).heap.size = w.heap.size + 1 := by simp
 obtain ⟨xb, hxb⟩ : ∃ xb, xb = w.heap.size := ⟨_, rfl⟩
 have HC : Hid (∀ W, TwoR w (.cells #[.slice ca cn cc, .slice fa fn fc, .int .i64 m] 25) (.cells #[.int .i64 S, .int .i64 r] 28) W -> (xb < W.heap.size /\ xb + 1 < W.heap.size) /\ W.cell? ⟨xb, 0, none⟩ = some (.slice ca cn cc) /\ W.cell? ⟨xb, 1, none⟩ = some (.slice fa fn fc) /\ W.cell? ⟨xb, 2, none⟩ = some (.int .i64 m) /\ W.cell? ⟨xb + 1, 0, none⟩ = some (.int .i64 S) /\ W.cell? ⟨xb + 1, 1, none⟩ = some (.int .i64 r)) := fun W h => by
  rw [hxb]
  have e := h.a.one
  have e2 := h.b.one
  rw [z] at e2
  exact ⟨⟨h.a.lt, (gl e2)⟩, cell_arr e rfl, cell_arr e rfl, cell_arr e rfl, cell_arr e2 rfl, cell_arr e2 rfl⟩
 obtain ⟨⟨l1, l2⟩, c0, c1, c2, d0, d1⟩ := HC.out W T2
 have HCK : Hid _ := checkR W (hTab.oneR T2.a) ca cn cc fa fn fc m C FS hcn hfn (hC.below T2.a.low (Nat.le_refl _)) (hF.below T2.a.low (Nat.le_refl _)) hlen hfl
 have HL : Hid (∀ W2, Calls Tryz.prog 22 #[.agg #[.int .i64 S, .int .i64 r]] W2 fun e w' => e = .returned (.bool (decide (0 <= S /\ S <= 1099511627776) && decide (0 <= r /\ r <= 1099511627776))) /\ Below W2.heap.size W2 w') := fun W2 => limFit W2 S r rfl
 have HT2 : Hid _ := T2
 have HXB : Hid _ := hxb
 have HW : Hid _ := hW
 unfold newErr at hk
 clear hTab hC hF hcn hfn hlen hfl T2 hxb z hW
 cases q1 : formR C FS m with
 | false =>
   rw [q1, if_pos rfl] at hk
   rw [q1, if_neg (by simp)] at HCK
   subst hk
   clear q1 hk0
   go_enter Tryz.func9, Tryz.ntmps9
   go_upto_region 1 with fail
   rw [<- HW.out, <- HXB.out]
   clear HW
   go_wp2_with fail
   refine Calls.mono HCK.out ?_
   rintro e w1 ⟨rfl, b1⟩
   have HB : Hid _ := (HT2.out.next b1).a.low
   go_wp2_with fail
   go_ret2
   exact ⟨rfl, HB.out⟩
 | true =>
   rw [q1, if_neg (by simp)] at hk
   rw [q1, if_pos rfl] at HCK
   clear q1
   by_cases hn2 : 1048576 < n
   ·rw [if_pos hn2] at hk
    subst hk
    have hz : decide ((1048576 : Int) < (n : Int)) = true := decide_eq_true (by omega)
    clear hk0 hn2 hn
    go_enter Tryz.func9, Tryz.ntmps9
    go_upto_region 1 with fail
    rw [<- HW.out, <- HXB.out]
    clear HW
    go_wp2_with fail
    refine Calls.mono HCK.out ?_
    rintro e w1 ⟨rfl, b1⟩
    have HB : Hid _ := (HT2.out.next b1).a.low
    go_wp2_with fail
    go_ret2
    exact ⟨rfl, HB.out⟩
   ·rw [if_neg hn2] at hk
    have hz : decide ((1048576 : Int) < (n : Int)) = false := decide_eq_false (by omega)
    cases q2 : (decide (0 <= S /\ S <= 1099511627776) && decide (0 <= r /\ r <= 1099511627776)) with
    | true => rw [q2, if_neg (by simp)] at hk; exact absurd hk.symm hk0
    | false =>
      rw [q2, if_pos rfl] at hk
      rw [q2] at HL
      subst hk
      clear hk0 hn2 hn q2
      go_enter Tryz.func9, Tryz.ntmps9
      go_upto_region 1 with fail
      rw [<- HW.out, <- HXB.out]
      clear HW
      go_wp2_with fail
      refine Calls.mono HCK.out ?_
      rintro e w1 ⟨rfl, b1⟩
      have HT3 : Hid _ := HT2.out.next b1
      obtain ⟨⟨m1, m2⟩, y0, y1, y2, v0, v1⟩ := HC.out w1 HT3.out
      go_wp2_with fail
      refine Calls.mono (HL.out _) ?_
      rintro e w2 ⟨rfl, b2⟩
      have HB : Hid _ := (HT3.out.next b2).a.low
      go_wp2_with fail
      go_ret2
      exact ⟨rfl, HB.out⟩
end Go.Proofs.YtfofmmkihhnfmaaGreatDoor
