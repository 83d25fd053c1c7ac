import Derived.Test.YtfofmmkihhnfmaaGreatDoorJaf
import Derived.Test.YtfofmmkihhnfmaaGreatDoorJal
set_option linter.unusedVariables false
set_option linter.unusedSimpArgs false
namespace Go.Proofs.YtfofmmkihhnfmaaGreatDoor
open Go.ChangeShapes Go.WideShapes Go.ChangeAt Go.RowKit Go.Maps
theorem stuckIf_no (w : World) (k : Int) : Calls Tryz.prog 92 #[.bool false, .int .i64 k] w fun e w' => e = .returned (.tuple #[]) /\ w' = w := by
 go_enter Tryz.func92, Tryz.ntmps92
 go_wp2_with fail
 exact bodyPost_end (v := .tuple #[]) (by simp [results, Tryz.results92, go_sem]) rfl ⟨rfl, rfl⟩
theorem stuckIf_yes (w : World) (k : Int) : Calls Tryz.prog 92 #[.bool true, .int .i64 k] w fun e w' => e = .panicked [{ v := .iface 137 (.int .i64 k), recovered := false }] /\ w' = w := by
 go_enter Tryz.func92, Tryz.ntmps92
 go_wp2_with fail
 exact ⟨rfl, rfl, rfl⟩
set_option maxRecDepth 100000 in
set_option maxHeartbeats 4000000 in
theorem rCalc {s d w R} (h : Rm s d w R) (op : Int) (a b c : Nat) (n : Int) (ha : a < 16) (hb : b < 16) (hc : c < 16) (ho : 1 <= op /\ op <= 38) :
 Calls Tryz.prog 66 #[.pointer (some ⟨s.mb, 0, none⟩), .agg #[.int .i64 op, .int .i64 (a : Int), .int .i64 (b : Int), .int .i64 (c : Int), .int .i64 n]] w fun e w' => e = .returned (.tuple #[]) /\ ∃ d', Rm s d' w' (R.set a (doIW (op - 1) (R.rg.getD b 0) (R.rg.getD c 0))) /\ FooR s d d' w w' := by
 have hlt := h.lt
 obtain ⟨W, hW⟩ : ∃ W, W = w.alloc (.cells #[.int .i64 op, .int .i64 (a : Int), .int .i64 (b : Int), .int .i64 (c : Int), .int .i64 n] 71) := ⟨_, rfl⟩
 have hb1 : Below w.heap.size w W := by rw [hW]; exact below_newR w _
 have hx : W.heap[w.heap.size]? = some (.cells #[.int .i64 op, .int .i64 (a : Int), .int .i64 (b : Int), .int .i64 (c : Int), .int .i64 n] 71 (0, 0)) := by rw [hW]; exact heap_alloc_new _ _
 have l1 : w.heap.size < W.heap.size := (gl hx)
 have H := h.below hb1
 have hbi : (b : Int) < 16 := by omega
 have rb : W.cell? ⟨s.mb, 42 + b, none⟩ = some (.int .i64 (R.rg.getD b 0)) := H.reg hb
 have hci : (c : Int) < 16 := by omega
 have rc : W.cell? ⟨s.mb, 42 + c, none⟩ = some (.int .i64 (R.rg.getD c 0)) := H.reg hc
 have y0 : W.cell? ⟨w.heap.size, 0, none⟩ = some (.int .i64 op) := cell_arr hx rfl
 have y1 : W.cell? ⟨w.heap.size, 1, none⟩ = some (.int .i64 (a : Int)) := cell_arr hx rfl
 have y2 : W.cell? ⟨w.heap.size, 2, none⟩ = some (.int .i64 (b : Int)) := cell_arr hx rfl
 have y3 : W.cell? ⟨w.heap.size, 3, none⟩ = some (.int .i64 (c : Int)) := cell_arr hx rfl
 have hlW := H.lt
 have hw : IntKind.i64.wrap (op + -1) = op + -1 := by rw [IntKind.wrap_i64]; omega
 have hai : (a : Int) < 16 := by omega
 have e1 : op - 1 = op + -1 := by omega
 rw [e1]
 have HS : Hid (∀ w2, Below W.drew.heap.size W.drew w2 -> (w2.cell? ⟨w.heap.size, 0, none⟩ = some (.int .i64 op) /\ w2.cell? ⟨w.heap.size, 1, none⟩ = some (.int .i64 (a : Int)) /\ w2.cell? ⟨w.heap.size, 2, none⟩ = some (.int .i64 (b : Int)) /\ w2.cell? ⟨w.heap.size, 3, none⟩ = some (.int .i64 (c : Int)) /\ w2.cell? ⟨s.mb, 42 + b, none⟩ = some (.int .i64 (R.rg.getD b 0)) /\ w2.cell? ⟨s.mb, 42 + c, none⟩ = some (.int .i64 (R.rg.getD c 0)) /\ s.mb < w2.heap.size /\ w.heap.size < w2.heap.size) /\ w2.cell? ⟨s.mb, 42 + a, none⟩ = some (.int .i64 (R.rg.getD a 0)) /\ w2.frozen? ⟨s.mb, 42 + a, none⟩ = false /\ ∃ d', Rm s d' (w2.setCell ⟨s.mb, 42 + a, none⟩ (.int .i64 (doIW (op + -1) (R.rg.getD b 0) (R.rg.getD c 0)))) (R.set a (doIW (op + -1) (R.rg.getD b 0) (R.rg.getD c 0))) /\ FooR s d d' w (w2.setCell ⟨s.mb, 42 + a, none⟩ (.int .i64 (doIW (op + -1) (R.rg.getD b 0) (R.rg.getD c 0))))) := fun w2 hb2 => by
  have b2 : Below W.heap.size W w2 := ((Below.refl _ _).drew).trans hb2
  have q := H.below b2
  have ex := (b2.block _ l1).trans hx
  exact ⟨⟨cell_arr ex rfl, cell_arr ex rfl, cell_arr ex rfl, cell_arr ex rfl, q.reg hb, q.reg hc, q.lt, (gl ex)⟩, q.reg ha, q.fz _, h.lands2 ha _ w2 (hb1.trans (b2.mono hb1.size))⟩
 generalize R.rg.getD a 0 = xa at *
 generalize R.rg.getD b 0 = xb at *
 generalize R.rg.getD c 0 = xc at *
 obtain ⟨kb, hkb⟩ : ∃ kb, kb = w.heap.size := ⟨_, rfl⟩
 rw [<- hkb] at y0 y1 y2 y3 l1 HS
 generalize s.mb = mb at *
 clear h H hb1 hx e1
 go_enter Tryz.func66, Tryz.ntmps66
 go_upto_region 1 with fail
 rw [<- hW, <- hkb]
 clear hW hkb
 have S8 : (fun w' : World => w'.cell? ⟨kb, 0, none⟩ = some (.int .i64 op) /\ w'.cell? ⟨kb, 1, none⟩ = some (.int .i64 (a : Int)) /\ w'.cell? ⟨kb, 2, none⟩ = some (.int .i64 (b : Int)) /\ w'.cell? ⟨kb, 3, none⟩ = some (.int .i64 (c : Int)) /\ w'.cell? ⟨mb, 42 + b, none⟩ = some (.int .i64 xb) /\ w'.cell? ⟨mb, 42 + c, none⟩ = some (.int .i64 xc) /\ mb < w'.heap.size /\ kb < w'.heap.size) W.drew := ⟨y0, y1, y2, y3, rb, rc, hlW, l1⟩
 refine lec_start (S := fun w' : World => w'.cell? ⟨kb, 0, none⟩ = some (.int .i64 op) /\ w'.cell? ⟨kb, 1, none⟩ = some (.int .i64 (a : Int)) /\ w'.cell? ⟨kb, 2, none⟩ = some (.int .i64 (b : Int)) /\ w'.cell? ⟨kb, 3, none⟩ = some (.int .i64 (c : Int)) /\ w'.cell? ⟨mb, 42 + b, none⟩ = some (.int .i64 xb) /\ w'.cell? ⟨mb, 42 + c, none⟩ = some (.int .i64 xc) /\ mb < w'.heap.size /\ kb < w'.heap.size) (z := 30) (by kernel_rfl) ?_
 show lec _ _ _ _ _ 31 _ _ _
 try simp only [List.size_toArray, List.length_cons, List.length_nil, Array.replicate]
 refine lec_takeP (i := 0) (v := ?v0z) rfl (by kernel_rfl) (by kernel_rfl) (by kernel_rfl) (by kernel_rfl) (fun _ _ _ h => h) (.inl ⟨by rfl, ?hy0z⟩) S8 ?rest0z
 case hy0z =>
  rintro w' _
  go_simp
  all_goals with_reducible rfl
 try simp only [Act.put, List.getElem_toArray, List.getElem_cons_succ, List.getElem_cons_zero, List.setIfInBounds_toArray, List.set_cons_zero, List.set_cons_succ]
 refine lec_takeP (i := 1) (v := ?v1z) rfl (by kernel_rfl) (by kernel_rfl) (by kernel_rfl) (by kernel_rfl) (fun _ _ _ h => h) (.inl ⟨by rfl, ?hy1z⟩) S8 ?rest1z
 case hy1z =>
  rintro w' _
  go_simp
  all_goals with_reducible rfl
 try simp only [Act.put, List.getElem_toArray, List.getElem_cons_succ, List.getElem_cons_zero, List.setIfInBounds_toArray, List.set_cons_zero, List.set_cons_succ]
 refine lec_takeT [29, 30] (i := 2) (v := ?v2z) rfl (by kernel_rfl) (by kernel_rfl) (by kernel_rfl) (by kernel_rfl) (fun _ _ _ h => h) (.inl ⟨by rfl, ?hy2z⟩) S8 ?rest2z
 case hy2z =>
  rintro w' ⟨h1, h2, h3, h4, h5, h6, h7, h8⟩
  go_simp
  all_goals with_reducible rfl
 try simp only [Act.put, List.getElem_toArray, List.getElem_cons_succ, List.getElem_cons_zero, List.setIfInBounds_toArray, List.set_cons_zero, List.set_cons_succ]
 refine lec_takeP (i := 3) (v := ?v3z) rfl (by kernel_rfl) (by kernel_rfl) (by kernel_rfl) (by kernel_rfl) (fun _ _ _ h => h) (.inl ⟨by rfl, ?hy3z⟩) S8 ?rest3z
 case hy3z =>
  rintro w' _
  go_simp
  all_goals with_reducible rfl
 try simp only [Act.put, List.getElem_toArray, List.getElem_cons_succ, List.getElem_cons_zero, List.setIfInBounds_toArray, List.set_cons_zero, List.set_cons_succ]
 refine lec_takeT [5, 22, 23, 24, 25, 29, 30] (i := 4) (v := ?v4z) rfl (by kernel_rfl) (by kernel_rfl) (by kernel_rfl) (by kernel_rfl) (fun _ _ _ h => h) (.inl ⟨by rfl, ?hy4z⟩) S8 ?rest4z
 case hy4z =>
  rintro w' ⟨h1, h2, h3, h4, h5, h6, h7, h8⟩
  go_simp
  all_goals with_reducible rfl
 try simp only [Act.put, List.getElem_toArray, List.getElem_cons_succ, List.getElem_cons_zero, List.setIfInBounds_toArray, List.set_cons_zero, List.set_cons_succ]
 refine lec_takeP (i := 5) (v := ?v5z) rfl (by kernel_rfl) (by kernel_rfl) (by kernel_rfl) (by kernel_rfl) (fun _ _ _ h => h) (.inl ⟨by rfl, ?hy5z⟩) S8 ?rest5z
 case hy5z =>
  rintro w' _
  go_simp
  all_goals with_reducible rfl
 try simp only [Act.put, List.getElem_toArray, List.getElem_cons_succ, List.getElem_cons_zero, List.setIfInBounds_toArray, List.set_cons_zero, List.set_cons_succ]
 refine lec_takeP (i := 6) (v := ?v6z) rfl (by kernel_rfl) (by kernel_rfl) (by kernel_rfl) (by kernel_rfl) (fun _ _ _ h => h) (.inl ⟨by rfl, ?hy6z⟩) S8 ?rest6z
 case hy6z =>
  rintro w' _
  go_simp
  all_goals with_reducible rfl
 try simp only [Act.put, List.getElem_toArray, List.getElem_cons_succ, List.getElem_cons_zero, List.setIfInBounds_toArray, List.set_cons_zero, List.set_cons_succ]
 refine lec_takeP (i := 7) (v := ?v7z) rfl (by kernel_rfl) (by kernel_rfl) (by kernel_rfl) (by kernel_rfl) (fun _ _ _ h => h) (.inl ⟨by rfl, ?hy7z⟩) S8 ?rest7z
 case hy7z =>
  rintro w' _
  go_simp
  all_goals with_reducible rfl
 try simp only [Act.put, List.getElem_toArray, List.getElem_cons_succ, List.getElem_cons_zero, List.setIfInBounds_toArray, List.set_cons_zero, List.set_cons_succ]
 refine lec_takeT [12, 13, 22, 23, 24, 25, 29, 30] (i := 8) (v := ?v8z) rfl (by kernel_rfl) (by kernel_rfl) (by kernel_rfl) (by kernel_rfl) (fun _ _ _ h => h) (.inl ⟨by rfl, ?hy8z⟩) S8 ?rest8z
 case hy8z =>
  rintro w' ⟨h1, h2, h3, h4, h5, h6, h7, h8⟩
  go_simp
  all_goals with_reducible rfl
 try simp only [Act.put, List.getElem_toArray, List.getElem_cons_succ, List.getElem_cons_zero, List.setIfInBounds_toArray, List.set_cons_zero, List.set_cons_succ]
 refine lec_takeP (i := 9) (v := ?v9z) rfl (by kernel_rfl) (by kernel_rfl) (by kernel_rfl) (by kernel_rfl) (fun _ _ _ h => h) (.inl ⟨by rfl, ?hy9z⟩) S8 ?rest9z
 case hy9z =>
  rintro w' _
  go_simp
  all_goals with_reducible rfl
 try simp only [Act.put, List.getElem_toArray, List.getElem_cons_succ, List.getElem_cons_zero, List.setIfInBounds_toArray, List.set_cons_zero, List.set_cons_succ]
 refine lec_takeP (i := 10) (v := ?v10z) rfl (by kernel_rfl) (by kernel_rfl) (by kernel_rfl) (by kernel_rfl) (fun _ _ _ h => h) (.inl ⟨by rfl, ?hy10z⟩) S8 ?rest10z
 case hy10z =>
  rintro w' _
  go_simp
  all_goals with_reducible rfl
 try simp only [Act.put, List.getElem_toArray, List.getElem_cons_succ, List.getElem_cons_zero, List.setIfInBounds_toArray, List.set_cons_zero, List.set_cons_succ]
 refine lec_takeP (i := 11) (v := ?v11z) rfl (by kernel_rfl) (by kernel_rfl) (by kernel_rfl) (by kernel_rfl) (fun _ _ _ h => h) (.inl ⟨by rfl, ?hy11z⟩) S8 ?rest11z
 case hy11z =>
  rintro w' _
  go_simp
  all_goals with_reducible rfl
 try simp only [Act.put, List.getElem_toArray, List.getElem_cons_succ, List.getElem_cons_zero, List.setIfInBounds_toArray, List.set_cons_zero, List.set_cons_succ]
 refine lec_takeP (i := 12) (v := ?v12z) rfl (by kernel_rfl) (by kernel_rfl) (by kernel_rfl) (by kernel_rfl) (fun _ _ _ h => h) (.inl ⟨by rfl, ?hy12z⟩) S8 ?rest12z
 case hy12z =>
  rintro w' _
  go_simp
  all_goals with_reducible rfl
 try simp only [Act.put, List.getElem_toArray, List.getElem_cons_succ, List.getElem_cons_zero, List.setIfInBounds_toArray, List.set_cons_zero, List.set_cons_succ]
 refine lec_takeT [22, 23, 24, 25, 29, 30] (i := 13) (v := ?v13z) rfl (by kernel_rfl) (by kernel_rfl) (by kernel_rfl) (by kernel_rfl) (fun _ _ _ h => h) (.inl ⟨by rfl, ?hy13z⟩) S8 ?rest13z
 case hy13z =>
  rintro w' ⟨h1, h2, h3, h4, h5, h6, h7, h8⟩
  go_simp
  all_goals with_reducible rfl
 try simp only [Act.put, List.getElem_toArray, List.getElem_cons_succ, List.getElem_cons_zero, List.setIfInBounds_toArray, List.set_cons_zero, List.set_cons_succ]
 refine lec_takeP (i := 14) (v := ?v14z) rfl (by kernel_rfl) (by kernel_rfl) (by kernel_rfl) (by kernel_rfl) (fun _ _ _ h => h) (.inl ⟨by rfl, ?hy14z⟩) S8 ?rest14z
 case hy14z =>
  rintro w' _
  go_simp
  all_goals with_reducible rfl
 try simp only [Act.put, List.getElem_toArray, List.getElem_cons_succ, List.getElem_cons_zero, List.setIfInBounds_toArray, List.set_cons_zero, List.set_cons_succ]
 refine lec_takeP (i := 15) (v := ?v15z) rfl (by kernel_rfl) (by kernel_rfl) (by kernel_rfl) (by kernel_rfl) (fun _ _ _ h => h) (.inl ⟨by rfl, ?hy15z⟩) S8 ?rest15z
 case hy15z =>
  rintro w' _
  go_simp
  all_goals with_reducible rfl
 try simp only [Act.put, List.getElem_toArray, List.getElem_cons_succ, List.getElem_cons_zero, List.setIfInBounds_toArray, List.set_cons_zero, List.set_cons_succ]
 refine lec_takeT [20, 21, 22, 23, 24, 25, 29, 30] (i := 16) (v := ?v16z) rfl (by kernel_rfl) (by kernel_rfl) (by kernel_rfl) (by kernel_rfl) (fun _ _ _ h => h) (.inl ⟨by rfl, ?hy16z⟩) S8 ?rest16z
 case hy16z =>
  rintro w' ⟨h1, h2, h3, h4, h5, h6, h7, h8⟩
  go_simp
  all_goals with_reducible rfl
 try simp only [Act.put, List.getElem_toArray, List.getElem_cons_succ, List.getElem_cons_zero, List.setIfInBounds_toArray, List.set_cons_zero, List.set_cons_succ]
 refine lec_takeP (i := 17) (v := ?v17z) rfl (by kernel_rfl) (by kernel_rfl) (by kernel_rfl) (by kernel_rfl) (fun _ _ _ h => h) (.inl ⟨by rfl, ?hy17z⟩) S8 ?rest17z
 case hy17z =>
  rintro w' _
  go_simp
  all_goals with_reducible rfl
 try simp only [Act.put, List.getElem_toArray, List.getElem_cons_succ, List.getElem_cons_zero, List.setIfInBounds_toArray, List.set_cons_zero, List.set_cons_succ]
 refine lec_takeP (i := 18) (v := ?v18z) rfl (by kernel_rfl) (by kernel_rfl) (by kernel_rfl) (by kernel_rfl) (fun _ _ _ h => h) (.inl ⟨by rfl, ?hy18z⟩) S8 ?rest18z
 case hy18z =>
  rintro w' _
  go_simp
  all_goals with_reducible rfl
 try simp only [Act.put, List.getElem_toArray, List.getElem_cons_succ, List.getElem_cons_zero, List.setIfInBounds_toArray, List.set_cons_zero, List.set_cons_succ]
 refine lec_takeP (i := 19) (v := ?v19z) rfl (by kernel_rfl) (by kernel_rfl) (by kernel_rfl) (by kernel_rfl) (fun _ _ _ h => h) (.inl ⟨by rfl, ?hy19z⟩) S8 ?rest19z
 case hy19z =>
  rintro w' _
  go_simp
  all_goals with_reducible rfl
 try simp only [Act.put, List.getElem_toArray, List.getElem_cons_succ, List.getElem_cons_zero, List.setIfInBounds_toArray, List.set_cons_zero, List.set_cons_succ]
 refine lec_takeP (i := 20) (v := ?v20z) rfl (by kernel_rfl) (by kernel_rfl) (by kernel_rfl) (by kernel_rfl) (fun _ _ _ h => h) (.inl ⟨by rfl, ?hy20z⟩) S8 ?rest20z
 case hy20z =>
  rintro w' _
  go_simp
  all_goals with_reducible rfl
 try simp only [Act.put, List.getElem_toArray, List.getElem_cons_succ, List.getElem_cons_zero, List.setIfInBounds_toArray, List.set_cons_zero, List.set_cons_succ]
 refine lec_takeT [22, 23, 24, 25, 29, 30] (i := 21) (v := ?v21z) rfl (by kernel_rfl) (by kernel_rfl) (by kernel_rfl) (by kernel_rfl) (fun _ _ _ h => h) (.inl ⟨by rfl, ?hy21z⟩) S8 ?rest21z
 case hy21z =>
  rintro w' ⟨h1, h2, h3, h4, h5, h6, h7, h8⟩
  go_simp
  all_goals with_reducible rfl
 try simp only [Act.put, List.getElem_toArray, List.getElem_cons_succ, List.getElem_cons_zero, List.setIfInBounds_toArray, List.set_cons_zero, List.set_cons_succ]
 refine lec_takeP (i := 26) (v := ?v26z) rfl (by kernel_rfl) (by kernel_rfl) (by kernel_rfl) (by kernel_rfl) (fun _ _ _ h => h) (.inl ⟨by rfl, ?hy26z⟩) S8 ?rest26z
 case hy26z =>
  rintro w' _
  go_simp
  all_goals with_reducible rfl
 try simp only [Act.put, List.getElem_toArray, List.getElem_cons_succ, List.getElem_cons_zero, List.setIfInBounds_toArray, List.set_cons_zero, List.set_cons_succ]
 refine lec_takeP (i := 27) (v := ?v27z) rfl (by kernel_rfl) (by kernel_rfl) (by kernel_rfl) (by kernel_rfl) (fun _ _ _ h => h) (.inl ⟨by rfl, ?hy27z⟩) S8 ?rest27z
 case hy27z =>
  rintro w' _
  go_simp
  all_goals with_reducible rfl
 try simp only [Act.put, List.getElem_toArray, List.getElem_cons_succ, List.getElem_cons_zero, List.setIfInBounds_toArray, List.set_cons_zero, List.set_cons_succ]
 refine lec_takeP (i := 28) (v := ?v28z) rfl (by kernel_rfl) (by kernel_rfl) (by kernel_rfl) (by kernel_rfl) (fun _ _ _ h => h) (.inl ⟨by rfl, ?hy28z⟩) S8 ?rest28z
 case hy28z =>
  rintro w' _
  go_simp
  all_goals with_reducible rfl
 try simp only [Act.put, List.getElem_toArray, List.getElem_cons_succ, List.getElem_cons_zero, List.setIfInBounds_toArray, List.set_cons_zero, List.set_cons_succ]
 refine lec_one (i := 22) rfl (by kernel_rfl) ?_
 intro K22 hK22
 rw [if_pos (by rfl)]
 go_simp
 refine Calls.mono (do_anyW (op + -1) xb xc _) ?_
 rintro e w2 ⟨rfl, hb2⟩
 obtain ⟨s8, ca2, fa2, hfi2⟩ := HS.out w2 hb2
 have S8 : (fun w' : World => w'.cell? ⟨kb, 0, none⟩ = some (.int .i64 op) /\ w'.cell? ⟨kb, 1, none⟩ = some (.int .i64 (a : Int)) /\ w'.cell? ⟨kb, 2, none⟩ = some (.int .i64 (b : Int)) /\ w'.cell? ⟨kb, 3, none⟩ = some (.int .i64 (c : Int)) /\ w'.cell? ⟨mb, 42 + b, none⟩ = some (.int .i64 xb) /\ w'.cell? ⟨mb, 42 + c, none⟩ = some (.int .i64 xc) /\ mb < w'.heap.size /\ kb < w'.heap.size) w2 := s8
 have HFI : Hid _ := hfi2
 clear hb2 s8 hfi2
 go_simp
 refine hK22 _ _ (fun _ => S8) ?_
 clear hK22
 try simp only [Act.put, List.getElem_toArray, List.getElem_cons_succ, List.getElem_cons_zero, List.setIfInBounds_toArray, List.set_cons_zero, List.set_cons_succ]
 refine lec_takeP (i := 23) (v := ?v23z) rfl (by kernel_rfl) (by kernel_rfl) (by kernel_rfl) (by kernel_rfl) (fun _ _ _ h => h) (.inl ⟨by rfl, ?hy23z⟩) S8 ?rest23z
 case hy23z =>
  rintro w' _
  go_simp
  all_goals with_reducible rfl
 try simp only [Act.put, List.getElem_toArray, List.getElem_cons_succ, List.getElem_cons_zero, List.setIfInBounds_toArray, List.set_cons_zero, List.set_cons_succ]
 refine lec_takeP (i := 24) (v := ?v24z) rfl (by kernel_rfl) (by kernel_rfl) (by kernel_rfl) (by kernel_rfl) (fun _ _ _ h => h) (.inl ⟨by rfl, ?hy24z⟩) S8 ?rest24z
 case hy24z =>
  rintro w' _
  go_simp
  all_goals with_reducible rfl
 try simp only [Act.put, List.getElem_toArray, List.getElem_cons_succ, List.getElem_cons_zero, List.setIfInBounds_toArray, List.set_cons_zero, List.set_cons_succ]
 refine lec_takeP (i := 25) (v := ?v25z) rfl (by kernel_rfl) (by kernel_rfl) (by kernel_rfl) (by kernel_rfl) (fun _ _ _ h => h) (.inl ⟨by rfl, ?hy25z⟩) S8 ?rest25z
 case hy25z =>
  rintro w' _
  go_simp
  all_goals with_reducible rfl
 try simp only [Act.put, List.getElem_toArray, List.getElem_cons_succ, List.getElem_cons_zero, List.setIfInBounds_toArray, List.set_cons_zero, List.set_cons_succ]
 refine lec_takeP (i := 29) (v := ?v29z) rfl (by kernel_rfl) (by kernel_rfl) (by kernel_rfl) (by kernel_rfl) (fun _ _ _ h => h) (.inl ⟨by rfl, ?hy29z⟩) S8 ?rest29z
 case hy29z =>
  rintro w' _
  go_simp
  all_goals with_reducible rfl
 try simp only [Act.put, List.getElem_toArray, List.getElem_cons_succ, List.getElem_cons_zero, List.setIfInBounds_toArray, List.set_cons_zero, List.set_cons_succ]
 refine lec_one (i := 30) rfl (by kernel_rfl) ?_
 intro K30 hK30
 rw [if_pos (by rfl)]
 go_simp
 refine hK30 _ _ (fun h => by cases h) ?_
 clear hK30
 try simp only [Act.put, List.getElem_toArray, List.getElem_cons_succ, List.getElem_cons_zero, List.setIfInBounds_toArray, List.set_cons_zero, List.set_cons_succ]
 refine lec_done (by kernel_rfl) ?_
 clear S8
 go_wp2_with fail
 exact bodyPost_end (v := .tuple #[]) (by simp [results, Tryz.results66, go_sem]) rfl ⟨rfl, HFI.out⟩
set_option maxRecDepth 100000 in
set_option maxHeartbeats 4000000 in
theorem rTurn {s d w R} (h : Rm s d w R) (op : Int) (a b c : Nat) (n : Int) (ha : a < 16) (hb : b < 16) (ho : 1 <= op /\ op <= 38) :
 Calls Tryz.prog 46 #[.pointer (some ⟨s.mb, 0, none⟩), .agg #[.int .i64 op, .int .i64 (a : Int), .int .i64 (b : Int), .int .i64 (c : Int), .int .i64 n]] w fun e w' => e = .returned (.tuple #[]) /\ ∃ d', Rm s d' w' (R.set a (doIW (op - 1) (R.rg.getD b 0) 0)) /\ FooR s d d' w w' := by
 have hlt := h.lt
 obtain ⟨W, hW⟩ : ∃ W, W = w.alloc (.cells #[.int .i64 op, .int .i64 (a : Int), .int .i64 (b : Int), .int .i64 (c : Int), .int .i64 n] 71) := ⟨_, rfl⟩
 have hb1 : Below w.heap.size w W := by rw [hW]; exact below_newR w _
 have hx : W.heap[w.heap.size]? = some (.cells #[.int .i64 op, .int .i64 (a : Int), .int .i64 (b : Int), .int .i64 (c : Int), .int .i64 n] 71 (0, 0)) := by rw [hW]; exact heap_alloc_new _ _
 have l1 : w.heap.size < W.heap.size := (gl hx)
 have H := h.below hb1
 have hbi : (b : Int) < 16 := by omega
 have rb : W.cell? ⟨s.mb, 42 + b, none⟩ = some (.int .i64 (R.rg.getD b 0)) := H.reg hb
 have y0 : W.cell? ⟨w.heap.size, 0, none⟩ = some (.int .i64 op) := cell_arr hx rfl
 have y1 : W.cell? ⟨w.heap.size, 1, none⟩ = some (.int .i64 (a : Int)) := cell_arr hx rfl
 have y2 : W.cell? ⟨w.heap.size, 2, none⟩ = some (.int .i64 (b : Int)) := cell_arr hx rfl
 have y3 : W.cell? ⟨w.heap.size, 3, none⟩ = some (.int .i64 (c : Int)) := cell_arr hx rfl
 have hlW := H.lt
 have hw : IntKind.i64.wrap (op + -1) = op + -1 := by rw [IntKind.wrap_i64]; omega
 have hai : (a : Int) < 16 := by omega
 have e1 : op - 1 = op + -1 := by omega
 rw [e1]
 have HS : Hid (∀ w2, Below W.drew.heap.size W.drew w2 -> (w2.cell? ⟨w.heap.size, 0, none⟩ = some (.int .i64 op) /\ w2.cell? ⟨w.heap.size, 1, none⟩ = some (.int .i64 (a : Int)) /\ w2.cell? ⟨w.heap.size, 2, none⟩ = some (.int .i64 (b : Int)) /\ w2.cell? ⟨w.heap.size, 3, none⟩ = some (.int .i64 (c : Int)) /\ w2.cell? ⟨s.mb, 42 + b, none⟩ = some (.int .i64 (R.rg.getD b 0)) /\ s.mb < w2.heap.size /\ w.heap.size < w2.heap.size) /\ w2.cell? ⟨s.mb, 42 + a, none⟩ = some (.int .i64 (R.rg.getD a 0)) /\ w2.frozen? ⟨s.mb, 42 + a, none⟩ = false /\ ∃ d', Rm s d' (w2.setCell ⟨s.mb, 42 + a, none⟩ (.int .i64 (doIW (op + -1) (R.rg.getD b 0) 0))) (R.set a (doIW (op + -1) (R.rg.getD b 0) 0)) /\ FooR s d d' w (w2.setCell ⟨s.mb, 42 + a, none⟩ (.int .i64 (doIW (op + -1) (R.rg.getD b 0) 0)))) := fun w2 hb2 => by
  have b2 : Below W.heap.size W w2 := ((Below.refl _ _).drew).trans hb2
  have q := H.below b2
  have ex := (b2.block _ l1).trans hx
  exact ⟨⟨cell_arr ex rfl, cell_arr ex rfl, cell_arr ex rfl, cell_arr ex rfl, q.reg hb, q.lt, (gl ex)⟩, q.reg ha, q.fz _, h.lands2 ha _ w2 (hb1.trans (b2.mono hb1.size))⟩
 generalize R.rg.getD a 0 = xa at *
 generalize R.rg.getD b 0 = xb at *
 obtain ⟨kb, hkb⟩ : ∃ kb, kb = w.heap.size := ⟨_, rfl⟩
 rw [<- hkb] at y0 y1 y2 y3 l1 HS
 generalize s.mb = mb at *
 clear h H hb1 hx e1
 go_enter Tryz.func46, Tryz.ntmps46
 go_upto_region 1 with fail
 rw [<- hW, <- hkb]
 clear hW hkb
 have S8 : (fun w' : World => w'.cell? ⟨kb, 0, none⟩ = some (.int .i64 op) /\ w'.cell? ⟨kb, 1, none⟩ = some (.int .i64 (a : Int)) /\ w'.cell? ⟨kb, 2, none⟩ = some (.int .i64 (b : Int)) /\ w'.cell? ⟨kb, 3, none⟩ = some (.int .i64 (c : Int)) /\ w'.cell? ⟨mb, 42 + b, none⟩ = some (.int .i64 xb) /\ mb < w'.heap.size /\ kb < w'.heap.size) W.drew := ⟨y0, y1, y2, y3, rb, hlW, l1⟩
 refine lec_start (S := fun w' : World => w'.cell? ⟨kb, 0, none⟩ = some (.int .i64 op) /\ w'.cell? ⟨kb, 1, none⟩ = some (.int .i64 (a : Int)) /\ w'.cell? ⟨kb, 2, none⟩ = some (.int .i64 (b : Int)) /\ w'.cell? ⟨kb, 3, none⟩ = some (.int .i64 (c : Int)) /\ w'.cell? ⟨mb, 42 + b, none⟩ = some (.int .i64 xb) /\ mb < w'.heap.size /\ kb < w'.heap.size) (z := 22) (by kernel_rfl) ?_
 show lec _ _ _ _ _ 23 _ _ _
 try simp only [List.size_toArray, List.length_cons, List.length_nil, Array.replicate]
 refine lec_takeP (i := 0) (v := ?v0z) rfl (by kernel_rfl) (by kernel_rfl) (by kernel_rfl) (by kernel_rfl) (fun _ _ _ h => h) (.inl ⟨by rfl, ?hy0z⟩) S8 ?rest0z
 case hy0z =>
  rintro w' _
  go_simp
  all_goals with_reducible rfl
 try simp only [Act.put, List.getElem_toArray, List.getElem_cons_succ, List.getElem_cons_zero, List.setIfInBounds_toArray, List.set_cons_zero, List.set_cons_succ]
 refine lec_takeP (i := 1) (v := ?v1z) rfl (by kernel_rfl) (by kernel_rfl) (by kernel_rfl) (by kernel_rfl) (fun _ _ _ h => h) (.inl ⟨by rfl, ?hy1z⟩) S8 ?rest1z
 case hy1z =>
  rintro w' _
  go_simp
  all_goals with_reducible rfl
 try simp only [Act.put, List.getElem_toArray, List.getElem_cons_succ, List.getElem_cons_zero, List.setIfInBounds_toArray, List.set_cons_zero, List.set_cons_succ]
 refine lec_takeT [21, 22] (i := 2) (v := ?v2z) rfl (by kernel_rfl) (by kernel_rfl) (by kernel_rfl) (by kernel_rfl) (fun _ _ _ h => h) (.inl ⟨by rfl, ?hy2z⟩) S8 ?rest2z
 case hy2z =>
  rintro w' ⟨h1, h2, h3, h4, h5, h6, h7⟩
  go_simp
  all_goals with_reducible rfl
 try simp only [Act.put, List.getElem_toArray, List.getElem_cons_succ, List.getElem_cons_zero, List.setIfInBounds_toArray, List.set_cons_zero, List.set_cons_succ]
 refine lec_takeP (i := 3) (v := ?v3z) rfl (by kernel_rfl) (by kernel_rfl) (by kernel_rfl) (by kernel_rfl) (fun _ _ _ h => h) (.inl ⟨by rfl, ?hy3z⟩) S8 ?rest3z
 case hy3z =>
  rintro w' _
  go_simp
  all_goals with_reducible rfl
 try simp only [Act.put, List.getElem_toArray, List.getElem_cons_succ, List.getElem_cons_zero, List.setIfInBounds_toArray, List.set_cons_zero, List.set_cons_succ]
 refine lec_takeT [5, 14, 15, 16, 17, 21, 22] (i := 4) (v := ?v4z) rfl (by kernel_rfl) (by kernel_rfl) (by kernel_rfl) (by kernel_rfl) (fun _ _ _ h => h) (.inl ⟨by rfl, ?hy4z⟩) S8 ?rest4z
 case hy4z =>
  rintro w' ⟨h1, h2, h3, h4, h5, h6, h7⟩
  go_simp
  all_goals with_reducible rfl
 try simp only [Act.put, List.getElem_toArray, List.getElem_cons_succ, List.getElem_cons_zero, List.setIfInBounds_toArray, List.set_cons_zero, List.set_cons_succ]
 refine lec_takeP (i := 5) (v := ?v5z) rfl (by kernel_rfl) (by kernel_rfl) (by kernel_rfl) (by kernel_rfl) (fun _ _ _ h => h) (.inl ⟨by rfl, ?hy5z⟩) S8 ?rest5z
 case hy5z =>
  rintro w' _
  go_simp
  all_goals with_reducible rfl
 try simp only [Act.put, List.getElem_toArray, List.getElem_cons_succ, List.getElem_cons_zero, List.setIfInBounds_toArray, List.set_cons_zero, List.set_cons_succ]
 refine lec_takeP (i := 6) (v := ?v6z) rfl (by kernel_rfl) (by kernel_rfl) (by kernel_rfl) (by kernel_rfl) (fun _ _ _ h => h) (.inl ⟨by rfl, ?hy6z⟩) S8 ?rest6z
 case hy6z =>
  rintro w' _
  go_simp
  all_goals with_reducible rfl
 try simp only [Act.put, List.getElem_toArray, List.getElem_cons_succ, List.getElem_cons_zero, List.setIfInBounds_toArray, List.set_cons_zero, List.set_cons_succ]
 refine lec_takeP (i := 7) (v := ?v7z) rfl (by kernel_rfl) (by kernel_rfl) (by kernel_rfl) (by kernel_rfl) (fun _ _ _ h => h) (.inl ⟨by rfl, ?hy7z⟩) S8 ?rest7z
 case hy7z =>
  rintro w' _
  go_simp
  all_goals with_reducible rfl
 try simp only [Act.put, List.getElem_toArray, List.getElem_cons_succ, List.getElem_cons_zero, List.setIfInBounds_toArray, List.set_cons_zero, List.set_cons_succ]
 refine lec_takeT [12, 13, 14, 15, 16, 17, 21, 22] (i := 8) (v := ?v8z) rfl (by kernel_rfl) (by kernel_rfl) (by kernel_rfl) (by kernel_rfl) (fun _ _ _ h => h) (.inl ⟨by rfl, ?hy8z⟩) S8 ?rest8z
 case hy8z =>
  rintro w' ⟨h1, h2, h3, h4, h5, h6, h7⟩
  go_simp
  all_goals with_reducible rfl
 try simp only [Act.put, List.getElem_toArray, List.getElem_cons_succ, List.getElem_cons_zero, List.setIfInBounds_toArray, List.set_cons_zero, List.set_cons_succ]
 refine lec_takeP (i := 9) (v := ?v9z) rfl (by kernel_rfl) (by kernel_rfl) (by kernel_rfl) (by kernel_rfl) (fun _ _ _ h => h) (.inl ⟨by rfl, ?hy9z⟩) S8 ?rest9z
 case hy9z =>
  rintro w' _
  go_simp
  all_goals with_reducible rfl
 try simp only [Act.put, List.getElem_toArray, List.getElem_cons_succ, List.getElem_cons_zero, List.setIfInBounds_toArray, List.set_cons_zero, List.set_cons_succ]
 refine lec_takeP (i := 10) (v := ?v10z) rfl (by kernel_rfl) (by kernel_rfl) (by kernel_rfl) (by kernel_rfl) (fun _ _ _ h => h) (.inl ⟨by rfl, ?hy10z⟩) S8 ?rest10z
 case hy10z =>
  rintro w' _
  go_simp
  all_goals with_reducible rfl
 try simp only [Act.put, List.getElem_toArray, List.getElem_cons_succ, List.getElem_cons_zero, List.setIfInBounds_toArray, List.set_cons_zero, List.set_cons_succ]
 refine lec_takeP (i := 11) (v := ?v11z) rfl (by kernel_rfl) (by kernel_rfl) (by kernel_rfl) (by kernel_rfl) (fun _ _ _ h => h) (.inl ⟨by rfl, ?hy11z⟩) S8 ?rest11z
 case hy11z =>
  rintro w' _
  go_simp
  all_goals with_reducible rfl
 try simp only [Act.put, List.getElem_toArray, List.getElem_cons_succ, List.getElem_cons_zero, List.setIfInBounds_toArray, List.set_cons_zero, List.set_cons_succ]
 refine lec_takeP (i := 12) (v := ?v12z) rfl (by kernel_rfl) (by kernel_rfl) (by kernel_rfl) (by kernel_rfl) (fun _ _ _ h => h) (.inl ⟨by rfl, ?hy12z⟩) S8 ?rest12z
 case hy12z =>
  rintro w' _
  go_simp
  all_goals with_reducible rfl
 try simp only [Act.put, List.getElem_toArray, List.getElem_cons_succ, List.getElem_cons_zero, List.setIfInBounds_toArray, List.set_cons_zero, List.set_cons_succ]
 refine lec_takeT [14, 15, 16, 17, 21, 22] (i := 13) (v := ?v13z) rfl (by kernel_rfl) (by kernel_rfl) (by kernel_rfl) (by kernel_rfl) (fun _ _ _ h => h) (.inl ⟨by rfl, ?hy13z⟩) S8 ?rest13z
 case hy13z =>
  rintro w' ⟨h1, h2, h3, h4, h5, h6, h7⟩
  go_simp
  all_goals with_reducible rfl
 try simp only [Act.put, List.getElem_toArray, List.getElem_cons_succ, List.getElem_cons_zero, List.setIfInBounds_toArray, List.set_cons_zero, List.set_cons_succ]
 refine lec_takeP (i := 18) (v := ?v18z) rfl (by kernel_rfl) (by kernel_rfl) (by kernel_rfl) (by kernel_rfl) (fun _ _ _ h => h) (.inl ⟨by rfl, ?hy18z⟩) S8 ?rest18z
 case hy18z =>
  rintro w' _
  go_simp
  all_goals with_reducible rfl
 try simp only [Act.put, List.getElem_toArray, List.getElem_cons_succ, List.getElem_cons_zero, List.setIfInBounds_toArray, List.set_cons_zero, List.set_cons_succ]
 refine lec_takeP (i := 19) (v := ?v19z) rfl (by kernel_rfl) (by kernel_rfl) (by kernel_rfl) (by kernel_rfl) (fun _ _ _ h => h) (.inl ⟨by rfl, ?hy19z⟩) S8 ?rest19z
 case hy19z =>
  rintro w' _
  go_simp
  all_goals with_reducible rfl
 try simp only [Act.put, List.getElem_toArray, List.getElem_cons_succ, List.getElem_cons_zero, List.setIfInBounds_toArray, List.set_cons_zero, List.set_cons_succ]
 refine lec_takeP (i := 20) (v := ?v20z) rfl (by kernel_rfl) (by kernel_rfl) (by kernel_rfl) (by kernel_rfl) (fun _ _ _ h => h) (.inl ⟨by rfl, ?hy20z⟩) S8 ?rest20z
 case hy20z =>
  rintro w' _
  go_simp
  all_goals with_reducible rfl
 try simp only [Act.put, List.getElem_toArray, List.getElem_cons_succ, List.getElem_cons_zero, List.setIfInBounds_toArray, List.set_cons_zero, List.set_cons_succ]
 refine lec_one (i := 14) rfl (by kernel_rfl) ?_
 intro K14 hK14
 rw [if_pos (by rfl)]
 go_simp
 refine Calls.mono (do_anyW (op + -1) xb 0 _) ?_
 rintro e w2 ⟨rfl, hb2⟩
 obtain ⟨s8, ca2, fa2, hfi2⟩ := HS.out w2 hb2
 have S8 : (fun w' : World => w'.cell? ⟨kb, 0, none⟩ = some (.int .i64 op) /\ w'.cell? ⟨kb, 1, none⟩ = some (.int .i64 (a : Int)) /\ w'.cell? ⟨kb, 2, none⟩ = some (.int .i64 (b : Int)) /\ w'.cell? ⟨kb, 3, none⟩ = some (.int .i64 (c : Int)) /\ w'.cell? ⟨mb, 42 + b, none⟩ = some (.int .i64 xb) /\ mb < w'.heap.size /\ kb < w'.heap.size) w2 := s8
 have HFI : Hid _ := hfi2
 clear hb2 s8 hfi2
 go_simp
 refine hK14 _ _ (fun _ => S8) ?_
 clear hK14
 try simp only [Act.put, List.getElem_toArray, List.getElem_cons_succ, List.getElem_cons_zero, List.setIfInBounds_toArray, List.set_cons_zero, List.set_cons_succ]
 refine lec_takeP (i := 15) (v := ?v15z) rfl (by kernel_rfl) (by kernel_rfl) (by kernel_rfl) (by kernel_rfl) (fun _ _ _ h => h) (.inl ⟨by rfl, ?hy15z⟩) S8 ?rest15z
 case hy15z =>
  rintro w' _
  go_simp
  all_goals with_reducible rfl
 try simp only [Act.put, List.getElem_toArray, List.getElem_cons_succ, List.getElem_cons_zero, List.setIfInBounds_toArray, List.set_cons_zero, List.set_cons_succ]
 refine lec_takeP (i := 16) (v := ?v16z) rfl (by kernel_rfl) (by kernel_rfl) (by kernel_rfl) (by kernel_rfl) (fun _ _ _ h => h) (.inl ⟨by rfl, ?hy16z⟩) S8 ?rest16z
 case hy16z =>
  rintro w' _
  go_simp
  all_goals with_reducible rfl
 try simp only [Act.put, List.getElem_toArray, List.getElem_cons_succ, List.getElem_cons_zero, List.setIfInBounds_toArray, List.set_cons_zero, List.set_cons_succ]
 refine lec_takeP (i := 17) (v := ?v17z) rfl (by kernel_rfl) (by kernel_rfl) (by kernel_rfl) (by kernel_rfl) (fun _ _ _ h => h) (.inl ⟨by rfl, ?hy17z⟩) S8 ?rest17z
 case hy17z =>
  rintro w' _
  go_simp
  all_goals with_reducible rfl
 try simp only [Act.put, List.getElem_toArray, List.getElem_cons_succ, List.getElem_cons_zero, List.setIfInBounds_toArray, List.set_cons_zero, List.set_cons_succ]
 refine lec_takeP (i := 21) (v := ?v21z) rfl (by kernel_rfl) (by kernel_rfl) (by kernel_rfl) (by kernel_rfl) (fun _ _ _ h => h) (.inl ⟨by rfl, ?hy21z⟩) S8 ?rest21z
 case hy21z =>
  rintro w' _
  go_simp
  all_goals with_reducible rfl
 try simp only [Act.put, List.getElem_toArray, List.getElem_cons_succ, List.getElem_cons_zero, List.setIfInBounds_toArray, List.set_cons_zero, List.set_cons_succ]
 refine lec_one (i := 22) rfl (by kernel_rfl) ?_
 intro K22 hK22
 rw [if_pos (by rfl)]
 go_simp
 refine hK22 _ _ (fun h => by cases h) ?_
 clear hK22
 try simp only [Act.put, List.getElem_toArray, List.getElem_cons_succ, List.getElem_cons_zero, List.setIfInBounds_toArray, List.set_cons_zero, List.set_cons_succ]
 refine lec_done (by kernel_rfl) ?_
 clear S8
 go_wp2_with fail
 exact bodyPost_end (v := .tuple #[]) (by simp [results, Tryz.results46, go_sem]) rfl ⟨rfl, HFI.out⟩
set_option maxRecDepth 100000 in
set_option maxHeartbeats 4000000 in
theorem rDiv {s d w R} (h : Rm s d w R) (op : Int) (a b c : Nat) (n : Int) (ha : a < 16) (hb : b < 16) (hc : c < 16) (ho : 1 <= op /\ op <= 38) (hq : ¬ (R.rg.getD c 0 = 0)) :
 Calls Tryz.prog 44 #[.pointer (some ⟨s.mb, 0, none⟩), .agg #[.int .i64 op, .int .i64 (a : Int), .int .i64 (b : Int), .int .i64 (c : Int), .int .i64 n]] w fun e w' => e = .returned (.tuple #[]) /\ ∃ d', Rm s d' w' (R.set a (doIW (op - 1) (R.rg.getD b 0) (R.rg.getD c 0))) /\ FooR s d d' w w' := by
 have hlt := h.lt
 obtain ⟨W, hW⟩ : ∃ W, W = w.alloc (.cells #[.int .i64 op, .int .i64 (a : Int), .int .i64 (b : Int), .int .i64 (c : Int), .int .i64 n] 71) := ⟨_, rfl⟩
 have hb1 : Below w.heap.size w W := by rw [hW]; exact below_newR w _
 have hx : W.heap[w.heap.size]? = some (.cells #[.int .i64 op, .int .i64 (a : Int), .int .i64 (b : Int), .int .i64 (c : Int), .int .i64 n] 71 (0, 0)) := by rw [hW]; exact heap_alloc_new _ _
 have l1 : w.heap.size < W.heap.size := (gl hx)
 have H := h.below hb1
 have hci : (c : Int) < 16 := by omega
 have rc : W.cell? ⟨s.mb, 42 + c, none⟩ = some (.int .i64 (R.rg.getD c 0)) := H.reg hc
 have y0 : W.cell? ⟨w.heap.size, 0, none⟩ = some (.int .i64 op) := cell_arr hx rfl
 have y1 : W.cell? ⟨w.heap.size, 1, none⟩ = some (.int .i64 (a : Int)) := cell_arr hx rfl
 have y2 : W.cell? ⟨w.heap.size, 2, none⟩ = some (.int .i64 (b : Int)) := cell_arr hx rfl
 have y3 : W.cell? ⟨w.heap.size, 3, none⟩ = some (.int .i64 (c : Int)) := cell_arr hx rfl
 have hlW := H.lt
 have HC : Hid _ := rCalc (H.below (Below.refl _ _).drew) op a b c n ha hb hc ho
 have HFO : Hid (∀ w2, (∃ d', Rm s d' w2 (R.set a (doIW (op - 1) (R.rg.getD b 0) (R.rg.getD c 0))) /\ FooR s d d' W.drew w2) -> ∃ d', Rm s d' w2 (R.set a (doIW (op - 1) (R.rg.getD b 0) (R.rg.getD c 0))) /\ FooR s d d' w w2) := fun w2 ⟨d', q1, q2⟩ => ⟨d', q1, (FooR.of_below hb1.drew).trans q2⟩
 have y4 : W.cell? ⟨w.heap.size, 4, none⟩ = some (.int .i64 n) := cell_arr hx rfl
 have hz : (R.rg.getD c 0 == 0) = false := beq_eq_false_iff_ne.2 hq
 generalize R.set (a : Int) (doIW (op - 1) (R.rg.getD b 0) (R.rg.getD c 0)) = R2 at HC HFO ⊢
 generalize hxx : R.rg.getD c 0 = xc at rc hz
 obtain ⟨kb, hkb⟩ : ∃ kb, kb = w.heap.size := ⟨_, rfl⟩
 rw [<- hkb] at y0 y1 y2 y3 l1 y4
 generalize s.mb = mb at *
 clear h H hb1 hx hq hxx
 go_enter Tryz.func44, Tryz.ntmps44
 go_upto_region 1 with fail
 rw [<- hW, <- hkb]
 clear hW hkb
 have S8 : (fun w' : World => w'.cell? ⟨kb, 0, none⟩ = some (.int .i64 op) /\ w'.cell? ⟨kb, 1, none⟩ = some (.int .i64 (a : Int)) /\ w'.cell? ⟨kb, 2, none⟩ = some (.int .i64 (b : Int)) /\ w'.cell? ⟨kb, 3, none⟩ = some (.int .i64 (c : Int)) /\ w'.cell? ⟨mb, 42 + c, none⟩ = some (.int .i64 xc) /\ mb < w'.heap.size /\ kb < w'.heap.size) W.drew := ⟨y0, y1, y2, y3, rc, hlW, l1⟩
 refine lec_start (S := fun w' : World => w'.cell? ⟨kb, 0, none⟩ = some (.int .i64 op) /\ w'.cell? ⟨kb, 1, none⟩ = some (.int .i64 (a : Int)) /\ w'.cell? ⟨kb, 2, none⟩ = some (.int .i64 (b : Int)) /\ w'.cell? ⟨kb, 3, none⟩ = some (.int .i64 (c : Int)) /\ w'.cell? ⟨mb, 42 + c, none⟩ = some (.int .i64 xc) /\ mb < w'.heap.size /\ kb < w'.heap.size) (z := 9) (by kernel_rfl) ?_
 show lec _ _ _ _ _ 10 _ _ _
 try simp only [List.size_toArray, List.length_cons, List.length_nil, Array.replicate]
 refine lec_takeP (i := 0) (v := ?v0z) rfl (by kernel_rfl) (by kernel_rfl) (by kernel_rfl) (by kernel_rfl) (fun _ _ _ h => h) (.inl ⟨by rfl, ?hy0z⟩) S8 ?rest0z
 case hy0z =>
  rintro w' _
  go_simp
  all_goals with_reducible rfl
 try simp only [Act.put, List.getElem_toArray, List.getElem_cons_succ, List.getElem_cons_zero, List.setIfInBounds_toArray, List.set_cons_zero, List.set_cons_succ]
 refine lec_takeP (i := 1) (v := ?v1z) rfl (by kernel_rfl) (by kernel_rfl) (by kernel_rfl) (by kernel_rfl) (fun _ _ _ h => h) (.inl ⟨by rfl, ?hy1z⟩) S8 ?rest1z
 case hy1z =>
  rintro w' _
  go_simp
  all_goals with_reducible rfl
 try simp only [Act.put, List.getElem_toArray, List.getElem_cons_succ, List.getElem_cons_zero, List.setIfInBounds_toArray, List.set_cons_zero, List.set_cons_succ]
 refine lec_takeT [6, 7, 8, 9] (i := 2) (v := ?v2z) rfl (by kernel_rfl) (by kernel_rfl) (by kernel_rfl) (by kernel_rfl) (fun _ _ _ h => h) (.inl ⟨by rfl, ?hy2z⟩) S8 ?rest2z
 case hy2z =>
  rintro w' ⟨h1, h2, h3, h4, h5, h6, h7⟩
  go_simp
  all_goals with_reducible rfl
 try simp only [Act.put, List.getElem_toArray, List.getElem_cons_succ, List.getElem_cons_zero, List.setIfInBounds_toArray, List.set_cons_zero, List.set_cons_succ]
 refine lec_takeP (i := 3) (v := ?v3z) rfl (by kernel_rfl) (by kernel_rfl) (by kernel_rfl) (by kernel_rfl) (fun _ _ _ h => h) (.inl ⟨by rfl, ?hy3z⟩) S8 ?rest3z
 case hy3z =>
  rintro w' _
  go_simp
  all_goals with_reducible rfl
 try simp only [Act.put, List.getElem_toArray, List.getElem_cons_succ, List.getElem_cons_zero, List.setIfInBounds_toArray, List.set_cons_zero, List.set_cons_succ]
 refine lec_takeP (i := 4) (v := ?v4z) rfl (by kernel_rfl) (by kernel_rfl) (by kernel_rfl) (by kernel_rfl) (fun _ _ _ h => h) (.inl ⟨by rfl, ?hy4z⟩) S8 ?rest4z
 case hy4z =>
  rintro w' _
  go_simp
  all_goals with_reducible rfl
 try simp only [Act.put, List.getElem_toArray, List.getElem_cons_succ, List.getElem_cons_zero, List.setIfInBounds_toArray, List.set_cons_zero, List.set_cons_succ]
 refine lec_takeP (i := 5) (v := ?v5z) rfl (by kernel_rfl) (by kernel_rfl) (by kernel_rfl) (by kernel_rfl) (fun _ _ _ h => h) (.inl ⟨by rfl, ?hy5z⟩) S8 ?rest5z
 case hy5z =>
  rintro w' _
  go_simp
  all_goals with_reducible rfl
 try simp only [Act.put, List.getElem_toArray, List.getElem_cons_succ, List.getElem_cons_zero, List.setIfInBounds_toArray, List.set_cons_zero, List.set_cons_succ]
 refine lec_takeP (i := 6) (v := ?v6z) rfl (by kernel_rfl) (by kernel_rfl) (by kernel_rfl) (by kernel_rfl) (fun _ _ _ h => h) (.inl ⟨by rfl, ?hy6z⟩) S8 ?rest6z
 case hy6z =>
  rintro w' _
  go_simp
  all_goals with_reducible rfl
 try simp only [Act.put, List.getElem_toArray, List.getElem_cons_succ, List.getElem_cons_zero, List.setIfInBounds_toArray, List.set_cons_zero, List.set_cons_succ]
 refine lec_takeT [8, 9] (i := 7) (v := ?v7z) rfl (by kernel_rfl) (by kernel_rfl) (by kernel_rfl) (by kernel_rfl) (fun _ _ _ h => h) (.inl ⟨by rfl, ?hy7z⟩) S8 ?rest7z
 case hy7z =>
  rintro w' ⟨h1, h2, h3, h4, h5, h6, h7⟩
  go_simp
  all_goals with_reducible rfl
 try simp only [Act.put, List.getElem_toArray, List.getElem_cons_succ, List.getElem_cons_zero, List.setIfInBounds_toArray, List.set_cons_zero, List.set_cons_succ]
 refine lec_takeP (i := 8) (v := ?v8z) rfl (by kernel_rfl) (by kernel_rfl) (by kernel_rfl) (by kernel_rfl) (fun _ _ _ h => h) (.inl ⟨by rfl, ?hy8z⟩) S8 ?rest8z
 case hy8z =>
  rintro w' _
  go_simp
  all_goals with_reducible rfl
 try simp only [Act.put, List.getElem_toArray, List.getElem_cons_succ, List.getElem_cons_zero, List.setIfInBounds_toArray, List.set_cons_zero, List.set_cons_succ]
 refine lec_one (i := 9) rfl (by kernel_rfl) ?_
 intro K9 hK9
 rw [if_pos (by rfl)]
 go_simp
 refine Calls.mono (stuckIf_no _ _) ?_
 rintro e w2 ⟨rfl, rfl⟩
 go_simp
 refine hK9 _ _ (fun h => by cases h) ?_
 clear hK9
 try simp only [Act.put, List.getElem_toArray, List.getElem_cons_succ, List.getElem_cons_zero, List.setIfInBounds_toArray, List.set_cons_zero, List.set_cons_succ]
 refine lec_done (by kernel_rfl) ?_
 clear S8
 go_wp2_with (go_at_call 66; refine Calls.mono HC.out ?_; rintro e w2 ⟨rfl, h2⟩; have H2 : Hid _ := h2; clear h2)
 exact bodyPost_end (v := .tuple #[]) (by simp [results, Tryz.results44, go_sem]) rfl ⟨rfl, HFO.out _ H2.out⟩
set_option maxRecDepth 100000 in
set_option maxHeartbeats 4000000 in
theorem rDiv_st {s d w R} (h : Rm s d w R) (op : Int) (a b c : Nat) (n : Int) (hc : c < 16) (ho : 1 <= op /\ op <= 38) (hq : R.rg.getD c 0 = 0) :
 Calls Tryz.prog 44 #[.pointer (some ⟨s.mb, 0, none⟩), .agg #[.int .i64 op, .int .i64 (a : Int), .int .i64 (b : Int), .int .i64 (c : Int), .int .i64 n]] w fun e w' => e = .panicked [{ v := .iface 137 (.int .i64 3), recovered := false }] /\ Below w.heap.size w w' := by
 have hlt := h.lt
 obtain ⟨W, hW⟩ : ∃ W, W = w.alloc (.cells #[.int .i64 op, .int .i64 (a : Int), .int .i64 (b : Int), .int .i64 (c : Int), .int .i64 n] 71) := ⟨_, rfl⟩
 have hb1 : Below w.heap.size w W := by rw [hW]; exact below_newR w _
 have hx : W.heap[w.heap.size]? = some (.cells #[.int .i64 op, .int .i64 (a : Int), .int .i64 (b : Int), .int .i64 (c : Int), .int .i64 n] 71 (0, 0)) := by rw [hW]; exact heap_alloc_new _ _
 have l1 : w.heap.size < W.heap.size := (gl hx)
 have H := h.below hb1
 have hci : (c : Int) < 16 := by omega
 have rc : W.cell? ⟨s.mb, 42 + c, none⟩ = some (.int .i64 (R.rg.getD c 0)) := H.reg hc
 have y0 : W.cell? ⟨w.heap.size, 0, none⟩ = some (.int .i64 op) := cell_arr hx rfl
 have y1 : W.cell? ⟨w.heap.size, 1, none⟩ = some (.int .i64 (a : Int)) := cell_arr hx rfl
 have y2 : W.cell? ⟨w.heap.size, 2, none⟩ = some (.int .i64 (b : Int)) := cell_arr hx rfl
 have y3 : W.cell? ⟨w.heap.size, 3, none⟩ = some (.int .i64 (c : Int)) := cell_arr hx rfl
 have hlW := H.lt
 have HST : Hid (Below w.heap.size w W.drew) := hb1.drew
 have hz : (R.rg.getD c 0 == 0) = true := beq_iff_eq.2 hq
 generalize hxx : R.rg.getD c 0 = xc at rc hz
 obtain ⟨kb, hkb⟩ : ∃ kb, kb = w.heap.size := ⟨_, rfl⟩
 rw [<- hkb] at y0 y1 y2 y3 l1
 generalize s.mb = mb at *
 clear h H hb1 hx hq hxx
 go_enter Tryz.func44, Tryz.ntmps44
 go_upto_region 1 with fail
 rw [<- hW, <- hkb]
 clear hW hkb
 have S8 : (fun w' : World => w'.cell? ⟨kb, 0, none⟩ = some (.int .i64 op) /\ w'.cell? ⟨kb, 1, none⟩ = some (.int .i64 (a : Int)) /\ w'.cell? ⟨kb, 2, none⟩ = some (.int .i64 (b : Int)) /\ w'.cell? ⟨kb, 3, none⟩ = some (.int .i64 (c : Int)) /\ w'.cell? ⟨mb, 42 + c, none⟩ = some (.int .i64 xc) /\ mb < w'.heap.size /\ kb < w'.heap.size) W.drew := ⟨y0, y1, y2, y3, rc, hlW, l1⟩
 refine lec_start (S := fun w' : World => w'.cell? ⟨kb, 0, none⟩ = some (.int .i64 op) /\ w'.cell? ⟨kb, 1, none⟩ = some (.int .i64 (a : Int)) /\ w'.cell? ⟨kb, 2, none⟩ = some (.int .i64 (b : Int)) /\ w'.cell? ⟨kb, 3, none⟩ = some (.int .i64 (c : Int)) /\ w'.cell? ⟨mb, 42 + c, none⟩ = some (.int .i64 xc) /\ mb < w'.heap.size /\ kb < w'.heap.size) (z := 9) (by kernel_rfl) ?_
 show lec _ _ _ _ _ 10 _ _ _
 try simp only [List.size_toArray, List.length_cons, List.length_nil, Array.replicate]
 refine lec_takeP (i := 0) (v := ?v0z) rfl (by kernel_rfl) (by kernel_rfl) (by kernel_rfl) (by kernel_rfl) (fun _ _ _ h => h) (.inl ⟨by rfl, ?hy0z⟩) S8 ?rest0z
 case hy0z =>
  rintro w' _
  go_simp
  all_goals with_reducible rfl
 try simp only [Act.put, List.getElem_toArray, List.getElem_cons_succ, List.getElem_cons_zero, List.setIfInBounds_toArray, List.set_cons_zero, List.set_cons_succ]
 refine lec_takeP (i := 1) (v := ?v1z) rfl (by kernel_rfl) (by kernel_rfl) (by kernel_rfl) (by kernel_rfl) (fun _ _ _ h => h) (.inl ⟨by rfl, ?hy1z⟩) S8 ?rest1z
 case hy1z =>
  rintro w' _
  go_simp
  all_goals with_reducible rfl
 try simp only [Act.put, List.getElem_toArray, List.getElem_cons_succ, List.getElem_cons_zero, List.setIfInBounds_toArray, List.set_cons_zero, List.set_cons_succ]
 refine lec_takeT [6, 7, 8, 9] (i := 2) (v := ?v2z) rfl (by kernel_rfl) (by kernel_rfl) (by kernel_rfl) (by kernel_rfl) (fun _ _ _ h => h) (.inl ⟨by rfl, ?hy2z⟩) S8 ?rest2z
 case hy2z =>
  rintro w' ⟨h1, h2, h3, h4, h5, h6, h7⟩
  go_simp
  all_goals with_reducible rfl
 try simp only [Act.put, List.getElem_toArray, List.getElem_cons_succ, List.getElem_cons_zero, List.setIfInBounds_toArray, List.set_cons_zero, List.set_cons_succ]
 refine lec_takeP (i := 3) (v := ?v3z) rfl (by kernel_rfl) (by kernel_rfl) (by kernel_rfl) (by kernel_rfl) (fun _ _ _ h => h) (.inl ⟨by rfl, ?hy3z⟩) S8 ?rest3z
 case hy3z =>
  rintro w' _
  go_simp
  all_goals with_reducible rfl
 try simp only [Act.put, List.getElem_toArray, List.getElem_cons_succ, List.getElem_cons_zero, List.setIfInBounds_toArray, List.set_cons_zero, List.set_cons_succ]
 refine lec_takeP (i := 4) (v := ?v4z) rfl (by kernel_rfl) (by kernel_rfl) (by kernel_rfl) (by kernel_rfl) (fun _ _ _ h => h) (.inl ⟨by rfl, ?hy4z⟩) S8 ?rest4z
 case hy4z =>
  rintro w' _
  go_simp
  all_goals with_reducible rfl
 try simp only [Act.put, List.getElem_toArray, List.getElem_cons_succ, List.getElem_cons_zero, List.setIfInBounds_toArray, List.set_cons_zero, List.set_cons_succ]
 refine lec_takeP (i := 5) (v := ?v5z) rfl (by kernel_rfl) (by kernel_rfl) (by kernel_rfl) (by kernel_rfl) (fun _ _ _ h => h) (.inl ⟨by rfl, ?hy5z⟩) S8 ?rest5z
 case hy5z =>
  rintro w' _
  go_simp
  all_goals with_reducible rfl
 try simp only [Act.put, List.getElem_toArray, List.getElem_cons_succ, List.getElem_cons_zero, List.setIfInBounds_toArray, List.set_cons_zero, List.set_cons_succ]
 refine lec_takeP (i := 6) (v := ?v6z) rfl (by kernel_rfl) (by kernel_rfl) (by kernel_rfl) (by kernel_rfl) (fun _ _ _ h => h) (.inl ⟨by rfl, ?hy6z⟩) S8 ?rest6z
 case hy6z =>
  rintro w' _
  go_simp
  all_goals with_reducible rfl
 try simp only [Act.put, List.getElem_toArray, List.getElem_cons_succ, List.getElem_cons_zero, List.setIfInBounds_toArray, List.set_cons_zero, List.set_cons_succ]
 refine lec_takeT [8, 9] (i := 7) (v := ?v7z) rfl (by kernel_rfl) (by kernel_rfl) (by kernel_rfl) (by kernel_rfl) (fun _ _ _ h => h) (.inl ⟨by rfl, ?hy7z⟩) S8 ?rest7z
 case hy7z =>
  rintro w' ⟨h1, h2, h3, h4, h5, h6, h7⟩
  go_simp
  all_goals with_reducible rfl
 try simp only [Act.put, List.getElem_toArray, List.getElem_cons_succ, List.getElem_cons_zero, List.setIfInBounds_toArray, List.set_cons_zero, List.set_cons_succ]
 refine lec_takeP (i := 8) (v := ?v8z) rfl (by kernel_rfl) (by kernel_rfl) (by kernel_rfl) (by kernel_rfl) (fun _ _ _ h => h) (.inl ⟨by rfl, ?hy8z⟩) S8 ?rest8z
 case hy8z =>
  rintro w' _
  go_simp
  all_goals with_reducible rfl
 try simp only [Act.put, List.getElem_toArray, List.getElem_cons_succ, List.getElem_cons_zero, List.setIfInBounds_toArray, List.set_cons_zero, List.set_cons_succ]
 refine lec_one (i := 9) rfl (by kernel_rfl) ?_
 intro K9 hK9
 rw [if_pos (by rfl)]
 go_simp
 refine Calls.mono (stuckIf_yes _ _) ?_
 rintro e w2 ⟨rfl, rfl⟩
 go_simp
 exact ⟨rfl, rfl, HST.out⟩
set_option maxRecDepth 100000 in
set_option maxHeartbeats 4000000 in
theorem rShift {s d w R} (h : Rm s d w R) (op : Int) (a b c : Nat) (n : Int) (ha : a < 16) (hb : b < 16) (hc : c < 16) (ho : 1 <= op /\ op <= 38) (hq : ¬ (R.rg.getD c 0 < 0)) :
 Calls Tryz.prog 45 #[.pointer (some ⟨s.mb, 0, none⟩), .agg #[.int .i64 op, .int .i64 (a : Int), .int .i64 (b : Int), .int .i64 (c : Int), .int .i64 n]] w fun e w' => e = .returned (.tuple #[]) /\ ∃ d', Rm s d' w' (R.set a (doIW (op - 1) (R.rg.getD b 0) (R.rg.getD c 0))) /\ FooR s d d' w w' := by
 have hlt := h.lt
 obtain ⟨W, hW⟩ : ∃ W, W = w.alloc (.cells #[.int .i64 op, .int .i64 (a : Int), .int .i64 (b : Int), .int .i64 (c : Int), .int .i64 n] 71) := ⟨_, rfl⟩
 have hb1 : Below w.heap.size w W := by rw [hW]; exact below_newR w _
 have hx : W.heap[w.heap.size]? = some (.cells #[.int .i64 op, .int .i64 (a : Int), .int .i64 (b : Int), .int .i64 (c : Int), .int .i64 n] 71 (0, 0)) := by rw [hW]; exact heap_alloc_new _ _
 have l1 : w.heap.size < W.heap.size := (gl hx)
 have H := h.below hb1
 have hci : (c : Int) < 16 := by omega
 have rc : W.cell? ⟨s.mb, 42 + c, none⟩ = some (.int .i64 (R.rg.getD c 0)) := H.reg hc
 have y0 : W.cell? ⟨w.heap.size, 0, none⟩ = some (.int .i64 op) := cell_arr hx rfl
 have y1 : W.cell? ⟨w.heap.size, 1, none⟩ = some (.int .i64 (a : Int)) := cell_arr hx rfl
 have y2 : W.cell? ⟨w.heap.size, 2, none⟩ = some (.int .i64 (b : Int)) := cell_arr hx rfl
 have y3 : W.cell? ⟨w.heap.size, 3, none⟩ = some (.int .i64 (c : Int)) := cell_arr hx rfl
 have hlW := H.lt
 have HC : Hid _ := rCalc (H.below (Below.refl _ _).drew) op a b c n ha hb hc ho
 have HFO : Hid (∀ w2, (∃ d', Rm s d' w2 (R.set a (doIW (op - 1) (R.rg.getD b 0) (R.rg.getD c 0))) /\ FooR s d d' W.drew w2) -> ∃ d', Rm s d' w2 (R.set a (doIW (op - 1) (R.rg.getD b 0) (R.rg.getD c 0))) /\ FooR s d d' w w2) := fun w2 ⟨d', q1, q2⟩ => ⟨d', q1, (FooR.of_below hb1.drew).trans q2⟩
 have y4 : W.cell? ⟨w.heap.size, 4, none⟩ = some (.int .i64 n) := cell_arr hx rfl
 have hz : decide (R.rg.getD c 0 < 0) = false := decide_eq_false hq
 generalize R.set (a : Int) (doIW (op - 1) (R.rg.getD b 0) (R.rg.getD c 0)) = R2 at HC HFO ⊢
 generalize hxx : R.rg.getD c 0 = xc at rc hz
 obtain ⟨kb, hkb⟩ : ∃ kb, kb = w.heap.size := ⟨_, rfl⟩
 rw [<- hkb] at y0 y1 y2 y3 l1 y4
 generalize s.mb = mb at *
 clear h H hb1 hx hq hxx
 go_enter Tryz.func45, Tryz.ntmps45
 go_upto_region 1 with fail
 rw [<- hW, <- hkb]
 clear hW hkb
 have S8 : (fun w' : World => w'.cell? ⟨kb, 0, none⟩ = some (.int .i64 op) /\ w'.cell? ⟨kb, 1, none⟩ = some (.int .i64 (a : Int)) /\ w'.cell? ⟨kb, 2, none⟩ = some (.int .i64 (b : Int)) /\ w'.cell? ⟨kb, 3, none⟩ = some (.int .i64 (c : Int)) /\ w'.cell? ⟨mb, 42 + c, none⟩ = some (.int .i64 xc) /\ mb < w'.heap.size /\ kb < w'.heap.size) W.drew := ⟨y0, y1, y2, y3, rc, hlW, l1⟩
 refine lec_start (S := fun w' : World => w'.cell? ⟨kb, 0, none⟩ = some (.int .i64 op) /\ w'.cell? ⟨kb, 1, none⟩ = some (.int .i64 (a : Int)) /\ w'.cell? ⟨kb, 2, none⟩ = some (.int .i64 (b : Int)) /\ w'.cell? ⟨kb, 3, none⟩ = some (.int .i64 (c : Int)) /\ w'.cell? ⟨mb, 42 + c, none⟩ = some (.int .i64 xc) /\ mb < w'.heap.size /\ kb < w'.heap.size) (z := 9) (by kernel_rfl) ?_
 show lec _ _ _ _ _ 10 _ _ _
 try simp only [List.size_toArray, List.length_cons, List.length_nil, Array.replicate]
 refine lec_takeP (i := 0) (v := ?v0z) rfl (by kernel_rfl) (by kernel_rfl) (by kernel_rfl) (by kernel_rfl) (fun _ _ _ h => h) (.inl ⟨by rfl, ?hy0z⟩) S8 ?rest0z
 case hy0z =>
  rintro w' _
  go_simp
  all_goals with_reducible rfl
 try simp only [Act.put, List.getElem_toArray, List.getElem_cons_succ, List.getElem_cons_zero, List.setIfInBounds_toArray, List.set_cons_zero, List.set_cons_succ]
 refine lec_takeP (i := 1) (v := ?v1z) rfl (by kernel_rfl) (by kernel_rfl) (by kernel_rfl) (by kernel_rfl) (fun _ _ _ h => h) (.inl ⟨by rfl, ?hy1z⟩) S8 ?rest1z
 case hy1z =>
  rintro w' _
  go_simp
  all_goals with_reducible rfl
 try simp only [Act.put, List.getElem_toArray, List.getElem_cons_succ, List.getElem_cons_zero, List.setIfInBounds_toArray, List.set_cons_zero, List.set_cons_succ]
 refine lec_takeT [6, 7, 8, 9] (i := 2) (v := ?v2z) rfl (by kernel_rfl) (by kernel_rfl) (by kernel_rfl) (by kernel_rfl) (fun _ _ _ h => h) (.inl ⟨by rfl, ?hy2z⟩) S8 ?rest2z
 case hy2z =>
  rintro w' ⟨h1, h2, h3, h4, h5, h6, h7⟩
  go_simp
  all_goals with_reducible rfl
 try simp only [Act.put, List.getElem_toArray, List.getElem_cons_succ, List.getElem_cons_zero, List.setIfInBounds_toArray, List.set_cons_zero, List.set_cons_succ]
 refine lec_takeP (i := 3) (v := ?v3z) rfl (by kernel_rfl) (by kernel_rfl) (by kernel_rfl) (by kernel_rfl) (fun _ _ _ h => h) (.inl ⟨by rfl, ?hy3z⟩) S8 ?rest3z
 case hy3z =>
  rintro w' _
  go_simp
  all_goals with_reducible rfl
 try simp only [Act.put, List.getElem_toArray, List.getElem_cons_succ, List.getElem_cons_zero, List.setIfInBounds_toArray, List.set_cons_zero, List.set_cons_succ]
 refine lec_takeP (i := 4) (v := ?v4z) rfl (by kernel_rfl) (by kernel_rfl) (by kernel_rfl) (by kernel_rfl) (fun _ _ _ h => h) (.inl ⟨by rfl, ?hy4z⟩) S8 ?rest4z
 case hy4z =>
  rintro w' _
  go_simp
  all_goals with_reducible rfl
 try simp only [Act.put, List.getElem_toArray, List.getElem_cons_succ, List.getElem_cons_zero, List.setIfInBounds_toArray, List.set_cons_zero, List.set_cons_succ]
 refine lec_takeP (i := 5) (v := ?v5z) rfl (by kernel_rfl) (by kernel_rfl) (by kernel_rfl) (by kernel_rfl) (fun _ _ _ h => h) (.inl ⟨by rfl, ?hy5z⟩) S8 ?rest5z
 case hy5z =>
  rintro w' _
  go_simp
  all_goals with_reducible rfl
 try simp only [Act.put, List.getElem_toArray, List.getElem_cons_succ, List.getElem_cons_zero, List.setIfInBounds_toArray, List.set_cons_zero, List.set_cons_succ]
 refine lec_takeP (i := 6) (v := ?v6z) rfl (by kernel_rfl) (by kernel_rfl) (by kernel_rfl) (by kernel_rfl) (fun _ _ _ h => h) (.inl ⟨by rfl, ?hy6z⟩) S8 ?rest6z
 case hy6z =>
  rintro w' _
  go_simp
  all_goals with_reducible rfl
 try simp only [Act.put, List.getElem_toArray, List.getElem_cons_succ, List.getElem_cons_zero, List.setIfInBounds_toArray, List.set_cons_zero, List.set_cons_succ]
 refine lec_takeT [8, 9] (i := 7) (v := ?v7z) rfl (by kernel_rfl) (by kernel_rfl) (by kernel_rfl) (by kernel_rfl) (fun _ _ _ h => h) (.inl ⟨by rfl, ?hy7z⟩) S8 ?rest7z
 case hy7z =>
  rintro w' ⟨h1, h2, h3, h4, h5, h6, h7⟩
  go_simp
  all_goals with_reducible rfl
 try simp only [Act.put, List.getElem_toArray, List.getElem_cons_succ, List.getElem_cons_zero, List.setIfInBounds_toArray, List.set_cons_zero, List.set_cons_succ]
 refine lec_takeP (i := 8) (v := ?v8z) rfl (by kernel_rfl) (by kernel_rfl) (by kernel_rfl) (by kernel_rfl) (fun _ _ _ h => h) (.inl ⟨by rfl, ?hy8z⟩) S8 ?rest8z
 case hy8z =>
  rintro w' _
  go_simp
  all_goals with_reducible rfl
 try simp only [Act.put, List.getElem_toArray, List.getElem_cons_succ, List.getElem_cons_zero, List.setIfInBounds_toArray, List.set_cons_zero, List.set_cons_succ]
 refine lec_one (i := 9) rfl (by kernel_rfl) ?_
 intro K9 hK9
 rw [if_pos (by rfl)]
 go_simp
 refine Calls.mono (stuckIf_no _ _) ?_
 rintro e w2 ⟨rfl, rfl⟩
 go_simp
 refine hK9 _ _ (fun h => by cases h) ?_
 clear hK9
 try simp only [Act.put, List.getElem_toArray, List.getElem_cons_succ, List.getElem_cons_zero, List.setIfInBounds_toArray, List.set_cons_zero, List.set_cons_succ]
 refine lec_done (by kernel_rfl) ?_
 clear S8
 go_wp2_with (go_at_call 66; refine Calls.mono HC.out ?_; rintro e w2 ⟨rfl, h2⟩; have H2 : Hid _ := h2; clear h2)
 exact bodyPost_end (v := .tuple #[]) (by simp [results, Tryz.results45, go_sem]) rfl ⟨rfl, HFO.out _ H2.out⟩
set_option maxRecDepth 100000 in
set_option maxHeartbeats 4000000 in
theorem rShift_st {s d w R} (h : Rm s d w R) (op : Int) (a b c : Nat) (n : Int) (hc : c < 16) (ho : 1 <= op /\ op <= 38) (hq : R.rg.getD c 0 < 0) :
 Calls Tryz.prog 45 #[.pointer (some ⟨s.mb, 0, none⟩), .agg #[.int .i64 op, .int .i64 (a : Int), .int .i64 (b : Int), .int .i64 (c : Int), .int .i64 n]] w fun e w' => e = .panicked [{ v := .iface 137 (.int .i64 4), recovered := false }] /\ Below w.heap.size w w' := by
 have hlt := h.lt
 obtain ⟨W, hW⟩ : ∃ W, W = w.alloc (.cells #[.int .i64 op, .int .i64 (a : Int), .int .i64 (b : Int), .int .i64 (c : Int), .int .i64 n] 71) := ⟨_, rfl⟩
 have hb1 : Below w.heap.size w W := by rw [hW]; exact below_newR w _
 have hx : W.heap[w.heap.size]? = some (.cells #[.int .i64 op, .int .i64 (a : Int), .int .i64 (b : Int), .int .i64 (c : Int), .int .i64 n] 71 (0, 0)) := by rw [hW]; exact heap_alloc_new _ _
 have l1 : w.heap.size < W.heap.size := (gl hx)
 have H := h.below hb1
 have hci : (c : Int) < 16 := by omega
 have rc : W.cell? ⟨s.mb, 42 + c, none⟩ = some (.int .i64 (R.rg.getD c 0)) := H.reg hc
 have y0 : W.cell? ⟨w.heap.size, 0, none⟩ = some (.int .i64 op) := cell_arr hx rfl
 have y1 : W.cell? ⟨w.heap.size, 1, none⟩ = some (.int .i64 (a : Int)) := cell_arr hx rfl
 have y2 : W.cell? ⟨w.heap.size, 2, none⟩ = some (.int .i64 (b : Int)) := cell_arr hx rfl
 have y3 : W.cell? ⟨w.heap.size, 3, none⟩ = some (.int .i64 (c : Int)) := cell_arr hx rfl
 have hlW := H.lt
 have HST : Hid (Below w.heap.size w W.drew) := hb1.drew
 have hz : decide (R.rg.getD c 0 < 0) = true := decide_eq_true hq
 generalize hxx : R.rg.getD c 0 = xc at rc hz
 obtain ⟨kb, hkb⟩ : ∃ kb, kb = w.heap.size := ⟨_, rfl⟩
 rw [<- hkb] at y0 y1 y2 y3 l1
 generalize s.mb = mb at *
 clear h H hb1 hx hq hxx
 go_enter Tryz.func45, Tryz.ntmps45
 go_upto_region 1 with fail
 rw [<- hW, <- hkb]
 clear hW hkb
 have S8 : (fun w' : World => w'.cell? ⟨kb, 0, none⟩ = some (.int .i64 op) /\ w'.cell? ⟨kb, 1, none⟩ = some (.int .i64 (a : Int)) /\ w'.cell? ⟨kb, 2, none⟩ = some (.int .i64 (b : Int)) /\ w'.cell? ⟨kb, 3, none⟩ = some (.int .i64 (c : Int)) /\ w'.cell? ⟨mb, 42 + c, none⟩ = some (.int .i64 xc) /\ mb < w'.heap.size /\ kb < w'.heap.size) W.drew := ⟨y0, y1, y2, y3, rc, hlW, l1⟩
 refine lec_start (S := fun w' : World => w'.cell? ⟨kb, 0, none⟩ = some (.int .i64 op) /\ w'.cell? ⟨kb, 1, none⟩ = some (.int .i64 (a : Int)) /\ w'.cell? ⟨kb, 2, none⟩ = some (.int .i64 (b : Int)) /\ w'.cell? ⟨kb, 3, none⟩ = some (.int .i64 (c : Int)) /\ w'.cell? ⟨mb, 42 + c, none⟩ = some (.int .i64 xc) /\ mb < w'.heap.size /\ kb < w'.heap.size) (z := 9) (by kernel_rfl) ?_
 show lec _ _ _ _ _ 10 _ _ _
 try simp only [List.size_toArray, List.length_cons, List.length_nil, Array.replicate]
 refine lec_takeP (i := 0) (v := ?v0z) rfl (by kernel_rfl) (by kernel_rfl) (by kernel_rfl) (by kernel_rfl) (fun _ _ _ h => h) (.inl ⟨by rfl, ?hy0z⟩) S8 ?rest0z
 case hy0z =>
  rintro w' _
  go_simp
  all_goals with_reducible rfl
 try simp only [Act.put, List.getElem_toArray, List.getElem_cons_succ, List.getElem_cons_zero, List.setIfInBounds_toArray, List.set_cons_zero, List.set_cons_succ]
 refine lec_takeP (i := 1) (v := ?v1z) rfl (by kernel_rfl) (by kernel_rfl) (by kernel_rfl) (by kernel_rfl) (fun _ _ _ h => h) (.inl ⟨by rfl, ?hy1z⟩) S8 ?rest1z
 case hy1z =>
  rintro w' _
  go_simp
  all_goals with_reducible rfl
 try simp only [Act.put, List.getElem_toArray, List.getElem_cons_succ, List.getElem_cons_zero, List.setIfInBounds_toArray, List.set_cons_zero, List.set_cons_succ]
 refine lec_takeT [6, 7, 8, 9] (i := 2) (v := ?v2z) rfl (by kernel_rfl) (by kernel_rfl) (by kernel_rfl) (by kernel_rfl) (fun _ _ _ h => h) (.inl ⟨by rfl, ?hy2z⟩) S8 ?rest2z
 case hy2z =>
  rintro w' ⟨h1, h2, h3, h4, h5, h6, h7⟩
  go_simp
  all_goals with_reducible rfl
 try simp only [Act.put, List.getElem_toArray, List.getElem_cons_succ, List.getElem_cons_zero, List.setIfInBounds_toArray, List.set_cons_zero, List.set_cons_succ]
 refine lec_takeP (i := 3) (v := ?v3z) rfl (by kernel_rfl) (by kernel_rfl) (by kernel_rfl) (by kernel_rfl) (fun _ _ _ h => h) (.inl ⟨by rfl, ?hy3z⟩) S8 ?rest3z
 case hy3z =>
  rintro w' _
  go_simp
  all_goals with_reducible rfl
 try simp only [Act.put, List.getElem_toArray, List.getElem_cons_succ, List.getElem_cons_zero, List.setIfInBounds_toArray, List.set_cons_zero, List.set_cons_succ]
 refine lec_takeP (i := 4) (v := ?v4z) rfl (by kernel_rfl) (by kernel_rfl) (by kernel_rfl) (by kernel_rfl) (fun _ _ _ h => h) (.inl ⟨by rfl, ?hy4z⟩) S8 ?rest4z
 case hy4z =>
  rintro w' _
  go_simp
  all_goals with_reducible rfl
 try simp only [Act.put, List.getElem_toArray, List.getElem_cons_succ, List.getElem_cons_zero, List.setIfInBounds_toArray, List.set_cons_zero, List.set_cons_succ]
 refine lec_takeP (i := 5) (v := ?v5z) rfl (by kernel_rfl) (by kernel_rfl) (by kernel_rfl) (by kernel_rfl) (fun _ _ _ h => h) (.inl ⟨by rfl, ?hy5z⟩) S8 ?rest5z
 case hy5z =>
  rintro w' _
  go_simp
  all_goals with_reducible rfl
 try simp only [Act.put, List.getElem_toArray, List.getElem_cons_succ, List.getElem_cons_zero, List.setIfInBounds_toArray, List.set_cons_zero, List.set_cons_succ]
 refine lec_takeP (i := 6) (v := ?v6z) rfl (by kernel_rfl) (by kernel_rfl) (by kernel_rfl) (by kernel_rfl) (fun _ _ _ h => h) (.inl ⟨by rfl, ?hy6z⟩) S8 ?rest6z
 case hy6z =>
  rintro w' _
  go_simp
  all_goals with_reducible rfl
 try simp only [Act.put, List.getElem_toArray, List.getElem_cons_succ, List.getElem_cons_zero, List.setIfInBounds_toArray, List.set_cons_zero, List.set_cons_succ]
 refine lec_takeT [8, 9] (i := 7) (v := ?v7z) rfl (by kernel_rfl) (by kernel_rfl) (by kernel_rfl) (by kernel_rfl) (fun _ _ _ h => h) (.inl ⟨by rfl, ?hy7z⟩) S8 ?rest7z
 case hy7z =>
  rintro w' ⟨h1, h2, h3, h4, h5, h6, h7⟩
  go_simp
  all_goals with_reducible rfl
 try simp only [Act.put, List.getElem_toArray, List.getElem_cons_succ, List.getElem_cons_zero, List.setIfInBounds_toArray, List.set_cons_zero, List.set_cons_succ]
 refine lec_takeP (i := 8) (v := ?v8z) rfl (by kernel_rfl) (by kernel_rfl) (by kernel_rfl) (by kernel_rfl) (fun _ _ _ h => h) (.inl ⟨by rfl, ?hy8z⟩) S8 ?rest8z
 case hy8z =>
  rintro w' _
  go_simp
  all_goals with_reducible rfl
 try simp only [Act.put, List.getElem_toArray, List.getElem_cons_succ, List.getElem_cons_zero, List.setIfInBounds_toArray, List.set_cons_zero, List.set_cons_succ]
 refine lec_one (i := 9) rfl (by kernel_rfl) ?_
 intro K9 hK9
 rw [if_pos (by rfl)]
 go_simp
 refine Calls.mono (stuckIf_yes _ _) ?_
 rintro e w2 ⟨rfl, rfl⟩
 go_simp
 exact ⟨rfl, rfl, HST.out⟩
end Go.Proofs.YtfofmmkihhnfmaaGreatDoor
