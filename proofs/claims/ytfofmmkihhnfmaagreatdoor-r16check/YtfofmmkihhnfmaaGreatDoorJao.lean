import Derived.Test.YtfofmmkihhnfmaaGreatDoorJan
set_option linter.unusedVariables false
set_option linter.unusedSimpArgs false
namespace Go.Proofs.YtfofmmkihhnfmaaGreatDoor
open Go.ChangeShapes Go.WideShapes Go.ChangeAt Go.RowKit Go.Maps
set_option maxRecDepth 100000 in
set_option maxHeartbeats 4000000 in
theorem rTrapU0 {s d w R} (h : Rm s d w R) (op : Int) (a b c : Nat) (n : Int) (ha : a < 16) (hb : b < 16) (hq : R.rg.getD a 0 < 0) :
 Calls Tryz.prog 61 #[.pointer (some ⟨s.mb, 0, none⟩), .agg #[.int .i64 op, .int .i64 (a : Int), .int .i64 (b : Int), .int .i64 (c : Int), .int .i64 n]] w fun e w' => e = .returned (.tuple #[]) /\ ∃ d', Rm s d' w' (R.panic n 0) /\ FooR s d d' w w' := by
 obtain ⟨W, hW⟩ : ∃ W, W = w.alloc (.cells #[.int .i64 op, .int .i64 (a : Int), .int .i64 (b : Int), .int .i64 (c : Int), .int .i64 n] 71) := ⟨_, rfl⟩
 have hb1 : Below w.heap.size w W := by rw [hW]; exact below_newR w _
 have hx : W.heap[w.heap.size]? = some (.cells #[.int .i64 op, .int .i64 (a : Int), .int .i64 (b : Int), .int .i64 (c : Int), .int .i64 n] 71 (0, 0)) := by rw [hW]; exact heap_alloc_new _ _
 have l1 : w.heap.size < W.heap.size := (gl hx)
 have H := h.below hb1
 have hlt := h.lt
 have hlW := H.lt
 have hai : (a : Int) < 16 := by omega
 obtain ⟨xa, hxa⟩ : ∃ xa, xa = R.rg.getD a 0 := ⟨_, rfl⟩
 have hbi : (b : Int) < 16 := by omega
 obtain ⟨xb, hxb⟩ : ∃ xb, xb = R.rg.getD b 0 := ⟨_, rfl⟩
 have y0 : W.cell? ⟨w.heap.size, 0, none⟩ = some (.int .i64 op) := cell_arr hx rfl
 have y1 : W.cell? ⟨w.heap.size, 1, none⟩ = some (.int .i64 (a : Int)) := cell_arr hx rfl
 have y2 : W.cell? ⟨w.heap.size, 2, none⟩ = some (.int .i64 (b : Int)) := cell_arr hx rfl
 have y3 : W.cell? ⟨w.heap.size, 3, none⟩ = some (.int .i64 (c : Int)) := cell_arr hx rfl
 have y4 : W.cell? ⟨w.heap.size, 4, none⟩ = some (.int .i64 n) := cell_arr hx rfl
 have ra : W.cell? ⟨s.mb, 42 + a, none⟩ = some (.int .i64 xa) := by rw [hxa]; exact H.reg ha
 have rb : W.cell? ⟨s.mb, 42 + b, none⟩ = some (.int .i64 xb) := by rw [hxb]; exact H.reg hb
 have HSW : Hid (∀ w2, Below W.heap.size W w2 -> w2.cell? ⟨w.heap.size, 0, none⟩ = some (.int .i64 op) /\ w2.cell? ⟨w.heap.size, 1, none⟩ = some (.int .i64 (a : Int)) /\ w2.cell? ⟨w.heap.size, 2, none⟩ = some (.int .i64 (b : Int)) /\ w2.cell? ⟨w.heap.size, 3, none⟩ = some (.int .i64 (c : Int)) /\ w2.cell? ⟨w.heap.size, 4, none⟩ = some (.int .i64 n) /\ w2.cell? ⟨s.mb, 42 + a, none⟩ = some (.int .i64 xa) /\ w2.cell? ⟨s.mb, 42 + b, none⟩ = some (.int .i64 xb) /\ s.mb < w2.heap.size /\ w.heap.size < w2.heap.size) := fun w2 hb2 => by
  have q := H.below hb2
  have ex := (hb2.block _ l1).trans hx
  rw [hxa]
  rw [hxb]
  exact ⟨cell_arr ex rfl, cell_arr ex rfl, cell_arr ex rfl, cell_arr ex rfl, cell_arr ex rfl, q.reg ha, q.reg hb, q.lt, (gl ex)⟩
 have HFO : Hid (∀ W2 R2 w2, Below w.heap.size w W2 -> (∃ d', Rm s d' w2 R2 /\ FooR s d d' W2 w2) -> ∃ d', Rm s d' w2 R2 /\ FooR s d d' w w2) := fun W2 R2 w2 hb ⟨d', q1, q2⟩ => ⟨d', q1, (FooR.of_below hb).trans q2⟩
 have HB1 : Hid (Below w.heap.size w W.drew.drew) := hb1.drew.drew
 have hz1 : decide (xa < 0) = true := decide_eq_true (by rw [hxa]; exact hq)
 have HP : Hid _ := trapIf_any (H.below (Below.refl _ _).drew.drew) true op a b c n
 clear hq
 obtain ⟨kb, hkb⟩ : ∃ kb, kb = w.heap.size := ⟨_, rfl⟩
 rw [<- hkb] at y0 y1 y2 y3 y4 l1 HSW
 generalize s.mb = mb at *
 clear h H hb1 hx hxa hxb
 go_enter Tryz.func61, Tryz.ntmps61
 go_upto_region 1 with fail
 rw [<- hW, <- hkb]
 clear hW hkb
 have S8 : (fun w' : World => w'.cell? ⟨kb, 0, none⟩ = some (.int .i64 op) /\ w'.cell? ⟨kb, 1, none⟩ = some (.int .i64 (a : Int)) /\ w'.cell? ⟨kb, 2, none⟩ = some (.int .i64 (b : Int)) /\ w'.cell? ⟨kb, 3, none⟩ = some (.int .i64 (c : Int)) /\ w'.cell? ⟨kb, 4, none⟩ = some (.int .i64 n) /\ w'.cell? ⟨mb, 42 + a, none⟩ = some (.int .i64 xa) /\ w'.cell? ⟨mb, 42 + b, none⟩ = some (.int .i64 xb) /\ mb < w'.heap.size /\ kb < w'.heap.size) W.drew := ⟨y0, y1, y2, y3, y4, ra, rb, hlW, l1⟩
 refine lec_start (S := fun w' : World => w'.cell? ⟨kb, 0, none⟩ = some (.int .i64 op) /\ w'.cell? ⟨kb, 1, none⟩ = some (.int .i64 (a : Int)) /\ w'.cell? ⟨kb, 2, none⟩ = some (.int .i64 (b : Int)) /\ w'.cell? ⟨kb, 3, none⟩ = some (.int .i64 (c : Int)) /\ w'.cell? ⟨kb, 4, none⟩ = some (.int .i64 n) /\ w'.cell? ⟨mb, 42 + a, none⟩ = some (.int .i64 xa) /\ w'.cell? ⟨mb, 42 + b, none⟩ = some (.int .i64 xb) /\ mb < w'.heap.size /\ kb < w'.heap.size) (z := 8) (by kernel_rfl) ?_
 show lec _ _ _ _ _ 9 _ _ _
 try simp only [List.size_toArray, List.length_cons, List.length_nil, Array.replicate]
 refine lec_takeP (i := 0) (v := ?v0z) rfl (by kernel_rfl) (by kernel_rfl) (by kernel_rfl) (by kernel_rfl) (fun _ _ _ h => h) (.inl ⟨by rfl, ?hy0z⟩) S8 ?rest0z
 case hy0z =>
  rintro w' _
  go_simp
  all_goals with_reducible rfl
 try simp only [Act.put, List.getElem_toArray, List.getElem_cons_succ, List.getElem_cons_zero, List.setIfInBounds_toArray, List.set_cons_zero, List.set_cons_succ]
 refine lec_takeP (i := 1) (v := ?v1z) rfl (by kernel_rfl) (by kernel_rfl) (by kernel_rfl) (by kernel_rfl) (fun _ _ _ h => h) (.inl ⟨by rfl, ?hy1z⟩) S8 ?rest1z
 case hy1z =>
  rintro w' _
  go_simp
  all_goals with_reducible rfl
 try simp only [Act.put, List.getElem_toArray, List.getElem_cons_succ, List.getElem_cons_zero, List.setIfInBounds_toArray, List.set_cons_zero, List.set_cons_succ]
 refine lec_takeT [6, 7, 8] (i := 2) (v := ?v2z) rfl (by kernel_rfl) (by kernel_rfl) (by kernel_rfl) (by kernel_rfl) (fun _ _ _ h => h) (.inl ⟨by rfl, ?hy2z⟩) S8 ?rest2z
 case hy2z =>
  rintro w' ⟨g0, g1, g2, g3, g4, g5, g6, g7, g8⟩
  go_simp
  all_goals with_reducible rfl
 try simp only [Act.put, List.getElem_toArray, List.getElem_cons_succ, List.getElem_cons_zero, List.setIfInBounds_toArray, List.set_cons_zero, List.set_cons_succ]
 refine lec_takeP (i := 3) (v := ?v3z) rfl (by kernel_rfl) (by kernel_rfl) (by kernel_rfl) (by kernel_rfl) (fun _ _ _ h => h) (.inl ⟨by rfl, ?hy3z⟩) S8 ?rest3z
 case hy3z =>
  rintro w' _
  go_simp
  all_goals with_reducible rfl
 try simp only [Act.put, List.getElem_toArray, List.getElem_cons_succ, List.getElem_cons_zero, List.setIfInBounds_toArray, List.set_cons_zero, List.set_cons_succ]
 refine lec_takeP (i := 4) (v := ?v4z) rfl (by kernel_rfl) (by kernel_rfl) (by kernel_rfl) (by kernel_rfl) (fun _ _ _ h => h) (.inl ⟨by rfl, ?hy4z⟩) S8 ?rest4z
 case hy4z =>
  rintro w' _
  go_simp
  all_goals with_reducible rfl
 try simp only [Act.put, List.getElem_toArray, List.getElem_cons_succ, List.getElem_cons_zero, List.setIfInBounds_toArray, List.set_cons_zero, List.set_cons_succ]
 refine lec_takeP (i := 5) (v := ?v5z) rfl (by kernel_rfl) (by kernel_rfl) (by kernel_rfl) (by kernel_rfl) (fun _ _ _ h => h) (.inl ⟨by rfl, ?hy5z⟩) S8 ?rest5z
 case hy5z =>
  rintro w' _
  go_simp
  all_goals with_reducible rfl
 try simp only [Act.put, List.getElem_toArray, List.getElem_cons_succ, List.getElem_cons_zero, List.setIfInBounds_toArray, List.set_cons_zero, List.set_cons_succ]
 refine lec_takeP (i := 6) (v := ?v6z) rfl (by kernel_rfl) (by kernel_rfl) (by kernel_rfl) (by kernel_rfl) (fun _ _ _ h => h) (.inl ⟨by rfl, ?hy6z⟩) S8 ?rest6z
 case hy6z =>
  rintro w' _
  go_simp
  all_goals with_reducible rfl
 try simp only [Act.put, List.getElem_toArray, List.getElem_cons_succ, List.getElem_cons_zero, List.setIfInBounds_toArray, List.set_cons_zero, List.set_cons_succ]
 refine lec_takeT [8] (i := 7) (v := ?v7z) rfl (by kernel_rfl) (by kernel_rfl) (by kernel_rfl) (by kernel_rfl) (fun _ _ _ h => h) (.inl ⟨by rfl, ?hy7z⟩) S8 ?rest7z
 case hy7z =>
  rintro w' ⟨g0, g1, g2, g3, g4, g5, g6, g7, g8⟩
  go_simp
  all_goals with_reducible rfl
 try simp only [Act.put, List.getElem_toArray, List.getElem_cons_succ, List.getElem_cons_zero, List.setIfInBounds_toArray, List.set_cons_zero, List.set_cons_succ]
 refine lec_one (i := 8) rfl (by kernel_rfl) ?_
 intro K8 hK8
 rw [if_pos (by rfl)]
 go_simp
 go_simp
 refine hK8 _ _ (fun h => by cases h) ?_
 clear hK8
 try simp only [Act.put, List.getElem_toArray, List.getElem_cons_succ, List.getElem_cons_zero, List.setIfInBounds_toArray, List.set_cons_zero, List.set_cons_succ]
 refine lec_done (by kernel_rfl) ?_
 clear S8
 go_upto_region 2 with fail
 have S8 : (fun w' : World => w'.cell? ⟨kb, 0, none⟩ = some (.int .i64 op) /\ w'.cell? ⟨kb, 1, none⟩ = some (.int .i64 (a : Int)) /\ w'.cell? ⟨kb, 2, none⟩ = some (.int .i64 (b : Int)) /\ w'.cell? ⟨kb, 3, none⟩ = some (.int .i64 (c : Int)) /\ w'.cell? ⟨kb, 4, none⟩ = some (.int .i64 n) /\ w'.cell? ⟨mb, 42 + a, none⟩ = some (.int .i64 xa) /\ w'.cell? ⟨mb, 42 + b, none⟩ = some (.int .i64 xb) /\ mb < w'.heap.size /\ kb < w'.heap.size) W.drew.drew := ⟨y0, y1, y2, y3, y4, ra, rb, hlW, l1⟩
 refine lec_start (S := fun w' : World => w'.cell? ⟨kb, 0, none⟩ = some (.int .i64 op) /\ w'.cell? ⟨kb, 1, none⟩ = some (.int .i64 (a : Int)) /\ w'.cell? ⟨kb, 2, none⟩ = some (.int .i64 (b : Int)) /\ w'.cell? ⟨kb, 3, none⟩ = some (.int .i64 (c : Int)) /\ w'.cell? ⟨kb, 4, none⟩ = some (.int .i64 n) /\ w'.cell? ⟨mb, 42 + a, none⟩ = some (.int .i64 xa) /\ w'.cell? ⟨mb, 42 + b, none⟩ = some (.int .i64 xb) /\ mb < w'.heap.size /\ kb < w'.heap.size) (z := 16) (by kernel_rfl) ?_
 show lec _ _ _ _ _ 17 _ _ _
 try simp only [List.size_toArray, List.length_cons, List.length_nil, Array.replicate]
 refine lec_takeP (i := 0) (v := ?v0y) rfl (by kernel_rfl) (by kernel_rfl) (by kernel_rfl) (by kernel_rfl) (fun _ _ _ h => h) (.inl ⟨by rfl, ?hy0y⟩) S8 ?rest0y
 case hy0y =>
  rintro w' _
  go_simp
  all_goals with_reducible rfl
 try simp only [Act.put, List.getElem_toArray, List.getElem_cons_succ, List.getElem_cons_zero, List.setIfInBounds_toArray, List.set_cons_zero, List.set_cons_succ]
 refine lec_takeP (i := 1) (v := ?v1y) rfl (by kernel_rfl) (by kernel_rfl) (by kernel_rfl) (by kernel_rfl) (fun _ _ _ h => h) (.inl ⟨by rfl, ?hy1y⟩) S8 ?rest1y
 case hy1y =>
  rintro w' _
  go_simp
  all_goals with_reducible rfl
 try simp only [Act.put, List.getElem_toArray, List.getElem_cons_succ, List.getElem_cons_zero, List.setIfInBounds_toArray, List.set_cons_zero, List.set_cons_succ]
 refine lec_takeP (i := 2) (v := ?v2y) rfl (by kernel_rfl) (by kernel_rfl) (by kernel_rfl) (by kernel_rfl) (fun _ _ _ h => h) (.inl ⟨by rfl, ?hy2y⟩) S8 ?rest2y
 case hy2y =>
  rintro w' _
  go_simp
  all_goals with_reducible rfl
 try simp only [Act.put, List.getElem_toArray, List.getElem_cons_succ, List.getElem_cons_zero, List.setIfInBounds_toArray, List.set_cons_zero, List.set_cons_succ]
 refine lec_takeP (i := 3) (v := ?v3y) rfl (by kernel_rfl) (by kernel_rfl) (by kernel_rfl) (by kernel_rfl) (fun _ _ _ h => h) (.inl ⟨by rfl, ?hy3y⟩) S8 ?rest3y
 case hy3y =>
  rintro w' _
  go_simp
  all_goals with_reducible rfl
 try simp only [Act.put, List.getElem_toArray, List.getElem_cons_succ, List.getElem_cons_zero, List.setIfInBounds_toArray, List.set_cons_zero, List.set_cons_succ]
 refine lec_takeP (i := 4) (v := undef) rfl (by kernel_rfl) (by kernel_rfl) (by kernel_rfl) (by kernel_rfl) (fun _ _ _ h => h) (.inr ⟨by kernel_rfl, rfl⟩) S8 ?_
 try simp only [Act.put, List.getElem_toArray, List.getElem_cons_succ, List.getElem_cons_zero, List.setIfInBounds_toArray, List.set_cons_zero, List.set_cons_succ]
 refine lec_takeP (i := 5) (v := undef) rfl (by kernel_rfl) (by kernel_rfl) (by kernel_rfl) (by kernel_rfl) (fun _ _ _ h => h) (.inr ⟨by kernel_rfl, rfl⟩) S8 ?_
 try simp only [Act.put, List.getElem_toArray, List.getElem_cons_succ, List.getElem_cons_zero, List.setIfInBounds_toArray, List.set_cons_zero, List.set_cons_succ]
 refine lec_takeP (i := 6) (v := undef) rfl (by kernel_rfl) (by kernel_rfl) (by kernel_rfl) (by kernel_rfl) (fun _ _ _ h => h) (.inr ⟨by kernel_rfl, rfl⟩) S8 ?_
 try simp only [Act.put, List.getElem_toArray, List.getElem_cons_succ, List.getElem_cons_zero, List.setIfInBounds_toArray, List.set_cons_zero, List.set_cons_succ]
 refine lec_takeP (i := 7) (v := undef) rfl (by kernel_rfl) (by kernel_rfl) (by kernel_rfl) (by kernel_rfl) (fun _ _ _ h => h) (.inr ⟨by kernel_rfl, rfl⟩) S8 ?_
 try simp only [Act.put, List.getElem_toArray, List.getElem_cons_succ, List.getElem_cons_zero, List.setIfInBounds_toArray, List.set_cons_zero, List.set_cons_succ]
 refine lec_takeP (i := 8) (v := undef) rfl (by kernel_rfl) (by kernel_rfl) (by kernel_rfl) (by kernel_rfl) (fun _ _ _ h => h) (.inr ⟨by kernel_rfl, rfl⟩) S8 ?_
 try simp only [Act.put, List.getElem_toArray, List.getElem_cons_succ, List.getElem_cons_zero, List.setIfInBounds_toArray, List.set_cons_zero, List.set_cons_succ]
 refine lec_takeP (i := 9) (v := undef) rfl (by kernel_rfl) (by kernel_rfl) (by kernel_rfl) (by kernel_rfl) (fun _ _ _ h => h) (.inr ⟨by kernel_rfl, rfl⟩) S8 ?_
 try simp only [Act.put, List.getElem_toArray, List.getElem_cons_succ, List.getElem_cons_zero, List.setIfInBounds_toArray, List.set_cons_zero, List.set_cons_succ]
 refine lec_takeP (i := 10) (v := undef) rfl (by kernel_rfl) (by kernel_rfl) (by kernel_rfl) (by kernel_rfl) (fun _ _ _ h => h) (.inr ⟨by kernel_rfl, rfl⟩) S8 ?_
 try simp only [Act.put, List.getElem_toArray, List.getElem_cons_succ, List.getElem_cons_zero, List.setIfInBounds_toArray, List.set_cons_zero, List.set_cons_succ]
 refine lec_takeP (i := 11) (v := undef) rfl (by kernel_rfl) (by kernel_rfl) (by kernel_rfl) (by kernel_rfl) (fun _ _ _ h => h) (.inr ⟨by kernel_rfl, rfl⟩) S8 ?_
 try simp only [Act.put, List.getElem_toArray, List.getElem_cons_succ, List.getElem_cons_zero, List.setIfInBounds_toArray, List.set_cons_zero, List.set_cons_succ]
 refine lec_takeP (i := 12) (v := undef) rfl (by kernel_rfl) (by kernel_rfl) (by kernel_rfl) (by kernel_rfl) (fun _ _ _ h => h) (.inr ⟨by kernel_rfl, rfl⟩) S8 ?_
 try simp only [Act.put, List.getElem_toArray, List.getElem_cons_succ, List.getElem_cons_zero, List.setIfInBounds_toArray, List.set_cons_zero, List.set_cons_succ]
 refine lec_takeP (i := 13) (v := undef) rfl (by kernel_rfl) (by kernel_rfl) (by kernel_rfl) (by kernel_rfl) (fun _ _ _ h => h) (.inr ⟨by kernel_rfl, rfl⟩) S8 ?_
 try simp only [Act.put, List.getElem_toArray, List.getElem_cons_succ, List.getElem_cons_zero, List.setIfInBounds_toArray, List.set_cons_zero, List.set_cons_succ]
 refine lec_takeP (i := 14) (v := ?v14y) rfl (by kernel_rfl) (by kernel_rfl) (by kernel_rfl) (by kernel_rfl) (fun _ _ _ h => h) (.inl ⟨by rfl, ?hy14y⟩) S8 ?rest14y
 case hy14y =>
  rintro w' _
  go_simp
  all_goals with_reducible rfl
 try simp only [Act.put, List.getElem_toArray, List.getElem_cons_succ, List.getElem_cons_zero, List.setIfInBounds_toArray, List.set_cons_zero, List.set_cons_succ]
 refine lec_takeT [16] (i := 15) (v := ?v15y) rfl (by kernel_rfl) (by kernel_rfl) (by kernel_rfl) (by kernel_rfl) (fun _ _ _ h => h) (.inl ⟨by rfl, ?hy15y⟩) S8 ?rest15y
 case hy15y =>
  rintro w' ⟨g0, g1, g2, g3, g4, g5, g6, g7, g8⟩
  go_simp
  all_goals with_reducible rfl
 try simp only [Act.put, List.getElem_toArray, List.getElem_cons_succ, List.getElem_cons_zero, List.setIfInBounds_toArray, List.set_cons_zero, List.set_cons_succ]
 refine lec_one (i := 16) rfl (by kernel_rfl) ?_
 intro K16 hK16
 rw [if_pos (by rfl)]
 go_simp
 refine Calls.mono HP.out ?_
 rintro e w2 ⟨rfl, h2⟩
 have H2 : Hid _ := h2
 clear h2
 go_simp
 refine hK16 _ _ (fun h => by cases h) ?_
 clear hK16
 try simp only [Act.put, List.getElem_toArray, List.getElem_cons_succ, List.getElem_cons_zero, List.setIfInBounds_toArray, List.set_cons_zero, List.set_cons_succ]
 refine lec_done (by kernel_rfl) ?_
 clear S8
 go_wp2_with fail
 exact bodyPost_end (v := .tuple #[]) (by simp [results, Tryz.results61, go_sem]) rfl ⟨rfl, HFO.out _ _ _ HB1.out H2.out⟩
set_option maxRecDepth 100000 in
set_option maxHeartbeats 4000000 in
theorem rTrapU1 {s d w R} (h : Rm s d w R) (op : Int) (a b c : Nat) (n : Int) (ha : a < 16) (hb : b < 16) (hq : ¬ R.rg.getD a 0 < 0) (hq2 : R.rg.getD a 0 ≥ R.rg.getD b 0) :
 Calls Tryz.prog 61 #[.pointer (some ⟨s.mb, 0, none⟩), .agg #[.int .i64 op, .int .i64 (a : Int), .int .i64 (b : Int), .int .i64 (c : Int), .int .i64 n]] w fun e w' => e = .returned (.tuple #[]) /\ ∃ d', Rm s d' w' (R.panic n 0) /\ FooR s d d' w w' := by
 obtain ⟨W, hW⟩ : ∃ W, W = w.alloc (.cells #[.int .i64 op, .int .i64 (a : Int), .int .i64 (b : Int), .int .i64 (c : Int), .int .i64 n] 71) := ⟨_, rfl⟩
 have hb1 : Below w.heap.size w W := by rw [hW]; exact below_newR w _
 have hx : W.heap[w.heap.size]? = some (.cells #[.int .i64 op, .int .i64 (a : Int), .int .i64 (b : Int), .int .i64 (c : Int), .int .i64 n] 71 (0, 0)) := by rw [hW]; exact heap_alloc_new _ _
 have l1 : w.heap.size < W.heap.size := (gl hx)
 have H := h.below hb1
 have hlt := h.lt
 have hlW := H.lt
 have hai : (a : Int) < 16 := by omega
 obtain ⟨xa, hxa⟩ : ∃ xa, xa = R.rg.getD a 0 := ⟨_, rfl⟩
 have hbi : (b : Int) < 16 := by omega
 obtain ⟨xb, hxb⟩ : ∃ xb, xb = R.rg.getD b 0 := ⟨_, rfl⟩
 have y0 : W.cell? ⟨w.heap.size, 0, none⟩ = some (.int .i64 op) := cell_arr hx rfl
 have y1 : W.cell? ⟨w.heap.size, 1, none⟩ = some (.int .i64 (a : Int)) := cell_arr hx rfl
 have y2 : W.cell? ⟨w.heap.size, 2, none⟩ = some (.int .i64 (b : Int)) := cell_arr hx rfl
 have y3 : W.cell? ⟨w.heap.size, 3, none⟩ = some (.int .i64 (c : Int)) := cell_arr hx rfl
 have y4 : W.cell? ⟨w.heap.size, 4, none⟩ = some (.int .i64 n) := cell_arr hx rfl
 have ra : W.cell? ⟨s.mb, 42 + a, none⟩ = some (.int .i64 xa) := by rw [hxa]; exact H.reg ha
 have rb : W.cell? ⟨s.mb, 42 + b, none⟩ = some (.int .i64 xb) := by rw [hxb]; exact H.reg hb
 have HSW : Hid (∀ w2, Below W.heap.size W w2 -> w2.cell? ⟨w.heap.size, 0, none⟩ = some (.int .i64 op) /\ w2.cell? ⟨w.heap.size, 1, none⟩ = some (.int .i64 (a : Int)) /\ w2.cell? ⟨w.heap.size, 2, none⟩ = some (.int .i64 (b : Int)) /\ w2.cell? ⟨w.heap.size, 3, none⟩ = some (.int .i64 (c : Int)) /\ w2.cell? ⟨w.heap.size, 4, none⟩ = some (.int .i64 n) /\ w2.cell? ⟨s.mb, 42 + a, none⟩ = some (.int .i64 xa) /\ w2.cell? ⟨s.mb, 42 + b, none⟩ = some (.int .i64 xb) /\ s.mb < w2.heap.size /\ w.heap.size < w2.heap.size) := fun w2 hb2 => by
  have q := H.below hb2
  have ex := (hb2.block _ l1).trans hx
  rw [hxa]
  rw [hxb]
  exact ⟨cell_arr ex rfl, cell_arr ex rfl, cell_arr ex rfl, cell_arr ex rfl, cell_arr ex rfl, q.reg ha, q.reg hb, q.lt, (gl ex)⟩
 have HFO : Hid (∀ W2 R2 w2, Below w.heap.size w W2 -> (∃ d', Rm s d' w2 R2 /\ FooR s d d' W2 w2) -> ∃ d', Rm s d' w2 R2 /\ FooR s d d' w w2) := fun W2 R2 w2 hb ⟨d', q1, q2⟩ => ⟨d', q1, (FooR.of_below hb).trans q2⟩
 have HB1 : Hid (Below w.heap.size w W.drew.drew) := hb1.drew.drew
 have hz1 : decide (xa < 0) = false := decide_eq_false (by rw [hxa]; exact hq)
 have hz2 : decide (xb <= xa) = true := decide_eq_true (by rw [hxa, hxb]; exact hq2)
 have HP : Hid _ := trapIf_any (H.below (Below.refl _ _).drew.drew) true op a b c n
 clear hq hq2
 obtain ⟨kb, hkb⟩ : ∃ kb, kb = w.heap.size := ⟨_, rfl⟩
 rw [<- hkb] at y0 y1 y2 y3 y4 l1 HSW
 generalize s.mb = mb at *
 clear h H hb1 hx hxa hxb
 go_enter Tryz.func61, Tryz.ntmps61
 go_upto_region 1 with fail
 rw [<- hW, <- hkb]
 clear hW hkb
 have S8 : (fun w' : World => w'.cell? ⟨kb, 0, none⟩ = some (.int .i64 op) /\ w'.cell? ⟨kb, 1, none⟩ = some (.int .i64 (a : Int)) /\ w'.cell? ⟨kb, 2, none⟩ = some (.int .i64 (b : Int)) /\ w'.cell? ⟨kb, 3, none⟩ = some (.int .i64 (c : Int)) /\ w'.cell? ⟨kb, 4, none⟩ = some (.int .i64 n) /\ w'.cell? ⟨mb, 42 + a, none⟩ = some (.int .i64 xa) /\ w'.cell? ⟨mb, 42 + b, none⟩ = some (.int .i64 xb) /\ mb < w'.heap.size /\ kb < w'.heap.size) W.drew := ⟨y0, y1, y2, y3, y4, ra, rb, hlW, l1⟩
 refine lec_start (S := fun w' : World => w'.cell? ⟨kb, 0, none⟩ = some (.int .i64 op) /\ w'.cell? ⟨kb, 1, none⟩ = some (.int .i64 (a : Int)) /\ w'.cell? ⟨kb, 2, none⟩ = some (.int .i64 (b : Int)) /\ w'.cell? ⟨kb, 3, none⟩ = some (.int .i64 (c : Int)) /\ w'.cell? ⟨kb, 4, none⟩ = some (.int .i64 n) /\ w'.cell? ⟨mb, 42 + a, none⟩ = some (.int .i64 xa) /\ w'.cell? ⟨mb, 42 + b, none⟩ = some (.int .i64 xb) /\ mb < w'.heap.size /\ kb < w'.heap.size) (z := 8) (by kernel_rfl) ?_
 show lec _ _ _ _ _ 9 _ _ _
 try simp only [List.size_toArray, List.length_cons, List.length_nil, Array.replicate]
 refine lec_takeP (i := 0) (v := ?v0z) rfl (by kernel_rfl) (by kernel_rfl) (by kernel_rfl) (by kernel_rfl) (fun _ _ _ h => h) (.inl ⟨by rfl, ?hy0z⟩) S8 ?rest0z
 case hy0z =>
  rintro w' _
  go_simp
  all_goals with_reducible rfl
 try simp only [Act.put, List.getElem_toArray, List.getElem_cons_succ, List.getElem_cons_zero, List.setIfInBounds_toArray, List.set_cons_zero, List.set_cons_succ]
 refine lec_takeP (i := 1) (v := ?v1z) rfl (by kernel_rfl) (by kernel_rfl) (by kernel_rfl) (by kernel_rfl) (fun _ _ _ h => h) (.inl ⟨by rfl, ?hy1z⟩) S8 ?rest1z
 case hy1z =>
  rintro w' _
  go_simp
  all_goals with_reducible rfl
 try simp only [Act.put, List.getElem_toArray, List.getElem_cons_succ, List.getElem_cons_zero, List.setIfInBounds_toArray, List.set_cons_zero, List.set_cons_succ]
 refine lec_takeT [6, 7, 8] (i := 2) (v := ?v2z) rfl (by kernel_rfl) (by kernel_rfl) (by kernel_rfl) (by kernel_rfl) (fun _ _ _ h => h) (.inl ⟨by rfl, ?hy2z⟩) S8 ?rest2z
 case hy2z =>
  rintro w' ⟨g0, g1, g2, g3, g4, g5, g6, g7, g8⟩
  go_simp
  all_goals with_reducible rfl
 try simp only [Act.put, List.getElem_toArray, List.getElem_cons_succ, List.getElem_cons_zero, List.setIfInBounds_toArray, List.set_cons_zero, List.set_cons_succ]
 refine lec_takeP (i := 3) (v := ?v3z) rfl (by kernel_rfl) (by kernel_rfl) (by kernel_rfl) (by kernel_rfl) (fun _ _ _ h => h) (.inl ⟨by rfl, ?hy3z⟩) S8 ?rest3z
 case hy3z =>
  rintro w' _
  go_simp
  all_goals with_reducible rfl
 try simp only [Act.put, List.getElem_toArray, List.getElem_cons_succ, List.getElem_cons_zero, List.setIfInBounds_toArray, List.set_cons_zero, List.set_cons_succ]
 refine lec_takeP (i := 4) (v := ?v4z) rfl (by kernel_rfl) (by kernel_rfl) (by kernel_rfl) (by kernel_rfl) (fun _ _ _ h => h) (.inl ⟨by rfl, ?hy4z⟩) S8 ?rest4z
 case hy4z =>
  rintro w' _
  go_simp
  all_goals with_reducible rfl
 try simp only [Act.put, List.getElem_toArray, List.getElem_cons_succ, List.getElem_cons_zero, List.setIfInBounds_toArray, List.set_cons_zero, List.set_cons_succ]
 refine lec_takeP (i := 5) (v := ?v5z) rfl (by kernel_rfl) (by kernel_rfl) (by kernel_rfl) (by kernel_rfl) (fun _ _ _ h => h) (.inl ⟨by rfl, ?hy5z⟩) S8 ?rest5z
 case hy5z =>
  rintro w' _
  go_simp
  all_goals with_reducible rfl
 try simp only [Act.put, List.getElem_toArray, List.getElem_cons_succ, List.getElem_cons_zero, List.setIfInBounds_toArray, List.set_cons_zero, List.set_cons_succ]
 refine lec_takeP (i := 6) (v := ?v6z) rfl (by kernel_rfl) (by kernel_rfl) (by kernel_rfl) (by kernel_rfl) (fun _ _ _ h => h) (.inl ⟨by rfl, ?hy6z⟩) S8 ?rest6z
 case hy6z =>
  rintro w' _
  go_simp
  all_goals with_reducible rfl
 try simp only [Act.put, List.getElem_toArray, List.getElem_cons_succ, List.getElem_cons_zero, List.setIfInBounds_toArray, List.set_cons_zero, List.set_cons_succ]
 refine lec_takeT [8] (i := 7) (v := ?v7z) rfl (by kernel_rfl) (by kernel_rfl) (by kernel_rfl) (by kernel_rfl) (fun _ _ _ h => h) (.inl ⟨by rfl, ?hy7z⟩) S8 ?rest7z
 case hy7z =>
  rintro w' ⟨g0, g1, g2, g3, g4, g5, g6, g7, g8⟩
  go_simp
  all_goals with_reducible rfl
 try simp only [Act.put, List.getElem_toArray, List.getElem_cons_succ, List.getElem_cons_zero, List.setIfInBounds_toArray, List.set_cons_zero, List.set_cons_succ]
 refine lec_one (i := 8) rfl (by kernel_rfl) ?_
 intro K8 hK8
 rw [if_pos (by rfl)]
 go_simp
 go_simp
 refine hK8 _ _ (fun h => by cases h) ?_
 clear hK8
 try simp only [Act.put, List.getElem_toArray, List.getElem_cons_succ, List.getElem_cons_zero, List.setIfInBounds_toArray, List.set_cons_zero, List.set_cons_succ]
 refine lec_done (by kernel_rfl) ?_
 clear S8
 go_upto_region 2 with fail
 have S8 : (fun w' : World => w'.cell? ⟨kb, 0, none⟩ = some (.int .i64 op) /\ w'.cell? ⟨kb, 1, none⟩ = some (.int .i64 (a : Int)) /\ w'.cell? ⟨kb, 2, none⟩ = some (.int .i64 (b : Int)) /\ w'.cell? ⟨kb, 3, none⟩ = some (.int .i64 (c : Int)) /\ w'.cell? ⟨kb, 4, none⟩ = some (.int .i64 n) /\ w'.cell? ⟨mb, 42 + a, none⟩ = some (.int .i64 xa) /\ w'.cell? ⟨mb, 42 + b, none⟩ = some (.int .i64 xb) /\ mb < w'.heap.size /\ kb < w'.heap.size) W.drew.drew := ⟨y0, y1, y2, y3, y4, ra, rb, hlW, l1⟩
 refine lec_start (S := fun w' : World => w'.cell? ⟨kb, 0, none⟩ = some (.int .i64 op) /\ w'.cell? ⟨kb, 1, none⟩ = some (.int .i64 (a : Int)) /\ w'.cell? ⟨kb, 2, none⟩ = some (.int .i64 (b : Int)) /\ w'.cell? ⟨kb, 3, none⟩ = some (.int .i64 (c : Int)) /\ w'.cell? ⟨kb, 4, none⟩ = some (.int .i64 n) /\ w'.cell? ⟨mb, 42 + a, none⟩ = some (.int .i64 xa) /\ w'.cell? ⟨mb, 42 + b, none⟩ = some (.int .i64 xb) /\ mb < w'.heap.size /\ kb < w'.heap.size) (z := 16) (by kernel_rfl) ?_
 show lec _ _ _ _ _ 17 _ _ _
 try simp only [List.size_toArray, List.length_cons, List.length_nil, Array.replicate]
 refine lec_takeP (i := 0) (v := ?v0y) rfl (by kernel_rfl) (by kernel_rfl) (by kernel_rfl) (by kernel_rfl) (fun _ _ _ h => h) (.inl ⟨by rfl, ?hy0y⟩) S8 ?rest0y
 case hy0y =>
  rintro w' _
  go_simp
  all_goals with_reducible rfl
 try simp only [Act.put, List.getElem_toArray, List.getElem_cons_succ, List.getElem_cons_zero, List.setIfInBounds_toArray, List.set_cons_zero, List.set_cons_succ]
 refine lec_takeP (i := 1) (v := ?v1y) rfl (by kernel_rfl) (by kernel_rfl) (by kernel_rfl) (by kernel_rfl) (fun _ _ _ h => h) (.inl ⟨by rfl, ?hy1y⟩) S8 ?rest1y
 case hy1y =>
  rintro w' _
  go_simp
  all_goals with_reducible rfl
 try simp only [Act.put, List.getElem_toArray, List.getElem_cons_succ, List.getElem_cons_zero, List.setIfInBounds_toArray, List.set_cons_zero, List.set_cons_succ]
 refine lec_takeP (i := 2) (v := ?v2y) rfl (by kernel_rfl) (by kernel_rfl) (by kernel_rfl) (by kernel_rfl) (fun _ _ _ h => h) (.inl ⟨by rfl, ?hy2y⟩) S8 ?rest2y
 case hy2y =>
  rintro w' _
  go_simp
  all_goals with_reducible rfl
 try simp only [Act.put, List.getElem_toArray, List.getElem_cons_succ, List.getElem_cons_zero, List.setIfInBounds_toArray, List.set_cons_zero, List.set_cons_succ]
 refine lec_takeP (i := 3) (v := ?v3y) rfl (by kernel_rfl) (by kernel_rfl) (by kernel_rfl) (by kernel_rfl) (fun _ _ _ h => h) (.inl ⟨by rfl, ?hy3y⟩) S8 ?rest3y
 case hy3y =>
  rintro w' _
  go_simp
  all_goals with_reducible rfl
 try simp only [Act.put, List.getElem_toArray, List.getElem_cons_succ, List.getElem_cons_zero, List.setIfInBounds_toArray, List.set_cons_zero, List.set_cons_succ]
 refine lec_takeP (i := 4) (v := ?v4y) rfl (by kernel_rfl) (by kernel_rfl) (by kernel_rfl) (by kernel_rfl) (fun _ _ _ h => h) (.inl ⟨by rfl, ?hy4y⟩) S8 ?rest4y
 case hy4y =>
  rintro w' _
  go_simp
  all_goals with_reducible rfl
 try simp only [Act.put, List.getElem_toArray, List.getElem_cons_succ, List.getElem_cons_zero, List.setIfInBounds_toArray, List.set_cons_zero, List.set_cons_succ]
 refine lec_takeP (i := 5) (v := ?v5y) rfl (by kernel_rfl) (by kernel_rfl) (by kernel_rfl) (by kernel_rfl) (fun _ _ _ h => h) (.inl ⟨by rfl, ?hy5y⟩) S8 ?rest5y
 case hy5y =>
  rintro w' _
  go_simp
  all_goals with_reducible rfl
 try simp only [Act.put, List.getElem_toArray, List.getElem_cons_succ, List.getElem_cons_zero, List.setIfInBounds_toArray, List.set_cons_zero, List.set_cons_succ]
 refine lec_takeP (i := 6) (v := ?v6y) rfl (by kernel_rfl) (by kernel_rfl) (by kernel_rfl) (by kernel_rfl) (fun _ _ _ h => h) (.inl ⟨by rfl, ?hy6y⟩) S8 ?rest6y
 case hy6y =>
  rintro w' _
  go_simp
  all_goals with_reducible rfl
 try simp only [Act.put, List.getElem_toArray, List.getElem_cons_succ, List.getElem_cons_zero, List.setIfInBounds_toArray, List.set_cons_zero, List.set_cons_succ]
 refine lec_takeT [11, 12, 13, 14, 16] (i := 7) (v := ?v7y) rfl (by kernel_rfl) (by kernel_rfl) (by kernel_rfl) (by kernel_rfl) (fun _ _ _ h => h) (.inl ⟨by rfl, ?hy7y⟩) S8 ?rest7y
 case hy7y =>
  rintro w' ⟨g0, g1, g2, g3, g4, g5, g6, g7, g8⟩
  go_simp
  all_goals with_reducible rfl
 try simp only [Act.put, List.getElem_toArray, List.getElem_cons_succ, List.getElem_cons_zero, List.setIfInBounds_toArray, List.set_cons_zero, List.set_cons_succ]
 refine lec_takeP (i := 8) (v := ?v8y) rfl (by kernel_rfl) (by kernel_rfl) (by kernel_rfl) (by kernel_rfl) (fun _ _ _ h => h) (.inl ⟨by rfl, ?hy8y⟩) S8 ?rest8y
 case hy8y =>
  rintro w' _
  go_simp
  all_goals with_reducible rfl
 try simp only [Act.put, List.getElem_toArray, List.getElem_cons_succ, List.getElem_cons_zero, List.setIfInBounds_toArray, List.set_cons_zero, List.set_cons_succ]
 refine lec_takeP (i := 9) (v := ?v9y) rfl (by kernel_rfl) (by kernel_rfl) (by kernel_rfl) (by kernel_rfl) (fun _ _ _ h => h) (.inl ⟨by rfl, ?hy9y⟩) S8 ?rest9y
 case hy9y =>
  rintro w' _
  go_simp
  all_goals with_reducible rfl
 try simp only [Act.put, List.getElem_toArray, List.getElem_cons_succ, List.getElem_cons_zero, List.setIfInBounds_toArray, List.set_cons_zero, List.set_cons_succ]
 refine lec_takeP (i := 10) (v := ?v10y) rfl (by kernel_rfl) (by kernel_rfl) (by kernel_rfl) (by kernel_rfl) (fun _ _ _ h => h) (.inl ⟨by rfl, ?hy10y⟩) S8 ?rest10y
 case hy10y =>
  rintro w' _
  go_simp
  all_goals with_reducible rfl
 try simp only [Act.put, List.getElem_toArray, List.getElem_cons_succ, List.getElem_cons_zero, List.setIfInBounds_toArray, List.set_cons_zero, List.set_cons_succ]
 refine lec_takeP (i := 11) (v := ?v11y) rfl (by kernel_rfl) (by kernel_rfl) (by kernel_rfl) (by kernel_rfl) (fun _ _ _ h => h) (.inl ⟨by rfl, ?hy11y⟩) S8 ?rest11y
 case hy11y =>
  rintro w' _
  go_simp
  all_goals with_reducible rfl
 try simp only [Act.put, List.getElem_toArray, List.getElem_cons_succ, List.getElem_cons_zero, List.setIfInBounds_toArray, List.set_cons_zero, List.set_cons_succ]
 refine lec_takeT [13, 14, 16] (i := 12) (v := ?v12y) rfl (by kernel_rfl) (by kernel_rfl) (by kernel_rfl) (by kernel_rfl) (fun _ _ _ h => h) (.inl ⟨by rfl, ?hy12y⟩) S8 ?rest12y
 case hy12y =>
  rintro w' ⟨g0, g1, g2, g3, g4, g5, g6, g7, g8⟩
  go_simp
  all_goals with_reducible rfl
 try simp only [Act.put, List.getElem_toArray, List.getElem_cons_succ, List.getElem_cons_zero, List.setIfInBounds_toArray, List.set_cons_zero, List.set_cons_succ]
 refine lec_takeP (i := 13) (v := ?v13y) rfl (by kernel_rfl) (by kernel_rfl) (by kernel_rfl) (by kernel_rfl) (fun _ _ _ h => h) (.inl ⟨by rfl, ?hy13y⟩) S8 ?rest13y
 case hy13y =>
  rintro w' _
  go_simp
  all_goals with_reducible rfl
 try simp only [Act.put, List.getElem_toArray, List.getElem_cons_succ, List.getElem_cons_zero, List.setIfInBounds_toArray, List.set_cons_zero, List.set_cons_succ]
 refine lec_takeP (i := 14) (v := ?v14y) rfl (by kernel_rfl) (by kernel_rfl) (by kernel_rfl) (by kernel_rfl) (fun _ _ _ h => h) (.inl ⟨by rfl, ?hy14y⟩) S8 ?rest14y
 case hy14y =>
  rintro w' _
  go_simp
  all_goals with_reducible rfl
 try simp only [Act.put, List.getElem_toArray, List.getElem_cons_succ, List.getElem_cons_zero, List.setIfInBounds_toArray, List.set_cons_zero, List.set_cons_succ]
 refine lec_takeT [16] (i := 15) (v := ?v15y) rfl (by kernel_rfl) (by kernel_rfl) (by kernel_rfl) (by kernel_rfl) (fun _ _ _ h => h) (.inl ⟨by rfl, ?hy15y⟩) S8 ?rest15y
 case hy15y =>
  rintro w' ⟨g0, g1, g2, g3, g4, g5, g6, g7, g8⟩
  go_simp
  all_goals with_reducible rfl
 try simp only [Act.put, List.getElem_toArray, List.getElem_cons_succ, List.getElem_cons_zero, List.setIfInBounds_toArray, List.set_cons_zero, List.set_cons_succ]
 refine lec_one (i := 16) rfl (by kernel_rfl) ?_
 intro K16 hK16
 rw [if_pos (by rfl)]
 go_simp
 refine Calls.mono HP.out ?_
 rintro e w2 ⟨rfl, h2⟩
 have H2 : Hid _ := h2
 clear h2
 go_simp
 refine hK16 _ _ (fun h => by cases h) ?_
 clear hK16
 try simp only [Act.put, List.getElem_toArray, List.getElem_cons_succ, List.getElem_cons_zero, List.setIfInBounds_toArray, List.set_cons_zero, List.set_cons_succ]
 refine lec_done (by kernel_rfl) ?_
 clear S8
 go_wp2_with fail
 exact bodyPost_end (v := .tuple #[]) (by simp [results, Tryz.results61, go_sem]) rfl ⟨rfl, HFO.out _ _ _ HB1.out H2.out⟩
set_option maxRecDepth 100000 in
set_option maxHeartbeats 4000000 in
theorem rTrapU2 {s d w R} (h : Rm s d w R) (op : Int) (a b c : Nat) (n : Int) (ha : a < 16) (hb : b < 16) (hq : ¬ R.rg.getD a 0 < 0) (hq2 : ¬ R.rg.getD a 0 ≥ R.rg.getD b 0) :
 Calls Tryz.prog 61 #[.pointer (some ⟨s.mb, 0, none⟩), .agg #[.int .i64 op, .int .i64 (a : Int), .int .i64 (b : Int), .int .i64 (c : Int), .int .i64 n]] w fun e w' => e = .returned (.tuple #[]) /\ ∃ d', Rm s d' w' R /\ FooR s d d' w w' := by
 obtain ⟨W, hW⟩ : ∃ W, W = w.alloc (.cells #[.int .i64 op, .int .i64 (a : Int), .int .i64 (b : Int), .int .i64 (c : Int), .int .i64 n] 71) := ⟨_, rfl⟩
 have hb1 : Below w.heap.size w W := by rw [hW]; exact below_newR w _
 have hx : W.heap[w.heap.size]? = some (.cells #[.int .i64 op, .int .i64 (a : Int), .int .i64 (b : Int), .int .i64 (c : Int), .int .i64 n] 71 (0, 0)) := by rw [hW]; exact heap_alloc_new _ _
 have l1 : w.heap.size < W.heap.size := (gl hx)
 have H := h.below hb1
 have hlt := h.lt
 have hlW := H.lt
 have hai : (a : Int) < 16 := by omega
 obtain ⟨xa, hxa⟩ : ∃ xa, xa = R.rg.getD a 0 := ⟨_, rfl⟩
 have hbi : (b : Int) < 16 := by omega
 obtain ⟨xb, hxb⟩ : ∃ xb, xb = R.rg.getD b 0 := ⟨_, rfl⟩
 have y0 : W.cell? ⟨w.heap.size, 0, none⟩ = some (.int .i64 op) := cell_arr hx rfl
 have y1 : W.cell? ⟨w.heap.size, 1, none⟩ = some (.int .i64 (a : Int)) := cell_arr hx rfl
 have y2 : W.cell? ⟨w.heap.size, 2, none⟩ = some (.int .i64 (b : Int)) := cell_arr hx rfl
 have y3 : W.cell? ⟨w.heap.size, 3, none⟩ = some (.int .i64 (c : Int)) := cell_arr hx rfl
 have y4 : W.cell? ⟨w.heap.size, 4, none⟩ = some (.int .i64 n) := cell_arr hx rfl
 have ra : W.cell? ⟨s.mb, 42 + a, none⟩ = some (.int .i64 xa) := by rw [hxa]; exact H.reg ha
 have rb : W.cell? ⟨s.mb, 42 + b, none⟩ = some (.int .i64 xb) := by rw [hxb]; exact H.reg hb
 have HSW : Hid (∀ w2, Below W.heap.size W w2 -> w2.cell? ⟨w.heap.size, 0, none⟩ = some (.int .i64 op) /\ w2.cell? ⟨w.heap.size, 1, none⟩ = some (.int .i64 (a : Int)) /\ w2.cell? ⟨w.heap.size, 2, none⟩ = some (.int .i64 (b : Int)) /\ w2.cell? ⟨w.heap.size, 3, none⟩ = some (.int .i64 (c : Int)) /\ w2.cell? ⟨w.heap.size, 4, none⟩ = some (.int .i64 n) /\ w2.cell? ⟨s.mb, 42 + a, none⟩ = some (.int .i64 xa) /\ w2.cell? ⟨s.mb, 42 + b, none⟩ = some (.int .i64 xb) /\ s.mb < w2.heap.size /\ w.heap.size < w2.heap.size) := fun w2 hb2 => by
  have q := H.below hb2
  have ex := (hb2.block _ l1).trans hx
  rw [hxa]
  rw [hxb]
  exact ⟨cell_arr ex rfl, cell_arr ex rfl, cell_arr ex rfl, cell_arr ex rfl, cell_arr ex rfl, q.reg ha, q.reg hb, q.lt, (gl ex)⟩
 have HFO : Hid (∀ W2 R2 w2, Below w.heap.size w W2 -> (∃ d', Rm s d' w2 R2 /\ FooR s d d' W2 w2) -> ∃ d', Rm s d' w2 R2 /\ FooR s d d' w w2) := fun W2 R2 w2 hb ⟨d', q1, q2⟩ => ⟨d', q1, (FooR.of_below hb).trans q2⟩
 have HB1 : Hid (Below w.heap.size w W.drew.drew) := hb1.drew.drew
 have hz1 : decide (xa < 0) = false := decide_eq_false (by rw [hxa]; exact hq)
 have hz2 : decide (xb <= xa) = false := decide_eq_false (by rw [hxa, hxb]; exact hq2)
 have HP : Hid _ := trapIf_any (H.below (Below.refl _ _).drew.drew) false op a b c n
 clear hq hq2
 obtain ⟨kb, hkb⟩ : ∃ kb, kb = w.heap.size := ⟨_, rfl⟩
 rw [<- hkb] at y0 y1 y2 y3 y4 l1 HSW
 generalize s.mb = mb at *
 clear h H hb1 hx hxa hxb
 go_enter Tryz.func61, Tryz.ntmps61
 go_upto_region 1 with fail
 rw [<- hW, <- hkb]
 clear hW hkb
 have S8 : (fun w' : World => w'.cell? ⟨kb, 0, none⟩ = some (.int .i64 op) /\ w'.cell? ⟨kb, 1, none⟩ = some (.int .i64 (a : Int)) /\ w'.cell? ⟨kb, 2, none⟩ = some (.int .i64 (b : Int)) /\ w'.cell? ⟨kb, 3, none⟩ = some (.int .i64 (c : Int)) /\ w'.cell? ⟨kb, 4, none⟩ = some (.int .i64 n) /\ w'.cell? ⟨mb, 42 + a, none⟩ = some (.int .i64 xa) /\ w'.cell? ⟨mb, 42 + b, none⟩ = some (.int .i64 xb) /\ mb < w'.heap.size /\ kb < w'.heap.size) W.drew := ⟨y0, y1, y2, y3, y4, ra, rb, hlW, l1⟩
 refine lec_start (S := fun w' : World => w'.cell? ⟨kb, 0, none⟩ = some (.int .i64 op) /\ w'.cell? ⟨kb, 1, none⟩ = some (.int .i64 (a : Int)) /\ w'.cell? ⟨kb, 2, none⟩ = some (.int .i64 (b : Int)) /\ w'.cell? ⟨kb, 3, none⟩ = some (.int .i64 (c : Int)) /\ w'.cell? ⟨kb, 4, none⟩ = some (.int .i64 n) /\ w'.cell? ⟨mb, 42 + a, none⟩ = some (.int .i64 xa) /\ w'.cell? ⟨mb, 42 + b, none⟩ = some (.int .i64 xb) /\ mb < w'.heap.size /\ kb < w'.heap.size) (z := 8) (by kernel_rfl) ?_
 show lec _ _ _ _ _ 9 _ _ _
 try simp only [List.size_toArray, List.length_cons, List.length_nil, Array.replicate]
 refine lec_takeP (i := 0) (v := ?v0z) rfl (by kernel_rfl) (by kernel_rfl) (by kernel_rfl) (by kernel_rfl) (fun _ _ _ h => h) (.inl ⟨by rfl, ?hy0z⟩) S8 ?rest0z
 case hy0z =>
  rintro w' _
  go_simp
  all_goals with_reducible rfl
 try simp only [Act.put, List.getElem_toArray, List.getElem_cons_succ, List.getElem_cons_zero, List.setIfInBounds_toArray, List.set_cons_zero, List.set_cons_succ]
 refine lec_takeP (i := 1) (v := ?v1z) rfl (by kernel_rfl) (by kernel_rfl) (by kernel_rfl) (by kernel_rfl) (fun _ _ _ h => h) (.inl ⟨by rfl, ?hy1z⟩) S8 ?rest1z
 case hy1z =>
  rintro w' _
  go_simp
  all_goals with_reducible rfl
 try simp only [Act.put, List.getElem_toArray, List.getElem_cons_succ, List.getElem_cons_zero, List.setIfInBounds_toArray, List.set_cons_zero, List.set_cons_succ]
 refine lec_takeT [6, 7, 8] (i := 2) (v := ?v2z) rfl (by kernel_rfl) (by kernel_rfl) (by kernel_rfl) (by kernel_rfl) (fun _ _ _ h => h) (.inl ⟨by rfl, ?hy2z⟩) S8 ?rest2z
 case hy2z =>
  rintro w' ⟨g0, g1, g2, g3, g4, g5, g6, g7, g8⟩
  go_simp
  all_goals with_reducible rfl
 try simp only [Act.put, List.getElem_toArray, List.getElem_cons_succ, List.getElem_cons_zero, List.setIfInBounds_toArray, List.set_cons_zero, List.set_cons_succ]
 refine lec_takeP (i := 3) (v := ?v3z) rfl (by kernel_rfl) (by kernel_rfl) (by kernel_rfl) (by kernel_rfl) (fun _ _ _ h => h) (.inl ⟨by rfl, ?hy3z⟩) S8 ?rest3z
 case hy3z =>
  rintro w' _
  go_simp
  all_goals with_reducible rfl
 try simp only [Act.put, List.getElem_toArray, List.getElem_cons_succ, List.getElem_cons_zero, List.setIfInBounds_toArray, List.set_cons_zero, List.set_cons_succ]
 refine lec_takeP (i := 4) (v := ?v4z) rfl (by kernel_rfl) (by kernel_rfl) (by kernel_rfl) (by kernel_rfl) (fun _ _ _ h => h) (.inl ⟨by rfl, ?hy4z⟩) S8 ?rest4z
 case hy4z =>
  rintro w' _
  go_simp
  all_goals with_reducible rfl
 try simp only [Act.put, List.getElem_toArray, List.getElem_cons_succ, List.getElem_cons_zero, List.setIfInBounds_toArray, List.set_cons_zero, List.set_cons_succ]
 refine lec_takeP (i := 5) (v := ?v5z) rfl (by kernel_rfl) (by kernel_rfl) (by kernel_rfl) (by kernel_rfl) (fun _ _ _ h => h) (.inl ⟨by rfl, ?hy5z⟩) S8 ?rest5z
 case hy5z =>
  rintro w' _
  go_simp
  all_goals with_reducible rfl
 try simp only [Act.put, List.getElem_toArray, List.getElem_cons_succ, List.getElem_cons_zero, List.setIfInBounds_toArray, List.set_cons_zero, List.set_cons_succ]
 refine lec_takeP (i := 6) (v := ?v6z) rfl (by kernel_rfl) (by kernel_rfl) (by kernel_rfl) (by kernel_rfl) (fun _ _ _ h => h) (.inl ⟨by rfl, ?hy6z⟩) S8 ?rest6z
 case hy6z =>
  rintro w' _
  go_simp
  all_goals with_reducible rfl
 try simp only [Act.put, List.getElem_toArray, List.getElem_cons_succ, List.getElem_cons_zero, List.setIfInBounds_toArray, List.set_cons_zero, List.set_cons_succ]
 refine lec_takeT [8] (i := 7) (v := ?v7z) rfl (by kernel_rfl) (by kernel_rfl) (by kernel_rfl) (by kernel_rfl) (fun _ _ _ h => h) (.inl ⟨by rfl, ?hy7z⟩) S8 ?rest7z
 case hy7z =>
  rintro w' ⟨g0, g1, g2, g3, g4, g5, g6, g7, g8⟩
  go_simp
  all_goals with_reducible rfl
 try simp only [Act.put, List.getElem_toArray, List.getElem_cons_succ, List.getElem_cons_zero, List.setIfInBounds_toArray, List.set_cons_zero, List.set_cons_succ]
 refine lec_one (i := 8) rfl (by kernel_rfl) ?_
 intro K8 hK8
 rw [if_pos (by rfl)]
 go_simp
 go_simp
 refine hK8 _ _ (fun h => by cases h) ?_
 clear hK8
 try simp only [Act.put, List.getElem_toArray, List.getElem_cons_succ, List.getElem_cons_zero, List.setIfInBounds_toArray, List.set_cons_zero, List.set_cons_succ]
 refine lec_done (by kernel_rfl) ?_
 clear S8
 go_upto_region 2 with fail
 have S8 : (fun w' : World => w'.cell? ⟨kb, 0, none⟩ = some (.int .i64 op) /\ w'.cell? ⟨kb, 1, none⟩ = some (.int .i64 (a : Int)) /\ w'.cell? ⟨kb, 2, none⟩ = some (.int .i64 (b : Int)) /\ w'.cell? ⟨kb, 3, none⟩ = some (.int .i64 (c : Int)) /\ w'.cell? ⟨kb, 4, none⟩ = some (.int .i64 n) /\ w'.cell? ⟨mb, 42 + a, none⟩ = some (.int .i64 xa) /\ w'.cell? ⟨mb, 42 + b, none⟩ = some (.int .i64 xb) /\ mb < w'.heap.size /\ kb < w'.heap.size) W.drew.drew := ⟨y0, y1, y2, y3, y4, ra, rb, hlW, l1⟩
 refine lec_start (S := fun w' : World => w'.cell? ⟨kb, 0, none⟩ = some (.int .i64 op) /\ w'.cell? ⟨kb, 1, none⟩ = some (.int .i64 (a : Int)) /\ w'.cell? ⟨kb, 2, none⟩ = some (.int .i64 (b : Int)) /\ w'.cell? ⟨kb, 3, none⟩ = some (.int .i64 (c : Int)) /\ w'.cell? ⟨kb, 4, none⟩ = some (.int .i64 n) /\ w'.cell? ⟨mb, 42 + a, none⟩ = some (.int .i64 xa) /\ w'.cell? ⟨mb, 42 + b, none⟩ = some (.int .i64 xb) /\ mb < w'.heap.size /\ kb < w'.heap.size) (z := 16) (by kernel_rfl) ?_
 show lec _ _ _ _ _ 17 _ _ _
 try simp only [List.size_toArray, List.length_cons, List.length_nil, Array.replicate]
 refine lec_takeP (i := 0) (v := ?v0y) rfl (by kernel_rfl) (by kernel_rfl) (by kernel_rfl) (by kernel_rfl) (fun _ _ _ h => h) (.inl ⟨by rfl, ?hy0y⟩) S8 ?rest0y
 case hy0y =>
  rintro w' _
  go_simp
  all_goals with_reducible rfl
 try simp only [Act.put, List.getElem_toArray, List.getElem_cons_succ, List.getElem_cons_zero, List.setIfInBounds_toArray, List.set_cons_zero, List.set_cons_succ]
 refine lec_takeP (i := 1) (v := ?v1y) rfl (by kernel_rfl) (by kernel_rfl) (by kernel_rfl) (by kernel_rfl) (fun _ _ _ h => h) (.inl ⟨by rfl, ?hy1y⟩) S8 ?rest1y
 case hy1y =>
  rintro w' _
  go_simp
  all_goals with_reducible rfl
 try simp only [Act.put, List.getElem_toArray, List.getElem_cons_succ, List.getElem_cons_zero, List.setIfInBounds_toArray, List.set_cons_zero, List.set_cons_succ]
 refine lec_takeP (i := 2) (v := ?v2y) rfl (by kernel_rfl) (by kernel_rfl) (by kernel_rfl) (by kernel_rfl) (fun _ _ _ h => h) (.inl ⟨by rfl, ?hy2y⟩) S8 ?rest2y
 case hy2y =>
  rintro w' _
  go_simp
  all_goals with_reducible rfl
 try simp only [Act.put, List.getElem_toArray, List.getElem_cons_succ, List.getElem_cons_zero, List.setIfInBounds_toArray, List.set_cons_zero, List.set_cons_succ]
 refine lec_takeP (i := 3) (v := ?v3y) rfl (by kernel_rfl) (by kernel_rfl) (by kernel_rfl) (by kernel_rfl) (fun _ _ _ h => h) (.inl ⟨by rfl, ?hy3y⟩) S8 ?rest3y
 case hy3y =>
  rintro w' _
  go_simp
  all_goals with_reducible rfl
 try simp only [Act.put, List.getElem_toArray, List.getElem_cons_succ, List.getElem_cons_zero, List.setIfInBounds_toArray, List.set_cons_zero, List.set_cons_succ]
 refine lec_takeP (i := 4) (v := ?v4y) rfl (by kernel_rfl) (by kernel_rfl) (by kernel_rfl) (by kernel_rfl) (fun _ _ _ h => h) (.inl ⟨by rfl, ?hy4y⟩) S8 ?rest4y
 case hy4y =>
  rintro w' _
  go_simp
  all_goals with_reducible rfl
 try simp only [Act.put, List.getElem_toArray, List.getElem_cons_succ, List.getElem_cons_zero, List.setIfInBounds_toArray, List.set_cons_zero, List.set_cons_succ]
 refine lec_takeP (i := 5) (v := ?v5y) rfl (by kernel_rfl) (by kernel_rfl) (by kernel_rfl) (by kernel_rfl) (fun _ _ _ h => h) (.inl ⟨by rfl, ?hy5y⟩) S8 ?rest5y
 case hy5y =>
  rintro w' _
  go_simp
  all_goals with_reducible rfl
 try simp only [Act.put, List.getElem_toArray, List.getElem_cons_succ, List.getElem_cons_zero, List.setIfInBounds_toArray, List.set_cons_zero, List.set_cons_succ]
 refine lec_takeP (i := 6) (v := ?v6y) rfl (by kernel_rfl) (by kernel_rfl) (by kernel_rfl) (by kernel_rfl) (fun _ _ _ h => h) (.inl ⟨by rfl, ?hy6y⟩) S8 ?rest6y
 case hy6y =>
  rintro w' _
  go_simp
  all_goals with_reducible rfl
 try simp only [Act.put, List.getElem_toArray, List.getElem_cons_succ, List.getElem_cons_zero, List.setIfInBounds_toArray, List.set_cons_zero, List.set_cons_succ]
 refine lec_takeT [11, 12, 13, 14, 16] (i := 7) (v := ?v7y) rfl (by kernel_rfl) (by kernel_rfl) (by kernel_rfl) (by kernel_rfl) (fun _ _ _ h => h) (.inl ⟨by rfl, ?hy7y⟩) S8 ?rest7y
 case hy7y =>
  rintro w' ⟨g0, g1, g2, g3, g4, g5, g6, g7, g8⟩
  go_simp
  all_goals with_reducible rfl
 try simp only [Act.put, List.getElem_toArray, List.getElem_cons_succ, List.getElem_cons_zero, List.setIfInBounds_toArray, List.set_cons_zero, List.set_cons_succ]
 refine lec_takeP (i := 8) (v := ?v8y) rfl (by kernel_rfl) (by kernel_rfl) (by kernel_rfl) (by kernel_rfl) (fun _ _ _ h => h) (.inl ⟨by rfl, ?hy8y⟩) S8 ?rest8y
 case hy8y =>
  rintro w' _
  go_simp
  all_goals with_reducible rfl
 try simp only [Act.put, List.getElem_toArray, List.getElem_cons_succ, List.getElem_cons_zero, List.setIfInBounds_toArray, List.set_cons_zero, List.set_cons_succ]
 refine lec_takeP (i := 9) (v := ?v9y) rfl (by kernel_rfl) (by kernel_rfl) (by kernel_rfl) (by kernel_rfl) (fun _ _ _ h => h) (.inl ⟨by rfl, ?hy9y⟩) S8 ?rest9y
 case hy9y =>
  rintro w' _
  go_simp
  all_goals with_reducible rfl
 try simp only [Act.put, List.getElem_toArray, List.getElem_cons_succ, List.getElem_cons_zero, List.setIfInBounds_toArray, List.set_cons_zero, List.set_cons_succ]
 refine lec_takeP (i := 10) (v := ?v10y) rfl (by kernel_rfl) (by kernel_rfl) (by kernel_rfl) (by kernel_rfl) (fun _ _ _ h => h) (.inl ⟨by rfl, ?hy10y⟩) S8 ?rest10y
 case hy10y =>
  rintro w' _
  go_simp
  all_goals with_reducible rfl
 try simp only [Act.put, List.getElem_toArray, List.getElem_cons_succ, List.getElem_cons_zero, List.setIfInBounds_toArray, List.set_cons_zero, List.set_cons_succ]
 refine lec_takeP (i := 11) (v := ?v11y) rfl (by kernel_rfl) (by kernel_rfl) (by kernel_rfl) (by kernel_rfl) (fun _ _ _ h => h) (.inl ⟨by rfl, ?hy11y⟩) S8 ?rest11y
 case hy11y =>
  rintro w' _
  go_simp
  all_goals with_reducible rfl
 try simp only [Act.put, List.getElem_toArray, List.getElem_cons_succ, List.getElem_cons_zero, List.setIfInBounds_toArray, List.set_cons_zero, List.set_cons_succ]
 refine lec_takeT [13, 14, 16] (i := 12) (v := ?v12y) rfl (by kernel_rfl) (by kernel_rfl) (by kernel_rfl) (by kernel_rfl) (fun _ _ _ h => h) (.inl ⟨by rfl, ?hy12y⟩) S8 ?rest12y
 case hy12y =>
  rintro w' ⟨g0, g1, g2, g3, g4, g5, g6, g7, g8⟩
  go_simp
  all_goals with_reducible rfl
 try simp only [Act.put, List.getElem_toArray, List.getElem_cons_succ, List.getElem_cons_zero, List.setIfInBounds_toArray, List.set_cons_zero, List.set_cons_succ]
 refine lec_takeP (i := 13) (v := ?v13y) rfl (by kernel_rfl) (by kernel_rfl) (by kernel_rfl) (by kernel_rfl) (fun _ _ _ h => h) (.inl ⟨by rfl, ?hy13y⟩) S8 ?rest13y
 case hy13y =>
  rintro w' _
  go_simp
  all_goals with_reducible rfl
 try simp only [Act.put, List.getElem_toArray, List.getElem_cons_succ, List.getElem_cons_zero, List.setIfInBounds_toArray, List.set_cons_zero, List.set_cons_succ]
 refine lec_takeP (i := 14) (v := ?v14y) rfl (by kernel_rfl) (by kernel_rfl) (by kernel_rfl) (by kernel_rfl) (fun _ _ _ h => h) (.inl ⟨by rfl, ?hy14y⟩) S8 ?rest14y
 case hy14y =>
  rintro w' _
  go_simp
  all_goals with_reducible rfl
 try simp only [Act.put, List.getElem_toArray, List.getElem_cons_succ, List.getElem_cons_zero, List.setIfInBounds_toArray, List.set_cons_zero, List.set_cons_succ]
 refine lec_takeT [16] (i := 15) (v := ?v15y) rfl (by kernel_rfl) (by kernel_rfl) (by kernel_rfl) (by kernel_rfl) (fun _ _ _ h => h) (.inl ⟨by rfl, ?hy15y⟩) S8 ?rest15y
 case hy15y =>
  rintro w' ⟨g0, g1, g2, g3, g4, g5, g6, g7, g8⟩
  go_simp
  all_goals with_reducible rfl
 try simp only [Act.put, List.getElem_toArray, List.getElem_cons_succ, List.getElem_cons_zero, List.setIfInBounds_toArray, List.set_cons_zero, List.set_cons_succ]
 refine lec_one (i := 16) rfl (by kernel_rfl) ?_
 intro K16 hK16
 rw [if_pos (by rfl)]
 go_simp
 refine Calls.mono HP.out ?_
 rintro e w2 ⟨rfl, h2⟩
 have H2 : Hid _ := h2
 clear h2
 go_simp
 refine hK16 _ _ (fun h => by cases h) ?_
 clear hK16
 try simp only [Act.put, List.getElem_toArray, List.getElem_cons_succ, List.getElem_cons_zero, List.setIfInBounds_toArray, List.set_cons_zero, List.set_cons_succ]
 refine lec_done (by kernel_rfl) ?_
 clear S8
 go_wp2_with fail
 exact bodyPost_end (v := .tuple #[]) (by simp [results, Tryz.results61, go_sem]) rfl ⟨rfl, HFO.out _ _ _ HB1.out H2.out⟩
set_option maxRecDepth 100000 in
set_option maxHeartbeats 4000000 in
theorem rTrap0 {s d w R} (h : Rm s d w R) (op : Int) (a b c : Nat) (ha : a < 16) :
 Calls Tryz.prog 62 #[.pointer (some ⟨s.mb, 0, none⟩), .agg #[.int .i64 op, .int .i64 (a : Int), .int .i64 (b : Int), .int .i64 (c : Int), .int .i64 6]] w fun e w' => e = .returned (.tuple #[]) /\ ∃ d', Rm s d' w' (R.panic 6 (R.rg.getD a 0)) /\ FooR s d d' w w' := by
 obtain ⟨W, hW⟩ : ∃ W, W = w.alloc (.cells #[.int .i64 op, .int .i64 (a : Int), .int .i64 (b : Int), .int .i64 (c : Int), .int .i64 6] 71) := ⟨_, rfl⟩
 have hb1 : Below w.heap.size w W := by rw [hW]; exact below_newR w _
 have hx : W.heap[w.heap.size]? = some (.cells #[.int .i64 op, .int .i64 (a : Int), .int .i64 (b : Int), .int .i64 (c : Int), .int .i64 6] 71 (0, 0)) := by rw [hW]; exact heap_alloc_new _ _
 have l1 : w.heap.size < W.heap.size := (gl hx)
 have H := h.below hb1
 have hlt := h.lt
 have hlW := H.lt
 have hai : (a : Int) < 16 := by omega
 obtain ⟨xa, hxa⟩ : ∃ xa, xa = R.rg.getD a 0 := ⟨_, rfl⟩
 have y0 : W.cell? ⟨w.heap.size, 0, none⟩ = some (.int .i64 op) := cell_arr hx rfl
 have y1 : W.cell? ⟨w.heap.size, 1, none⟩ = some (.int .i64 (a : Int)) := cell_arr hx rfl
 have y2 : W.cell? ⟨w.heap.size, 2, none⟩ = some (.int .i64 (b : Int)) := cell_arr hx rfl
 have y3 : W.cell? ⟨w.heap.size, 3, none⟩ = some (.int .i64 (c : Int)) := cell_arr hx rfl
 have y4 : W.cell? ⟨w.heap.size, 4, none⟩ = some (.int .i64 6) := cell_arr hx rfl
 have ra : W.cell? ⟨s.mb, 42 + a, none⟩ = some (.int .i64 xa) := by rw [hxa]; exact H.reg ha
 have HSW : Hid (∀ w2, Below W.heap.size W w2 -> w2.cell? ⟨w.heap.size, 0, none⟩ = some (.int .i64 op) /\ w2.cell? ⟨w.heap.size, 1, none⟩ = some (.int .i64 (a : Int)) /\ w2.cell? ⟨w.heap.size, 2, none⟩ = some (.int .i64 (b : Int)) /\ w2.cell? ⟨w.heap.size, 3, none⟩ = some (.int .i64 (c : Int)) /\ w2.cell? ⟨w.heap.size, 4, none⟩ = some (.int .i64 6) /\ w2.cell? ⟨s.mb, 42 + a, none⟩ = some (.int .i64 xa) /\ s.mb < w2.heap.size /\ w.heap.size < w2.heap.size) := fun w2 hb2 => by
  have q := H.below hb2
  have ex := (hb2.block _ l1).trans hx
  rw [hxa]
  exact ⟨cell_arr ex rfl, cell_arr ex rfl, cell_arr ex rfl, cell_arr ex rfl, cell_arr ex rfl, q.reg ha, q.lt, (gl ex)⟩
 have HFO : Hid (∀ W2 R2 w2, Below w.heap.size w W2 -> (∃ d', Rm s d' w2 R2 /\ FooR s d d' W2 w2) -> ∃ d', Rm s d' w2 R2 /\ FooR s d d' w w2) := fun W2 R2 w2 hb ⟨d', q1, q2⟩ => ⟨d', q1, (FooR.of_below hb).trans q2⟩
 have HB1 : Hid (Below w.heap.size w W.drew.drew) := hb1.drew.drew
 have HP : Hid _ := mPanicR (H.below (Below.refl _ _).drew.drew) 6 (xa)
 rw [<- hxa]
 obtain ⟨kb, hkb⟩ : ∃ kb, kb = w.heap.size := ⟨_, rfl⟩
 rw [<- hkb] at y0 y1 y2 y3 y4 l1 HSW
 generalize s.mb = mb at *
 clear h H hb1 hx hxa
 go_enter Tryz.func62, Tryz.ntmps62
 go_upto_region 1 with fail
 rw [<- hW, <- hkb]
 clear hW hkb
 go_upto_region 3 with fail
 have S8 : (fun w' : World => w'.cell? ⟨kb, 0, none⟩ = some (.int .i64 op) /\ w'.cell? ⟨kb, 1, none⟩ = some (.int .i64 (a : Int)) /\ w'.cell? ⟨kb, 2, none⟩ = some (.int .i64 (b : Int)) /\ w'.cell? ⟨kb, 3, none⟩ = some (.int .i64 (c : Int)) /\ w'.cell? ⟨kb, 4, none⟩ = some (.int .i64 6) /\ w'.cell? ⟨mb, 42 + a, none⟩ = some (.int .i64 xa) /\ mb < w'.heap.size /\ kb < w'.heap.size) W.drew := ⟨y0, y1, y2, y3, y4, ra, hlW, l1⟩
 refine lec_start (S := fun w' : World => w'.cell? ⟨kb, 0, none⟩ = some (.int .i64 op) /\ w'.cell? ⟨kb, 1, none⟩ = some (.int .i64 (a : Int)) /\ w'.cell? ⟨kb, 2, none⟩ = some (.int .i64 (b : Int)) /\ w'.cell? ⟨kb, 3, none⟩ = some (.int .i64 (c : Int)) /\ w'.cell? ⟨kb, 4, none⟩ = some (.int .i64 6) /\ w'.cell? ⟨mb, 42 + a, none⟩ = some (.int .i64 xa) /\ mb < w'.heap.size /\ kb < w'.heap.size) (z := 8) (by kernel_rfl) ?_
 show lec _ _ _ _ _ 9 _ _ _
 try simp only [List.size_toArray, List.length_cons, List.length_nil, Array.replicate]
 refine lec_takeP (i := 0) (v := ?v0z) rfl (by kernel_rfl) (by kernel_rfl) (by kernel_rfl) (by kernel_rfl) (fun _ _ _ h => h) (.inl ⟨by rfl, ?hy0z⟩) S8 ?rest0z
 case hy0z =>
  rintro w' _
  go_simp
  all_goals with_reducible rfl
 try simp only [Act.put, List.getElem_toArray, List.getElem_cons_succ, List.getElem_cons_zero, List.setIfInBounds_toArray, List.set_cons_zero, List.set_cons_succ]
 refine lec_takeP (i := 1) (v := ?v1z) rfl (by kernel_rfl) (by kernel_rfl) (by kernel_rfl) (by kernel_rfl) (fun _ _ _ h => h) (.inl ⟨by rfl, ?hy1z⟩) S8 ?rest1z
 case hy1z =>
  rintro w' _
  go_simp
  all_goals with_reducible rfl
 try simp only [Act.put, List.getElem_toArray, List.getElem_cons_succ, List.getElem_cons_zero, List.setIfInBounds_toArray, List.set_cons_zero, List.set_cons_succ]
 refine lec_takeT [6, 7, 8] (i := 2) (v := ?v2z) rfl (by kernel_rfl) (by kernel_rfl) (by kernel_rfl) (by kernel_rfl) (fun _ _ _ h => h) (.inl ⟨by rfl, ?hy2z⟩) S8 ?rest2z
 case hy2z =>
  rintro w' ⟨g0, g1, g2, g3, g4, g5, g6, g7⟩
  go_simp
  all_goals with_reducible rfl
 try simp only [Act.put, List.getElem_toArray, List.getElem_cons_succ, List.getElem_cons_zero, List.setIfInBounds_toArray, List.set_cons_zero, List.set_cons_succ]
 refine lec_takeP (i := 3) (v := ?v3z) rfl (by kernel_rfl) (by kernel_rfl) (by kernel_rfl) (by kernel_rfl) (fun _ _ _ h => h) (.inl ⟨by rfl, ?hy3z⟩) S8 ?rest3z
 case hy3z =>
  rintro w' _
  go_simp
  all_goals with_reducible rfl
 try simp only [Act.put, List.getElem_toArray, List.getElem_cons_succ, List.getElem_cons_zero, List.setIfInBounds_toArray, List.set_cons_zero, List.set_cons_succ]
 refine lec_takeP (i := 4) (v := ?v4z) rfl (by kernel_rfl) (by kernel_rfl) (by kernel_rfl) (by kernel_rfl) (fun _ _ _ h => h) (.inl ⟨by rfl, ?hy4z⟩) S8 ?rest4z
 case hy4z =>
  rintro w' _
  go_simp
  all_goals with_reducible rfl
 try simp only [Act.put, List.getElem_toArray, List.getElem_cons_succ, List.getElem_cons_zero, List.setIfInBounds_toArray, List.set_cons_zero, List.set_cons_succ]
 refine lec_takeP (i := 5) (v := ?v5z) rfl (by kernel_rfl) (by kernel_rfl) (by kernel_rfl) (by kernel_rfl) (fun _ _ _ h => h) (.inl ⟨by rfl, ?hy5z⟩) S8 ?rest5z
 case hy5z =>
  rintro w' _
  go_simp
  all_goals with_reducible rfl
 try simp only [Act.put, List.getElem_toArray, List.getElem_cons_succ, List.getElem_cons_zero, List.setIfInBounds_toArray, List.set_cons_zero, List.set_cons_succ]
 refine lec_takeP (i := 6) (v := ?v6z) rfl (by kernel_rfl) (by kernel_rfl) (by kernel_rfl) (by kernel_rfl) (fun _ _ _ h => h) (.inl ⟨by rfl, ?hy6z⟩) S8 ?rest6z
 case hy6z =>
  rintro w' _
  go_simp
  all_goals with_reducible rfl
 try simp only [Act.put, List.getElem_toArray, List.getElem_cons_succ, List.getElem_cons_zero, List.setIfInBounds_toArray, List.set_cons_zero, List.set_cons_succ]
 refine lec_takeT [8] (i := 7) (v := ?v7z) rfl (by kernel_rfl) (by kernel_rfl) (by kernel_rfl) (by kernel_rfl) (fun _ _ _ h => h) (.inl ⟨by rfl, ?hy7z⟩) S8 ?rest7z
 case hy7z =>
  rintro w' ⟨g0, g1, g2, g3, g4, g5, g6, g7⟩
  go_simp
  all_goals with_reducible rfl
 try simp only [Act.put, List.getElem_toArray, List.getElem_cons_succ, List.getElem_cons_zero, List.setIfInBounds_toArray, List.set_cons_zero, List.set_cons_succ]
 refine lec_one (i := 8) rfl (by kernel_rfl) ?_
 intro K8 hK8
 rw [if_pos (by rfl)]
 go_simp
 go_simp
 refine hK8 _ _ (fun h => by cases h) ?_
 clear hK8
 try simp only [Act.put, List.getElem_toArray, List.getElem_cons_succ, List.getElem_cons_zero, List.setIfInBounds_toArray, List.set_cons_zero, List.set_cons_succ]
 refine lec_done (by kernel_rfl) ?_
 clear S8
 go_upto_region 4 with fail
 have S8 : (fun w' : World => w'.cell? ⟨kb, 0, none⟩ = some (.int .i64 op) /\ w'.cell? ⟨kb, 1, none⟩ = some (.int .i64 (a : Int)) /\ w'.cell? ⟨kb, 2, none⟩ = some (.int .i64 (b : Int)) /\ w'.cell? ⟨kb, 3, none⟩ = some (.int .i64 (c : Int)) /\ w'.cell? ⟨kb, 4, none⟩ = some (.int .i64 6) /\ w'.cell? ⟨mb, 42 + a, none⟩ = some (.int .i64 xa) /\ mb < w'.heap.size /\ kb < w'.heap.size) W.drew.drew := ⟨y0, y1, y2, y3, y4, ra, hlW, l1⟩
 refine lec_start (S := fun w' : World => w'.cell? ⟨kb, 0, none⟩ = some (.int .i64 op) /\ w'.cell? ⟨kb, 1, none⟩ = some (.int .i64 (a : Int)) /\ w'.cell? ⟨kb, 2, none⟩ = some (.int .i64 (b : Int)) /\ w'.cell? ⟨kb, 3, none⟩ = some (.int .i64 (c : Int)) /\ w'.cell? ⟨kb, 4, none⟩ = some (.int .i64 6) /\ w'.cell? ⟨mb, 42 + a, none⟩ = some (.int .i64 xa) /\ mb < w'.heap.size /\ kb < w'.heap.size) (z := 6) (by kernel_rfl) ?_
 show lec _ _ _ _ _ 7 _ _ _
 try simp only [List.size_toArray, List.length_cons, List.length_nil, Array.replicate]
 refine lec_takeP (i := 0) (v := ?v0y) rfl (by kernel_rfl) (by kernel_rfl) (by kernel_rfl) (by kernel_rfl) (fun _ _ _ h => h) (.inl ⟨by rfl, ?hy0y⟩) S8 ?rest0y
 case hy0y =>
  rintro w' _
  go_simp
  all_goals with_reducible rfl
 try simp only [Act.put, List.getElem_toArray, List.getElem_cons_succ, List.getElem_cons_zero, List.setIfInBounds_toArray, List.set_cons_zero, List.set_cons_succ]
 refine lec_takeP (i := 1) (v := ?v1y) rfl (by kernel_rfl) (by kernel_rfl) (by kernel_rfl) (by kernel_rfl) (fun _ _ _ h => h) (.inl ⟨by rfl, ?hy1y⟩) S8 ?rest1y
 case hy1y =>
  rintro w' _
  go_simp
  all_goals with_reducible rfl
 try simp only [Act.put, List.getElem_toArray, List.getElem_cons_succ, List.getElem_cons_zero, List.setIfInBounds_toArray, List.set_cons_zero, List.set_cons_succ]
 refine lec_takeP (i := 2) (v := ?v2y) rfl (by kernel_rfl) (by kernel_rfl) (by kernel_rfl) (by kernel_rfl) (fun _ _ _ h => h) (.inl ⟨by rfl, ?hy2y⟩) S8 ?rest2y
 case hy2y =>
  rintro w' _
  go_simp
  all_goals with_reducible rfl
 try simp only [Act.put, List.getElem_toArray, List.getElem_cons_succ, List.getElem_cons_zero, List.setIfInBounds_toArray, List.set_cons_zero, List.set_cons_succ]
 refine lec_takeP (i := 3) (v := ?v3y) rfl (by kernel_rfl) (by kernel_rfl) (by kernel_rfl) (by kernel_rfl) (fun _ _ _ h => h) (.inl ⟨by rfl, ?hy3y⟩) S8 ?rest3y
 case hy3y =>
  rintro w' _
  go_simp
  all_goals with_reducible rfl
 try simp only [Act.put, List.getElem_toArray, List.getElem_cons_succ, List.getElem_cons_zero, List.setIfInBounds_toArray, List.set_cons_zero, List.set_cons_succ]
 refine lec_takeT [6] (i := 4) (v := ?v4y) rfl (by kernel_rfl) (by kernel_rfl) (by kernel_rfl) (by kernel_rfl) (fun _ _ _ h => h) (.inl ⟨by rfl, ?hy4y⟩) S8 ?rest4y
 case hy4y =>
  rintro w' ⟨g0, g1, g2, g3, g4, g5, g6, g7⟩
  go_simp
  all_goals with_reducible rfl
 try simp only [Act.put, List.getElem_toArray, List.getElem_cons_succ, List.getElem_cons_zero, List.setIfInBounds_toArray, List.set_cons_zero, List.set_cons_succ]
 refine lec_takeP (i := 5) (v := ?v5y) rfl (by kernel_rfl) (by kernel_rfl) (by kernel_rfl) (by kernel_rfl) (fun _ _ _ h => h) (.inl ⟨by rfl, ?hy5y⟩) S8 ?rest5y
 case hy5y =>
  rintro w' _
  go_simp
  all_goals with_reducible rfl
 try simp only [Act.put, List.getElem_toArray, List.getElem_cons_succ, List.getElem_cons_zero, List.setIfInBounds_toArray, List.set_cons_zero, List.set_cons_succ]
 refine lec_one (i := 6) rfl (by kernel_rfl) ?_
 intro K6 hK6
 rw [if_pos (by rfl)]
 go_simp
 refine Calls.mono HP.out ?_
 rintro e w2 ⟨rfl, h2⟩
 have H2 : Hid _ := h2
 clear h2
 go_simp
 refine hK6 _ _ (fun h => by cases h) ?_
 clear hK6
 try simp only [Act.put, List.getElem_toArray, List.getElem_cons_succ, List.getElem_cons_zero, List.setIfInBounds_toArray, List.set_cons_zero, List.set_cons_succ]
 refine lec_done (by kernel_rfl) ?_
 clear S8
 go_wp2_with fail
 exact bodyPost_end (v := .tuple #[]) (by simp [results, Tryz.results62, go_sem]) rfl ⟨rfl, HFO.out _ _ _ HB1.out H2.out⟩
set_option maxRecDepth 100000 in
set_option maxHeartbeats 4000000 in
theorem rTrap1 {s d w R} (h : Rm s d w R) (op : Int) (a b c : Nat) (n : Int) (ha : a < 16) (hq : ¬ n = 6) :
 Calls Tryz.prog 62 #[.pointer (some ⟨s.mb, 0, none⟩), .agg #[.int .i64 op, .int .i64 (a : Int), .int .i64 (b : Int), .int .i64 (c : Int), .int .i64 n]] w fun e w' => e = .returned (.tuple #[]) /\ ∃ d', Rm s d' w' (R.panic n (0)) /\ FooR s d d' w w' := by
 obtain ⟨W, hW⟩ : ∃ W, W = w.alloc (.cells #[.int .i64 op, .int .i64 (a : Int), .int .i64 (b : Int), .int .i64 (c : Int), .int .i64 n] 71) := ⟨_, rfl⟩
 have hb1 : Below w.heap.size w W := by rw [hW]; exact below_newR w _
 have hx : W.heap[w.heap.size]? = some (.cells #[.int .i64 op, .int .i64 (a : Int), .int .i64 (b : Int), .int .i64 (c : Int), .int .i64 n] 71 (0, 0)) := by rw [hW]; exact heap_alloc_new _ _
 have l1 : w.heap.size < W.heap.size := (gl hx)
 have H := h.below hb1
 have hlt := h.lt
 have hlW := H.lt
 have hai : (a : Int) < 16 := by omega
 obtain ⟨xa, hxa⟩ : ∃ xa, xa = R.rg.getD a 0 := ⟨_, rfl⟩
 have y0 : W.cell? ⟨w.heap.size, 0, none⟩ = some (.int .i64 op) := cell_arr hx rfl
 have y1 : W.cell? ⟨w.heap.size, 1, none⟩ = some (.int .i64 (a : Int)) := cell_arr hx rfl
 have y2 : W.cell? ⟨w.heap.size, 2, none⟩ = some (.int .i64 (b : Int)) := cell_arr hx rfl
 have y3 : W.cell? ⟨w.heap.size, 3, none⟩ = some (.int .i64 (c : Int)) := cell_arr hx rfl
 have y4 : W.cell? ⟨w.heap.size, 4, none⟩ = some (.int .i64 n) := cell_arr hx rfl
 have ra : W.cell? ⟨s.mb, 42 + a, none⟩ = some (.int .i64 xa) := by rw [hxa]; exact H.reg ha
 have HSW : Hid (∀ w2, Below W.heap.size W w2 -> w2.cell? ⟨w.heap.size, 0, none⟩ = some (.int .i64 op) /\ w2.cell? ⟨w.heap.size, 1, none⟩ = some (.int .i64 (a : Int)) /\ w2.cell? ⟨w.heap.size, 2, none⟩ = some (.int .i64 (b : Int)) /\ w2.cell? ⟨w.heap.size, 3, none⟩ = some (.int .i64 (c : Int)) /\ w2.cell? ⟨w.heap.size, 4, none⟩ = some (.int .i64 n) /\ w2.cell? ⟨s.mb, 42 + a, none⟩ = some (.int .i64 xa) /\ s.mb < w2.heap.size /\ w.heap.size < w2.heap.size) := fun w2 hb2 => by
  have q := H.below hb2
  have ex := (hb2.block _ l1).trans hx
  rw [hxa]
  exact ⟨cell_arr ex rfl, cell_arr ex rfl, cell_arr ex rfl, cell_arr ex rfl, cell_arr ex rfl, q.reg ha, q.lt, (gl ex)⟩
 have HFO : Hid (∀ W2 R2 w2, Below w.heap.size w W2 -> (∃ d', Rm s d' w2 R2 /\ FooR s d d' W2 w2) -> ∃ d', Rm s d' w2 R2 /\ FooR s d d' w w2) := fun W2 R2 w2 hb ⟨d', q1, q2⟩ => ⟨d', q1, (FooR.of_below hb).trans q2⟩
 have HB1 : Hid (Below w.heap.size w W.drew) := hb1.drew
 have hz : (n == 6) = false := beq_eq_false_iff_ne.2 hq
 have HP : Hid _ := mPanicR (H.below (Below.refl _ _).drew) n (0)
 clear hq
 obtain ⟨kb, hkb⟩ : ∃ kb, kb = w.heap.size := ⟨_, rfl⟩
 rw [<- hkb] at y0 y1 y2 y3 y4 l1 HSW
 generalize s.mb = mb at *
 clear h H hb1 hx hxa
 go_enter Tryz.func62, Tryz.ntmps62
 go_upto_region 1 with fail
 rw [<- hW, <- hkb]
 clear hW hkb
 go_upto_region 4 with fail
 have S8 : (fun w' : World => w'.cell? ⟨kb, 0, none⟩ = some (.int .i64 op) /\ w'.cell? ⟨kb, 1, none⟩ = some (.int .i64 (a : Int)) /\ w'.cell? ⟨kb, 2, none⟩ = some (.int .i64 (b : Int)) /\ w'.cell? ⟨kb, 3, none⟩ = some (.int .i64 (c : Int)) /\ w'.cell? ⟨kb, 4, none⟩ = some (.int .i64 n) /\ w'.cell? ⟨mb, 42 + a, none⟩ = some (.int .i64 xa) /\ mb < w'.heap.size /\ kb < w'.heap.size) W.drew := ⟨y0, y1, y2, y3, y4, ra, hlW, l1⟩
 refine lec_start (S := fun w' : World => w'.cell? ⟨kb, 0, none⟩ = some (.int .i64 op) /\ w'.cell? ⟨kb, 1, none⟩ = some (.int .i64 (a : Int)) /\ w'.cell? ⟨kb, 2, none⟩ = some (.int .i64 (b : Int)) /\ w'.cell? ⟨kb, 3, none⟩ = some (.int .i64 (c : Int)) /\ w'.cell? ⟨kb, 4, none⟩ = some (.int .i64 n) /\ w'.cell? ⟨mb, 42 + a, none⟩ = some (.int .i64 xa) /\ mb < w'.heap.size /\ kb < w'.heap.size) (z := 6) (by kernel_rfl) ?_
 show lec _ _ _ _ _ 7 _ _ _
 try simp only [List.size_toArray, List.length_cons, List.length_nil, Array.replicate]
 refine lec_takeP (i := 0) (v := ?v0y) rfl (by kernel_rfl) (by kernel_rfl) (by kernel_rfl) (by kernel_rfl) (fun _ _ _ h => h) (.inl ⟨by rfl, ?hy0y⟩) S8 ?rest0y
 case hy0y =>
  rintro w' _
  go_simp
  all_goals with_reducible rfl
 try simp only [Act.put, List.getElem_toArray, List.getElem_cons_succ, List.getElem_cons_zero, List.setIfInBounds_toArray, List.set_cons_zero, List.set_cons_succ]
 refine lec_takeP (i := 1) (v := ?v1y) rfl (by kernel_rfl) (by kernel_rfl) (by kernel_rfl) (by kernel_rfl) (fun _ _ _ h => h) (.inl ⟨by rfl, ?hy1y⟩) S8 ?rest1y
 case hy1y =>
  rintro w' _
  go_simp
  all_goals with_reducible rfl
 try simp only [Act.put, List.getElem_toArray, List.getElem_cons_succ, List.getElem_cons_zero, List.setIfInBounds_toArray, List.set_cons_zero, List.set_cons_succ]
 refine lec_takeP (i := 2) (v := ?v2y) rfl (by kernel_rfl) (by kernel_rfl) (by kernel_rfl) (by kernel_rfl) (fun _ _ _ h => h) (.inl ⟨by rfl, ?hy2y⟩) S8 ?rest2y
 case hy2y =>
  rintro w' _
  go_simp
  all_goals with_reducible rfl
 try simp only [Act.put, List.getElem_toArray, List.getElem_cons_succ, List.getElem_cons_zero, List.setIfInBounds_toArray, List.set_cons_zero, List.set_cons_succ]
 refine lec_takeP (i := 3) (v := ?v3y) rfl (by kernel_rfl) (by kernel_rfl) (by kernel_rfl) (by kernel_rfl) (fun _ _ _ h => h) (.inl ⟨by rfl, ?hy3y⟩) S8 ?rest3y
 case hy3y =>
  rintro w' _
  go_simp
  all_goals with_reducible rfl
 try simp only [Act.put, List.getElem_toArray, List.getElem_cons_succ, List.getElem_cons_zero, List.setIfInBounds_toArray, List.set_cons_zero, List.set_cons_succ]
 refine lec_takeT [6] (i := 4) (v := ?v4y) rfl (by kernel_rfl) (by kernel_rfl) (by kernel_rfl) (by kernel_rfl) (fun _ _ _ h => h) (.inl ⟨by rfl, ?hy4y⟩) S8 ?rest4y
 case hy4y =>
  rintro w' ⟨g0, g1, g2, g3, g4, g5, g6, g7⟩
  go_simp
  all_goals with_reducible rfl
 try simp only [Act.put, List.getElem_toArray, List.getElem_cons_succ, List.getElem_cons_zero, List.setIfInBounds_toArray, List.set_cons_zero, List.set_cons_succ]
 refine lec_takeP (i := 5) (v := ?v5y) rfl (by kernel_rfl) (by kernel_rfl) (by kernel_rfl) (by kernel_rfl) (fun _ _ _ h => h) (.inl ⟨by rfl, ?hy5y⟩) S8 ?rest5y
 case hy5y =>
  rintro w' _
  go_simp
  all_goals with_reducible rfl
 try simp only [Act.put, List.getElem_toArray, List.getElem_cons_succ, List.getElem_cons_zero, List.setIfInBounds_toArray, List.set_cons_zero, List.set_cons_succ]
 refine lec_one (i := 6) rfl (by kernel_rfl) ?_
 intro K6 hK6
 rw [if_pos (by rfl)]
 go_simp
 refine Calls.mono HP.out ?_
 rintro e w2 ⟨rfl, h2⟩
 have H2 : Hid _ := h2
 clear h2
 go_simp
 refine hK6 _ _ (fun h => by cases h) ?_
 clear hK6
 try simp only [Act.put, List.getElem_toArray, List.getElem_cons_succ, List.getElem_cons_zero, List.setIfInBounds_toArray, List.set_cons_zero, List.set_cons_succ]
 refine lec_done (by kernel_rfl) ?_
 clear S8
 go_wp2_with fail
 exact bodyPost_end (v := .tuple #[]) (by simp [results, Tryz.results62, go_sem]) rfl ⟨rfl, HFO.out _ _ _ HB1.out H2.out⟩
set_option maxRecDepth 100000 in
set_option maxHeartbeats 4000000 in
theorem rTellI {s d w R} (h : Rm s d w R) (op : Int) (a b c : Nat) (n : Int) (ha : a < 16) :
 Calls Tryz.prog 64 #[.pointer (some ⟨s.mb, 0, none⟩), .agg #[.int .i64 op, .int .i64 (a : Int), .int .i64 (b : Int), .int .i64 (c : Int), .int .i64 n]] w fun e w' => e = .returned (.tuple #[]) /\ ∃ d', Rm s d' w' (R.tell 1 (R.rg.getD a 0)) /\ FooR s d d' w w' := by
 obtain ⟨W, hW⟩ : ∃ W, W = w.alloc (.cells #[.int .i64 op, .int .i64 (a : Int), .int .i64 (b : Int), .int .i64 (c : Int), .int .i64 n] 71) := ⟨_, rfl⟩
 have hb1 : Below w.heap.size w W := by rw [hW]; exact below_newR w _
 have hx : W.heap[w.heap.size]? = some (.cells #[.int .i64 op, .int .i64 (a : Int), .int .i64 (b : Int), .int .i64 (c : Int), .int .i64 n] 71 (0, 0)) := by rw [hW]; exact heap_alloc_new _ _
 have l1 : w.heap.size < W.heap.size := (gl hx)
 have H := h.below hb1
 have hlt := h.lt
 have hlW := H.lt
 have hai : (a : Int) < 16 := by omega
 obtain ⟨xa, hxa⟩ : ∃ xa, xa = R.rg.getD a 0 := ⟨_, rfl⟩
 have y0 : W.cell? ⟨w.heap.size, 0, none⟩ = some (.int .i64 op) := cell_arr hx rfl
 have y1 : W.cell? ⟨w.heap.size, 1, none⟩ = some (.int .i64 (a : Int)) := cell_arr hx rfl
 have y2 : W.cell? ⟨w.heap.size, 2, none⟩ = some (.int .i64 (b : Int)) := cell_arr hx rfl
 have y3 : W.cell? ⟨w.heap.size, 3, none⟩ = some (.int .i64 (c : Int)) := cell_arr hx rfl
 have y4 : W.cell? ⟨w.heap.size, 4, none⟩ = some (.int .i64 n) := cell_arr hx rfl
 have ra : W.cell? ⟨s.mb, 42 + a, none⟩ = some (.int .i64 xa) := by rw [hxa]; exact H.reg ha
 have HSW : Hid (∀ w2, Below W.heap.size W w2 -> w2.cell? ⟨w.heap.size, 0, none⟩ = some (.int .i64 op) /\ w2.cell? ⟨w.heap.size, 1, none⟩ = some (.int .i64 (a : Int)) /\ w2.cell? ⟨w.heap.size, 2, none⟩ = some (.int .i64 (b : Int)) /\ w2.cell? ⟨w.heap.size, 3, none⟩ = some (.int .i64 (c : Int)) /\ w2.cell? ⟨w.heap.size, 4, none⟩ = some (.int .i64 n) /\ w2.cell? ⟨s.mb, 42 + a, none⟩ = some (.int .i64 xa) /\ s.mb < w2.heap.size /\ w.heap.size < w2.heap.size) := fun w2 hb2 => by
  have q := H.below hb2
  have ex := (hb2.block _ l1).trans hx
  rw [hxa]
  exact ⟨cell_arr ex rfl, cell_arr ex rfl, cell_arr ex rfl, cell_arr ex rfl, cell_arr ex rfl, q.reg ha, q.lt, (gl ex)⟩
 have HFO : Hid (∀ W2 R2 w2, Below w.heap.size w W2 -> (∃ d', Rm s d' w2 R2 /\ FooR s d d' W2 w2) -> ∃ d', Rm s d' w2 R2 /\ FooR s d d' w w2) := fun W2 R2 w2 hb ⟨d', q1, q2⟩ => ⟨d', q1, (FooR.of_below hb).trans q2⟩
 have HB1 : Hid (Below w.heap.size w W.drew) := hb1.drew
 have HP : Hid _ := mEventR (H.below (Below.refl _ _).drew) 1 xa
 rw [<- hxa]
 obtain ⟨kb, hkb⟩ : ∃ kb, kb = w.heap.size := ⟨_, rfl⟩
 rw [<- hkb] at y0 y1 y2 y3 y4 l1 HSW
 generalize s.mb = mb at *
 clear h H hb1 hx hxa
 go_enter Tryz.func64, Tryz.ntmps64
 go_upto_region 1 with fail
 rw [<- hW, <- hkb]
 clear hW hkb
 have S8 : (fun w' : World => w'.cell? ⟨kb, 0, none⟩ = some (.int .i64 op) /\ w'.cell? ⟨kb, 1, none⟩ = some (.int .i64 (a : Int)) /\ w'.cell? ⟨kb, 2, none⟩ = some (.int .i64 (b : Int)) /\ w'.cell? ⟨kb, 3, none⟩ = some (.int .i64 (c : Int)) /\ w'.cell? ⟨kb, 4, none⟩ = some (.int .i64 n) /\ w'.cell? ⟨mb, 42 + a, none⟩ = some (.int .i64 xa) /\ mb < w'.heap.size /\ kb < w'.heap.size) W.drew := ⟨y0, y1, y2, y3, y4, ra, hlW, l1⟩
 refine lec_start (S := fun w' : World => w'.cell? ⟨kb, 0, none⟩ = some (.int .i64 op) /\ w'.cell? ⟨kb, 1, none⟩ = some (.int .i64 (a : Int)) /\ w'.cell? ⟨kb, 2, none⟩ = some (.int .i64 (b : Int)) /\ w'.cell? ⟨kb, 3, none⟩ = some (.int .i64 (c : Int)) /\ w'.cell? ⟨kb, 4, none⟩ = some (.int .i64 n) /\ w'.cell? ⟨mb, 42 + a, none⟩ = some (.int .i64 xa) /\ mb < w'.heap.size /\ kb < w'.heap.size) (z := 11) (by kernel_rfl) ?_
 show lec _ _ _ _ _ 12 _ _ _
 try simp only [List.size_toArray, List.length_cons, List.length_nil, Array.replicate]
 refine lec_takeP (i := 0) (v := ?v0z) rfl (by kernel_rfl) (by kernel_rfl) (by kernel_rfl) (by kernel_rfl) (fun _ _ _ h => h) (.inl ⟨by rfl, ?hy0z⟩) S8 ?rest0z
 case hy0z =>
  rintro w' _
  go_simp
  all_goals with_reducible rfl
 try simp only [Act.put, List.getElem_toArray, List.getElem_cons_succ, List.getElem_cons_zero, List.setIfInBounds_toArray, List.set_cons_zero, List.set_cons_succ]
 refine lec_takeP (i := 1) (v := ?v1z) rfl (by kernel_rfl) (by kernel_rfl) (by kernel_rfl) (by kernel_rfl) (fun _ _ _ h => h) (.inl ⟨by rfl, ?hy1z⟩) S8 ?rest1z
 case hy1z =>
  rintro w' _
  go_simp
  all_goals with_reducible rfl
 try simp only [Act.put, List.getElem_toArray, List.getElem_cons_succ, List.getElem_cons_zero, List.setIfInBounds_toArray, List.set_cons_zero, List.set_cons_succ]
 refine lec_takeP (i := 2) (v := ?v2z) rfl (by kernel_rfl) (by kernel_rfl) (by kernel_rfl) (by kernel_rfl) (fun _ _ _ h => h) (.inl ⟨by rfl, ?hy2z⟩) S8 ?rest2z
 case hy2z =>
  rintro w' _
  go_simp
  all_goals with_reducible rfl
 try simp only [Act.put, List.getElem_toArray, List.getElem_cons_succ, List.getElem_cons_zero, List.setIfInBounds_toArray, List.set_cons_zero, List.set_cons_succ]
 refine lec_takeP (i := 3) (v := ?v3z) rfl (by kernel_rfl) (by kernel_rfl) (by kernel_rfl) (by kernel_rfl) (fun _ _ _ h => h) (.inl ⟨by rfl, ?hy3z⟩) S8 ?rest3z
 case hy3z =>
  rintro w' _
  go_simp
  all_goals with_reducible rfl
 try simp only [Act.put, List.getElem_toArray, List.getElem_cons_succ, List.getElem_cons_zero, List.setIfInBounds_toArray, List.set_cons_zero, List.set_cons_succ]
 refine lec_takeP (i := 4) (v := ?v4z) rfl (by kernel_rfl) (by kernel_rfl) (by kernel_rfl) (by kernel_rfl) (fun _ _ _ h => h) (.inl ⟨by rfl, ?hy4z⟩) S8 ?rest4z
 case hy4z =>
  rintro w' _
  go_simp
  all_goals with_reducible rfl
 try simp only [Act.put, List.getElem_toArray, List.getElem_cons_succ, List.getElem_cons_zero, List.setIfInBounds_toArray, List.set_cons_zero, List.set_cons_succ]
 refine lec_takeT [9, 10, 11] (i := 5) (v := ?v5z) rfl (by kernel_rfl) (by kernel_rfl) (by kernel_rfl) (by kernel_rfl) (fun _ _ _ h => h) (.inl ⟨by rfl, ?hy5z⟩) S8 ?rest5z
 case hy5z =>
  rintro w' ⟨g0, g1, g2, g3, g4, g5, g6, g7⟩
  go_simp
  all_goals with_reducible rfl
 try simp only [Act.put, List.getElem_toArray, List.getElem_cons_succ, List.getElem_cons_zero, List.setIfInBounds_toArray, List.set_cons_zero, List.set_cons_succ]
 refine lec_takeP (i := 6) (v := ?v6z) rfl (by kernel_rfl) (by kernel_rfl) (by kernel_rfl) (by kernel_rfl) (fun _ _ _ h => h) (.inl ⟨by rfl, ?hy6z⟩) S8 ?rest6z
 case hy6z =>
  rintro w' _
  go_simp
  all_goals with_reducible rfl
 try simp only [Act.put, List.getElem_toArray, List.getElem_cons_succ, List.getElem_cons_zero, List.setIfInBounds_toArray, List.set_cons_zero, List.set_cons_succ]
 refine lec_takeP (i := 7) (v := ?v7z) rfl (by kernel_rfl) (by kernel_rfl) (by kernel_rfl) (by kernel_rfl) (fun _ _ _ h => h) (.inl ⟨by rfl, ?hy7z⟩) S8 ?rest7z
 case hy7z =>
  rintro w' _
  go_simp
  all_goals with_reducible rfl
 try simp only [Act.put, List.getElem_toArray, List.getElem_cons_succ, List.getElem_cons_zero, List.setIfInBounds_toArray, List.set_cons_zero, List.set_cons_succ]
 refine lec_takeP (i := 8) (v := ?v8z) rfl (by kernel_rfl) (by kernel_rfl) (by kernel_rfl) (by kernel_rfl) (fun _ _ _ h => h) (.inl ⟨by rfl, ?hy8z⟩) S8 ?rest8z
 case hy8z =>
  rintro w' _
  go_simp
  all_goals with_reducible rfl
 try simp only [Act.put, List.getElem_toArray, List.getElem_cons_succ, List.getElem_cons_zero, List.setIfInBounds_toArray, List.set_cons_zero, List.set_cons_succ]
 refine lec_takeP (i := 9) (v := ?v9z) rfl (by kernel_rfl) (by kernel_rfl) (by kernel_rfl) (by kernel_rfl) (fun _ _ _ h => h) (.inl ⟨by rfl, ?hy9z⟩) S8 ?rest9z
 case hy9z =>
  rintro w' _
  go_simp
  all_goals with_reducible rfl
 try simp only [Act.put, List.getElem_toArray, List.getElem_cons_succ, List.getElem_cons_zero, List.setIfInBounds_toArray, List.set_cons_zero, List.set_cons_succ]
 refine lec_takeT [11] (i := 10) (v := ?v10z) rfl (by kernel_rfl) (by kernel_rfl) (by kernel_rfl) (by kernel_rfl) (fun _ _ _ h => h) (.inl ⟨by rfl, ?hy10z⟩) S8 ?rest10z
 case hy10z =>
  rintro w' ⟨g0, g1, g2, g3, g4, g5, g6, g7⟩
  go_simp
  all_goals with_reducible rfl
 try simp only [Act.put, List.getElem_toArray, List.getElem_cons_succ, List.getElem_cons_zero, List.setIfInBounds_toArray, List.set_cons_zero, List.set_cons_succ]
 refine lec_one (i := 11) rfl (by kernel_rfl) ?_
 intro K11 hK11
 rw [if_pos (by rfl)]
 go_simp
 refine Calls.mono HP.out ?_
 rintro e w2 ⟨⟨bb, rfl⟩, h2⟩
 have H2 : Hid _ := h2
 clear h2
 go_simp
 refine hK11 _ _ (fun h => by cases h) ?_
 clear hK11
 try simp only [Act.put, List.getElem_toArray, List.getElem_cons_succ, List.getElem_cons_zero, List.setIfInBounds_toArray, List.set_cons_zero, List.set_cons_succ]
 refine lec_done (by kernel_rfl) ?_
 clear S8
 go_wp2_with fail
 exact bodyPost_end (v := .tuple #[]) (by simp [results, Tryz.results64, go_sem]) rfl ⟨rfl, HFO.out _ _ _ HB1.out H2.out⟩
set_option maxRecDepth 100000 in
set_option maxHeartbeats 4000000 in
theorem rTellB {s d w R} (h : Rm s d w R) (op : Int) (a b c : Nat) (n : Int) (ha : a < 16) (ho : 1 <= op /\ op <= 38) (hq : (R.rg.getD a 0 = 0 \/ R.rg.getD a 0 = 1)) :
 Calls Tryz.prog 65 #[.pointer (some ⟨s.mb, 0, none⟩), .agg #[.int .i64 op, .int .i64 (a : Int), .int .i64 (b : Int), .int .i64 (c : Int), .int .i64 n]] w fun e w' => e = .returned (.tuple #[]) /\ ∃ d', Rm s d' w' (R.tell 2 (R.rg.getD a 0)) /\ FooR s d d' w w' := by
 obtain ⟨W, hW⟩ : ∃ W, W = w.alloc (.cells #[.int .i64 op, .int .i64 (a : Int), .int .i64 (b : Int), .int .i64 (c : Int), .int .i64 n] 71) := ⟨_, rfl⟩
 have hb1 : Below w.heap.size w W := by rw [hW]; exact below_newR w _
 have hx : W.heap[w.heap.size]? = some (.cells #[.int .i64 op, .int .i64 (a : Int), .int .i64 (b : Int), .int .i64 (c : Int), .int .i64 n] 71 (0, 0)) := by rw [hW]; exact heap_alloc_new _ _
 have l1 : w.heap.size < W.heap.size := (gl hx)
 have H := h.below hb1
 have hlt := h.lt
 have hlW := H.lt
 have hai : (a : Int) < 16 := by omega
 obtain ⟨xa, hxa⟩ : ∃ xa, xa = R.rg.getD a 0 := ⟨_, rfl⟩
 have y0 : W.cell? ⟨w.heap.size, 0, none⟩ = some (.int .i64 op) := cell_arr hx rfl
 have y1 : W.cell? ⟨w.heap.size, 1, none⟩ = some (.int .i64 (a : Int)) := cell_arr hx rfl
 have y2 : W.cell? ⟨w.heap.size, 2, none⟩ = some (.int .i64 (b : Int)) := cell_arr hx rfl
 have y3 : W.cell? ⟨w.heap.size, 3, none⟩ = some (.int .i64 (c : Int)) := cell_arr hx rfl
 have y4 : W.cell? ⟨w.heap.size, 4, none⟩ = some (.int .i64 n) := cell_arr hx rfl
 have ra : W.cell? ⟨s.mb, 42 + a, none⟩ = some (.int .i64 xa) := by rw [hxa]; exact H.reg ha
 have HSW : Hid (∀ w2, Below W.heap.size W w2 -> w2.cell? ⟨w.heap.size, 0, none⟩ = some (.int .i64 op) /\ w2.cell? ⟨w.heap.size, 1, none⟩ = some (.int .i64 (a : Int)) /\ w2.cell? ⟨w.heap.size, 2, none⟩ = some (.int .i64 (b : Int)) /\ w2.cell? ⟨w.heap.size, 3, none⟩ = some (.int .i64 (c : Int)) /\ w2.cell? ⟨w.heap.size, 4, none⟩ = some (.int .i64 n) /\ w2.cell? ⟨s.mb, 42 + a, none⟩ = some (.int .i64 xa) /\ s.mb < w2.heap.size /\ w.heap.size < w2.heap.size) := fun w2 hb2 => by
  have q := H.below hb2
  have ex := (hb2.block _ l1).trans hx
  rw [hxa]
  exact ⟨cell_arr ex rfl, cell_arr ex rfl, cell_arr ex rfl, cell_arr ex rfl, cell_arr ex rfl, q.reg ha, q.lt, (gl ex)⟩
 have HI : Hid (∀ w3, Calls Tryz.prog 94 #[.int .i64 xa] w3 fun e w' => e = .returned (.bool true) /\ w' = w3) := fun w3 => by
  have := isBoolR w3 xa
  rw [show decide (xa = 0 \/ xa = 1) = true from decide_eq_true (by rw [hxa]; exact hq)] at this
  exact this
 clear hq
 have HFO : Hid (∀ W2 R2 w2, Below w.heap.size w W2 -> (∃ d', Rm s d' w2 R2 /\ FooR s d d' W2 w2) -> ∃ d', Rm s d' w2 R2 /\ FooR s d d' w w2) := fun W2 R2 w2 hb ⟨d', q1, q2⟩ => ⟨d', q1, (FooR.of_below hb).trans q2⟩
 have HB1 : Hid (Below w.heap.size w W.drew.drew) := hb1.drew.drew
 have HP : Hid _ := mEventR (H.below (Below.refl _ _).drew.drew) 2 xa
 rw [<- hxa]
 obtain ⟨kb, hkb⟩ : ∃ kb, kb = w.heap.size := ⟨_, rfl⟩
 rw [<- hkb] at y0 y1 y2 y3 y4 l1 HSW
 generalize s.mb = mb at *
 clear h H hb1 hx hxa
 go_enter Tryz.func65, Tryz.ntmps65
 go_upto_region 1 with fail
 rw [<- hW, <- hkb]
 clear hW hkb
 have S8 : (fun w' : World => w'.cell? ⟨kb, 0, none⟩ = some (.int .i64 op) /\ w'.cell? ⟨kb, 1, none⟩ = some (.int .i64 (a : Int)) /\ w'.cell? ⟨kb, 2, none⟩ = some (.int .i64 (b : Int)) /\ w'.cell? ⟨kb, 3, none⟩ = some (.int .i64 (c : Int)) /\ w'.cell? ⟨kb, 4, none⟩ = some (.int .i64 n) /\ w'.cell? ⟨mb, 42 + a, none⟩ = some (.int .i64 xa) /\ mb < w'.heap.size /\ kb < w'.heap.size) W.drew := ⟨y0, y1, y2, y3, y4, ra, hlW, l1⟩
 refine lec_start (S := fun w' : World => w'.cell? ⟨kb, 0, none⟩ = some (.int .i64 op) /\ w'.cell? ⟨kb, 1, none⟩ = some (.int .i64 (a : Int)) /\ w'.cell? ⟨kb, 2, none⟩ = some (.int .i64 (b : Int)) /\ w'.cell? ⟨kb, 3, none⟩ = some (.int .i64 (c : Int)) /\ w'.cell? ⟨kb, 4, none⟩ = some (.int .i64 n) /\ w'.cell? ⟨mb, 42 + a, none⟩ = some (.int .i64 xa) /\ mb < w'.heap.size /\ kb < w'.heap.size) (z := 10) (by kernel_rfl) ?_
 show lec _ _ _ _ _ 11 _ _ _
 try simp only [List.size_toArray, List.length_cons, List.length_nil, Array.replicate]
 refine lec_takeP (i := 0) (v := ?v0z) rfl (by kernel_rfl) (by kernel_rfl) (by kernel_rfl) (by kernel_rfl) (fun _ _ _ h => h) (.inl ⟨by rfl, ?hy0z⟩) S8 ?rest0z
 case hy0z =>
  rintro w' _
  go_simp
  all_goals with_reducible rfl
 try simp only [Act.put, List.getElem_toArray, List.getElem_cons_succ, List.getElem_cons_zero, List.setIfInBounds_toArray, List.set_cons_zero, List.set_cons_succ]
 refine lec_takeP (i := 1) (v := ?v1z) rfl (by kernel_rfl) (by kernel_rfl) (by kernel_rfl) (by kernel_rfl) (fun _ _ _ h => h) (.inl ⟨by rfl, ?hy1z⟩) S8 ?rest1z
 case hy1z =>
  rintro w' _
  go_simp
  all_goals with_reducible rfl
 try simp only [Act.put, List.getElem_toArray, List.getElem_cons_succ, List.getElem_cons_zero, List.setIfInBounds_toArray, List.set_cons_zero, List.set_cons_succ]
 refine lec_takeT [6, 7, 8, 9, 10] (i := 2) (v := ?v2z) rfl (by kernel_rfl) (by kernel_rfl) (by kernel_rfl) (by kernel_rfl) (fun _ _ _ h => h) (.inl ⟨by rfl, ?hy2z⟩) S8 ?rest2z
 case hy2z =>
  rintro w' ⟨g0, g1, g2, g3, g4, g5, g6, g7⟩
  go_simp
  all_goals with_reducible rfl
 try simp only [Act.put, List.getElem_toArray, List.getElem_cons_succ, List.getElem_cons_zero, List.setIfInBounds_toArray, List.set_cons_zero, List.set_cons_succ]
 refine lec_takeP (i := 3) (v := ?v3z) rfl (by kernel_rfl) (by kernel_rfl) (by kernel_rfl) (by kernel_rfl) (fun _ _ _ h => h) (.inl ⟨by rfl, ?hy3z⟩) S8 ?rest3z
 case hy3z =>
  rintro w' _
  go_simp
  all_goals with_reducible rfl
 try simp only [Act.put, List.getElem_toArray, List.getElem_cons_succ, List.getElem_cons_zero, List.setIfInBounds_toArray, List.set_cons_zero, List.set_cons_succ]
 refine lec_takeP (i := 4) (v := ?v4z) rfl (by kernel_rfl) (by kernel_rfl) (by kernel_rfl) (by kernel_rfl) (fun _ _ _ h => h) (.inl ⟨by rfl, ?hy4z⟩) S8 ?rest4z
 case hy4z =>
  rintro w' _
  go_simp
  all_goals with_reducible rfl
 try simp only [Act.put, List.getElem_toArray, List.getElem_cons_succ, List.getElem_cons_zero, List.setIfInBounds_toArray, List.set_cons_zero, List.set_cons_succ]
 refine lec_takeP (i := 5) (v := ?v5z) rfl (by kernel_rfl) (by kernel_rfl) (by kernel_rfl) (by kernel_rfl) (fun _ _ _ h => h) (.inl ⟨by rfl, ?hy5z⟩) S8 ?rest5z
 case hy5z =>
  rintro w' _
  go_simp
  all_goals with_reducible rfl
 try simp only [Act.put, List.getElem_toArray, List.getElem_cons_succ, List.getElem_cons_zero, List.setIfInBounds_toArray, List.set_cons_zero, List.set_cons_succ]
 refine lec_takeP (i := 6) (v := ?v6z) rfl (by kernel_rfl) (by kernel_rfl) (by kernel_rfl) (by kernel_rfl) (fun _ _ _ h => h) (.inl ⟨by rfl, ?hy6z⟩) S8 ?rest6z
 case hy6z =>
  rintro w' _
  go_simp
  all_goals with_reducible rfl
 try simp only [Act.put, List.getElem_toArray, List.getElem_cons_succ, List.getElem_cons_zero, List.setIfInBounds_toArray, List.set_cons_zero, List.set_cons_succ]
 refine lec_takeT [8, 9, 10] (i := 7) (v := ?v7z) rfl (by kernel_rfl) (by kernel_rfl) (by kernel_rfl) (by kernel_rfl) (fun _ _ _ h => h) (.inl ⟨by rfl, ?hy7z⟩) S8 ?rest7z
 case hy7z =>
  rintro w' ⟨g0, g1, g2, g3, g4, g5, g6, g7⟩
  go_simp
  all_goals with_reducible rfl
 try simp only [Act.put, List.getElem_toArray, List.getElem_cons_succ, List.getElem_cons_zero, List.setIfInBounds_toArray, List.set_cons_zero, List.set_cons_succ]
 refine lec_one (i := 8) rfl (by kernel_rfl) ?_
 intro K8 hK8
 rw [if_pos (by rfl)]
 go_simp
 refine Calls.mono (HI.out _) ?_
 rintro e w2 ⟨rfl, rfl⟩
 go_simp
 refine hK8 _ _ (fun _ => S8) ?_
 clear hK8
 try simp only [Act.put, List.getElem_toArray, List.getElem_cons_succ, List.getElem_cons_zero, List.setIfInBounds_toArray, List.set_cons_zero, List.set_cons_succ]
 refine lec_takeP (i := 9) (v := ?v9z) rfl (by kernel_rfl) (by kernel_rfl) (by kernel_rfl) (by kernel_rfl) (fun _ _ _ h => h) (.inl ⟨by rfl, ?hy9z⟩) S8 ?rest9z
 case hy9z =>
  rintro w' _
  go_simp
  all_goals with_reducible rfl
 try simp only [Act.put, List.getElem_toArray, List.getElem_cons_succ, List.getElem_cons_zero, List.setIfInBounds_toArray, List.set_cons_zero, List.set_cons_succ]
 refine lec_one (i := 10) rfl (by kernel_rfl) ?_
 intro K10 hK10
 rw [if_pos (by rfl)]
 go_simp
 refine Calls.mono (stuckIf_no _ _) ?_
 rintro e w2 ⟨rfl, rfl⟩
 go_simp
 refine hK10 _ _ (fun h => by cases h) ?_
 clear hK10
 try simp only [Act.put, List.getElem_toArray, List.getElem_cons_succ, List.getElem_cons_zero, List.setIfInBounds_toArray, List.set_cons_zero, List.set_cons_succ]
 refine lec_done (by kernel_rfl) ?_
 clear S8
 go_upto_region 2 with fail
 have S8 : (fun w' : World => w'.cell? ⟨kb, 0, none⟩ = some (.int .i64 op) /\ w'.cell? ⟨kb, 1, none⟩ = some (.int .i64 (a : Int)) /\ w'.cell? ⟨kb, 2, none⟩ = some (.int .i64 (b : Int)) /\ w'.cell? ⟨kb, 3, none⟩ = some (.int .i64 (c : Int)) /\ w'.cell? ⟨kb, 4, none⟩ = some (.int .i64 n) /\ w'.cell? ⟨mb, 42 + a, none⟩ = some (.int .i64 xa) /\ mb < w'.heap.size /\ kb < w'.heap.size) W.drew.drew := ⟨y0, y1, y2, y3, y4, ra, hlW, l1⟩
 refine lec_start (S := fun w' : World => w'.cell? ⟨kb, 0, none⟩ = some (.int .i64 op) /\ w'.cell? ⟨kb, 1, none⟩ = some (.int .i64 (a : Int)) /\ w'.cell? ⟨kb, 2, none⟩ = some (.int .i64 (b : Int)) /\ w'.cell? ⟨kb, 3, none⟩ = some (.int .i64 (c : Int)) /\ w'.cell? ⟨kb, 4, none⟩ = some (.int .i64 n) /\ w'.cell? ⟨mb, 42 + a, none⟩ = some (.int .i64 xa) /\ mb < w'.heap.size /\ kb < w'.heap.size) (z := 11) (by kernel_rfl) ?_
 show lec _ _ _ _ _ 12 _ _ _
 try simp only [List.size_toArray, List.length_cons, List.length_nil, Array.replicate]
 refine lec_takeP (i := 0) (v := ?v0y) rfl (by kernel_rfl) (by kernel_rfl) (by kernel_rfl) (by kernel_rfl) (fun _ _ _ h => h) (.inl ⟨by rfl, ?hy0y⟩) S8 ?rest0y
 case hy0y =>
  rintro w' _
  go_simp
  all_goals with_reducible rfl
 try simp only [Act.put, List.getElem_toArray, List.getElem_cons_succ, List.getElem_cons_zero, List.setIfInBounds_toArray, List.set_cons_zero, List.set_cons_succ]
 refine lec_takeP (i := 1) (v := ?v1y) rfl (by kernel_rfl) (by kernel_rfl) (by kernel_rfl) (by kernel_rfl) (fun _ _ _ h => h) (.inl ⟨by rfl, ?hy1y⟩) S8 ?rest1y
 case hy1y =>
  rintro w' _
  go_simp
  all_goals with_reducible rfl
 try simp only [Act.put, List.getElem_toArray, List.getElem_cons_succ, List.getElem_cons_zero, List.setIfInBounds_toArray, List.set_cons_zero, List.set_cons_succ]
 refine lec_takeP (i := 2) (v := ?v2y) rfl (by kernel_rfl) (by kernel_rfl) (by kernel_rfl) (by kernel_rfl) (fun _ _ _ h => h) (.inl ⟨by rfl, ?hy2y⟩) S8 ?rest2y
 case hy2y =>
  rintro w' _
  go_simp
  all_goals with_reducible rfl
 try simp only [Act.put, List.getElem_toArray, List.getElem_cons_succ, List.getElem_cons_zero, List.setIfInBounds_toArray, List.set_cons_zero, List.set_cons_succ]
 refine lec_takeP (i := 3) (v := ?v3y) rfl (by kernel_rfl) (by kernel_rfl) (by kernel_rfl) (by kernel_rfl) (fun _ _ _ h => h) (.inl ⟨by rfl, ?hy3y⟩) S8 ?rest3y
 case hy3y =>
  rintro w' _
  go_simp
  all_goals with_reducible rfl
 try simp only [Act.put, List.getElem_toArray, List.getElem_cons_succ, List.getElem_cons_zero, List.setIfInBounds_toArray, List.set_cons_zero, List.set_cons_succ]
 refine lec_takeP (i := 4) (v := ?v4y) rfl (by kernel_rfl) (by kernel_rfl) (by kernel_rfl) (by kernel_rfl) (fun _ _ _ h => h) (.inl ⟨by rfl, ?hy4y⟩) S8 ?rest4y
 case hy4y =>
  rintro w' _
  go_simp
  all_goals with_reducible rfl
 try simp only [Act.put, List.getElem_toArray, List.getElem_cons_succ, List.getElem_cons_zero, List.setIfInBounds_toArray, List.set_cons_zero, List.set_cons_succ]
 refine lec_takeT [9, 10, 11] (i := 5) (v := ?v5y) rfl (by kernel_rfl) (by kernel_rfl) (by kernel_rfl) (by kernel_rfl) (fun _ _ _ h => h) (.inl ⟨by rfl, ?hy5y⟩) S8 ?rest5y
 case hy5y =>
  rintro w' ⟨g0, g1, g2, g3, g4, g5, g6, g7⟩
  go_simp
  all_goals with_reducible rfl
 try simp only [Act.put, List.getElem_toArray, List.getElem_cons_succ, List.getElem_cons_zero, List.setIfInBounds_toArray, List.set_cons_zero, List.set_cons_succ]
 refine lec_takeP (i := 6) (v := ?v6y) rfl (by kernel_rfl) (by kernel_rfl) (by kernel_rfl) (by kernel_rfl) (fun _ _ _ h => h) (.inl ⟨by rfl, ?hy6y⟩) S8 ?rest6y
 case hy6y =>
  rintro w' _
  go_simp
  all_goals with_reducible rfl
 try simp only [Act.put, List.getElem_toArray, List.getElem_cons_succ, List.getElem_cons_zero, List.setIfInBounds_toArray, List.set_cons_zero, List.set_cons_succ]
 refine lec_takeP (i := 7) (v := ?v7y) rfl (by kernel_rfl) (by kernel_rfl) (by kernel_rfl) (by kernel_rfl) (fun _ _ _ h => h) (.inl ⟨by rfl, ?hy7y⟩) S8 ?rest7y
 case hy7y =>
  rintro w' _
  go_simp
  all_goals with_reducible rfl
 try simp only [Act.put, List.getElem_toArray, List.getElem_cons_succ, List.getElem_cons_zero, List.setIfInBounds_toArray, List.set_cons_zero, List.set_cons_succ]
 refine lec_takeP (i := 8) (v := ?v8y) rfl (by kernel_rfl) (by kernel_rfl) (by kernel_rfl) (by kernel_rfl) (fun _ _ _ h => h) (.inl ⟨by rfl, ?hy8y⟩) S8 ?rest8y
 case hy8y =>
  rintro w' _
  go_simp
  all_goals with_reducible rfl
 try simp only [Act.put, List.getElem_toArray, List.getElem_cons_succ, List.getElem_cons_zero, List.setIfInBounds_toArray, List.set_cons_zero, List.set_cons_succ]
 refine lec_takeP (i := 9) (v := ?v9y) rfl (by kernel_rfl) (by kernel_rfl) (by kernel_rfl) (by kernel_rfl) (fun _ _ _ h => h) (.inl ⟨by rfl, ?hy9y⟩) S8 ?rest9y
 case hy9y =>
  rintro w' _
  go_simp
  all_goals with_reducible rfl
 try simp only [Act.put, List.getElem_toArray, List.getElem_cons_succ, List.getElem_cons_zero, List.setIfInBounds_toArray, List.set_cons_zero, List.set_cons_succ]
 refine lec_takeT [11] (i := 10) (v := ?v10y) rfl (by kernel_rfl) (by kernel_rfl) (by kernel_rfl) (by kernel_rfl) (fun _ _ _ h => h) (.inl ⟨by rfl, ?hy10y⟩) S8 ?rest10y
 case hy10y =>
  rintro w' ⟨g0, g1, g2, g3, g4, g5, g6, g7⟩
  go_simp
  all_goals with_reducible rfl
 try simp only [Act.put, List.getElem_toArray, List.getElem_cons_succ, List.getElem_cons_zero, List.setIfInBounds_toArray, List.set_cons_zero, List.set_cons_succ]
 refine lec_one (i := 11) rfl (by kernel_rfl) ?_
 intro K11 hK11
 rw [if_pos (by rfl)]
 go_simp
 refine Calls.mono HP.out ?_
 rintro e w2 ⟨⟨bb, rfl⟩, h2⟩
 have H2 : Hid _ := h2
 clear h2
 go_simp
 refine hK11 _ _ (fun h => by cases h) ?_
 clear hK11
 try simp only [Act.put, List.getElem_toArray, List.getElem_cons_succ, List.getElem_cons_zero, List.setIfInBounds_toArray, List.set_cons_zero, List.set_cons_succ]
 refine lec_done (by kernel_rfl) ?_
 clear S8
 go_wp2_with fail
 exact bodyPost_end (v := .tuple #[]) (by simp [results, Tryz.results65, go_sem]) rfl ⟨rfl, HFO.out _ _ _ HB1.out H2.out⟩
set_option maxRecDepth 100000 in
set_option maxHeartbeats 4000000 in
theorem rNot {s d w R} (h : Rm s d w R) (op : Int) (a b c : Nat) (n : Int) (ha : a < 16) (hb : b < 16) (ho : 1 <= op /\ op <= 38) (hq : (R.rg.getD b 0 = 0 \/ R.rg.getD b 0 = 1)) :
 Calls Tryz.prog 47 #[.pointer (some ⟨s.mb, 0, none⟩), .agg #[.int .i64 op, .int .i64 (a : Int), .int .i64 (b : Int), .int .i64 (c : Int), .int .i64 n]] w fun e w' => e = .returned (.tuple #[]) /\ ∃ d', Rm s d' w' (R.set a (doIW (op - 1) (R.rg.getD b 0) 0)) /\ FooR s d d' w w' := by
 obtain ⟨W, hW⟩ : ∃ W, W = w.alloc (.cells #[.int .i64 op, .int .i64 (a : Int), .int .i64 (b : Int), .int .i64 (c : Int), .int .i64 n] 71) := ⟨_, rfl⟩
 have hb1 : Below w.heap.size w W := by rw [hW]; exact below_newR w _
 have hx : W.heap[w.heap.size]? = some (.cells #[.int .i64 op, .int .i64 (a : Int), .int .i64 (b : Int), .int .i64 (c : Int), .int .i64 n] 71 (0, 0)) := by rw [hW]; exact heap_alloc_new _ _
 have l1 : w.heap.size < W.heap.size := (gl hx)
 have H := h.below hb1
 have hlt := h.lt
 have hlW := H.lt
 have hai : (a : Int) < 16 := by omega
 obtain ⟨xa, hxa⟩ : ∃ xa, xa = R.rg.getD a 0 := ⟨_, rfl⟩
 have hbi : (b : Int) < 16 := by omega
 obtain ⟨xb, hxb⟩ : ∃ xb, xb = R.rg.getD b 0 := ⟨_, rfl⟩
 have y0 : W.cell? ⟨w.heap.size, 0, none⟩ = some (.int .i64 op) := cell_arr hx rfl
 have y1 : W.cell? ⟨w.heap.size, 1, none⟩ = some (.int .i64 (a : Int)) := cell_arr hx rfl
 have y2 : W.cell? ⟨w.heap.size, 2, none⟩ = some (.int .i64 (b : Int)) := cell_arr hx rfl
 have y3 : W.cell? ⟨w.heap.size, 3, none⟩ = some (.int .i64 (c : Int)) := cell_arr hx rfl
 have y4 : W.cell? ⟨w.heap.size, 4, none⟩ = some (.int .i64 n) := cell_arr hx rfl
 have ra : W.cell? ⟨s.mb, 42 + a, none⟩ = some (.int .i64 xa) := by rw [hxa]; exact H.reg ha
 have rb : W.cell? ⟨s.mb, 42 + b, none⟩ = some (.int .i64 xb) := by rw [hxb]; exact H.reg hb
 have HSW : Hid (∀ w2, Below W.heap.size W w2 -> w2.cell? ⟨w.heap.size, 0, none⟩ = some (.int .i64 op) /\ w2.cell? ⟨w.heap.size, 1, none⟩ = some (.int .i64 (a : Int)) /\ w2.cell? ⟨w.heap.size, 2, none⟩ = some (.int .i64 (b : Int)) /\ w2.cell? ⟨w.heap.size, 3, none⟩ = some (.int .i64 (c : Int)) /\ w2.cell? ⟨w.heap.size, 4, none⟩ = some (.int .i64 n) /\ w2.cell? ⟨s.mb, 42 + a, none⟩ = some (.int .i64 xa) /\ w2.cell? ⟨s.mb, 42 + b, none⟩ = some (.int .i64 xb) /\ s.mb < w2.heap.size /\ w.heap.size < w2.heap.size) := fun w2 hb2 => by
  have q := H.below hb2
  have ex := (hb2.block _ l1).trans hx
  rw [hxa]
  rw [hxb]
  exact ⟨cell_arr ex rfl, cell_arr ex rfl, cell_arr ex rfl, cell_arr ex rfl, cell_arr ex rfl, q.reg ha, q.reg hb, q.lt, (gl ex)⟩
 have HI : Hid (∀ w3, Calls Tryz.prog 94 #[.int .i64 xb] w3 fun e w' => e = .returned (.bool true) /\ w' = w3) := fun w3 => by
  have := isBoolR w3 xb
  rw [show decide (xb = 0 \/ xb = 1) = true from decide_eq_true (by rw [hxb]; exact hq)] at this
  exact this
 clear hq
 have HFO : Hid (∀ W2 R2 w2, Below w.heap.size w W2 -> (∃ d', Rm s d' w2 R2 /\ FooR s d d' W2 w2) -> ∃ d', Rm s d' w2 R2 /\ FooR s d d' w w2) := fun W2 R2 w2 hb ⟨d', q1, q2⟩ => ⟨d', q1, (FooR.of_below hb).trans q2⟩
 have HB1 : Hid (Below w.heap.size w W.drew) := hb1.drew
 have HP : Hid _ := rTurn (H.below (Below.refl _ _).drew) op a b c n ha hb ho
 generalize R.set (a : Int) (doIW (op - 1) (R.rg.getD b 0) 0) = R2 at HP ⊢
 obtain ⟨kb, hkb⟩ : ∃ kb, kb = w.heap.size := ⟨_, rfl⟩
 rw [<- hkb] at y0 y1 y2 y3 y4 l1 HSW
 generalize s.mb = mb at *
 clear h H hb1 hx hxa hxb
 go_enter Tryz.func47, Tryz.ntmps47
 go_upto_region 1 with fail
 rw [<- hW, <- hkb]
 clear hW hkb
 have S8 : (fun w' : World => w'.cell? ⟨kb, 0, none⟩ = some (.int .i64 op) /\ w'.cell? ⟨kb, 1, none⟩ = some (.int .i64 (a : Int)) /\ w'.cell? ⟨kb, 2, none⟩ = some (.int .i64 (b : Int)) /\ w'.cell? ⟨kb, 3, none⟩ = some (.int .i64 (c : Int)) /\ w'.cell? ⟨kb, 4, none⟩ = some (.int .i64 n) /\ w'.cell? ⟨mb, 42 + a, none⟩ = some (.int .i64 xa) /\ w'.cell? ⟨mb, 42 + b, none⟩ = some (.int .i64 xb) /\ mb < w'.heap.size /\ kb < w'.heap.size) W.drew := ⟨y0, y1, y2, y3, y4, ra, rb, hlW, l1⟩
 refine lec_start (S := fun w' : World => w'.cell? ⟨kb, 0, none⟩ = some (.int .i64 op) /\ w'.cell? ⟨kb, 1, none⟩ = some (.int .i64 (a : Int)) /\ w'.cell? ⟨kb, 2, none⟩ = some (.int .i64 (b : Int)) /\ w'.cell? ⟨kb, 3, none⟩ = some (.int .i64 (c : Int)) /\ w'.cell? ⟨kb, 4, none⟩ = some (.int .i64 n) /\ w'.cell? ⟨mb, 42 + a, none⟩ = some (.int .i64 xa) /\ w'.cell? ⟨mb, 42 + b, none⟩ = some (.int .i64 xb) /\ mb < w'.heap.size /\ kb < w'.heap.size) (z := 10) (by kernel_rfl) ?_
 show lec _ _ _ _ _ 11 _ _ _
 try simp only [List.size_toArray, List.length_cons, List.length_nil, Array.replicate]
 refine lec_takeP (i := 0) (v := ?v0z) rfl (by kernel_rfl) (by kernel_rfl) (by kernel_rfl) (by kernel_rfl) (fun _ _ _ h => h) (.inl ⟨by rfl, ?hy0z⟩) S8 ?rest0z
 case hy0z =>
  rintro w' _
  go_simp
  all_goals with_reducible rfl
 try simp only [Act.put, List.getElem_toArray, List.getElem_cons_succ, List.getElem_cons_zero, List.setIfInBounds_toArray, List.set_cons_zero, List.set_cons_succ]
 refine lec_takeP (i := 1) (v := ?v1z) rfl (by kernel_rfl) (by kernel_rfl) (by kernel_rfl) (by kernel_rfl) (fun _ _ _ h => h) (.inl ⟨by rfl, ?hy1z⟩) S8 ?rest1z
 case hy1z =>
  rintro w' _
  go_simp
  all_goals with_reducible rfl
 try simp only [Act.put, List.getElem_toArray, List.getElem_cons_succ, List.getElem_cons_zero, List.setIfInBounds_toArray, List.set_cons_zero, List.set_cons_succ]
 refine lec_takeT [6, 7, 8, 9, 10] (i := 2) (v := ?v2z) rfl (by kernel_rfl) (by kernel_rfl) (by kernel_rfl) (by kernel_rfl) (fun _ _ _ h => h) (.inl ⟨by rfl, ?hy2z⟩) S8 ?rest2z
 case hy2z =>
  rintro w' ⟨g0, g1, g2, g3, g4, g5, g6, g7, g8⟩
  go_simp
  all_goals with_reducible rfl
 try simp only [Act.put, List.getElem_toArray, List.getElem_cons_succ, List.getElem_cons_zero, List.setIfInBounds_toArray, List.set_cons_zero, List.set_cons_succ]
 refine lec_takeP (i := 3) (v := ?v3z) rfl (by kernel_rfl) (by kernel_rfl) (by kernel_rfl) (by kernel_rfl) (fun _ _ _ h => h) (.inl ⟨by rfl, ?hy3z⟩) S8 ?rest3z
 case hy3z =>
  rintro w' _
  go_simp
  all_goals with_reducible rfl
 try simp only [Act.put, List.getElem_toArray, List.getElem_cons_succ, List.getElem_cons_zero, List.setIfInBounds_toArray, List.set_cons_zero, List.set_cons_succ]
 refine lec_takeP (i := 4) (v := ?v4z) rfl (by kernel_rfl) (by kernel_rfl) (by kernel_rfl) (by kernel_rfl) (fun _ _ _ h => h) (.inl ⟨by rfl, ?hy4z⟩) S8 ?rest4z
 case hy4z =>
  rintro w' _
  go_simp
  all_goals with_reducible rfl
 try simp only [Act.put, List.getElem_toArray, List.getElem_cons_succ, List.getElem_cons_zero, List.setIfInBounds_toArray, List.set_cons_zero, List.set_cons_succ]
 refine lec_takeP (i := 5) (v := ?v5z) rfl (by kernel_rfl) (by kernel_rfl) (by kernel_rfl) (by kernel_rfl) (fun _ _ _ h => h) (.inl ⟨by rfl, ?hy5z⟩) S8 ?rest5z
 case hy5z =>
  rintro w' _
  go_simp
  all_goals with_reducible rfl
 try simp only [Act.put, List.getElem_toArray, List.getElem_cons_succ, List.getElem_cons_zero, List.setIfInBounds_toArray, List.set_cons_zero, List.set_cons_succ]
 refine lec_takeP (i := 6) (v := ?v6z) rfl (by kernel_rfl) (by kernel_rfl) (by kernel_rfl) (by kernel_rfl) (fun _ _ _ h => h) (.inl ⟨by rfl, ?hy6z⟩) S8 ?rest6z
 case hy6z =>
  rintro w' _
  go_simp
  all_goals with_reducible rfl
 try simp only [Act.put, List.getElem_toArray, List.getElem_cons_succ, List.getElem_cons_zero, List.setIfInBounds_toArray, List.set_cons_zero, List.set_cons_succ]
 refine lec_takeT [8, 9, 10] (i := 7) (v := ?v7z) rfl (by kernel_rfl) (by kernel_rfl) (by kernel_rfl) (by kernel_rfl) (fun _ _ _ h => h) (.inl ⟨by rfl, ?hy7z⟩) S8 ?rest7z
 case hy7z =>
  rintro w' ⟨g0, g1, g2, g3, g4, g5, g6, g7, g8⟩
  go_simp
  all_goals with_reducible rfl
 try simp only [Act.put, List.getElem_toArray, List.getElem_cons_succ, List.getElem_cons_zero, List.setIfInBounds_toArray, List.set_cons_zero, List.set_cons_succ]
 refine lec_one (i := 8) rfl (by kernel_rfl) ?_
 intro K8 hK8
 rw [if_pos (by rfl)]
 go_simp
 refine Calls.mono (HI.out _) ?_
 rintro e w2 ⟨rfl, rfl⟩
 go_simp
 refine hK8 _ _ (fun _ => S8) ?_
 clear hK8
 try simp only [Act.put, List.getElem_toArray, List.getElem_cons_succ, List.getElem_cons_zero, List.setIfInBounds_toArray, List.set_cons_zero, List.set_cons_succ]
 refine lec_takeP (i := 9) (v := ?v9z) rfl (by kernel_rfl) (by kernel_rfl) (by kernel_rfl) (by kernel_rfl) (fun _ _ _ h => h) (.inl ⟨by rfl, ?hy9z⟩) S8 ?rest9z
 case hy9z =>
  rintro w' _
  go_simp
  all_goals with_reducible rfl
 try simp only [Act.put, List.getElem_toArray, List.getElem_cons_succ, List.getElem_cons_zero, List.setIfInBounds_toArray, List.set_cons_zero, List.set_cons_succ]
 refine lec_one (i := 10) rfl (by kernel_rfl) ?_
 intro K10 hK10
 rw [if_pos (by rfl)]
 go_simp
 refine Calls.mono (stuckIf_no _ _) ?_
 rintro e w2 ⟨rfl, rfl⟩
 go_simp
 refine hK10 _ _ (fun h => by cases h) ?_
 clear hK10
 try simp only [Act.put, List.getElem_toArray, List.getElem_cons_succ, List.getElem_cons_zero, List.setIfInBounds_toArray, List.set_cons_zero, List.set_cons_succ]
 refine lec_done (by kernel_rfl) ?_
 clear S8
 go_wp2_with (go_at_call 46; refine Calls.mono HP.out ?_; rintro e w2 ⟨rfl, h2⟩; have H2 : Hid _ := h2; clear h2)
 exact bodyPost_end (v := .tuple #[]) (by simp [results, Tryz.results47, go_sem]) rfl ⟨rfl, HFO.out _ _ _ HB1.out H2.out⟩
set_option maxRecDepth 100000 in
set_option maxHeartbeats 4000000 in
theorem rTellB_st {s d w R} (h : Rm s d w R) (op : Int) (a b c : Nat) (n : Int) (ha : a < 16) (ho : 1 <= op /\ op <= 38) (hq : ¬ (R.rg.getD a 0 = 0 \/ R.rg.getD a 0 = 1)) :
 Calls Tryz.prog 65 #[.pointer (some ⟨s.mb, 0, none⟩), .agg #[.int .i64 op, .int .i64 (a : Int), .int .i64 (b : Int), .int .i64 (c : Int), .int .i64 n]] w fun e w' => e = .panicked [{ v := .iface 137 (.int .i64 5), recovered := false }] /\ Below w.heap.size w w' := by
 obtain ⟨W, hW⟩ : ∃ W, W = w.alloc (.cells #[.int .i64 op, .int .i64 (a : Int), .int .i64 (b : Int), .int .i64 (c : Int), .int .i64 n] 71) := ⟨_, rfl⟩
 have hb1 : Below w.heap.size w W := by rw [hW]; exact below_newR w _
 have hx : W.heap[w.heap.size]? = some (.cells #[.int .i64 op, .int .i64 (a : Int), .int .i64 (b : Int), .int .i64 (c : Int), .int .i64 n] 71 (0, 0)) := by rw [hW]; exact heap_alloc_new _ _
 have l1 : w.heap.size < W.heap.size := (gl hx)
 have H := h.below hb1
 have hlt := h.lt
 have hlW := H.lt
 have hai : (a : Int) < 16 := by omega
 obtain ⟨xa, hxa⟩ : ∃ xa, xa = R.rg.getD a 0 := ⟨_, rfl⟩
 have y0 : W.cell? ⟨w.heap.size, 0, none⟩ = some (.int .i64 op) := cell_arr hx rfl
 have y1 : W.cell? ⟨w.heap.size, 1, none⟩ = some (.int .i64 (a : Int)) := cell_arr hx rfl
 have y2 : W.cell? ⟨w.heap.size, 2, none⟩ = some (.int .i64 (b : Int)) := cell_arr hx rfl
 have y3 : W.cell? ⟨w.heap.size, 3, none⟩ = some (.int .i64 (c : Int)) := cell_arr hx rfl
 have y4 : W.cell? ⟨w.heap.size, 4, none⟩ = some (.int .i64 n) := cell_arr hx rfl
 have ra : W.cell? ⟨s.mb, 42 + a, none⟩ = some (.int .i64 xa) := by rw [hxa]; exact H.reg ha
 have HSW : Hid (∀ w2, Below W.heap.size W w2 -> w2.cell? ⟨w.heap.size, 0, none⟩ = some (.int .i64 op) /\ w2.cell? ⟨w.heap.size, 1, none⟩ = some (.int .i64 (a : Int)) /\ w2.cell? ⟨w.heap.size, 2, none⟩ = some (.int .i64 (b : Int)) /\ w2.cell? ⟨w.heap.size, 3, none⟩ = some (.int .i64 (c : Int)) /\ w2.cell? ⟨w.heap.size, 4, none⟩ = some (.int .i64 n) /\ w2.cell? ⟨s.mb, 42 + a, none⟩ = some (.int .i64 xa) /\ s.mb < w2.heap.size /\ w.heap.size < w2.heap.size) := fun w2 hb2 => by
  have q := H.below hb2
  have ex := (hb2.block _ l1).trans hx
  rw [hxa]
  exact ⟨cell_arr ex rfl, cell_arr ex rfl, cell_arr ex rfl, cell_arr ex rfl, cell_arr ex rfl, q.reg ha, q.lt, (gl ex)⟩
 have HI : Hid (∀ w3, Calls Tryz.prog 94 #[.int .i64 xa] w3 fun e w' => e = .returned (.bool false) /\ w' = w3) := fun w3 => by
  have := isBoolR w3 xa
  rw [show decide (xa = 0 \/ xa = 1) = false from decide_eq_false (by rw [hxa]; exact hq)] at this
  exact this
 clear hq
 have HST : Hid (Below w.heap.size w W.drew) := hb1.drew
 obtain ⟨kb, hkb⟩ : ∃ kb, kb = w.heap.size := ⟨_, rfl⟩
 rw [<- hkb] at y0 y1 y2 y3 y4 l1 HSW
 generalize s.mb = mb at *
 clear h H hb1 hx hxa
 go_enter Tryz.func65, Tryz.ntmps65
 go_upto_region 1 with fail
 rw [<- hW, <- hkb]
 clear hW hkb
 have S8 : (fun w' : World => w'.cell? ⟨kb, 0, none⟩ = some (.int .i64 op) /\ w'.cell? ⟨kb, 1, none⟩ = some (.int .i64 (a : Int)) /\ w'.cell? ⟨kb, 2, none⟩ = some (.int .i64 (b : Int)) /\ w'.cell? ⟨kb, 3, none⟩ = some (.int .i64 (c : Int)) /\ w'.cell? ⟨kb, 4, none⟩ = some (.int .i64 n) /\ w'.cell? ⟨mb, 42 + a, none⟩ = some (.int .i64 xa) /\ mb < w'.heap.size /\ kb < w'.heap.size) W.drew := ⟨y0, y1, y2, y3, y4, ra, hlW, l1⟩
 refine lec_start (S := fun w' : World => w'.cell? ⟨kb, 0, none⟩ = some (.int .i64 op) /\ w'.cell? ⟨kb, 1, none⟩ = some (.int .i64 (a : Int)) /\ w'.cell? ⟨kb, 2, none⟩ = some (.int .i64 (b : Int)) /\ w'.cell? ⟨kb, 3, none⟩ = some (.int .i64 (c : Int)) /\ w'.cell? ⟨kb, 4, none⟩ = some (.int .i64 n) /\ w'.cell? ⟨mb, 42 + a, none⟩ = some (.int .i64 xa) /\ mb < w'.heap.size /\ kb < w'.heap.size) (z := 10) (by kernel_rfl) ?_
 show lec _ _ _ _ _ 11 _ _ _
 try simp only [List.size_toArray, List.length_cons, List.length_nil, Array.replicate]
 refine lec_takeP (i := 0) (v := ?v0z) rfl (by kernel_rfl) (by kernel_rfl) (by kernel_rfl) (by kernel_rfl) (fun _ _ _ h => h) (.inl ⟨by rfl, ?hy0z⟩) S8 ?rest0z
 case hy0z =>
  rintro w' _
  go_simp
  all_goals with_reducible rfl
 try simp only [Act.put, List.getElem_toArray, List.getElem_cons_succ, List.getElem_cons_zero, List.setIfInBounds_toArray, List.set_cons_zero, List.set_cons_succ]
 refine lec_takeP (i := 1) (v := ?v1z) rfl (by kernel_rfl) (by kernel_rfl) (by kernel_rfl) (by kernel_rfl) (fun _ _ _ h => h) (.inl ⟨by rfl, ?hy1z⟩) S8 ?rest1z
 case hy1z =>
  rintro w' _
  go_simp
  all_goals with_reducible rfl
 try simp only [Act.put, List.getElem_toArray, List.getElem_cons_succ, List.getElem_cons_zero, List.setIfInBounds_toArray, List.set_cons_zero, List.set_cons_succ]
 refine lec_takeT [6, 7, 8, 9, 10] (i := 2) (v := ?v2z) rfl (by kernel_rfl) (by kernel_rfl) (by kernel_rfl) (by kernel_rfl) (fun _ _ _ h => h) (.inl ⟨by rfl, ?hy2z⟩) S8 ?rest2z
 case hy2z =>
  rintro w' ⟨g0, g1, g2, g3, g4, g5, g6, g7⟩
  go_simp
  all_goals with_reducible rfl
 try simp only [Act.put, List.getElem_toArray, List.getElem_cons_succ, List.getElem_cons_zero, List.setIfInBounds_toArray, List.set_cons_zero, List.set_cons_succ]
 refine lec_takeP (i := 3) (v := ?v3z) rfl (by kernel_rfl) (by kernel_rfl) (by kernel_rfl) (by kernel_rfl) (fun _ _ _ h => h) (.inl ⟨by rfl, ?hy3z⟩) S8 ?rest3z
 case hy3z =>
  rintro w' _
  go_simp
  all_goals with_reducible rfl
 try simp only [Act.put, List.getElem_toArray, List.getElem_cons_succ, List.getElem_cons_zero, List.setIfInBounds_toArray, List.set_cons_zero, List.set_cons_succ]
 refine lec_takeP (i := 4) (v := ?v4z) rfl (by kernel_rfl) (by kernel_rfl) (by kernel_rfl) (by kernel_rfl) (fun _ _ _ h => h) (.inl ⟨by rfl, ?hy4z⟩) S8 ?rest4z
 case hy4z =>
  rintro w' _
  go_simp
  all_goals with_reducible rfl
 try simp only [Act.put, List.getElem_toArray, List.getElem_cons_succ, List.getElem_cons_zero, List.setIfInBounds_toArray, List.set_cons_zero, List.set_cons_succ]
 refine lec_takeP (i := 5) (v := ?v5z) rfl (by kernel_rfl) (by kernel_rfl) (by kernel_rfl) (by kernel_rfl) (fun _ _ _ h => h) (.inl ⟨by rfl, ?hy5z⟩) S8 ?rest5z
 case hy5z =>
  rintro w' _
  go_simp
  all_goals with_reducible rfl
 try simp only [Act.put, List.getElem_toArray, List.getElem_cons_succ, List.getElem_cons_zero, List.setIfInBounds_toArray, List.set_cons_zero, List.set_cons_succ]
 refine lec_takeP (i := 6) (v := ?v6z) rfl (by kernel_rfl) (by kernel_rfl) (by kernel_rfl) (by kernel_rfl) (fun _ _ _ h => h) (.inl ⟨by rfl, ?hy6z⟩) S8 ?rest6z
 case hy6z =>
  rintro w' _
  go_simp
  all_goals with_reducible rfl
 try simp only [Act.put, List.getElem_toArray, List.getElem_cons_succ, List.getElem_cons_zero, List.setIfInBounds_toArray, List.set_cons_zero, List.set_cons_succ]
 refine lec_takeT [8, 9, 10] (i := 7) (v := ?v7z) rfl (by kernel_rfl) (by kernel_rfl) (by kernel_rfl) (by kernel_rfl) (fun _ _ _ h => h) (.inl ⟨by rfl, ?hy7z⟩) S8 ?rest7z
 case hy7z =>
  rintro w' ⟨g0, g1, g2, g3, g4, g5, g6, g7⟩
  go_simp
  all_goals with_reducible rfl
 try simp only [Act.put, List.getElem_toArray, List.getElem_cons_succ, List.getElem_cons_zero, List.setIfInBounds_toArray, List.set_cons_zero, List.set_cons_succ]
 refine lec_one (i := 8) rfl (by kernel_rfl) ?_
 intro K8 hK8
 rw [if_pos (by rfl)]
 go_simp
 refine Calls.mono (HI.out _) ?_
 rintro e w2 ⟨rfl, rfl⟩
 go_simp
 refine hK8 _ _ (fun _ => S8) ?_
 clear hK8
 try simp only [Act.put, List.getElem_toArray, List.getElem_cons_succ, List.getElem_cons_zero, List.setIfInBounds_toArray, List.set_cons_zero, List.set_cons_succ]
 refine lec_takeP (i := 9) (v := ?v9z) rfl (by kernel_rfl) (by kernel_rfl) (by kernel_rfl) (by kernel_rfl) (fun _ _ _ h => h) (.inl ⟨by rfl, ?hy9z⟩) S8 ?rest9z
 case hy9z =>
  rintro w' _
  go_simp
  all_goals with_reducible rfl
 try simp only [Act.put, List.getElem_toArray, List.getElem_cons_succ, List.getElem_cons_zero, List.setIfInBounds_toArray, List.set_cons_zero, List.set_cons_succ]
 refine lec_one (i := 10) rfl (by kernel_rfl) ?_
 intro K10 hK10
 rw [if_pos (by rfl)]
 go_simp
 refine Calls.mono (stuckIf_yes _ _) ?_
 rintro e w2 ⟨rfl, rfl⟩
 go_simp
 exact ⟨rfl, rfl, HST.out⟩
set_option maxRecDepth 100000 in
set_option maxHeartbeats 4000000 in
theorem rNot_st {s d w R} (h : Rm s d w R) (op : Int) (a b c : Nat) (n : Int) (hb : b < 16) (ho : 1 <= op /\ op <= 38) (hq : ¬ (R.rg.getD b 0 = 0 \/ R.rg.getD b 0 = 1)) :
 Calls Tryz.prog 47 #[.pointer (some ⟨s.mb, 0, none⟩), .agg #[.int .i64 op, .int .i64 (a : Int), .int .i64 (b : Int), .int .i64 (c : Int), .int .i64 n]] w fun e w' => e = .panicked [{ v := .iface 137 (.int .i64 5), recovered := false }] /\ Below w.heap.size w w' := by
 obtain ⟨W, hW⟩ : ∃ W, W = w.alloc (.cells #[.int .i64 op, .int .i64 (a : Int), .int .i64 (b : Int), .int .i64 (c : Int), .int .i64 n] 71) := ⟨_, rfl⟩
 have hb1 : Below w.heap.size w W := by rw [hW]; exact below_newR w _
 have hx : W.heap[w.heap.size]? = some (.cells #[.int .i64 op, .int .i64 (a : Int), .int .i64 (b : Int), .int .i64 (c : Int), .int .i64 n] 71 (0, 0)) := by rw [hW]; exact heap_alloc_new _ _
 have l1 : w.heap.size < W.heap.size := (gl hx)
 have H := h.below hb1
 have hlt := h.lt
 have hlW := H.lt
 have hbi : (b : Int) < 16 := by omega
 obtain ⟨xb, hxb⟩ : ∃ xb, xb = R.rg.getD b 0 := ⟨_, rfl⟩
 have y0 : W.cell? ⟨w.heap.size, 0, none⟩ = some (.int .i64 op) := cell_arr hx rfl
 have y1 : W.cell? ⟨w.heap.size, 1, none⟩ = some (.int .i64 (a : Int)) := cell_arr hx rfl
 have y2 : W.cell? ⟨w.heap.size, 2, none⟩ = some (.int .i64 (b : Int)) := cell_arr hx rfl
 have y3 : W.cell? ⟨w.heap.size, 3, none⟩ = some (.int .i64 (c : Int)) := cell_arr hx rfl
 have y4 : W.cell? ⟨w.heap.size, 4, none⟩ = some (.int .i64 n) := cell_arr hx rfl
 have rb : W.cell? ⟨s.mb, 42 + b, none⟩ = some (.int .i64 xb) := by rw [hxb]; exact H.reg hb
 have HSW : Hid (∀ w2, Below W.heap.size W w2 -> w2.cell? ⟨w.heap.size, 0, none⟩ = some (.int .i64 op) /\ w2.cell? ⟨w.heap.size, 1, none⟩ = some (.int .i64 (a : Int)) /\ w2.cell? ⟨w.heap.size, 2, none⟩ = some (.int .i64 (b : Int)) /\ w2.cell? ⟨w.heap.size, 3, none⟩ = some (.int .i64 (c : Int)) /\ w2.cell? ⟨w.heap.size, 4, none⟩ = some (.int .i64 n) /\ w2.cell? ⟨s.mb, 42 + b, none⟩ = some (.int .i64 xb) /\ s.mb < w2.heap.size /\ w.heap.size < w2.heap.size) := fun w2 hb2 => by
  have q := H.below hb2
  have ex := (hb2.block _ l1).trans hx
  rw [hxb]
  exact ⟨cell_arr ex rfl, cell_arr ex rfl, cell_arr ex rfl, cell_arr ex rfl, cell_arr ex rfl, q.reg hb, q.lt, (gl ex)⟩
 have HI : Hid (∀ w3, Calls Tryz.prog 94 #[.int .i64 xb] w3 fun e w' => e = .returned (.bool false) /\ w' = w3) := fun w3 => by
  have := isBoolR w3 xb
  rw [show decide (xb = 0 \/ xb = 1) = false from decide_eq_false (by rw [hxb]; exact hq)] at this
  exact this
 clear hq
 have HST : Hid (Below w.heap.size w W.drew) := hb1.drew
 obtain ⟨kb, hkb⟩ : ∃ kb, kb = w.heap.size := ⟨_, rfl⟩
 rw [<- hkb] at y0 y1 y2 y3 y4 l1 HSW
 generalize s.mb = mb at *
 clear h H hb1 hx hxb
 go_enter Tryz.func47, Tryz.ntmps47
 go_upto_region 1 with fail
 rw [<- hW, <- hkb]
 clear hW hkb
 have S8 : (fun w' : World => w'.cell? ⟨kb, 0, none⟩ = some (.int .i64 op) /\ w'.cell? ⟨kb, 1, none⟩ = some (.int .i64 (a : Int)) /\ w'.cell? ⟨kb, 2, none⟩ = some (.int .i64 (b : Int)) /\ w'.cell? ⟨kb, 3, none⟩ = some (.int .i64 (c : Int)) /\ w'.cell? ⟨kb, 4, none⟩ = some (.int .i64 n) /\ w'.cell? ⟨mb, 42 + b, none⟩ = some (.int .i64 xb) /\ mb < w'.heap.size /\ kb < w'.heap.size) W.drew := ⟨y0, y1, y2, y3, y4, rb, hlW, l1⟩
 refine lec_start (S := fun w' : World => w'.cell? ⟨kb, 0, none⟩ = some (.int .i64 op) /\ w'.cell? ⟨kb, 1, none⟩ = some (.int .i64 (a : Int)) /\ w'.cell? ⟨kb, 2, none⟩ = some (.int .i64 (b : Int)) /\ w'.cell? ⟨kb, 3, none⟩ = some (.int .i64 (c : Int)) /\ w'.cell? ⟨kb, 4, none⟩ = some (.int .i64 n) /\ w'.cell? ⟨mb, 42 + b, none⟩ = some (.int .i64 xb) /\ mb < w'.heap.size /\ kb < w'.heap.size) (z := 10) (by kernel_rfl) ?_
 show lec _ _ _ _ _ 11 _ _ _
 try simp only [List.size_toArray, List.length_cons, List.length_nil, Array.replicate]
 refine lec_takeP (i := 0) (v := ?v0z) rfl (by kernel_rfl) (by kernel_rfl) (by kernel_rfl) (by kernel_rfl) (fun _ _ _ h => h) (.inl ⟨by rfl, ?hy0z⟩) S8 ?rest0z
 case hy0z =>
  rintro w' _
  go_simp
  all_goals with_reducible rfl
 try simp only [Act.put, List.getElem_toArray, List.getElem_cons_succ, List.getElem_cons_zero, List.setIfInBounds_toArray, List.set_cons_zero, List.set_cons_succ]
 refine lec_takeP (i := 1) (v := ?v1z) rfl (by kernel_rfl) (by kernel_rfl) (by kernel_rfl) (by kernel_rfl) (fun _ _ _ h => h) (.inl ⟨by rfl, ?hy1z⟩) S8 ?rest1z
 case hy1z =>
  rintro w' _
  go_simp
  all_goals with_reducible rfl
 try simp only [Act.put, List.getElem_toArray, List.getElem_cons_succ, List.getElem_cons_zero, List.setIfInBounds_toArray, List.set_cons_zero, List.set_cons_succ]
 refine lec_takeT [6, 7, 8, 9, 10] (i := 2) (v := ?v2z) rfl (by kernel_rfl) (by kernel_rfl) (by kernel_rfl) (by kernel_rfl) (fun _ _ _ h => h) (.inl ⟨by rfl, ?hy2z⟩) S8 ?rest2z
 case hy2z =>
  rintro w' ⟨g0, g1, g2, g3, g4, g5, g6, g7⟩
  go_simp
  all_goals with_reducible rfl
 try simp only [Act.put, List.getElem_toArray, List.getElem_cons_succ, List.getElem_cons_zero, List.setIfInBounds_toArray, List.set_cons_zero, List.set_cons_succ]
 refine lec_takeP (i := 3) (v := ?v3z) rfl (by kernel_rfl) (by kernel_rfl) (by kernel_rfl) (by kernel_rfl) (fun _ _ _ h => h) (.inl ⟨by rfl, ?hy3z⟩) S8 ?rest3z
 case hy3z =>
  rintro w' _
  go_simp
  all_goals with_reducible rfl
 try simp only [Act.put, List.getElem_toArray, List.getElem_cons_succ, List.getElem_cons_zero, List.setIfInBounds_toArray, List.set_cons_zero, List.set_cons_succ]
 refine lec_takeP (i := 4) (v := ?v4z) rfl (by kernel_rfl) (by kernel_rfl) (by kernel_rfl) (by kernel_rfl) (fun _ _ _ h => h) (.inl ⟨by rfl, ?hy4z⟩) S8 ?rest4z
 case hy4z =>
  rintro w' _
  go_simp
  all_goals with_reducible rfl
 try simp only [Act.put, List.getElem_toArray, List.getElem_cons_succ, List.getElem_cons_zero, List.setIfInBounds_toArray, List.set_cons_zero, List.set_cons_succ]
 refine lec_takeP (i := 5) (v := ?v5z) rfl (by kernel_rfl) (by kernel_rfl) (by kernel_rfl) (by kernel_rfl) (fun _ _ _ h => h) (.inl ⟨by rfl, ?hy5z⟩) S8 ?rest5z
 case hy5z =>
  rintro w' _
  go_simp
  all_goals with_reducible rfl
 try simp only [Act.put, List.getElem_toArray, List.getElem_cons_succ, List.getElem_cons_zero, List.setIfInBounds_toArray, List.set_cons_zero, List.set_cons_succ]
 refine lec_takeP (i := 6) (v := ?v6z) rfl (by kernel_rfl) (by kernel_rfl) (by kernel_rfl) (by kernel_rfl) (fun _ _ _ h => h) (.inl ⟨by rfl, ?hy6z⟩) S8 ?rest6z
 case hy6z =>
  rintro w' _
  go_simp
  all_goals with_reducible rfl
 try simp only [Act.put, List.getElem_toArray, List.getElem_cons_succ, List.getElem_cons_zero, List.setIfInBounds_toArray, List.set_cons_zero, List.set_cons_succ]
 refine lec_takeT [8, 9, 10] (i := 7) (v := ?v7z) rfl (by kernel_rfl) (by kernel_rfl) (by kernel_rfl) (by kernel_rfl) (fun _ _ _ h => h) (.inl ⟨by rfl, ?hy7z⟩) S8 ?rest7z
 case hy7z =>
  rintro w' ⟨g0, g1, g2, g3, g4, g5, g6, g7⟩
  go_simp
  all_goals with_reducible rfl
 try simp only [Act.put, List.getElem_toArray, List.getElem_cons_succ, List.getElem_cons_zero, List.setIfInBounds_toArray, List.set_cons_zero, List.set_cons_succ]
 refine lec_one (i := 8) rfl (by kernel_rfl) ?_
 intro K8 hK8
 rw [if_pos (by rfl)]
 go_simp
 refine Calls.mono (HI.out _) ?_
 rintro e w2 ⟨rfl, rfl⟩
 go_simp
 refine hK8 _ _ (fun _ => S8) ?_
 clear hK8
 try simp only [Act.put, List.getElem_toArray, List.getElem_cons_succ, List.getElem_cons_zero, List.setIfInBounds_toArray, List.set_cons_zero, List.set_cons_succ]
 refine lec_takeP (i := 9) (v := ?v9z) rfl (by kernel_rfl) (by kernel_rfl) (by kernel_rfl) (by kernel_rfl) (fun _ _ _ h => h) (.inl ⟨by rfl, ?hy9z⟩) S8 ?rest9z
 case hy9z =>
  rintro w' _
  go_simp
  all_goals with_reducible rfl
 try simp only [Act.put, List.getElem_toArray, List.getElem_cons_succ, List.getElem_cons_zero, List.setIfInBounds_toArray, List.set_cons_zero, List.set_cons_succ]
 refine lec_one (i := 10) rfl (by kernel_rfl) ?_
 intro K10 hK10
 rw [if_pos (by rfl)]
 go_simp
 refine Calls.mono (stuckIf_yes _ _) ?_
 rintro e w2 ⟨rfl, rfl⟩
 go_simp
 exact ⟨rfl, rfl, HST.out⟩
end Go.Proofs.YtfofmmkihhnfmaaGreatDoor
