import Derived.Test.YtfofmmkihhnfmaaGreatDoorJas
set_option linter.unusedVariables false
set_option linter.unusedSimpArgs false
namespace Go.Proofs.YtfofmmkihhnfmaaGreatDoor
open Go.ChangeShapes Go.WideShapes Go.ChangeAt Go.RowKit Go.Maps
set_option maxRecDepth 100000 in
set_option maxHeartbeats 4000000 in
theorem rGetW {s d w R} (h : Rm s d w R) (op : Int) (a b c : Nat) (n : Int) (ha : a < 16) (hk : Fits (R.base + n)) :
 Calls Tryz.prog 51 #[.pointer (some ⟨s.mb, 0, none⟩), .agg #[.int .i64 op, .int .i64 (a : Int), .int .i64 (b : Int), .int .i64 (c : Int), .int .i64 n]] w fun e w' => e = .returned (.tuple #[]) /\ ∃ d', Rm s d' w' (R.set a (R.sw (R.base + n))) /\ FooR s d d' w w' := by
 obtain ⟨W, hW⟩ : ∃ W, W = w.alloc (.cells #[.int .i64 op, .int .i64 (a : Int), .int .i64 (b : Int), .int .i64 (c : Int), .int .i64 n] 71) := ⟨_, rfl⟩
 have hb1 : Below w.heap.size w W := by rw [hW]; exact below_newR w _
 have hx : W.heap[w.heap.size]? = some (.cells #[.int .i64 op, .int .i64 (a : Int), .int .i64 (b : Int), .int .i64 (c : Int), .int .i64 n] 71 (0, 0)) := by rw [hW]; exact heap_alloc_new _ _
 have l1 : w.heap.size < W.heap.size := (gl hx)
 have H := h.below hb1
 have hlt := h.lt
 have hlW := H.lt
 have hai : (a : Int) < 16 := by omega
 obtain ⟨xa, hxa⟩ : ∃ xa, xa = R.rg.getD a 0 := ⟨_, rfl⟩
 have y0 : W.cell? ⟨w.heap.size, 0, none⟩ = some (.int .i64 op) := cell_arr hx rfl
 have y1 : W.cell? ⟨w.heap.size, 1, none⟩ = some (.int .i64 (a : Int)) := cell_arr hx rfl
 have y2 : W.cell? ⟨w.heap.size, 2, none⟩ = some (.int .i64 (b : Int)) := cell_arr hx rfl
 have y3 : W.cell? ⟨w.heap.size, 3, none⟩ = some (.int .i64 (c : Int)) := cell_arr hx rfl
 have y4 : W.cell? ⟨w.heap.size, 4, none⟩ = some (.int .i64 n) := cell_arr hx rfl
 have ra : W.cell? ⟨s.mb, 42 + a, none⟩ = some (.int .i64 xa) := by rw [hxa]; exact H.reg ha
 have HSW : Hid (∀ w2, Below W.heap.size W w2 -> w2.cell? ⟨w.heap.size, 0, none⟩ = some (.int .i64 op) /\ w2.cell? ⟨w.heap.size, 1, none⟩ = some (.int .i64 (a : Int)) /\ w2.cell? ⟨w.heap.size, 2, none⟩ = some (.int .i64 (b : Int)) /\ w2.cell? ⟨w.heap.size, 3, none⟩ = some (.int .i64 (c : Int)) /\ w2.cell? ⟨w.heap.size, 4, none⟩ = some (.int .i64 n) /\ w2.cell? ⟨s.mb, 42 + a, none⟩ = some (.int .i64 xa) /\ s.mb < w2.heap.size /\ w.heap.size < w2.heap.size) := fun w2 hb2 => by
  have q := H.below hb2
  have ex := (hb2.block _ l1).trans hx
  rw [hxa]
  exact ⟨cell_arr ex rfl, cell_arr ex rfl, cell_arr ex rfl, cell_arr ex rfl, cell_arr ex rfl, q.reg ha, q.lt, (gl ex)⟩
 have HGT : Hid (Calls Tryz.prog 95 #[.pointer (some ⟨s.mb, 58, none⟩), .int .i64 n] W.drew fun e w2 => e = .returned (.int .i64 (R.sw (R.base + n))) /\ (w2.cell? ⟨w.heap.size, 0, none⟩ = some (.int .i64 op) /\ w2.cell? ⟨w.heap.size, 1, none⟩ = some (.int .i64 (a : Int)) /\ w2.cell? ⟨w.heap.size, 2, none⟩ = some (.int .i64 (b : Int)) /\ w2.cell? ⟨w.heap.size, 3, none⟩ = some (.int .i64 (c : Int)) /\ w2.cell? ⟨w.heap.size, 4, none⟩ = some (.int .i64 n) /\ w2.cell? ⟨s.mb, 42 + a, none⟩ = some (.int .i64 xa) /\ s.mb < w2.heap.size /\ w.heap.size < w2.heap.size) /\ w2.frozen? ⟨s.mb, 42 + a, none⟩ = false /\ ∃ d', Rm s d' (w2.setCell ⟨s.mb, 42 + a, none⟩ (.int .i64 (R.sw (R.base + n)))) (R.set a (R.sw (R.base + n))) /\ FooR s d d' w (w2.setCell ⟨s.mb, 42 + a, none⟩ (.int .i64 (R.sw (R.base + n))))) := by
  refine (rSGet (H.below (Below.refl _ _).drew) n hk).mono ?_
  rintro e w2 ⟨rfl, b⟩
  have b2 : Below W.heap.size W w2 := ((Below.refl _ _).drew).trans b
  exact ⟨rfl, HSW.out w2 b2, (H.below b2).fz _, h.lands2 ha _ w2 (hb1.trans (b2.mono hb1.size))⟩
 clear hk
 generalize R.sw (R.base + n) = vx at *
 obtain ⟨kb, hkb⟩ : ∃ kb, kb = w.heap.size := ⟨_, rfl⟩
 rw [<- hkb] at y0 y1 y2 y3 y4 l1 HSW HGT
 generalize s.mb = mb at *
 clear h H hb1 hx hxa
 go_enter Tryz.func51, Tryz.ntmps51
 go_upto_region 1 with fail
 rw [<- hW, <- hkb]
 clear hW hkb
 have S8 : (fun w' : World => w'.cell? ⟨kb, 0, none⟩ = some (.int .i64 op) /\ w'.cell? ⟨kb, 1, none⟩ = some (.int .i64 (a : Int)) /\ w'.cell? ⟨kb, 2, none⟩ = some (.int .i64 (b : Int)) /\ w'.cell? ⟨kb, 3, none⟩ = some (.int .i64 (c : Int)) /\ w'.cell? ⟨kb, 4, none⟩ = some (.int .i64 n) /\ w'.cell? ⟨mb, 42 + a, none⟩ = some (.int .i64 xa) /\ mb < w'.heap.size /\ kb < w'.heap.size) W.drew := ⟨y0, y1, y2, y3, y4, ra, hlW, l1⟩
 refine lec_start (S := fun w' : World => w'.cell? ⟨kb, 0, none⟩ = some (.int .i64 op) /\ w'.cell? ⟨kb, 1, none⟩ = some (.int .i64 (a : Int)) /\ w'.cell? ⟨kb, 2, none⟩ = some (.int .i64 (b : Int)) /\ w'.cell? ⟨kb, 3, none⟩ = some (.int .i64 (c : Int)) /\ w'.cell? ⟨kb, 4, none⟩ = some (.int .i64 n) /\ w'.cell? ⟨mb, 42 + a, none⟩ = some (.int .i64 xa) /\ mb < w'.heap.size /\ kb < w'.heap.size) (z := 14) (by kernel_rfl) ?_
 show lec _ _ _ _ _ 15 _ _ _
 try simp only [List.size_toArray, List.length_cons, List.length_nil, Array.replicate]
 refine lec_takeP (i := 0) (v := ?v0z) rfl (by kernel_rfl) (by kernel_rfl) (by kernel_rfl) (by kernel_rfl) (fun _ _ _ h => h) (.inl ⟨by rfl, ?hy0z⟩) S8 ?rest0z
 case hy0z =>
  rintro w' _
  go_simp
  all_goals with_reducible rfl
 try simp only [Act.put, List.getElem_toArray, List.getElem_cons_succ, List.getElem_cons_zero, List.setIfInBounds_toArray, List.set_cons_zero, List.set_cons_succ]
 refine lec_takeP (i := 1) (v := ?v1z) rfl (by kernel_rfl) (by kernel_rfl) (by kernel_rfl) (by kernel_rfl) (fun _ _ _ h => h) (.inl ⟨by rfl, ?hy1z⟩) S8 ?rest1z
 case hy1z =>
  rintro w' _
  go_simp
  all_goals with_reducible rfl
 try simp only [Act.put, List.getElem_toArray, List.getElem_cons_succ, List.getElem_cons_zero, List.setIfInBounds_toArray, List.set_cons_zero, List.set_cons_succ]
 refine lec_takeT [13, 14] (i := 2) (v := ?v2z) rfl (by kernel_rfl) (by kernel_rfl) (by kernel_rfl) (by kernel_rfl) (fun _ _ _ h => h) (.inl ⟨by rfl, ?hy2z⟩) S8 ?rest2z
 case hy2z =>
  rintro w' ⟨g0, g1, g2, g3, g4, g5, g6, g7⟩
  go_simp
  all_goals with_reducible rfl
 try simp only [Act.put, List.getElem_toArray, List.getElem_cons_succ, List.getElem_cons_zero, List.setIfInBounds_toArray, List.set_cons_zero, List.set_cons_succ]
 refine lec_takeP (i := 3) (v := ?v3z) rfl (by kernel_rfl) (by kernel_rfl) (by kernel_rfl) (by kernel_rfl) (fun _ _ _ h => h) (.inl ⟨by rfl, ?hy3z⟩) S8 ?rest3z
 case hy3z =>
  rintro w' _
  go_simp
  all_goals with_reducible rfl
 try simp only [Act.put, List.getElem_toArray, List.getElem_cons_succ, List.getElem_cons_zero, List.setIfInBounds_toArray, List.set_cons_zero, List.set_cons_succ]
 refine lec_takeP (i := 4) (v := ?v4z) rfl (by kernel_rfl) (by kernel_rfl) (by kernel_rfl) (by kernel_rfl) (fun _ _ _ h => h) (.inl ⟨by rfl, ?hy4z⟩) S8 ?rest4z
 case hy4z =>
  rintro w' _
  go_simp
  all_goals with_reducible rfl
 try simp only [Act.put, List.getElem_toArray, List.getElem_cons_succ, List.getElem_cons_zero, List.setIfInBounds_toArray, List.set_cons_zero, List.set_cons_succ]
 refine lec_takeP (i := 5) (v := ?v5z) rfl (by kernel_rfl) (by kernel_rfl) (by kernel_rfl) (by kernel_rfl) (fun _ _ _ h => h) (.inl ⟨by rfl, ?hy5z⟩) S8 ?rest5z
 case hy5z =>
  rintro w' _
  go_simp
  all_goals with_reducible rfl
 try simp only [Act.put, List.getElem_toArray, List.getElem_cons_succ, List.getElem_cons_zero, List.setIfInBounds_toArray, List.set_cons_zero, List.set_cons_succ]
 refine lec_takeP (i := 6) (v := ?v6z) rfl (by kernel_rfl) (by kernel_rfl) (by kernel_rfl) (by kernel_rfl) (fun _ _ _ h => h) (.inl ⟨by rfl, ?hy6z⟩) S8 ?rest6z
 case hy6z =>
  rintro w' _
  go_simp
  all_goals with_reducible rfl
 try simp only [Act.put, List.getElem_toArray, List.getElem_cons_succ, List.getElem_cons_zero, List.setIfInBounds_toArray, List.set_cons_zero, List.set_cons_succ]
 refine lec_takeP (i := 7) (v := ?v7z) rfl (by kernel_rfl) (by kernel_rfl) (by kernel_rfl) (by kernel_rfl) (fun _ _ _ h => h) (.inl ⟨by rfl, ?hy7z⟩) S8 ?rest7z
 case hy7z =>
  rintro w' _
  go_simp
  all_goals with_reducible rfl
 try simp only [Act.put, List.getElem_toArray, List.getElem_cons_succ, List.getElem_cons_zero, List.setIfInBounds_toArray, List.set_cons_zero, List.set_cons_succ]
 refine lec_takeT [9, 13, 14] (i := 8) (v := ?v8z) rfl (by kernel_rfl) (by kernel_rfl) (by kernel_rfl) (by kernel_rfl) (fun _ _ _ h => h) (.inl ⟨by rfl, ?hy8z⟩) S8 ?rest8z
 case hy8z =>
  rintro w' ⟨g0, g1, g2, g3, g4, g5, g6, g7⟩
  go_simp
  all_goals with_reducible rfl
 try simp only [Act.put, List.getElem_toArray, List.getElem_cons_succ, List.getElem_cons_zero, List.setIfInBounds_toArray, List.set_cons_zero, List.set_cons_succ]
 refine lec_takeP (i := 10) (v := ?v10z) rfl (by kernel_rfl) (by kernel_rfl) (by kernel_rfl) (by kernel_rfl) (fun _ _ _ h => h) (.inl ⟨by rfl, ?hy10z⟩) S8 ?rest10z
 case hy10z =>
  rintro w' _
  go_simp
  all_goals with_reducible rfl
 try simp only [Act.put, List.getElem_toArray, List.getElem_cons_succ, List.getElem_cons_zero, List.setIfInBounds_toArray, List.set_cons_zero, List.set_cons_succ]
 refine lec_takeP (i := 11) (v := ?v11z) rfl (by kernel_rfl) (by kernel_rfl) (by kernel_rfl) (by kernel_rfl) (fun _ _ _ h => h) (.inl ⟨by rfl, ?hy11z⟩) S8 ?rest11z
 case hy11z =>
  rintro w' _
  go_simp
  all_goals with_reducible rfl
 try simp only [Act.put, List.getElem_toArray, List.getElem_cons_succ, List.getElem_cons_zero, List.setIfInBounds_toArray, List.set_cons_zero, List.set_cons_succ]
 refine lec_takeP (i := 12) (v := ?v12z) rfl (by kernel_rfl) (by kernel_rfl) (by kernel_rfl) (by kernel_rfl) (fun _ _ _ h => h) (.inl ⟨by rfl, ?hy12z⟩) S8 ?rest12z
 case hy12z =>
  rintro w' _
  go_simp
  all_goals with_reducible rfl
 try simp only [Act.put, List.getElem_toArray, List.getElem_cons_succ, List.getElem_cons_zero, List.setIfInBounds_toArray, List.set_cons_zero, List.set_cons_succ]
 refine lec_one (i := 9) rfl (by kernel_rfl) ?_
 intro K9 hK9
 rw [if_pos (by rfl)]
 go_simp
 refine Calls.mono HGT.out ?_
 rintro e w2 ⟨rfl, s8, f2, h2⟩
 have S8 : (fun w' : World => w'.cell? ⟨kb, 0, none⟩ = some (.int .i64 op) /\ w'.cell? ⟨kb, 1, none⟩ = some (.int .i64 (a : Int)) /\ w'.cell? ⟨kb, 2, none⟩ = some (.int .i64 (b : Int)) /\ w'.cell? ⟨kb, 3, none⟩ = some (.int .i64 (c : Int)) /\ w'.cell? ⟨kb, 4, none⟩ = some (.int .i64 n) /\ w'.cell? ⟨mb, 42 + a, none⟩ = some (.int .i64 xa) /\ mb < w'.heap.size /\ kb < w'.heap.size) w2 := s8
 have r2 : w2.cell? ⟨mb, 42 + a, none⟩ = some (.int .i64 xa) := s8.2.2.2.2.2.1
 have H2 : Hid _ := h2
 clear h2 s8
 go_simp
 refine hK9 _ _ (fun _ => S8) ?_
 clear hK9
 try simp only [Act.put, List.getElem_toArray, List.getElem_cons_succ, List.getElem_cons_zero, List.setIfInBounds_toArray, List.set_cons_zero, List.set_cons_succ]
 refine lec_takeP (i := 13) (v := ?v13z) rfl (by kernel_rfl) (by kernel_rfl) (by kernel_rfl) (by kernel_rfl) (fun _ _ _ h => h) (.inl ⟨by rfl, ?hy13z⟩) S8 ?rest13z
 case hy13z =>
  rintro w' _
  go_simp
  all_goals with_reducible rfl
 try simp only [Act.put, List.getElem_toArray, List.getElem_cons_succ, List.getElem_cons_zero, List.setIfInBounds_toArray, List.set_cons_zero, List.set_cons_succ]
 refine lec_one (i := 14) rfl (by kernel_rfl) ?_
 intro K14 hK14
 rw [if_pos (by rfl)]
 go_simp
 go_simp
 refine hK14 _ _ (fun h => by cases h) ?_
 clear hK14
 try simp only [Act.put, List.getElem_toArray, List.getElem_cons_succ, List.getElem_cons_zero, List.setIfInBounds_toArray, List.set_cons_zero, List.set_cons_succ]
 refine lec_done (by kernel_rfl) ?_
 clear S8
 go_wp2_with fail
 exact bodyPost_end (v := .tuple #[]) (by simp [results, Tryz.results51, go_sem]) rfl ⟨rfl, H2.out⟩
set_option maxRecDepth 100000 in
set_option maxHeartbeats 4000000 in
theorem rSetW {s d w R} (h : Rm s d w R) (op : Int) (a b c : Nat) (n : Int) (ha : a < 16) (hk : Fits (R.base + n)) (hfx : Fits (R.rg.getD a 0)) (hcs : R.cs < 1000000000) :
 Calls Tryz.prog 52 #[.pointer (some ⟨s.mb, 0, none⟩), .agg #[.int .i64 op, .int .i64 (a : Int), .int .i64 (b : Int), .int .i64 (c : Int), .int .i64 n]] w fun e w' => e = .returned (.tuple #[]) /\ ∃ d', Rm s d' w' { R with sw := upd R.sw (R.base + n) (R.rg.getD a 0), cs := R.cs + 1 } /\ FooR s d d' w w' := by
 obtain ⟨W, hW⟩ : ∃ W, W = w.alloc (.cells #[.int .i64 op, .int .i64 (a : Int), .int .i64 (b : Int), .int .i64 (c : Int), .int .i64 n] 71) := ⟨_, rfl⟩
 have hb1 : Below w.heap.size w W := by rw [hW]; exact below_newR w _
 have hx : W.heap[w.heap.size]? = some (.cells #[.int .i64 op, .int .i64 (a : Int), .int .i64 (b : Int), .int .i64 (c : Int), .int .i64 n] 71 (0, 0)) := by rw [hW]; exact heap_alloc_new _ _
 have l1 : w.heap.size < W.heap.size := (gl hx)
 have H := h.below hb1
 have hlt := h.lt
 have hlW := H.lt
 have hai : (a : Int) < 16 := by omega
 obtain ⟨xa, hxa⟩ : ∃ xa, xa = R.rg.getD a 0 := ⟨_, rfl⟩
 have y0 : W.cell? ⟨w.heap.size, 0, none⟩ = some (.int .i64 op) := cell_arr hx rfl
 have y1 : W.cell? ⟨w.heap.size, 1, none⟩ = some (.int .i64 (a : Int)) := cell_arr hx rfl
 have y2 : W.cell? ⟨w.heap.size, 2, none⟩ = some (.int .i64 (b : Int)) := cell_arr hx rfl
 have y3 : W.cell? ⟨w.heap.size, 3, none⟩ = some (.int .i64 (c : Int)) := cell_arr hx rfl
 have y4 : W.cell? ⟨w.heap.size, 4, none⟩ = some (.int .i64 n) := cell_arr hx rfl
 have ra : W.cell? ⟨s.mb, 42 + a, none⟩ = some (.int .i64 xa) := by rw [hxa]; exact H.reg ha
 have HSW : Hid (∀ w2, Below W.heap.size W w2 -> w2.cell? ⟨w.heap.size, 0, none⟩ = some (.int .i64 op) /\ w2.cell? ⟨w.heap.size, 1, none⟩ = some (.int .i64 (a : Int)) /\ w2.cell? ⟨w.heap.size, 2, none⟩ = some (.int .i64 (b : Int)) /\ w2.cell? ⟨w.heap.size, 3, none⟩ = some (.int .i64 (c : Int)) /\ w2.cell? ⟨w.heap.size, 4, none⟩ = some (.int .i64 n) /\ w2.cell? ⟨s.mb, 42 + a, none⟩ = some (.int .i64 xa) /\ s.mb < w2.heap.size /\ w.heap.size < w2.heap.size) := fun w2 hb2 => by
  have q := H.below hb2
  have ex := (hb2.block _ l1).trans hx
  rw [hxa]
  exact ⟨cell_arr ex rfl, cell_arr ex rfl, cell_arr ex rfl, cell_arr ex rfl, cell_arr ex rfl, q.reg ha, q.lt, (gl ex)⟩
 have HFO : Hid (∀ W2 R2 w2, Below w.heap.size w W2 -> (∃ d', Rm s d' w2 R2 /\ FooR s d d' W2 w2) -> ∃ d', Rm s d' w2 R2 /\ FooR s d d' w w2) := fun W2 R2 w2 hb ⟨d', q1, q2⟩ => ⟨d', q1, (FooR.of_below hb).trans q2⟩
 have HB1 : Hid (Below w.heap.size w W.drew) := hb1.drew
 have HP : Hid _ := rSSet (H.below (Below.refl _ _).drew) n (R.rg.getD a 0) hk hfx hcs
 rw [<- hxa] at HP ⊢
 clear hk hfx hcs
 obtain ⟨kb, hkb⟩ : ∃ kb, kb = w.heap.size := ⟨_, rfl⟩
 rw [<- hkb] at y0 y1 y2 y3 y4 l1 HSW
 generalize s.mb = mb at *
 clear h H hb1 hx hxa
 go_enter Tryz.func52, Tryz.ntmps52
 go_upto_region 1 with fail
 rw [<- hW, <- hkb]
 clear hW hkb
 have S8 : (fun w' : World => w'.cell? ⟨kb, 0, none⟩ = some (.int .i64 op) /\ w'.cell? ⟨kb, 1, none⟩ = some (.int .i64 (a : Int)) /\ w'.cell? ⟨kb, 2, none⟩ = some (.int .i64 (b : Int)) /\ w'.cell? ⟨kb, 3, none⟩ = some (.int .i64 (c : Int)) /\ w'.cell? ⟨kb, 4, none⟩ = some (.int .i64 n) /\ w'.cell? ⟨mb, 42 + a, none⟩ = some (.int .i64 xa) /\ mb < w'.heap.size /\ kb < w'.heap.size) W.drew := ⟨y0, y1, y2, y3, y4, ra, hlW, l1⟩
 refine lec_start (S := fun w' : World => w'.cell? ⟨kb, 0, none⟩ = some (.int .i64 op) /\ w'.cell? ⟨kb, 1, none⟩ = some (.int .i64 (a : Int)) /\ w'.cell? ⟨kb, 2, none⟩ = some (.int .i64 (b : Int)) /\ w'.cell? ⟨kb, 3, none⟩ = some (.int .i64 (c : Int)) /\ w'.cell? ⟨kb, 4, none⟩ = some (.int .i64 n) /\ w'.cell? ⟨mb, 42 + a, none⟩ = some (.int .i64 xa) /\ mb < w'.heap.size /\ kb < w'.heap.size) (z := 14) (by kernel_rfl) ?_
 show lec _ _ _ _ _ 15 _ _ _
 try simp only [List.size_toArray, List.length_cons, List.length_nil, Array.replicate]
 refine lec_takeP (i := 0) (v := ?v0z) rfl (by kernel_rfl) (by kernel_rfl) (by kernel_rfl) (by kernel_rfl) (fun _ _ _ h => h) (.inl ⟨by rfl, ?hy0z⟩) S8 ?rest0z
 case hy0z =>
  rintro w' _
  go_simp
  all_goals with_reducible rfl
 try simp only [Act.put, List.getElem_toArray, List.getElem_cons_succ, List.getElem_cons_zero, List.setIfInBounds_toArray, List.set_cons_zero, List.set_cons_succ]
 refine lec_takeP (i := 1) (v := ?v1z) rfl (by kernel_rfl) (by kernel_rfl) (by kernel_rfl) (by kernel_rfl) (fun _ _ _ h => h) (.inl ⟨by rfl, ?hy1z⟩) S8 ?rest1z
 case hy1z =>
  rintro w' _
  go_simp
  all_goals with_reducible rfl
 try simp only [Act.put, List.getElem_toArray, List.getElem_cons_succ, List.getElem_cons_zero, List.setIfInBounds_toArray, List.set_cons_zero, List.set_cons_succ]
 refine lec_takeP (i := 2) (v := ?v2z) rfl (by kernel_rfl) (by kernel_rfl) (by kernel_rfl) (by kernel_rfl) (fun _ _ _ h => h) (.inl ⟨by rfl, ?hy2z⟩) S8 ?rest2z
 case hy2z =>
  rintro w' _
  go_simp
  all_goals with_reducible rfl
 try simp only [Act.put, List.getElem_toArray, List.getElem_cons_succ, List.getElem_cons_zero, List.setIfInBounds_toArray, List.set_cons_zero, List.set_cons_succ]
 refine lec_takeP (i := 3) (v := ?v3z) rfl (by kernel_rfl) (by kernel_rfl) (by kernel_rfl) (by kernel_rfl) (fun _ _ _ h => h) (.inl ⟨by rfl, ?hy3z⟩) S8 ?rest3z
 case hy3z =>
  rintro w' _
  go_simp
  all_goals with_reducible rfl
 try simp only [Act.put, List.getElem_toArray, List.getElem_cons_succ, List.getElem_cons_zero, List.setIfInBounds_toArray, List.set_cons_zero, List.set_cons_succ]
 refine lec_takeP (i := 4) (v := ?v4z) rfl (by kernel_rfl) (by kernel_rfl) (by kernel_rfl) (by kernel_rfl) (fun _ _ _ h => h) (.inl ⟨by rfl, ?hy4z⟩) S8 ?rest4z
 case hy4z =>
  rintro w' _
  go_simp
  all_goals with_reducible rfl
 try simp only [Act.put, List.getElem_toArray, List.getElem_cons_succ, List.getElem_cons_zero, List.setIfInBounds_toArray, List.set_cons_zero, List.set_cons_succ]
 refine lec_takeT [14] (i := 5) (v := ?v5z) rfl (by kernel_rfl) (by kernel_rfl) (by kernel_rfl) (by kernel_rfl) (fun _ _ _ h => h) (.inl ⟨by rfl, ?hy5z⟩) S8 ?rest5z
 case hy5z =>
  rintro w' ⟨g0, g1, g2, g3, g4, g5, g6, g7⟩
  go_simp
  all_goals with_reducible rfl
 try simp only [Act.put, List.getElem_toArray, List.getElem_cons_succ, List.getElem_cons_zero, List.setIfInBounds_toArray, List.set_cons_zero, List.set_cons_succ]
 refine lec_takeP (i := 6) (v := ?v6z) rfl (by kernel_rfl) (by kernel_rfl) (by kernel_rfl) (by kernel_rfl) (fun _ _ _ h => h) (.inl ⟨by rfl, ?hy6z⟩) S8 ?rest6z
 case hy6z =>
  rintro w' _
  go_simp
  all_goals with_reducible rfl
 try simp only [Act.put, List.getElem_toArray, List.getElem_cons_succ, List.getElem_cons_zero, List.setIfInBounds_toArray, List.set_cons_zero, List.set_cons_succ]
 refine lec_takeP (i := 7) (v := ?v7z) rfl (by kernel_rfl) (by kernel_rfl) (by kernel_rfl) (by kernel_rfl) (fun _ _ _ h => h) (.inl ⟨by rfl, ?hy7z⟩) S8 ?rest7z
 case hy7z =>
  rintro w' _
  go_simp
  all_goals with_reducible rfl
 try simp only [Act.put, List.getElem_toArray, List.getElem_cons_succ, List.getElem_cons_zero, List.setIfInBounds_toArray, List.set_cons_zero, List.set_cons_succ]
 refine lec_takeT [12, 13, 14] (i := 8) (v := ?v8z) rfl (by kernel_rfl) (by kernel_rfl) (by kernel_rfl) (by kernel_rfl) (fun _ _ _ h => h) (.inl ⟨by rfl, ?hy8z⟩) S8 ?rest8z
 case hy8z =>
  rintro w' ⟨g0, g1, g2, g3, g4, g5, g6, g7⟩
  go_simp
  all_goals with_reducible rfl
 try simp only [Act.put, List.getElem_toArray, List.getElem_cons_succ, List.getElem_cons_zero, List.setIfInBounds_toArray, List.set_cons_zero, List.set_cons_succ]
 refine lec_takeP (i := 9) (v := ?v9z) rfl (by kernel_rfl) (by kernel_rfl) (by kernel_rfl) (by kernel_rfl) (fun _ _ _ h => h) (.inl ⟨by rfl, ?hy9z⟩) S8 ?rest9z
 case hy9z =>
  rintro w' _
  go_simp
  all_goals with_reducible rfl
 try simp only [Act.put, List.getElem_toArray, List.getElem_cons_succ, List.getElem_cons_zero, List.setIfInBounds_toArray, List.set_cons_zero, List.set_cons_succ]
 refine lec_takeP (i := 10) (v := ?v10z) rfl (by kernel_rfl) (by kernel_rfl) (by kernel_rfl) (by kernel_rfl) (fun _ _ _ h => h) (.inl ⟨by rfl, ?hy10z⟩) S8 ?rest10z
 case hy10z =>
  rintro w' _
  go_simp
  all_goals with_reducible rfl
 try simp only [Act.put, List.getElem_toArray, List.getElem_cons_succ, List.getElem_cons_zero, List.setIfInBounds_toArray, List.set_cons_zero, List.set_cons_succ]
 refine lec_takeP (i := 11) (v := ?v11z) rfl (by kernel_rfl) (by kernel_rfl) (by kernel_rfl) (by kernel_rfl) (fun _ _ _ h => h) (.inl ⟨by rfl, ?hy11z⟩) S8 ?rest11z
 case hy11z =>
  rintro w' _
  go_simp
  all_goals with_reducible rfl
 try simp only [Act.put, List.getElem_toArray, List.getElem_cons_succ, List.getElem_cons_zero, List.setIfInBounds_toArray, List.set_cons_zero, List.set_cons_succ]
 refine lec_takeP (i := 12) (v := ?v12z) rfl (by kernel_rfl) (by kernel_rfl) (by kernel_rfl) (by kernel_rfl) (fun _ _ _ h => h) (.inl ⟨by rfl, ?hy12z⟩) S8 ?rest12z
 case hy12z =>
  rintro w' _
  go_simp
  all_goals with_reducible rfl
 try simp only [Act.put, List.getElem_toArray, List.getElem_cons_succ, List.getElem_cons_zero, List.setIfInBounds_toArray, List.set_cons_zero, List.set_cons_succ]
 refine lec_takeT [14] (i := 13) (v := ?v13z) rfl (by kernel_rfl) (by kernel_rfl) (by kernel_rfl) (by kernel_rfl) (fun _ _ _ h => h) (.inl ⟨by rfl, ?hy13z⟩) S8 ?rest13z
 case hy13z =>
  rintro w' ⟨g0, g1, g2, g3, g4, g5, g6, g7⟩
  go_simp
  all_goals with_reducible rfl
 try simp only [Act.put, List.getElem_toArray, List.getElem_cons_succ, List.getElem_cons_zero, List.setIfInBounds_toArray, List.set_cons_zero, List.set_cons_succ]
 refine lec_one (i := 14) rfl (by kernel_rfl) ?_
 intro K14 hK14
 rw [if_pos (by rfl)]
 go_simp
 refine Calls.mono HP.out ?_
 rintro e w2 ⟨rfl, h2⟩
 have H2 : Hid _ := h2
 clear h2
 go_simp
 refine hK14 _ _ (fun h => by cases h) ?_
 clear hK14
 try simp only [Act.put, List.getElem_toArray, List.getElem_cons_succ, List.getElem_cons_zero, List.setIfInBounds_toArray, List.set_cons_zero, List.set_cons_succ]
 refine lec_done (by kernel_rfl) ?_
 clear S8
 go_wp2_with fail
 exact bodyPost_end (v := .tuple #[]) (by simp [results, Tryz.results52, go_sem]) rfl ⟨rfl, HFO.out _ _ _ HB1.out H2.out⟩
set_option maxRecDepth 100000 in
set_option maxHeartbeats 4000000 in
theorem rBegin_no {s d w R} (h : Rm s d w R) (k : Nat) (f : Rf) (hf : s.FS[k]? = some f) (back : Int) (hln : s.FS.length <= 1000000) (hS : 0 <= s.S /\ s.S <= 1099511627776) (ht : 0 <= R.top /\ R.top <= s.S) (hq : f.fr > s.S - R.top) :
 Calls Tryz.prog 29 #[.pointer (some ⟨s.mb, 0, none⟩), .int .i64 (k : Int), .int .i64 back] w fun e w' => e = .returned (.tuple #[]) /\ ∃ d', Rm s d' w' (R.panic 7 0) /\ FooR s d d' w w' := by
 have hlt := h.lt
 have hk := (List.getElem?_eq_some_iff.1 hf).1
 obtain ⟨fb, fo, efo, lfb, hqa⟩ := (h.rest.fns w h.rest.agr).at (j := k) (by simpa using hk)
 have eg : (s.FS.map rfv).getD k [] = rfv f := by simp [List.getD, hf]
 rw [eg] at hqa
 have q0 : w.cell? ⟨fb, fo + k * 5, none⟩ = some (.string f.name) := hqa 0 _ rfl
 have q1 : w.cell? ⟨fb, fo + k * 5 + 1, none⟩ = some (.int .i64 f.fr) := hqa 1 _ rfl
 have q2 : w.cell? ⟨fb, fo + k * 5 + 2, none⟩ = some (.int .i64 f.fi) := hqa 2 _ rfl
 have q3 : w.cell? ⟨fb, fo + k * 5 + 3, none⟩ = some (.int .i64 f.ct) := hqa 3 _ rfl
 have q4 : w.cell? ⟨fb, fo + k * 5 + 4, none⟩ = some (.int .i64 f.pa) := hqa 4 _ rfl
 have c40 := h.cells.c40
 rw [efo] at c40
 have hki : (k : Int) < (s.FS.length : Int) := by omega
 have hlm : (s.FS.length : Int) <= 1000000 := by omega
 obtain ⟨W, hW⟩ : ∃ W, W = w.alloc (.cells #[.string f.name, .int .i64 f.fr, .int .i64 f.fi, .int .i64 f.ct, .int .i64 f.pa] 59) := ⟨_, rfl⟩
 have hb1 : Below w.heap.size w W := by rw [hW]; exact below_newR w _
 have hx : W.heap[w.heap.size]? = some (.cells #[.string f.name, .int .i64 f.fr, .int .i64 f.fi, .int .i64 f.ct, .int .i64 f.pa] 59 (0, 0)) := by rw [hW]; exact heap_alloc_new _ _
 have l1 : w.heap.size < W.heap.size := (gl hx)
 have H := h.below hb1
 have hlW := H.lt
 have y1 : W.cell? ⟨w.heap.size, 1, none⟩ = some (.int .i64 f.fr) := cell_arr hx rfl
 have y2 : W.cell? ⟨w.heap.size, 2, none⟩ = some (.int .i64 f.fi) := cell_arr hx rfl
 have HPU : Hid (Calls Tryz.prog 67 #[.pointer (some ⟨s.mb, 58, none⟩), .int .i64 f.fr, .int .i64 back] W.drew fun e w2 => e = .returned (.bool false) /\ (w2.cell? ⟨w.heap.size, 1, none⟩ = some (.int .i64 f.fr) /\ w.heap.size < w2.heap.size /\ s.mb < w2.heap.size) /\ Calls Tryz.prog 68 #[.pointer (some ⟨s.mb, 66, none⟩), .int .i64 7, .int .i64 0] w2 fun e w' => e = .returned (.tuple #[]) /\ ∃ d', Rm s d' w' (R.panic 7 0) /\ FooR s d d' w w') := by
  refine (rPush_no (H.below (Below.refl _ _).drew) f.fr back hS ht hq).mono ?_
  rintro e w2 ⟨rfl, b⟩
  have b2 : Below w.heap.size w w2 := hb1.trans (((Below.refl _ _).drew).trans b |>.mono hb1.size)
  have q := h.below b2
  have e2 : w2.heap[w.heap.size]? = some (.cells #[.string f.name, .int .i64 f.fr, .int .i64 f.fi, .int .i64 f.ct, .int .i64 f.pa] 59 (0, 0)) := (b.block _ l1).trans hx
  refine ⟨rfl, ⟨cell_arr e2 rfl, (gl e2), q.lt⟩, (mPanicR q 7 0).mono ?_⟩
  rintro e w' ⟨rfl, d', r1, r2⟩
  exact ⟨rfl, d', r1, (FooR.of_below b2).trans r2⟩
 obtain ⟨kb, hkb⟩ : ∃ kb, kb = w.heap.size := ⟨_, rfl⟩
 rw [<- hkb] at y1 y2 l1 HPU
 clear hqa eg hf hln
 generalize s.FS.length = fl at *
 generalize s.fc = fcc at *
 generalize f.name = f0 at *
 generalize f.fr = f1 at *
 generalize f.fi = f2 at *
 generalize f.ct = f3 at *
 generalize f.pa = f4 at *
 generalize s.mb = mb at *
 clear h H hb1 hx efo hk hS ht hq
 go_enter Tryz.func29, Tryz.ntmps29
 go_upto_region 1 with fail
 rw [<- hW, <- hkb]
 clear hW hkb q0 q1 q2 q3 q4 c40
 have S8 : (fun w' : World => w'.cell? ⟨kb, 1, none⟩ = some (.int .i64 f1) /\ kb < w'.heap.size /\ mb < w'.heap.size) W.drew := ⟨y1, l1, hlW⟩
 refine lec_start (S := fun w' : World => w'.cell? ⟨kb, 1, none⟩ = some (.int .i64 f1) /\ kb < w'.heap.size /\ mb < w'.heap.size) (z := 7) (by kernel_rfl) ?_
 show lec _ _ _ _ _ 9 _ _ _
 try simp only [List.size_toArray, List.length_cons, List.length_nil, Array.replicate]
 refine lec_takeP (i := 0) (v := ?v0z) rfl (by kernel_rfl) (by kernel_rfl) (by kernel_rfl) (by kernel_rfl) (fun _ _ _ h => h) (.inl ⟨by rfl, ?hy0z⟩) S8 ?rest0z
 case hy0z =>
  rintro w' _
  go_simp
  all_goals with_reducible rfl
 try simp only [Act.put, List.getElem_toArray, List.getElem_cons_succ, List.getElem_cons_zero, List.setIfInBounds_toArray, List.set_cons_zero, List.set_cons_succ]
 refine lec_takeP (i := 1) (v := ?v1z) rfl (by kernel_rfl) (by kernel_rfl) (by kernel_rfl) (by kernel_rfl) (fun _ _ _ h => h) (.inl ⟨by rfl, ?hy1z⟩) S8 ?rest1z
 case hy1z =>
  rintro w' _
  go_simp
  all_goals with_reducible rfl
 try simp only [Act.put, List.getElem_toArray, List.getElem_cons_succ, List.getElem_cons_zero, List.setIfInBounds_toArray, List.set_cons_zero, List.set_cons_succ]
 refine lec_takeP (i := 2) (v := ?v2z) rfl (by kernel_rfl) (by kernel_rfl) (by kernel_rfl) (by kernel_rfl) (fun _ _ _ h => h) (.inl ⟨by rfl, ?hy2z⟩) S8 ?rest2z
 case hy2z =>
  rintro w' _
  go_simp
  all_goals with_reducible rfl
 try simp only [Act.put, List.getElem_toArray, List.getElem_cons_succ, List.getElem_cons_zero, List.setIfInBounds_toArray, List.set_cons_zero, List.set_cons_succ]
 refine lec_takeP (i := 3) (v := ?v3z) rfl (by kernel_rfl) (by kernel_rfl) (by kernel_rfl) (by kernel_rfl) (fun _ _ _ h => h) (.inl ⟨by rfl, ?hy3z⟩) S8 ?rest3z
 case hy3z =>
  rintro w' _
  go_simp
  all_goals with_reducible rfl
 try simp only [Act.put, List.getElem_toArray, List.getElem_cons_succ, List.getElem_cons_zero, List.setIfInBounds_toArray, List.set_cons_zero, List.set_cons_succ]
 refine lec_takeP (i := 4) (v := ?v4z) rfl (by kernel_rfl) (by kernel_rfl) (by kernel_rfl) (by kernel_rfl) (fun _ _ _ h => h) (.inl ⟨by rfl, ?hy4z⟩) S8 ?rest4z
 case hy4z =>
  rintro w' _
  go_simp
  all_goals with_reducible rfl
 try simp only [Act.put, List.getElem_toArray, List.getElem_cons_succ, List.getElem_cons_zero, List.setIfInBounds_toArray, List.set_cons_zero, List.set_cons_succ]
 refine lec_takeT [7, 8] (i := 5) (v := ?v5z) rfl (by kernel_rfl) (by kernel_rfl) (by kernel_rfl) (by kernel_rfl) (fun _ _ _ h => h) (.inl ⟨by rfl, ?hy5z⟩) S8 ?rest5z
 case hy5z =>
  rintro w' ⟨g0, g1, g2⟩
  go_simp
  all_goals with_reducible rfl
 try simp only [Act.put, List.getElem_toArray, List.getElem_cons_succ, List.getElem_cons_zero, List.setIfInBounds_toArray, List.set_cons_zero, List.set_cons_succ]
 refine lec_takeP (i := 6) (v := ?v6z) rfl (by kernel_rfl) (by kernel_rfl) (by kernel_rfl) (by kernel_rfl) (fun _ _ _ h => h) (.inl ⟨by rfl, ?hy6z⟩) S8 ?rest6z
 case hy6z =>
  rintro w' _
  go_simp
  all_goals with_reducible rfl
 try simp only [Act.put, List.getElem_toArray, List.getElem_cons_succ, List.getElem_cons_zero, List.setIfInBounds_toArray, List.set_cons_zero, List.set_cons_succ]
 refine lec_one (i := 7) rfl (by kernel_rfl) ?_
 intro K7 hK7
 rw [if_pos (by rfl)]
 go_simp
 refine Calls.mono HPU.out ?_
 rintro e w2 ⟨rfl, ⟨u1, u2, l2⟩, h2⟩
 have HP2 : Hid _ := h2
 clear h2
 have S8 : (fun w' : World => w'.cell? ⟨kb, 1, none⟩ = some (.int .i64 f1) /\ kb < w'.heap.size /\ mb < w'.heap.size) w2 := ⟨u1, u2, l2⟩
 go_simp
 refine hK7 _ _ (fun h => by cases h) ?_
 clear hK7
 try simp only [Act.put, List.getElem_toArray, List.getElem_cons_succ, List.getElem_cons_zero, List.setIfInBounds_toArray, List.set_cons_zero, List.set_cons_succ]
 refine lec_takeP (i := 8) (v := ?v8z) rfl (by kernel_rfl) (by kernel_rfl) (by kernel_rfl) (by kernel_rfl) (fun _ _ _ h => h) (.inl ⟨by rfl, ?hy8z⟩) S8 ?rest8z
 case hy8z =>
  rintro w' _
  go_simp
  all_goals with_reducible rfl
 try simp only [Act.put, List.getElem_toArray, List.getElem_cons_succ, List.getElem_cons_zero, List.setIfInBounds_toArray, List.set_cons_zero, List.set_cons_succ]
 refine lec_done (by kernel_rfl) ?_
 clear S8
 go_wp2_with (go_at_call 68; refine Calls.mono HP2.out ?_; rintro e w3 ⟨rfl, h3⟩; have H3 : Hid _ := h3; clear h3)
 exact bodyPost_ret (v := .tuple #[]) (by simp [results, Tryz.results29, go_sem]) rfl ⟨rfl, H3.out⟩
set_option maxRecDepth 100000 in
set_option maxHeartbeats 4000000 in
theorem rBegin_yes {s d w R} (h : Rm s d w R) (k : Nat) (f : Rf) (hf : s.FS[k]? = some f) (back : Int) (hln : s.FS.length <= 1000000) (hS : 0 <= s.S /\ s.S <= 1099511627776) (ht : 0 <= R.top /\ R.top <= s.S) (hq : ¬ f.fr > s.S - R.top) (hs : 2 <= f.fr) (hbk : Fits back) (hbs : Fits R.base) (hfr : 0 <= R.frames /\ R.frames <= 4611686018427387000) (hc : R.cs < 999999999) :
 Calls Tryz.prog 29 #[.pointer (some ⟨s.mb, 0, none⟩), .int .i64 (k : Int), .int .i64 back] w fun e w' => e = .returned (.tuple #[]) /\ ∃ d', Rm s d' w' (R.push f back) /\ FooR s d d' w w' := by
 have hlt := h.lt
 have hk := (List.getElem?_eq_some_iff.1 hf).1
 obtain ⟨fb, fo, efo, lfb, hqa⟩ := (h.rest.fns w h.rest.agr).at (j := k) (by simpa using hk)
 have eg : (s.FS.map rfv).getD k [] = rfv f := by simp [List.getD, hf]
 rw [eg] at hqa
 have q0 : w.cell? ⟨fb, fo + k * 5, none⟩ = some (.string f.name) := hqa 0 _ rfl
 have q1 : w.cell? ⟨fb, fo + k * 5 + 1, none⟩ = some (.int .i64 f.fr) := hqa 1 _ rfl
 have q2 : w.cell? ⟨fb, fo + k * 5 + 2, none⟩ = some (.int .i64 f.fi) := hqa 2 _ rfl
 have q3 : w.cell? ⟨fb, fo + k * 5 + 3, none⟩ = some (.int .i64 f.ct) := hqa 3 _ rfl
 have q4 : w.cell? ⟨fb, fo + k * 5 + 4, none⟩ = some (.int .i64 f.pa) := hqa 4 _ rfl
 have c40 := h.cells.c40
 rw [efo] at c40
 have hki : (k : Int) < (s.FS.length : Int) := by omega
 have hlm : (s.FS.length : Int) <= 1000000 := by omega
 obtain ⟨W, hW⟩ : ∃ W, W = w.alloc (.cells #[.string f.name, .int .i64 f.fr, .int .i64 f.fi, .int .i64 f.ct, .int .i64 f.pa] 59) := ⟨_, rfl⟩
 have hb1 : Below w.heap.size w W := by rw [hW]; exact below_newR w _
 have hx : W.heap[w.heap.size]? = some (.cells #[.string f.name, .int .i64 f.fr, .int .i64 f.fi, .int .i64 f.ct, .int .i64 f.pa] 59 (0, 0)) := by rw [hW]; exact heap_alloc_new _ _
 have l1 : w.heap.size < W.heap.size := (gl hx)
 have H := h.below hb1
 have hlW := H.lt
 have y1 : W.cell? ⟨w.heap.size, 1, none⟩ = some (.int .i64 f.fr) := cell_arr hx rfl
 have y2 : W.cell? ⟨w.heap.size, 2, none⟩ = some (.int .i64 f.fi) := cell_arr hx rfl
 have HPU : Hid (Calls Tryz.prog 67 #[.pointer (some ⟨s.mb, 58, none⟩), .int .i64 f.fr, .int .i64 back] W.drew fun e w2 => e = .returned (.bool true) /\ (w2.cell? ⟨w.heap.size, 1, none⟩ = some (.int .i64 f.fr) /\ w.heap.size < w2.heap.size /\ s.mb < w2.heap.size) /\ w2.cell? ⟨s.mb, 62, none⟩ = some (.int .i64 (R.frames + 1)) /\ Calls Tryz.prog 69 #[.pointer (some ⟨s.mb, 66, none⟩), .int .i64 (R.frames + 1)] w2.drew fun e w3 => e = .returned (.tuple #[]) /\ s.mb < w3.heap.size /\ w.heap.size < w3.heap.size /\ w3.cell? ⟨w.heap.size, 2, none⟩ = some (.int .i64 f.fi) /\ w3.cell? ⟨s.mb, 41, none⟩ = some (.int .i64 R.nx) /\ w3.frozen? ⟨s.mb, 41, none⟩ = false /\ ∃ d', Rm s d' (w3.setCell ⟨s.mb, 41, none⟩ (.int .i64 f.fi)) (R.push f back) /\ FooR s d d' w (w3.setCell ⟨s.mb, 41, none⟩ (.int .i64 f.fi))) := by
  have hnf : ∀ {d'}, footR s d' w.heap.size -> d'.ve.ownBlock = some w.heap.size := fun {d'} q => by
   have hh := h.rest.hi
   rcases q with q | q | q | q
   ·omega
   ·have := hh.2.2.1 _ q; omega
   ·omega
   ·exact q
  have hev : ∀ {d' W2 R2}, Rm s d' W2 R2 -> W2.heap[w.heap.size]? = some (.cells #[.string f.name, .int .i64 f.fr, .int .i64 f.fi, .int .i64 f.ct, .int .i64 f.pa] 59 (0, 0)) -> d'.ve.ownBlock ≠ some w.heap.size := fun {d' W2 R2} q e => own_not q.rest.ev.out e (by decide)
  refine (rPush_yes (H.below (Below.refl _ _).drew) f.fr back hS ht hq hs hbk hbs (by omega) hc).mono ?_
  rintro e w2 ⟨rfl, d2, k1, k2⟩
  have e2 : w2.heap[w.heap.size]? = some (.cells #[.string f.name, .int .i64 f.fr, .int .i64 f.fi, .int .i64 f.ct, .int .i64 f.pa] 59 (0, 0)) := (k2.only.block _ l1 fun q => hev (H.below (Below.refl _ _).drew) hx (hnf q)).trans hx
  refine ⟨rfl, ⟨cell_arr e2 rfl, (gl e2), k1.lt⟩, k1.cells.c62, (mDeepR (k1.below (Below.refl _ _).drew) (R.frames + 1)).mono ?_⟩
  rintro e w3 ⟨rfl, d3, k3, k4⟩
  have e3 : w3.heap[w.heap.size]? = some (.cells #[.string f.name, .int .i64 f.fr, .int .i64 f.fi, .int .i64 f.ct, .int .i64 f.pa] 59 (0, 0)) := (k4.only.block _ (gl e2) fun q => hev (k1.below (Below.refl _ _).drew) e2 (hnf q)).trans e2
  have k5 := k3.setNx f.fi
  exact ⟨rfl, k3.lt, (gl e3), cell_arr e3 rfl, k3.cells.c41, k3.fz _, d3, k5.1, (FooR.of_below hb1.drew).trans (k2.trans ((FooR.of_below (Below.refl _ _).drew).trans (k4.trans k5.2)))⟩
 obtain ⟨kb, hkb⟩ : ∃ kb, kb = w.heap.size := ⟨_, rfl⟩
 rw [<- hkb] at y1 y2 l1 HPU
 clear hqa eg hf hln
 generalize s.FS.length = fl at *
 generalize s.fc = fcc at *
 generalize f.name = f0 at *
 generalize f.fr = f1 at *
 generalize f.fi = f2 at *
 generalize f.ct = f3 at *
 generalize f.pa = f4 at *
 generalize s.mb = mb at *
 clear h H hb1 hx efo hk hS ht hq hs hbk hbs hfr hc
 go_enter Tryz.func29, Tryz.ntmps29
 go_upto_region 1 with fail
 rw [<- hW, <- hkb]
 clear hW hkb q0 q1 q2 q3 q4 c40
 have S8 : (fun w' : World => w'.cell? ⟨kb, 1, none⟩ = some (.int .i64 f1) /\ kb < w'.heap.size /\ mb < w'.heap.size) W.drew := ⟨y1, l1, hlW⟩
 refine lec_start (S := fun w' : World => w'.cell? ⟨kb, 1, none⟩ = some (.int .i64 f1) /\ kb < w'.heap.size /\ mb < w'.heap.size) (z := 7) (by kernel_rfl) ?_
 show lec _ _ _ _ _ 9 _ _ _
 try simp only [List.size_toArray, List.length_cons, List.length_nil, Array.replicate]
 refine lec_takeP (i := 0) (v := ?v0z) rfl (by kernel_rfl) (by kernel_rfl) (by kernel_rfl) (by kernel_rfl) (fun _ _ _ h => h) (.inl ⟨by rfl, ?hy0z⟩) S8 ?rest0z
 case hy0z =>
  rintro w' _
  go_simp
  all_goals with_reducible rfl
 try simp only [Act.put, List.getElem_toArray, List.getElem_cons_succ, List.getElem_cons_zero, List.setIfInBounds_toArray, List.set_cons_zero, List.set_cons_succ]
 refine lec_takeP (i := 1) (v := ?v1z) rfl (by kernel_rfl) (by kernel_rfl) (by kernel_rfl) (by kernel_rfl) (fun _ _ _ h => h) (.inl ⟨by rfl, ?hy1z⟩) S8 ?rest1z
 case hy1z =>
  rintro w' _
  go_simp
  all_goals with_reducible rfl
 try simp only [Act.put, List.getElem_toArray, List.getElem_cons_succ, List.getElem_cons_zero, List.setIfInBounds_toArray, List.set_cons_zero, List.set_cons_succ]
 refine lec_takeP (i := 2) (v := ?v2z) rfl (by kernel_rfl) (by kernel_rfl) (by kernel_rfl) (by kernel_rfl) (fun _ _ _ h => h) (.inl ⟨by rfl, ?hy2z⟩) S8 ?rest2z
 case hy2z =>
  rintro w' _
  go_simp
  all_goals with_reducible rfl
 try simp only [Act.put, List.getElem_toArray, List.getElem_cons_succ, List.getElem_cons_zero, List.setIfInBounds_toArray, List.set_cons_zero, List.set_cons_succ]
 refine lec_takeP (i := 3) (v := ?v3z) rfl (by kernel_rfl) (by kernel_rfl) (by kernel_rfl) (by kernel_rfl) (fun _ _ _ h => h) (.inl ⟨by rfl, ?hy3z⟩) S8 ?rest3z
 case hy3z =>
  rintro w' _
  go_simp
  all_goals with_reducible rfl
 try simp only [Act.put, List.getElem_toArray, List.getElem_cons_succ, List.getElem_cons_zero, List.setIfInBounds_toArray, List.set_cons_zero, List.set_cons_succ]
 refine lec_takeP (i := 4) (v := ?v4z) rfl (by kernel_rfl) (by kernel_rfl) (by kernel_rfl) (by kernel_rfl) (fun _ _ _ h => h) (.inl ⟨by rfl, ?hy4z⟩) S8 ?rest4z
 case hy4z =>
  rintro w' _
  go_simp
  all_goals with_reducible rfl
 try simp only [Act.put, List.getElem_toArray, List.getElem_cons_succ, List.getElem_cons_zero, List.setIfInBounds_toArray, List.set_cons_zero, List.set_cons_succ]
 refine lec_takeT [7, 8] (i := 5) (v := ?v5z) rfl (by kernel_rfl) (by kernel_rfl) (by kernel_rfl) (by kernel_rfl) (fun _ _ _ h => h) (.inl ⟨by rfl, ?hy5z⟩) S8 ?rest5z
 case hy5z =>
  rintro w' ⟨g0, g1, g2⟩
  go_simp
  all_goals with_reducible rfl
 try simp only [Act.put, List.getElem_toArray, List.getElem_cons_succ, List.getElem_cons_zero, List.setIfInBounds_toArray, List.set_cons_zero, List.set_cons_succ]
 refine lec_takeP (i := 6) (v := ?v6z) rfl (by kernel_rfl) (by kernel_rfl) (by kernel_rfl) (by kernel_rfl) (fun _ _ _ h => h) (.inl ⟨by rfl, ?hy6z⟩) S8 ?rest6z
 case hy6z =>
  rintro w' _
  go_simp
  all_goals with_reducible rfl
 try simp only [Act.put, List.getElem_toArray, List.getElem_cons_succ, List.getElem_cons_zero, List.setIfInBounds_toArray, List.set_cons_zero, List.set_cons_succ]
 refine lec_one (i := 7) rfl (by kernel_rfl) ?_
 intro K7 hK7
 rw [if_pos (by rfl)]
 go_simp
 refine Calls.mono HPU.out ?_
 rintro e w2 ⟨rfl, ⟨u1, u2, l2⟩, c62, h2⟩
 have HP2 : Hid _ := h2
 clear h2
 have S8 : (fun w' : World => w'.cell? ⟨kb, 1, none⟩ = some (.int .i64 f1) /\ kb < w'.heap.size /\ mb < w'.heap.size) w2 := ⟨u1, u2, l2⟩
 go_simp
 refine hK7 _ _ (fun h => by cases h) ?_
 clear hK7
 try simp only [Act.put, List.getElem_toArray, List.getElem_cons_succ, List.getElem_cons_zero, List.setIfInBounds_toArray, List.set_cons_zero, List.set_cons_succ]
 refine lec_takeP (i := 8) (v := ?v8z) rfl (by kernel_rfl) (by kernel_rfl) (by kernel_rfl) (by kernel_rfl) (fun _ _ _ h => h) (.inl ⟨by rfl, ?hy8z⟩) S8 ?rest8z
 case hy8z =>
  rintro w' _
  go_simp
  all_goals with_reducible rfl
 try simp only [Act.put, List.getElem_toArray, List.getElem_cons_succ, List.getElem_cons_zero, List.setIfInBounds_toArray, List.set_cons_zero, List.set_cons_succ]
 refine lec_done (by kernel_rfl) ?_
 clear S8
 go_upto_region 3 with fail
 have S8 : (fun w' : World => w'.cell? ⟨mb, 62, none⟩ = some (.int .i64 (R.frames + 1)) /\ mb < w'.heap.size) w2.drew := ⟨c62, l2⟩
 refine lec_start (S := fun w' : World => w'.cell? ⟨mb, 62, none⟩ = some (.int .i64 (R.frames + 1)) /\ mb < w'.heap.size) (z := 9) (by kernel_rfl) ?_
 show lec _ _ _ _ _ 10 _ _ _
 try simp only [List.size_toArray, List.length_cons, List.length_nil, Array.replicate]
 refine lec_takeP (i := 0) (v := ?v0y) rfl (by kernel_rfl) (by kernel_rfl) (by kernel_rfl) (by kernel_rfl) (fun _ _ _ h => h) (.inl ⟨by rfl, ?hy0y⟩) S8 ?rest0y
 case hy0y =>
  rintro w' _
  go_simp
  all_goals with_reducible rfl
 try simp only [Act.put, List.getElem_toArray, List.getElem_cons_succ, List.getElem_cons_zero, List.setIfInBounds_toArray, List.set_cons_zero, List.set_cons_succ]
 refine lec_takeP (i := 1) (v := ?v1y) rfl (by kernel_rfl) (by kernel_rfl) (by kernel_rfl) (by kernel_rfl) (fun _ _ _ h => h) (.inl ⟨by rfl, ?hy1y⟩) S8 ?rest1y
 case hy1y =>
  rintro w' _
  go_simp
  all_goals with_reducible rfl
 try simp only [Act.put, List.getElem_toArray, List.getElem_cons_succ, List.getElem_cons_zero, List.setIfInBounds_toArray, List.set_cons_zero, List.set_cons_succ]
 refine lec_takeP (i := 2) (v := ?v2y) rfl (by kernel_rfl) (by kernel_rfl) (by kernel_rfl) (by kernel_rfl) (fun _ _ _ h => h) (.inl ⟨by rfl, ?hy2y⟩) S8 ?rest2y
 case hy2y =>
  rintro w' _
  go_simp
  all_goals with_reducible rfl
 try simp only [Act.put, List.getElem_toArray, List.getElem_cons_succ, List.getElem_cons_zero, List.setIfInBounds_toArray, List.set_cons_zero, List.set_cons_succ]
 refine lec_takeP (i := 3) (v := ?v3y) rfl (by kernel_rfl) (by kernel_rfl) (by kernel_rfl) (by kernel_rfl) (fun _ _ _ h => h) (.inl ⟨by rfl, ?hy3y⟩) S8 ?rest3y
 case hy3y =>
  rintro w' _
  go_simp
  all_goals with_reducible rfl
 try simp only [Act.put, List.getElem_toArray, List.getElem_cons_succ, List.getElem_cons_zero, List.setIfInBounds_toArray, List.set_cons_zero, List.set_cons_succ]
 refine lec_takeP (i := 4) (v := ?v4y) rfl (by kernel_rfl) (by kernel_rfl) (by kernel_rfl) (by kernel_rfl) (fun _ _ _ h => h) (.inl ⟨by rfl, ?hy4y⟩) S8 ?rest4y
 case hy4y =>
  rintro w' _
  go_simp
  all_goals with_reducible rfl
 try simp only [Act.put, List.getElem_toArray, List.getElem_cons_succ, List.getElem_cons_zero, List.setIfInBounds_toArray, List.set_cons_zero, List.set_cons_succ]
 refine lec_takeP (i := 5) (v := ?v5y) rfl (by kernel_rfl) (by kernel_rfl) (by kernel_rfl) (by kernel_rfl) (fun _ _ _ h => h) (.inl ⟨by rfl, ?hy5y⟩) S8 ?rest5y
 case hy5y =>
  rintro w' _
  go_simp
  all_goals with_reducible rfl
 try simp only [Act.put, List.getElem_toArray, List.getElem_cons_succ, List.getElem_cons_zero, List.setIfInBounds_toArray, List.set_cons_zero, List.set_cons_succ]
 refine lec_takeP (i := 6) (v := ?v6y) rfl (by kernel_rfl) (by kernel_rfl) (by kernel_rfl) (by kernel_rfl) (fun _ _ _ h => h) (.inl ⟨by rfl, ?hy6y⟩) S8 ?rest6y
 case hy6y =>
  rintro w' _
  go_simp
  all_goals with_reducible rfl
 try simp only [Act.put, List.getElem_toArray, List.getElem_cons_succ, List.getElem_cons_zero, List.setIfInBounds_toArray, List.set_cons_zero, List.set_cons_succ]
 refine lec_takeP (i := 7) (v := ?v7y) rfl (by kernel_rfl) (by kernel_rfl) (by kernel_rfl) (by kernel_rfl) (fun _ _ _ h => h) (.inl ⟨by rfl, ?hy7y⟩) S8 ?rest7y
 case hy7y =>
  rintro w' _
  go_simp
  all_goals with_reducible rfl
 try simp only [Act.put, List.getElem_toArray, List.getElem_cons_succ, List.getElem_cons_zero, List.setIfInBounds_toArray, List.set_cons_zero, List.set_cons_succ]
 refine lec_takeT [9] (i := 8) (v := ?v8y) rfl (by kernel_rfl) (by kernel_rfl) (by kernel_rfl) (by kernel_rfl) (fun _ _ _ h => h) (.inl ⟨by rfl, ?hy8y⟩) S8 ?rest8y
 case hy8y =>
  rintro w' ⟨g0, g1⟩
  go_simp
  all_goals with_reducible rfl
 try simp only [Act.put, List.getElem_toArray, List.getElem_cons_succ, List.getElem_cons_zero, List.setIfInBounds_toArray, List.set_cons_zero, List.set_cons_succ]
 refine lec_one (i := 9) rfl (by kernel_rfl) ?_
 intro K9 hK9
 rw [if_pos (by rfl)]
 go_simp
 refine Calls.mono HP2.out ?_
 rintro e w3 ⟨rfl, l3, l4, u3, u4, u5, h3⟩
 have H3 : Hid _ := h3
 clear h3
 go_simp
 refine hK9 _ _ (fun h => by cases h) ?_
 clear hK9
 try simp only [Act.put, List.getElem_toArray, List.getElem_cons_succ, List.getElem_cons_zero, List.setIfInBounds_toArray, List.set_cons_zero, List.set_cons_succ]
 refine lec_done (by kernel_rfl) ?_
 clear S8
 go_wp2_with fail
 exact bodyPost_end (v := .tuple #[]) (by simp [results, Tryz.results29, go_sem]) rfl ⟨rfl, H3.out⟩
set_option maxRecDepth 100000 in
set_option maxHeartbeats 4000000 in
theorem rCall_no {s d w R} (h : Rm s d w R) (op : Int) (a b c : Nat) (m : Nat) (f : Rf) (hf : s.FS[m]? = some f) (hln : s.FS.length <= 1000000) (hS : 0 <= s.S /\ s.S <= 1099511627776) (ht : 0 <= R.top /\ R.top <= s.S) (hq : f.fr > s.S - R.top) :
 Calls Tryz.prog 53 #[.pointer (some ⟨s.mb, 0, none⟩), .agg #[.int .i64 op, .int .i64 (a : Int), .int .i64 (b : Int), .int .i64 (c : Int), .int .i64 (m : Int)]] w fun e w' => e = .returned (.tuple #[]) /\ ∃ d', Rm s d' w' (R.panic 7 0) /\ FooR s d d' w w' := by
 obtain ⟨W, hW⟩ : ∃ W, W = w.alloc (.cells #[.int .i64 op, .int .i64 (a : Int), .int .i64 (b : Int), .int .i64 (c : Int), .int .i64 (m : Int)] 71) := ⟨_, rfl⟩
 have hb1 : Below w.heap.size w W := by rw [hW]; exact below_newR w _
 have hx : W.heap[w.heap.size]? = some (.cells #[.int .i64 op, .int .i64 (a : Int), .int .i64 (b : Int), .int .i64 (c : Int), .int .i64 (m : Int)] 71 (0, 0)) := by rw [hW]; exact heap_alloc_new _ _
 have l1 : w.heap.size < W.heap.size := (gl hx)
 have H := h.below hb1
 have hlt := h.lt
 have hlW := H.lt
 have y0 : W.cell? ⟨w.heap.size, 0, none⟩ = some (.int .i64 op) := cell_arr hx rfl
 have y1 : W.cell? ⟨w.heap.size, 1, none⟩ = some (.int .i64 (a : Int)) := cell_arr hx rfl
 have y2 : W.cell? ⟨w.heap.size, 2, none⟩ = some (.int .i64 (b : Int)) := cell_arr hx rfl
 have y3 : W.cell? ⟨w.heap.size, 3, none⟩ = some (.int .i64 (c : Int)) := cell_arr hx rfl
 have y4 : W.cell? ⟨w.heap.size, 4, none⟩ = some (.int .i64 (m : Int)) := cell_arr hx rfl
 have c41 : W.cell? ⟨s.mb, 41, none⟩ = some (.int .i64 R.nx) := by exact H.cells.c41
 have HSW : Hid (∀ w2, Below W.heap.size W w2 -> w2.cell? ⟨w.heap.size, 0, none⟩ = some (.int .i64 op) /\ w2.cell? ⟨w.heap.size, 1, none⟩ = some (.int .i64 (a : Int)) /\ w2.cell? ⟨w.heap.size, 2, none⟩ = some (.int .i64 (b : Int)) /\ w2.cell? ⟨w.heap.size, 3, none⟩ = some (.int .i64 (c : Int)) /\ w2.cell? ⟨w.heap.size, 4, none⟩ = some (.int .i64 (m : Int)) /\ w2.cell? ⟨s.mb, 41, none⟩ = some (.int .i64 R.nx) /\ s.mb < w2.heap.size /\ w.heap.size < w2.heap.size) := fun w2 hb2 => by
  have q := H.below hb2
  have ex := (hb2.block _ l1).trans hx
  exact ⟨cell_arr ex rfl, cell_arr ex rfl, cell_arr ex rfl, cell_arr ex rfl, cell_arr ex rfl, q.cells.c41, q.lt, (gl ex)⟩
 have HFO : Hid (∀ W2 R2 w2, Below w.heap.size w W2 -> (∃ d', Rm s d' w2 R2 /\ FooR s d d' W2 w2) -> ∃ d', Rm s d' w2 R2 /\ FooR s d d' w w2) := fun W2 R2 w2 hb ⟨d', q1, q2⟩ => ⟨d', q1, (FooR.of_below hb).trans q2⟩
 have HB1 : Hid (Below w.heap.size w W.drew) := hb1.drew
 have HP : Hid _ := rBegin_no (H.below (Below.refl _ _).drew) m f hf R.nx hln hS ht hq
 clear hf hln hS ht hq
 obtain ⟨kb, hkb⟩ : ∃ kb, kb = w.heap.size := ⟨_, rfl⟩
 rw [<- hkb] at y0 y1 y2 y3 y4 l1 HSW
 generalize s.mb = mb at *
 clear h H hb1 hx
 go_enter Tryz.func53, Tryz.ntmps53
 go_upto_region 1 with fail
 rw [<- hW, <- hkb]
 clear hW hkb
 have S8 : (fun w' : World => w'.cell? ⟨kb, 0, none⟩ = some (.int .i64 op) /\ w'.cell? ⟨kb, 1, none⟩ = some (.int .i64 (a : Int)) /\ w'.cell? ⟨kb, 2, none⟩ = some (.int .i64 (b : Int)) /\ w'.cell? ⟨kb, 3, none⟩ = some (.int .i64 (c : Int)) /\ w'.cell? ⟨kb, 4, none⟩ = some (.int .i64 (m : Int)) /\ w'.cell? ⟨mb, 41, none⟩ = some (.int .i64 R.nx) /\ mb < w'.heap.size /\ kb < w'.heap.size) W.drew := ⟨y0, y1, y2, y3, y4, c41, hlW, l1⟩
 refine lec_start (S := fun w' : World => w'.cell? ⟨kb, 0, none⟩ = some (.int .i64 op) /\ w'.cell? ⟨kb, 1, none⟩ = some (.int .i64 (a : Int)) /\ w'.cell? ⟨kb, 2, none⟩ = some (.int .i64 (b : Int)) /\ w'.cell? ⟨kb, 3, none⟩ = some (.int .i64 (c : Int)) /\ w'.cell? ⟨kb, 4, none⟩ = some (.int .i64 (m : Int)) /\ w'.cell? ⟨mb, 41, none⟩ = some (.int .i64 R.nx) /\ mb < w'.heap.size /\ kb < w'.heap.size) (z := 8) (by kernel_rfl) ?_
 show lec _ _ _ _ _ 9 _ _ _
 try simp only [List.size_toArray, List.length_cons, List.length_nil, Array.replicate]
 refine lec_takeP (i := 0) (v := ?v0z) rfl (by kernel_rfl) (by kernel_rfl) (by kernel_rfl) (by kernel_rfl) (fun _ _ _ h => h) (.inl ⟨by rfl, ?hy0z⟩) S8 ?rest0z
 case hy0z =>
  rintro w' _
  go_simp
  all_goals with_reducible rfl
 try simp only [Act.put, List.getElem_toArray, List.getElem_cons_succ, List.getElem_cons_zero, List.setIfInBounds_toArray, List.set_cons_zero, List.set_cons_succ]
 refine lec_takeP (i := 1) (v := ?v1z) rfl (by kernel_rfl) (by kernel_rfl) (by kernel_rfl) (by kernel_rfl) (fun _ _ _ h => h) (.inl ⟨by rfl, ?hy1z⟩) S8 ?rest1z
 case hy1z =>
  rintro w' _
  go_simp
  all_goals with_reducible rfl
 try simp only [Act.put, List.getElem_toArray, List.getElem_cons_succ, List.getElem_cons_zero, List.setIfInBounds_toArray, List.set_cons_zero, List.set_cons_succ]
 refine lec_takeT [8] (i := 2) (v := ?v2z) rfl (by kernel_rfl) (by kernel_rfl) (by kernel_rfl) (by kernel_rfl) (fun _ _ _ h => h) (.inl ⟨by rfl, ?hy2z⟩) S8 ?rest2z
 case hy2z =>
  rintro w' ⟨g0, g1, g2, g3, g4, g5, g6, g7⟩
  go_simp
  all_goals with_reducible rfl
 try simp only [Act.put, List.getElem_toArray, List.getElem_cons_succ, List.getElem_cons_zero, List.setIfInBounds_toArray, List.set_cons_zero, List.set_cons_succ]
 refine lec_takeP (i := 3) (v := ?v3z) rfl (by kernel_rfl) (by kernel_rfl) (by kernel_rfl) (by kernel_rfl) (fun _ _ _ h => h) (.inl ⟨by rfl, ?hy3z⟩) S8 ?rest3z
 case hy3z =>
  rintro w' _
  go_simp
  all_goals with_reducible rfl
 try simp only [Act.put, List.getElem_toArray, List.getElem_cons_succ, List.getElem_cons_zero, List.setIfInBounds_toArray, List.set_cons_zero, List.set_cons_succ]
 refine lec_takeP (i := 4) (v := ?v4z) rfl (by kernel_rfl) (by kernel_rfl) (by kernel_rfl) (by kernel_rfl) (fun _ _ _ h => h) (.inl ⟨by rfl, ?hy4z⟩) S8 ?rest4z
 case hy4z =>
  rintro w' _
  go_simp
  all_goals with_reducible rfl
 try simp only [Act.put, List.getElem_toArray, List.getElem_cons_succ, List.getElem_cons_zero, List.setIfInBounds_toArray, List.set_cons_zero, List.set_cons_succ]
 refine lec_takeP (i := 5) (v := ?v5z) rfl (by kernel_rfl) (by kernel_rfl) (by kernel_rfl) (by kernel_rfl) (fun _ _ _ h => h) (.inl ⟨by rfl, ?hy5z⟩) S8 ?rest5z
 case hy5z =>
  rintro w' _
  go_simp
  all_goals with_reducible rfl
 try simp only [Act.put, List.getElem_toArray, List.getElem_cons_succ, List.getElem_cons_zero, List.setIfInBounds_toArray, List.set_cons_zero, List.set_cons_succ]
 refine lec_takeP (i := 6) (v := ?v6z) rfl (by kernel_rfl) (by kernel_rfl) (by kernel_rfl) (by kernel_rfl) (fun _ _ _ h => h) (.inl ⟨by rfl, ?hy6z⟩) S8 ?rest6z
 case hy6z =>
  rintro w' _
  go_simp
  all_goals with_reducible rfl
 try simp only [Act.put, List.getElem_toArray, List.getElem_cons_succ, List.getElem_cons_zero, List.setIfInBounds_toArray, List.set_cons_zero, List.set_cons_succ]
 refine lec_takeT [8] (i := 7) (v := ?v7z) rfl (by kernel_rfl) (by kernel_rfl) (by kernel_rfl) (by kernel_rfl) (fun _ _ _ h => h) (.inl ⟨by rfl, ?hy7z⟩) S8 ?rest7z
 case hy7z =>
  rintro w' ⟨g0, g1, g2, g3, g4, g5, g6, g7⟩
  go_simp
  all_goals with_reducible rfl
 try simp only [Act.put, List.getElem_toArray, List.getElem_cons_succ, List.getElem_cons_zero, List.setIfInBounds_toArray, List.set_cons_zero, List.set_cons_succ]
 refine lec_one (i := 8) rfl (by kernel_rfl) ?_
 intro K8 hK8
 rw [if_pos (by rfl)]
 go_simp
 refine Calls.mono HP.out ?_
 rintro e w2 ⟨rfl, h2⟩
 have H2 : Hid _ := h2
 clear h2
 go_simp
 refine hK8 _ _ (fun h => by cases h) ?_
 clear hK8
 try simp only [Act.put, List.getElem_toArray, List.getElem_cons_succ, List.getElem_cons_zero, List.setIfInBounds_toArray, List.set_cons_zero, List.set_cons_succ]
 refine lec_done (by kernel_rfl) ?_
 clear S8
 go_wp2_with fail
 exact bodyPost_end (v := .tuple #[]) (by simp [results, Tryz.results53, go_sem]) rfl ⟨rfl, HFO.out _ _ _ HB1.out H2.out⟩
set_option maxRecDepth 100000 in
set_option maxHeartbeats 4000000 in
theorem rCall_yes {s d w R} (h : Rm s d w R) (op : Int) (a b c : Nat) (m : Nat) (f : Rf) (hf : s.FS[m]? = some f) (hln : s.FS.length <= 1000000) (hS : 0 <= s.S /\ s.S <= 1099511627776) (ht : 0 <= R.top /\ R.top <= s.S) (hq : ¬ f.fr > s.S - R.top) (hs : 2 <= f.fr) (hbk : Fits R.nx) (hbs : Fits R.base) (hfr : 0 <= R.frames /\ R.frames <= 4611686018427387000) (hc : R.cs < 999999999) :
 Calls Tryz.prog 53 #[.pointer (some ⟨s.mb, 0, none⟩), .agg #[.int .i64 op, .int .i64 (a : Int), .int .i64 (b : Int), .int .i64 (c : Int), .int .i64 (m : Int)]] w fun e w' => e = .returned (.tuple #[]) /\ ∃ d', Rm s d' w' (R.push f R.nx) /\ FooR s d d' w w' := by
 obtain ⟨W, hW⟩ : ∃ W, W = w.alloc (.cells #[.int .i64 op, .int .i64 (a : Int), .int .i64 (b : Int), .int .i64 (c : Int), .int .i64 (m : Int)] 71) := ⟨_, rfl⟩
 have hb1 : Below w.heap.size w W := by rw [hW]; exact below_newR w _
 have hx : W.heap[w.heap.size]? = some (.cells #[.int .i64 op, .int .i64 (a : Int), .int .i64 (b : Int), .int .i64 (c : Int), .int .i64 (m : Int)] 71 (0, 0)) := by rw [hW]; exact heap_alloc_new _ _
 have l1 : w.heap.size < W.heap.size := (gl hx)
 have H := h.below hb1
 have hlt := h.lt
 have hlW := H.lt
 have y0 : W.cell? ⟨w.heap.size, 0, none⟩ = some (.int .i64 op) := cell_arr hx rfl
 have y1 : W.cell? ⟨w.heap.size, 1, none⟩ = some (.int .i64 (a : Int)) := cell_arr hx rfl
 have y2 : W.cell? ⟨w.heap.size, 2, none⟩ = some (.int .i64 (b : Int)) := cell_arr hx rfl
 have y3 : W.cell? ⟨w.heap.size, 3, none⟩ = some (.int .i64 (c : Int)) := cell_arr hx rfl
 have y4 : W.cell? ⟨w.heap.size, 4, none⟩ = some (.int .i64 (m : Int)) := cell_arr hx rfl
 have c41 : W.cell? ⟨s.mb, 41, none⟩ = some (.int .i64 R.nx) := by exact H.cells.c41
 have HSW : Hid (∀ w2, Below W.heap.size W w2 -> w2.cell? ⟨w.heap.size, 0, none⟩ = some (.int .i64 op) /\ w2.cell? ⟨w.heap.size, 1, none⟩ = some (.int .i64 (a : Int)) /\ w2.cell? ⟨w.heap.size, 2, none⟩ = some (.int .i64 (b : Int)) /\ w2.cell? ⟨w.heap.size, 3, none⟩ = some (.int .i64 (c : Int)) /\ w2.cell? ⟨w.heap.size, 4, none⟩ = some (.int .i64 (m : Int)) /\ w2.cell? ⟨s.mb, 41, none⟩ = some (.int .i64 R.nx) /\ s.mb < w2.heap.size /\ w.heap.size < w2.heap.size) := fun w2 hb2 => by
  have q := H.below hb2
  have ex := (hb2.block _ l1).trans hx
  exact ⟨cell_arr ex rfl, cell_arr ex rfl, cell_arr ex rfl, cell_arr ex rfl, cell_arr ex rfl, q.cells.c41, q.lt, (gl ex)⟩
 have HFO : Hid (∀ W2 R2 w2, Below w.heap.size w W2 -> (∃ d', Rm s d' w2 R2 /\ FooR s d d' W2 w2) -> ∃ d', Rm s d' w2 R2 /\ FooR s d d' w w2) := fun W2 R2 w2 hb ⟨d', q1, q2⟩ => ⟨d', q1, (FooR.of_below hb).trans q2⟩
 have HB1 : Hid (Below w.heap.size w W.drew) := hb1.drew
 have HP : Hid _ := rBegin_yes (H.below (Below.refl _ _).drew) m f hf R.nx hln hS ht hq hs hbk hbs hfr hc
 clear hf hln hS ht hq hs hbk hbs hfr hc
 obtain ⟨kb, hkb⟩ : ∃ kb, kb = w.heap.size := ⟨_, rfl⟩
 rw [<- hkb] at y0 y1 y2 y3 y4 l1 HSW
 generalize s.mb = mb at *
 clear h H hb1 hx
 go_enter Tryz.func53, Tryz.ntmps53
 go_upto_region 1 with fail
 rw [<- hW, <- hkb]
 clear hW hkb
 have S8 : (fun w' : World => w'.cell? ⟨kb, 0, none⟩ = some (.int .i64 op) /\ w'.cell? ⟨kb, 1, none⟩ = some (.int .i64 (a : Int)) /\ w'.cell? ⟨kb, 2, none⟩ = some (.int .i64 (b : Int)) /\ w'.cell? ⟨kb, 3, none⟩ = some (.int .i64 (c : Int)) /\ w'.cell? ⟨kb, 4, none⟩ = some (.int .i64 (m : Int)) /\ w'.cell? ⟨mb, 41, none⟩ = some (.int .i64 R.nx) /\ mb < w'.heap.size /\ kb < w'.heap.size) W.drew := ⟨y0, y1, y2, y3, y4, c41, hlW, l1⟩
 refine lec_start (S := fun w' : World => w'.cell? ⟨kb, 0, none⟩ = some (.int .i64 op) /\ w'.cell? ⟨kb, 1, none⟩ = some (.int .i64 (a : Int)) /\ w'.cell? ⟨kb, 2, none⟩ = some (.int .i64 (b : Int)) /\ w'.cell? ⟨kb, 3, none⟩ = some (.int .i64 (c : Int)) /\ w'.cell? ⟨kb, 4, none⟩ = some (.int .i64 (m : Int)) /\ w'.cell? ⟨mb, 41, none⟩ = some (.int .i64 R.nx) /\ mb < w'.heap.size /\ kb < w'.heap.size) (z := 8) (by kernel_rfl) ?_
 show lec _ _ _ _ _ 9 _ _ _
 try simp only [List.size_toArray, List.length_cons, List.length_nil, Array.replicate]
 refine lec_takeP (i := 0) (v := ?v0z) rfl (by kernel_rfl) (by kernel_rfl) (by kernel_rfl) (by kernel_rfl) (fun _ _ _ h => h) (.inl ⟨by rfl, ?hy0z⟩) S8 ?rest0z
 case hy0z =>
  rintro w' _
  go_simp
  all_goals with_reducible rfl
 try simp only [Act.put, List.getElem_toArray, List.getElem_cons_succ, List.getElem_cons_zero, List.setIfInBounds_toArray, List.set_cons_zero, List.set_cons_succ]
 refine lec_takeP (i := 1) (v := ?v1z) rfl (by kernel_rfl) (by kernel_rfl) (by kernel_rfl) (by kernel_rfl) (fun _ _ _ h => h) (.inl ⟨by rfl, ?hy1z⟩) S8 ?rest1z
 case hy1z =>
  rintro w' _
  go_simp
  all_goals with_reducible rfl
 try simp only [Act.put, List.getElem_toArray, List.getElem_cons_succ, List.getElem_cons_zero, List.setIfInBounds_toArray, List.set_cons_zero, List.set_cons_succ]
 refine lec_takeT [8] (i := 2) (v := ?v2z) rfl (by kernel_rfl) (by kernel_rfl) (by kernel_rfl) (by kernel_rfl) (fun _ _ _ h => h) (.inl ⟨by rfl, ?hy2z⟩) S8 ?rest2z
 case hy2z =>
  rintro w' ⟨g0, g1, g2, g3, g4, g5, g6, g7⟩
  go_simp
  all_goals with_reducible rfl
 try simp only [Act.put, List.getElem_toArray, List.getElem_cons_succ, List.getElem_cons_zero, List.setIfInBounds_toArray, List.set_cons_zero, List.set_cons_succ]
 refine lec_takeP (i := 3) (v := ?v3z) rfl (by kernel_rfl) (by kernel_rfl) (by kernel_rfl) (by kernel_rfl) (fun _ _ _ h => h) (.inl ⟨by rfl, ?hy3z⟩) S8 ?rest3z
 case hy3z =>
  rintro w' _
  go_simp
  all_goals with_reducible rfl
 try simp only [Act.put, List.getElem_toArray, List.getElem_cons_succ, List.getElem_cons_zero, List.setIfInBounds_toArray, List.set_cons_zero, List.set_cons_succ]
 refine lec_takeP (i := 4) (v := ?v4z) rfl (by kernel_rfl) (by kernel_rfl) (by kernel_rfl) (by kernel_rfl) (fun _ _ _ h => h) (.inl ⟨by rfl, ?hy4z⟩) S8 ?rest4z
 case hy4z =>
  rintro w' _
  go_simp
  all_goals with_reducible rfl
 try simp only [Act.put, List.getElem_toArray, List.getElem_cons_succ, List.getElem_cons_zero, List.setIfInBounds_toArray, List.set_cons_zero, List.set_cons_succ]
 refine lec_takeP (i := 5) (v := ?v5z) rfl (by kernel_rfl) (by kernel_rfl) (by kernel_rfl) (by kernel_rfl) (fun _ _ _ h => h) (.inl ⟨by rfl, ?hy5z⟩) S8 ?rest5z
 case hy5z =>
  rintro w' _
  go_simp
  all_goals with_reducible rfl
 try simp only [Act.put, List.getElem_toArray, List.getElem_cons_succ, List.getElem_cons_zero, List.setIfInBounds_toArray, List.set_cons_zero, List.set_cons_succ]
 refine lec_takeP (i := 6) (v := ?v6z) rfl (by kernel_rfl) (by kernel_rfl) (by kernel_rfl) (by kernel_rfl) (fun _ _ _ h => h) (.inl ⟨by rfl, ?hy6z⟩) S8 ?rest6z
 case hy6z =>
  rintro w' _
  go_simp
  all_goals with_reducible rfl
 try simp only [Act.put, List.getElem_toArray, List.getElem_cons_succ, List.getElem_cons_zero, List.setIfInBounds_toArray, List.set_cons_zero, List.set_cons_succ]
 refine lec_takeT [8] (i := 7) (v := ?v7z) rfl (by kernel_rfl) (by kernel_rfl) (by kernel_rfl) (by kernel_rfl) (fun _ _ _ h => h) (.inl ⟨by rfl, ?hy7z⟩) S8 ?rest7z
 case hy7z =>
  rintro w' ⟨g0, g1, g2, g3, g4, g5, g6, g7⟩
  go_simp
  all_goals with_reducible rfl
 try simp only [Act.put, List.getElem_toArray, List.getElem_cons_succ, List.getElem_cons_zero, List.setIfInBounds_toArray, List.set_cons_zero, List.set_cons_succ]
 refine lec_one (i := 8) rfl (by kernel_rfl) ?_
 intro K8 hK8
 rw [if_pos (by rfl)]
 go_simp
 refine Calls.mono HP.out ?_
 rintro e w2 ⟨rfl, h2⟩
 have H2 : Hid _ := h2
 clear h2
 go_simp
 refine hK8 _ _ (fun h => by cases h) ?_
 clear hK8
 try simp only [Act.put, List.getElem_toArray, List.getElem_cons_succ, List.getElem_cons_zero, List.setIfInBounds_toArray, List.set_cons_zero, List.set_cons_succ]
 refine lec_done (by kernel_rfl) ?_
 clear S8
 go_wp2_with fail
 exact bodyPost_end (v := .tuple #[]) (by simp [results, Tryz.results53, go_sem]) rfl ⟨rfl, HFO.out _ _ _ HB1.out H2.out⟩
set_option maxRecDepth 100000 in
set_option maxHeartbeats 4000000 in
theorem rBack {s d w R} (h : Rm s d w R) (op : Int) (a b c : Nat) (n : Int) (hb0 : Fits R.base) (hbb : Fits (R.base + 1)) (hfr : -4611686018427387904 <= R.frames /\ R.frames <= 4611686018427387904) :
 Calls Tryz.prog 54 #[.pointer (some ⟨s.mb, 0, none⟩), .agg #[.int .i64 op, .int .i64 (a : Int), .int .i64 (b : Int), .int .i64 (c : Int), .int .i64 n]] w fun e w' => e = .returned (.tuple #[]) /\ ∃ d', Rm s d' w' R.back /\ FooR s d d' w w' := by
 obtain ⟨W, hW⟩ : ∃ W, W = w.alloc (.cells #[.int .i64 op, .int .i64 (a : Int), .int .i64 (b : Int), .int .i64 (c : Int), .int .i64 n] 71) := ⟨_, rfl⟩
 have hb1 : Below w.heap.size w W := by rw [hW]; exact below_newR w _
 have H := h.below hb1
 have hlt := h.lt
 have HPO : Hid (Calls Tryz.prog 97 #[.pointer (some ⟨s.mb, 58, none⟩)] W fun e w2 => e = .returned (.tuple #[.int .i64 (R.sw R.base), .bool (!decide (R.sw (R.base + 1) = -1))]) /\ s.mb < w2.heap.size /\ w2.cell? ⟨s.mb, 41, none⟩ = some (.int .i64 R.nx) /\ w2.frozen? ⟨s.mb, 41, none⟩ = false /\ (¬ R.sw (R.base + 1) = -1 -> ∃ d', Rm s d' (w2.setCell ⟨s.mb, 41, none⟩ (.int .i64 (R.sw R.base))) R.back /\ FooR s d d' w (w2.setCell ⟨s.mb, 41, none⟩ (.int .i64 (R.sw R.base)))) /\ (R.sw (R.base + 1) = -1 -> Calls Tryz.prog 98 #[.pointer (some ⟨s.mb, 66, none⟩)] w2 fun e w3 => e = .returned (.tuple #[]) /\ s.mb < w3.heap.size /\ w3.cell? ⟨s.mb, 41, none⟩ = some (.int .i64 R.nx) /\ w3.frozen? ⟨s.mb, 41, none⟩ = false /\ ∃ d', Rm s d' (w3.setCell ⟨s.mb, 41, none⟩ (.int .i64 (R.sw R.base))) R.back /\ FooR s d d' w (w3.setCell ⟨s.mb, 41, none⟩ (.int .i64 (R.sw R.base))))) := by
  refine (rPop H hb0 hbb hfr).mono ?_
  rintro e w2 ⟨rfl, d2, k1, k2⟩
  refine ⟨rfl, k1.lt, k1.cells.c41, k1.fz _, fun q => ?_, fun q => (mExitR k1).mono ?_⟩
  ·have k5 := k1.setNx (R.sw R.base)
   refine ⟨d2, ?_, (FooR.of_below hb1).trans (k2.trans k5.2)⟩
   have e := k5.1
   unfold Rv.back
   rw [if_neg q]
   exact e
  ·rintro e w3 ⟨rfl, d3, k3, k4⟩
   have k5 := k3.setNx (R.sw R.base)
   refine ⟨rfl, k3.lt, k3.cells.c41, k3.fz _, d3, ?_, (FooR.of_below hb1).trans (k2.trans (k4.trans k5.2))⟩
   have e := k5.1
   unfold Rv.back
   rw [if_pos q]
   exact e
 clear h H hb1 hb0 hbb hfr
 by_cases hq : R.sw (R.base + 1) = -1
 ·rw [decide_eq_true hq] at HPO
  have HQ : Hid (R.sw (R.base + 1) = -1) := hq
  clear hq
  generalize s.mb = mb at *
  go_enter Tryz.func54, Tryz.ntmps54
  go_upto_region 1 with fail
  rw [<- hW]
  clear hW
  go_wp2_with fail
  refine Calls.mono HPO.out ?_
  rintro e w2 ⟨rfl, l2, c2, f2, _, h2⟩
  have HX : Hid _ := h2 HQ.out
  clear h2 HPO HQ
  go_wp2_with fail
  refine Calls.mono HX.out ?_
  rintro e w3 ⟨rfl, l3, c3, f3, h3⟩
  have H3 : Hid _ := h3
  clear h3
  go_wp2_with fail
  exact bodyPost_end (v := .tuple #[]) (by simp [results, Tryz.results54, go_sem]) rfl ⟨rfl, H3.out⟩
 ·rw [decide_eq_false hq] at HPO
  have HQ : Hid (¬ R.sw (R.base + 1) = -1) := hq
  clear hq
  generalize s.mb = mb at *
  go_enter Tryz.func54, Tryz.ntmps54
  go_upto_region 1 with fail
  rw [<- hW]
  clear hW
  go_wp2_with fail
  refine Calls.mono HPO.out ?_
  rintro e w2 ⟨rfl, l2, c2, f2, h2, _⟩
  have H2 : Hid _ := h2 HQ.out
  clear h2 HPO HQ
  go_wp2_with fail
  exact bodyPost_end (v := .tuple #[]) (by simp [results, Tryz.results54, go_sem]) rfl ⟨rfl, H2.out⟩
end Go.Proofs.YtfofmmkihhnfmaaGreatDoor
