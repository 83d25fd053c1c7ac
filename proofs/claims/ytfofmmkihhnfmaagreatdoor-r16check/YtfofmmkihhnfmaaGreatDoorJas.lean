import Derived.Test.YtfofmmkihhnfmaaGreatDoorJar
set_option linter.unusedVariables false
set_option linter.unusedSimpArgs false
namespace Go.Proofs.YtfofmmkihhnfmaaGreatDoor
open Go.ChangeShapes Go.WideShapes Go.ChangeAt Go.RowKit Go.Maps
set_option maxRecDepth 100000 in
theorem rSGet {s d w R} (h : Rm s d w R) (k : Int) (hk : Fits (R.base + k)) :
 Calls Tryz.prog 95 #[.pointer (some ⟨s.mb, 58, none⟩), .int .i64 k] w fun e w' => e = .returned (.int .i64 (R.sw (R.base + k))) /\ Below w.heap.size w w' := by
 have hlt := h.lt
 have c58 := h.cells.c58
 have c60 := h.cells.c60
 have HL : ∀ q : Nat, (Instr.lookup 73 (.map (some s.sb)) (.int .i64 (R.base + k)) false).run Tryz.prog (w.drewN q) = .ok (.int .i64 (R.sw (R.base + k))) (w.drewN q) := fun q => SW.look (w := w.drewN q) (h.rest.sm.move (w' := w.drewN q) rfl) hk
 have hw : IntKind.i64.wrap (R.base + k) = R.base + k := by
  have := hk
  unfold Fits at this
  rw [IntKind.wrap_i64]; omega
 generalize R.sw (R.base + k) = x at *
 generalize R.base = bs at *
 generalize s.mb = mb at *
 generalize s.sb = sb at *
 clear h hk
 go_enter Tryz.func95, Tryz.ntmps95
 go_wp2_with fail
 go_quiet (fail)
 go_wp2_with fail
 go_ret
 exact ⟨rfl, below_drawnR (Below.refl _ _) _⟩
set_option maxRecDepth 100000 in
theorem rSSet {s d w R} (h : Rm s d w R) (k x : Int) (hk : Fits (R.base + k)) (hx : Fits x) (hc : R.cs < 1000000000) :
 Calls Tryz.prog 96 #[.pointer (some ⟨s.mb, 58, none⟩), .int .i64 k, .int .i64 x] w fun e w' => e = .returned (.tuple #[]) /\ ∃ d', Rm s d' w' { R with sw := upd R.sw (R.base + k) x, cs := R.cs + 1 } /\ FooR s d d' w w' := by
 have hlt := h.lt
 have c58 := h.cells.c58
 have c60 := h.cells.c60
 have h2 := h.below (Below.refl _ _).drew
 obtain ⟨w9, hrun, hs9, ho9⟩ := h2.rest.sm.put hk hx hc
 have HFI : Hid (∃ d', Rm s d' w9 { R with sw := upd R.sw (R.base + k) x, cs := R.cs + 1 } /\ FooR s d d' w w9) := ⟨d, (h2.setSw hs9 ho9).1, (FooR.of_below (Below.refl _ _).drew).trans (h2.setSw hs9 ho9).2⟩
 have hw : IntKind.i64.wrap (R.base + k) = R.base + k := by
  have := hk
  unfold Fits at this
  rw [IntKind.wrap_i64]; omega
 clear h h2 hk hx hc hs9 ho9
 generalize R.base = bs at *
 generalize s.mb = mb at *
 generalize s.sb = sb at *
 go_enter Tryz.func96, Tryz.ntmps96
 go_wp2_with fail
 have S8 : (fun w' : World => w'.cell? ⟨mb, 58, none⟩ = some (.map (some sb)) /\ w'.cell? ⟨mb, 58 + 2, none⟩ = some (.int .i64 bs) /\ mb < w'.heap.size) w.drew := ⟨c58, c60, hlt⟩
 refine lec_start (S := fun w' : World => w'.cell? ⟨mb, 58, none⟩ = some (.map (some sb)) /\ w'.cell? ⟨mb, 58 + 2, none⟩ = some (.int .i64 bs) /\ mb < w'.heap.size) (z := 11) (by kernel_rfl) ?_
 show lec _ _ _ _ _ 12 _ _ _
 try simp only [List.size_toArray, List.length_cons, List.length_nil, Array.replicate]
 refine lec_takeP (i := 0) (v := ?v0z) rfl (by kernel_rfl) (by kernel_rfl) (by kernel_rfl) (by kernel_rfl) (fun _ _ _ h => h) (.inl ⟨by rfl, ?hy0z⟩) S8 ?rest0z
 case hy0z =>
  rintro w' _
  go_simp
  all_goals with_reducible rfl
 try simp only [Act.put, List.getElem_toArray, List.getElem_cons_succ, List.getElem_cons_zero, List.setIfInBounds_toArray, List.set_cons_zero, List.set_cons_succ]
 refine lec_takeP (i := 1) (v := ?v1z) rfl (by kernel_rfl) (by kernel_rfl) (by kernel_rfl) (by kernel_rfl) (fun _ _ _ h => h) (.inl ⟨by rfl, ?hy1z⟩) S8 ?rest1z
 case hy1z =>
  rintro w' _
  go_simp
  all_goals with_reducible rfl
 try simp only [Act.put, List.getElem_toArray, List.getElem_cons_succ, List.getElem_cons_zero, List.setIfInBounds_toArray, List.set_cons_zero, List.set_cons_succ]
 refine lec_takeP (i := 2) (v := ?v2z) rfl (by kernel_rfl) (by kernel_rfl) (by kernel_rfl) (by kernel_rfl) (fun _ _ _ h => h) (.inl ⟨by rfl, ?hy2z⟩) S8 ?rest2z
 case hy2z =>
  rintro w' _
  go_simp
  all_goals with_reducible rfl
 try simp only [Act.put, List.getElem_toArray, List.getElem_cons_succ, List.getElem_cons_zero, List.setIfInBounds_toArray, List.set_cons_zero, List.set_cons_succ]
 refine lec_takeT [11] (i := 3) (v := ?v3z) rfl (by kernel_rfl) (by kernel_rfl) (by kernel_rfl) (by kernel_rfl) (fun _ _ _ h => h) (.inl ⟨by rfl, ?hy3z⟩) S8 ?rest3z
 case hy3z =>
  rintro w' ⟨g0, g1, g2⟩
  go_simp
  all_goals with_reducible rfl
 try simp only [Act.put, List.getElem_toArray, List.getElem_cons_succ, List.getElem_cons_zero, List.setIfInBounds_toArray, List.set_cons_zero, List.set_cons_succ]
 refine lec_takeP (i := 4) (v := ?v4z) rfl (by kernel_rfl) (by kernel_rfl) (by kernel_rfl) (by kernel_rfl) (fun _ _ _ h => h) (.inl ⟨by rfl, ?hy4z⟩) S8 ?rest4z
 case hy4z =>
  rintro w' _
  go_simp
  all_goals with_reducible rfl
 try simp only [Act.put, List.getElem_toArray, List.getElem_cons_succ, List.getElem_cons_zero, List.setIfInBounds_toArray, List.set_cons_zero, List.set_cons_succ]
 refine lec_takeP (i := 5) (v := ?v5z) rfl (by kernel_rfl) (by kernel_rfl) (by kernel_rfl) (by kernel_rfl) (fun _ _ _ h => h) (.inl ⟨by rfl, ?hy5z⟩) S8 ?rest5z
 case hy5z =>
  rintro w' _
  go_simp
  all_goals with_reducible rfl
 try simp only [Act.put, List.getElem_toArray, List.getElem_cons_succ, List.getElem_cons_zero, List.setIfInBounds_toArray, List.set_cons_zero, List.set_cons_succ]
 refine lec_takeP (i := 6) (v := ?v6z) rfl (by kernel_rfl) (by kernel_rfl) (by kernel_rfl) (by kernel_rfl) (fun _ _ _ h => h) (.inl ⟨by rfl, ?hy6z⟩) S8 ?rest6z
 case hy6z =>
  rintro w' _
  go_simp
  all_goals with_reducible rfl
 try simp only [Act.put, List.getElem_toArray, List.getElem_cons_succ, List.getElem_cons_zero, List.setIfInBounds_toArray, List.set_cons_zero, List.set_cons_succ]
 refine lec_takeT [9, 11] (i := 7) (v := ?v7z) rfl (by kernel_rfl) (by kernel_rfl) (by kernel_rfl) (by kernel_rfl) (fun _ _ _ h => h) (.inl ⟨by rfl, ?hy7z⟩) S8 ?rest7z
 case hy7z =>
  rintro w' ⟨g0, g1, g2⟩
  go_simp
  all_goals with_reducible rfl
 try simp only [Act.put, List.getElem_toArray, List.getElem_cons_succ, List.getElem_cons_zero, List.setIfInBounds_toArray, List.set_cons_zero, List.set_cons_succ]
 refine lec_takeP (i := 8) (v := ?v8z) rfl (by kernel_rfl) (by kernel_rfl) (by kernel_rfl) (by kernel_rfl) (fun _ _ _ h => h) (.inl ⟨by rfl, ?hy8z⟩) S8 ?rest8z
 case hy8z =>
  rintro w' _
  go_simp
  all_goals with_reducible rfl
 try simp only [Act.put, List.getElem_toArray, List.getElem_cons_succ, List.getElem_cons_zero, List.setIfInBounds_toArray, List.set_cons_zero, List.set_cons_succ]
 refine lec_takeP (i := 9) (v := ?v9z) rfl (by kernel_rfl) (by kernel_rfl) (by kernel_rfl) (by kernel_rfl) (fun _ _ _ h => h) (.inl ⟨by rfl, ?hy9z⟩) S8 ?rest9z
 case hy9z =>
  rintro w' _
  go_simp
  all_goals with_reducible rfl
 try simp only [Act.put, List.getElem_toArray, List.getElem_cons_succ, List.getElem_cons_zero, List.setIfInBounds_toArray, List.set_cons_zero, List.set_cons_succ]
 refine lec_takeP (i := 10) (v := ?v10z) rfl (by kernel_rfl) (by kernel_rfl) (by kernel_rfl) (by kernel_rfl) (fun _ _ _ h => h) (.inl ⟨by rfl, ?hy10z⟩) S8 ?rest10z
 case hy10z =>
  rintro w' _
  go_simp
  all_goals with_reducible rfl
 try simp only [Act.put, List.getElem_toArray, List.getElem_cons_succ, List.getElem_cons_zero, List.setIfInBounds_toArray, List.set_cons_zero, List.set_cons_succ]
 refine lec_one (i := 11) rfl (by kernel_rfl) ?_
 intro K11 hK11
 rw [if_pos (by rfl)]
 go_simp
 go_simp
 refine hK11 _ _ (fun h => by cases h) ?_
 clear hK11
 try simp only [Act.put, List.getElem_toArray, List.getElem_cons_succ, List.getElem_cons_zero, List.setIfInBounds_toArray, List.set_cons_zero, List.set_cons_succ]
 refine lec_done (by kernel_rfl) ?_
 clear S8
 go_wp2_with fail
 exact bodyPost_end (v := .tuple #[]) (by simp [results, Tryz.results96, go_sem]) rfl ⟨rfl, HFI.out⟩
set_option maxRecDepth 100000 in
theorem rPush_no {s d w R} (h : Rm s d w R) (size back : Int) (hS : 0 <= s.S /\ s.S <= 1099511627776) (ht : 0 <= R.top /\ R.top <= s.S) (hq : size > s.S - R.top) :
 Calls Tryz.prog 67 #[.pointer (some ⟨s.mb, 58, none⟩), .int .i64 size, .int .i64 back] w fun e w' => e = .returned (.bool false) /\ Below w.heap.size w w' := by
 have hlt := h.lt
 have c59 := h.cells.c59
 have c61 := h.cells.c61
 have hw : IntKind.i64.wrap (s.S - R.top) = s.S - R.top := by rw [IntKind.wrap_i64]; omega
 have hz : decide (s.S - R.top < size) = true := decide_eq_true hq
 clear h hS ht hq
 generalize R.top = tp at *
 generalize s.S = sS at *
 generalize s.mb = mb at *
 go_enter Tryz.func67, Tryz.ntmps67
 go_wp2_with fail
 go_quiet (fail)
 go_wp2_with fail
 go_ret
 exact ⟨rfl, below_drawnR (Below.refl _ _) _⟩
set_option maxRecDepth 100000 in
theorem rPush_yes {s d w R} (h : Rm s d w R) (size back : Int) (hS : 0 <= s.S /\ s.S <= 1099511627776) (ht : 0 <= R.top /\ R.top <= s.S) (hq : ¬ size > s.S - R.top) (hs : 2 <= size) (hbk : Fits back) (hbs : Fits R.base) (hfr : 0 <= R.frames /\ R.frames <= 4611686018427387904) (hc : R.cs < 999999999) :
 Calls Tryz.prog 67 #[.pointer (some ⟨s.mb, 58, none⟩), .int .i64 size, .int .i64 back] w fun e w' => e = .returned (.bool true) /\ ∃ d', Rm s d' w' { R with base := R.top, top := R.top + size, sw := upd (upd R.sw R.top back) (R.top + 1) R.base, cs := R.cs + 2, frames := R.frames + 1 } /\ FooR s d d' w w' := by
 have hlt := h.lt
 have c59 := h.cells.c59
 have c60 := h.cells.c60
 have c61 := h.cells.c61
 have c62 := h.cells.c62
 have f60 := h.fz 60
 have f61 := h.fz 61
 have hw : IntKind.i64.wrap (s.S - R.top) = s.S - R.top := by rw [IntKind.wrap_i64]; omega
 have hw2 : IntKind.i64.wrap (R.top + size) = R.top + size := by rw [IntKind.wrap_i64]; omega
 have hz : decide (s.S - R.top < size) = false := decide_eq_false hq
 have ft : Fits R.top := by unfold Fits; omega
 have hwf : IntKind.i64.wrap (R.frames + 1) = R.frames + 1 := by rw [IntKind.wrap_i64]; omega
 have HM : Hid (∀ q, Rm s d (((w.drewN q).setCell ⟨s.mb, 60, none⟩ (.int .i64 R.top)).setCell ⟨s.mb, 61, none⟩ (.int .i64 (R.top + size))) { R with base := R.top, top := R.top + size } /\ FooR s d d w (((w.drewN q).setCell ⟨s.mb, 60, none⟩ (.int .i64 R.top)).setCell ⟨s.mb, 61, none⟩ (.int .i64 (R.top + size)))) := fun q => by
  have b := below_drawnR (Below.refl w.heap.size w) q
  have h0 := h.below b
  have h1 := h0.setTail 2 (.int .i64 R.top) (R' := { R with base := R.top }) rfl (h0.rest.set _ _).same
  have h2 := h1.1.setTail 3 (.int .i64 (R.top + size)) (R' := { R with base := R.top, top := R.top + size }) rfl (h1.1.rest.set _ _).same
  exact ⟨h2.1, (FooR.of_below b).trans (h1.2.trans h2.2)⟩
 have HS1 : Hid (∀ q, Calls Tryz.prog 96 #[.pointer (some ⟨s.mb, 58, none⟩), .int .i64 0, .int .i64 back] (((w.drewN q).setCell ⟨s.mb, 60, none⟩ (.int .i64 R.top)).setCell ⟨s.mb, 61, none⟩ (.int .i64 (R.top + size))) fun e w1 => e = .returned (.tuple #[]) /\ s.mb < w1.heap.size /\ Calls Tryz.prog 96 #[.pointer (some ⟨s.mb, 58, none⟩), .int .i64 1, .int .i64 R.base] w1 fun e w2 => e = .returned (.tuple #[]) /\ s.mb < w2.heap.size /\ w2.cell? ⟨s.mb, 62, none⟩ = some (.int .i64 R.frames) /\ w2.frozen? ⟨s.mb, 62, none⟩ = false /\ ∃ d', Rm s d' (w2.setCell ⟨s.mb, 62, none⟩ (.int .i64 (R.frames + 1))) { R with base := R.top, top := R.top + size, sw := upd (upd R.sw R.top back) (R.top + 1) R.base, cs := R.cs + 2, frames := R.frames + 1 } /\ FooR s d d' w (w2.setCell ⟨s.mb, 62, none⟩ (.int .i64 (R.frames + 1)))) := fun q => by
  have h1 := HM.out q
  refine (rSSet h1.1 0 back (by show Fits (R.top + 0); rw [Int.add_zero]; exact ft) hbk (by show R.cs < _; omega)).mono ?_
  rintro e w1 ⟨rfl, d1, k1, k2⟩
  have e0 : ({ R with base := R.top, top := R.top + size } : Rv).base + 0 = R.top := Int.add_zero _
  rw [e0] at k1
  refine ⟨rfl, k1.lt, (rSSet k1 1 R.base (by show Fits (R.top + 1); unfold Fits; omega) hbs (by show R.cs + 1 < _; omega)).mono ?_⟩
  rintro e w2 ⟨rfl, d2, k3, k4⟩
  have k5 := k3.setTail 4 (.int .i64 (R.frames + 1)) (R' := { R with base := R.top, top := R.top + size, sw := upd (upd R.sw R.top back) (R.top + 1) R.base, cs := R.cs + 2, frames := R.frames + 1 }) rfl (k3.rest.set _ _).same
  exact ⟨rfl, k3.lt, k3.cells.c62, k3.fz _, d2, k5.1, h1.2.trans (k2.trans (k4.trans k5.2))⟩
 clear HM h hS ht hq hs hbk hbs hfr hc ft
 generalize R.top = tp at *
 generalize R.base = bs at *
 generalize R.frames = fr at *
 generalize s.S = sS at *
 generalize s.mb = mb at *
 go_enter Tryz.func67, Tryz.ntmps67
 go_wp2_with fail
 go_quiet (fail)
 go_wp2_with fail
 go_region
 go_wp2_with fail
 refine Calls.mono (HS1.out _) ?_
 rintro e w1 ⟨rfl, l1, hc1⟩
 have HC1 : Hid _ := hc1
 clear hc1
 go_wp2_with fail
 refine Calls.mono HC1.out ?_
 rintro e w2 ⟨rfl, l2, x62, z62, h2⟩
 have H2 : Hid _ := h2
 clear h2
 go_wp2_with fail
 go_ret
 exact ⟨rfl, H2.out⟩
set_option maxRecDepth 100000 in
theorem rPop {s d w R} (h : Rm s d w R) (hb0 : Fits R.base) (hb1 : Fits (R.base + 1)) (hfr : -4611686018427387904 <= R.frames /\ R.frames <= 4611686018427387904) :
 Calls Tryz.prog 97 #[.pointer (some ⟨s.mb, 58, none⟩)] w fun e w' => e = .returned (.tuple #[.int .i64 (R.sw R.base), .bool (!decide (R.sw (R.base + 1) = -1))]) /\ ∃ d', Rm s d' w' { R with base := R.sw (R.base + 1), top := R.base, frames := R.frames - 1 } /\ FooR s d d' w w' := by
 have hlt := h.lt
 have HG0 : Hid (Calls Tryz.prog 95 #[.pointer (some ⟨s.mb, 58, none⟩), .int .i64 0] w fun e w' => e = .returned (.int .i64 (R.sw R.base)) /\ Below w.heap.size w w') := by
  have q := rSGet h 0 (by rw [Int.add_zero]; exact hb0)
  rw [Int.add_zero] at q
  exact q
 have HG1 : Hid (∀ W, Below w.heap.size w W -> Calls Tryz.prog 95 #[.pointer (some ⟨s.mb, 58, none⟩), .int .i64 1] W fun e w' => e = .returned (.int .i64 (R.sw (R.base + 1))) /\ Below W.heap.size W w') := fun W hb => rSGet (h.below hb) 1 hb1
 have HM : Hid (∀ W, Below w.heap.size w W -> (s.mb < W.heap.size /\ W.cell? ⟨s.mb, 60, none⟩ = some (.int .i64 R.base) /\ W.cell? ⟨s.mb, 61, none⟩ = some (.int .i64 R.top) /\ W.cell? ⟨s.mb, 62, none⟩ = some (.int .i64 R.frames) /\ W.frozen? ⟨s.mb, 60, none⟩ = false /\ W.frozen? ⟨s.mb, 61, none⟩ = false /\ W.frozen? ⟨s.mb, 62, none⟩ = false) /\ ∃ d', Rm s d' (((W.setCell ⟨s.mb, 60, none⟩ (.int .i64 (R.sw (R.base + 1)))).setCell ⟨s.mb, 61, none⟩ (.int .i64 R.base)).setCell ⟨s.mb, 62, none⟩ (.int .i64 (R.frames - 1))) { R with base := R.sw (R.base + 1), top := R.base, frames := R.frames - 1 } /\ FooR s d d' w (((W.setCell ⟨s.mb, 60, none⟩ (.int .i64 (R.sw (R.base + 1)))).setCell ⟨s.mb, 61, none⟩ (.int .i64 R.base)).setCell ⟨s.mb, 62, none⟩ (.int .i64 (R.frames - 1)))) := fun W hb => by
  have h0 := h.below hb
  have T := h0.cells
  have h1 := h0.setTail 2 (.int .i64 (R.sw (R.base + 1))) (R' := { R with base := R.sw (R.base + 1) }) rfl (h0.rest.set _ _).same
  have h2 := h1.1.setTail 3 (.int .i64 R.base) (R' := { R with base := R.sw (R.base + 1), top := R.base }) rfl (h1.1.rest.set _ _).same
  have h3 := h2.1.setTail 4 (.int .i64 (R.frames - 1)) (R' := { R with base := R.sw (R.base + 1), top := R.base, frames := R.frames - 1 }) rfl (h2.1.rest.set _ _).same
  exact ⟨⟨h0.lt, T.c60, T.c61, T.c62, h0.fz _, h0.fz _, h0.fz _⟩, d, h3.1, (FooR.of_below hb).trans (h1.2.trans (h2.2.trans h3.2))⟩
 have hw : IntKind.i64.wrap (R.frames - 1) = R.frames - 1 := by rw [IntKind.wrap_i64]; omega
 have hne : (R.sw (R.base + 1) != -1) = !decide (R.sw (R.base + 1) = -1) := by
  rw [Bool.eq_iff_iff]; simp
 rw [<- hne]
 clear h hb0 hb1 hfr hne
 generalize R.sw (R.base + 1) = x1 at *
 generalize R.sw R.base = x0 at *
 generalize R.top = tp at *
 generalize R.base = bs at *
 generalize R.frames = fr at *
 generalize s.mb = mb at *
 go_enter Tryz.func97, Tryz.ntmps97
 go_wp2_with fail
 refine Calls.mono HG0.out ?_
 rintro e w1 ⟨rfl, b1⟩
 go_wp2_with fail
 refine Calls.mono (HG1.out w1 b1) ?_
 rintro e w2 ⟨rfl, b2⟩
 obtain ⟨⟨l2, y0, y1, y2, z0, z1, z2⟩, h2⟩ := HM.out w2 (b1.trans (b2.mono b1.size))
 have H2 : Hid _ := h2
 clear h2 HM HG0 HG1
 go_wp2_with fail
 go_ret2
 exact ⟨rfl, H2.out⟩
end Go.Proofs.YtfofmmkihhnfmaaGreatDoor
