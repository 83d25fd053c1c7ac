import Derived.Test.YtfofmmkihhnfmaaGreatDoorJao
set_option linter.unusedVariables false
set_option linter.unusedSimpArgs false
namespace Go.Proofs.YtfofmmkihhnfmaaGreatDoor
open Go.ChangeShapes Go.WideShapes Go.ChangeAt Go.RowKit Go.Maps
theorem Rm.taken {s d w R} (h : Rm s d w R) {y : Int} {L : List Int} (hM : R.inp = y :: L) {b o : Nat} (hia : d.ia = some ⟨b, o, none⟩) (ia : Option Addr) (ic : Nat) (hi : L ≠ [] -> ia = some ⟨b, o + 1, none⟩) (hc : L.length <= ic /\ ic <= 9223372036854775807) :
 ∃ d', Rm s d' (w.setCell ⟨s.mb, 65, none⟩ (.slice ia L.length ic)) { R with inp := L } /\ FooR s d d' w (w.setCell ⟨s.mb, 65, none⟩ (.slice ia L.length ic)) := by
 have q := h.rest.set 65 (.slice ia L.length ic)
 refine ⟨{ d with ia := ia, ic := ic }, ⟨box_setR h.box (rcs_setTail (d' := { d with ia := ia, ic := ic }) (R' := { R with inp := L }) h.rg (j := 7) rfl rfl rfl), h.rg, ?_⟩, ⟨(Only.of_set w _ _).mono fun k _ hk => .inl hk, fun k hk => .inl hk⟩⟩
 refine ⟨q.agr, q.code, q.fns, fun w' hw' => ⟨hc.1, hc.2, fun hne => ?_⟩, q.ch, q.sm, q.ev, q.evs, q.hi, q.out, q.sbn, q.box⟩
 have hI := h.rest.inp w' hw'
 rw [hM] at hI
 obtain ⟨b', o', e, hA⟩ := hI.out (by simp)
 rw [hia] at e
 cases e
 exact ⟨b, o + 1, hi hne, ⟨hA.lt, fun j hj => by
  have := hA.cell (j + 1) (by simpa using hj)
  simp only [List.getElem_cons_succ] at this
  rw [<- this]
  congr 2
  omega⟩⟩
theorem AtI.zero {w b o y L} (h : AtI w b o (y :: L)) : w.cell? ⟨b, o, none⟩ = some (.int .i64 y) := h.cell 0 (by simp)
set_option maxRecDepth 100000 in
set_option maxHeartbeats 4000000 in
theorem rTake0 {s d w R} (h : Rm s d w R) (op : Int) (a b c : Nat) (n : Int) (hM : R.inp = []) :
 Calls Tryz.prog 63 #[.pointer (some ⟨s.mb, 0, none⟩), .agg #[.int .i64 op, .int .i64 (a : Int), .int .i64 (b : Int), .int .i64 (c : Int), .int .i64 n]] w fun e w' => e = .returned (.tuple #[]) /\ ∃ d', Rm s d' w' (R.panic 5 0) /\ FooR s d d' w w' := by
 obtain ⟨W, hW⟩ : ∃ W, W = w.alloc (.cells #[.int .i64 op, .int .i64 (a : Int), .int .i64 (b : Int), .int .i64 (c : Int), .int .i64 n] 71) := ⟨_, rfl⟩
 have hb1 : Below w.heap.size w W := by rw [hW]; exact below_newR w _
 have hx : W.heap[w.heap.size]? = some (.cells #[.int .i64 op, .int .i64 (a : Int), .int .i64 (b : Int), .int .i64 (c : Int), .int .i64 n] 71 (0, 0)) := by rw [hW]; exact heap_alloc_new _ _
 have l1 : w.heap.size < W.heap.size := (gl hx)
 have H := h.below hb1
 have hlt := h.lt
 have hlW := H.lt
 have y0 : W.cell? ⟨w.heap.size, 0, none⟩ = some (.int .i64 op) := cell_arr hx rfl
 have y1 : W.cell? ⟨w.heap.size, 1, none⟩ = some (.int .i64 (a : Int)) := cell_arr hx rfl
 have y2 : W.cell? ⟨w.heap.size, 2, none⟩ = some (.int .i64 (b : Int)) := cell_arr hx rfl
 have y3 : W.cell? ⟨w.heap.size, 3, none⟩ = some (.int .i64 (c : Int)) := cell_arr hx rfl
 have y4 : W.cell? ⟨w.heap.size, 4, none⟩ = some (.int .i64 n) := cell_arr hx rfl
 have c65 : W.cell? ⟨s.mb, 65, none⟩ = some (.slice d.ia 0 d.ic) := by exact (by have := H.cells.c65; rw [hM] at this; exact this)
 have HSW : Hid (∀ w2, Below W.heap.size W w2 -> w2.cell? ⟨w.heap.size, 0, none⟩ = some (.int .i64 op) /\ w2.cell? ⟨w.heap.size, 1, none⟩ = some (.int .i64 (a : Int)) /\ w2.cell? ⟨w.heap.size, 2, none⟩ = some (.int .i64 (b : Int)) /\ w2.cell? ⟨w.heap.size, 3, none⟩ = some (.int .i64 (c : Int)) /\ w2.cell? ⟨w.heap.size, 4, none⟩ = some (.int .i64 n) /\ w2.cell? ⟨s.mb, 65, none⟩ = some (.slice d.ia 0 d.ic) /\ s.mb < w2.heap.size /\ w.heap.size < w2.heap.size) := fun w2 hb2 => by
  have q := H.below hb2
  have ex := (hb2.block _ l1).trans hx
  exact ⟨cell_arr ex rfl, cell_arr ex rfl, cell_arr ex rfl, cell_arr ex rfl, cell_arr ex rfl, (by have := q.cells.c65; rw [hM] at this; exact this), q.lt, (gl ex)⟩
 have HFO : Hid (∀ W2 R2 w2, Below w.heap.size w W2 -> (∃ d', Rm s d' w2 R2 /\ FooR s d d' W2 w2) -> ∃ d', Rm s d' w2 R2 /\ FooR s d d' w w2) := fun W2 R2 w2 hb ⟨d', q1, q2⟩ => ⟨d', q1, (FooR.of_below hb).trans q2⟩
 have HB1 : Hid (Below w.heap.size w W) := hb1
 have HP : Hid _ := mPanicR H 5 0
 clear hM
 generalize d.ia = ia at *
 generalize d.ic = ic at *
 obtain ⟨kb, hkb⟩ : ∃ kb, kb = w.heap.size := ⟨_, rfl⟩
 rw [<- hkb] at y0 y1 y2 y3 y4 l1 HSW
 generalize s.mb = mb at *
 clear h H hb1 hx
 go_enter Tryz.func63, Tryz.ntmps63
 go_upto_region 1 with fail
 rw [<- hW, <- hkb]
 clear hW hkb
 go_wp2_with (go_at_call 68; refine Calls.mono HP.out ?_; rintro e w2 ⟨rfl, h2⟩; have H2 : Hid _ := h2; clear h2)
 exact bodyPost_ret (v := .tuple #[]) (by simp [results, Tryz.results63, go_sem]) rfl ⟨rfl, HFO.out _ _ _ HB1.out H2.out⟩
set_option maxRecDepth 100000 in
set_option maxHeartbeats 4000000 in
theorem rTake1 {s d w R} (h : Rm s d w R) (op : Int) (a b c : Nat) (n : Int) (ha : a < 16) (y : Int) (L : List Int) (hM : R.inp = y :: L) :
 Calls Tryz.prog 63 #[.pointer (some ⟨s.mb, 0, none⟩), .agg #[.int .i64 op, .int .i64 (a : Int), .int .i64 (b : Int), .int .i64 (c : Int), .int .i64 n]] w fun e w' => e = .returned (.tuple #[]) /\ ∃ d', Rm s d' w' { R.set a y with inp := L } /\ FooR s d d' w w' := by
 obtain ⟨W, hW⟩ : ∃ W, W = w.alloc (.cells #[.int .i64 op, .int .i64 (a : Int), .int .i64 (b : Int), .int .i64 (c : Int), .int .i64 n] 71) := ⟨_, rfl⟩
 have hb1 : Below w.heap.size w W := by rw [hW]; exact below_newR w _
 have hx : W.heap[w.heap.size]? = some (.cells #[.int .i64 op, .int .i64 (a : Int), .int .i64 (b : Int), .int .i64 (c : Int), .int .i64 n] 71 (0, 0)) := by rw [hW]; exact heap_alloc_new _ _
 have l1 : w.heap.size < W.heap.size := (gl hx)
 have H := h.below hb1
 have hlt := h.lt
 have hlW := H.lt
 have hai : (a : Int) < 16 := by omega
 obtain ⟨xa, hxa⟩ : ∃ xa, xa = R.rg.getD a 0 := ⟨_, rfl⟩
 have y0 : W.cell? ⟨w.heap.size, 0, none⟩ = some (.int .i64 op) := cell_arr hx rfl
 have y1 : W.cell? ⟨w.heap.size, 1, none⟩ = some (.int .i64 (a : Int)) := cell_arr hx rfl
 have y2 : W.cell? ⟨w.heap.size, 2, none⟩ = some (.int .i64 (b : Int)) := cell_arr hx rfl
 have y3 : W.cell? ⟨w.heap.size, 3, none⟩ = some (.int .i64 (c : Int)) := cell_arr hx rfl
 have y4 : W.cell? ⟨w.heap.size, 4, none⟩ = some (.int .i64 n) := cell_arr hx rfl
 have ra : W.cell? ⟨s.mb, 42 + a, none⟩ = some (.int .i64 xa) := by rw [hxa]; exact H.reg ha
 have c65 : W.cell? ⟨s.mb, 65, none⟩ = some (.slice d.ia (L.length + 1) d.ic) := by exact (by have := H.cells.c65; rw [hM] at this; exact this)
 have HSW : Hid (∀ w2, Below W.heap.size W w2 -> w2.cell? ⟨w.heap.size, 0, none⟩ = some (.int .i64 op) /\ w2.cell? ⟨w.heap.size, 1, none⟩ = some (.int .i64 (a : Int)) /\ w2.cell? ⟨w.heap.size, 2, none⟩ = some (.int .i64 (b : Int)) /\ w2.cell? ⟨w.heap.size, 3, none⟩ = some (.int .i64 (c : Int)) /\ w2.cell? ⟨w.heap.size, 4, none⟩ = some (.int .i64 n) /\ w2.cell? ⟨s.mb, 42 + a, none⟩ = some (.int .i64 xa) /\ w2.cell? ⟨s.mb, 65, none⟩ = some (.slice d.ia (L.length + 1) d.ic) /\ s.mb < w2.heap.size /\ w.heap.size < w2.heap.size) := fun w2 hb2 => by
  have q := H.below hb2
  have ex := (hb2.block _ l1).trans hx
  rw [hxa]
  exact ⟨cell_arr ex rfl, cell_arr ex rfl, cell_arr ex rfl, cell_arr ex rfl, cell_arr ex rfl, q.reg ha, (by have := q.cells.c65; rw [hM] at this; exact this), q.lt, (gl ex)⟩
 have hI := H.rest.inp W H.rest.agr
 rw [hM] at hI
 obtain ⟨b2, o2, hia, hA⟩ := hI.out (by simp)
 have k0 := hA.zero
 have hbl : b2 < W.heap.size := hA.lt
 have hcl := hI.le
 have hcm := hI.mx
 simp at hcl
 have hne : b2 ≠ s.mb \/ True := .inr trivial
 have fa : W.frozen? ⟨s.mb, 42 + a, none⟩ = false := H.fz _
 have f65 : W.frozen? ⟨s.mb, 65, none⟩ = false := H.fz _
 have K2 := (H.setReg ha y)
 have HT : Hid (∀ ia ic, (L ≠ [] -> ia = some ⟨b2, o2 + 1, none⟩) -> (L.length <= ic /\ ic <= 9223372036854775807) -> ∃ d', Rm s d' ((W.setCell ⟨s.mb, 42 + a, none⟩ (.int .i64 y)).setCell ⟨s.mb, 65, none⟩ (.slice ia L.length ic)).drew { R.set a y with inp := L } /\ FooR s d d' w ((W.setCell ⟨s.mb, 42 + a, none⟩ (.int .i64 y)).setCell ⟨s.mb, 65, none⟩ (.slice ia L.length ic)).drew) := fun ia ic q1 q2 => by
  obtain ⟨d', r1, r2⟩ := K2.1.taken (L := L) hM hia ia ic q1 q2
  exact ⟨d', r1.below (Below.refl _ _).drew, ((FooR.of_below hb1).trans K2.2).trans (r2.trans (FooR.of_below (Below.refl _ _).drew))⟩
 have HN : Hid (L.length = 0 -> L = []) := fun q => List.length_eq_zero_iff.1 q
 rw [hia] at c65 HSW
 generalize L.length = ln at *
 obtain ⟨kb, hkb⟩ : ∃ kb, kb = w.heap.size := ⟨_, rfl⟩
 rw [<- hkb] at y0 y1 y2 y3 y4 l1 HSW
 generalize s.mb = mb at *
 clear h H hb1 hx hxa
 clear K2 hM hI hia hA hne HSW
 generalize d.ic = ic at *
 by_cases hc1 : ic = 1
 ·have hn0 : ln = 0 := by omega
  subst hn0
  subst hc1
  go_enter Tryz.func63, Tryz.ntmps63
  go_upto_region 1 with fail
  rw [<- hW, <- hkb]
  clear hW hkb
  go_upto_region 3 with fail
  go_region
  go_wp2_with fail
  exact bodyPost_end (v := .tuple #[]) (by simp [results, Tryz.results63, go_sem]) rfl ⟨rfl, HT.out _ _ (fun q => absurd (HN.out (by simp)) q) (by omega)⟩
 ·have hc2 : 1 < ic := by omega
  have hcz : ((ic - 1 : Nat) : Int) ≠ 0 := by omega
  go_enter Tryz.func63, Tryz.ntmps63
  go_upto_region 1 with fail
  rw [<- hW, <- hkb]
  clear hW hkb
  go_upto_region 3 with fail
  go_region
  go_wp2_with fail
  exact bodyPost_end (v := .tuple #[]) (by simp [results, Tryz.results63, go_sem]) rfl ⟨rfl, HT.out _ _ (fun _ => by first | rfl | simp) (by omega)⟩
theorem lenR {s d w R} (h : Rm s d w R) (x : Int) (hx : Fits x) {T : Bool} (hq : decide (x = 0 \/ (R.ln x).isSome = true) = T) : Calls Tryz.prog 102 #[.pointer (some ⟨s.hb, 0, none⟩), .int .i64 x] w fun e w' => e = .returned (.tuple #[.int .i64 ((R.ln x).getD 0), .bool T]) /\ w' = w := by
 by_cases h0 : x = 0
 ·subst h0
  have e0 : R.ln 0 = none := by
   cases e : R.ln 0 with
   | none => rfl
   | some k => have := h.rest.ch.inn 0 k e; omega
  rw [e0]
  rw [<- hq]
  exact len_zero w s.hb
 ·have eT : T = (R.ln x).isSome := by
   rw [<- hq, Bool.eq_iff_iff]
   simp [h0]
  rw [eT]
  exact len_any w h.rest.ch x hx h0
set_option maxRecDepth 100000 in
set_option maxHeartbeats 4000000 in
theorem rLen {s d w R} (h : Rm s d w R) (op : Int) (a b c : Nat) (n : Int) (ha : a < 16) (hb : b < 16) (hf : ∀ j, Fits (R.rg.getD j 0)) (hq : decide (R.rg.getD b 0 = 0 \/ (R.ln (R.rg.getD b 0)).isSome = true) = true) :
 Calls Tryz.prog 56 #[.pointer (some ⟨s.mb, 0, none⟩), .agg #[.int .i64 op, .int .i64 (a : Int), .int .i64 (b : Int), .int .i64 (c : Int), .int .i64 n]] w fun e w' => e = .returned (.tuple #[]) /\ ∃ d', Rm s d' w' (R.set a ((R.ln (R.rg.getD b 0)).getD 0)) /\ FooR s d d' w w' := by
 obtain ⟨W, hW⟩ : ∃ W, W = w.alloc (.cells #[.int .i64 op, .int .i64 (a : Int), .int .i64 (b : Int), .int .i64 (c : Int), .int .i64 n] 71) := ⟨_, rfl⟩
 have hb1 : Below w.heap.size w W := by rw [hW]; exact below_newR w _
 have hx : W.heap[w.heap.size]? = some (.cells #[.int .i64 op, .int .i64 (a : Int), .int .i64 (b : Int), .int .i64 (c : Int), .int .i64 n] 71 (0, 0)) := by rw [hW]; exact heap_alloc_new _ _
 have l1 : w.heap.size < W.heap.size := (gl hx)
 have H := h.below hb1
 have hlt := h.lt
 have hlW := H.lt
 have hai : (a : Int) < 16 := by omega
 obtain ⟨xa, hxa⟩ : ∃ xa, xa = R.rg.getD a 0 := ⟨_, rfl⟩
 have hbi : (b : Int) < 16 := by omega
 obtain ⟨xb, hxb⟩ : ∃ xb, xb = R.rg.getD b 0 := ⟨_, rfl⟩
 have y0 : W.cell? ⟨w.heap.size, 0, none⟩ = some (.int .i64 op) := cell_arr hx rfl
 have y1 : W.cell? ⟨w.heap.size, 1, none⟩ = some (.int .i64 (a : Int)) := cell_arr hx rfl
 have y2 : W.cell? ⟨w.heap.size, 2, none⟩ = some (.int .i64 (b : Int)) := cell_arr hx rfl
 have y3 : W.cell? ⟨w.heap.size, 3, none⟩ = some (.int .i64 (c : Int)) := cell_arr hx rfl
 have y4 : W.cell? ⟨w.heap.size, 4, none⟩ = some (.int .i64 n) := cell_arr hx rfl
 have ra : W.cell? ⟨s.mb, 42 + a, none⟩ = some (.int .i64 xa) := by rw [hxa]; exact H.reg ha
 have rb : W.cell? ⟨s.mb, 42 + b, none⟩ = some (.int .i64 xb) := by rw [hxb]; exact H.reg hb
 have c63 : W.cell? ⟨s.mb, 63, none⟩ = some (.pointer (some ⟨s.hb, 0, none⟩)) := by exact H.cells.c63
 have HSW : Hid (∀ w2, Below W.heap.size W w2 -> w2.cell? ⟨w.heap.size, 0, none⟩ = some (.int .i64 op) /\ w2.cell? ⟨w.heap.size, 1, none⟩ = some (.int .i64 (a : Int)) /\ w2.cell? ⟨w.heap.size, 2, none⟩ = some (.int .i64 (b : Int)) /\ w2.cell? ⟨w.heap.size, 3, none⟩ = some (.int .i64 (c : Int)) /\ w2.cell? ⟨w.heap.size, 4, none⟩ = some (.int .i64 n) /\ w2.cell? ⟨s.mb, 42 + a, none⟩ = some (.int .i64 xa) /\ w2.cell? ⟨s.mb, 42 + b, none⟩ = some (.int .i64 xb) /\ w2.cell? ⟨s.mb, 63, none⟩ = some (.pointer (some ⟨s.hb, 0, none⟩)) /\ s.mb < w2.heap.size /\ w.heap.size < w2.heap.size) := fun w2 hb2 => by
  have q := H.below hb2
  have ex := (hb2.block _ l1).trans hx
  rw [hxa]
  rw [hxb]
  exact ⟨cell_arr ex rfl, cell_arr ex rfl, cell_arr ex rfl, cell_arr ex rfl, cell_arr ex rfl, q.reg ha, q.reg hb, q.cells.c63, q.lt, (gl ex)⟩
 have HLN : Hid (∀ W2, Below W.heap.size W W2 -> Calls Tryz.prog 102 #[.pointer (some ⟨s.hb, 0, none⟩), .int .i64 xb] W2 fun e w' => e = .returned (.tuple #[.int .i64 ((R.ln xb).getD 0), .bool true]) /\ w' = W2) := fun W2 hb2 => by
  rw [hxb]
  exact lenR (H.below hb2) _ (hf _) hq
 have fa : W.frozen? ⟨s.mb, 42 + a, none⟩ = false := H.fz _
 have HF : Hid _ := fun W2 (e : W2 = W.drew.drew) x => h.lands2 ha x W2 (by rw [e]; exact hb1.drew.drew)
 rw [<- hxb]
 clear hq hf
 generalize (R.ln xb).getD 0 = lx at *
 obtain ⟨kb, hkb⟩ : ∃ kb, kb = w.heap.size := ⟨_, rfl⟩
 rw [<- hkb] at y0 y1 y2 y3 y4 l1 HSW
 generalize s.mb = mb at *
 clear h H hb1 hx hxa hxb
 go_enter Tryz.func56, Tryz.ntmps56
 go_upto_region 1 with fail
 rw [<- hW, <- hkb]
 clear hW hkb
 have S8 : (fun w' : World => w'.cell? ⟨kb, 0, none⟩ = some (.int .i64 op) /\ w'.cell? ⟨kb, 1, none⟩ = some (.int .i64 (a : Int)) /\ w'.cell? ⟨kb, 2, none⟩ = some (.int .i64 (b : Int)) /\ w'.cell? ⟨kb, 3, none⟩ = some (.int .i64 (c : Int)) /\ w'.cell? ⟨kb, 4, none⟩ = some (.int .i64 n) /\ w'.cell? ⟨mb, 42 + a, none⟩ = some (.int .i64 xa) /\ w'.cell? ⟨mb, 42 + b, none⟩ = some (.int .i64 xb) /\ w'.cell? ⟨mb, 63, none⟩ = some (.pointer (some ⟨s.hb, 0, none⟩)) /\ mb < w'.heap.size /\ kb < w'.heap.size) W.drew := ⟨y0, y1, y2, y3, y4, ra, rb, c63, hlW, l1⟩
 refine lec_start (S := fun w' : World => w'.cell? ⟨kb, 0, none⟩ = some (.int .i64 op) /\ w'.cell? ⟨kb, 1, none⟩ = some (.int .i64 (a : Int)) /\ w'.cell? ⟨kb, 2, none⟩ = some (.int .i64 (b : Int)) /\ w'.cell? ⟨kb, 3, none⟩ = some (.int .i64 (c : Int)) /\ w'.cell? ⟨kb, 4, none⟩ = some (.int .i64 n) /\ w'.cell? ⟨mb, 42 + a, none⟩ = some (.int .i64 xa) /\ w'.cell? ⟨mb, 42 + b, none⟩ = some (.int .i64 xb) /\ w'.cell? ⟨mb, 63, none⟩ = some (.pointer (some ⟨s.hb, 0, none⟩)) /\ mb < w'.heap.size /\ kb < w'.heap.size) (z := 13) (by kernel_rfl) ?_
 show lec _ _ _ _ _ 19 _ _ _
 try simp only [List.size_toArray, List.length_cons, List.length_nil, Array.replicate]
 refine lec_takeP (i := 0) (v := ?v0z) rfl (by kernel_rfl) (by kernel_rfl) (by kernel_rfl) (by kernel_rfl) (fun _ _ _ h => h) (.inl ⟨by rfl, ?hy0z⟩) S8 ?rest0z
 case hy0z =>
  rintro w' _
  go_simp
  all_goals with_reducible rfl
 try simp only [Act.put, List.getElem_toArray, List.getElem_cons_succ, List.getElem_cons_zero, List.setIfInBounds_toArray, List.set_cons_zero, List.set_cons_succ]
 refine lec_takeP (i := 1) (v := ?v1z) rfl (by kernel_rfl) (by kernel_rfl) (by kernel_rfl) (by kernel_rfl) (fun _ _ _ h => h) (.inl ⟨by rfl, ?hy1z⟩) S8 ?rest1z
 case hy1z =>
  rintro w' _
  go_simp
  all_goals with_reducible rfl
 try simp only [Act.put, List.getElem_toArray, List.getElem_cons_succ, List.getElem_cons_zero, List.setIfInBounds_toArray, List.set_cons_zero, List.set_cons_succ]
 refine lec_takeP (i := 2) (v := ?v2z) rfl (by kernel_rfl) (by kernel_rfl) (by kernel_rfl) (by kernel_rfl) (fun _ _ _ h => h) (.inl ⟨by rfl, ?hy2z⟩) S8 ?rest2z
 case hy2z =>
  rintro w' _
  go_simp
  all_goals with_reducible rfl
 try simp only [Act.put, List.getElem_toArray, List.getElem_cons_succ, List.getElem_cons_zero, List.setIfInBounds_toArray, List.set_cons_zero, List.set_cons_succ]
 refine lec_takeP (i := 3) (v := ?v3z) rfl (by kernel_rfl) (by kernel_rfl) (by kernel_rfl) (by kernel_rfl) (fun _ _ _ h => h) (.inl ⟨by rfl, ?hy3z⟩) S8 ?rest3z
 case hy3z =>
  rintro w' _
  go_simp
  all_goals with_reducible rfl
 try simp only [Act.put, List.getElem_toArray, List.getElem_cons_succ, List.getElem_cons_zero, List.setIfInBounds_toArray, List.set_cons_zero, List.set_cons_succ]
 refine lec_takeT [13, 14, 15, 16, 17, 18] (i := 4) (v := ?v4z) rfl (by kernel_rfl) (by kernel_rfl) (by kernel_rfl) (by kernel_rfl) (fun _ _ _ h => h) (.inl ⟨by rfl, ?hy4z⟩) S8 ?rest4z
 case hy4z =>
  rintro w' ⟨g0, g1, g2, g3, g4, g5, g6, g7, g8, g9⟩
  go_simp
  all_goals with_reducible rfl
 try simp only [Act.put, List.getElem_toArray, List.getElem_cons_succ, List.getElem_cons_zero, List.setIfInBounds_toArray, List.set_cons_zero, List.set_cons_succ]
 refine lec_takeP (i := 5) (v := ?v5z) rfl (by kernel_rfl) (by kernel_rfl) (by kernel_rfl) (by kernel_rfl) (fun _ _ _ h => h) (.inl ⟨by rfl, ?hy5z⟩) S8 ?rest5z
 case hy5z =>
  rintro w' _
  go_simp
  all_goals with_reducible rfl
 try simp only [Act.put, List.getElem_toArray, List.getElem_cons_succ, List.getElem_cons_zero, List.setIfInBounds_toArray, List.set_cons_zero, List.set_cons_succ]
 refine lec_takeP (i := 6) (v := ?v6z) rfl (by kernel_rfl) (by kernel_rfl) (by kernel_rfl) (by kernel_rfl) (fun _ _ _ h => h) (.inl ⟨by rfl, ?hy6z⟩) S8 ?rest6z
 case hy6z =>
  rintro w' _
  go_simp
  all_goals with_reducible rfl
 try simp only [Act.put, List.getElem_toArray, List.getElem_cons_succ, List.getElem_cons_zero, List.setIfInBounds_toArray, List.set_cons_zero, List.set_cons_succ]
 refine lec_takeT [11, 12, 13, 14, 15, 16, 17, 18] (i := 7) (v := ?v7z) rfl (by kernel_rfl) (by kernel_rfl) (by kernel_rfl) (by kernel_rfl) (fun _ _ _ h => h) (.inl ⟨by rfl, ?hy7z⟩) S8 ?rest7z
 case hy7z =>
  rintro w' ⟨g0, g1, g2, g3, g4, g5, g6, g7, g8, g9⟩
  go_simp
  all_goals with_reducible rfl
 try simp only [Act.put, List.getElem_toArray, List.getElem_cons_succ, List.getElem_cons_zero, List.setIfInBounds_toArray, List.set_cons_zero, List.set_cons_succ]
 refine lec_takeP (i := 8) (v := ?v8z) rfl (by kernel_rfl) (by kernel_rfl) (by kernel_rfl) (by kernel_rfl) (fun _ _ _ h => h) (.inl ⟨by rfl, ?hy8z⟩) S8 ?rest8z
 case hy8z =>
  rintro w' _
  go_simp
  all_goals with_reducible rfl
 try simp only [Act.put, List.getElem_toArray, List.getElem_cons_succ, List.getElem_cons_zero, List.setIfInBounds_toArray, List.set_cons_zero, List.set_cons_succ]
 refine lec_takeP (i := 9) (v := ?v9z) rfl (by kernel_rfl) (by kernel_rfl) (by kernel_rfl) (by kernel_rfl) (fun _ _ _ h => h) (.inl ⟨by rfl, ?hy9z⟩) S8 ?rest9z
 case hy9z =>
  rintro w' _
  go_simp
  all_goals with_reducible rfl
 try simp only [Act.put, List.getElem_toArray, List.getElem_cons_succ, List.getElem_cons_zero, List.setIfInBounds_toArray, List.set_cons_zero, List.set_cons_succ]
 refine lec_takeP (i := 10) (v := ?v10z) rfl (by kernel_rfl) (by kernel_rfl) (by kernel_rfl) (by kernel_rfl) (fun _ _ _ h => h) (.inl ⟨by rfl, ?hy10z⟩) S8 ?rest10z
 case hy10z =>
  rintro w' _
  go_simp
  all_goals with_reducible rfl
 try simp only [Act.put, List.getElem_toArray, List.getElem_cons_succ, List.getElem_cons_zero, List.setIfInBounds_toArray, List.set_cons_zero, List.set_cons_succ]
 refine lec_takeP (i := 11) (v := ?v11z) rfl (by kernel_rfl) (by kernel_rfl) (by kernel_rfl) (by kernel_rfl) (fun _ _ _ h => h) (.inl ⟨by rfl, ?hy11z⟩) S8 ?rest11z
 case hy11z =>
  rintro w' _
  go_simp
  all_goals with_reducible rfl
 try simp only [Act.put, List.getElem_toArray, List.getElem_cons_succ, List.getElem_cons_zero, List.setIfInBounds_toArray, List.set_cons_zero, List.set_cons_succ]
 refine lec_takeT [13, 14, 15, 16, 17, 18] (i := 12) (v := ?v12z) rfl (by kernel_rfl) (by kernel_rfl) (by kernel_rfl) (by kernel_rfl) (fun _ _ _ h => h) (.inl ⟨by rfl, ?hy12z⟩) S8 ?rest12z
 case hy12z =>
  rintro w' ⟨g0, g1, g2, g3, g4, g5, g6, g7, g8, g9⟩
  go_simp
  all_goals with_reducible rfl
 try simp only [Act.put, List.getElem_toArray, List.getElem_cons_succ, List.getElem_cons_zero, List.setIfInBounds_toArray, List.set_cons_zero, List.set_cons_succ]
 refine lec_one (i := 13) rfl (by kernel_rfl) ?_
 intro K13 hK13
 rw [if_pos (by rfl)]
 go_simp
 refine Calls.mono (HLN.out _ (Below.refl _ _).drew) ?_
 rintro e w2 ⟨rfl, rfl⟩
 go_simp
 refine hK13 _ _ (fun _ => S8) ?_
 clear hK13
 try simp only [Act.put, List.getElem_toArray, List.getElem_cons_succ, List.getElem_cons_zero, List.setIfInBounds_toArray, List.set_cons_zero, List.set_cons_succ]
 refine lec_takeP (i := 14) (v := ?v14z) rfl (by kernel_rfl) (by kernel_rfl) (by kernel_rfl) (by kernel_rfl) (fun _ _ _ h => h) (.inl ⟨by rfl, ?hy14z⟩) S8 ?rest14z
 case hy14z =>
  rintro w' _
  go_simp
  all_goals with_reducible rfl
 try simp only [Act.put, List.getElem_toArray, List.getElem_cons_succ, List.getElem_cons_zero, List.setIfInBounds_toArray, List.set_cons_zero, List.set_cons_succ]
 refine lec_takeP (i := 15) (v := ?v15z) rfl (by kernel_rfl) (by kernel_rfl) (by kernel_rfl) (by kernel_rfl) (fun _ _ _ h => h) (.inl ⟨by rfl, ?hy15z⟩) S8 ?rest15z
 case hy15z =>
  rintro w' _
  go_simp
  all_goals with_reducible rfl
 try simp only [Act.put, List.getElem_toArray, List.getElem_cons_succ, List.getElem_cons_zero, List.setIfInBounds_toArray, List.set_cons_zero, List.set_cons_succ]
 refine lec_takeP (i := 16) (v := ?v16z) rfl (by kernel_rfl) (by kernel_rfl) (by kernel_rfl) (by kernel_rfl) (fun _ _ _ h => h) (.inl ⟨by rfl, ?hy16z⟩) S8 ?rest16z
 case hy16z =>
  rintro w' _
  go_simp
  all_goals with_reducible rfl
 try simp only [Act.put, List.getElem_toArray, List.getElem_cons_succ, List.getElem_cons_zero, List.setIfInBounds_toArray, List.set_cons_zero, List.set_cons_succ]
 refine lec_takeP (i := 17) (v := ?v17z) rfl (by kernel_rfl) (by kernel_rfl) (by kernel_rfl) (by kernel_rfl) (fun _ _ _ h => h) (.inl ⟨by rfl, ?hy17z⟩) S8 ?rest17z
 case hy17z =>
  rintro w' _
  go_simp
  all_goals with_reducible rfl
 try simp only [Act.put, List.getElem_toArray, List.getElem_cons_succ, List.getElem_cons_zero, List.setIfInBounds_toArray, List.set_cons_zero, List.set_cons_succ]
 refine lec_takeP (i := 18) (v := ?v18z) rfl (by kernel_rfl) (by kernel_rfl) (by kernel_rfl) (by kernel_rfl) (fun _ _ _ h => h) (.inl ⟨by rfl, ?hy18z⟩) S8 ?rest18z
 case hy18z =>
  rintro w' _
  go_simp
  all_goals with_reducible rfl
 try simp only [Act.put, List.getElem_toArray, List.getElem_cons_succ, List.getElem_cons_zero, List.setIfInBounds_toArray, List.set_cons_zero, List.set_cons_succ]
 refine lec_done (by kernel_rfl) ?_
 clear S8
 go_upto_region 3 with (go_at_call 92; refine Calls.mono (stuckIf_no _ _) ?_; rintro e w2 ⟨rfl, rfl⟩)
 go_region
 go_wp2_with fail
 exact bodyPost_end (v := .tuple #[]) (by simp [results, Tryz.results56, go_sem]) rfl ⟨rfl, HF.out _ rfl _⟩
set_option maxRecDepth 100000 in
set_option maxHeartbeats 4000000 in
theorem rLen_st {s d w R} (h : Rm s d w R) (op : Int) (a b c : Nat) (n : Int) (hb : b < 16) (hf : ∀ j, Fits (R.rg.getD j 0)) (hq : decide (R.rg.getD b 0 = 0 \/ (R.ln (R.rg.getD b 0)).isSome = true) = false) :
 Calls Tryz.prog 56 #[.pointer (some ⟨s.mb, 0, none⟩), .agg #[.int .i64 op, .int .i64 (a : Int), .int .i64 (b : Int), .int .i64 (c : Int), .int .i64 n]] w fun e w' => e = .panicked [{ v := .iface 137 (.int .i64 1), recovered := false }] /\ Below w.heap.size w w' := by
 obtain ⟨W, hW⟩ : ∃ W, W = w.alloc (.cells #[.int .i64 op, .int .i64 (a : Int), .int .i64 (b : Int), .int .i64 (c : Int), .int .i64 n] 71) := ⟨_, rfl⟩
 have hb1 : Below w.heap.size w W := by rw [hW]; exact below_newR w _
 have hx : W.heap[w.heap.size]? = some (.cells #[.int .i64 op, .int .i64 (a : Int), .int .i64 (b : Int), .int .i64 (c : Int), .int .i64 n] 71 (0, 0)) := by rw [hW]; exact heap_alloc_new _ _
 have l1 : w.heap.size < W.heap.size := (gl hx)
 have H := h.below hb1
 have hlt := h.lt
 have hlW := H.lt
 have hbi : (b : Int) < 16 := by omega
 obtain ⟨xb, hxb⟩ : ∃ xb, xb = R.rg.getD b 0 := ⟨_, rfl⟩
 have y0 : W.cell? ⟨w.heap.size, 0, none⟩ = some (.int .i64 op) := cell_arr hx rfl
 have y1 : W.cell? ⟨w.heap.size, 1, none⟩ = some (.int .i64 (a : Int)) := cell_arr hx rfl
 have y2 : W.cell? ⟨w.heap.size, 2, none⟩ = some (.int .i64 (b : Int)) := cell_arr hx rfl
 have y3 : W.cell? ⟨w.heap.size, 3, none⟩ = some (.int .i64 (c : Int)) := cell_arr hx rfl
 have y4 : W.cell? ⟨w.heap.size, 4, none⟩ = some (.int .i64 n) := cell_arr hx rfl
 have rb : W.cell? ⟨s.mb, 42 + b, none⟩ = some (.int .i64 xb) := by rw [hxb]; exact H.reg hb
 have c63 : W.cell? ⟨s.mb, 63, none⟩ = some (.pointer (some ⟨s.hb, 0, none⟩)) := by exact H.cells.c63
 have HSW : Hid (∀ w2, Below W.heap.size W w2 -> w2.cell? ⟨w.heap.size, 0, none⟩ = some (.int .i64 op) /\ w2.cell? ⟨w.heap.size, 1, none⟩ = some (.int .i64 (a : Int)) /\ w2.cell? ⟨w.heap.size, 2, none⟩ = some (.int .i64 (b : Int)) /\ w2.cell? ⟨w.heap.size, 3, none⟩ = some (.int .i64 (c : Int)) /\ w2.cell? ⟨w.heap.size, 4, none⟩ = some (.int .i64 n) /\ w2.cell? ⟨s.mb, 42 + b, none⟩ = some (.int .i64 xb) /\ w2.cell? ⟨s.mb, 63, none⟩ = some (.pointer (some ⟨s.hb, 0, none⟩)) /\ s.mb < w2.heap.size /\ w.heap.size < w2.heap.size) := fun w2 hb2 => by
  have q := H.below hb2
  have ex := (hb2.block _ l1).trans hx
  rw [hxb]
  exact ⟨cell_arr ex rfl, cell_arr ex rfl, cell_arr ex rfl, cell_arr ex rfl, cell_arr ex rfl, q.reg hb, q.cells.c63, q.lt, (gl ex)⟩
 have HLN : Hid (∀ W2, Below W.heap.size W W2 -> Calls Tryz.prog 102 #[.pointer (some ⟨s.hb, 0, none⟩), .int .i64 xb] W2 fun e w' => e = .returned (.tuple #[.int .i64 ((R.ln xb).getD 0), .bool false]) /\ w' = W2) := fun W2 hb2 => by
  rw [hxb]
  exact lenR (H.below hb2) _ (hf _) hq
 have HST : Hid (Below w.heap.size w W.drew) := hb1.drew
 clear hq hf
 generalize (R.ln xb).getD 0 = lx at *
 obtain ⟨kb, hkb⟩ : ∃ kb, kb = w.heap.size := ⟨_, rfl⟩
 rw [<- hkb] at y0 y1 y2 y3 y4 l1 HSW
 generalize s.mb = mb at *
 clear h H hb1 hx hxb
 go_enter Tryz.func56, Tryz.ntmps56
 go_upto_region 1 with fail
 rw [<- hW, <- hkb]
 clear hW hkb
 have S8 : (fun w' : World => w'.cell? ⟨kb, 0, none⟩ = some (.int .i64 op) /\ w'.cell? ⟨kb, 1, none⟩ = some (.int .i64 (a : Int)) /\ w'.cell? ⟨kb, 2, none⟩ = some (.int .i64 (b : Int)) /\ w'.cell? ⟨kb, 3, none⟩ = some (.int .i64 (c : Int)) /\ w'.cell? ⟨kb, 4, none⟩ = some (.int .i64 n) /\ w'.cell? ⟨mb, 42 + b, none⟩ = some (.int .i64 xb) /\ w'.cell? ⟨mb, 63, none⟩ = some (.pointer (some ⟨s.hb, 0, none⟩)) /\ mb < w'.heap.size /\ kb < w'.heap.size) W.drew := ⟨y0, y1, y2, y3, y4, rb, c63, hlW, l1⟩
 refine lec_start (S := fun w' : World => w'.cell? ⟨kb, 0, none⟩ = some (.int .i64 op) /\ w'.cell? ⟨kb, 1, none⟩ = some (.int .i64 (a : Int)) /\ w'.cell? ⟨kb, 2, none⟩ = some (.int .i64 (b : Int)) /\ w'.cell? ⟨kb, 3, none⟩ = some (.int .i64 (c : Int)) /\ w'.cell? ⟨kb, 4, none⟩ = some (.int .i64 n) /\ w'.cell? ⟨mb, 42 + b, none⟩ = some (.int .i64 xb) /\ w'.cell? ⟨mb, 63, none⟩ = some (.pointer (some ⟨s.hb, 0, none⟩)) /\ mb < w'.heap.size /\ kb < w'.heap.size) (z := 13) (by kernel_rfl) ?_
 show lec _ _ _ _ _ 19 _ _ _
 try simp only [List.size_toArray, List.length_cons, List.length_nil, Array.replicate]
 refine lec_takeP (i := 0) (v := ?v0z) rfl (by kernel_rfl) (by kernel_rfl) (by kernel_rfl) (by kernel_rfl) (fun _ _ _ h => h) (.inl ⟨by rfl, ?hy0z⟩) S8 ?rest0z
 case hy0z =>
  rintro w' _
  go_simp
  all_goals with_reducible rfl
 try simp only [Act.put, List.getElem_toArray, List.getElem_cons_succ, List.getElem_cons_zero, List.setIfInBounds_toArray, List.set_cons_zero, List.set_cons_succ]
 refine lec_takeP (i := 1) (v := ?v1z) rfl (by kernel_rfl) (by kernel_rfl) (by kernel_rfl) (by kernel_rfl) (fun _ _ _ h => h) (.inl ⟨by rfl, ?hy1z⟩) S8 ?rest1z
 case hy1z =>
  rintro w' _
  go_simp
  all_goals with_reducible rfl
 try simp only [Act.put, List.getElem_toArray, List.getElem_cons_succ, List.getElem_cons_zero, List.setIfInBounds_toArray, List.set_cons_zero, List.set_cons_succ]
 refine lec_takeP (i := 2) (v := ?v2z) rfl (by kernel_rfl) (by kernel_rfl) (by kernel_rfl) (by kernel_rfl) (fun _ _ _ h => h) (.inl ⟨by rfl, ?hy2z⟩) S8 ?rest2z
 case hy2z =>
  rintro w' _
  go_simp
  all_goals with_reducible rfl
 try simp only [Act.put, List.getElem_toArray, List.getElem_cons_succ, List.getElem_cons_zero, List.setIfInBounds_toArray, List.set_cons_zero, List.set_cons_succ]
 refine lec_takeP (i := 3) (v := ?v3z) rfl (by kernel_rfl) (by kernel_rfl) (by kernel_rfl) (by kernel_rfl) (fun _ _ _ h => h) (.inl ⟨by rfl, ?hy3z⟩) S8 ?rest3z
 case hy3z =>
  rintro w' _
  go_simp
  all_goals with_reducible rfl
 try simp only [Act.put, List.getElem_toArray, List.getElem_cons_succ, List.getElem_cons_zero, List.setIfInBounds_toArray, List.set_cons_zero, List.set_cons_succ]
 refine lec_takeT [13, 14, 15, 16, 17, 18] (i := 4) (v := ?v4z) rfl (by kernel_rfl) (by kernel_rfl) (by kernel_rfl) (by kernel_rfl) (fun _ _ _ h => h) (.inl ⟨by rfl, ?hy4z⟩) S8 ?rest4z
 case hy4z =>
  rintro w' ⟨g0, g1, g2, g3, g4, g5, g6, g7, g8⟩
  go_simp
  all_goals with_reducible rfl
 try simp only [Act.put, List.getElem_toArray, List.getElem_cons_succ, List.getElem_cons_zero, List.setIfInBounds_toArray, List.set_cons_zero, List.set_cons_succ]
 refine lec_takeP (i := 5) (v := ?v5z) rfl (by kernel_rfl) (by kernel_rfl) (by kernel_rfl) (by kernel_rfl) (fun _ _ _ h => h) (.inl ⟨by rfl, ?hy5z⟩) S8 ?rest5z
 case hy5z =>
  rintro w' _
  go_simp
  all_goals with_reducible rfl
 try simp only [Act.put, List.getElem_toArray, List.getElem_cons_succ, List.getElem_cons_zero, List.setIfInBounds_toArray, List.set_cons_zero, List.set_cons_succ]
 refine lec_takeP (i := 6) (v := ?v6z) rfl (by kernel_rfl) (by kernel_rfl) (by kernel_rfl) (by kernel_rfl) (fun _ _ _ h => h) (.inl ⟨by rfl, ?hy6z⟩) S8 ?rest6z
 case hy6z =>
  rintro w' _
  go_simp
  all_goals with_reducible rfl
 try simp only [Act.put, List.getElem_toArray, List.getElem_cons_succ, List.getElem_cons_zero, List.setIfInBounds_toArray, List.set_cons_zero, List.set_cons_succ]
 refine lec_takeT [11, 12, 13, 14, 15, 16, 17, 18] (i := 7) (v := ?v7z) rfl (by kernel_rfl) (by kernel_rfl) (by kernel_rfl) (by kernel_rfl) (fun _ _ _ h => h) (.inl ⟨by rfl, ?hy7z⟩) S8 ?rest7z
 case hy7z =>
  rintro w' ⟨g0, g1, g2, g3, g4, g5, g6, g7, g8⟩
  go_simp
  all_goals with_reducible rfl
 try simp only [Act.put, List.getElem_toArray, List.getElem_cons_succ, List.getElem_cons_zero, List.setIfInBounds_toArray, List.set_cons_zero, List.set_cons_succ]
 refine lec_takeP (i := 8) (v := ?v8z) rfl (by kernel_rfl) (by kernel_rfl) (by kernel_rfl) (by kernel_rfl) (fun _ _ _ h => h) (.inl ⟨by rfl, ?hy8z⟩) S8 ?rest8z
 case hy8z =>
  rintro w' _
  go_simp
  all_goals with_reducible rfl
 try simp only [Act.put, List.getElem_toArray, List.getElem_cons_succ, List.getElem_cons_zero, List.setIfInBounds_toArray, List.set_cons_zero, List.set_cons_succ]
 refine lec_takeP (i := 9) (v := ?v9z) rfl (by kernel_rfl) (by kernel_rfl) (by kernel_rfl) (by kernel_rfl) (fun _ _ _ h => h) (.inl ⟨by rfl, ?hy9z⟩) S8 ?rest9z
 case hy9z =>
  rintro w' _
  go_simp
  all_goals with_reducible rfl
 try simp only [Act.put, List.getElem_toArray, List.getElem_cons_succ, List.getElem_cons_zero, List.setIfInBounds_toArray, List.set_cons_zero, List.set_cons_succ]
 refine lec_takeP (i := 10) (v := ?v10z) rfl (by kernel_rfl) (by kernel_rfl) (by kernel_rfl) (by kernel_rfl) (fun _ _ _ h => h) (.inl ⟨by rfl, ?hy10z⟩) S8 ?rest10z
 case hy10z =>
  rintro w' _
  go_simp
  all_goals with_reducible rfl
 try simp only [Act.put, List.getElem_toArray, List.getElem_cons_succ, List.getElem_cons_zero, List.setIfInBounds_toArray, List.set_cons_zero, List.set_cons_succ]
 refine lec_takeP (i := 11) (v := ?v11z) rfl (by kernel_rfl) (by kernel_rfl) (by kernel_rfl) (by kernel_rfl) (fun _ _ _ h => h) (.inl ⟨by rfl, ?hy11z⟩) S8 ?rest11z
 case hy11z =>
  rintro w' _
  go_simp
  all_goals with_reducible rfl
 try simp only [Act.put, List.getElem_toArray, List.getElem_cons_succ, List.getElem_cons_zero, List.setIfInBounds_toArray, List.set_cons_zero, List.set_cons_succ]
 refine lec_takeT [13, 14, 15, 16, 17, 18] (i := 12) (v := ?v12z) rfl (by kernel_rfl) (by kernel_rfl) (by kernel_rfl) (by kernel_rfl) (fun _ _ _ h => h) (.inl ⟨by rfl, ?hy12z⟩) S8 ?rest12z
 case hy12z =>
  rintro w' ⟨g0, g1, g2, g3, g4, g5, g6, g7, g8⟩
  go_simp
  all_goals with_reducible rfl
 try simp only [Act.put, List.getElem_toArray, List.getElem_cons_succ, List.getElem_cons_zero, List.setIfInBounds_toArray, List.set_cons_zero, List.set_cons_succ]
 refine lec_one (i := 13) rfl (by kernel_rfl) ?_
 intro K13 hK13
 rw [if_pos (by rfl)]
 go_simp
 refine Calls.mono (HLN.out _ (Below.refl _ _).drew) ?_
 rintro e w2 ⟨rfl, rfl⟩
 go_simp
 refine hK13 _ _ (fun _ => S8) ?_
 clear hK13
 try simp only [Act.put, List.getElem_toArray, List.getElem_cons_succ, List.getElem_cons_zero, List.setIfInBounds_toArray, List.set_cons_zero, List.set_cons_succ]
 refine lec_takeP (i := 14) (v := ?v14z) rfl (by kernel_rfl) (by kernel_rfl) (by kernel_rfl) (by kernel_rfl) (fun _ _ _ h => h) (.inl ⟨by rfl, ?hy14z⟩) S8 ?rest14z
 case hy14z =>
  rintro w' _
  go_simp
  all_goals with_reducible rfl
 try simp only [Act.put, List.getElem_toArray, List.getElem_cons_succ, List.getElem_cons_zero, List.setIfInBounds_toArray, List.set_cons_zero, List.set_cons_succ]
 refine lec_takeP (i := 15) (v := ?v15z) rfl (by kernel_rfl) (by kernel_rfl) (by kernel_rfl) (by kernel_rfl) (fun _ _ _ h => h) (.inl ⟨by rfl, ?hy15z⟩) S8 ?rest15z
 case hy15z =>
  rintro w' _
  go_simp
  all_goals with_reducible rfl
 try simp only [Act.put, List.getElem_toArray, List.getElem_cons_succ, List.getElem_cons_zero, List.setIfInBounds_toArray, List.set_cons_zero, List.set_cons_succ]
 refine lec_takeP (i := 16) (v := ?v16z) rfl (by kernel_rfl) (by kernel_rfl) (by kernel_rfl) (by kernel_rfl) (fun _ _ _ h => h) (.inl ⟨by rfl, ?hy16z⟩) S8 ?rest16z
 case hy16z =>
  rintro w' _
  go_simp
  all_goals with_reducible rfl
 try simp only [Act.put, List.getElem_toArray, List.getElem_cons_succ, List.getElem_cons_zero, List.setIfInBounds_toArray, List.set_cons_zero, List.set_cons_succ]
 refine lec_takeP (i := 17) (v := ?v17z) rfl (by kernel_rfl) (by kernel_rfl) (by kernel_rfl) (by kernel_rfl) (fun _ _ _ h => h) (.inl ⟨by rfl, ?hy17z⟩) S8 ?rest17z
 case hy17z =>
  rintro w' _
  go_simp
  all_goals with_reducible rfl
 try simp only [Act.put, List.getElem_toArray, List.getElem_cons_succ, List.getElem_cons_zero, List.setIfInBounds_toArray, List.set_cons_zero, List.set_cons_succ]
 refine lec_takeP (i := 18) (v := ?v18z) rfl (by kernel_rfl) (by kernel_rfl) (by kernel_rfl) (by kernel_rfl) (fun _ _ _ h => h) (.inl ⟨by rfl, ?hy18z⟩) S8 ?rest18z
 case hy18z =>
  rintro w' _
  go_simp
  all_goals with_reducible rfl
 try simp only [Act.put, List.getElem_toArray, List.getElem_cons_succ, List.getElem_cons_zero, List.setIfInBounds_toArray, List.set_cons_zero, List.set_cons_succ]
 refine lec_done (by kernel_rfl) ?_
 clear S8
 go_wp2_with (go_at_call 92; refine Calls.mono (stuckIf_yes _ _) ?_; rintro e w2 ⟨rfl, rfl⟩)
 exact ⟨rfl, rfl, HST.out⟩
end Go.Proofs.YtfofmmkihhnfmaaGreatDoor
