import Derived.Test.YtfofmmkihhnfmaaGreatDoorJae
set_option linter.unusedVariables false
set_option linter.unusedSimpArgs false
namespace Go.Proofs.YtfofmmkihhnfmaaGreatDoor
open Go.ChangeShapes Go.WideShapes Go.ChangeAt Go.RowKit Go.Maps
def tblR : List Value := [.nilFunc, .func (.func 42) #[] #[], .func (.func 43) #[] #[], .func (.func 66) #[] #[], .func (.func 66) #[] #[], .func (.func 66) #[] #[], .func (.func 44) #[] #[], .func (.func 44) #[] #[], .func (.func 66) #[] #[], .func (.func 66) #[] #[], .func (.func 66) #[] #[], .func (.func 66) #[] #[], .func (.func 45) #[] #[], .func (.func 45) #[] #[], .func (.func 66) #[] #[], .func (.func 66) #[] #[], .func (.func 66) #[] #[], .func (.func 66) #[] #[], .func (.func 46) #[] #[], .func (.func 46) #[] #[], .func (.func 47) #[] #[], .func (.func 48) #[] #[], .func (.func 49) #[] #[], .func (.func 50) #[] #[], .func (.func 51) #[] #[], .func (.func 52) #[] #[], .func (.func 53) #[] #[], .func (.func 54) #[] #[], .func (.func 55) #[] #[], .func (.func 56) #[] #[], .func (.func 57) #[] #[], .func (.func 58) #[] #[], .func (.func 59) #[] #[], .func (.func 60) #[] #[], .func (.func 61) #[] #[], .func (.func 62) #[] #[], .func (.func 63) #[] #[], .func (.func 64) #[] #[], .func (.func 65) #[] #[]]
structure Rst where
 mb : Nat
 hb : Nat
 hm : Nat
 hn : Nat
 sb : Nat
 hi : Nat
 co : Option Addr
 cc : Nat
 fo : Option Addr
 fc : Nat
 C : List Ri
 FS : List Rf
 S : Int
 room : Int
 st : Nat -> Prop
 w0 : World
structure Rdy where
 ia : Option Addr
 ic : Nat
 ve : Value
def rtl (s : Rst) (d : Rdy) (R : Rv) : List Value := [.map (some s.sb), .int .i64 s.S, .int .i64 R.base, .int .i64 R.top, .int .i64 R.frames, .pointer (some ⟨s.hb, 0, none⟩), .int .i64 s.room, .slice d.ia R.inp.length d.ic, d.ve, .int .i64 R.fin, .int .i64 R.kd, .int .i64 R.vl, .int .i64 R.steps, .int .i64 R.words, .int .i64 R.deep, .bool R.rests]
def rcs (s : Rst) (d : Rdy) (R : Rv) : List Value := tblR ++ (.slice s.co s.C.length s.cc :: .slice s.fo s.FS.length s.fc :: .int .i64 R.nx :: (R.rg.map (Value.int .i64) ++ rtl s d R))
theorem tbl_len : tblR.length = 39 := rfl
theorem rcs_tbl {s d R} {j : Nat} (hj : j < 39) : (rcs s d R)[j]? = tblR[j]? := by
 unfold rcs
 rw [List.getElem?_append_left (by rw [tbl_len]; exact hj)]
theorem rcs_mid {s d R} (j : Nat) : (rcs s d R)[39 + j]? = (.slice s.co s.C.length s.cc :: .slice s.fo s.FS.length s.fc :: .int .i64 R.nx :: (R.rg.map (Value.int .i64) ++ rtl s d R))[j]? := by
 unfold rcs
 rw [List.getElem?_append_right (by rw [tbl_len]; omega), tbl_len]
 congr 1
 omega
theorem rcs_reg {s d R} (h : R.rg.length = 16) {j : Nat} (hj : j < 16) : (rcs s d R)[42 + j]? = some (.int .i64 (R.rg.getD j 0)) := by
 rw [show 42 + j = 39 + (j + 1 + 1 + 1) by omega, rcs_mid]
 simp only [List.getElem?_cons_succ]
 rw [List.getElem?_append_left (by simp [h]; exact hj), List.getElem?_map]
 simp [List.getD, h, hj]
theorem rcs_tail {s d R} (h : R.rg.length = 16) (j : Nat) : (rcs s d R)[58 + j]? = (rtl s d R)[j]? := by
 rw [show 58 + j = 39 + (16 + j + 1 + 1 + 1) by omega, rcs_mid]
 simp only [List.getElem?_cons_succ]
 rw [List.getElem?_append_right (by simp [h])]
 congr 1
 simp [h]
theorem rcs_setNx {s d R} (x : Int) : (rcs s d R).set 41 (.int .i64 x) = rcs s d { R with nx := x } := by
 unfold rcs
 rw [List.set_append_right _ _ (by rw [tbl_len]; omega), tbl_len]
 rfl
theorem rcs_setReg {s d R} (h : R.rg.length = 16) {j : Nat} (hj : j < 16) (x : Int) : (rcs s d R).set (42 + j) (.int .i64 x) = rcs s d { R with rg := R.rg.set j x } := by
 unfold rcs
 rw [List.set_append_right _ _ (by rw [tbl_len]; omega), tbl_len, show 42 + j - 39 = j + 1 + 1 + 1 by omega]
 simp only [List.set_cons_succ]
 rw [List.set_append_left _ _ (by simp [h]; exact hj), List.map_set]
 rfl
theorem rcs_setTail {s d d' R R'} (h : R.rg.length = 16) {j : Nat} {v : Value} (e : (rtl s d R).set j v = rtl s d' R') (en : R'.nx = R.nx) (er : R'.rg = R.rg) : (rcs s d R).set (58 + j) v = rcs s d' R' := by
 unfold rcs
 rw [List.set_append_right _ _ (by rw [tbl_len]; omega), tbl_len, show 58 + j - 39 = 16 + j + 1 + 1 + 1 by omega]
 simp only [List.set_cons_succ]
 rw [List.set_append_right _ _ (by simp [h]), List.length_map, h, show 16 + j - 16 = j by omega, e, en, er]
def AgrR (s : Rst) (w : World) : Prop := ∀ k, s.st k -> w.heap[k]? = s.w0.heap[k]?
def footR (s : Rst) (d : Rdy) (k : Nat) : Prop := k = s.mb \/ CF s.hb s.hm s.hn k \/ k = s.sb \/ d.ve.ownBlock = some k
structure SW (w : World) (b c : Nat) (f : Int -> Int) : Prop where
 out : ∃ D, w.ownsMap Tryz.prog 3 (plainElem (H := Unit) Tryz.prog 3) b c D /\ ∀ a, Fits a -> D.atKey (.int .i64 a) (.lit (.int .i64 0)) = .lit (.int .i64 (f a))
theorem SW.move {w w' b c f} (h : SW w b c f) (hk : w'.heap[b]? = w.heap[b]?) : SW w' b c f := by
 obtain ⟨D, d1, d2⟩ := h.out
 exact ⟨D, own_map_move d1 hk, d2⟩
theorem SW.lt {w b c f} (h : SW w b c f) : b < w.heap.size /\ ∀ A t z, w.heap[b]? ≠ some (.cells A t z) := by
 obtain ⟨D, ⟨es, cl, d1, d2⟩, _⟩ := h.out
 exact ⟨(gl d1), fun A t f q => by rw [d1] at q; cases q⟩
structure RR (s : Rst) (d : Rdy) (w : World) (R : Rv) : Prop where
 agr : AgrR s w
 code : ∀ w', AgrR s w' -> StsG w' s.co s.cc 5 (s.C.map riv)
 fns : ∀ w', AgrR s w' -> StsG w' s.fo s.fc 5 (s.FS.map rfv)
 inp : ∀ w', AgrR s w' -> Ints w' d.ia d.ic R.inp
 ch : CH w s.hb s.hm s.hn R.tk R.ln R.mm R.hc
 sm : SW w s.sb R.cs R.sw
 ev : Row w s.hi 62 2 d.ve (R.ev.map evc)
 evs : R.ev.length <= 1048576
 hi : s.hi <= w.heap.size /\ s.mb < s.hi /\ (∀ k, CF s.hb s.hm s.hn k -> k < s.hi) /\ s.sb < s.hi /\ ∀ k, s.st k -> k < s.hi
 out : ∀ k, s.st k -> k ≠ s.mb /\ ¬ CF s.hb s.hm s.hn k /\ k ≠ s.sb
 sbn : ¬ CF s.hb s.hm s.hn s.sb
 box : ∃ A, w.heap[s.mb]? = some (.cells A 86 (0, 0))
theorem not_ownR {w : World} {B e z v n xs} (h : w.ownsRow B e z v n xs) {g : Nat} (hg : g < B) : v.ownBlock ≠ some g := fun e => by have := (own_block h e).1; omega
theorem RR.mb_ne {s d w R} (h : RR s d w R) : ¬ CF s.hb s.hm s.hn s.mb := by
 obtain ⟨A, hA⟩ := h.box
 obtain ⟨D, ⟨es, cl, d1, _⟩, _⟩ := h.ch.o1
 obtain ⟨E', ⟨es2, cl2, e1, _⟩, _⟩ := h.ch.o2
 have hb := h.ch.box
 rintro (e | e | e)
 ·rw [<- e, hA] at hb; injection (Option.some.inj hb) with _ q; exact absurd q (by decide)
 ·rw [<- e, hA] at d1; cases d1
 ·rw [<- e, hA] at e1; cases e1
theorem RR.sb_ne {s d w R} (h : RR s d w R) : s.sb ≠ s.mb := fun e => by
 obtain ⟨A, hA⟩ := h.box
 exact h.sm.lt.2 _ _ _ (e ▸ hA)
structure FooR (s : Rst) (d d' : Rdy) (w w' : World) : Prop where
 only : Only (footR s d) w w'
 new : ∀ k, footR s d' k -> footR s d k \/ w.heap.size <= k
theorem FooR.refl (s : Rst) (d : Rdy) (w : World) : FooR s d d w w := ⟨Only.refl _ _, fun k h => .inl h⟩
theorem FooR.trans {s d d' d'' w w' w''} (h : FooR s d d' w w') (k : FooR s d' d'' w' w'') : FooR s d d'' w w'' :=
 ⟨h.only.trans k.only fun i hi hf => (h.new i hf).elim id (fun q => by omega), fun i hf => (k.new i hf).elim (fun q => h.new i q) (fun q => .inr (Nat.le_trans h.only.size q))⟩
theorem FooR.of_below {s d w w'} (h : Below w.heap.size w w') : FooR s d d w w' := ⟨Only.of_below h _, fun k q => .inl q⟩
theorem FooR.set (s : Rst) (d : Rdy) (w : World) (i : Nat) (v : Value) : FooR s d d w (w.setCell ⟨s.mb, i, none⟩ v) := ⟨(Only.of_set w _ v).mono fun k _ hk => .inl hk, fun k hk => .inl hk⟩
theorem RR.move {s d w R} (h : RR s d w R) {w' : World} (hs : w.heap.size <= w'.heap.size) (h1 : ∀ k, s.st k -> w'.heap[k]? = w.heap[k]?) (h2 : ∀ k, CF s.hb s.hm s.hn k -> w'.heap[k]? = w.heap[k]?) (h3 : ∀ k, d.ve.ownBlock = some k -> w'.heap[k]? = w.heap[k]?) (h4 : w'.heap[s.sb]? = w.heap[s.sb]?) (hA : ∃ A, w'.heap[s.mb]? = some (.cells A 86 (0, 0))) : RR s d w' R :=
 ⟨fun k hk => (h1 k hk).trans (h.agr k hk), h.code, h.fns, h.inp, h.ch.move h2, h.sm.move h4, h.ev.move h3, h.evs, ⟨Nat.le_trans h.hi.1 hs, h.hi.2⟩, h.out, h.sbn, hA⟩
theorem RR.same {s d w R R'} (h : RR s d w R) (e1 : R'.inp = R.inp := by rfl) (e2 : R'.tk = R.tk := by rfl) (e3 : R'.ln = R.ln := by rfl) (e4 : R'.mm = R.mm := by rfl) (e5 : R'.hc = R.hc := by rfl) (e6 : R'.cs = R.cs := by rfl) (e7 : R'.sw = R.sw := by rfl) (e8 : R'.ev = R.ev := by rfl) : RR s d w R' :=
 ⟨h.agr, h.code, h.fns, by rw [e1]; exact h.inp, by rw [e2, e3, e4, e5]; exact h.ch, by rw [e6, e7]; exact h.sm, by rw [e8]; exact h.ev, by rw [e8]; exact h.evs, h.hi, h.out, h.sbn, h.box⟩
theorem RR.box_ne {s d w R} (h : RR s d w R) {w' : World} (hs : w.heap.size <= w'.heap.size) (hk : ∀ k, k < w.heap.size -> k ≠ s.mb -> w'.heap[k]? = w.heap[k]?) (hA : ∃ A, w'.heap[s.mb]? = some (.cells A 86 (0, 0))) : RR s d w' R :=
 h.move hs (fun k q => hk k (Nat.lt_of_lt_of_le (h.hi.2.2.2.2 k q) h.hi.1) (h.out k q).1) (fun k q => hk k (h.ch.lt k q) (fun e => h.mb_ne (e ▸ q))) (fun k q => hk k (own_block h.ev.out q).2 (fun e => not_ownR h.ev.out h.hi.2.1 (e ▸ q))) (hk _ h.sm.lt.1 h.sb_ne) hA
theorem RR.set {s d w R} (h : RR s d w R) (i : Nat) (v : Value) : RR s d (w.setCell ⟨s.mb, i, none⟩ v) R := by
 obtain ⟨A, hA⟩ := h.box
 exact h.box_ne (by simp [World.setCell]) (fun k _ hk => heap_set_other hk) ⟨_, heap_set_at hA⟩
theorem RR.below {s d w w' R} (h : RR s d w R) (hb : Below w.heap.size w w') : RR s d w' R := by
 obtain ⟨A, hA⟩ := h.box
 exact h.box_ne hb.size (fun k hk _ => hb.block k hk) ⟨A, (hb.block _ (gl hA)).trans hA⟩
theorem RR.setEv {s d w w' R} (h : RR s d w R) {v' : Value} {E' : List (Int × Int)} (g : GI s.hi w w' d.ve v') (ho : Row w' s.hi 62 2 v' (E'.map evc)) (hl : E'.length <= 1048576) : RR s { d with ve := v' } w' { R with ev := E' } /\ w'.heap[s.mb]? = w.heap[s.mb]? /\ FooR s d { d with ve := v' } w w' := by
 have hh := h.hi
 have lo : ∀ k, k < s.hi -> w'.heap[k]? = w.heap[k]? := fun k hk => g.bel.block k hk
 obtain ⟨A, hA⟩ := h.box
 refine ⟨⟨fun k hk => (lo k (hh.2.2.2.2 k hk)).trans (h.agr k hk), h.code, h.fns, h.inp, h.ch.move fun b hb => lo b (hh.2.2.1 b hb), h.sm.move (lo _ hh.2.2.2.1), ho, hl, ⟨Nat.le_trans hh.1 g.size, hh.2⟩, h.out, h.sbn, ⟨A, (lo _ hh.2.1).trans hA⟩⟩, lo _ hh.2.1, ⟨⟨g.bel.os, g.bel.tape, g.bel.output, g.size, fun k hk hn => g.blk k hk (fun e => hn (.inr (.inr (.inr e))))⟩, fun k hk => ?_⟩⟩
 rcases hk with q | q | q | q
 ·exact .inl (.inl q)
 ·exact .inl (.inr (.inl q))
 ·exact .inl (.inr (.inr (.inl q)))
 ·rcases g.own k q with e | e
  ·exact .inl (.inr (.inr (.inr e)))
  ·exact .inr e
structure Rm (s : Rst) (d : Rdy) (w : World) (R : Rv) : Prop where
 box : w.heap[s.mb]? = some (.cells (rcs s d R).toArray 86 (0, 0))
 rg : R.rg.length = 16
 rest : RR s d w R
theorem Rm.lt {s d w R} (h : Rm s d w R) : s.mb < w.heap.size := (gl h.box)
theorem Rm.fz {s d w R} (h : Rm s d w R) (i : Nat) : w.frozen? ⟨s.mb, i, none⟩ = false := fz_of h.box
theorem Rm.reg {s d w R} (h : Rm s d w R) {j : Nat} (hj : j < 16) : w.cell? ⟨s.mb, 42 + j, none⟩ = some (.int .i64 (R.rg.getD j 0)) := cell_arr h.box (by rw [List.getElem?_toArray]; exact rcs_reg h.rg hj)
theorem Rm.tail {s d w R} (h : Rm s d w R) {j : Nat} {v : Value} (hv : (rtl s d R)[j]? = some v) : w.cell? ⟨s.mb, 58 + j, none⟩ = some v := cell_arr h.box (by rw [List.getElem?_toArray, rcs_tail h.rg]; exact hv)
theorem Rm.mid {s d w R} (h : Rm s d w R) : w.cell? ⟨s.mb, 39, none⟩ = some (.slice s.co s.C.length s.cc) /\ w.cell? ⟨s.mb, 40, none⟩ = some (.slice s.fo s.FS.length s.fc) /\ w.cell? ⟨s.mb, 41, none⟩ = some (.int .i64 R.nx) := ⟨cell_arr h.box (by rw [List.getElem?_toArray]; exact rcs_mid 0), cell_arr h.box (by rw [List.getElem?_toArray]; exact rcs_mid 1), cell_arr h.box (by rw [List.getElem?_toArray]; exact rcs_mid 2)⟩
structure RC (s : Rst) (d : Rdy) (w : World) (R : Rv) : Prop where
 c39 : w.cell? ⟨s.mb, 39, none⟩ = some (.slice s.co s.C.length s.cc)
 c40 : w.cell? ⟨s.mb, 40, none⟩ = some (.slice s.fo s.FS.length s.fc)
 c41 : w.cell? ⟨s.mb, 41, none⟩ = some (.int .i64 R.nx)
 c58 : w.cell? ⟨s.mb, 58, none⟩ = some (.map (some s.sb))
 c59 : w.cell? ⟨s.mb, 58 + 1, none⟩ = some (.int .i64 s.S)
 c60 : w.cell? ⟨s.mb, 58 + 2, none⟩ = some (.int .i64 R.base)
 c61 : w.cell? ⟨s.mb, 58 + 3, none⟩ = some (.int .i64 R.top)
 c62 : w.cell? ⟨s.mb, 58 + 4, none⟩ = some (.int .i64 R.frames)
 c63 : w.cell? ⟨s.mb, 63, none⟩ = some (.pointer (some ⟨s.hb, 0, none⟩))
 c64 : w.cell? ⟨s.mb, 64, none⟩ = some (.int .i64 s.room)
 c65 : w.cell? ⟨s.mb, 65, none⟩ = some (.slice d.ia R.inp.length d.ic)
 c66 : w.cell? ⟨s.mb, 66, none⟩ = some d.ve
 c67 : w.cell? ⟨s.mb, 66 + 1, none⟩ = some (.int .i64 R.fin)
 c68 : w.cell? ⟨s.mb, 66 + 2, none⟩ = some (.int .i64 R.kd)
 c69 : w.cell? ⟨s.mb, 66 + 3, none⟩ = some (.int .i64 R.vl)
 c70 : w.cell? ⟨s.mb, 66 + 4, none⟩ = some (.int .i64 R.steps)
 c71 : w.cell? ⟨s.mb, 66 + 5, none⟩ = some (.int .i64 R.words)
 c72 : w.cell? ⟨s.mb, 66 + 6, none⟩ = some (.int .i64 R.deep)
 c73 : w.cell? ⟨s.mb, 66 + 7, none⟩ = some (.bool R.rests)
theorem Rm.cells {s d w R} (h : Rm s d w R) : RC s d w R :=
 ⟨h.mid.1, h.mid.2.1, h.mid.2.2, h.tail (j := 0) rfl, h.tail (j := 1) rfl, h.tail (j := 2) rfl, h.tail (j := 3) rfl, h.tail (j := 4) rfl, h.tail (j := 5) rfl, h.tail (j := 6) rfl, h.tail (j := 7) rfl, h.tail (j := 8) rfl, h.tail (j := 9) rfl, h.tail (j := 10) rfl, h.tail (j := 11) rfl, h.tail (j := 12) rfl, h.tail (j := 13) rfl, h.tail (j := 14) rfl, h.tail (j := 15) rfl⟩
theorem Rm.below {s d w w' R} (h : Rm s d w R) (hb : Below w.heap.size w w') : Rm s d w' R := ⟨(hb.block _ h.lt).trans h.box, h.rg, h.rest.below hb⟩
theorem box_setR {w : World} {b i : Nat} {A A' : List Value} {v : Value} {t : TypeId} (h : w.heap[b]? = some (.cells A.toArray t (0, 0))) (e : A.set i v = A') : (w.setCell ⟨b, i, none⟩ v).heap[b]? = some (.cells A'.toArray t (0, 0)) := by
 have := heap_set_at (i := i) (v := v) h
 rw [this, <- e]
 simp
theorem Rm.setReg {s d w R} (h : Rm s d w R) {j : Nat} (hj : j < 16) (x : Int) : Rm s d (w.setCell ⟨s.mb, 42 + j, none⟩ (.int .i64 x)) { R with rg := R.rg.set j x } /\ FooR s d d w (w.setCell ⟨s.mb, 42 + j, none⟩ (.int .i64 x)) :=
 ⟨⟨box_setR h.box (rcs_setReg h.rg hj x), by simp [h.rg], (h.rest.set _ _).same⟩, FooR.set s d w _ _⟩
theorem Rm.setNx {s d w R} (h : Rm s d w R) (x : Int) : Rm s d (w.setCell ⟨s.mb, 41, none⟩ (.int .i64 x)) { R with nx := x } /\ FooR s d d w (w.setCell ⟨s.mb, 41, none⟩ (.int .i64 x)) :=
 ⟨⟨box_setR h.box (rcs_setNx x), h.rg, (h.rest.set _ _).same⟩, FooR.set s d w _ _⟩
theorem Rm.setTail {s d w R} (h : Rm s d w R) (j : Nat) (v : Value) {R' : Rv} (e : (rtl s d R).set j v = rtl s d R') (hr : RR s d (w.setCell ⟨s.mb, 58 + j, none⟩ v) R') (en : R'.nx = R.nx := by rfl) (er : R'.rg = R.rg := by rfl) : Rm s d (w.setCell ⟨s.mb, 58 + j, none⟩ v) R' /\ FooR s d d w (w.setCell ⟨s.mb, 58 + j, none⟩ v) :=
 ⟨⟨box_setR h.box (rcs_setTail h.rg e en er), by rw [er]; exact h.rg, hr⟩, FooR.set s d w _ _⟩
theorem Rm.then {s d d' d'' w w' w'' R' R''} (h : Rm s d' w' R' /\ FooR s d d' w w') (k : Rm s d' w' R' -> Rm s d'' w'' R'' /\ FooR s d' d'' w' w'') : Rm s d'' w'' R'' /\ FooR s d d'' w w'' := ⟨(k h.1).1, h.2.trans (k h.1).2⟩
theorem Rm.panic {s d w R} (h : Rm s d w R) (k x : Int) : Rm s d (((w.setCell ⟨s.mb, 66 + 1, none⟩ (.int .i64 2)).setCell ⟨s.mb, 66 + 2, none⟩ (.int .i64 k)).setCell ⟨s.mb, 66 + 3, none⟩ (.int .i64 x)) (R.panic k x) /\ FooR s d d w (((w.setCell ⟨s.mb, 66 + 1, none⟩ (.int .i64 2)).setCell ⟨s.mb, 66 + 2, none⟩ (.int .i64 k)).setCell ⟨s.mb, 66 + 3, none⟩ (.int .i64 x)) :=
 Rm.then (Rm.then (h.setTail 9 (.int .i64 2) (R' := { R with fin := 2 }) rfl (h.rest.set _ _).same) fun h1 => h1.setTail 10 (.int .i64 k) (R' := { R with fin := 2, kd := k }) rfl (h1.rest.set _ _).same) fun h2 => h2.setTail 11 (.int .i64 x) rfl (h2.rest.set _ _).same
theorem Rm.stuck {s d w R} (h : Rm s d w R) (k : Int) : Rm s d ((w.setCell ⟨s.mb, 66 + 1, none⟩ (.int .i64 3)).setCell ⟨s.mb, 66 + 2, none⟩ (.int .i64 k)) (R.stuck k) /\ FooR s d d w ((w.setCell ⟨s.mb, 66 + 1, none⟩ (.int .i64 3)).setCell ⟨s.mb, 66 + 2, none⟩ (.int .i64 k)) :=
 Rm.then (h.setTail 9 (.int .i64 3) (R' := { R with fin := 3 }) rfl (h.rest.set _ _).same) fun h1 => h1.setTail 10 (.int .i64 k) rfl (h1.rest.set _ _).same
theorem Rm.exit {s d w R} (h : Rm s d w R) : Rm s d (w.setCell ⟨s.mb, 66 + 1, none⟩ (.int .i64 1)) { R with fin := 1 } /\ FooR s d d w (w.setCell ⟨s.mb, 66 + 1, none⟩ (.int .i64 1)) := h.setTail 9 (.int .i64 1) rfl (h.rest.set _ _).same
theorem Rm.made {s d w R} (h : Rm s d w R) (k : Int) : Rm s d (w.setCell ⟨s.mb, 66 + 4, none⟩ (.int .i64 k)) { R with steps := k } /\ FooR s d d w (w.setCell ⟨s.mb, 66 + 4, none⟩ (.int .i64 k)) := h.setTail 12 (.int .i64 k) rfl (h.rest.set _ _).same
theorem Rm.worded {s d w R} (h : Rm s d w R) (k : Int) : Rm s d (w.setCell ⟨s.mb, 66 + 5, none⟩ (.int .i64 k)) { R with words := k } /\ FooR s d d w (w.setCell ⟨s.mb, 66 + 5, none⟩ (.int .i64 k)) := h.setTail 13 (.int .i64 k) rfl (h.rest.set _ _).same
theorem Rm.deeper {s d w R} (h : Rm s d w R) (k : Int) : Rm s d (w.setCell ⟨s.mb, 66 + 6, none⟩ (.int .i64 k)) { R with deep := k } /\ FooR s d d w (w.setCell ⟨s.mb, 66 + 6, none⟩ (.int .i64 k)) := h.setTail 14 (.int .i64 k) rfl (h.rest.set _ _).same
theorem Rm.resting {s d w R} (h : Rm s d w R) : Rm s d (w.setCell ⟨s.mb, 66 + 7, none⟩ (.bool true)) { R with rests := true } /\ FooR s d d w (w.setCell ⟨s.mb, 66 + 7, none⟩ (.bool true)) := h.setTail 15 (.bool true) rfl (h.rest.set _ _).same
theorem Rm.setCh {s d w w' R} (h : Rm s d w R) {tk ln mm hc} (hk : CH w' s.hb s.hm s.hn tk ln mm hc) (o : Only (CF s.hb s.hm s.hn) w w') : Rm s d w' { R with tk := tk, ln := ln, mm := mm, hc := hc } /\ FooR s d d w w' := by
 have r := h.rest
 have hb : w'.heap[s.mb]? = w.heap[s.mb]? := o.block _ h.lt r.mb_ne
 have lt := fun k (q : k < s.hi) => Nat.lt_of_lt_of_le q r.hi.1
 refine ⟨⟨hb.trans h.box, h.rg, ⟨fun k q => (o.block k (lt k (r.hi.2.2.2.2 k q)) (r.out k q).2.1).trans (r.agr k q), r.code, r.fns, r.inp, hk, r.sm.move (o.block _ r.sm.lt.1 r.sbn), r.ev.move fun k q => o.block k (own_block r.ev.out q).2 (fun e => not_ownR r.ev.out (r.hi.2.2.1 k e) q), r.evs, ⟨Nat.le_trans r.hi.1 o.size, r.hi.2⟩, r.out, r.sbn, ⟨_, hb.trans h.box⟩⟩⟩, ⟨o.mono fun k _ q => .inr (.inl q), fun k q => .inl q⟩⟩
theorem Rm.setSw {s d w w' R} (h : Rm s d w R) {c f} (hk : SW w' s.sb c f) (o : Only (fun k => k = s.sb) w w') : Rm s d w' { R with cs := c, sw := f } /\ FooR s d d w w' := by
 have r := h.rest
 have hb : w'.heap[s.mb]? = w.heap[s.mb]? := o.block _ h.lt fun e => r.sb_ne e.symm
 have lt := fun k (q : k < s.hi) => Nat.lt_of_lt_of_le q r.hi.1
 refine ⟨⟨hb.trans h.box, h.rg, ⟨fun k q => (o.block k (lt k (r.hi.2.2.2.2 k q)) (r.out k q).2.2).trans (r.agr k q), r.code, r.fns, r.inp, r.ch.move fun k q => o.block k (lt k (r.hi.2.2.1 k q)) (fun e => r.sbn (e ▸ q)), hk, r.ev.move fun k q => o.block k (own_block r.ev.out q).2 (fun e => not_ownR r.ev.out (e ▸ r.hi.2.2.2.1) q), r.evs, ⟨Nat.le_trans r.hi.1 o.size, r.hi.2⟩, r.out, r.sbn, ⟨_, hb.trans h.box⟩⟩⟩, ⟨o.mono fun k _ q => .inr (.inr (.inl q)), fun k q => .inl q⟩⟩
theorem SW.look {w b c f} (h : SW w b c f) {a : Int} (ha : Fits a) : (Instr.lookup 73 (.map (some b)) (.int .i64 a) false).run Tryz.prog w = .ok (.int .i64 (f a)) w := by
 obtain ⟨D, d1, d2⟩ := h.out
 obtain ⟨v, ps, hr, hv⟩ := d1.lookup law3 Tryz.underlying73 (zero3 w) (plainElem_int Tryz.underlying3 (by decide)) (keyOf_int_mk Tryz.underlying3 ha.wf)
 obtain ⟨x, rfl, hc, _⟩ := plainElem_int_inv Tryz.underlying3 hv
 have hx := congrArg Prod.fst hc
 simp only at hx
 rw [d2 a ha] at hx
 cases hx
 exact hr
theorem SW.put {w b c f} (h : SW w b c f) {a x : Int} (ha : Fits a) (hx : Fits x) (hc : c < 1000000000) : ∃ w', (Instr.mapUpdate 73 (.map (some b)) (.int .i64 a) (.int .i64 x)).run Tryz.prog w = .ok () w' /\ SW w' b (c + 1) (upd f a x) /\ Only (fun k => k = b) w w' := by
 obtain ⟨D, d1, d2⟩ := h.out
 obtain ⟨w', hr, own, gr⟩ := d1.update law3 Tryz.underlying73 (by unfold maxLen; omega) (keyOf_int_mk Tryz.underlying3 ha.wf) (plainElem_int Tryz.underlying3 hx.wf)
 refine ⟨w', hr, ⟨_, own, fun y hy => ?_⟩, (Only.of_grown gr).mono fun k _ hk => by cases hk; rfl⟩
 unfold upd
 by_cases e : y = a
 ·subst e
  simp only [if_true]
  exact atKey_put_same d1.isMap (show WideAt.IsKeyLit (Lit.int .i64 _) from trivial) _ _
 ·rw [atKey_put_other (key_ne e), if_neg e]
  exact d2 y hy
theorem below_newR (w : World) (X : Obj) : Below w.heap.size w (w.alloc X) := (Below.refl _ _).alloc (Nat.le_refl _) _
theorem below_drawnR {B : Nat} {a w : World} (h : Below B a w) (q : Nat) : Below B a (w.drewN q) := ⟨h.os, h.tape, h.output, h.size, h.block⟩
theorem Rm.lands {s d w R} (h : Rm s d w R) {a : Nat} (ha : a < 16) (x : Int) (W : World) (hb : Below (w.setCell ⟨s.mb, 42 + a, none⟩ (.int .i64 x)).heap.size (w.setCell ⟨s.mb, 42 + a, none⟩ (.int .i64 x)) W) : ∃ d', Rm s d' W (R.set a x) /\ FooR s d d' w W := by
 have q := h.setReg ha x
 exact ⟨d, q.1.below hb, q.2.trans (FooR.of_below hb)⟩
theorem Rm.goes {s d w R} (h : Rm s d w R) (x : Int) (W : World) (hb : Below (w.setCell ⟨s.mb, 41, none⟩ (.int .i64 x)).heap.size (w.setCell ⟨s.mb, 41, none⟩ (.int .i64 x)) W) : ∃ d', Rm s d' W { R with nx := x } /\ FooR s d d' w W := by
 have q := h.setNx x
 exact ⟨d, q.1.below hb, q.2.trans (FooR.of_below hb)⟩
theorem Rm.lands2 {s d w R} (h : Rm s d w R) {a : Nat} (ha : a < 16) (x : Int) (W : World) (hb : Below w.heap.size w W) : ∃ d', Rm s d' (W.setCell ⟨s.mb, 42 + a, none⟩ (.int .i64 x)) (R.set a x) /\ FooR s d d' w (W.setCell ⟨s.mb, 42 + a, none⟩ (.int .i64 x)) := by
 have q := (h.below hb).setReg ha x
 exact ⟨d, q.1, (FooR.of_below hb).trans q.2⟩
theorem Rm.goes2 {s d w R} (h : Rm s d w R) (x : Int) (W : World) (hb : Below w.heap.size w W) : ∃ d', Rm s d' (W.setCell ⟨s.mb, 41, none⟩ (.int .i64 x)) { R with nx := x } /\ FooR s d d' w (W.setCell ⟨s.mb, 41, none⟩ (.int .i64 x)) := by
 have q := (h.below hb).setNx x
 exact ⟨d, q.1, (FooR.of_below hb).trans q.2⟩
theorem Rm.stays {s d w R} (h : Rm s d w R) (W : World) (hb : Below w.heap.size w W) : ∃ d', Rm s d' W R /\ FooR s d d' w W := ⟨d, h.below hb, FooR.of_below hb⟩
set_option maxRecDepth 100000 in
theorem rNumber {s d w R} (h : Rm s d w R) (op : Int) (a b c : Nat) (n : Int) (ha : a < 16) :
 Calls Tryz.prog 42 #[.pointer (some ⟨s.mb, 0, none⟩), .agg #[.int .i64 op, .int .i64 (a : Int), .int .i64 (b : Int), .int .i64 (c : Int), .int .i64 n]] w fun e w' => e = .returned (.tuple #[]) /\ ∃ d', Rm s d' w' (R.set a n) /\ FooR s d d' w w' := by
 have hlt := h.lt
 have ca : w.cell? ⟨s.mb, 42 + a, none⟩ = some (.int .i64 (R.rg.getD a 0)) := h.reg ha
 have hai : (a : Int) < 16 := by omega
 have HF : Hid _ := h.lands ha
 have HF2 : Hid _ := h.lands2 ha
 have fa : w.frozen? ⟨s.mb, 42 + a, none⟩ = false := h.fz _
 generalize hga : R.rg.getD a 0 = xa at *
 generalize s.mb = mb at *
 clear h hga
 go_enter Tryz.func42, Tryz.ntmps42
 go_wp2_with fail
 go_region
 go_wp2_with fail
 exact bodyPost_end (v := .tuple #[]) (by simp [results, Tryz.results42, go_sem]) rfl ⟨rfl, by first | (refine HF.out _ _ ?_; (repeat (first | refine Below.alloc ?_ (by first | omega | (simp; done) | (simp; omega)) _ | refine Below.drew ?_ | refine below_drawnR ?_ _ | exact Below.refl _ _)); done) | (refine HF2.out _ _ ?_; (repeat (first | refine Below.alloc ?_ (by first | omega | (simp; done) | (simp; omega)) _ | refine Below.drew ?_ | refine below_drawnR ?_ _ | exact Below.refl _ _)); done)⟩
set_option maxRecDepth 100000 in
theorem rMove {s d w R} (h : Rm s d w R) (op : Int) (a b c : Nat) (n : Int) (ha : a < 16) (hb : b < 16) :
 Calls Tryz.prog 43 #[.pointer (some ⟨s.mb, 0, none⟩), .agg #[.int .i64 op, .int .i64 (a : Int), .int .i64 (b : Int), .int .i64 (c : Int), .int .i64 n]] w fun e w' => e = .returned (.tuple #[]) /\ ∃ d', Rm s d' w' (R.set a (R.rg.getD b 0)) /\ FooR s d d' w w' := by
 have hlt := h.lt
 have ca : w.cell? ⟨s.mb, 42 + a, none⟩ = some (.int .i64 (R.rg.getD a 0)) := h.reg ha
 have hai : (a : Int) < 16 := by omega
 have cb : w.cell? ⟨s.mb, 42 + b, none⟩ = some (.int .i64 (R.rg.getD b 0)) := h.reg hb
 have hbi : (b : Int) < 16 := by omega
 have HF : Hid _ := h.lands ha
 have HF2 : Hid _ := h.lands2 ha
 have fa : w.frozen? ⟨s.mb, 42 + a, none⟩ = false := h.fz _
 generalize hga : R.rg.getD a 0 = xa at *
 generalize hgb : R.rg.getD b 0 = xb at *
 generalize s.mb = mb at *
 clear h hga hgb
 go_enter Tryz.func43, Tryz.ntmps43
 go_wp2_with fail
 go_region
 go_wp2_with fail
 exact bodyPost_end (v := .tuple #[]) (by simp [results, Tryz.results43, go_sem]) rfl ⟨rfl, by first | (refine HF.out _ _ ?_; (repeat (first | refine Below.alloc ?_ (by first | omega | (simp; done) | (simp; omega)) _ | refine Below.drew ?_ | refine below_drawnR ?_ _ | exact Below.refl _ _)); done) | (refine HF2.out _ _ ?_; (repeat (first | refine Below.alloc ?_ (by first | omega | (simp; done) | (simp; omega)) _ | refine Below.drew ?_ | refine below_drawnR ?_ _ | exact Below.refl _ _)); done)⟩
set_option maxRecDepth 100000 in
theorem rJump {s d w R} (h : Rm s d w R) (op : Int) (a b c : Nat) (n : Int) :
 Calls Tryz.prog 48 #[.pointer (some ⟨s.mb, 0, none⟩), .agg #[.int .i64 op, .int .i64 (a : Int), .int .i64 (b : Int), .int .i64 (c : Int), .int .i64 n]] w fun e w' => e = .returned (.tuple #[]) /\ ∃ d', Rm s d' w' { R with nx := n } /\ FooR s d d' w w' := by
 have hlt := h.lt
 have HF : Hid _ := h.goes
 have HF2 : Hid _ := h.goes2
 have c41 := h.cells.c41
 have f41 := h.fz 41
 generalize s.mb = mb at *
 clear h
 go_enter Tryz.func48, Tryz.ntmps48
 go_wp2_with fail
 exact bodyPost_end (v := .tuple #[]) (by simp [results, Tryz.results48, go_sem]) rfl ⟨rfl, by first | (refine HF.out _ _ ?_; (repeat (first | refine Below.alloc ?_ (by first | omega | (simp; done) | (simp; omega)) _ | refine Below.drew ?_ | refine below_drawnR ?_ _ | exact Below.refl _ _)); done) | (refine HF2.out _ _ ?_; (repeat (first | refine Below.alloc ?_ (by first | omega | (simp; done) | (simp; omega)) _ | refine Below.drew ?_ | refine below_drawnR ?_ _ | exact Below.refl _ _)); done)⟩
set_option maxRecDepth 100000 in
theorem rJumpZ0 {s d w R} (h : Rm s d w R) (op : Int) (a b c : Nat) (n : Int) (ha : a < 16) (hx : R.rg.getD a 0 = 0) :
 Calls Tryz.prog 49 #[.pointer (some ⟨s.mb, 0, none⟩), .agg #[.int .i64 op, .int .i64 (a : Int), .int .i64 (b : Int), .int .i64 (c : Int), .int .i64 n]] w fun e w' => e = .returned (.tuple #[]) /\ ∃ d', Rm s d' w' { R with nx := n } /\ FooR s d d' w w' := by
 have hlt := h.lt
 have ca : w.cell? ⟨s.mb, 42 + a, none⟩ = some (.int .i64 (R.rg.getD a 0)) := h.reg ha
 have hai : (a : Int) < 16 := by omega
 have HF : Hid _ := h.goes
 have HF2 : Hid _ := h.goes2
 have HK : Hid _ := h.stays
 have c41 := h.cells.c41
 have f41 := h.fz 41
 generalize hga : R.rg.getD a 0 = xa at *
 generalize s.mb = mb at *
 clear h hga
 go_enter Tryz.func49, Tryz.ntmps49
 subst hx
 go_wp2_with fail
 go_quiet (fail)
 go_wp2_with fail
 exact bodyPost_end (v := .tuple #[]) (by simp [results, Tryz.results49, go_sem]) rfl ⟨rfl, by first | (refine HF.out _ _ ?_; (repeat (first | refine Below.alloc ?_ (by first | omega | (simp; done) | (simp; omega)) _ | refine Below.drew ?_ | refine below_drawnR ?_ _ | exact Below.refl _ _)); done) | (refine HF2.out _ _ ?_; (repeat (first | refine Below.alloc ?_ (by first | omega | (simp; done) | (simp; omega)) _ | refine Below.drew ?_ | refine below_drawnR ?_ _ | exact Below.refl _ _)); done)⟩
set_option maxRecDepth 100000 in
theorem rJumpZ1 {s d w R} (h : Rm s d w R) (op : Int) (a b c : Nat) (n : Int) (ha : a < 16) (hx : ¬ R.rg.getD a 0 = 0) :
 Calls Tryz.prog 49 #[.pointer (some ⟨s.mb, 0, none⟩), .agg #[.int .i64 op, .int .i64 (a : Int), .int .i64 (b : Int), .int .i64 (c : Int), .int .i64 n]] w fun e w' => e = .returned (.tuple #[]) /\ ∃ d', Rm s d' w' R /\ FooR s d d' w w' := by
 have hlt := h.lt
 have ca : w.cell? ⟨s.mb, 42 + a, none⟩ = some (.int .i64 (R.rg.getD a 0)) := h.reg ha
 have hai : (a : Int) < 16 := by omega
 have HF : Hid _ := h.goes
 have HF2 : Hid _ := h.goes2
 have HK : Hid _ := h.stays
 have c41 := h.cells.c41
 have f41 := h.fz 41
 generalize hga : R.rg.getD a 0 = xa at *
 generalize s.mb = mb at *
 clear h hga
 go_enter Tryz.func49, Tryz.ntmps49
 have hx2 : (xa == 0) = false := by simp [hx]
 go_wp2_with fail
 go_quiet (fail)
 go_wp2_with fail
 exact bodyPost_end (v := .tuple #[]) (by simp [results, Tryz.results49, go_sem]) rfl ⟨rfl, HK.out _ (by repeat (first | refine Below.alloc ?_ (by first | omega | (simp; done) | (simp; omega)) _ | refine Below.drew ?_ | refine below_drawnR ?_ _ | exact Below.refl _ _))⟩
set_option maxRecDepth 100000 in
theorem rJumpE0 {s d w R} (h : Rm s d w R) (op : Int) (a b c : Nat) (n : Int) (ha : a < 16) (hx : R.rg.getD a 0 = 0) :
 Calls Tryz.prog 50 #[.pointer (some ⟨s.mb, 0, none⟩), .agg #[.int .i64 op, .int .i64 (a : Int), .int .i64 (b : Int), .int .i64 (c : Int), .int .i64 n]] w fun e w' => e = .returned (.tuple #[]) /\ ∃ d', Rm s d' w' R /\ FooR s d d' w w' := by
 have hlt := h.lt
 have ca : w.cell? ⟨s.mb, 42 + a, none⟩ = some (.int .i64 (R.rg.getD a 0)) := h.reg ha
 have hai : (a : Int) < 16 := by omega
 have HF : Hid _ := h.goes
 have HF2 : Hid _ := h.goes2
 have HK : Hid _ := h.stays
 have c41 := h.cells.c41
 have f41 := h.fz 41
 generalize hga : R.rg.getD a 0 = xa at *
 generalize s.mb = mb at *
 clear h hga
 go_enter Tryz.func50, Tryz.ntmps50
 subst hx
 go_wp2_with fail
 go_quiet (fail)
 go_wp2_with fail
 exact bodyPost_end (v := .tuple #[]) (by simp [results, Tryz.results50, go_sem]) rfl ⟨rfl, HK.out _ (by repeat (first | refine Below.alloc ?_ (by first | omega | (simp; done) | (simp; omega)) _ | refine Below.drew ?_ | refine below_drawnR ?_ _ | exact Below.refl _ _))⟩
set_option maxRecDepth 100000 in
theorem rJumpE1 {s d w R} (h : Rm s d w R) (op : Int) (a b c : Nat) (n : Int) (ha : a < 16) (hx : ¬ R.rg.getD a 0 = 0) :
 Calls Tryz.prog 50 #[.pointer (some ⟨s.mb, 0, none⟩), .agg #[.int .i64 op, .int .i64 (a : Int), .int .i64 (b : Int), .int .i64 (c : Int), .int .i64 n]] w fun e w' => e = .returned (.tuple #[]) /\ ∃ d', Rm s d' w' { R with nx := n } /\ FooR s d d' w w' := by
 have hlt := h.lt
 have ca : w.cell? ⟨s.mb, 42 + a, none⟩ = some (.int .i64 (R.rg.getD a 0)) := h.reg ha
 have hai : (a : Int) < 16 := by omega
 have HF : Hid _ := h.goes
 have HF2 : Hid _ := h.goes2
 have HK : Hid _ := h.stays
 have c41 := h.cells.c41
 have f41 := h.fz 41
 generalize hga : R.rg.getD a 0 = xa at *
 generalize s.mb = mb at *
 clear h hga
 go_enter Tryz.func50, Tryz.ntmps50
 have hx2 : (xa == 0) = false := by simp [hx]
 go_wp2_with fail
 go_quiet (fail)
 go_wp2_with fail
 exact bodyPost_end (v := .tuple #[]) (by simp [results, Tryz.results50, go_sem]) rfl ⟨rfl, by first | (refine HF.out _ _ ?_; (repeat (first | refine Below.alloc ?_ (by first | omega | (simp; done) | (simp; omega)) _ | refine Below.drew ?_ | refine below_drawnR ?_ _ | exact Below.refl _ _)); done) | (refine HF2.out _ _ ?_; (repeat (first | refine Below.alloc ?_ (by first | omega | (simp; done) | (simp; omega)) _ | refine Below.drew ?_ | refine below_drawnR ?_ _ | exact Below.refl _ _)); done)⟩
end Go.Proofs.YtfofmmkihhnfmaaGreatDoor
