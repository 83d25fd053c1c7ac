import Derived.Test.YtegoemeefmjnoaaGreatDoorJad
import Derived.Test.YtegoemeefmjnoaaGreatDoorJaf
import Derived.Test.YtegoemeefmjnoaaGreatDoorJag
set_option linter.unusedVariables false
set_option linter.unusedSimpArgs false
namespace Go.Proofs.YtegoemeefmjnoaaGreatDoor
open Go.ChangeShapes Go.WideShapes Go.ChangeAt Go.RowKit Go.Maps
structure IRow (w : World) (ao : Option Addr) (cap : Nat) (Ls : List (List Int)) : Prop where
 le : Ls.length <= cap
 mx : cap <= 9223372036854775807
 out : Ls ≠ [] -> ∃ b o, ao = some ⟨b, o, none⟩ /\ b < w.heap.size /\ ∀ i (h : i < Ls.length), ∃ a' c', w.cell? ⟨b, o + i, none⟩ = some (.slice a' Ls[i].length c') /\ Ints w a' c' Ls[i]
theorem IRow.below {w w' ao cap L K} (h : IRow w ao cap L) (hb : Below K w w') (hK : w.heap.size <= K) : IRow w' ao cap L :=
 ⟨h.le, h.mx, fun hn => by
  obtain ⟨b, o, e, h1, h2⟩ := h.out hn
  refine ⟨b, o, e, by have := hb.size; omega, fun i hi => ?_⟩
  obtain ⟨a', c', h3, h4⟩ := h2 i hi
  exact ⟨a', c', by rw [hb.cell (p := ⟨b, o + i, none⟩) (by show b < K; omega)]; exact h3, h4.below hb hK⟩⟩
def goodP (Ls : List (List Int)) : Bool := decide (0 < Ls.length) && Ls.all fun l => l.all fun x => decide (0 <= x /\ x < Ls.length)
theorem Ints.at {w ao cap L} (h : Ints w ao cap L) {j : Nat} (hj : j < L.length) : ∃ b o, ao = some ⟨b, o, none⟩ /\ w.cell? ⟨b, o + j, none⟩ = some (.int .i64 L[j]) := by
 obtain ⟨b, o, e, hA⟩ := h.out (by intro e; rw [e] at hj; simp at hj)
 exact ⟨b, o, e, hA.cell j hj⟩
theorem IRow.at {w ao cap L} (h : IRow w ao cap L) {j : Nat} (hj : j < L.length) : ∃ b o a' c', ao = some ⟨b, o, none⟩ /\ w.cell? ⟨b, o + j, none⟩ = some (.slice a' L[j].length c') /\ Ints w a' c' L[j] := by
 obtain ⟨b, o, e, _, hA⟩ := h.out (by intro e; rw [e] at hj; simp at hj)
 obtain ⟨a', c', h1, h2⟩ := hA j hj
 exact ⟨b, o, a', c', e, h1, h2⟩
theorem ret_blW {a b : Bool} (h : a = b) : Ending.returned (.bool a) = Ending.returned (.bool b) := by rw [h]
set_option maxRecDepth 10000 in
theorem told_fullW (w : World) {mb o : Nat} {ao : Option Addr} {c : Nat} (c0 : w.cell? ⟨mb, o, none⟩ = some (.slice ao 1048576 c)) {r : Bool} (c7 : w.cell? ⟨mb, o + 7, none⟩ = some (.bool r)) (fz : w.frozen? ⟨mb, o + 7, none⟩ = false) (k x : Int) :
 Calls Tryz.prog 72 #[.pointer (some ⟨mb, o, none⟩), .int .i64 k, .int .i64 x] w fun e w' => e = .returned (.bool false) /\ w' = w.setCell ⟨mb, o + 7, none⟩ (.bool true) := by
 go_enter Tryz.func72, Tryz.ntmps72
 go_wp2_with fail
 go_ret
 exact ⟨rfl, rfl⟩
theorem mEventW {s P Q d w V} (h : Wm s P Q d w V) (k x : Int) :
 Calls Tryz.prog 72 #[.pointer (some ⟨s.mb, s.o + 1, none⟩), .int .i64 k, .int .i64 x] w fun e w' => (∃ b, e = .returned (.bool b)) /\ ∃ d', Wm s P Q d' w' (V.tell k x) /\ FooW s d d' w w' := by
 have T := h.cells
 by_cases hf : V.ev.length = 1048576
 ·obtain ⟨ao, c, e, _⟩ := evs_of h.rest.ev
  have c1 := T.c1
  rw [e, hf] at c1
  refine (told_fullW w (o := s.o + 1) c1 T.c8 (T.fz _) k x).mono ?_
  rintro e w' ⟨rfl, rfl⟩
  unfold Wv.tell
  rw [if_pos hf]
  exact ⟨⟨_, rfl⟩, d, h.resting⟩
 ·have hn : V.ev.length < 1048576 := by have := h.rest.evs; omega
  refine (told_event w (o := s.o + 1) h.box h.rest.ne.1 T.c1 h.rest.ev hn h.rest.hi.1 k x).mono ?_
  rintro e w' ⟨rfl, v', w5, h5, g5, _, rfl⟩
  have R := h.rest.setEv g5 h5 (by simp; omega)
  unfold Wv.tell
  rw [if_neg hf]
  exact ⟨⟨_, rfl⟩, { d with ve := v' }, ⟨box_mid (j := 1) (R.2.1.trans h.box) h.ol (by show 1 < 10; omega) rfl, h.ol, R.1.set _ v'⟩, R.2.2.trans (FooW.set s { d with ve := v' } w5 _ v')⟩
theorem mPanicW {s P Q d w V} (h : Wm s P Q d w V) (k x : Int) :
 Calls Tryz.prog 54 #[.pointer (some ⟨s.mb, s.o + 1, none⟩), .int .i64 k, .int .i64 x] w fun e w' => e = .returned (.tuple #[]) /\ ∃ d', Wm s P Q d' w' (V.panic k x) /\ FooW s d d' w w' := by
 have T := h.cells
 refine (told_panic w (o := s.o + 1) (k := k) (v := x) T.c2 T.c3 T.c4 (T.fz _) (T.fz _) (T.fz _)).mono ?_
 rintro e w' ⟨rfl, rfl⟩
 exact ⟨rfl, d, h.panic k x⟩
theorem mStuckW {s P Q d w V} (h : Wm s P Q d w V) (k : Int) :
 Calls Tryz.prog 85 #[.pointer (some ⟨s.mb, s.o + 1, none⟩), .int .i64 k] w fun e w' => e = .returned (.tuple #[]) /\ ∃ d', Wm s P Q d' w' (V.stuck k) /\ FooW s d d' w w' := by
 have T := h.cells
 refine (told_stuck w (o := s.o + 1) (k := k) T.c2 T.c3 (T.fz _) (T.fz _)).mono ?_
 rintro e w' ⟨rfl, rfl⟩
 exact ⟨rfl, d, h.stuck k⟩
theorem mExitW {s P Q d w V} (h : Wm s P Q d w V) :
 Calls Tryz.prog 66 #[.pointer (some ⟨s.mb, s.o + 1, none⟩)] w fun e w' => e = .returned (.tuple #[]) /\ ∃ d', Wm s P Q d' w' { V with fin := 1 } /\ FooW s d d' w w' := by
 have T := h.cells
 refine (told_exit w (o := s.o + 1) T.c2 (T.fz _)).mono ?_
 rintro e w' ⟨rfl, rfl⟩
 exact ⟨rfl, d, h.exit⟩
theorem mOverW {s P Q d w V} (h : Wm s P Q d w V) :
 Calls Tryz.prog 29 #[.pointer (some ⟨s.mb, s.o + 1, none⟩)] w fun e w' => e = .returned (.bool V.over) /\ w' = w := told_over w (o := s.o + 1) h.cells.c8 h.cells.c2
theorem Wm.taken {s P Q d w V} (h : Wm s P Q d w V) {y : Int} {L : List Int} (hM : V.inp = y :: L) {b o : Nat} (hia : d.ia = some ⟨b, o, none⟩) (ia : Option Addr) (ic : Nat) (hi : L ≠ [] -> ia = some ⟨b, o + 1, none⟩) (hc : L.length <= ic /\ ic <= 9223372036854775807) :
 ∃ d', Wm s P Q d' (w.setCell ⟨s.mb, s.o + 9, none⟩ (.slice ia L.length ic)) { V with inp := L } /\ FooW s d d' w (w.setCell ⟨s.mb, s.o + 9, none⟩ (.slice ia L.length ic)) := by
 have R := h.rest.set (s.o + 9) (.slice ia L.length ic)
 refine ⟨{ d with ia := ia, ic := ic }, ⟨box_mid (j := 9) h.box h.ol (by show 9 < 10; omega) rfl, h.ol, ?_⟩, ⟨(Only.of_set w _ _).mono fun k _ hk => .inl hk, fun k hk => .inl hk⟩⟩
 refine ⟨R.agr, fun w' hw' => ⟨hc.1, hc.2, fun hne => ?_⟩, R.ch, R.ev, R.evs, R.hi, R.out, R.ne, R.box⟩
 have hI := h.rest.inp w' hw'
 rw [hM] at hI
 obtain ⟨b', o', e, hA⟩ := hI.out (by simp)
 rw [hia] at e
 cases e
 exact ⟨b, o + 1, hi hne, ⟨hA.lt, fun j hj => by
  have := hA.cell (j + 1) (by simpa using hj)
  simp only [List.getElem_cons_succ] at this
  rw [<- this]
  congr 2
  omega⟩⟩
set_option maxRecDepth 100000 in
theorem mTakeW_no {s P Q d w V} (h : Wm s P Q d w V) (hM : V.inp = []) :
 Calls Tryz.prog 71 #[.pointer (some ⟨s.mb, s.o, none⟩)] w fun e w' => e = .returned (.int .i64 0) /\ ∃ d', Wm s P Q d' w' (V.panic 5 0) /\ FooW s d d' w w' := by
 have c3 := h.cells.c9
 have hlt := h.cells.lt
 rw [hM] at c3
 have HP : Hid _ := mPanicW h 5 0
 generalize s.mb = mb at *
 generalize s.o = so at *
 generalize d.ia = ia at c3
 generalize d.ic = ic at c3
 clear h hM
 go_enter Tryz.func71, Tryz.ntmps71
 go_wp2_with (go_at_call 54; refine Calls.mono HP.out ?_; rintro e w2 ⟨rfl, h2⟩; have H2 : Hid _ := h2; clear h2)
 go_ret
 exact ⟨rfl, H2.out⟩
set_option maxRecDepth 100000 in
theorem mTakeW_yes {s P Q d w V} (h : Wm s P Q d w V) {y : Int} {L : List Int} (hM : V.inp = y :: L) :
 Calls Tryz.prog 71 #[.pointer (some ⟨s.mb, s.o, none⟩)] w fun e w' => e = .returned (.int .i64 y) /\ ∃ d', Wm s P Q d' w' { V with inp := L } /\ FooW s d d' w w' := by
 have c3 := h.cells.c9
 have hlt := h.cells.lt
 have fz := h.cells.fz (s.o + 9)
 have hI := h.rest.inp w h.rest.agr
 rw [hM] at c3 hI
 obtain ⟨b, o, hia, k0⟩ := hI.at (j := 0) (by simp)
 simp at k0
 have hbl : b < w.heap.size := block_lt_of_cell k0
 have hcl := hI.le
 have hcm := hI.mx
 simp at hcl
 obtain ⟨n, hn⟩ : ∃ n, n = L.length := ⟨_, rfl⟩
 rw [hia] at c3
 have HT : Hid (∀ ia ic, (L ≠ [] -> ia = some ⟨b, o + 1, none⟩) -> (L.length <= ic /\ ic <= 9223372036854775807) -> ∃ d', Wm s P Q d' (w.setCell ⟨s.mb, s.o + 9, none⟩ (.slice ia n ic)) { V with inp := L } /\ FooW s d d' w (w.setCell ⟨s.mb, s.o + 9, none⟩ (.slice ia n ic))) := fun ia ic q1 q2 => by
  obtain ⟨d', r1, r2⟩ := h.taken hM hia ia ic q1 q2
  rw [<- hn] at r1 r2
  exact ⟨d', r1, r2⟩
 have hlen : (y :: L).length = n + 1 := by simp [hn]
 rw [hlen] at c3
 rw [<- hn] at hcl
 have HN : Hid (n = L.length) := hn
 obtain ⟨ic, hic⟩ : ∃ ic, ic = d.ic := ⟨_, rfl⟩
 rw [<- hic] at hcl hcm c3
 generalize s.mb = mb at *
 generalize s.o = so at *
 clear h hM hI hia hn hlen hic
 by_cases hc1 : ic = 1
 ·have hn0 : n = 0 := by omega
  have hL : L = [] := List.length_eq_zero_iff.1 (by rw [<- HN.out]; exact hn0)
  subst hL
  subst hn0
  subst hc1
  clear HN
  go_enter Tryz.func71, Tryz.ntmps71
  go_wp2_with fail
  go_ret
  exact ⟨rfl, HT.out _ _ (fun q => absurd rfl q) (by simp)⟩
 ·have hc2 : 1 < ic := by omega
  have hcz : ((ic - 1 : Nat) : Int) ≠ 0 := by omega
  go_enter Tryz.func71, Tryz.ntmps71
  go_wp2_with fail
  go_ret
  exact ⟨rfl, HT.out _ _ (fun _ => by first | rfl | simp) (by have := HN.out; omega)⟩
set_option maxRecDepth 100000 in
theorem isBoolW (w : World) (a : Int) : Calls Tryz.prog 92 #[.int .i64 a] w fun e w' => e = .returned (.bool (decide (a = 0 \/ a = 1))) /\ w' = w := by
 by_cases h0 : a = 0
 ·have t : (a == 0) = true := by simp [h0]
  go_enter Tryz.func92, Tryz.ntmps92
  go_wp2_with fail
  go_ret
  exact ⟨by simp [h0], rfl⟩
 ·have t : (a == 0) = false := by simp [h0]
  go_enter Tryz.func92, Tryz.ntmps92
  go_wp2_with fail
  go_ret
  exact ⟨ret_blW (by rw [Bool.eq_iff_iff]; simp [h0]), rfl⟩
set_option maxRecDepth 100000 in
theorem mPrintBW {s P Q d w V} (h : Wm s P Q d w V) (a : Int) :
 Calls Tryz.prog 73 #[.pointer (some ⟨s.mb, s.o, none⟩), .int .i64 a] w fun e w' => e = .returned (.tuple #[]) /\ ∃ d', Wm s P Q d' w' (if a = 0 \/ a = 1 then V.tell 2 a else V.stuck 5) /\ FooW s d d' w w' := by
 have HI : Hid _ := isBoolW w a
 have HE : Hid _ := mEventW h 2 a
 have HS : Hid _ := mStuckW h 5
 have hlt := h.cells.lt
 generalize s.mb = mb at *
 generalize s.o = so at *
 clear h
 by_cases hq : a = 0 \/ a = 1
 ·rw [decide_eq_true hq] at HI
  rw [if_pos hq]
  clear hq
  go_enter Tryz.func73, Tryz.ntmps73
  go_wp2_with (first
   | (go_at_call 72; refine Calls.mono HE.out ?_; rintro e w2 ⟨⟨b2, rfl⟩, h2⟩; have H2 := show Hid _ from h2; clear h2)
   | (go_at_call 92; refine Calls.mono HI.out ?_; rintro e w1 ⟨rfl, rfl⟩))
  exact bodyPost_end (v := .tuple #[]) (by simp [results, Tryz.results73, go_sem]) rfl ⟨rfl, H2.out⟩
 ·rw [decide_eq_false hq] at HI
  rw [if_neg hq]
  clear hq
  go_enter Tryz.func73, Tryz.ntmps73
  go_wp2_with (first
   | (go_at_call 85; refine Calls.mono HS.out ?_; rintro e w2 ⟨rfl, h2⟩; have H2 := show Hid _ from h2; clear h2)
   | (go_at_call 92; refine Calls.mono HI.out ?_; rintro e w1 ⟨rfl, rfl⟩))
  exact bodyPost_end (v := .tuple #[]) (by simp [results, Tryz.results73, go_sem]) rfl ⟨rfl, H2.out⟩
structure Ast where
 ws : Wst
 fb : Nat
 fo : Nat
 fn : Nat
 fc : Nat
 bb : Nat -> Nat
 bo : Nat -> Nat
structure Ady where
 wd : Wdy
 mh : Option Nat
 mw : List (Option Nat)
 vw : Value
def fav (s : Ast) (F : Fa) (m : Option Nat) : List Value := .pointer (some ⟨s.fb, s.fo + F.fi * 5, none⟩) :: .pointer (some ⟨s.bb F.fi, s.bo F.fi + F.bk * 5, none⟩) :: .int .i64 (F.bh : Int) :: (F.rg.map (Value.int .i64) ++ [.map m])
theorem fav_len {s : Ast} {F : Fa} {m : Option Nat} (h : F.rg.length = 8) : (fav s F m).length = 12 := by simp [fav, h]
structure SlM (w : World) (m : Option Nat) (c : Nat) (sl : Int -> Option Int) : Prop where
 no : m = none -> ∀ i, sl i = none
 yes : ∀ b, m = some b -> ∃ D, w.ownsMap Tryz.prog 3 (plainElem (H := Unit) Tryz.prog 3) b c D /\ ∀ a, Fits a -> Maps.has D (.int .i64 a) = (sl a).isSome /\ D.atKey (.int .i64 a) (.lit (.int .i64 0)) = .lit (.int .i64 ((sl a).getD 0))
theorem SlM.move {w w' m c sl} (h : SlM w m c sl) (hk : ∀ b, m = some b -> w'.heap[b]? = w.heap[b]?) : SlM w' m c sl :=
 ⟨h.no, fun b hb => by
  obtain ⟨D, d1, d2⟩ := h.yes b hb
  exact ⟨D, own_map_move d1 (hk b hb), d2⟩⟩
theorem SlM.lt {w m c sl} (h : SlM w m c sl) {b : Nat} (hb : m = some b) : b < w.heap.size /\ ∀ A t f, w.heap[b]? ≠ some (.cells A t f) := by
 obtain ⟨D, ⟨es, cl, d1, d2⟩, _⟩ := h.yes b hb
 exact ⟨(gl d1), fun A t f q => by rw [d1] at q; cases q⟩
theorem SlM.start (w : World) (c : Nat) : SlM w none c (fun _ => none) := ⟨fun _ _ => rfl, fun b h => by cases h⟩
structure FB (s : Ast) (Q : List Value) (t : TypeId) (w : World) (b : Nat) (F : Fa) (m : Option Nat) : Prop where
 box : w.heap[b]? = some (.cells (fav s F m ++ Q).toArray t (0, 0))
 rg : F.rg.length = 8
 sm : SlM w m F.c F.sl
theorem FB.lt {s Q t w b F m} (h : FB s Q t w b F m) : b < w.heap.size := (gl h.box)
theorem FB.ne {s Q t w b F m} (h : FB s Q t w b F m) {g : Nat} (hg : m = some g) : g ≠ b := fun e => (h.sm.lt hg).2 _ _ _ (e ▸ h.box)
theorem FB.move {s Q t w w' b F m} (h : FB s Q t w b F m) (hb : w'.heap[b]? = w.heap[b]?) (hk : ∀ g, m = some g -> w'.heap[g]? = w.heap[g]?) : FB s Q t w' b F m := ⟨hb.trans h.box, h.rg, h.sm.move hk⟩
theorem FB.below {s Q t w w' b F m} (h : FB s Q t w b F m) (hb : Below w.heap.size w w') : FB s Q t w' b F m := h.move (hb.block _ h.lt) fun g hg => hb.block _ (h.sm.lt hg).1
theorem fav_rg {s : Ast} {F : Fa} {m : Option Nat} {Q : List Value} {n : Nat} {x : Int} (h : F.rg[n]? = some x) : (fav s F m ++ Q)[3 + n]? = some (.int .i64 x) := by
 have hl := (List.getElem?_eq_some_iff.1 h).1
 unfold fav
 rw [show 3 + n = n + 1 + 1 + 1 by omega]
 simp only [List.cons_append, List.getElem?_cons_succ]
 rw [List.append_assoc, List.getElem?_append_left (by simpa using hl), List.getElem?_map, h]
 rfl
theorem fav_sl {s : Ast} {F : Fa} {m : Option Nat} {Q : List Value} (h : F.rg.length = 8) : (fav s F m ++ Q)[11]? = some (.map m) := by
 unfold fav
 simp only [List.cons_append, List.getElem?_cons_succ]
 rw [List.append_assoc, List.getElem?_append_right (by simp [h])]
 simp [h]
theorem fav_setRg {s : Ast} {F : Fa} {m : Option Nat} {Q : List Value} {n : Nat} (h : n < F.rg.length) (x : Int) : (fav s F m ++ Q).set (3 + n) (.int .i64 x) = fav s { F with rg := F.rg.set n x } m ++ Q := by
 unfold fav
 rw [show 3 + n = n + 1 + 1 + 1 by omega]
 simp only [List.cons_append, List.set_cons_succ]
 rw [List.append_assoc, List.append_assoc, List.set_append_left _ _ (by simpa using h), List.map_set]
theorem fav_setSl {s : Ast} {F : Fa} {m m' : Option Nat} {Q : List Value} (h : F.rg.length = 8) : (fav s F m ++ Q).set 11 (.map m') = fav s F m' ++ Q := by
 unfold fav
 simp only [List.cons_append, List.set_cons_succ]
 rw [List.append_assoc, List.append_assoc, List.set_append_right _ _ (by simp [h])]
 simp [h]
theorem box_set {w : World} {b i : Nat} {A A' : List Value} {v : Value} {t : TypeId} (h : w.heap[b]? = some (.cells A.toArray t (0, 0))) (e : A.set i v = A') : (w.setCell ⟨b, i, none⟩ v).heap[b]? = some (.cells A'.toArray t (0, 0)) := by
 have := heap_set_at (i := i) (v := v) h
 rw [this, <- e]
 simp
set_option maxRecDepth 100000 in
theorem fGet_reg {s Q t w b F m} (h : FB s Q t w b F m) (q : Nat) (x : Int) (hx : F.rg[q]? = some x) :
 Calls Tryz.prog 52 #[.pointer (some ⟨b, 0, none⟩), .agg #[.int .i64 1, .int .i64 (q : Int)]] w fun e w' => e = .returned (.int .i64 x) /\ Below w.heap.size w w' := by
 have hlt := h.lt
 have hq := (List.getElem?_eq_some_iff.1 hx).1
 rw [h.rg] at hq
 have c0 : w.cell? ⟨b, 3 + q, none⟩ = some (.int .i64 x) := cell_arr h.box (by rw [List.getElem?_toArray]; exact fav_rg hx)
 have hqi : (q : Int) < 8 := by omega
 have HB : Hid _ := below_newA w (.cells #[.int .i64 1, .int .i64 (q : Int)] 24)
 clear h hx
 go_enter Tryz.func52, Tryz.ntmps52
 go_wp2_with fail
 go_quiet (fail)
 go_wp2_with fail
 go_ret
 exact ⟨rfl, by first | exact HB.out | exact below_drawnA HB.out _⟩
set_option maxRecDepth 100000 in
theorem fGet_else {w : World} {b : Nat} (hlt : b < w.heap.size) (k n : Int) (h1 : ¬ k = 1) (h2 : ¬ k = 2) :
 Calls Tryz.prog 52 #[.pointer (some ⟨b, 0, none⟩), .agg #[.int .i64 k, .int .i64 n]] w fun e w' => e = .returned (.int .i64 (-1)) /\ Below w.heap.size w w' := by
 have HB : Hid _ := below_newA w (.cells #[.int .i64 k, .int .i64 n] 24)
 have t1 : (k == 1) = false := by simp [h1]
 have t2 : (k == 2) = false := by simp [h2]
 clear h1 h2
 go_enter Tryz.func52, Tryz.ntmps52
 go_wp2_with fail
 go_ret
 exact ⟨rfl, HB.out⟩
set_option maxRecDepth 100000 in
theorem fGet_none {s Q t w b F} (h : FB s Q t w b F none) (n : Int) (hn : Fits n) :
 Calls Tryz.prog 52 #[.pointer (some ⟨b, 0, none⟩), .agg #[.int .i64 2, .int .i64 n]] w fun e w' => e = .returned (.int .i64 (-1)) /\ Below w.heap.size w w' := by
 have hlt := h.lt
 have c0 : w.cell? ⟨b, 11, none⟩ = some (.map none) := cell_arr h.box (by rw [List.getElem?_toArray]; exact fav_sl h.rg)
 have HB : Hid _ := below_newA w (.cells #[.int .i64 2, .int .i64 n] 24)
 have HL : ∀ W : World, (Instr.lookup 78 (.map none) (.int .i64 n) true).run Tryz.prog W = .ok (.tuple #[.int .i64 0, .bool false]) W := fun _ => by kernel_rfl
 clear h
 go_enter Tryz.func52, Tryz.ntmps52
 go_wp2_with fail
 go_quiet (fail)
 go_wp2_with fail
 go_ret
 exact ⟨rfl, by first | exact HB.out | exact below_drawnA HB.out _⟩
end Go.Proofs.YtegoemeefmjnoaaGreatDoor
