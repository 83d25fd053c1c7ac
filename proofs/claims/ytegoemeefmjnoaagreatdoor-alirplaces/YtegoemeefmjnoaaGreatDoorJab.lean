import Derived.Test.YtegoemeefmjnoaaGreatDoorRows
import Derived.WalkKit
import Derived.ProofKit
import Derived.WalkLawsBesides
import Derived.WalkSpells
import Derived.BigQuiet
import Derived.Below
import Derived.Maps.OwnSet
import Derived.Deep.RegionHeldLaw
import Derived.OwnWalk
import Derived.Laws.OwnMore
import Derived.Lib.AppendStr
import Derived.Test.YtegoemeefmjnoaaGreatDoorJaa
set_option linter.unusedVariables false
set_option maxRecDepth 10000
namespace Go.Proofs.YtegoemeefmjnoaaGreatDoor
open Go.ChangeShapes Go.WideShapes Go.ChangeAt Go.RowKit Go.Maps
theorem law3 : Keyed Tryz.prog 3 := int_keyed Tryz.underlying3
theorem zero3 (w : World) : (zeroValue 3).run Tryz.prog w = .ok (.int .i64 0) w := by kernel_rfl
theorem cell_arr {w : World} {g i : Nat} {A : Array Value} {t : TypeId} {v : Value} (h : w.heap[g]? = some (.cells A t (0, 0))) (hv : A[i]? = some v) : w.cell? ⟨g, i, none⟩ = some v := by
 simp [World.cell?, h, hv]
theorem fz_of {w : World} {g i : Nat} {c : Array Value} {t : TypeId} (h : w.heap[g]? = some (.cells c t (0, 0))) : w.frozen? ⟨g, i, none⟩ = false := by simp [World.frozen?, h]
theorem heap_set_at {w : World} {g i : Nat} {c : Array Value} {t : TypeId} {f : Nat × Nat} {v : Value} (h : w.heap[g]? = some (.cells c t f)) : (w.setCell ⟨g, i, none⟩ v).heap[g]? = some (.cells (c.setIfInBounds i v) t f) := by
 simp [World.setCell, Array.getElem?_modify, h]
theorem heap_set_other {w : World} {g i k : Nat} {v : Value} (h : k ≠ g) : (w.setCell ⟨g, i, none⟩ v).heap[k]? = w.heap[k]? := by
 simp only [World.setCell, Array.getElem?_modify]
 rw [if_neg (by omega)]
def Fits (a : Int) : Prop := -9223372036854775808 <= a /\ a <= 9223372036854775807
theorem Fits.wf {a : Int} (h : Fits a) : (Lit.int .i64 a).wf = true := by
 have h1 := h.1
 have h2 := h.2
 exact WalkArith.wf_i64 (by omega)
structure Only (F : Nat -> Prop) (w w' : World) : Prop where
 os : w'.os = w.os
 tape : w'.tape = w.tape
 output : w'.output = w.output
 size : w.heap.size <= w'.heap.size
 block : ∀ k, k < w.heap.size -> ¬ F k -> w'.heap[k]? = w.heap[k]?
theorem Only.refl (F : Nat -> Prop) (w : World) : Only F w w := ⟨rfl, rfl, rfl, Nat.le_refl _, fun _ _ _ => rfl⟩
theorem Only.trans {F F' : Nat -> Prop} {a b c : World} (h : Only F a b) (k : Only F' b c) (hF : ∀ i, i < a.heap.size -> F' i -> F i) : Only F a c :=
 ⟨k.os.trans h.os, k.tape.trans h.tape, k.output.trans h.output, Nat.le_trans h.size k.size, fun i hi hn => (k.block i (Nat.lt_of_lt_of_le hi h.size) (fun hf => hn (hF i hi hf))).trans (h.block i hi hn)⟩
theorem Only.mono {F F' : Nat -> Prop} {a b : World} (h : Only F a b) (hF : ∀ i, i < a.heap.size -> F i -> F' i) : Only F' a b :=
 ⟨h.os, h.tape, h.output, h.size, fun i hi hn => h.block i hi (fun hf => hn (hF i hi hf))⟩
theorem Only.of_grown {w w' : World} {r : Option Nat} (h : w.grownBy w' r) : Only (fun k => r = some k) w w' := ⟨h.os, h.tape, h.output, h.size, fun k hk hn => h.block k hk (fun e => hn e.symm)⟩
theorem Only.of_set (w : World) (a : Addr) (u : Value) : Only (fun k => k = a.block) w (w.setCell a u) := ⟨rfl, rfl, rfl, by simp [World.setCell], fun k hk hn => Below.heap_setCell _ _ _ _ hn⟩
theorem Only.of_below {w w' : World} (h : Below w.heap.size w w') (F : Nat -> Prop) : Only F w w' := ⟨h.os, h.tape, h.output, h.size, fun k hk _ => h.block k hk⟩
theorem Only.below {F : Nat -> Prop} {B : Nat} {w w' : World} (h : Only F w w') (hB : B <= w.heap.size) (hF : ∀ k, F k -> B <= k) : Below B w w' := ⟨h.os, h.tape, h.output, h.size, fun k hk => h.block k (by omega) (fun hf => by have := hF k hf; omega)⟩
structure CH (w : World) (h m n : Nat) (tk : Int) (ln : Int -> Option Int) (f : Int -> Int) (c : Nat) : Prop where
 box : w.heap[h]? = some (.cells #[.map (some m), .map (some n), .int .i64 tk] 113 (0, 0))
 o1 : ∃ D, w.ownsMap Tryz.prog 3 (plainElem (H := Unit) Tryz.prog 3) m c D /\ ∀ a, Fits a -> Maps.has D (.int .i64 a) = (ln a).isSome /\ D.atKey (.int .i64 a) (.lit (.int .i64 0)) = .lit (.int .i64 ((ln a).getD 0))
 o2 : ∃ E, w.ownsMap Tryz.prog 3 (plainElem (H := Unit) Tryz.prog 3) n c E /\ ∀ a, Fits a -> E.atKey (.int .i64 a) (.lit (.int .i64 0)) = .lit (.int .i64 (f a))
 ne : m ≠ n
 lim : 0 <= tk /\ tk <= 4611686018427387904
 inn : ∀ a k, ln a = some k -> 1 <= a /\ 0 <= k /\ a + k <= tk
theorem CH.hm {w h m n tk ln f c} (H : CH w h m n tk ln f c) : h ≠ m := by
 rintro rfl
 obtain ⟨D, ⟨es, cl, h1, _⟩, _⟩ := H.o1
 rw [H.box] at h1
 cases h1
theorem CH.hn {w h m n tk ln f c} (H : CH w h m n tk ln f c) : h ≠ n := by
 rintro rfl
 obtain ⟨D, ⟨es, cl, h1, _⟩, _⟩ := H.o2
 rw [H.box] at h1
 cases h1
def CF (h m n : Nat) (k : Nat) : Prop := k = h \/ k = m \/ k = n
theorem own_map_move {w w' : World} {b c : Nat} {D : DataW Unit} (h : w.ownsMap Tryz.prog 3 (plainElem Tryz.prog 3) b c D) (hk : w'.heap[b]? = w.heap[b]?) : w'.ownsMap Tryz.prog 3 (plainElem Tryz.prog 3) b c D := by
 obtain ⟨es, cl, h1, h2⟩ := h
 exact ⟨es, cl, hk.trans h1, h2⟩
theorem CH.move {w w' h m n tk ln f c} (H : CH w h m n tk ln f c) (hk : ∀ g, CF h m n g -> w'.heap[g]? = w.heap[g]?) : CH w' h m n tk ln f c := by
 obtain ⟨D, d1, d2⟩ := H.o1
 obtain ⟨E, e1, e2⟩ := H.o2
 exact ⟨(hk h (.inl rfl)).trans H.box, ⟨D, own_map_move d1 (hk m (.inr (.inl rfl))), d2⟩, ⟨E, own_map_move e1 (hk n (.inr (.inr rfl))), e2⟩, H.ne, H.lim, H.inn⟩
theorem CH.lt {w h m n tk ln f c} (H : CH w h m n tk ln f c) : ∀ g, CF h m n g -> g < w.heap.size := by
 obtain ⟨D, d1, d2⟩ := H.o1
 obtain ⟨E, e1, e2⟩ := H.o2
 rintro g (rfl | rfl | rfl)
 ·exact (gl H.box)
 ·exact d1.lt
 ·exact e1.lt
theorem CH.mono {w h m n tk ln f c c'} (H : CH w h m n tk ln f c) (hc : c <= c') : CH w h m n tk ln f c' := by
 obtain ⟨D, d1, d2⟩ := H.o1
 obtain ⟨E, e1, e2⟩ := H.o2
 exact ⟨H.box, ⟨D, d1.mono hc, d2⟩, ⟨E, e1.mono hc, e2⟩, H.ne, H.lim, H.inn⟩
def upd {α : Type} (f : Int -> α) (x : Int) (v : α) : Int -> α := fun y => if y = x then v else f y
theorem key_ne {a b : Int} (h : a ≠ b) : (Lit.int .i64 a) ≠ (Lit.int .i64 b) := fun e => h (by cases e; rfl)
set_option maxRecDepth 100000 in
theorem new_any (w : World) : Calls Tryz.prog 40 #[] w fun e w' => e = .returned (.pointer (some ⟨w.heap.size + 1 + 1, 0, none⟩)) /\ CH w' (w.heap.size + 1 + 1) w.heap.size (w.heap.size + 1) 0 (fun _ => none) (fun _ => 0) 0 /\ Below w.heap.size w w' /\ w'.heap.size = w.heap.size + 1 + 1 + 1 := by
 have hmm := @run_makeMap Tryz.prog
 go_enter Tryz.func40, Tryz.ntmps40
 go_wp2
 go_ret
 refine ⟨rfl, ⟨?_, ⟨_, ((World.ownsMap_made w _ _ _).alloc _).alloc _, fun a _ => ?_⟩, ⟨_, by simpa using (World.ownsMap_made (w.alloc (.map #[] 0)) _ _ _).alloc _, fun a _ => ?_⟩, by omega, by omega, by simp⟩, ?_, by simp⟩
 ·simpa using heap_alloc_new ((w.alloc (.map #[] 0)).alloc (.map #[] 0)) _
 ·exact ⟨rfl, rfl⟩
 ·rfl
 ·exact (((Below.refl _ _).alloc (Nat.le_refl _) _).alloc (by simp) _).alloc (by simp; omega) _
theorem words_any (w : World) {h m n tk ln f c} (H : CH w h m n tk ln f c) : Calls Tryz.prog 91 #[.pointer (some ⟨h, 0, none⟩)] w fun e w' => e = .returned (.int .i64 tk) /\ w' = w := by
 have c2 := cell_arr (i := 2) H.box rfl
 clear H
 go_enter Tryz.func91, Tryz.ntmps91
 go_wp2
 go_ret
 exact ⟨rfl, rfl⟩
theorem len_zero (w : World) (h : Nat) : Calls Tryz.prog 84 #[.pointer (some ⟨h, 0, none⟩), .int .i64 0] w fun e w' => e = .returned (.tuple #[.int .i64 0, .bool true]) /\ w' = w := by
 go_enter Tryz.func84, Tryz.ntmps84
 go_wp2
 go_ret2
 exact ⟨rfl, rfl⟩
set_option maxRecDepth 10000 in
theorem len_any (w : World) {h m n tk ln f c} (H : CH w h m n tk ln f c) (a : Int) (ha : Fits a) (h0 : ¬ a = 0) : Calls Tryz.prog 84 #[.pointer (some ⟨h, 0, none⟩), .int .i64 a] w fun e w' => e = .returned (.tuple #[.int .i64 ((ln a).getD 0), .bool (ln a).isSome]) /\ w' = w := by
 have c0 := cell_arr (i := 0) H.box rfl
 obtain ⟨D, d1, d2⟩ := H.o1
 obtain ⟨g1, g2⟩ := d2 a ha
 have hkey := keyOf_int_mk Tryz.underlying3 ha.wf
 rw [<- g1]
 have g2' : Hid (D.atKey (.int .i64 a) (.lit (.int .i64 0)) = .lit (.int .i64 ((ln a).getD 0))) := g2
 generalize (ln a).getD 0 = r at g2'
 clear g1 g2 d2 H
 go_enter Tryz.func84, Tryz.ntmps84
 go_wp2_with (first
  | (at_lookup; refine wpList_lookup_own_ok_int _ rfl _ _ 78 rfl 3 3 .i64 law3 Tryz.underlying78 Tryz.underlying3 (zero3 _) m c D rfl d1 _ _ rfl hkey ?_; intro x hat hwc
     obtain rfl : x = r := by (have e := hat.symm.trans g2'.out; cases e; rfl))
  | go_in)
 go_ret2
 exact ⟨rfl, rfl⟩
def inB (ln : Int -> Option Int) (a i : Int) : Prop := 0 <= i /\ i < (ln a).getD 0
theorem CH.at {w h m n tk ln f c} (H : CH w h m n tk ln f c) {a i : Int} (hin : inB ln a i) : 1 <= a /\ 0 <= i /\ a + 1 + i <= 4611686018427387904 := by
 obtain ⟨h1, h2⟩ := hin
 cases e : ln a with
 | none => rw [e] at h2; simp at h2; omega
 | some k =>
   rw [e] at h2
   simp at h2
   have := H.inn a k e
   have := H.lim
   omega
theorem place_no (w : World) {h m n tk ln f c} (H : CH w h m n tk ln f c) (a i : Int) (ha : Fits a) (hi : Fits i) (hin : ¬ inB ln a i) : Calls Tryz.prog 100 #[.pointer (some ⟨h, 0, none⟩), .int .i64 a, .int .i64 i] w fun e w' => e = .returned (.tuple #[.int .i64 0, .bool false]) /\ w' = w := by
 have c0 := cell_arr (i := 0) H.box rfl
 obtain ⟨D, d1, d2⟩ := H.o1
 obtain ⟨g1, g2⟩ := d2 a ha
 have hkey := keyOf_int_mk Tryz.underlying3 ha.wf
 have g2' : Hid (D.atKey (.int .i64 a) (.lit (.int .i64 0)) = .lit (.int .i64 ((ln a).getD 0))) := g2
 unfold inB at hin
 generalize (ln a).getD 0 = r at g2' hin
 have hn : i < 0 \/ r <= i := by omega
 clear g1 g2 d2 H hin
 by_cases h0 : i < 0
 ·go_enter Tryz.func100, Tryz.ntmps100
  go_wp2
  go_ret2
  exact ⟨rfl, rfl⟩
 ·have h1 : r <= i := by omega
  clear hn
  obtain ⟨x, hrun, hat, _⟩ := d1.lookup_int law3 Tryz.underlying78 Tryz.underlying3 (zero3 _) hkey
  obtain rfl : x = r := by (have e := hat.symm.trans g2'.out; cases e; rfl)
  clear hat
  go_enter Tryz.func100, Tryz.ntmps100
  go_wp2
  go_ret2
  exact ⟨rfl, rfl⟩
theorem place_yes (w : World) {h m n tk ln f c} (H : CH w h m n tk ln f c) (a i : Int) (ha : Fits a) (hi : Fits i) (hin : inB ln a i) : Calls Tryz.prog 100 #[.pointer (some ⟨h, 0, none⟩), .int .i64 a, .int .i64 i] w fun e w' => e = .returned (.tuple #[.int .i64 (a + 1 + i), .bool true]) /\ w' = w := by
 have c0 := cell_arr (i := 0) H.box rfl
 have hb := H.at hin
 obtain ⟨D, d1, d2⟩ := H.o1
 obtain ⟨g1, g2⟩ := d2 a ha
 have hkey := keyOf_int_mk Tryz.underlying3 ha.wf
 have g2' : Hid (D.atKey (.int .i64 a) (.lit (.int .i64 0)) = .lit (.int .i64 ((ln a).getD 0))) := g2
 unfold inB at hin
 generalize (ln a).getD 0 = r at g2' hin
 obtain ⟨h0, h1⟩ := hin
 obtain ⟨b0, b1, b2⟩ := hb
 clear g1 g2 d2 H
 obtain ⟨x, hrun, hat, _⟩ := d1.lookup_int law3 Tryz.underlying78 Tryz.underlying3 (zero3 _) hkey
 obtain rfl : x = r := by (have e := hat.symm.trans g2'.out; cases e; rfl)
 clear hat
 go_enter Tryz.func100, Tryz.ntmps100
 go_wp2
 go_ret2
 refine ⟨?_, rfl⟩
 first | rfl | (congr; go_num) | go_num
theorem get_no (w : World) {h m n tk ln f c} (H : CH w h m n tk ln f c) (a i : Int) (ha : Fits a) (hi : Fits i) (hin : ¬ inB ln a i) : Calls Tryz.prog 86 #[.pointer (some ⟨h, 0, none⟩), .int .i64 a, .int .i64 i] w fun e w' => e = .returned (.tuple #[.int .i64 0, .bool false]) /\ w' = w := by
 have hp := place_no w H a i ha hi hin
 clear H hin ha hi
 go_enter Tryz.func86, Tryz.ntmps86
 go_wp2_with fail
 refine hp.mono ?_
 rintro e u ⟨rfl, rfl⟩
 go_wp2_with fail
 go_ret2
 exact ⟨rfl, rfl⟩
theorem get_yes (w : World) {h m n tk ln f c} (H : CH w h m n tk ln f c) (a i : Int) (ha : Fits a) (hi : Fits i) (hin : inB ln a i) : Calls Tryz.prog 86 #[.pointer (some ⟨h, 0, none⟩), .int .i64 a, .int .i64 i] w fun e w' => e = .returned (.tuple #[.int .i64 (f (a + 1 + i)), .bool true]) /\ w' = w := by
 have hp := place_yes w H a i ha hi hin
 have c1 := cell_arr (i := 1) H.box rfl
 have hb := H.at hin
 have ft : Fits (a + 1 + i) := by unfold Fits; omega
 obtain ⟨D, d1, d2⟩ := H.o2
 have g2' : Hid (D.atKey (.int .i64 (a + 1 + i)) (.lit (.int .i64 0)) = .lit (.int .i64 (f (a + 1 + i)))) := d2 _ ft
 have hkey := keyOf_int_mk Tryz.underlying3 ft.wf
 generalize f (a + 1 + i) = r at g2'
 generalize hx : a + 1 + i = y at *
 clear H hin ha hi d2 hb hx ft
 go_enter Tryz.func86, Tryz.ntmps86
 go_wp2_with fail
 refine hp.mono ?_
 rintro e u ⟨rfl, rfl⟩
 clear hp
 go_wp2_with (first
  | (at_lookup; refine wpList_lookup_own_int _ rfl _ _ 78 rfl 3 3 .i64 law3 Tryz.underlying78 Tryz.underlying3 (zero3 _) n c D rfl d1 _ _ rfl hkey ?_; intro x hat hwc
     obtain rfl : x = r := by (have e := hat.symm.trans g2'.out; cases e; rfl))
  | go_in)
 go_ret2
 exact ⟨rfl, rfl⟩
theorem set_no (w : World) {h m n tk ln f c} (H : CH w h m n tk ln f c) (a i v : Int) (ha : Fits a) (hi : Fits i) (hin : ¬ inB ln a i) : Calls Tryz.prog 88 #[.pointer (some ⟨h, 0, none⟩), .int .i64 a, .int .i64 i, .int .i64 v] w fun e w' => e = .returned (.bool false) /\ w' = w := by
 have hp := place_no w H a i ha hi hin
 clear H hin ha hi
 go_enter Tryz.func88, Tryz.ntmps88
 go_wp2_with fail
 refine hp.mono ?_
 rintro e u ⟨rfl, rfl⟩
 go_wp2_with fail
 go_ret
 exact ⟨rfl, rfl⟩
theorem set_yes (w : World) {h m n tk ln f c} (H : CH w h m n tk ln f c) (hc : c < 1000000000) (a i v : Int) (ha : Fits a) (hi : Fits i) (hv : Fits v) (hin : inB ln a i) :
 Calls Tryz.prog 88 #[.pointer (some ⟨h, 0, none⟩), .int .i64 a, .int .i64 i, .int .i64 v] w fun e w' => e = .returned (.bool true) /\ CH w' h m n tk ln (upd f (a + 1 + i) v) (c + 1) /\ Only (CF h m n) w w' := by
 have hp := place_yes w H a i ha hi hin
 have c1 := cell_arr (i := 1) H.box rfl
 have hb := H.at hin
 have ft : Fits (a + 1 + i) := by unfold Fits; omega
 obtain ⟨D, d1, d2⟩ := H.o2
 have hkey := keyOf_int_mk Tryz.underlying3 ft.wf
 have hcm : c < maxLen := by unfold maxLen; omega
 have hvw := hv.wf
 have fin : ∀ (w1 : World) (D' : DataW Unit), w1.ownsMap Tryz.prog 3 (plainElem Tryz.prog 3) n (c + 1) D' -> w.grownBy w1 (some n) -> (∀ y, Fits y -> D'.atKey (.int .i64 y) (.lit (.int .i64 0)) = .lit (.int .i64 (upd f (a + 1 + i) v y))) -> CH w1 h m n tk ln (upd f (a + 1 + i) v) (c + 1) /\ Only (CF h m n) w w1 := by
  intro w1 D' o1 gr hD
  obtain ⟨E, e1, e2⟩ := H.o1
  refine ⟨⟨(gr.block h (H.lt h (.inl rfl)) (fun e => H.hn (by cases e; rfl))).trans H.box, ⟨E, (e1.kept gr (fun e => H.ne (by cases e; rfl))).mono (by omega), e2⟩, ⟨D', o1, hD⟩, H.ne, H.lim, H.inn⟩, (Only.of_grown gr).mono ?_⟩
  rintro k _ e
  cases e
  exact .inr (.inr rfl)
 have hput : ∀ y, Fits y -> (D.put (.int .i64 (a + 1 + i)) (.lit (.int .i64 v))).atKey (.int .i64 y) (.lit (.int .i64 0)) = .lit (.int .i64 (upd f (a + 1 + i) v y)) := by
  intro y hy
  unfold upd
  by_cases e : y = a + 1 + i
  ·subst e
   simp only [if_true]
   exact atKey_put_same d1.isMap (show WideAt.IsKeyLit (Lit.int .i64 _) from trivial) _ _
  ·rw [atKey_put_other (key_ne e), d2 y hy, if_neg e]
 have hdel : v = 0 -> ∀ y, Fits y -> (D.del (.int .i64 (a + 1 + i))).atKey (.int .i64 y) (.lit (.int .i64 0)) = .lit (.int .i64 (upd f (a + 1 + i) v y)) := by
  intro hv y hy
  unfold upd
  by_cases e : y = a + 1 + i
  ·subst e
   simp only [if_true]
   rw [atKey_del_same, hv]
  ·rw [atKey_del_other (key_ne e), d2 y hy, if_neg e]
 have FIN := show Hid _ from fin
 have HP := show Hid _ from hput
 have HD := show Hid _ from hdel
 clear fin hput hdel
 generalize a + 1 + i = y at *
 clear hin ha hi d2 hb ft H
 by_cases h0 : v = 0
 ·go_enter Tryz.func88, Tryz.ntmps88
  go_wp2_with fail
  refine hp.mono ?_
  rintro e u ⟨rfl, rfl⟩
  clear hp
  go_wp2_with (first
   | (at_delete; refine wpList_delete_own _ rfl _ _ 78 3 rfl 3 law3 Tryz.underlying78 _ n c D rfl d1 _ _ rfl hkey ?_; intro w1 own1 turn1)
   | go_in)
  go_ret
  obtain ⟨r1, r2⟩ := FIN.out w1 _ (own1.mono (Nat.le_succ _)) turn1.grown (HD.out h0)
  exact ⟨rfl, r1, r2⟩
 ·go_enter Tryz.func88, Tryz.ntmps88
  go_wp2_with fail
  refine hp.mono ?_
  rintro e u ⟨rfl, rfl⟩
  clear hp
  go_wp2_with (first
   | (at_mapUpdate; refine wpList_mapUpdate_own _ rfl _ _ _ 78 rfl 3 3 law3 Tryz.underlying78 _ n c D rfl d1 hcm _ _ _ rfl rfl hkey _ [] (plainElem_int Tryz.underlying3 hvw) ?_; intro w1 own1 turn1)
   | go_in)
  go_ret
  obtain ⟨r1, r2⟩ := FIN.out w1 _ own1 turn1 HP.out
  exact ⟨rfl, r1, r2⟩
theorem make_no (w : World) {h m n tk ln f c} (H : CH w h m n tk ln f c) (k : Int) (hk : Fits k) (hno : k < 0 \/ 4611686018427387904 <= tk + k) : Calls Tryz.prog 89 #[.pointer (some ⟨h, 0, none⟩), .int .i64 k] w fun e w' => e = .returned (.tuple #[.int .i64 0, .bool false]) /\ w' = w := by
 have c2 := cell_arr (i := 2) H.box rfl
 obtain ⟨l1, l2⟩ := H.lim
 obtain ⟨k1, k2⟩ := hk
 clear H
 by_cases h0 : k < 0
 ·go_enter Tryz.func89, Tryz.ntmps89
  go_wp2
  go_ret2
  exact ⟨rfl, rfl⟩
 ·have h1 : 4611686018427387904 - tk <= k := by omega
  clear hno
  go_enter Tryz.func89, Tryz.ntmps89
  go_wp2
  go_ret2
  exact ⟨rfl, rfl⟩
theorem make_yes (w : World) {h m n tk ln f c} (H : CH w h m n tk ln f c) (hc : c < 1000000000) (k : Int) (h0 : 0 <= k) (h1 : tk + k < 4611686018427387904) :
 Calls Tryz.prog 89 #[.pointer (some ⟨h, 0, none⟩), .int .i64 k] w fun e w' => e = .returned (.tuple #[.int .i64 (tk + 1), .bool true]) /\ CH w' h m n (tk + k + 1) (upd ln (tk + 1) (some k)) f (c + 1) /\ Only (CF h m n) w w' := by
 have c0 := cell_arr (i := 0) H.box rfl
 have c2 := cell_arr (i := 2) H.box rfl
 obtain ⟨l1, l2⟩ := H.lim
 obtain ⟨D, d1, d2⟩ := H.o1
 have ft : Fits (tk + 1) := by unfold Fits; omega
 have hkey := keyOf_int_mk Tryz.underlying3 ft.wf
 have hcm : c < maxLen := by unfold maxLen; omega
 have fk : Fits k := by unfold Fits; omega
 have hvw := fk.wf
 have fin : ∀ (w1 : World) (D' : DataW Unit), w1.ownsMap Tryz.prog 3 (plainElem Tryz.prog 3) m (c + 1) (D.put (.int .i64 (tk + 1)) (.lit (.int .i64 k))) -> w.grownBy w1 (some m) -> w1.cell? ⟨h, 2, none⟩ = some (.int .i64 tk) /\ w1.frozen? ⟨h, 2, none⟩ = false /\ CH (w1.setCell ⟨h, 2, none⟩ (.int .i64 (tk + k + 1))) h m n (tk + k + 1) (upd ln (tk + 1) (some k)) f (c + 1) /\ Only (CF h m n) w (w1.setCell ⟨h, 2, none⟩ (.int .i64 (tk + k + 1))) := by
  intro w1 D' o1 gr
  obtain ⟨E, e1, e2⟩ := H.o2
  have hb := (gr.block h (H.lt h (.inl rfl)) (fun e => H.hm (by cases e; rfl))).trans H.box
  refine ⟨cell_arr (i := 2) hb rfl, fz_of hb, ⟨heap_set_at hb, ⟨_, own_map_move o1 (heap_set_other (Ne.symm H.hm)), ?_⟩, ⟨E, own_map_move ((e1.kept gr (fun e => H.ne (by cases e; rfl))).mono (Nat.le_succ _)) (heap_set_other (Ne.symm H.hn)), e2⟩, H.ne, by omega, ?_⟩, ((Only.of_grown gr).mono ?_).trans (Only.of_set _ _ _) ?_⟩
  ·intro y hy
   unfold upd
   by_cases e : y = tk + 1
   ·subst e
    simp only [if_true]
    exact ⟨has_put_same d1.isMap (show WideAt.IsKeyLit (Lit.int .i64 _) from trivial) _, atKey_put_same d1.isMap (show WideAt.IsKeyLit (Lit.int .i64 _) from trivial) _ _⟩
   ·rw [atKey_put_other (key_ne e), has_put_other (key_ne e), if_neg e]
    exact d2 y hy
  ·intro a j
   unfold upd
   by_cases e : a = tk + 1
   ·subst e
    simp only [if_true]
    intro e; cases e; omega
   ·rw [if_neg e]
    intro e
    have := H.inn a j e
    omega
  ·rintro k _ e
   cases e
   exact .inr (.inl rfl)
  ·rintro k _ e
   exact .inl e
 have FIN := show Hid _ from fin
 clear fin d2 fk ft H
 go_enter Tryz.func89, Tryz.ntmps89
 go_wp2_with (first
  | (at_mapUpdate; refine wpList_mapUpdate_own _ rfl _ _ _ 78 rfl 3 3 law3 Tryz.underlying78 _ m c D rfl d1 hcm _ _ _ rfl rfl hkey _ [] (plainElem_int Tryz.underlying3 hvw) ?_; intro w1 own1 turn1
     obtain ⟨x1, x2, x3⟩ := FIN.out w1 D own1 turn1
     have X3 := show Hid _ from x3
     clear x3 FIN)
  | go_in)
 go_ret2
 obtain ⟨r1, r2⟩ := X3.out
 rw [show tk + (k + 1) = tk + k + 1 by omega]
 exact ⟨rfl, r1, r2⟩
end Go.Proofs.YtegoemeefmjnoaaGreatDoor
namespace Go.Proofs.YtegoemeefmjnoaaGreatDoor
open Go.ChangeShapes Go.WideShapes Go.ChangeAt Go.RowKit
theorem own_keep {w w' : World} {B e s v n xs} (h : w.ownsRow B e s v n xs) (hk : ∀ g, g < w.heap.size -> w'.heap[g]? = w.heap[g]?) : w'.ownsRow B e s v n xs := by
 refine ⟨h.1, h.2.imp id ?_⟩
 rintro ⟨g, cap, cur, e1, e2, e3, e4⟩
 have hlt : g < w.heap.size := (gl e3)
 exact ⟨g, cap, cur, e1, e2, (hk g hlt).trans e3, e4⟩
theorem own_block {w : World} {B e s v n xs} (h : w.ownsRow B e s v n xs) {g : Nat} (hg : v.ownBlock = some g) : B <= g /\ g < w.heap.size := by
 rcases h.2 with ⟨rfl, _⟩ | ⟨g', cap, cur, rfl, e2, e3, e4⟩
 ·simp [Value.ownBlock] at hg
 ·simp [Value.ownBlock] at hg
  subst hg
  exact ⟨e2, (gl e3)⟩
theorem own_grown {w w' : World} {B e s n xs} {v : Value} {row : Option Nat} (h : w.ownsRow B e s v n xs) (hg : w.grownBy w' row) (hne : ∀ g, v.ownBlock = some g -> row ≠ some g) : w'.ownsRow B e s v n xs := by
 refine ⟨h.1, h.2.imp id ?_⟩
 rintro ⟨g, cap, cur, e1, e2, e3, e4⟩
 have hlt : g < w.heap.size := (gl e3)
 exact ⟨g, cap, cur, e1, e2, (hg.block g hlt (fun e => hne g (by rw [e1]; rfl) e.symm)).trans e3, e4⟩
theorem own_apart {w : World} {B1 B2 e1 e2 s1 s2 n1 n2 x1 x2} {v1 v2 : Value} (h1 : w.ownsRow B1 e1 s1 v1 n1 x1) (h2 : w.ownsRow B2 e2 s2 v2 n2 x2) (hne : e1 ≠ e2) : ∀ g, v1.ownBlock = some g -> v2.ownBlock ≠ some g := by
 intro g hg1 hg2
 rcases h1.2 with ⟨rfl, _⟩ | ⟨g1, _, _, rfl, _, e3, _⟩
 ·simp [Value.ownBlock] at hg1
 ·rcases h2.2 with ⟨rfl, _⟩ | ⟨g2, _, _, rfl, _, e4, _⟩
  ·simp [Value.ownBlock] at hg2
  ·simp [Value.ownBlock] at hg1 hg2
   subst hg1 hg2
   rw [e3] at e4
   simp at e4
   exact hne e4.2
theorem own_move {w w' : World} {B e s n xs} {v : Value} (h : w.ownsRow B e s v n xs) (hk : ∀ g, v.ownBlock = some g -> w'.heap[g]? = w.heap[g]?) : w'.ownsRow B e s v n xs := by
 refine ⟨h.1, h.2.imp id ?_⟩
 rintro ⟨g, cap, cur, e1, e2, e3, e4⟩
 exact ⟨g, cap, cur, e1, e2, (hk g (by rw [e1]; rfl)).trans e3, e4⟩
structure Grew (w w' : World) (v v' : Value) (n m : Nat) : Prop where
 out : (∃ g cap, v = .slice (some ⟨g, 0, none⟩) n cap /\ v' = .slice (some ⟨g, 0, none⟩) (n + m) cap) \/ (v'.ownBlock = some w.heap.size /\ w.grownBy w' none)
theorem run_append_where {P : Program} {w : World} (base : Nat) (t ty e : TypeId) (i : TypeInfo) (z : Value) (size bytes : Nat) (ht : P.underlying t = some (.slice e)) (hi : P.info? e = some i) (hz : i.zero = some z)
 (hsize : i.size = size) (hby : i.bytes = bytes) (hzs : z.cells.size = size) (hsz : 0 < size)
 (v : Value) (n : Nat) (xs : List Value) (hown : w.ownsRow base e size v n xs)
 (a : Addr) (m c : Nat) (hm : 0 < m) (news : List Value) (hl : news.length = m * size) (hnews : ∀ j u, news[j]? = some u -> w.cell? (a.add j) = some u) (h1 : ∀ u ∈ news, u.oneCell' = true)
 (h63 : n + m <= maxLen) (hbytes : (n + m) * bytes <= 140737488355328) (hbase : base <= w.heap.size) :
 ∃ v' w', (Builtin.append_ #[t, t] ty #[v, .slice (some a) m c]).run P w = .ok v' w' /\ w'.ownsRow base e size v' (n + m) (xs ++ news) /\ w.grownBy w' v.ownBlock /\ Grew w w' v v' n m := by
 obtain ⟨v', w', hr, h2, h3, h4⟩ := run_append_own (P := P) w base t ty e i z size bytes ht hi hz hsize hby hzs hsz v n xs hown a m c news hl hnews h1 h63 hbytes hbase
 refine ⟨v', w', hr, h2, h3, ?_⟩
 have hsmall : n + m <= 9223372036854775807 := by simp only [maxLen] at h63; omega
 subst hsize hby
 rcases hown.2 with ⟨rfl, rfl⟩ | ⟨g, cap, cur, rfl, hbg, hg, hnc, hcm, hcs, htake⟩
 ·have hr2 := run_append_nil (P := P) w t ty e i z ht hi hz a m c news hl hnews (by omega) (by omega) (by have hb := hbytes; simp only [Nat.zero_add] at hb; omega)
  rw [hr2] at hr
  cases hr
  exact ⟨.inr ⟨rfl, (by exact ⟨rfl, rfl, rfl, by simp, fun k hk _ => heap_alloc_old w.drew _ hk⟩)⟩⟩
 ·by_cases hroom : n + m <= cap
  ·have hfit : n * i.size + news.length <= cur.size := by rw [hl, hcs, <- Nat.add_mul]; exact Nat.mul_le_mul_right _ hroom
   have hr2 := run_append_room (P := P) w t ty e i ht hi g n cap cur hg a m c news hl hnews h1 hroom hfit
   rw [hr2] at hr
   cases hr
   exact ⟨.inl ⟨g, cap, rfl, rfl⟩⟩
  ·have holds : ∀ j u, xs[j]? = some u -> w.cell? ((⟨g, 0, none⟩ : Addr).add j) = some u := hown.cells (g := g) rfl
   have hr2 := run_append_grow (P := P) w t ty e i z ht hi hz ⟨g, 0, none⟩ n cap xs hown.1 holds a m c news hl hnews (by omega) (by omega) (growslice_fits (by omega) hbytes)
   rw [hr2] at hr
   cases hr
   exact ⟨.inr ⟨rfl, (by exact ⟨rfl, rfl, rfl, by simp, fun k hk _ => heap_alloc_old w.drew _ hk⟩)⟩⟩
theorem wpList_append_where {P : Program} {w : World} {ops : Array Oper} {rest : List Oper} {o : Oper} {a : Act} {Q : Exit -> Act -> World -> Prop} (hgd : o.guard = none) (s x : Operand) (t : TypeId)
 (ho : o.op = .call { callee := .builtin .append, args := #[s, x], argTypes := #[t, t] })
 (base : Nat) (e : TypeId) (i : TypeInfo) (z : Value) (size bytes : Nat) (ht : P.underlying t = some (.slice e)) (hi : P.info? e = some i) (hz : i.zero = some z)
 (hsize : i.size = size) (hby : i.bytes = bytes) (hzs : z.cells.size = size) (hsz : 0 < size)
 (v : Value) (n : Nat) (xs : List Value) (hs : a.eval s = v) (hown : w.ownsRow base e size v n xs)
 (ad : Addr) (m c : Nat) (hm : 0 < m) (news : List Value) (hx : a.eval x = .slice (some ad) m c) (hl : news.length = m * size) (hnews : ∀ j u, news[j]? = some u -> w.cell? (ad.add j) = some u) (h1 : ∀ u ∈ news, u.oneCell' = true)
 (h63 : n + m <= maxLen) (hbytes : (n + m) * bytes <= 140737488355328) (hbase : base <= w.heap.size)
 (h : ∀ v' w', w'.ownsRow base e size v' (n + m) (xs ++ news) -> w.grownBy w' v.ownBlock -> Grew w w' v v' n m -> wpList P ops Q rest (a.put o.dst v') w') : wpList P ops Q (o :: rest) a w :=
 wpList_plain hgd fun _ hK => by
  obtain ⟨v', w', hr, h2, h3, h4⟩ := run_append_where (P := P) (w := w) base t o.type e i z size bytes ht hi hz hsize hby hzs hsz v n xs hown ad m c hm news hl hnews h1 h63 hbytes hbase
  unfold Oper.wp execOp
  simp only [ho, resolve, invoke, builtin, Sem.run_bind, Sem.run_pure, Result.andThen_ok, List.map_toArray, List.map_cons, List.map_nil, hs, hx, hr]
  exact hK _ _ (h v' w' h2 h3 h4)
theorem grown_at {w w' : World} {b : Option Nat} (h : w.grownBy w' b) {k : Nat} (hk : k < w.heap.size) (hne : b ≠ some k) : w'.heap[k]? = w.heap[k]? := h.block k hk (Ne.symm hne)
theorem drew_heap (w : World) : w.drew.heap = w.heap := rfl
theorem own_slice {w : World} {B e s n xs} {v : Value} (h : w.ownsRow B e s v n xs) : ∃ a c, v = .slice a n c /\ n <= c /\ c <= 9223372036854775807 := by
 rcases h.2 with ⟨rfl, rfl⟩ | ⟨g, cap, cur, rfl, _, _, h1, h2, _⟩
 ·exact ⟨none, 0, rfl, by omega, by omega⟩
 ·exact ⟨_, cap, rfl, h1, h2⟩
theorem own_some {w : World} {B e s n xs} {v : Value} (h : w.ownsRow B e s v n xs) (hn : 0 < n) : ∃ g c, v = .slice (some ⟨g, 0, none⟩) n c /\ n <= c /\ c <= 9223372036854775807 /\ B <= g /\ g < w.heap.size := by
 rcases h.2 with ⟨rfl, rfl⟩ | ⟨g, cap, cur, rfl, hb, hg, h1, h2, _⟩
 ·omega
 ·exact ⟨g, cap, rfl, h1, h2, hb, (gl hg)⟩
theorem own_not {w : World} {B e s v n M} (h : w.ownsRow B e s v n M) {ub : Nat} {c : Array Value} {t : TypeId} {f : Nat × Nat} (hb : w.heap[ub]? = some (.cells c t f)) (hne : e ≠ t) : v.ownBlock ≠ some ub := by
 rcases h.2 with ⟨rfl, _⟩ | ⟨g, cap, cur, rfl, e2, e3, _⟩
 ·simp [Value.ownBlock]
 ·intro e
  simp [Value.ownBlock] at e
  subst e
  rw [hb] at e3
  cases e3
  exact hne rfl
theorem own_cell {w : World} {B g c n : Nat} {e : TypeId} {z : Nat} {M : List Value} (h : w.ownsRow B e z (.slice (some ⟨g, 0, none⟩) n c) n M) (q : Nat) (hq : q < n * z) : w.cell? ⟨g, q, none⟩ = M[q]? := by
 rcases h.2 with ⟨e, _⟩ | ⟨g', cap, cur, e, e2, e3, e4, e5, e6, e7⟩
 ·cases e
 ·cases e
  have hM := h.1
  have h1 : M[q]? = cur[q]? := by rw [<- e7, List.getElem?_take, if_pos hq]; simp
  have h2 : M[q]? = some (M[q]'(by omega)) := List.getElem?_eq_getElem _
  rw [h2] at h1 ⊢
  simp [World.cell?, e3, <- h1]
theorem own_fz {w : World} {B g c n : Nat} {e : TypeId} {z : Nat} {M : List Value} (h : w.ownsRow B e z (.slice (some ⟨g, 0, none⟩) n c) n M) (q : Nat) : w.frozen? ⟨g, q, none⟩ = false := by
 rcases h.2 with ⟨e, _⟩ | ⟨g', cap, cur, e, e2, e3, _⟩
 ·cases e
 ·cases e
  exact fz_of e3
theorem own_set {w : World} {B g c n : Nat} {e : TypeId} {z : Nat} {M : List Value} (h : w.ownsRow B e z (.slice (some ⟨g, 0, none⟩) n c) n M) (q : Nat) (hq : q < n * z) (u : Value) : (w.setCell ⟨g, q, none⟩ u).ownsRow B e z (.slice (some ⟨g, 0, none⟩) n c) n (M.set q u) := by
 rcases h.2 with ⟨e, _⟩ | ⟨g', cap, cur, e, e2, e3, e4, e5, e6, e7⟩
 ·cases e
 ·cases e
  refine ⟨by simpa using h.1, .inr ⟨g, c, cur.setIfInBounds q u, rfl, e2, heap_set_at e3, e4, e5, by simpa using e6, ?_⟩⟩
  rw [<- e7]
  simp [List.take_set]
theorem block_lt_of_cell {w : World} {a : Addr} {v : Value} (h : w.cell? a = some v) : a.block < w.heap.size := World.block_lt_of_cell? w a h
theorem cellA {w : World} {ob : Obj} {a : Addr} {v : Value} (h : w.cell? a = some v) : (w.alloc ob).cell? a = some v := by
 have hlt : a.block < w.heap.size := block_lt_of_cell h
 rw [World.cell?_of_block (w := w) (w' := w.alloc ob) (heap_alloc_old w ob hlt)]; exact h
theorem cellD {w : World} {a : Addr} {v : Value} (h : w.cell? a = some v) : w.drew.cell? a = some v := h
def ivs (L : List Int) : List Value := L.map (Value.int .i64)
theorem ivs_one (L : List Int) : ∀ u ∈ ivs L, u.oneCell' = true := by
 intro u hu
 simp [ivs] at hu
 obtain ⟨a, _, rfl⟩ := hu
 rfl
structure OwnI (w : World) (B : Nat) (v : Value) (n : Nat) (L : List Int) : Prop where
 len : n = L.length
 out : w.ownsRow B 3 1 v n (ivs L)
theorem OwnI.nil (w : World) (B : Nat) : OwnI w B (.slice none 0 0) 0 [] := ⟨rfl, World.ownsRow_nil _ _ _ _⟩
theorem OwnI.keep {w w' B v n L} (h : OwnI w B v n L) (hb : Below w.heap.size w w') : OwnI w' B v n L := ⟨h.len, own_keep h.out hb.block⟩
theorem info3i : (Tryz.prog.info? 3).map (fun i => (i.zero, i.size, i.bytes)) = some (some (.int .i64 0), 1, 8) := by kernel_rfl
theorem cell_one_newI (w : World) (a : Value) (t : TypeId) : ∀ j u, [a][j]? = some u -> (w.alloc (.cells #[a] t)).cell? ((⟨w.heap.size, 0, none⟩ : Addr).add j) = some u := by
 intro j u hj
 match j, hj with
 | 0, hj => simp at hj; subst hj; simp [Addr.add]
 | j + 1, hj => simp at hj
structure GI (B : Nat) (w0 w' : World) (v v' : Value) : Prop where
 bel : Below B w0 w'
 blk : ∀ g, g < w0.heap.size -> v.ownBlock ≠ some g -> w'.heap[g]? = w0.heap[g]?
 own : ∀ g, v'.ownBlock = some g -> v.ownBlock = some g \/ w0.heap.size <= g
theorem GI.size {B w0 w' v v'} (h : GI B w0 w' v v') : w0.heap.size <= w'.heap.size := h.bel.size
theorem OwnI.gi {B B' w0 w' v v' u m L} (h : OwnI w0 B' u m L) (g : GI B w0 w' v v') (hne : ∀ b, u.ownBlock = some b -> v.ownBlock ≠ some b) : OwnI w' B' u m L :=
 ⟨h.len, own_move h.out fun b hb => g.blk b (own_block h.out hb).2 (hne b hb)⟩
theorem OwnI.giA {B B' w0 w' v v' u m L} (h : OwnI w0 B' u m L) (g : GI B w0 w' v v') (hne : ∀ b, u.ownBlock = some b -> v.ownBlock ≠ some b) : ∀ b, u.ownBlock = some b -> v'.ownBlock ≠ some b := by
 intro b hb hv
 rcases g.own b hv with h1 | h1
 ·exact hne b hb h1
 ·have := (own_block h.out hb).2; omega
theorem OwnI.alloc0 {w B v n L} (h : OwnI w B v n L) (ob : Obj) : OwnI (w.alloc ob) B v n L := ⟨h.len, own_move h.out fun b hb => heap_alloc_old _ _ (own_block h.out hb).2⟩
theorem gi_of {w0 w' : World} {B : Nat} {ob : Obj} {v v' : Value} {n m : Nat} {e s xs} (hown : w0.ownsRow B e s v n xs) (hB : B <= w0.heap.size) (h2 : (w0.alloc ob).grownBy w' v.ownBlock) (h3 : Grew (w0.alloc ob) w' v v' n m) : GI B w0 w' v v' := by
 refine ⟨((Below.refl _ _).alloc hB _).grown h2 (by simp; omega) (fun k hk => (own_block hown hk).1), fun g h4 h5 => ?_, fun g hg => ?_⟩
 ·rw [grown_at h2 (by simp; omega) h5, heap_alloc_old _ _ h4]
 ·rcases h3.out with ⟨g', cap, e1, e2⟩ | ⟨e1, _⟩
  ·subst e1 e2; exact .inl hg
  ·rw [e1] at hg; cases hg; right; simp
theorem wpList_append_intG {w0 : World} {ops : Array Oper} {rest : List Oper} {op : Oper} {a : Act} {Q : Exit -> Act -> World -> Prop} (hgd : op.guard = none) (s x : Operand)
 (ho : op.op = .call { callee := .builtin .append, args := #[s, x], argTypes := #[27, 27] })
 (B : Nat) (v : Value) (n : Nat) (L : List Int) (y : Int) (hs : a.eval s = v) (hown : OwnI w0 B v n L) (hx : a.eval x = .slice (some ⟨w0.heap.size, 0, none⟩) 1 1)
 (hl : n + 1 <= 17592186044416) (hB : B <= w0.heap.size)
 (h : ∀ v' w', OwnI w' B v' (n + 1) (L ++ [y]) -> GI B w0 w' v v' -> wpList Tryz.prog ops Q rest (a.put op.dst v') w') : wpList Tryz.prog ops Q (op :: rest) a (w0.alloc (.cells #[.int .i64 y] 3)) := by
 obtain ⟨i0, hi, hz0, hz1, hz2⟩ := info_parts info3i
 refine wpList_append_where hgd s x 27 ho B 3 i0 (.int .i64 0) 1 8 Tryz.underlying27 hi hz0 hz1 hz2 rfl (by decide) v n (ivs L) hs (hown.out.alloc _) ⟨w0.heap.size, 0, none⟩ 1 1 (by omega) [.int .i64 y] hx rfl (cell_one_newI _ _ _) (fun u hu => by simp at hu; subst hu; rfl) (by unfold maxLen; omega) (by omega) (by simp; omega) ?_
 intro v' w' h1 h2 h3
 exact h v' w' ⟨by simp; exact hown.len, by simpa [ivs] using h1⟩ (gi_of hown.out hB h2 h3)
theorem step_append_intG {w : World} {ops : Array Oper} {op : Oper} {a : Act} {K : Act -> World -> Prop} {Q : Exit -> Act -> World -> Prop} {E : Prop} (hgd : op.guard = none) (s x : Operand)
 (ho : op.op = .call { callee := .builtin .append, args := #[s, x], argTypes := #[27, 27] })
 (B : Nat) (v : Value) (n : Nat) (L : List Int) (y : Int) (hs : a.eval s = v) (hown : OwnI w B v n L) (g : Nat) (hx : a.eval x = .slice (some ⟨g, 0, none⟩) 1 1) (hc : w.cell? ⟨g, 0, none⟩ = some (.int .i64 y))
 (hl : n + 1 <= 17592186044416) (hB : B <= w.heap.size)
 (h : ∀ v' w', OwnI w' B v' (n + 1) (L ++ [y]) -> GI B w w' v v' -> K (a.put op.dst v') w') : if Region.wanted op (yielded ops a.tmps) = true then Oper.wp Tryz.prog op a w K Q else E := by
 have hw : Region.wanted op (yielded ops a.tmps) = true := by simp [Region.wanted, hgd]
 rw [if_pos hw]
 obtain ⟨i0, hi, hz0, hz1, hz2⟩ := info_parts info3i
 obtain ⟨v', w', hr, h2, h3, h4⟩ := run_append_where (P := Tryz.prog) (w := w) B 27 op.type 3 i0 (.int .i64 0) 1 8 Tryz.underlying27 hi hz0 hz1 hz2 rfl (by decide) v n (ivs L) hown.out ⟨g, 0, none⟩ 1 1 (by omega) [.int .i64 y] rfl (fun j u hj => by
  match j, hj with
  | 0, hj => simp at hj; subst hj; simpa [Addr.add] using hc
  | j + 1, hj => simp at hj) (fun u hu => by simp at hu; subst hu; rfl) (by unfold maxLen; omega) (by omega) hB
 unfold Oper.wp execOp
 simp only [ho, resolve, invoke, builtin, Sem.run_bind, Sem.run_pure, Result.andThen_ok, List.map_toArray, List.map_cons, List.map_nil, hs, hx, hr]
 refine h v' w' ⟨by simp; exact hown.len, by simpa [ivs] using h2⟩ ⟨?_, fun b h5 h6 => grown_at h3 h5 h6, fun b hb => ?_⟩
 ·exact (Below.refl _ _).grown h3 hB (fun k hk => (own_block hown.out hk).1)
 ·rcases h4.out with ⟨g', cap, e1, e2⟩ | ⟨e1, _⟩
  ·subst e1 e2; exact .inl hb
  ·rw [e1] at hb; cases hb; right; exact Nat.le_refl _
end Go.Proofs.YtegoemeefmjnoaaGreatDoor
