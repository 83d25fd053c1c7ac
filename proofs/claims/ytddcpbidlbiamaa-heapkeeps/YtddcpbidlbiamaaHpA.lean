import Derived.Test.YtddcpbidlbiamaaRows
import Derived.WalkKit
import Derived.ProofKit
import Derived.WalkLawsBesides
import Derived.WalkSpells
import Derived.BigQuiet
import Derived.Below
import Derived.Maps.OwnSet
set_option linter.unusedVariables false
namespace Go.Proofs.Ytddcpbidlbiamaa
open Go.ChangeShapes Go.WideShapes Go.ChangeAt Go.RowKit Go.Maps

theorem law3 : Keyed Try.prog 3 := int_keyed Try.underlying3
theorem zero3 (w : World) : (zeroValue 3).run Try.prog w = .ok (.int .i64 0) w := by kernel_rfl

theorem cell_arr {w : World} {g i : Nat} {A : Array Value} {t : TypeId} {v : Value} (h : w.heap[g]? = some (.cells A t (0, 0))) (hv : A[i]? = some v) : w.cell? ⟨g, i, none⟩ = some v := by
  simp [World.cell?, h, hv]
theorem fz_of {w : World} {g i : Nat} {c : Array Value} {t : TypeId} (h : w.heap[g]? = some (.cells c t (0, 0))) : w.frozen? ⟨g, i, none⟩ = false := by simp [World.frozen?, h]
theorem heap_set_at {w : World} {g i : Nat} {c : Array Value} {t : TypeId} {f : Nat × Nat} {v : Value} (h : w.heap[g]? = some (.cells c t f)) : (w.setCell ⟨g, i, none⟩ v).heap[g]? = some (.cells (c.setIfInBounds i v) t f) := by
  simp [World.setCell, Array.getElem?_modify, h]
theorem heap_set_other {w : World} {g i k : Nat} {v : Value} (h : k ≠ g) : (w.setCell ⟨g, i, none⟩ v).heap[k]? = w.heap[k]? := by
  simp only [World.setCell, Array.getElem?_modify]
  rw [if_neg (by omega)]

/-- A number that an int can be. -/
def Fits (a : Int) : Prop := -9223372036854775808 ≤ a ∧ a ≤ 9223372036854775807
theorem Fits.wf {a : Int} (h : Fits a) : (Lit.int .i64 a).wf = true := by
  have h1 := h.1
  have h2 := h.2
  exact WalkArith.wf_i64 (by omega)

/-- But for the blocks of F, and new ones, all is as it was. -/
structure Only (F : Nat → Prop) (w w' : World) : Prop where
  os : w'.os = w.os
  tape : w'.tape = w.tape
  output : w'.output = w.output
  size : w.heap.size ≤ w'.heap.size
  block : ∀ k, k < w.heap.size → ¬ F k → w'.heap[k]? = w.heap[k]?
theorem Only.refl (F : Nat → Prop) (w : World) : Only F w w := ⟨rfl, rfl, rfl, Nat.le_refl _, fun _ _ _ => rfl⟩
theorem Only.trans {F F' : Nat → Prop} {a b c : World} (h : Only F a b) (k : Only F' b c) (hF : ∀ i, i < a.heap.size → F' i → F i) : Only F a c :=
  ⟨k.os.trans h.os, k.tape.trans h.tape, k.output.trans h.output, Nat.le_trans h.size k.size, fun i hi hn => (k.block i (Nat.lt_of_lt_of_le hi h.size) (fun hf => hn (hF i hi hf))).trans (h.block i hi hn)⟩
theorem Only.mono {F F' : Nat → Prop} {a b : World} (h : Only F a b) (hF : ∀ i, i < a.heap.size → F i → F' i) : Only F' a b :=
  ⟨h.os, h.tape, h.output, h.size, fun i hi hn => h.block i hi (fun hf => hn (hF i hi hf))⟩
theorem Only.of_grown {w w' : World} {r : Option Nat} (h : w.grownBy w' r) : Only (fun k => r = some k) w w' := ⟨h.os, h.tape, h.output, h.size, fun k hk hn => h.block k hk (fun e => hn e.symm)⟩
theorem Only.of_set (w : World) (a : Addr) (u : Value) : Only (fun k => k = a.block) w (w.setCell a u) := ⟨rfl, rfl, rfl, by simp [World.setCell], fun k hk hn => Below.heap_setCell _ _ _ _ hn⟩
theorem Only.of_below {w w' : World} (h : Below w.heap.size w w') (F : Nat → Prop) : Only F w w' := ⟨h.os, h.tape, h.output, h.size, fun k hk _ => h.block k hk⟩
theorem Only.below {F : Nat → Prop} {B : Nat} {w w' : World} (h : Only F w w') (hB : B ≤ w.heap.size) (hF : ∀ k, F k → B ≤ k) : Below B w w' := ⟨h.os, h.tape, h.output, h.size, fun k hk => h.block k (by omega) (fun hf => by have := hF k hf; omega)⟩

/-- The program's heap at block h, its maps at m and n: tk addresses are taken, ln tells the blocks, f the words; no map has more than c entries. -/
structure CH (w : World) (h m n : Nat) (tk : Int) (ln : Int → Option Int) (f : Int → Int) (c : Nat) : Prop where
  box : w.heap[h]? = some (.cells #[.map (some m), .map (some n), .int .i64 tk] 54 (0, 0))
  o1 : ∃ D, w.ownsMap Try.prog 3 (plainElem (H := Unit) Try.prog 3) m c D ∧ ∀ a, Fits a → Maps.has D (.int .i64 a) = (ln a).isSome ∧ D.atKey (.int .i64 a) (.lit (.int .i64 0)) = .lit (.int .i64 ((ln a).getD 0))
  o2 : ∃ E, w.ownsMap Try.prog 3 (plainElem (H := Unit) Try.prog 3) n c E ∧ ∀ a, Fits a → E.atKey (.int .i64 a) (.lit (.int .i64 0)) = .lit (.int .i64 (f a))
  ne : m ≠ n
  lim : 0 ≤ tk ∧ tk ≤ 4611686018427387904
  inn : ∀ a k, ln a = some k → 1 ≤ a ∧ 0 ≤ k ∧ a + k ≤ tk

theorem CH.hm {w h m n tk ln f c} (H : CH w h m n tk ln f c) : h ≠ m := by
  rintro rfl
  obtain ⟨D, ⟨es, cl, h1, _⟩, _⟩ := H.o1
  rw [H.box] at h1
  cases h1
theorem CH.hn {w h m n tk ln f c} (H : CH w h m n tk ln f c) : h ≠ n := by
  rintro rfl
  obtain ⟨D, ⟨es, cl, h1, _⟩, _⟩ := H.o2
  rw [H.box] at h1
  cases h1
/-- The heap's blocks. -/
def CF (h m n : Nat) (k : Nat) : Prop := k = h ∨ k = m ∨ k = n
theorem own_map_move {w w' : World} {b c : Nat} {D : DataW Unit} (h : w.ownsMap Try.prog 3 (plainElem Try.prog 3) b c D) (hk : w'.heap[b]? = w.heap[b]?) : w'.ownsMap Try.prog 3 (plainElem Try.prog 3) b c D := by
  obtain ⟨es, cl, h1, h2⟩ := h
  exact ⟨es, cl, hk.trans h1, h2⟩
theorem CH.move {w w' h m n tk ln f c} (H : CH w h m n tk ln f c) (hk : ∀ g, CF h m n g → w'.heap[g]? = w.heap[g]?) : CH w' h m n tk ln f c := by
  obtain ⟨D, d1, d2⟩ := H.o1
  obtain ⟨E, e1, e2⟩ := H.o2
  exact ⟨(hk h (.inl rfl)).trans H.box, ⟨D, own_map_move d1 (hk m (.inr (.inl rfl))), d2⟩, ⟨E, own_map_move e1 (hk n (.inr (.inr rfl))), e2⟩, H.ne, H.lim, H.inn⟩
theorem CH.lt {w h m n tk ln f c} (H : CH w h m n tk ln f c) : ∀ g, CF h m n g → g < w.heap.size := by
  obtain ⟨D, d1, d2⟩ := H.o1
  obtain ⟨E, e1, e2⟩ := H.o2
  rintro g (rfl | rfl | rfl)
  · exact (Array.getElem?_eq_some_iff.1 H.box).1
  · exact d1.lt
  · exact e1.lt
theorem CH.mono {w h m n tk ln f c c'} (H : CH w h m n tk ln f c) (hc : c ≤ c') : CH w h m n tk ln f c' := by
  obtain ⟨D, d1, d2⟩ := H.o1
  obtain ⟨E, e1, e2⟩ := H.o2
  exact ⟨H.box, ⟨D, d1.mono hc, d2⟩, ⟨E, e1.mono hc, e2⟩, H.ne, H.lim, H.inn⟩

def upd {α : Type} (f : Int → α) (x : Int) (v : α) : Int → α := fun y => if y = x then v else f y
theorem key_ne {a b : Int} (h : a ≠ b) : (Lit.int .i64 a) ≠ (Lit.int .i64 b) := fun e => h (by cases e; rfl)

set_option maxRecDepth 100000 in
theorem new_any (w : World) : Calls Try.prog 13 #[] w fun e w' => e = .returned (.pointer (some ⟨w.heap.size + 1 + 1, 0, none⟩)) ∧ CH w' (w.heap.size + 1 + 1) w.heap.size (w.heap.size + 1) 0 (fun _ => none) (fun _ => 0) 0 ∧ Below w.heap.size w w' ∧ w'.heap.size = w.heap.size + 1 + 1 + 1 := by
  have hmm := @run_makeMap Try.prog
  go_enter Try.func13, Try.ntmps13
  go_wp2
  go_ret
  refine ⟨rfl, ⟨?_, ⟨_, ((World.ownsMap_made w _ _ _).alloc _).alloc _, fun a _ => ?_⟩, ⟨_, by simpa using (World.ownsMap_made (w.alloc (.map #[] 0)) _ _ _).alloc _, fun a _ => ?_⟩, by omega, by omega, by simp⟩, ?_, by simp⟩
  · simpa using heap_alloc_new ((w.alloc (.map #[] 0)).alloc (.map #[] 0)) _
  · exact ⟨rfl, rfl⟩
  · rfl
  · exact (((Below.refl _ _).alloc (Nat.le_refl _) _).alloc (by simp) _).alloc (by simp; omega) _

theorem words_any (w : World) {h m n tk ln f c} (H : CH w h m n tk ln f c) : Calls Try.prog 19 #[.pointer (some ⟨h, 0, none⟩)] w fun e w' => e = .returned (.int .i64 tk) ∧ w' = w := by
  have c2 := cell_arr (i := 2) H.box rfl
  clear H
  go_enter Try.func19, Try.ntmps19
  go_wp2
  go_ret
  exact ⟨rfl, rfl⟩

theorem len_zero (w : World) (h : Nat) : Calls Try.prog 17 #[.pointer (some ⟨h, 0, none⟩), .int .i64 0] w fun e w' => e = .returned (.tuple #[.int .i64 0, .bool true]) ∧ w' = w := by
  go_enter Try.func17, Try.ntmps17
  go_wp2
  go_ret2
  exact ⟨rfl, rfl⟩

theorem len_any (w : World) {h m n tk ln f c} (H : CH w h m n tk ln f c) (a : Int) (ha : Fits a) (h0 : ¬ a = 0) : Calls Try.prog 17 #[.pointer (some ⟨h, 0, none⟩), .int .i64 a] w fun e w' => e = .returned (.tuple #[.int .i64 ((ln a).getD 0), .bool (ln a).isSome]) ∧ w' = w := by
  have c0 := cell_arr (i := 0) H.box rfl
  obtain ⟨D, d1, d2⟩ := H.o1
  obtain ⟨g1, g2⟩ := d2 a ha
  have hkey := keyOf_int_mk Try.underlying3 ha.wf
  rw [← g1]
  have g2' : Hid (D.atKey (.int .i64 a) (.lit (.int .i64 0)) = .lit (.int .i64 ((ln a).getD 0))) := g2
  generalize (ln a).getD 0 = r at g2'
  clear g1 g2 d2 H
  go_enter Try.func17, Try.ntmps17
  go_wp2_with (first
    | (at_lookup; refine wpList_lookup_own_ok_int _ rfl _ _ 52 rfl 3 3 .i64 law3 Try.underlying52 Try.underlying3 (zero3 _) m c D rfl d1 _ _ rfl hkey ?_; intro x hat hwc
       obtain rfl : x = r := by (have e := hat.symm.trans g2'.out; cases e; rfl))
    | go_in)
  go_ret2
  exact ⟨rfl, rfl⟩
end Go.Proofs.Ytddcpbidlbiamaa
