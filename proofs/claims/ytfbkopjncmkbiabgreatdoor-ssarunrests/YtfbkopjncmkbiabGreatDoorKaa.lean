import Derived.Test.YtfbkopjncmkbiabGreatDoorRows
import Derived.WalkKit
import Derived.ProofKit
import Derived.WalkLawsBesides
import Derived.WalkSpells
import Derived.BigQuiet
import Derived.Below
import Derived.Maps.OwnSet
import Derived.Deep.RegionHeldLaw
import Derived.OwnWalk
import Derived.Laws.OwnMore
import Derived.Lib.AppendStr
import Derived.Deep.LoopGhost
import Derived.WalkMore
set_option linter.unusedVariables false
set_option maxRecDepth 10000
set_option linter.unusedSimpArgs false
namespace Go.Proofs.YtfbkopjncmkbiabGreatDoor
open Go.ChangeShapes Go.WideShapes Go.ChangeAt Go.RowKit Go.Maps
theorem gl {α : Type} {xs : Array α} {i : Nat} {a : α} (h : xs[i]? = some a) : i < xs.size := (Array.getElem?_eq_some_iff.1 h).1
theorem law3 : Keyed Tryz.prog 3 := int_keyed Tryz.underlying3
theorem zero3 (w : World) : (zeroValue 3).run Tryz.prog w = .ok (.int .i64 0) w := by kernel_rfl
theorem cell_arr {w : World} {g i : Nat} {A : Array Value} {t : TypeId} {v : Value} (h : w.heap[g]? = some (.cells A t (0, 0))) (hv : A[i]? = some v) : w.cell? ⟨g, i, none⟩ = some v := by
 simp [World.cell?, h, hv]
theorem fz_of {w : World} {g i : Nat} {c : Array Value} {t : TypeId} (h : w.heap[g]? = some (.cells c t (0, 0))) : w.frozen? ⟨g, i, none⟩ = false := by simp [World.frozen?, h]
theorem heap_set_at {w : World} {g i : Nat} {c : Array Value} {t : TypeId} {f : Nat × Nat} {v : Value} (h : w.heap[g]? = some (.cells c t f)) : (w.setCell ⟨g, i, none⟩ v).heap[g]? = some (.cells (c.setIfInBounds i v) t f) := by
 simp [World.setCell, Array.getElem?_modify, h]
theorem heap_set_other {w : World} {g i k : Nat} {v : Value} (h : k ≠ g) : (w.setCell ⟨g, i, none⟩ v).heap[k]? = w.heap[k]? := by
 simp only [World.setCell, Array.getElem?_modify]
 rw [if_neg (by omega)]
def Fits (a : Int) : Prop := -9223372036854775808 <= a /\ a <= 9223372036854775807
theorem Fits.wf {a : Int} (h : Fits a) : (Lit.int .i64 a).wf = true := by
 have h1 := h.1
 have h2 := h.2
 exact WalkArith.wf_i64 (by omega)
structure Only (F : Nat -> Prop) (w w' : World) : Prop where
 os : w'.os = w.os
 tape : w'.tape = w.tape
 output : w'.output = w.output
 size : w.heap.size <= w'.heap.size
 block : ∀ k, k < w.heap.size -> ¬ F k -> w'.heap[k]? = w.heap[k]?
theorem Only.refl (F : Nat -> Prop) (w : World) : Only F w w := ⟨rfl, rfl, rfl, Nat.le_refl _, fun _ _ _ => rfl⟩
theorem Only.trans {F F' : Nat -> Prop} {a b c : World} (h : Only F a b) (k : Only F' b c) (hF : ∀ i, i < a.heap.size -> F' i -> F i) : Only F a c :=
 ⟨k.os.trans h.os, k.tape.trans h.tape, k.output.trans h.output, Nat.le_trans h.size k.size, fun i hi hn => (k.block i (Nat.lt_of_lt_of_le hi h.size) (fun hf => hn (hF i hi hf))).trans (h.block i hi hn)⟩
theorem Only.mono {F F' : Nat -> Prop} {a b : World} (h : Only F a b) (hF : ∀ i, i < a.heap.size -> F i -> F' i) : Only F' a b :=
 ⟨h.os, h.tape, h.output, h.size, fun i hi hn => h.block i hi (fun hf => hn (hF i hi hf))⟩
theorem Only.of_set (w : World) (a : Addr) (u : Value) : Only (fun k => k = a.block) w (w.setCell a u) := ⟨rfl, rfl, rfl, by simp [World.setCell], fun k hk hn => Below.heap_setCell _ _ _ _ hn⟩
theorem Only.of_below {w w' : World} (h : Below w.heap.size w w') (F : Nat -> Prop) : Only F w w' := ⟨h.os, h.tape, h.output, h.size, fun k hk _ => h.block k hk⟩
theorem Only.below {F : Nat -> Prop} {B : Nat} {w w' : World} (h : Only F w w') (hB : B <= w.heap.size) (hF : ∀ k, F k -> B <= k) : Below B w w' := ⟨h.os, h.tape, h.output, h.size, fun k hk => h.block k (by omega) (fun hf => by have := hF k hf; omega)⟩
structure CH (w : World) (h m n : Nat) (tk : Int) (ln : Int -> Option Int) (f : Int -> Int) (c : Nat) : Prop where
 box : w.heap[h]? = some (.cells #[.map (some m), .map (some n), .int .i64 tk] 84 (0, 0))
 o1 : ∃ D, w.ownsMap Tryz.prog 3 (plainElem (H := Unit) Tryz.prog 3) m c D /\ ∀ a, Fits a -> Maps.has D (.int .i64 a) = (ln a).isSome /\ D.atKey (.int .i64 a) (.lit (.int .i64 0)) = .lit (.int .i64 ((ln a).getD 0))
 o2 : ∃ E, w.ownsMap Tryz.prog 3 (plainElem (H := Unit) Tryz.prog 3) n c E /\ ∀ a, Fits a -> E.atKey (.int .i64 a) (.lit (.int .i64 0)) = .lit (.int .i64 (f a))
 ne : m ≠ n
 lim : 0 <= tk /\ tk <= 4611686018427387904
 inn : ∀ a k, ln a = some k -> 1 <= a /\ 0 <= k /\ a + k <= tk
theorem CH.hm {w h m n tk ln f c} (H : CH w h m n tk ln f c) : h ≠ m := by
 rintro rfl
 obtain ⟨D, ⟨es, cl, h1, _⟩, _⟩ := H.o1
 rw [H.box] at h1
 cases h1
theorem CH.hn {w h m n tk ln f c} (H : CH w h m n tk ln f c) : h ≠ n := by
 rintro rfl
 obtain ⟨D, ⟨es, cl, h1, _⟩, _⟩ := H.o2
 rw [H.box] at h1
 cases h1
def CF (h m n : Nat) (k : Nat) : Prop := k = h \/ k = m \/ k = n
theorem own_map_move {w w' : World} {b c : Nat} {D : DataW Unit} (h : w.ownsMap Tryz.prog 3 (plainElem Tryz.prog 3) b c D) (hk : w'.heap[b]? = w.heap[b]?) : w'.ownsMap Tryz.prog 3 (plainElem Tryz.prog 3) b c D := by
 obtain ⟨es, cl, h1, h2⟩ := h
 exact ⟨es, cl, hk.trans h1, h2⟩
theorem CH.move {w w' h m n tk ln f c} (H : CH w h m n tk ln f c) (hk : ∀ g, CF h m n g -> w'.heap[g]? = w.heap[g]?) : CH w' h m n tk ln f c := by
 obtain ⟨D, d1, d2⟩ := H.o1
 obtain ⟨E, e1, e2⟩ := H.o2
 exact ⟨(hk h (.inl rfl)).trans H.box, ⟨D, own_map_move d1 (hk m (.inr (.inl rfl))), d2⟩, ⟨E, own_map_move e1 (hk n (.inr (.inr rfl))), e2⟩, H.ne, H.lim, H.inn⟩
theorem CH.lt {w h m n tk ln f c} (H : CH w h m n tk ln f c) : ∀ g, CF h m n g -> g < w.heap.size := by
 obtain ⟨D, d1, d2⟩ := H.o1
 obtain ⟨E, e1, e2⟩ := H.o2
 rintro g (rfl | rfl | rfl)
 ·exact (gl H.box)
 ·exact d1.lt
 ·exact e1.lt
theorem CH.mono {w h m n tk ln f c c'} (H : CH w h m n tk ln f c) (hc : c <= c') : CH w h m n tk ln f c' := by
 obtain ⟨D, d1, d2⟩ := H.o1
 obtain ⟨E, e1, e2⟩ := H.o2
 exact ⟨H.box, ⟨D, d1.mono hc, d2⟩, ⟨E, e1.mono hc, e2⟩, H.ne, H.lim, H.inn⟩
def upd {α : Type} (f : Int -> α) (x : Int) (v : α) : Int -> α := fun y => if y = x then v else f y
theorem key_ne {a b : Int} (h : a ≠ b) : (Lit.int .i64 a) ≠ (Lit.int .i64 b) := fun e => h (by cases e; rfl)
set_option maxRecDepth 100000 in
theorem new_any (w : World) : Calls Tryz.prog 15 #[] w fun e w' => e = .returned (.pointer (some ⟨w.heap.size + 1 + 1, 0, none⟩)) /\ CH w' (w.heap.size + 1 + 1) w.heap.size (w.heap.size + 1) 0 (fun _ => none) (fun _ => 0) 0 /\ Below w.heap.size w w' /\ w'.heap.size = w.heap.size + 1 + 1 + 1 := by
 have hmm := @run_makeMap Tryz.prog
 go_enter Tryz.func15, Tryz.ntmps15
 go_wp2
 go_ret
 refine ⟨rfl, ⟨?_, ⟨_, ((World.ownsMap_made w _ _ _).alloc _).alloc _, fun a _ => ?_⟩, ⟨_, by simpa using (World.ownsMap_made (w.alloc (.map #[] 0)) _ _ _).alloc _, fun a _ => ?_⟩, by omega, by omega, by simp⟩, ?_, by simp⟩
 ·simpa using heap_alloc_new ((w.alloc (.map #[] 0)).alloc (.map #[] 0)) _
 ·exact ⟨rfl, rfl⟩
 ·rfl
 ·exact (((Below.refl _ _).alloc (Nat.le_refl _) _).alloc (by simp) _).alloc (by simp; omega) _
def inB (ln : Int -> Option Int) (a i : Int) : Prop := 0 <= i /\ i < (ln a).getD 0
theorem CH.at {w h m n tk ln f c} (H : CH w h m n tk ln f c) {a i : Int} (hin : inB ln a i) : 1 <= a /\ 0 <= i /\ a + 1 + i <= 4611686018427387904 := by
 obtain ⟨h1, h2⟩ := hin
 cases e : ln a with
 | none => rw [e] at h2; simp at h2; omega
 | some k =>
   rw [e] at h2
   simp at h2
   have := H.inn a k e
   have := H.lim
   omega
theorem zp (a : Act) (d : Nat) (v : Value) : a.put (some d) v = { a with tmps := a.tmps.setIfInBounds d v } := rfl
theorem zn (a : Act) (v : Value) : a.put none v = a := rfl
theorem zi {l : List Value} {i : Nat} {a : Value} : l.toArray.setIfInBounds i a = (l.set i a).toArray := by rw [List.setIfInBounds_toArray]
theorem zz {a x : Value} {l : List Value} : (x :: l).set 0 a = a :: l := rfl
theorem zs {n : Nat} {a x : Value} {l : List Value} : (x :: l).set (n + 1) a = x :: l.set n a := rfl
end Go.Proofs.YtfbkopjncmkbiabGreatDoor
namespace Go.Proofs.YtfbkopjncmkbiabGreatDoor
open Go.ChangeShapes Go.WideShapes Go.ChangeAt Go.RowKit
theorem own_keep {w w' : World} {B e s v n xs} (h : w.ownsRow B e s v n xs) (hk : ∀ g, g < w.heap.size -> w'.heap[g]? = w.heap[g]?) : w'.ownsRow B e s v n xs := by
 refine ⟨h.1, h.2.imp id ?_⟩
 rintro ⟨g, cap, cur, e1, e2, e3, e4⟩
 have hlt : g < w.heap.size := (gl e3)
 exact ⟨g, cap, cur, e1, e2, (hk g hlt).trans e3, e4⟩
theorem own_block {w : World} {B e s v n xs} (h : w.ownsRow B e s v n xs) {g : Nat} (hg : v.ownBlock = some g) : B <= g /\ g < w.heap.size := by
 rcases h.2 with ⟨rfl, _⟩ | ⟨g', cap, cur, rfl, e2, e3, e4⟩
 ·simp [Value.ownBlock] at hg
 ·simp [Value.ownBlock] at hg
  subst hg
  exact ⟨e2, (gl e3)⟩
theorem own_grown {w w' : World} {B e s n xs} {v : Value} {row : Option Nat} (h : w.ownsRow B e s v n xs) (hg : w.grownBy w' row) (hne : ∀ g, v.ownBlock = some g -> row ≠ some g) : w'.ownsRow B e s v n xs := by
 refine ⟨h.1, h.2.imp id ?_⟩
 rintro ⟨g, cap, cur, e1, e2, e3, e4⟩
 have hlt : g < w.heap.size := (gl e3)
 exact ⟨g, cap, cur, e1, e2, (hg.block g hlt (fun e => hne g (by rw [e1]; rfl) e.symm)).trans e3, e4⟩
theorem own_apart {w : World} {B1 B2 e1 e2 s1 s2 n1 n2 x1 x2} {v1 v2 : Value} (h1 : w.ownsRow B1 e1 s1 v1 n1 x1) (h2 : w.ownsRow B2 e2 s2 v2 n2 x2) (hne : e1 ≠ e2) : ∀ g, v1.ownBlock = some g -> v2.ownBlock ≠ some g := by
 intro g hg1 hg2
 rcases h1.2 with ⟨rfl, _⟩ | ⟨g1, _, _, rfl, _, e3, _⟩
 ·simp [Value.ownBlock] at hg1
 ·rcases h2.2 with ⟨rfl, _⟩ | ⟨g2, _, _, rfl, _, e4, _⟩
  ·simp [Value.ownBlock] at hg2
  ·simp [Value.ownBlock] at hg1 hg2
   subst hg1 hg2
   rw [e3] at e4
   simp at e4
   exact hne e4.2
theorem own_move {w w' : World} {B e s n xs} {v : Value} (h : w.ownsRow B e s v n xs) (hk : ∀ g, v.ownBlock = some g -> w'.heap[g]? = w.heap[g]?) : w'.ownsRow B e s v n xs := by
 refine ⟨h.1, h.2.imp id ?_⟩
 rintro ⟨g, cap, cur, e1, e2, e3, e4⟩
 exact ⟨g, cap, cur, e1, e2, (hk g (by rw [e1]; rfl)).trans e3, e4⟩
structure Grew (w w' : World) (v v' : Value) (n m : Nat) : Prop where
 out : (∃ g cap, v = .slice (some ⟨g, 0, none⟩) n cap /\ v' = .slice (some ⟨g, 0, none⟩) (n + m) cap) \/ (v'.ownBlock = some w.heap.size /\ w.grownBy w' none)
theorem run_append_where {P : Program} {w : World} (base : Nat) (t ty e : TypeId) (i : TypeInfo) (z : Value) (size bytes : Nat) (ht : P.underlying t = some (.slice e)) (hi : P.info? e = some i) (hz : i.zero = some z)
 (hsize : i.size = size) (hby : i.bytes = bytes) (hzs : z.cells.size = size) (hsz : 0 < size)
 (v : Value) (n : Nat) (xs : List Value) (hown : w.ownsRow base e size v n xs)
 (a : Addr) (m c : Nat) (hm : 0 < m) (news : List Value) (hl : news.length = m * size) (hnews : ∀ j u, news[j]? = some u -> w.cell? (a.add j) = some u) (h1 : ∀ u ∈ news, u.oneCell' = true)
 (h63 : n + m <= maxLen) (hbytes : (n + m) * bytes <= 140737488355328) (hbase : base <= w.heap.size) :
 ∃ v' w', (Builtin.append_ #[t, t] ty #[v, .slice (some a) m c]).run P w = .ok v' w' /\ w'.ownsRow base e size v' (n + m) (xs ++ news) /\ w.grownBy w' v.ownBlock /\ Grew w w' v v' n m := by
 obtain ⟨v', w', hr, h2, h3, h4⟩ := run_append_own (P := P) w base t ty e i z size bytes ht hi hz hsize hby hzs hsz v n xs hown a m c news hl hnews h1 h63 hbytes hbase
 refine ⟨v', w', hr, h2, h3, ?_⟩
 have hsmall : n + m <= 9223372036854775807 := by simp only [maxLen] at h63; omega
 subst hsize hby
 rcases hown.2 with ⟨rfl, rfl⟩ | ⟨g, cap, cur, rfl, hbg, hg, hnc, hcm, hcs, htake⟩
 ·have hr2 := run_append_nil (P := P) w t ty e i z ht hi hz a m c news hl hnews (by omega) (by omega) (by have hb := hbytes; simp only [Nat.zero_add] at hb; omega)
  rw [hr2] at hr
  cases hr
  exact ⟨.inr ⟨rfl, (by exact ⟨rfl, rfl, rfl, by simp, fun k hk _ => heap_alloc_old w.drew _ hk⟩)⟩⟩
 ·by_cases hroom : n + m <= cap
  ·have hfit : n * i.size + news.length <= cur.size := by rw [hl, hcs, <- Nat.add_mul]; exact Nat.mul_le_mul_right _ hroom
   have hr2 := run_append_room (P := P) w t ty e i ht hi g n cap cur hg a m c news hl hnews h1 hroom hfit
   rw [hr2] at hr
   cases hr
   exact ⟨.inl ⟨g, cap, rfl, rfl⟩⟩
  ·have holds : ∀ j u, xs[j]? = some u -> w.cell? ((⟨g, 0, none⟩ : Addr).add j) = some u := hown.cells (g := g) rfl
   have hr2 := run_append_grow (P := P) w t ty e i z ht hi hz ⟨g, 0, none⟩ n cap xs hown.1 holds a m c news hl hnews (by omega) (by omega) (growslice_fits (by omega) hbytes)
   rw [hr2] at hr
   cases hr
   exact ⟨.inr ⟨rfl, (by exact ⟨rfl, rfl, rfl, by simp, fun k hk _ => heap_alloc_old w.drew _ hk⟩)⟩⟩
theorem wpList_append_where {P : Program} {w : World} {ops : Array Oper} {rest : List Oper} {o : Oper} {a : Act} {Q : Exit -> Act -> World -> Prop} (hgd : o.guard = none) (s x : Operand) (t : TypeId)
 (ho : o.op = .call { callee := .builtin .append, args := #[s, x], argTypes := #[t, t] })
 (base : Nat) (e : TypeId) (i : TypeInfo) (z : Value) (size bytes : Nat) (ht : P.underlying t = some (.slice e)) (hi : P.info? e = some i) (hz : i.zero = some z)
 (hsize : i.size = size) (hby : i.bytes = bytes) (hzs : z.cells.size = size) (hsz : 0 < size)
 (v : Value) (n : Nat) (xs : List Value) (hs : a.eval s = v) (hown : w.ownsRow base e size v n xs)
 (ad : Addr) (m c : Nat) (hm : 0 < m) (news : List Value) (hx : a.eval x = .slice (some ad) m c) (hl : news.length = m * size) (hnews : ∀ j u, news[j]? = some u -> w.cell? (ad.add j) = some u) (h1 : ∀ u ∈ news, u.oneCell' = true)
 (h63 : n + m <= maxLen) (hbytes : (n + m) * bytes <= 140737488355328) (hbase : base <= w.heap.size)
 (h : ∀ v' w', w'.ownsRow base e size v' (n + m) (xs ++ news) -> w.grownBy w' v.ownBlock -> Grew w w' v v' n m -> wpList P ops Q rest (a.put o.dst v') w') : wpList P ops Q (o :: rest) a w :=
 wpList_plain hgd fun _ hK => by
  obtain ⟨v', w', hr, h2, h3, h4⟩ := run_append_where (P := P) (w := w) base t o.type e i z size bytes ht hi hz hsize hby hzs hsz v n xs hown ad m c hm news hl hnews h1 h63 hbytes hbase
  unfold Oper.wp execOp
  simp only [ho, resolve, invoke, builtin, Sem.run_bind, Sem.run_pure, Result.andThen_ok, List.map_toArray, List.map_cons, List.map_nil, hs, hx, hr]
  exact hK _ _ (h v' w' h2 h3 h4)
theorem grown_at {w w' : World} {b : Option Nat} (h : w.grownBy w' b) {k : Nat} (hk : k < w.heap.size) (hne : b ≠ some k) : w'.heap[k]? = w.heap[k]? := h.block k hk (Ne.symm hne)
theorem own_slice {w : World} {B e s n xs} {v : Value} (h : w.ownsRow B e s v n xs) : ∃ a c, v = .slice a n c /\ n <= c /\ c <= 9223372036854775807 := by
 rcases h.2 with ⟨rfl, rfl⟩ | ⟨g, cap, cur, rfl, _, _, h1, h2, _⟩
 ·exact ⟨none, 0, rfl, by omega, by omega⟩
 ·exact ⟨_, cap, rfl, h1, h2⟩
theorem own_some {w : World} {B e s n xs} {v : Value} (h : w.ownsRow B e s v n xs) (hn : 0 < n) : ∃ g c, v = .slice (some ⟨g, 0, none⟩) n c /\ n <= c /\ c <= 9223372036854775807 /\ B <= g /\ g < w.heap.size := by
 rcases h.2 with ⟨rfl, rfl⟩ | ⟨g, cap, cur, rfl, hb, hg, h1, h2, _⟩
 ·omega
 ·exact ⟨g, cap, rfl, h1, h2, hb, (gl hg)⟩
theorem own_not {w : World} {B e s v n M} (h : w.ownsRow B e s v n M) {ub : Nat} {c : Array Value} {t : TypeId} {f : Nat × Nat} (hb : w.heap[ub]? = some (.cells c t f)) (hne : e ≠ t) : v.ownBlock ≠ some ub := by
 rcases h.2 with ⟨rfl, _⟩ | ⟨g, cap, cur, rfl, e2, e3, _⟩
 ·simp [Value.ownBlock]
 ·intro e
  simp [Value.ownBlock] at e
  subst e
  rw [hb] at e3
  cases e3
  exact hne rfl
theorem own_cell {w : World} {B g c n : Nat} {e : TypeId} {z : Nat} {M : List Value} (h : w.ownsRow B e z (.slice (some ⟨g, 0, none⟩) n c) n M) (q : Nat) (hq : q < n * z) : w.cell? ⟨g, q, none⟩ = M[q]? := by
 rcases h.2 with ⟨e, _⟩ | ⟨g', cap, cur, e, e2, e3, e4, e5, e6, e7⟩
 ·cases e
 ·cases e
  have hM := h.1
  have h1 : M[q]? = cur[q]? := by rw [<- e7, List.getElem?_take, if_pos hq]; simp
  have h2 : M[q]? = some (M[q]'(by omega)) := List.getElem?_eq_getElem _
  rw [h2] at h1 ⊢
  simp [World.cell?, e3, <- h1]
theorem own_fz {w : World} {B g c n : Nat} {e : TypeId} {z : Nat} {M : List Value} (h : w.ownsRow B e z (.slice (some ⟨g, 0, none⟩) n c) n M) (q : Nat) : w.frozen? ⟨g, q, none⟩ = false := by
 rcases h.2 with ⟨e, _⟩ | ⟨g', cap, cur, e, e2, e3, _⟩
 ·cases e
 ·cases e
  exact fz_of e3
theorem own_set {w : World} {B g c n : Nat} {e : TypeId} {z : Nat} {M : List Value} (h : w.ownsRow B e z (.slice (some ⟨g, 0, none⟩) n c) n M) (q : Nat) (hq : q < n * z) (u : Value) : (w.setCell ⟨g, q, none⟩ u).ownsRow B e z (.slice (some ⟨g, 0, none⟩) n c) n (M.set q u) := by
 rcases h.2 with ⟨e, _⟩ | ⟨g', cap, cur, e, e2, e3, e4, e5, e6, e7⟩
 ·cases e
 ·cases e
  refine ⟨by simpa using h.1, .inr ⟨g, c, cur.setIfInBounds q u, rfl, e2, heap_set_at e3, e4, e5, by simpa using e6, ?_⟩⟩
  rw [<- e7]
  simp [List.take_set]
theorem block_lt_of_cell {w : World} {a : Addr} {v : Value} (h : w.cell? a = some v) : a.block < w.heap.size := World.block_lt_of_cell? w a h
theorem cellA {w : World} {ob : Obj} {a : Addr} {v : Value} (h : w.cell? a = some v) : (w.alloc ob).cell? a = some v := by
 have hlt : a.block < w.heap.size := block_lt_of_cell h
 rw [World.cell?_of_block (w := w) (w' := w.alloc ob) (heap_alloc_old w ob hlt)]; exact h
theorem cellD {w : World} {a : Addr} {v : Value} (h : w.cell? a = some v) : w.drew.cell? a = some v := h
def ivs (L : List Int) : List Value := L.map (Value.int .i64)
theorem ivs_one (L : List Int) : ∀ u ∈ ivs L, u.oneCell' = true := by
 intro u hu
 simp [ivs] at hu
 obtain ⟨a, _, rfl⟩ := hu
 rfl
structure OwnI (w : World) (B : Nat) (v : Value) (n : Nat) (L : List Int) : Prop where
 len : n = L.length
 out : w.ownsRow B 3 1 v n (ivs L)
theorem OwnI.nil (w : World) (B : Nat) : OwnI w B (.slice none 0 0) 0 [] := ⟨rfl, World.ownsRow_nil _ _ _ _⟩
theorem OwnI.keep {w w' B v n L} (h : OwnI w B v n L) (hb : Below w.heap.size w w') : OwnI w' B v n L := ⟨h.len, own_keep h.out hb.block⟩
theorem info3i : (Tryz.prog.info? 3).map (fun i => (i.zero, i.size, i.bytes)) = some (some (.int .i64 0), 1, 8) := by kernel_rfl
theorem cell_one_newI (w : World) (a : Value) (t : TypeId) : ∀ j u, [a][j]? = some u -> (w.alloc (.cells #[a] t)).cell? ((⟨w.heap.size, 0, none⟩ : Addr).add j) = some u := by
 intro j u hj
 match j, hj with
 | 0, hj => simp at hj; subst hj; simp [Addr.add]
 | j + 1, hj => simp at hj
structure GI (B : Nat) (w0 w' : World) (v v' : Value) : Prop where
 bel : Below B w0 w'
 blk : ∀ g, g < w0.heap.size -> v.ownBlock ≠ some g -> w'.heap[g]? = w0.heap[g]?
 own : ∀ g, v'.ownBlock = some g -> v.ownBlock = some g \/ w0.heap.size <= g
theorem GI.size {B w0 w' v v'} (h : GI B w0 w' v v') : w0.heap.size <= w'.heap.size := h.bel.size
theorem OwnI.gi {B B' w0 w' v v' u m L} (h : OwnI w0 B' u m L) (g : GI B w0 w' v v') (hne : ∀ b, u.ownBlock = some b -> v.ownBlock ≠ some b) : OwnI w' B' u m L :=
 ⟨h.len, own_move h.out fun b hb => g.blk b (own_block h.out hb).2 (hne b hb)⟩
theorem OwnI.giA {B B' w0 w' v v' u m L} (h : OwnI w0 B' u m L) (g : GI B w0 w' v v') (hne : ∀ b, u.ownBlock = some b -> v.ownBlock ≠ some b) : ∀ b, u.ownBlock = some b -> v'.ownBlock ≠ some b := by
 intro b hb hv
 rcases g.own b hv with h1 | h1
 ·exact hne b hb h1
 ·have := (own_block h.out hb).2; omega
theorem OwnI.alloc0 {w B v n L} (h : OwnI w B v n L) (ob : Obj) : OwnI (w.alloc ob) B v n L := ⟨h.len, own_move h.out fun b hb => heap_alloc_old _ _ (own_block h.out hb).2⟩
theorem gi_of {w0 w' : World} {B : Nat} {ob : Obj} {v v' : Value} {n m : Nat} {e s xs} (hown : w0.ownsRow B e s v n xs) (hB : B <= w0.heap.size) (h2 : (w0.alloc ob).grownBy w' v.ownBlock) (h3 : Grew (w0.alloc ob) w' v v' n m) : GI B w0 w' v v' := by
 refine ⟨((Below.refl _ _).alloc hB _).grown h2 (by simp; omega) (fun k hk => (own_block hown hk).1), fun g h4 h5 => ?_, fun g hg => ?_⟩
 ·rw [grown_at h2 (by simp; omega) h5, heap_alloc_old _ _ h4]
 ·rcases h3.out with ⟨g', cap, e1, e2⟩ | ⟨e1, _⟩
  ·subst e1 e2; exact .inl hg
  ·rw [e1] at hg; cases hg; right; simp
theorem wpList_append_intG {w0 : World} {ops : Array Oper} {rest : List Oper} {op : Oper} {a : Act} {Q : Exit -> Act -> World -> Prop} (hgd : op.guard = none) (s x : Operand)
 (ho : op.op = .call { callee := .builtin .append, args := #[s, x], argTypes := #[23, 23] })
 (B : Nat) (v : Value) (n : Nat) (L : List Int) (y : Int) (hs : a.eval s = v) (hown : OwnI w0 B v n L) (hx : a.eval x = .slice (some ⟨w0.heap.size, 0, none⟩) 1 1)
 (hl : n + 1 <= 17592186044416) (hB : B <= w0.heap.size)
 (h : ∀ v' w', OwnI w' B v' (n + 1) (L ++ [y]) -> GI B w0 w' v v' -> wpList Tryz.prog ops Q rest (a.put op.dst v') w') : wpList Tryz.prog ops Q (op :: rest) a (w0.alloc (.cells #[.int .i64 y] 3)) := by
 obtain ⟨i0, hi, hz0, hz1, hz2⟩ := info_parts info3i
 refine wpList_append_where hgd s x 23 ho B 3 i0 (.int .i64 0) 1 8 Tryz.underlying23 hi hz0 hz1 hz2 rfl (by decide) v n (ivs L) hs (hown.out.alloc _) ⟨w0.heap.size, 0, none⟩ 1 1 (by omega) [.int .i64 y] hx rfl (cell_one_newI _ _ _) (fun u hu => by simp at hu; subst hu; rfl) (by unfold maxLen; omega) (by omega) (by simp; omega) ?_
 intro v' w' h1 h2 h3
 exact h v' w' ⟨by simp; exact hown.len, by simpa [ivs] using h1⟩ (gi_of hown.out hB h2 h3)
theorem step_append_intG {w : World} {ops : Array Oper} {op : Oper} {a : Act} {K : Act -> World -> Prop} {Q : Exit -> Act -> World -> Prop} {E : Prop} (hgd : op.guard = none) (s x : Operand)
 (ho : op.op = .call { callee := .builtin .append, args := #[s, x], argTypes := #[23, 23] })
 (B : Nat) (v : Value) (n : Nat) (L : List Int) (y : Int) (hs : a.eval s = v) (hown : OwnI w B v n L) (g : Nat) (hx : a.eval x = .slice (some ⟨g, 0, none⟩) 1 1) (hc : w.cell? ⟨g, 0, none⟩ = some (.int .i64 y))
 (hl : n + 1 <= 17592186044416) (hB : B <= w.heap.size)
 (h : ∀ v' w', OwnI w' B v' (n + 1) (L ++ [y]) -> GI B w w' v v' -> K (a.put op.dst v') w') : if Region.wanted op (yielded ops a.tmps) = true then Oper.wp Tryz.prog op a w K Q else E := by
 have hw : Region.wanted op (yielded ops a.tmps) = true := by simp [Region.wanted, hgd]
 rw [if_pos hw]
 obtain ⟨i0, hi, hz0, hz1, hz2⟩ := info_parts info3i
 obtain ⟨v', w', hr, h2, h3, h4⟩ := run_append_where (P := Tryz.prog) (w := w) B 23 op.type 3 i0 (.int .i64 0) 1 8 Tryz.underlying23 hi hz0 hz1 hz2 rfl (by decide) v n (ivs L) hown.out ⟨g, 0, none⟩ 1 1 (by omega) [.int .i64 y] rfl (fun j u hj => by
  match j, hj with
  | 0, hj => simp at hj; subst hj; simpa [Addr.add] using hc
  | j + 1, hj => simp at hj) (fun u hu => by simp at hu; subst hu; rfl) (by unfold maxLen; omega) (by omega) hB
 unfold Oper.wp execOp
 simp only [ho, resolve, invoke, builtin, Sem.run_bind, Sem.run_pure, Result.andThen_ok, List.map_toArray, List.map_cons, List.map_nil, hs, hx, hr]
 refine h v' w' ⟨by simp; exact hown.len, by simpa [ivs] using h2⟩ ⟨?_, fun b h5 h6 => grown_at h3 h5 h6, fun b hb => ?_⟩
 ·exact (Below.refl _ _).grown h3 hB (fun k hk => (own_block hown.out hk).1)
 ·rcases h4.out with ⟨g', cap, e1, e2⟩ | ⟨e1, _⟩
  ·subst e1 e2; exact .inl hb
  ·rw [e1] at hb; cases hb; right; exact Nat.le_refl _
end Go.Proofs.YtfbkopjncmkbiabGreatDoor
namespace Go.Proofs.YtfbkopjncmkbiabGreatDoor
open Go.ChangeShapes Go.WideShapes Go.ChangeAt Go.RowKit Go.Maps
structure AtI (w : World) (b o : Nat) (M : List Int) : Prop where
 lt : b < w.heap.size
 cell : ∀ i (h : i < M.length), w.cell? ⟨b, o + i, none⟩ = some (.int .i64 M[i])
structure Ints (w : World) (ao : Option Addr) (cap : Nat) (L : List Int) : Prop where
 le : L.length <= cap
 mx : cap <= 9223372036854775807
 out : L ≠ [] -> ∃ b o, ao = some ⟨b, o, none⟩ /\ AtI w b o L
theorem AtI.below {w w' b o M K} (h : AtI w b o M) (hb : Below K w w') (hK : b < K) : AtI w' b o M :=
 ⟨by have := hb.size; have := h.lt; omega, fun i hi => by rw [hb.cell (p := ⟨b, o + i, none⟩) hK]; exact h.cell i hi⟩
theorem Ints.below {w w' ao cap L K} (h : Ints w ao cap L) (hb : Below K w w') (hK : w.heap.size <= K) : Ints w' ao cap L :=
 ⟨h.le, h.mx, fun hn => by
  obtain ⟨b, o, e, hA⟩ := h.out hn
  exact ⟨b, o, e, hA.below hb (Nat.lt_of_lt_of_le hA.lt hK)⟩⟩
theorem AtI.drop {w b o M} (h : AtI w b o M) (k : Nat) : AtI w b (o + k) (M.drop k) := by
 refine ⟨h.lt, fun i hi => ?_⟩
 have hi' : k + i < M.length := by simp at hi; omega
 have := h.cell (k + i) hi'
 rw [Nat.add_assoc, this]; simp
theorem OwnI.ints {w B v n L} (h : OwnI w B v n L) : ∃ ao c, v = .slice ao n c /\ Ints w ao c L := by
 obtain ⟨ao, c, e, h1, h2⟩ := own_slice h.out
 subst e
 refine ⟨ao, c, rfl, by rw [<- h.len]; exact h1, h2, fun hn => ?_⟩
 have hp : 0 < n := by rw [h.len]; exact List.length_pos_iff.2 hn
 obtain ⟨g, c', e, _, _, hB, hg⟩ := own_some h.out hp
 cases e
 refine ⟨g, 0, rfl, hg, fun i hi => ?_⟩
 have := own_cell h.out i (by rw [h.len]; omega)
 rw [Nat.zero_add, this]
 simp [ivs, hi]
theorem withins_any (w : World) (ao : Option Addr) (n c : Nat) (i : Int) : Calls Tryz.prog 167 #[.slice ao n c, .int .i64 i] w fun e w' => e = .returned (.bool (decide (0 <= i /\ i < n))) /\ w' = w := by
 by_cases h0 : 0 <= i
 ·by_cases h1 : i < n
  ·go_enter Tryz.func167, Tryz.ntmps167
   go_wp2
   go_ret
   exact ⟨by simp [h0, h1], rfl⟩
  ·go_enter Tryz.func167, Tryz.ntmps167
   go_wp2
   go_ret
   exact ⟨by simp [h0, h1], rfl⟩
 ·go_enter Tryz.func167, Tryz.ntmps167
  go_wp2
  go_ret
  exact ⟨by simp; omega, rfl⟩
def ovr (T : List Int) (a : Int) : Nat -> Int -> Bool -> Bool
 | 0, _, _ => false
 | k + 1, b, m => if 0 <= T.getD b.toNat 0 /\ T.getD b.toNat 0 < T.length then ovr T a k (T.getD b.toNat 0) (m || decide (a = b)) else (m || decide (a = b))
structure IRow (w : World) (ao : Option Addr) (cap : Nat) (Ls : List (List Int)) : Prop where
 le : Ls.length <= cap
 mx : cap <= 9223372036854775807
 out : Ls ≠ [] -> ∃ b o, ao = some ⟨b, o, none⟩ /\ b < w.heap.size /\ ∀ i (h : i < Ls.length), ∃ a' c', w.cell? ⟨b, o + i, none⟩ = some (.slice a' Ls[i].length c') /\ Ints w a' c' Ls[i]
theorem IRow.below {w w' ao cap L K} (h : IRow w ao cap L) (hb : Below K w w') (hK : w.heap.size <= K) : IRow w' ao cap L :=
 ⟨h.le, h.mx, fun hn => by
  obtain ⟨b, o, e, h1, h2⟩ := h.out hn
  refine ⟨b, o, e, by have := hb.size; omega, fun i hi => ?_⟩
  obtain ⟨a', c', h3, h4⟩ := h2 i hi
  exact ⟨a', c', by rw [hb.cell (p := ⟨b, o + i, none⟩) (by show b < K; omega)]; exact h3, h4.below hb hK⟩⟩
def goodP (Ls : List (List Int)) : Bool := decide (0 < Ls.length) && Ls.all fun l => l.all fun x => decide (0 <= x /\ x < Ls.length)
theorem Ints.at {w ao cap L} (h : Ints w ao cap L) {j : Nat} (hj : j < L.length) : ∃ b o, ao = some ⟨b, o, none⟩ /\ w.cell? ⟨b, o + j, none⟩ = some (.int .i64 L[j]) := by
 obtain ⟨b, o, e, hA⟩ := h.out (by intro e; rw [e] at hj; simp at hj)
 exact ⟨b, o, e, hA.cell j hj⟩
theorem IRow.at {w ao cap L} (h : IRow w ao cap L) {j : Nat} (hj : j < L.length) : ∃ b o a' c', ao = some ⟨b, o, none⟩ /\ w.cell? ⟨b, o + j, none⟩ = some (.slice a' L[j].length c') /\ Ints w a' c' L[j] := by
 obtain ⟨b, o, e, _, hA⟩ := h.out (by intro e; rw [e] at hj; simp at hj)
 obtain ⟨a', c', h1, h2⟩ := hA j hj
 exact ⟨b, o, a', c', e, h1, h2⟩
theorem goodP_no {Ls : List (List Int)} {k j : Nat} (hk : k < Ls.length) (hj : j < Ls[k].length) (h : ¬ (0 <= Ls[k][j] /\ Ls[k][j] < Ls.length)) : goodP Ls = false := by
 cases e : goodP Ls with
 | false => rfl
 | true =>
   simp only [goodP, Bool.and_eq_true, List.all_eq_true, decide_eq_true_eq] at e
   exact absurd (e.2 _ (List.getElem_mem hk) _ (List.getElem_mem hj)) h
theorem goodP_all {Ls : List (List Int)} (h0 : 0 < Ls.length) (h : ∀ (k : Nat) (hk : k < Ls.length) (j : Nat) (hj : j < Ls[k].length), 0 <= Ls[k][j] /\ Ls[k][j] < Ls.length) : goodP Ls = true := by
 simp only [goodP, Bool.and_eq_true, List.all_eq_true, decide_eq_true_eq]
 refine ⟨h0, fun l hl x hx => ?_⟩
 obtain ⟨k, hk, rfl⟩ := List.mem_iff_getElem.1 hl
 obtain ⟨j, hj, rfl⟩ := List.mem_iff_getElem.1 hx
 exact h k hk j hj
theorem goodP_yes {Ls : List (List Int)} (h : goodP Ls = true) {k j : Nat} (hk : k < Ls.length) (hj : j < Ls[k].length) : 0 <= Ls[k][j] /\ Ls[k][j] < Ls.length := by
 simp only [goodP, Bool.and_eq_true, List.all_eq_true, decide_eq_true_eq] at h
 exact h.2 _ (List.getElem_mem hk) _ (List.getElem_mem hj)
theorem goodP_pos {Ls : List (List Int)} (h : goodP Ls = true) : 0 < Ls.length := by
 simp only [goodP, Bool.and_eq_true, decide_eq_true_eq] at h
 exact h.1
set_option maxHeartbeats 1000000 in
theorem good_any (w : World) (ao : Option Addr) (n c : Nat) (Ls : List (List Int)) (hn : n = Ls.length) (h : IRow w ao c Ls) : Calls Tryz.prog 127 #[.slice ao n c] w fun e w' => e = .returned (.bool (goodP Ls)) /\ w' = w := by
 have hmx : n <= 9223372036854775807 := by have := h.le; have := h.mx; omega
 obtain ⟨R, hR⟩ : ∃ R, R = goodP Ls := ⟨_, rfl⟩
 rw [<- hR]
 have HR : Hid (R = goodP Ls) := hR
 have HN : Hid (n = Ls.length) := hn
 have HI : Hid (IRow w ao c Ls) := h
 clear hR hn h
 go_enter Tryz.func127, Tryz.ntmps127
 go_wp2_with fail
 go_step3
 go_wp2_with fail
 go_step3
 go_wp2_with fail
 go_loopg [3, 13] n (fun q fv v wr => ∃ (k : Nat) (F : Bool), k <= n /\ q = n - k /\ fv = .bool F /\ Hid (F = decide (0 < n)) /\ v = .int .i64 k /\ wr = w /\ Hid (∀ (k' : Nat) (hk : k' < Ls.length), k' < k -> ∀ (j : Nat) (hj : j < Ls[k'].length), 0 <= Ls[k'][j] /\ Ls[k'][j] < Ls.length))
 case atStart => exact ⟨0, _, by omega, by omega, rfl, (by show _ = _; simp), rfl, rfl, fun k' _ h => absurd h (by omega)⟩
 case round =>
  obtain ⟨k, F, hk, rfl, rfl, HF, rfl, rfl, HT⟩ := hrel
  by_cases hlt : k < n
  ·have hkL : k < Ls.length := by have := HN.out; omega
   obtain ⟨b, o, a', c', rfl, hc, hI⟩ := HI.out.at hkL
   obtain ⟨l, hl⟩ : ∃ l, l = Ls[k] := ⟨_, rfl⟩
   rw [<- hl] at hc hI
   have HL : Hid (l = Ls[k]) := hl
   have hl2 : l.length <= 9223372036854775807 := by have := hI.le; have := hI.mx; omega
   have HII : Hid (Ints wr a' c' l) := hI
   obtain ⟨m, hm⟩ : ∃ m, m = l.length := ⟨_, rfl⟩
   rw [<- hm] at hc hl2
   have HM : Hid (m = l.length) := hm
   clear hl hI hm
   go_wp2_with fail
   go_loopg [3, 19] m (fun q fv v wr' => ∃ j : Nat, j <= m /\ q = m - j /\ fv = .bool F /\ v = .int .i64 j /\ wr' = wr /\ Hid (∀ (j' : Nat) (hj : j' < l.length), j' < j -> 0 <= l[j'] /\ l[j'] < Ls.length))
   case atStart => exact ⟨0, by omega, by omega, rfl, rfl, rfl, fun j' _ h => absurd h (by omega)⟩
   case round =>
    obtain ⟨j, hj, rfl, rfl, rfl, rfl, HJ⟩ := hrel
    by_cases hjl : j < m
    ·have hjL : j < l.length := by have := HM.out; omega
     obtain ⟨b2, o2, rfl, hc2⟩ := HII.out.at hjL
     obtain ⟨x, hx⟩ : ∃ x, x = l[j] := ⟨_, rfl⟩
     rw [<- hx] at hc2
     have HX : Hid (x = l[j]) := hx
     clear hx
     go_wp2_with fail
     refine (withins_any _ _ n c x).mono ?_
     rintro e w3 ⟨rfl, rfl⟩
     by_cases hy : 0 <= x /\ x < n
     ·rw [show (decide (0 <= x /\ x < (n : Int))) = true from decide_eq_true hy]
      go_wp2_with fail
      go_roundg (m - (j + 1))
      case rel =>
       refine ⟨j + 1, by omega, rfl, rfl, by go_num, by first | rfl | trivial, fun j' hj' h => ?_⟩
       by_cases e : j' = j
       ·subst e
        rw [<- HX.out, <- HN.out]; omega
       ·exact HJ.out j' hj' (by omega)
      case measure => omega
     ·rw [show (decide (0 <= x /\ x < (n : Int))) = false from decide_eq_false hy]
      have hf : R = false := by
       rw [HR.out]
       refine goodP_no hkL (j := j) (by rw [<- HL.out]; exact hjL) ?_
       have : Ls[k][j]'(by rw [<- HL.out]; exact hjL) = x := by rw [HX.out]; simp [HL.out]
       rw [this, <- HN.out]; omega
      subst hf
      go_wp2_with fail
      try rw [Exit.noGoto_ret]
      go_ret
      exact ⟨rfl, rfl⟩
    ·go_wp2_with fail
     go_roundg (n - (k + 1))
     case rel =>
      refine ⟨k + 1, F, by omega, rfl, rfl, HF, by go_num, by first | rfl | trivial, fun k' hk' h j' hj' => ?_⟩
      by_cases e : k' = k
      ·subst e
       have := HJ.out j' (by rw [HL.out]; exact hj') (by have := HM.out; rw [HL.out] at this; omega)
       simpa [HL.out] using this
      ·exact HT.out k' hk' (by omega) j' hj'
     case measure => omega
  ·have hFR : F = R := by
    rw [HF.out, HR.out]
    by_cases hz : 0 < n
    ·rw [decide_eq_true hz]
     exact (goodP_all (by rw [<- HN.out]; exact hz) fun k' hk' j hj => HT.out k' hk' (by have := HN.out; omega) j hj).symm
    ·rw [decide_eq_false hz]
     have : Ls = [] := List.length_eq_zero_iff.1 (by have := HN.out; omega)
     rw [this]; rfl
   subst hFR
   go_wp2_with fail
   try rw [Exit.noGoto_ret]
   go_ret
   exact ⟨rfl, rfl⟩
structure Bls (w : World) (ao : Option Addr) (cap : Nat) (L : List Bool) : Prop where
 le : L.length <= cap
 mx : cap <= 9223372036854775807
 out : L ≠ [] -> ∃ b o, ao = some ⟨b, o, none⟩ /\ b < w.heap.size /\ ∀ i (h : i < L.length), w.cell? ⟨b, o + i, none⟩ = some (.bool L[i])
theorem Bls.below {w w' ao cap L K} (h : Bls w ao cap L) (hb : Below K w w') (hK : w.heap.size <= K) : Bls w' ao cap L :=
 ⟨h.le, h.mx, fun hn => by
  obtain ⟨b, o, e, h1, h2⟩ := h.out hn
  exact ⟨b, o, e, by have := hb.size; omega, fun i hi => by rw [hb.cell (p := ⟨b, o + i, none⟩) (by show b < K; omega)]; exact h2 i hi⟩⟩
theorem Bls.at {w ao cap L} (h : Bls w ao cap L) {j : Nat} (hj : j < L.length) : ∃ b o, ao = some ⟨b, o, none⟩ /\ w.cell? ⟨b, o + j, none⟩ = some (.bool L[j]) := by
 obtain ⟨b, o, e, _, hA⟩ := h.out (by intro e; rw [e] at hj; simp at hj)
 exact ⟨b, o, e, hA j hj⟩
end Go.Proofs.YtfbkopjncmkbiabGreatDoor
