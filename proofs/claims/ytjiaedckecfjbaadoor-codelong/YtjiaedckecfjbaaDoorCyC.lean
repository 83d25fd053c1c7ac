import Derived.Test.YtjiaedckecfjbaaDoorRows
import Derived.WalkKit
import Derived.ProofKit
import Derived.WalkLawsBesides
import Derived.WalkSpells
import Derived.BigQuiet
import Derived.Below
import Derived.Maps.OwnSet
import Derived.Deep.RegionHeldLaw
import Derived.OwnWalk
import Derived.Laws.OwnMore
import Derived.Lib.AppendStr
set_option linter.unusedVariables false
set_option maxRecDepth 10000
namespace Go.Proofs.YtjiaedckecfjbaaDoor
open Go.ChangeShapes Go.WideShapes Go.ChangeAt Go.RowKit Go.Maps

theorem law3 : Keyed Tryd.prog 3 := int_keyed Tryd.underlying3
theorem zero3 (w : World) : (zeroValue 3).run Tryd.prog w = .ok (.int .i64 0) w := by kernel_rfl

theorem cell_arr {w : World} {g i : Nat} {A : Array Value} {t : TypeId} {v : Value} (h : w.heap[g]? = some (.cells A t (0, 0))) (hv : A[i]? = some v) : w.cell? ⟨g, i, none⟩ = some v := by
  simp [World.cell?, h, hv]
theorem fz_of {w : World} {g i : Nat} {c : Array Value} {t : TypeId} (h : w.heap[g]? = some (.cells c t (0, 0))) : w.frozen? ⟨g, i, none⟩ = false := by simp [World.frozen?, h]
theorem heap_set_at {w : World} {g i : Nat} {c : Array Value} {t : TypeId} {f : Nat × Nat} {v : Value} (h : w.heap[g]? = some (.cells c t f)) : (w.setCell ⟨g, i, none⟩ v).heap[g]? = some (.cells (c.setIfInBounds i v) t f) := by
  simp [World.setCell, Array.getElem?_modify, h]
theorem heap_set_other {w : World} {g i k : Nat} {v : Value} (h : k ≠ g) : (w.setCell ⟨g, i, none⟩ v).heap[k]? = w.heap[k]? := by
  simp only [World.setCell, Array.getElem?_modify]
  rw [if_neg (by omega)]

/-- A number that an int can be. -/
def Fits (a : Int) : Prop := -9223372036854775808 ≤ a ∧ a ≤ 9223372036854775807
theorem Fits.wf {a : Int} (h : Fits a) : (Lit.int .i64 a).wf = true := by
  have h1 := h.1
  have h2 := h.2
  exact WalkArith.wf_i64 (by omega)

/-- But for the blocks of F, and new ones, all is as it was. -/
structure Only (F : Nat → Prop) (w w' : World) : Prop where
  os : w'.os = w.os
  tape : w'.tape = w.tape
  output : w'.output = w.output
  size : w.heap.size ≤ w'.heap.size
  block : ∀ k, k < w.heap.size → ¬ F k → w'.heap[k]? = w.heap[k]?
theorem Only.refl (F : Nat → Prop) (w : World) : Only F w w := ⟨rfl, rfl, rfl, Nat.le_refl _, fun _ _ _ => rfl⟩
theorem Only.trans {F F' : Nat → Prop} {a b c : World} (h : Only F a b) (k : Only F' b c) (hF : ∀ i, i < a.heap.size → F' i → F i) : Only F a c :=
  ⟨k.os.trans h.os, k.tape.trans h.tape, k.output.trans h.output, Nat.le_trans h.size k.size, fun i hi hn => (k.block i (Nat.lt_of_lt_of_le hi h.size) (fun hf => hn (hF i hi hf))).trans (h.block i hi hn)⟩
theorem Only.mono {F F' : Nat → Prop} {a b : World} (h : Only F a b) (hF : ∀ i, i < a.heap.size → F i → F' i) : Only F' a b :=
  ⟨h.os, h.tape, h.output, h.size, fun i hi hn => h.block i hi (fun hf => hn (hF i hi hf))⟩
theorem Only.of_grown {w w' : World} {r : Option Nat} (h : w.grownBy w' r) : Only (fun k => r = some k) w w' := ⟨h.os, h.tape, h.output, h.size, fun k hk hn => h.block k hk (fun e => hn e.symm)⟩
theorem Only.of_set (w : World) (a : Addr) (u : Value) : Only (fun k => k = a.block) w (w.setCell a u) := ⟨rfl, rfl, rfl, by simp [World.setCell], fun k hk hn => Below.heap_setCell _ _ _ _ hn⟩
theorem Only.of_below {w w' : World} (h : Below w.heap.size w w') (F : Nat → Prop) : Only F w w' := ⟨h.os, h.tape, h.output, h.size, fun k hk _ => h.block k hk⟩
theorem Only.below {F : Nat → Prop} {B : Nat} {w w' : World} (h : Only F w w') (hB : B ≤ w.heap.size) (hF : ∀ k, F k → B ≤ k) : Below B w w' := ⟨h.os, h.tape, h.output, h.size, fun k hk => h.block k (by omega) (fun hf => by have := hF k hf; omega)⟩

/-- The heap's blocks. -/
def CF (h m n : Nat) (k : Nat) : Prop := k = h ∨ k = m ∨ k = n
theorem own_map_move {w w' : World} {b c : Nat} {D : DataW Unit} (h : w.ownsMap Tryd.prog 3 (plainElem Tryd.prog 3) b c D) (hk : w'.heap[b]? = w.heap[b]?) : w'.ownsMap Tryd.prog 3 (plainElem Tryd.prog 3) b c D := by
  obtain ⟨es, cl, h1, h2⟩ := h
  exact ⟨es, cl, hk.trans h1, h2⟩
def upd {α : Type} (f : Int → α) (x : Int) (v : α) : Int → α := fun y => if y = x then v else f y
theorem key_ne {a b : Int} (h : a ≠ b) : (Lit.int .i64 a) ≠ (Lit.int .i64 b) := fun e => h (by cases e; rfl)

end Go.Proofs.YtjiaedckecfjbaaDoor
namespace Go.Proofs.YtjiaedckecfjbaaDoor
open Go.ChangeShapes Go.WideShapes Go.ChangeAt Go.RowKit Go.Maps

/-- A word's place: in a block that is there. -/
def inB (ln : Int → Option Int) (a i : Int) : Prop := 0 ≤ i ∧ i < (ln a).getD 0
end Go.Proofs.YtjiaedckecfjbaaDoor
namespace Go.Proofs.YtjiaedckecfjbaaDoor
open Go.ChangeShapes Go.WideShapes Go.ChangeAt Go.RowKit

theorem own_keep {w w' : World} {B e s v n xs} (h : w.ownsRow B e s v n xs) (hk : ∀ g, g < w.heap.size → w'.heap[g]? = w.heap[g]?) : w'.ownsRow B e s v n xs := by
  refine ⟨h.1, h.2.imp id ?_⟩
  rintro ⟨g, cap, cur, e1, e2, e3, e4⟩
  have hlt : g < w.heap.size := (Array.getElem?_eq_some_iff.1 e3).1
  exact ⟨g, cap, cur, e1, e2, (hk g hlt).trans e3, e4⟩

theorem own_block {w : World} {B e s v n xs} (h : w.ownsRow B e s v n xs) {g : Nat} (hg : v.ownBlock = some g) : B ≤ g ∧ g < w.heap.size := by
  rcases h.2 with ⟨rfl, _⟩ | ⟨g', cap, cur, rfl, e2, e3, e4⟩
  · simp [Value.ownBlock] at hg
  · simp [Value.ownBlock] at hg
    subst hg
    exact ⟨e2, (Array.getElem?_eq_some_iff.1 e3).1⟩

/-- Two rows of the call's own: one is grown, the other stays. -/
theorem own_grown {w w' : World} {B e s n xs} {v : Value} {row : Option Nat} (h : w.ownsRow B e s v n xs) (hg : w.grownBy w' row) (hne : ∀ g, v.ownBlock = some g → row ≠ some g) : w'.ownsRow B e s v n xs := by
  refine ⟨h.1, h.2.imp id ?_⟩
  rintro ⟨g, cap, cur, e1, e2, e3, e4⟩
  have hlt : g < w.heap.size := (Array.getElem?_eq_some_iff.1 e3).1
  exact ⟨g, cap, cur, e1, e2, (hg.block g hlt (fun e => hne g (by rw [e1]; rfl) e.symm)).trans e3, e4⟩
/-- Rows of two element types are two rows. -/
theorem own_apart {w : World} {B1 B2 e1 e2 s1 s2 n1 n2 x1 x2} {v1 v2 : Value} (h1 : w.ownsRow B1 e1 s1 v1 n1 x1) (h2 : w.ownsRow B2 e2 s2 v2 n2 x2) (hne : e1 ≠ e2) : ∀ g, v1.ownBlock = some g → v2.ownBlock ≠ some g := by
  intro g hg1 hg2
  rcases h1.2 with ⟨rfl, _⟩ | ⟨g1, _, _, rfl, _, e3, _⟩
  · simp [Value.ownBlock] at hg1
  · rcases h2.2 with ⟨rfl, _⟩ | ⟨g2, _, _, rfl, _, e4, _⟩
    · simp [Value.ownBlock] at hg2
    · simp [Value.ownBlock] at hg1 hg2
      subst hg1 hg2
      rw [e3] at e4
      simp at e4
      exact hne e4.2

/-- A row depends on its own block alone. -/
theorem own_move {w w' : World} {B e s n xs} {v : Value} (h : w.ownsRow B e s v n xs) (hk : ∀ g, v.ownBlock = some g → w'.heap[g]? = w.heap[g]?) : w'.ownsRow B e s v n xs := by
  refine ⟨h.1, h.2.imp id ?_⟩
  rintro ⟨g, cap, cur, e1, e2, e3, e4⟩
  exact ⟨g, cap, cur, e1, e2, (hk g (by rw [e1]; rfl)).trans e3, e4⟩

/-- What an append did to the row: in place, or a new row and all old ones as they were. -/
structure Grew (w w' : World) (v v' : Value) (n m : Nat) : Prop where
  out : (∃ g cap, v = .slice (some ⟨g, 0, none⟩) n cap ∧ v' = .slice (some ⟨g, 0, none⟩) (n + m) cap) ∨ (v'.ownBlock = some w.heap.size ∧ w.grownBy w' none)

theorem run_append_where {P : Program} {w : World} (base : Nat) (t ty e : TypeId) (i : TypeInfo) (z : Value) (size bytes : Nat) (ht : P.underlying t = some (.slice e)) (hi : P.info? e = some i) (hz : i.zero = some z)
    (hsize : i.size = size) (hby : i.bytes = bytes) (hzs : z.cells.size = size) (hsz : 0 < size)
    (v : Value) (n : Nat) (xs : List Value) (hown : w.ownsRow base e size v n xs)
    (a : Addr) (m c : Nat) (hm : 0 < m) (news : List Value) (hl : news.length = m * size) (hnews : ∀ j u, news[j]? = some u → w.cell? (a.add j) = some u) (h1 : ∀ u ∈ news, u.oneCell' = true)
    (h63 : n + m ≤ maxLen) (hbytes : (n + m) * bytes ≤ 140737488355328) (hbase : base ≤ w.heap.size) :
    ∃ v' w', (Builtin.append_ #[t, t] ty #[v, .slice (some a) m c]).run P w = .ok v' w' ∧ w'.ownsRow base e size v' (n + m) (xs ++ news) ∧ w.grownBy w' v.ownBlock ∧ Grew w w' v v' n m := by
  obtain ⟨v', w', hr, h2, h3, h4⟩ := run_append_own (P := P) w base t ty e i z size bytes ht hi hz hsize hby hzs hsz v n xs hown a m c news hl hnews h1 h63 hbytes hbase
  refine ⟨v', w', hr, h2, h3, ?_⟩
  have hsmall : n + m ≤ 9223372036854775807 := by simp only [maxLen] at h63; omega
  subst hsize hby
  rcases hown.2 with ⟨rfl, rfl⟩ | ⟨g, cap, cur, rfl, hbg, hg, hnc, hcm, hcs, htake⟩
  · have hr2 := run_append_nil (P := P) w t ty e i z ht hi hz a m c news hl hnews (by omega) (by omega) (by have hb := hbytes; simp only [Nat.zero_add] at hb; omega)
    rw [hr2] at hr
    cases hr
    exact ⟨.inr ⟨rfl, (by exact ⟨rfl, rfl, rfl, by simp, fun k hk _ => heap_alloc_old w.drew _ hk⟩)⟩⟩
  · by_cases hroom : n + m ≤ cap
    · have hfit : n * i.size + news.length ≤ cur.size := by rw [hl, hcs, ← Nat.add_mul]; exact Nat.mul_le_mul_right _ hroom
      have hr2 := run_append_room (P := P) w t ty e i ht hi g n cap cur hg a m c news hl hnews h1 hroom hfit
      rw [hr2] at hr
      cases hr
      exact ⟨.inl ⟨g, cap, rfl, rfl⟩⟩
    · have holds : ∀ j u, xs[j]? = some u → w.cell? ((⟨g, 0, none⟩ : Addr).add j) = some u := hown.cells (g := g) rfl
      have hr2 := run_append_grow (P := P) w t ty e i z ht hi hz ⟨g, 0, none⟩ n cap xs hown.1 holds a m c news hl hnews (by omega) (by omega) (growslice_fits (by omega) hbytes)
      rw [hr2] at hr
      cases hr
      exact ⟨.inr ⟨rfl, (by exact ⟨rfl, rfl, rfl, by simp, fun k hk _ => heap_alloc_old w.drew _ hk⟩)⟩⟩

theorem wpList_append_where {P : Program} {w : World} {ops : Array Oper} {rest : List Oper} {o : Oper} {a : Act} {Q : Exit → Act → World → Prop} (hgd : o.guard = none) (s x : Operand) (t : TypeId)
    (ho : o.op = .call { callee := .builtin .append, args := #[s, x], argTypes := #[t, t] })
    (base : Nat) (e : TypeId) (i : TypeInfo) (z : Value) (size bytes : Nat) (ht : P.underlying t = some (.slice e)) (hi : P.info? e = some i) (hz : i.zero = some z)
    (hsize : i.size = size) (hby : i.bytes = bytes) (hzs : z.cells.size = size) (hsz : 0 < size)
    (v : Value) (n : Nat) (xs : List Value) (hs : a.eval s = v) (hown : w.ownsRow base e size v n xs)
    (ad : Addr) (m c : Nat) (hm : 0 < m) (news : List Value) (hx : a.eval x = .slice (some ad) m c) (hl : news.length = m * size) (hnews : ∀ j u, news[j]? = some u → w.cell? (ad.add j) = some u) (h1 : ∀ u ∈ news, u.oneCell' = true)
    (h63 : n + m ≤ maxLen) (hbytes : (n + m) * bytes ≤ 140737488355328) (hbase : base ≤ w.heap.size)
    (h : ∀ v' w', w'.ownsRow base e size v' (n + m) (xs ++ news) → w.grownBy w' v.ownBlock → Grew w w' v v' n m → wpList P ops Q rest (a.put o.dst v') w') : wpList P ops Q (o :: rest) a w :=
  wpList_plain hgd fun _ hK => by
    obtain ⟨v', w', hr, h2, h3, h4⟩ := run_append_where (P := P) (w := w) base t o.type e i z size bytes ht hi hz hsize hby hzs hsz v n xs hown ad m c hm news hl hnews h1 h63 hbytes hbase
    unfold Oper.wp execOp
    simp only [ho, resolve, invoke, builtin, Sem.run_bind, Sem.run_pure, Result.andThen_ok, List.map_toArray, List.map_cons, List.map_nil, hs, hx, hr]
    exact hK _ _ (h v' w' h2 h3 h4)

theorem grown_at {w w' : World} {b : Option Nat} (h : w.grownBy w' b) {k : Nat} (hk : k < w.heap.size) (hne : b ≠ some k) : w'.heap[k]? = w.heap[k]? := h.block k hk (Ne.symm hne)
theorem drew_heap (w : World) : w.drew.heap = w.heap := rfl
theorem own_slice {w : World} {B e s n xs} {v : Value} (h : w.ownsRow B e s v n xs) : ∃ a c, v = .slice a n c ∧ n ≤ c ∧ c ≤ 9223372036854775807 := by
  rcases h.2 with ⟨rfl, rfl⟩ | ⟨g, cap, cur, rfl, _, _, h1, h2, _⟩
  · exact ⟨none, 0, rfl, by omega, by omega⟩
  · exact ⟨_, cap, rfl, h1, h2⟩
theorem own_some {w : World} {B e s n xs} {v : Value} (h : w.ownsRow B e s v n xs) (hn : 0 < n) : ∃ g c, v = .slice (some ⟨g, 0, none⟩) n c ∧ n ≤ c ∧ c ≤ 9223372036854775807 ∧ B ≤ g ∧ g < w.heap.size := by
  rcases h.2 with ⟨rfl, rfl⟩ | ⟨g, cap, cur, rfl, hb, hg, h1, h2, _⟩
  · omega
  · exact ⟨g, cap, rfl, h1, h2, hb, (Array.getElem?_eq_some_iff.1 hg).1⟩
theorem own_not {w : World} {B e s v n M} (h : w.ownsRow B e s v n M) {ub : Nat} {c : Array Value} {t : TypeId} {f : Nat × Nat} (hb : w.heap[ub]? = some (.cells c t f)) (hne : e ≠ t) : v.ownBlock ≠ some ub := by
  rcases h.2 with ⟨rfl, _⟩ | ⟨g, cap, cur, rfl, e2, e3, _⟩
  · simp [Value.ownBlock]
  · intro e
    simp [Value.ownBlock] at e
    subst e
    rw [hb] at e3
    cases e3
    exact hne rfl
theorem own_cell {w : World} {B g c n : Nat} {e : TypeId} {z : Nat} {M : List Value} (h : w.ownsRow B e z (.slice (some ⟨g, 0, none⟩) n c) n M) (q : Nat) (hq : q < n * z) : w.cell? ⟨g, q, none⟩ = M[q]? := by
  rcases h.2 with ⟨e, _⟩ | ⟨g', cap, cur, e, e2, e3, e4, e5, e6, e7⟩
  · cases e
  · cases e
    have hM := h.1
    have h1 : M[q]? = cur[q]? := by rw [← e7, List.getElem?_take, if_pos hq]; simp
    have h2 : M[q]? = some (M[q]'(by omega)) := List.getElem?_eq_getElem _
    rw [h2] at h1 ⊢
    simp [World.cell?, e3, ← h1]
theorem own_fz {w : World} {B g c n : Nat} {e : TypeId} {z : Nat} {M : List Value} (h : w.ownsRow B e z (.slice (some ⟨g, 0, none⟩) n c) n M) (q : Nat) : w.frozen? ⟨g, q, none⟩ = false := by
  rcases h.2 with ⟨e, _⟩ | ⟨g', cap, cur, e, e2, e3, _⟩
  · cases e
  · cases e
    exact fz_of e3
theorem own_set {w : World} {B g c n : Nat} {e : TypeId} {z : Nat} {M : List Value} (h : w.ownsRow B e z (.slice (some ⟨g, 0, none⟩) n c) n M) (q : Nat) (hq : q < n * z) (u : Value) : (w.setCell ⟨g, q, none⟩ u).ownsRow B e z (.slice (some ⟨g, 0, none⟩) n c) n (M.set q u) := by
  rcases h.2 with ⟨e, _⟩ | ⟨g', cap, cur, e, e2, e3, e4, e5, e6, e7⟩
  · cases e
  · cases e
    refine ⟨by simpa using h.1, .inr ⟨g, c, cur.setIfInBounds q u, rfl, e2, heap_set_at e3, e4, e5, by simpa using e6, ?_⟩⟩
    rw [← e7]
    simp [List.take_set]
theorem block_lt_of_cell {w : World} {a : Addr} {v : Value} (h : w.cell? a = some v) : a.block < w.heap.size := World.block_lt_of_cell? w a h
theorem cellA {w : World} {ob : Obj} {a : Addr} {v : Value} (h : w.cell? a = some v) : (w.alloc ob).cell? a = some v := by
  have hlt : a.block < w.heap.size := block_lt_of_cell h
  rw [World.cell?_of_block (w := w) (w' := w.alloc ob) (heap_alloc_old w ob hlt)]; exact h
theorem cellD {w : World} {a : Addr} {v : Value} (h : w.cell? a = some v) : w.drew.cell? a = some v := h

def ivs (L : List Int) : List Value := L.map (Value.int .i64)
theorem ivs_one (L : List Int) : ∀ u ∈ ivs L, u.oneCell' = true := by
  intro u hu
  simp [ivs] at hu
  obtain ⟨a, _, rfl⟩ := hu
  rfl
/-- A slice of numbers in a row of its own from block B on. -/
structure OwnI (w : World) (B : Nat) (v : Value) (n : Nat) (L : List Int) : Prop where
  len : n = L.length
  out : w.ownsRow B 3 1 v n (ivs L)
theorem OwnI.nil (w : World) (B : Nat) : OwnI w B (.slice none 0 0) 0 [] := ⟨rfl, World.ownsRow_nil _ _ _ _⟩
theorem OwnI.keep {w w' B v n L} (h : OwnI w B v n L) (hb : Below w.heap.size w w') : OwnI w' B v n L := ⟨h.len, own_keep h.out hb.block⟩
theorem info3i : (Tryd.prog.info? 3).map (fun i => (i.zero, i.size, i.bytes)) = some (some (.int .i64 0), 1, 8) := by kernel_rfl

theorem cell_one_newI (w : World) (a : Value) (t : TypeId) : ∀ j u, [a][j]? = some u → (w.alloc (.cells #[a] t)).cell? ((⟨w.heap.size, 0, none⟩ : Addr).add j) = some u := by
  intro j u hj
  match j, hj with
  | 0, hj => simp at hj; subst hj; simp [Addr.add]
  | j + 1, hj => simp at hj

/-- What an append does to memory: its own row alone, or a new one. -/
structure GI (B : Nat) (w0 w' : World) (v v' : Value) : Prop where
  bel : Below B w0 w'
  blk : ∀ g, g < w0.heap.size → v.ownBlock ≠ some g → w'.heap[g]? = w0.heap[g]?
  own : ∀ g, v'.ownBlock = some g → v.ownBlock = some g ∨ w0.heap.size ≤ g
theorem GI.size {B w0 w' v v'} (h : GI B w0 w' v v') : w0.heap.size ≤ w'.heap.size := h.bel.size
theorem OwnI.gi {B B' w0 w' v v' u m L} (h : OwnI w0 B' u m L) (g : GI B w0 w' v v') (hne : ∀ b, u.ownBlock = some b → v.ownBlock ≠ some b) : OwnI w' B' u m L :=
  ⟨h.len, own_move h.out fun b hb => g.blk b (own_block h.out hb).2 (hne b hb)⟩
theorem OwnI.giA {B B' w0 w' v v' u m L} (h : OwnI w0 B' u m L) (g : GI B w0 w' v v') (hne : ∀ b, u.ownBlock = some b → v.ownBlock ≠ some b) : ∀ b, u.ownBlock = some b → v'.ownBlock ≠ some b := by
  intro b hb hv
  rcases g.own b hv with h1 | h1
  · exact hne b hb h1
  · have := (own_block h.out hb).2; omega
theorem OwnI.alloc0 {w B v n L} (h : OwnI w B v n L) (ob : Obj) : OwnI (w.alloc ob) B v n L := ⟨h.len, own_move h.out fun b hb => heap_alloc_old _ _ (own_block h.out hb).2⟩
theorem gi_of {w0 w' : World} {B : Nat} {ob : Obj} {v v' : Value} {n m : Nat} {e s xs} (hown : w0.ownsRow B e s v n xs) (hB : B ≤ w0.heap.size) (h2 : (w0.alloc ob).grownBy w' v.ownBlock) (h3 : Grew (w0.alloc ob) w' v v' n m) : GI B w0 w' v v' := by
  refine ⟨((Below.refl _ _).alloc hB _).grown h2 (by simp; omega) (fun k hk => (own_block hown hk).1), fun g h4 h5 => ?_, fun g hg => ?_⟩
  · rw [grown_at h2 (by simp; omega) h5, heap_alloc_old _ _ h4]
  · rcases h3.out with ⟨g', cap, e1, e2⟩ | ⟨e1, _⟩
    · subst e1 e2; exact .inl hg
    · rw [e1] at hg; cases hg; right; simp
/-- append(l, x): the one number in a new row behind all others. -/
theorem wpList_append_intG {w0 : World} {ops : Array Oper} {rest : List Oper} {op : Oper} {a : Act} {Q : Exit → Act → World → Prop} (hgd : op.guard = none) (s x : Operand)
    (ho : op.op = .call { callee := .builtin .append, args := #[s, x], argTypes := #[78, 78] })
    (B : Nat) (v : Value) (n : Nat) (L : List Int) (y : Int) (hs : a.eval s = v) (hown : OwnI w0 B v n L) (hx : a.eval x = .slice (some ⟨w0.heap.size, 0, none⟩) 1 1)
    (hl : n + 1 ≤ 17592186044416) (hB : B ≤ w0.heap.size)
    (h : ∀ v' w', OwnI w' B v' (n + 1) (L ++ [y]) → GI B w0 w' v v' → wpList Tryd.prog ops Q rest (a.put op.dst v') w') : wpList Tryd.prog ops Q (op :: rest) a (w0.alloc (.cells #[.int .i64 y] 3)) := by
  obtain ⟨i0, hi, hz0, hz1, hz2⟩ := info_parts info3i
  refine wpList_append_where hgd s x 78 ho B 3 i0 (.int .i64 0) 1 8 Tryd.underlying78 hi hz0 hz1 hz2 rfl (by decide) v n (ivs L) hs (hown.out.alloc _) ⟨w0.heap.size, 0, none⟩ 1 1 (by omega) [.int .i64 y] hx rfl (cell_one_newI _ _ _) (fun u hu => by simp at hu; subst hu; rfl) (by unfold maxLen; omega) (by omega) (by simp; omega) ?_
  intro v' w' h1 h2 h3
  exact h v' w' ⟨by simp; exact hown.len, by simpa [ivs] using h1⟩ (gi_of hown.out hB h2 h3)
/-- The same in a statement that draws its order. -/
theorem step_append_intG {w : World} {ops : Array Oper} {op : Oper} {a : Act} {K : Act → World → Prop} {Q : Exit → Act → World → Prop} {E : Prop} (hgd : op.guard = none) (s x : Operand)
    (ho : op.op = .call { callee := .builtin .append, args := #[s, x], argTypes := #[78, 78] })
    (B : Nat) (v : Value) (n : Nat) (L : List Int) (y : Int) (hs : a.eval s = v) (hown : OwnI w B v n L) (g : Nat) (hx : a.eval x = .slice (some ⟨g, 0, none⟩) 1 1) (hc : w.cell? ⟨g, 0, none⟩ = some (.int .i64 y))
    (hl : n + 1 ≤ 17592186044416) (hB : B ≤ w.heap.size)
    (h : ∀ v' w', OwnI w' B v' (n + 1) (L ++ [y]) → GI B w w' v v' → K (a.put op.dst v') w') : if Region.wanted op (yielded ops a.tmps) = true then Oper.wp Tryd.prog op a w K Q else E := by
  have hw : Region.wanted op (yielded ops a.tmps) = true := by simp [Region.wanted, hgd]
  rw [if_pos hw]
  obtain ⟨i0, hi, hz0, hz1, hz2⟩ := info_parts info3i
  obtain ⟨v', w', hr, h2, h3, h4⟩ := run_append_where (P := Tryd.prog) (w := w) B 78 op.type 3 i0 (.int .i64 0) 1 8 Tryd.underlying78 hi hz0 hz1 hz2 rfl (by decide) v n (ivs L) hown.out ⟨g, 0, none⟩ 1 1 (by omega) [.int .i64 y] rfl (fun j u hj => by
    match j, hj with
    | 0, hj => simp at hj; subst hj; simpa [Addr.add] using hc
    | j + 1, hj => simp at hj) (fun u hu => by simp at hu; subst hu; rfl) (by unfold maxLen; omega) (by omega) hB
  unfold Oper.wp execOp
  simp only [ho, resolve, invoke, builtin, Sem.run_bind, Sem.run_pure, Result.andThen_ok, List.map_toArray, List.map_cons, List.map_nil, hs, hx, hr]
  refine h v' w' ⟨by simp; exact hown.len, by simpa [ivs] using h2⟩ ⟨?_, fun b h5 h6 => grown_at h3 h5 h6, fun b hb => ?_⟩
  · exact (Below.refl _ _).grown h3 hB (fun k hk => (own_block hown.out hk).1)
  · rcases h4.out with ⟨g', cap, e1, e2⟩ | ⟨e1, _⟩
    · subst e1 e2; exact .inl hb
    · rw [e1] at hb; cases hb; right; exact Nat.le_refl _

end Go.Proofs.YtjiaedckecfjbaaDoor
