import Derived.Test.YthjjdfiaikibaabDmM
set_option linter.unusedVariables false
set_option linter.unusedSimpArgs false
namespace Go.Proofs.Ythjjdfiaikibaab
open Go.ChangeShapes Go.WideShapes Go.ChangeAt Go.RowKit Go.Maps

/-- The state of the search for dominators. -/
structure St where
  door : List Int
  f : Fo
  over : List Int
  wt : Int → List Int
def dIn (x : Nat) (src : List Int) (d : List Int × Fo) : List Int × Fo := src.foldl (fun d y => (d.1.set x (min (gn d.1 x) (gn d.1 (lst d.1 d.2 y.toNat).1)), (lst d.1 d.2 y.toNat).2)) d
def dOv (door : List Int) (above : Nat) (l : List Int) (d : List Int × Fo) : List Int × Fo := l.foldl (fun d y => (d.1.set y.toNat ((lbw door d.2 y.toNat above).1 : Int), (lbw door d.2 y.toNat above).2)) d
/-- One place is taken. -/
def dstep (mt : List Int) (fr : List (List Int)) (x : Nat) (s : St) : St :=
  let d := dIn x (fr.getD x []) (s.door, s.f)
  let wt := upd s.wt (gn d.1 x) (s.wt (gn d.1 x) ++ [(x : Int)])
  let o := dOv d.1 (gn mt x).toNat (wt (gn mt x)) (s.over, ⟨d.2.up.set x (gn mt x), d.2.best⟩)
  ⟨d.1, o.2, o.1, upd wt (gn mt x) []⟩
def drun (mt : List Int) (fr : List (List Int)) : Nat → St → St
  | 0, s => s
  | k + 1, s => drun mt fr k (dstep mt fr (k + 1) s)
def st0 (n : Nat) : St := ⟨door0 n, fo0 n, List.replicate n 0, fun _ => []⟩
def fin1 (door : List Int) (k : Nat) (over : List Int) : List Int := if gn over k = gn door k then over else over.set k (gn over (gn over k).toNat)
def fpass (door : List Int) : Nat → List Int → List Int
  | 0, o => o
  | k + 1, o => fin1 door (k + 1) (fpass door k o)
def domP (mt : List Int) (fr : List (List Int)) : List Int := fpass (drun mt fr (mt.length - 1) (st0 mt.length)).door (mt.length - 1) (drun mt fr (mt.length - 1) (st0 mt.length)).over
/-- What holds of the state. -/
structure DI (n : Nat) (s : St) (c : Nat) : Prop where
  fi : FI n s.door s.f
  lo : s.over.length = n
  orn : ∀ i, i < n → 0 ≤ gn s.over i ∧ gn s.over i < n
  wr : ∀ a, ∀ x ∈ s.wt a, 0 ≤ x ∧ x < n
  wl : ∀ a, (s.wt a).length ≤ c
theorem FI.door {n : Nat} {door : List Int} {f : Fo} (h : FI n door f) {x : Nat} {v : Int} (hx : x < n) (h0 : 0 ≤ v) (h1 : v < n) : FI n (door.set x v) f :=
  ⟨by simpa using h.ld, h.lu, h.lb, fun i hi => by rw [gn_set (by rw [h.ld]; exact hx)]; split; exact ⟨h0, h1⟩; exact h.dr i hi, h.ur, h.br⟩
theorem FI.hang {n : Nat} {door : List Int} {f : Fo} (h : FI n door f) {x : Nat} {v : Int} (hx : x < n) (h0 : -1 ≤ v) (h1 : v < x) : FI n door ⟨f.up.set x v, f.best⟩ :=
  ⟨h.ld, by simpa using h.lu, h.lb, h.dr, fun i hi => by
    show -1 ≤ gn (f.up.set x v) i ∧ gn (f.up.set x v) i < i
    rw [gn_set (by rw [h.lu]; exact hx)]; split
    · next e => subst e; exact ⟨h0, h1⟩
    · exact h.ur i hi, h.br⟩
/-- A map's element as it is. -/
def rawE (v : Value) : Option (DataW Value × List MemPlace) := some (.held v, [])
structure DR (w : World) (B fb gd gu gb ov mw n : Nat) (door : List Int) (f : Fo) (over : List Int) (wt : Int → List Int) (val : Int → Value) (c : Nat) : Prop where
  fr : FR w fb gd gu gb n door f
  ovr : w.heap[ov]? = some (.cells (ivs over).toArray 3 (0, 0))
  lo : ∀ k, FF fb gd gu gb k ∨ k = ov ∨ k = mw → B ≤ k
  mp : ∃ D, w.ownsMap Try.prog 3 rawE mw c D ∧ ∀ a, Fits a → D.atKey (.int .i64 a) (.held vn0) = .held (val a)
  own : ∀ a, OwnI w B (val a) (wt a).length (wt a)
  ne : ∀ a b, a ≠ b → ∀ g, (val a).ownBlock = some g → (val b).ownBlock ≠ some g
  apart : ∀ a g, (val a).ownBlock = some g → g ≠ gd ∧ g ≠ gu ∧ g ≠ gb ∧ g ≠ ov
  ovne : ov ≠ gd ∧ ov ≠ gu ∧ ov ≠ gb
theorem own_map_moveR {w w' : World} {b c : Nat} {D : DataW Value} (h : w.ownsMap Try.prog 3 rawE b c D) (hk : w'.heap[b]? = w.heap[b]?) : w'.ownsMap Try.prog 3 rawE b c D := by
  obtain ⟨es, cl, h1, h2⟩ := h
  exact ⟨es, cl, hk.trans h1, h2⟩
theorem map_ne {w : World} {mw c g : Nat} {D : DataW Value} (h : w.ownsMap Try.prog 3 rawE mw c D) {A : Array Value} {t : TypeId} {fz : Nat × Nat} (hg : w.heap[g]? = some (.cells A t fz)) : g ≠ mw := by
  rintro rfl
  obtain ⟨es, cl, h1, _⟩ := h
  rw [h1] at hg; cases hg
theorem own_nomap {w : World} {mw c : Nat} {D : DataW Value} (h : w.ownsMap Try.prog 3 rawE mw c D) {B : Nat} {v : Value} {n : Nat} {L : List Int} (ho : OwnI w B v n L) : v.ownBlock ≠ some mw := by
  rcases ho.out.2 with ⟨rfl, _⟩ | ⟨g, cap, cur, rfl, _, e3, _⟩
  · simp [Value.ownBlock]
  · intro e
    simp [Value.ownBlock] at e
    exact map_ne h e3 e
/-- All that it needs stays, if its blocks do. -/
def DF (fb gd gu gb ov mw : Nat) (val : Int → Value) (k : Nat) : Prop := FF fb gd gu gb k ∨ k = ov ∨ k = mw ∨ ∃ a, (val a).ownBlock = some k
theorem DR.lt {w B fb gd gu gb ov mw n door f over wt val c} (h : DR w B fb gd gu gb ov mw n door f over wt val c) : ∀ k, DF fb gd gu gb ov mw val k → k < w.heap.size ∧ B ≤ k := by
  obtain ⟨D, d1, _⟩ := h.mp
  rintro k (hk | rfl | rfl | ⟨a, ha⟩)
  · exact ⟨h.fr.lt k hk, h.lo k (.inl hk)⟩
  · exact ⟨(Array.getElem?_eq_some_iff.1 h.ovr).1, h.lo k (.inr (.inl rfl))⟩
  · exact ⟨d1.lt, h.lo k (.inr (.inr rfl))⟩
  · have := own_block (h.own a).out ha; exact ⟨this.2, this.1⟩
theorem DR.move {w w' : World} {B fb gd gu gb ov mw n door f over wt val c} (h : DR w B fb gd gu gb ov mw n door f over wt val c) (hk : ∀ k, DF fb gd gu gb ov mw val k → w'.heap[k]? = w.heap[k]?) : DR w' B fb gd gu gb ov mw n door f over wt val c := by
  obtain ⟨D, d1, d2⟩ := h.mp
  exact ⟨h.fr.move fun k hf => hk k (.inl hf), (hk ov (.inr (.inl rfl))).trans h.ovr, h.lo, ⟨D, own_map_moveR d1 (hk mw (.inr (.inr (.inl rfl)))), d2⟩, fun a => ⟨(h.own a).len, own_move (h.own a).out fun g hg => hk g (.inr (.inr (.inr ⟨a, hg⟩)))⟩, h.ne, h.apart, h.ovne⟩
theorem DR.drewN {w B fb gd gu gb ov mw n door f over wt val c} (h : DR w B fb gd gu gb ov mw n door f over wt val c) (k : Nat) : DR (w.drewN k) B fb gd gu gb ov mw n door f over wt val c := h.move fun g hg => drewN_at w k g (h.lt g hg).1
/-- The forest's lists were turned, nothing else. -/
theorem DR.forest {w w' : World} {B fb gd gu gb ov mw n door f over wt val c door' f'} (h : DR w B fb gd gu gb ov mw n door f over wt val c) (hf : FR w' fb gd gu gb n door' f') (ho : ∀ k, k < w.heap.size → k ≠ gd → k ≠ gu → k ≠ gb → w'.heap[k]? = w.heap[k]?) : DR w' B fb gd gu gb ov mw n door' f' over wt val c := by
  obtain ⟨D, d1, d2⟩ := h.mp
  have hm : gd ≠ mw ∧ gu ≠ mw ∧ gb ≠ mw := ⟨map_ne d1 h.fr.d, map_ne d1 h.fr.u, map_ne d1 h.fr.b⟩
  refine ⟨hf, (ho ov (h.lt ov (.inr (.inl rfl))).1 h.ovne.1 h.ovne.2.1 h.ovne.2.2).trans h.ovr, h.lo, ⟨D, own_map_moveR d1 (ho mw d1.lt hm.1.symm hm.2.1.symm hm.2.2.symm), d2⟩, fun a => ⟨(h.own a).len, own_move (h.own a).out fun g hg => ?_⟩, h.ne, h.apart, h.ovne⟩
  obtain ⟨p1, p2, p3, _⟩ := h.apart a g hg
  exact ho g (own_block (h.own a).out hg).2 p1 p2 p3
theorem DR.over {w : World} {B fb gd gu gb ov mw n door f over wt val c} (h : DR w B fb gd gu gb ov mw n door f over wt val c) (i : Nat) (v : Int) : DR (w.setCell ⟨ov, i, none⟩ (.int .i64 v)) B fb gd gu gb ov mw n door f (over.set i v) wt val c := by
  obtain ⟨D, d1, d2⟩ := h.mp
  have hfo : fb ≠ ov := by rintro rfl; have := h.fr.box; rw [h.ovr] at this; simp only [Option.some.injEq, Obj.cells.injEq] at this; exact absurd this.2.1 (by decide)
  refine ⟨h.fr.move fun k hk => heap_set_other ?_, ?_, h.lo, ⟨D, own_map_moveR d1 (heap_set_other (map_ne d1 h.ovr).symm), d2⟩, fun a => ⟨(h.own a).len, own_move (h.own a).out fun g hg => heap_set_other (h.apart a g hg).2.2.2⟩, h.ne, h.apart, h.ovne⟩
  · rcases hk with rfl | rfl | rfl | rfl
    · exact hfo
    · exact h.ovne.1.symm
    · exact h.ovne.2.1.symm
    · exact h.ovne.2.2.symm
  · have := heap_set_at (i := i) (v := .int .i64 v) h.ovr
    rw [ivs_set] at this; exact this
end Go.Proofs.Ythjjdfiaikibaab
