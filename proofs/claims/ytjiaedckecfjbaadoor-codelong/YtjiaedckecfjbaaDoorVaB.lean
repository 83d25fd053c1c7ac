import Derived.Test.YtjiaedckecfjbaaDoorVaA
set_option linter.unusedVariables false
set_option linter.unusedSimpArgs false
namespace Go.Proofs.YtjiaedckecfjbaaDoor
open Go.ChangeShapes Go.WideShapes Go.ChangeAt Go.RowKit Go.Maps

/-- Where a machine of code lies: what does not change. -/
structure Rst where
  mb : Nat
  hb : Nat
  hm : Nat
  hn : Nat
  sb : Nat
  hi : Nat
  co : Option Addr
  cc : Nat
  fo : Option Addr
  fc : Nat
  C : List Ri
  FS : List Rf
  S : Int
  room : Int
  st : Nat → Prop
  w0 : World
/-- What changes. -/
structure Rdy where
  ia : Option Addr
  ic : Nat
  ve : Value
/-- The machine's cells behind its registers. -/
def rtl (s : Rst) (d : Rdy) (R : Rv) : List Value := [.map (some s.sb), .int .i64 s.S, .int .i64 R.base, .int .i64 R.top, .int .i64 R.frames, .pointer (some ⟨s.hb, 0, none⟩), .int .i64 s.room, .slice d.ia R.inp.length d.ic, d.ve, .int .i64 R.fin, .int .i64 R.kd, .int .i64 R.vl, .int .i64 R.steps, .int .i64 R.words, .int .i64 R.deep, .bool R.rests]
def AgrR (s : Rst) (w : World) : Prop := ∀ k, s.st k → w.heap[k]? = s.w0.heap[k]?
def footR (s : Rst) (d : Rdy) (k : Nat) : Prop := k = s.mb ∨ CF s.hb s.hm s.hn k ∨ k = s.sb ∨ d.ve.ownBlock = some k
/-- The stack's words. -/
structure SW (w : World) (b c : Nat) (f : Int → Int) : Prop where
  out : ∃ D, w.ownsMap Tryd.prog 3 (plainElem (H := Unit) Tryd.prog 3) b c D ∧ ∀ a, Fits a → D.atKey (.int .i64 a) (.lit (.int .i64 0)) = .lit (.int .i64 (f a))
theorem SW.move {w w' b c f} (h : SW w b c f) (hk : w'.heap[b]? = w.heap[b]?) : SW w' b c f := by
  obtain ⟨D, d1, d2⟩ := h.out
  exact ⟨D, own_map_move d1 hk, d2⟩
theorem SW.lt {w b c f} (h : SW w b c f) : b < w.heap.size ∧ ∀ A t z, w.heap[b]? ≠ some (.cells A t z) := by
  obtain ⟨D, ⟨es, cl, d1, d2⟩, _⟩ := h.out
  exact ⟨(Array.getElem?_eq_some_iff.1 d1).1, fun A t f q => by rw [d1] at q; cases q⟩
theorem not_ownR {w : World} {B e z v n xs} (h : w.ownsRow B e z v n xs) {g : Nat} (hg : g < B) : v.ownBlock ≠ some g := fun e => by have := (own_block h e).1; omega
structure FooR (s : Rst) (d d' : Rdy) (w w' : World) : Prop where
  only : Only (footR s d) w w'
  new : ∀ k, footR s d' k → footR s d k ∨ w.heap.size ≤ k
theorem FooR.refl (s : Rst) (d : Rdy) (w : World) : FooR s d d w w := ⟨Only.refl _ _, fun k h => .inl h⟩
theorem FooR.trans {s d d' d'' w w' w''} (h : FooR s d d' w w') (k : FooR s d' d'' w' w'') : FooR s d d'' w w'' :=
  ⟨h.only.trans k.only fun i hi hf => (h.new i hf).elim id (fun q => by omega), fun i hf => (k.new i hf).elim (fun q => h.new i q) (fun q => .inr (Nat.le_trans h.only.size q))⟩
theorem FooR.of_below {s d w w'} (h : Below w.heap.size w w') : FooR s d d w w' := ⟨Only.of_below h _, fun k q => .inl q⟩
theorem FooR.set (s : Rst) (d : Rdy) (w : World) (i : Nat) (v : Value) : FooR s d d w (w.setCell ⟨s.mb, i, none⟩ v) := ⟨(Only.of_set w _ v).mono fun k _ hk => .inl hk, fun k hk => .inl hk⟩
/-- The cells that are no registers. -/
structure RC (s : Rst) (d : Rdy) (w : World) (R : Rv) : Prop where
  c39 : w.cell? ⟨s.mb, 39, none⟩ = some (.slice s.co s.C.length s.cc)
  c40 : w.cell? ⟨s.mb, 40, none⟩ = some (.slice s.fo s.FS.length s.fc)
  c41 : w.cell? ⟨s.mb, 41, none⟩ = some (.int .i64 R.nx)
  c58 : w.cell? ⟨s.mb, 58, none⟩ = some (.map (some s.sb))
  c59 : w.cell? ⟨s.mb, 58 + 1, none⟩ = some (.int .i64 s.S)
  c60 : w.cell? ⟨s.mb, 58 + 2, none⟩ = some (.int .i64 R.base)
  c61 : w.cell? ⟨s.mb, 58 + 3, none⟩ = some (.int .i64 R.top)
  c62 : w.cell? ⟨s.mb, 58 + 4, none⟩ = some (.int .i64 R.frames)
  c63 : w.cell? ⟨s.mb, 63, none⟩ = some (.pointer (some ⟨s.hb, 0, none⟩))
  c64 : w.cell? ⟨s.mb, 64, none⟩ = some (.int .i64 s.room)
  c65 : w.cell? ⟨s.mb, 65, none⟩ = some (.slice d.ia R.inp.length d.ic)
  c66 : w.cell? ⟨s.mb, 66, none⟩ = some d.ve
  c67 : w.cell? ⟨s.mb, 66 + 1, none⟩ = some (.int .i64 R.fin)
  c68 : w.cell? ⟨s.mb, 66 + 2, none⟩ = some (.int .i64 R.kd)
  c69 : w.cell? ⟨s.mb, 66 + 3, none⟩ = some (.int .i64 R.vl)
  c70 : w.cell? ⟨s.mb, 66 + 4, none⟩ = some (.int .i64 R.steps)
  c71 : w.cell? ⟨s.mb, 66 + 5, none⟩ = some (.int .i64 R.words)
  c72 : w.cell? ⟨s.mb, 66 + 6, none⟩ = some (.int .i64 R.deep)
  c73 : w.cell? ⟨s.mb, 66 + 7, none⟩ = some (.bool R.rests)
theorem box_setR {w : World} {b i : Nat} {A A' : List Value} {v : Value} {t : TypeId} (h : w.heap[b]? = some (.cells A.toArray t (0, 0))) (e : A.set i v = A') : (w.setCell ⟨b, i, none⟩ v).heap[b]? = some (.cells A'.toArray t (0, 0)) := by
  have := heap_set_at (i := i) (v := v) h
  rw [this, ← e]
  simp
end Go.Proofs.YtjiaedckecfjbaaDoor
