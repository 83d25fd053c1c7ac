import Derived.Test.YteiambniddddpaaDoorLxBl
set_option linter.unusedVariables false
namespace Go.Proofs.YteiambniddddpaaDoor
open Go.ChangeShapes Go.WideShapes Go.ChangeAt Go.RowKit

theorem strCells_bs (S : List UInt8) : Lib.strCells (bs S) = bvs S := by
  unfold Lib.strCells bvs bs
  simp

/-- append(c, s...) of a string. -/
theorem wpList_append_str {w : World} {ops : Array Oper} {rest : List Oper} {op : Oper} {a : Act} {Q : Exit → Act → World → Prop} (hgd : op.guard = none) (s x : Operand)
    (ho : op.op = .call { callee := .builtin .append, args := #[s, x], argTypes := #[23, 9] })
    (B : Nat) (v : Value) (n : Nat) (M : List UInt8) (hs : a.eval s = v) (hown : OwnB w B v n M) (u : ByteArray) (X : List UInt8) (hx : a.eval x = .string u) (hu : u = bs X)
    (hl : n + X.length ≤ 100000000) (hB : B ≤ w.heap.size)
    (h : ∀ v' w', OwnB w' B v' (n + X.length) (M ++ X) → w.grownBy w' v.ownBlock → wpList Tryd.prog ops Q rest (a.put op.dst v') w') : wpList Tryd.prog ops Q (op :: rest) a w := by
  subst hu
  obtain ⟨i0, hi, hz0, hz1, hz2⟩ := info_parts info5
  refine Lib.wpList_append_own_string _ hgd s x 23 9 ho B 5 i0 Tryd.underlying23 Tryd.underlying9 hi hz0 hz1 hz2 v n (bvs M) hs hown.out (bs X) hx (by rw [bs_size]; unfold maxLen; omega) (by rw [bs_size]; omega) hB ?_
  intro v' w' h1 h2 _
  rw [bs_size, strCells_bs] at h1
  exact h v' w' ⟨by simp; exact hown.len, by rw [bvs_append]; exact h1⟩ h2

/-- Two rows of the call's own: one is grown, the other stays. -/
theorem own_grown {w w' : World} {B e s n xs} {v : Value} {row : Option Nat} (h : w.ownsRow B e s v n xs) (hg : w.grownBy w' row) (hne : ∀ g, v.ownBlock = some g → row ≠ some g) : w'.ownsRow B e s v n xs := by
  refine ⟨h.1, h.2.imp id ?_⟩
  rintro ⟨g, cap, cur, e1, e2, e3, e4⟩
  have hlt : g < w.heap.size := (Array.getElem?_eq_some_iff.1 e3).1
  exact ⟨g, cap, cur, e1, e2, (hg.block g hlt (fun e => hne g (by rw [e1]; rfl) e.symm)).trans e3, e4⟩
/-- Rows of two element types are two rows. -/
theorem own_apart {w : World} {B1 B2 e1 e2 s1 s2 n1 n2 x1 x2} {v1 v2 : Value} (h1 : w.ownsRow B1 e1 s1 v1 n1 x1) (h2 : w.ownsRow B2 e2 s2 v2 n2 x2) (hne : e1 ≠ e2) : ∀ g, v1.ownBlock = some g → v2.ownBlock ≠ some g := by
  intro g hg1 hg2
  rcases h1.2 with ⟨rfl, _⟩ | ⟨g1, _, _, rfl, _, e3, _⟩
  · simp [Value.ownBlock] at hg1
  · rcases h2.2 with ⟨rfl, _⟩ | ⟨g2, _, _, rfl, _, e4, _⟩
    · simp [Value.ownBlock] at hg2
    · simp [Value.ownBlock] at hg1 hg2
      subst hg1 hg2
      rw [e3] at e4
      simp at e4
      exact hne e4.2

/-- Pieces that came in. -/
structure Pcs (w : World) (b o m : Nat) (K N G : Nat → Int) : Prop where
  lt : b < w.heap.size
  cell : ∀ i, i < m → w.cell? ⟨b, o + i * 3, none⟩ = some (.int .i64 (K i)) ∧ w.cell? ⟨b, o + i * 3 + 1, none⟩ = some (.int .i64 (N i)) ∧ w.cell? ⟨b, o + i * 3 + 2, none⟩ = some (.int .i64 (G i))
  fit : ∀ i, i < m → -9223372036854775808 ≤ N i ∧ N i ≤ 9223372036854775807
theorem Pcs.below {w w' b o m K N G B} (h : Pcs w b o m K N G) (hb : Below B w w') (hB : w.heap.size ≤ B) : Pcs w' b o m K N G := by
  have hlt : b < B := by have := h.lt; omega
  refine ⟨by have := h.lt; have := hb.size; omega, fun i hi => ?_, h.fit⟩
  rw [hb.cell (p := ⟨b, _, none⟩) hlt, hb.cell (p := ⟨b, _, none⟩) hlt, hb.cell (p := ⟨b, _, none⟩) hlt]
  exact h.cell i hi

/-- The state of the text and of the list that is wanted. -/
structure Two (w wr : World) (v1 v2 : Value) (n : Nat) (X : List UInt8) (ts : List T) : Prop where
  txt : OwnB wr w.heap.size v1 n X
  tok : Own wr w.heap.size v2 ts
  br : BR X ts
  bel : Below w.heap.size w wr

end Go.Proofs.YteiambniddddpaaDoor
