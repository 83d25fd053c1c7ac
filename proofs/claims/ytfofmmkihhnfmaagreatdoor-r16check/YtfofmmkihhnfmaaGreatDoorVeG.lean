import Derived.Test.YtfofmmkihhnfmaaGreatDoorVeF
set_option linter.unusedVariables false
set_option linter.unusedSimpArgs false
namespace Go.Proofs.YtfofmmkihhnfmaaGreatDoor
open Go.ChangeShapes Go.WideShapes Go.ChangeAt Go.RowKit Go.Maps

theorem LnC.setI {w W : World} {g n gc v xs ys} (h : LnC w W (.slice (some ⟨g, 0, none⟩) n gc) v xs ys) (hn : n = xs.length) {i : Nat} (hi : i < xs.length) {r : Nat} (hr : r < 5) (u : Value) : LnC w (W.setCell ⟨g, i * 5 + r, none⟩ u) (.slice (some ⟨g, 0, none⟩) n gc) v (xs.set i ((xs[i]).set r u)) ys := by
  have hg := own_block h.ins.out (g := g) rfl
  obtain ⟨b, c, cs, e1, _, _, _, k⟩ := h.ins.some (by omega)
  simp only [Value.slice.injEq, Option.some.injEq, Addr.mk.injEq] at e1
  obtain ⟨⟨rfl, _⟩, _, _⟩ := e1
  exact ⟨rowSetG h.ins hn hi hr u, h.fns.move fun q hq => heap_set_other fun e => own_not h.fns.out k (by decide) (e ▸ hq), h.low.setCell hg.1 _⟩
theorem LnC.setR {w W : World} {g n gc u xs ys} (h : LnC w W u (.slice (some ⟨g, 0, none⟩) n gc) xs ys) (hn : n = ys.length) {i : Nat} (hi : i < ys.length) {r : Nat} (hr : r < 5) (x : Value) : LnC w (W.setCell ⟨g, i * 5 + r, none⟩ x) u (.slice (some ⟨g, 0, none⟩) n gc) xs (ys.set i ((ys[i]).set r x)) := by
  have hg := own_block h.fns.out (g := g) rfl
  obtain ⟨b, c, cs, e1, _, _, _, k⟩ := h.fns.some (by omega)
  simp only [Value.slice.injEq, Option.some.injEq, Addr.mk.injEq] at e1
  obtain ⟨⟨rfl, _⟩, _, _⟩ := e1
  exact ⟨h.ins.move fun q hq => heap_set_other fun e => own_not h.ins.out k (by decide) (e ▸ hq), rowSetG h.fns hn hi hr x, h.low.setCell hg.1 _⟩
theorem set_five {α : Type} {xs : List (List α)} {i : Nat} (hi : i < xs.length) {b0 b1 b2 b3 b4 : α} (hx : xs[i] = [b0, b1, b2, b3, b4]) (a0 a1 a2 a3 a4 : α) :
    ((((xs.set i ((xs[i]).set 0 a0)).set i (((xs[i]).set 0 a0).set 1 a1)).set i ((((xs[i]).set 0 a0).set 1 a1).set 2 a2)).set i (((((xs[i]).set 0 a0).set 1 a1).set 2 a2).set 3 a3)).set i ((((((xs[i]).set 0 a0).set 1 a1).set 2 a2).set 3 a3).set 4 a4) = xs.set i [a0, a1, a2, a3, a4] := by
  rw [hx]
  simp [List.set_set]
/-- Five cells of an entry. -/
theorem LnC.putI {w W : World} {g n gc v xs ys} (h : LnC w W (.slice (some ⟨g, 0, none⟩) n gc) v xs ys) (hn : n = xs.length) {i : Nat} (hi : i < xs.length) {b0 b1 b2 b3 b4 : Value} (hx : xs[i] = [b0, b1, b2, b3, b4]) (a0 a1 a2 a3 a4 : Value) :
    LnC w (((((W.setCell ⟨g, i * 5, none⟩ a0).setCell ⟨g, i * 5 + 1, none⟩ a1).setCell ⟨g, i * 5 + 2, none⟩ a2).setCell ⟨g, i * 5 + 3, none⟩ a3).setCell ⟨g, i * 5 + 4, none⟩ a4) (.slice (some ⟨g, 0, none⟩) n gc) v (xs.set i [a0, a1, a2, a3, a4]) ys := by
  have s0 := h.setI hn hi (r := 0) (by omega) a0
  have s1 := s0.setI (by rw [List.length_set]; exact hn) (by rw [List.length_set]; exact hi) (r := 1) (by omega) a1
  rw [List.getElem_set_self] at s1
  have s2 := s1.setI (by rw [List.length_set, List.length_set]; exact hn) (by rw [List.length_set, List.length_set]; exact hi) (r := 2) (by omega) a2
  rw [List.getElem_set_self] at s2
  have s3 := s2.setI (by rw [List.length_set, List.length_set, List.length_set]; exact hn) (by rw [List.length_set, List.length_set, List.length_set]; exact hi) (r := 3) (by omega) a3
  rw [List.getElem_set_self] at s3
  have s4 := s3.setI (by rw [List.length_set, List.length_set, List.length_set, List.length_set]; exact hn) (by rw [List.length_set, List.length_set, List.length_set, List.length_set]; exact hi) (r := 4) (by omega) a4
  rw [List.getElem_set_self, set_five hi hx] at s4
  exact s4
theorem LnC.putR {w W : World} {g n gc u xs ys} (h : LnC w W u (.slice (some ⟨g, 0, none⟩) n gc) xs ys) (hn : n = ys.length) {i : Nat} (hi : i < ys.length) {b0 b1 b2 b3 b4 : Value} (hx : ys[i] = [b0, b1, b2, b3, b4]) (a0 a1 a2 a3 a4 : Value) :
    LnC w (((((W.setCell ⟨g, i * 5, none⟩ a0).setCell ⟨g, i * 5 + 1, none⟩ a1).setCell ⟨g, i * 5 + 2, none⟩ a2).setCell ⟨g, i * 5 + 3, none⟩ a3).setCell ⟨g, i * 5 + 4, none⟩ a4) u (.slice (some ⟨g, 0, none⟩) n gc) xs (ys.set i [a0, a1, a2, a3, a4]) := by
  have s0 := h.setR hn hi (r := 0) (by omega) a0
  have s1 := s0.setR (by rw [List.length_set]; exact hn) (by rw [List.length_set]; exact hi) (r := 1) (by omega) a1
  rw [List.getElem_set_self] at s1
  have s2 := s1.setR (by rw [List.length_set, List.length_set]; exact hn) (by rw [List.length_set, List.length_set]; exact hi) (r := 2) (by omega) a2
  rw [List.getElem_set_self] at s2
  have s3 := s2.setR (by rw [List.length_set, List.length_set, List.length_set]; exact hn) (by rw [List.length_set, List.length_set, List.length_set]; exact hi) (r := 3) (by omega) a3
  rw [List.getElem_set_self] at s3
  have s4 := s3.setR (by rw [List.length_set, List.length_set, List.length_set, List.length_set]; exact hn) (by rw [List.length_set, List.length_set, List.length_set, List.length_set]; exact hi) (r := 4) (by omega) a4
  rw [List.getElem_set_self, set_five hi hx] at s4
  exact s4
theorem LnB.set {W : World} {p A B} (h : LnB W p A B) {g : Nat} (h0 : g ≠ p) (h1 : g ≠ p + 1) (i : Nat) (u : Value) : LnB (W.setCell ⟨g, i, none⟩ u) p A B := ⟨(heap_set_other (Ne.symm h0)).trans h.k0, (heap_set_other (Ne.symm h1)).trans h.k1⟩
theorem LnB.put {W : World} {p A B} (h : LnB W p A B) {g : Nat} (h0 : g ≠ p) (h1 : g ≠ p + 1) (i0 i1 i2 i3 i4 : Nat) (u0 u1 u2 u3 u4 : Value) : LnB (((((W.setCell ⟨g, i0, none⟩ u0).setCell ⟨g, i1, none⟩ u1).setCell ⟨g, i2, none⟩ u2).setCell ⟨g, i3, none⟩ u3).setCell ⟨g, i4, none⟩ u4) p A B :=
  ((((h.set h0 h1 _ _).set h0 h1 _ _).set h0 h1 _ _).set h0 h1 _ _).set h0 h1 _ _
/-- The blocks of what was lent. -/
def GH (g h : Nat) (k : Nat) : Prop := k = g ∨ k = h
theorem onlyE_set {F : Nat → Prop} {w w' : World} {g : Nat} (h : Only F w w') (hg : F g) (j : Nat) (u : Value) : Only F w (w'.setCell ⟨g, j, none⟩ u) := h.trans (Only.of_set w' ⟨g, j, none⟩ u) fun i _ e => by rw [show i = g from e]; exact hg
theorem onlyE_put {F : Nat → Prop} {w w' : World} {g : Nat} (h : Only F w w') (hg : F g) (i0 i1 i2 i3 i4 : Nat) (u0 u1 u2 u3 u4 : Value) : Only F w (((((w'.setCell ⟨g, i0, none⟩ u0).setCell ⟨g, i1, none⟩ u1).setCell ⟨g, i2, none⟩ u2).setCell ⟨g, i3, none⟩ u3).setCell ⟨g, i4, none⟩ u4) :=
  onlyE_set (onlyE_set (onlyE_set (onlyE_set (onlyE_set h hg _ _) hg _ _) hg _ _) hg _ _) hg _ _
theorem onlyE_keep {F : Nat → Prop} {w w' w'' : World} (h : Only F w w') (b : Below w'.heap.size w' w'') : Only F w w'' := h.trans (Only.of_below b (fun _ => False)) fun _ _ q => q.elim
/-- A list part of which was written over. -/
def ovr5 (o : List Value) (L : List (List Value)) (mk : List Value) (i : Nat) : List (List Value) := (List.replicate i o ++ L.drop i) ++ [mk]
theorem ovr5_len (o : List Value) (L : List (List Value)) (mk : List Value) {i : Nat} (hi : i ≤ L.length) : (ovr5 o L mk i).length = L.length + 1 := by
  unfold ovr5
  simp
  omega
theorem ovr5_zero (o : List Value) (L : List (List Value)) (mk : List Value) : ovr5 o L mk 0 = L ++ [mk] := by
  unfold ovr5
  simp
theorem ovr5_at (o : List Value) (L : List (List Value)) (mk : List Value) {i : Nat} (hi : i < L.length) : (ovr5 o L mk i)[i]? = some L[i] := by
  unfold ovr5
  rw [List.getElem?_append_left (by simp; omega), List.getElem?_append_right (by simp)]
  simp [hi]
theorem ovr5_set (o : List Value) (L : List (List Value)) (mk : List Value) {i : Nat} (hi : i < L.length) : (ovr5 o L mk i).set i o = ovr5 o L mk (i + 1) := by
  unfold ovr5
  rw [List.set_append_left _ _ (by simp; omega), List.set_append_right _ _ (by simp)]
  congr 1
  rw [List.length_replicate, Nat.sub_self, List.drop_eq_getElem_cons hi, List.set_cons_zero, List.replicate_succ', List.append_assoc]
  rfl
theorem ovr5_end (o : List Value) (L : List (List Value)) (mk : List Value) : ovr5 o L mk L.length = List.replicate L.length o ++ [mk] := by
  unfold ovr5
  simp
/-- The mark. -/
theorem ovr5_mark (o : List Value) (L : List (List Value)) (mk : List Value) {i : Nat} (hi : i ≤ L.length) : (ovr5 o L mk i)[L.length]? = some mk := by
  unfold ovr5
  rw [List.getElem?_append_right (by simp; omega)]
  simp
  rw [show i + (L.length - i) = L.length by omega, Nat.sub_self]
  rfl
/-- A cell of a row. -/
theorem rowE_cell {W : World} {B e g n c : Nat} {xs : List (List Value)} (h : Row W B e 5 (.slice (some ⟨g, 0, none⟩) n c) xs) {i : Nat} {x : List Value} (hx : xs[i]? = some x) {r : Nat} {u : Value} (hu : x[r]? = some u) : W.cell? ⟨g, i * 5 + r, none⟩ = some u := by
  obtain ⟨hi, e1⟩ := List.getElem?_eq_some_iff.1 hx
  obtain ⟨a, c', ev, _⟩ := own_slice h.out
  simp only [Value.slice.injEq] at ev
  refine h.cell ev.2.1 hi ?_ (by rw [e1]; exact hu)
  have := (List.getElem?_eq_some_iff.1 hu).1
  rw [← e1, h.len _ (List.getElem_mem hi)] at this
  exact this
end Go.Proofs.YtfofmmkihhnfmaaGreatDoor
