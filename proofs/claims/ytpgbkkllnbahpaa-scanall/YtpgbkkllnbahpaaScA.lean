import Derived.Test.YtpgbkkllnbahpaaScJ
import Derived.Test.YtpgbkkllnbahpaaScP
set_option linter.unusedVariables false
set_option linter.unusedSimpArgs false
namespace Go.Proofs.Ytpgbkkllnbahpaa
open Go.ChangeShapes Go.WideShapes Go.ChangeAt Go.RowKit Go.Maps

def ic (r : Int) : List Value := [.int .i64 r]
def vc (x : Iv) : List Value := [.int .i64 x.1, .int .i64 x.2.1, .int .i64 x.2.2]
def lc (p : Lc) : List Value := [.int .i64 p.1, .int .i64 p.2]
def va (x : Iv) : Value := .agg #[.int .i64 x.1, .int .i64 x.2.1, .int .i64 x.2.2]
def la (p : Lc) : Value := .agg #[.int .i64 p.1, .int .i64 p.2]
def fxI {α : Type} (p : α → Bool) (l : List α) : Int := if l.findIdx p < l.length then (l.findIdx p : Int) else -1
theorem one_ic {L : List Int} : ∀ x ∈ L.map ic, ∀ u ∈ x, u.oneCell' = true := by
  intro x hx u hu
  obtain ⟨y, _, rfl⟩ := List.mem_map.1 hx
  simp [ic] at hu
  subst hu
  rfl
theorem one_vc {L : List Iv} : ∀ x ∈ L.map vc, ∀ u ∈ x, u.oneCell' = true := by
  intro x hx u hu
  obtain ⟨y, _, rfl⟩ := List.mem_map.1 hx
  simp [vc] at hu
  rcases hu with rfl | rfl | rfl <;> rfl
theorem one_lc {L : List Lc} : ∀ x ∈ L.map lc, ∀ u ∈ x, u.oneCell' = true := by
  intro x hx u hu
  obtain ⟨y, _, rfl⟩ := List.mem_map.1 hx
  simp [lc] at hu
  rcases hu with rfl | rfl <;> rfl
theorem findIdx_step {α : Type} {p : α → Bool} {l : List α} {k : Nat} (hk : k < l.length) (h : ∀ i (q : i < l.length), i < k → p l[i] = false) (hp : p l[k] = true) : l.findIdx p = k := by
  rw [List.findIdx_eq hk]
  exact ⟨hp, fun j hj => by simpa using h j (by omega) hj⟩
theorem findIdx_none {α : Type} {p : α → Bool} {l : List α} (h : ∀ i (q : i < l.length), p l[i] = false) : l.findIdx p = l.length := by
  rw [List.findIdx_eq_length]
  intro x hx
  obtain ⟨i, hi, rfl⟩ := List.getElem_of_mem hx
  exact h i hi
theorem free1_any (w : World) (rb : Nat) (r y : Int) (hc : w.cell? ⟨rb, 0, none⟩ = some (.int .i64 r)) : Calls Try.prog 28 #[.int .i64 y, .pointer (some ⟨rb, 0, none⟩)] w fun e w' => e = .returned (.bool (decide (r < y))) ∧ w' = w := by
  go_enter Try.func28, Try.ntmps28
  go_wp2
  go_ret
  exact ⟨rfl, rfl⟩
/-- A box with an interval. -/
structure BxV (w : World) (xb : Nat) (x : Iv) : Prop where
  out : w.heap[xb]? = some (.cells #[.int .i64 x.1, .int .i64 x.2.1, .int .i64 x.2.2] 35 (0, 0))
theorem BxV.keep {w w' : World} {xb x} (h : BxV w xb x) (hb : Below w.heap.size w w') : BxV w' xb x := ⟨(hb.block xb (Array.getElem?_eq_some_iff.1 h.out).1).trans h.out⟩
theorem BxV.lt {w : World} {xb x} (h : BxV w xb x) : xb < w.heap.size := (Array.getElem?_eq_some_iff.1 h.out).1
theorem BxV.cells {w : World} {xb x} (h : BxV w xb x) : w.cell? ⟨xb, 0, none⟩ = some (.int .i64 x.1) ∧ w.cell? ⟨xb, 1, none⟩ = some (.int .i64 x.2.1) ∧ w.cell? ⟨xb, 2, none⟩ = some (.int .i64 x.2.2) := by
  refine ⟨?_, ?_, ?_⟩ <;> simp [World.cell?, h.out]
set_option maxRecDepth 10000 in
theorem take1_any (w : World) (xb : Nat) (x o : Iv) (hx : BxV w xb x) : Calls Try.prog 31 #[va o, .pointer (some ⟨xb, 0, none⟩)] w fun e w' => e = .returned (.bool (aft x o)) ∧ Below w.heap.size w w' := by
  obtain ⟨c0, c1, c2⟩ := hx.cells
  have hlt := hx.lt
  obtain ⟨x0, x1, x2⟩ := x
  obtain ⟨y0, y1, y2⟩ := o
  unfold va aft
  simp only at c0 c1 c2 ⊢
  clear hx
  by_cases h1 : x2 < y2
  · go_enter Try.func31, Try.ntmps31
    go_wp2
    go_ret
    exact ⟨by simp [h1], by repeat (first | refine Below.alloc ?_ (by first | omega | (simp; done) | (simp; omega)) _ | refine Below.drew ?_ | exact Below.refl _ _)⟩
  · by_cases h2 : y2 = x2
    · subst h2
      go_enter Try.func31, Try.ntmps31
      go_wp2
      go_ret
      exact ⟨by simp, by repeat (first | refine Below.alloc ?_ (by first | omega | (simp; done) | (simp; omega)) _ | refine Below.drew ?_ | exact Below.refl _ _)⟩
    · have e2 : (y2 == x2) = false := by simpa using h2
      go_enter Try.func31, Try.ntmps31
      go_wp2
      go_ret
      exact ⟨by simp [h1, h2], by repeat (first | refine Below.alloc ?_ (by first | omega | (simp; done) | (simp; omega)) _ | refine Below.drew ?_ | exact Below.refl _ _)⟩
end Go.Proofs.Ytpgbkkllnbahpaa
