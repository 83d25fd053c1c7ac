import Derived.Test.YtdoiblknbpbhaaaMvB
import Derived.Deep.RegionHeld
set_option linter.unusedVariables false
set_option linter.unusedSimpArgs false
namespace Go.Proofs.Ytdoiblknbpbhaaa
open Go.ChangeShapes Go.WideShapes Go.ChangeAt Go.RowKit Go.Maps

/-- Moves in block b from o on. -/
structure AtM (w : World) (b o : Nat) (M : List Mv) : Prop where
  lt : b < w.heap.size
  cell : ∀ i (h : i < M.length), w.cell? ⟨b, o + i * 4, none⟩ = some (.int .i64 M[i].1.1) ∧ w.cell? ⟨b, o + i * 4 + 1, none⟩ = some (.int .i64 M[i].1.2) ∧ w.cell? ⟨b, o + i * 4 + 2, none⟩ = some (.int .i64 M[i].2.1) ∧ w.cell? ⟨b, o + i * 4 + 3, none⟩ = some (.int .i64 M[i].2.2)
structure FitM (m : Mv) : Prop where
  t : FitL m.1
  f : FitL m.2
/-- A slice of moves that holds L. -/
structure Mvs (w : World) (ao : Option Addr) (cap : Nat) (L : List Mv) : Prop where
  le : L.length ≤ cap
  mx : cap ≤ 9223372036854775807
  fit : ∀ m ∈ L, FitM m
  out : L ≠ [] → ∃ b o, ao = some ⟨b, o, none⟩ ∧ AtM w b o L
theorem AtM.below {w w' b o M K} (h : AtM w b o M) (hb : Below K w w') (hK : b < K) : AtM w' b o M :=
  ⟨by have := hb.size; have := h.lt; omega, fun i hi => by
    have := h.cell i hi
    rw [hb.cell (p := ⟨b, o + i * 4, none⟩) hK, hb.cell (p := ⟨b, o + i * 4 + 1, none⟩) hK, hb.cell (p := ⟨b, o + i * 4 + 2, none⟩) hK, hb.cell (p := ⟨b, o + i * 4 + 3, none⟩) hK]
    exact this⟩
theorem Mvs.below {w w' ao cap L K} (h : Mvs w ao cap L) (hb : Below K w w') (hK : w.heap.size ≤ K) : Mvs w' ao cap L :=
  ⟨h.le, h.mx, h.fit, fun hn => by
    obtain ⟨b, o, e, hA⟩ := h.out hn
    exact ⟨b, o, e, hA.below hb (Nat.lt_of_lt_of_le hA.lt hK)⟩⟩
theorem AtM.move {w w' : World} {b o : Nat} {M : List Mv} (h : AtM w b o M) (hk : w'.heap[b]? = w.heap[b]?) : AtM w' b o M := by
  refine ⟨?_, fun i hi => ?_⟩
  · have := h.lt
    have h1 : w.heap[b]? = some w.heap[b] := Array.getElem?_eq_getElem this
    rw [h1] at hk
    exact (Array.getElem?_eq_some_iff.1 hk).1
  · have := h.cell i hi
    rw [World.cell?_of_block (w := w) (a := ⟨b, o + i * 4, none⟩) hk, World.cell?_of_block (w := w) (a := ⟨b, o + i * 4 + 1, none⟩) hk, World.cell?_of_block (w := w) (a := ⟨b, o + i * 4 + 2, none⟩) hk, World.cell?_of_block (w := w) (a := ⟨b, o + i * 4 + 3, none⟩) hk]
    exact this
theorem Mvs.at {w ao cap L} (h : Mvs w ao cap L) {i : Nat} (hi : i < L.length) : ∃ b o, ao = some ⟨b, o, none⟩ ∧ b < w.heap.size ∧ w.cell? ⟨b, o + i * 4, none⟩ = some (.int .i64 L[i].1.1) ∧ w.cell? ⟨b, o + i * 4 + 1, none⟩ = some (.int .i64 L[i].1.2) ∧ w.cell? ⟨b, o + i * 4 + 2, none⟩ = some (.int .i64 L[i].2.1) ∧ w.cell? ⟨b, o + i * 4 + 3, none⟩ = some (.int .i64 L[i].2.2) := by
  obtain ⟨b, o, e, hA⟩ := h.out (by rintro rfl; simp at hi)
  obtain ⟨h1, h2, h3, h4⟩ := hA.cell i hi
  exact ⟨b, o, e, hA.lt, h1, h2, h3, h4⟩
/-- The cells of moves. -/
def mcs (L : List Mv) : List Value := L.flatMap fun m => [.int .i64 m.1.1, .int .i64 m.1.2, .int .i64 m.2.1, .int .i64 m.2.2]
theorem mcs_len : ∀ L : List Mv, (mcs L).length = L.length * 4
  | [] => rfl
  | m :: L => by
    have := mcs_len L
    unfold mcs at this ⊢
    simp only [List.flatMap_cons, List.length_append, List.length_cons, List.length_nil, this]
    omega
theorem mcs_app (L M : List Mv) : mcs (L ++ M) = mcs L ++ mcs M := by simp [mcs]
theorem mcs_at : ∀ (L : List Mv) (i : Nat) (h : i < L.length), (mcs L)[i * 4]? = some (.int .i64 L[i].1.1) ∧ (mcs L)[i * 4 + 1]? = some (.int .i64 L[i].1.2) ∧ (mcs L)[i * 4 + 2]? = some (.int .i64 L[i].2.1) ∧ (mcs L)[i * 4 + 3]? = some (.int .i64 L[i].2.2)
  | m :: L, 0, _ => ⟨rfl, rfl, rfl, rfl⟩
  | m :: L, i + 1, h => by
    have := mcs_at L i (by simpa using h)
    have e : mcs (m :: L) = .int .i64 m.1.1 :: .int .i64 m.1.2 :: .int .i64 m.2.1 :: .int .i64 m.2.2 :: mcs L := rfl
    rw [e, show (i + 1) * 4 = i * 4 + 1 + 1 + 1 + 1 by omega]
    exact this
/-- A slice of moves in a row of its own. -/
structure OwnM (w : World) (B : Nat) (v : Value) (n : Nat) (L : List Mv) : Prop where
  len : n = L.length
  fit : ∀ m ∈ L, FitM m
  out : w.ownsRow B 36 4 v n (mcs L)
theorem OwnM.nil (w : World) (B : Nat) : OwnM w B (.slice none 0 0) 0 [] := ⟨rfl, by simp, World.ownsRow_nil _ _ _ _⟩
theorem OwnM.move {w w' : World} {B v n L} (h : OwnM w B v n L) (hk : ∀ g, v.ownBlock = some g → w'.heap[g]? = w.heap[g]?) : OwnM w' B v n L := ⟨h.len, h.fit, own_move h.out hk⟩
theorem OwnM.keep {w w' B v n L} (h : OwnM w B v n L) (hb : Below w.heap.size w w') : OwnM w' B v n L := ⟨h.len, h.fit, own_keep h.out hb.block⟩
theorem OwnM.mvs {w B v n L} (h : OwnM w B v n L) : ∃ ao c, v = .slice ao n c ∧ Mvs w ao c L := by
  obtain ⟨ao, c, e, h1, h2⟩ := own_slice h.out
  subst e
  refine ⟨ao, c, rfl, by rw [← h.len]; exact h1, h2, h.fit, fun hn => ?_⟩
  have hp : 0 < n := by rw [h.len]; exact List.length_pos_iff.2 hn
  obtain ⟨g, c', e, _, _, hB, hg⟩ := own_some h.out hp
  cases e
  refine ⟨g, 0, rfl, hg, fun i hi => ?_⟩
  have hl := h.len
  obtain ⟨m0, m1, m2, m3⟩ := mcs_at L i hi
  simp only [Nat.zero_add]
  rw [own_cell h.out (i * 4) (by omega), own_cell h.out (i * 4 + 1) (by omega), own_cell h.out (i * 4 + 2) (by omega), own_cell h.out (i * 4 + 3) (by omega)]
  exact ⟨m0, m1, m2, m3⟩
theorem info_mv : (Try.prog.info? 36).map (fun i => (i.zero, i.size, i.bytes)) = some (some (.agg #[.int .i64 0, .int .i64 0, .int .i64 0, .int .i64 0]), 4, 32) := by kernel_rfl
def plP (p : Lc) : Bool := (decide (p.1 = 1) || decide (p.1 = 2)) && decide (0 ≤ p.2)
theorem place_any (w : World) (p : Lc) : Calls Try.prog 32 #[.agg #[.int .i64 p.1, .int .i64 p.2]] w fun e w' => e = .returned (.bool (plP p)) ∧ w' = w.alloc (.cells #[.int .i64 p.1, .int .i64 p.2] 24) := by
  obtain ⟨a, b⟩ := p
  unfold plP
  simp only
  by_cases h1 : a = 1
  · subst h1
    by_cases h3 : 0 ≤ b
    all_goals
      go_enter Try.func32, Try.ntmps32
      go_wp2
      go_ret
      exact ⟨by simp [h3], rfl⟩
  · by_cases h2 : a = 2
    · subst h2
      by_cases h3 : 0 ≤ b
      all_goals
        go_enter Try.func32, Try.ntmps32
        go_wp2
        go_ret
        exact ⟨by simp [h3], rfl⟩
    · have e1 : (a == 1) = false := by simpa using h1
      have e2 : (a == 2) = false := by simpa using h2
      go_enter Try.func32, Try.ntmps32
      go_wp2
      go_ret
      exact ⟨by simp [h1, h2], rfl⟩
theorem refPlace_any (w : World) (p : Lc) : Calls Try.prog 35 #[.agg #[.int .i64 p.1, .int .i64 p.2]] w fun e w' => e = .returned (.bool (plP p)) ∧ w' = w.alloc (.cells #[.int .i64 p.1, .int .i64 p.2] 24) := by
  obtain ⟨a, b⟩ := p
  unfold plP
  simp only
  by_cases h1 : a = 1
  · subst h1
    by_cases h3 : 0 ≤ b
    all_goals
      go_enter Try.func35, Try.ntmps35
      go_wp2
      go_ret
      exact ⟨by simp [h3], rfl⟩
  · by_cases h2 : a = 2
    · subst h2
      by_cases h3 : 0 ≤ b
      all_goals
        go_enter Try.func35, Try.ntmps35
        go_wp2
        go_ret
        exact ⟨by simp [h3], rfl⟩
    · have e1 : (a == 1) = false := by simpa using h1
      have e2 : (a == 2) = false := by simpa using h2
      go_enter Try.func35, Try.ntmps35
      go_wp2
      go_ret
      exact ⟨by simp [h1, h2], rfl⟩
theorem same_any (w : World) (p q : Lc) : Calls Try.prog 27 #[.agg #[.int .i64 p.1, .int .i64 p.2], .agg #[.int .i64 q.1, .int .i64 q.2]] w fun e w' => e = .returned (.bool (decide (p = q))) ∧ Below w.heap.size w w' := by
  obtain ⟨a, b⟩ := p
  obtain ⟨c, d⟩ := q
  by_cases h1 : a = c
  · subst h1
    by_cases h2 : b = d
    · subst h2
      go_enter Try.func27, Try.ntmps27
      go_wp2
      go_ret
      exact ⟨by simp, by repeat (first | refine Below.alloc ?_ (by first | omega | (simp; done) | (simp; omega)) _ | refine Below.drew ?_ | exact Below.refl _ _)⟩
    · have e2 : (b == d) = false := by simpa using h2
      go_enter Try.func27, Try.ntmps27
      go_wp2
      go_ret
      exact ⟨by simp [h2], by repeat (first | refine Below.alloc ?_ (by first | omega | (simp; done) | (simp; omega)) _ | refine Below.drew ?_ | exact Below.refl _ _)⟩
  · have e1 : (a == c) = false := by simpa using h1
    go_enter Try.func27, Try.ntmps27
    go_wp2
    go_ret
    exact ⟨by simp [h1], by repeat (first | refine Below.alloc ?_ (by first | omega | (simp; done) | (simp; omega)) _ | refine Below.drew ?_ | exact Below.refl _ _)⟩
end Go.Proofs.Ytdoiblknbpbhaaa
