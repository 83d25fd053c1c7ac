import Derived.Test.YtjepkcebfojiaaaDoorTrI
import Derived.Test.YtjepkcebfojiaaaDoorTrO
import Derived.Test.YtjepkcebfojiaaaDoorLyC
import Derived.Deep.RegionWith
import Derived.Deep.RegionLaw
set_option linter.unusedVariables false
set_option linter.unusedSimpArgs false
namespace Go.Proofs.YtjepkcebfojiaaaDoor
open Go.ChangeShapes Go.WideShapes Go.ChangeAt Go.RowKit

theorem text_any (w : World) (s : ByteArray) : Calls Tryd.prog 44 #[.string s] w fun e w' => e = .returned (.agg #[.int .i64 0, .string s, .int .i64 0]) ∧ w' = w.alloc (.cells #[.int .i64 0, .string s, .int .i64 0] 52) := by
  go_enter Tryd.func44, Tryd.ntmps44
  go_wp2
  refine bodyPost_ret (v := .agg #[.int .i64 0, .string s, .int .i64 0]) (by simp [results, Tryd.results44, go_sem]) rfl ⟨rfl, rfl⟩
theorem whole_any (w : World) (k : Int) : Calls Tryd.prog 18 #[.int .i64 k] w fun e w' => e = .returned (.agg #[.int .i64 1, .string (bs []), .int .i64 k]) ∧ w' = w.alloc (.cells #[.int .i64 1, .string (bs []), .int .i64 k] 52) := by
  go_enter Tryd.func18, Tryd.ntmps18
  go_wp2
  refine bodyPost_ret (v := .agg #[.int .i64 1, .string (bs []), .int .i64 k]) (by simp [results, Tryd.results18, go_sem]; rfl) rfl ⟨rfl, rfl⟩
theorem wrapped_any (w : World) (k : Int) : Calls Tryd.prog 61 #[.int .i64 k] w fun e w' => e = .returned (.agg #[.int .i64 2, .string (bs []), .int .i64 k]) ∧ w' = w.alloc (.cells #[.int .i64 2, .string (bs []), .int .i64 k] 52) := by
  go_enter Tryd.func61, Tryd.ntmps61
  go_wp2
  refine bodyPost_ret (v := .agg #[.int .i64 2, .string (bs []), .int .i64 k]) (by simp [results, Tryd.results61, go_sem]; rfl) rfl ⟨rfl, rfl⟩

def pc (p : Pt) : List Value := [.int .i64 p.form, .string (bs p.text), .int .i64 p.node]
def pcs (L : List Pt) : List Value := L.flatMap pc
theorem pcs_len (L : List Pt) : (pcs L).length = L.length * 3 := by
  induction L with
  | nil => rfl
  | cons p L ih => simp [pcs, pc] at ih ⊢; omega
theorem pcs_app (A B : List Pt) : pcs (A ++ B) = pcs A ++ pcs B := by simp [pcs]
theorem pcs_at (L : List Pt) : ∀ i (h : i < L.length) (j : Nat), j < 3 → (pcs L)[i * 3 + j]? = (pc L[i])[j]? := by
  induction L with
  | nil => intro i h; simp at h
  | cons t ts ih =>
    intro i h j hj
    have e : pcs (t :: ts) = pc t ++ pcs ts := by simp [pcs]
    rw [e]
    cases i with
    | zero => rw [List.getElem?_append_left (by simp [pc]; omega)]; simp
    | succ i =>
      rw [List.getElem?_append_right (by simp [pc]; omega)]
      have := ih i (by simpa using h) j hj
      rw [show (i + 1) * 3 + j - (pc t).length = i * 3 + j by simp [pc]; omega, this]
      simp
theorem pcs_one (L : List Pt) : ∀ u ∈ pcs L, u.oneCell' = true := by
  intro u hu
  simp [pcs, pc] at hu
  obtain ⟨a, _, rfl | rfl | rfl⟩ := hu <;> rfl
/-- A slice of parts in a row of its own from block B on. -/
structure OwnP (w : World) (B : Nat) (v : Value) (n : Nat) (L : List Pt) : Prop where
  len : n = L.length
  out : w.ownsRow B 52 3 v n (pcs L)
theorem OwnP.nil (w : World) (B : Nat) : OwnP w B (.slice none 0 0) 0 [] := ⟨rfl, World.ownsRow_nil _ _ _ _⟩
theorem OwnP.keep {w w' B v n L} (h : OwnP w B v n L) (hb : Below w.heap.size w w') : OwnP w' B v n L := ⟨h.len, own_keep h.out hb.block⟩
/-- A slice of parts that holds L. -/
structure PtV (w : World) (ao : Option Addr) (cap : Nat) (L : List Pt) : Prop where
  le : L.length ≤ cap
  mx : cap ≤ 9223372036854775807
  out : L ≠ [] → ∃ g, ao = some ⟨g, 0, none⟩ ∧ g < w.heap.size ∧ ∀ i (h : i < L.length), w.cell? ⟨g, i * 3, none⟩ = some (.int .i64 L[i].form) ∧ w.cell? ⟨g, i * 3 + 1, none⟩ = some (.string (bs L[i].text)) ∧ w.cell? ⟨g, i * 3 + 2, none⟩ = some (.int .i64 L[i].node)
theorem OwnP.view {w B v n L} (h : OwnP w B v n L) : ∃ ao cap, v = .slice ao n cap ∧ n ≤ cap ∧ cap ≤ 9223372036854775807 ∧ PtV w ao cap L ∧ ((ao = none ∧ cap = 0 ∧ n = 0 ∧ L = []) ∨ ∃ g, ao = some ⟨g, 0, none⟩ ∧ B ≤ g ∧ g < w.heap.size) := by
  have hh := h.out
  have hl := h.len
  rcases hh.2 with ⟨rfl, hn⟩ | ⟨g, cap, cur, rfl, e2, e3, e4, e5, e6, e7⟩
  · subst hn
    have : L = [] := List.length_eq_zero_iff.1 hl.symm
    subst this
    exact ⟨none, 0, rfl, by omega, by omega, ⟨by simp, by omega, fun h => absurd rfl h⟩, .inl ⟨rfl, rfl, rfl, rfl⟩⟩
  · have e5' : cap ≤ 9223372036854775807 := e5
    refine ⟨_, cap, rfl, e4, e5, ⟨by omega, e5', fun _ => ⟨g, rfl, (Array.getElem?_eq_some_iff.1 e3).1, fun i hi => ?_⟩⟩, .inr ⟨g, rfl, e2, (Array.getElem?_eq_some_iff.1 e3).1⟩⟩
    have hc : ∀ j, j < 3 → w.cell? ⟨g, i * 3 + j, none⟩ = (pc L[i])[j]? := by
      intro j hj
      have h1 := pcs_at L i hi j hj
      rw [← e7, List.getElem?_take, if_pos (by omega)] at h1
      have h2 : (pc L[i])[j]? = some ((pc L[i])[j]'(by simp [pc]; omega)) := List.getElem?_eq_getElem _
      rw [h2] at h1 ⊢
      exact cell_arr e3 (by rw [← h1]; simp)
    exact ⟨hc 0 (by omega), hc 1 (by omega), hc 2 (by omega)⟩
theorem OwnP.take {w B a n c L} (h : OwnP w B (.slice a n c) n L) (r : Nat) (hr : r ≤ n) : OwnP w B (.slice a r c) r (L.take r) := by
  have hl := h.len
  refine ⟨by simp; omega, by rw [pcs_len]; simp; omega, ?_⟩
  rcases h.out.2 with ⟨e, hn⟩ | ⟨g, cap, cur, e, e2, e3, e4, e5, e6, e7⟩
  · cases e
    left
    exact ⟨by rw [show r = 0 by omega], by omega⟩
  · cases e
    right
    refine ⟨g, c, cur, rfl, e2, e3, by omega, e5, e6, ?_⟩
    have : cur.toList.take (r * 3) = (cur.toList.take (n * 3)).take (r * 3) := by rw [List.take_take]; congr 1; omega
    rw [this, e7]
    conv => lhs; rw [← List.take_append_drop r L, pcs_app]
    rw [List.take_append_of_le_length (by rw [pcs_len]; simp; omega), List.take_of_length_le (by rw [pcs_len]; simp; omega)]
theorem infoP : (Tryd.prog.info? 52).map (fun i => (i.zero, i.size, i.bytes)) = some (some (.agg #[.int .i64 0, .string ⟨#[]⟩, .int .i64 0]), 3, 32) := by kernel_rfl
end Go.Proofs.YtjepkcebfojiaaaDoor
