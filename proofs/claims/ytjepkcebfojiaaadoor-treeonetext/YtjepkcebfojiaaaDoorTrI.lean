import Derived.Test.YtjepkcebfojiaaaDoorLyH
import Derived.Test.YtjepkcebfojiaaaDoorLyB
set_option linter.unusedVariables false
set_option linter.unusedSimpArgs false
namespace Go.Proofs.YtjepkcebfojiaaaDoor
open Go.ChangeShapes Go.WideShapes Go.ChangeAt Go.RowKit

def ivs (L : List Int) : List Value := L.map (Value.int .i64)
theorem ivs_one (L : List Int) : ∀ u ∈ ivs L, u.oneCell' = true := by
  intro u hu
  simp [ivs] at hu
  obtain ⟨a, _, rfl⟩ := hu
  rfl
/-- A slice of numbers in a row of its own from block B on. -/
structure OwnI (w : World) (B : Nat) (v : Value) (n : Nat) (L : List Int) : Prop where
  len : n = L.length
  out : w.ownsRow B 3 1 v n (ivs L)
theorem OwnI.nil (w : World) (B : Nat) : OwnI w B (.slice none 0 0) 0 [] := ⟨rfl, World.ownsRow_nil _ _ _ _⟩
theorem OwnI.keep {w w' B v n L} (h : OwnI w B v n L) (hb : Below w.heap.size w w') : OwnI w' B v n L := ⟨h.len, own_keep h.out hb.block⟩
theorem OwnI.view {w B v n L} (h : OwnI w B v n L) : ∃ ao cap, v = .slice ao n cap ∧ n ≤ cap ∧ cap ≤ 9223372036854775807 ∧ Ints w ao cap L ∧ ((ao = none ∧ cap = 0 ∧ n = 0 ∧ L = []) ∨ ∃ g, ao = some ⟨g, 0, none⟩ ∧ B ≤ g ∧ g < w.heap.size) := by
  have hh := h.out
  have hl := h.len
  rcases hh.2 with ⟨rfl, hn⟩ | ⟨g, cap, cur, rfl, e2, e3, e4, e5, e6, e7⟩
  · subst hn
    have : L = [] := List.length_eq_zero_iff.1 hl.symm
    subst this
    exact ⟨none, 0, rfl, by omega, by omega, ⟨by simp, by omega, fun h => absurd rfl h⟩, .inl ⟨rfl, rfl, rfl, rfl⟩⟩
  · have e5' : cap ≤ 9223372036854775807 := e5
    refine ⟨_, cap, rfl, e4, e5, ⟨by omega, e5', fun _ => ⟨g, 0, rfl, (Array.getElem?_eq_some_iff.1 e3).1, fun i hi => ?_⟩⟩, .inr ⟨g, rfl, e2, (Array.getElem?_eq_some_iff.1 e3).1⟩⟩
    have h1 : (ivs L)[i]? = some (.int .i64 L[i]) := by simp [ivs, hi]
    rw [← e7, List.getElem?_take, if_pos (by omega)] at h1
    have h2 : cur[i]? = some (.int .i64 L[i]) := by rw [← h1]; simp
    rw [Nat.zero_add]
    simp [World.cell?, e3, h2]
theorem OwnI.take {w B a n c L} (h : OwnI w B (.slice a n c) n L) (r : Nat) (hr : r ≤ n) : OwnI w B (.slice a r c) r (L.take r) := by
  have hl := h.len
  refine ⟨by simp; omega, by simp [ivs]; omega, ?_⟩
  rcases h.out.2 with ⟨e, hn⟩ | ⟨g, cap, cur, e, e2, e3, e4, e5, e6, e7⟩
  · cases e
    left
    exact ⟨by rw [show r = 0 by omega], by omega⟩
  · cases e
    right
    refine ⟨g, c, cur, rfl, e2, e3, by omega, e5, e6, ?_⟩
    have : cur.toList.take (r * 1) = (cur.toList.take (n * 1)).take r := by rw [List.take_take]; congr 1; omega
    rw [this, e7]
    simp [ivs, List.map_take]
theorem info3i : (Tryd.prog.info? 3).map (fun i => (i.zero, i.size, i.bytes)) = some (some (.int .i64 0), 1, 8) := by kernel_rfl

theorem cell_one_newI (w : World) (a : Value) (t : TypeId) : ∀ j u, [a][j]? = some u → (w.alloc (.cells #[a] t)).cell? ((⟨w.heap.size, 0, none⟩ : Addr).add j) = some u := by
  intro j u hj
  match j, hj with
  | 0, hj => simp at hj; subst hj; simp [Addr.add]
  | j + 1, hj => simp at hj

/-- append(l, x): the one number in a new row behind all others. -/
theorem wpList_append_int {w0 : World} {ops : Array Oper} {rest : List Oper} {op : Oper} {a : Act} {Q : Exit → Act → World → Prop} (hgd : op.guard = none) (s x : Operand)
    (ho : op.op = .call { callee := .builtin .append, args := #[s, x], argTypes := #[23, 23] })
    (B : Nat) (v : Value) (n : Nat) (L : List Int) (y : Int) (hs : a.eval s = v) (hown : OwnI w0 B v n L) (hx : a.eval x = .slice (some ⟨w0.heap.size, 0, none⟩) 1 1)
    (hl : n + 1 ≤ 17592186044416) (hB : B ≤ w0.heap.size)
    (h : ∀ v' w', OwnI w' B v' (n + 1) (L ++ [y]) → Below B w0 w' → wpList Tryd.prog ops Q rest (a.put op.dst v') w') : wpList Tryd.prog ops Q (op :: rest) a (w0.alloc (.cells #[.int .i64 y] 3)) := by
  obtain ⟨i0, hi, hz0, hz1, hz2⟩ := info_parts info3i
  refine wpList_append_own _ hgd s x 23 ho B 3 i0 (.int .i64 0) 1 8 Tryd.underlying23 hi hz0 hz1 hz2 rfl (by decide) v n (ivs L) hs (hown.out.alloc _) ⟨w0.heap.size, 0, none⟩ 1 1 [.int .i64 y] hx rfl (cell_one_newI _ _ _) (fun u hu => by simp at hu; subst hu; rfl) (by unfold maxLen; omega) (by omega) (by simp; omega) ?_
  intro v' w' h1 h2 _
  refine h v' w' ⟨by simp; exact hown.len, by simpa [ivs] using h1⟩ ?_
  exact (((Below.refl _ _).alloc hB _).grown h2 (by simp; omega) (fun k hk => (own_block hown.out hk).1))
end Go.Proofs.YtjepkcebfojiaaaDoor
