import Derived.Test.YtdbkjjelaipcfaaDoorSvG
set_option linter.unusedVariables false
set_option linter.unusedSimpArgs false
namespace Go.Proofs.YtdbkjjelaipcfaaDoor
open Go.ChangeShapes Go.WideShapes Go.ChangeAt Go.RowKit Go.Maps

def vcs (c : Nat → List Value) : Nat → List Value
  | 0 => []
  | k + 1 => vcs c k ++ c k
theorem vcs_len {c : Nat → List Value} (hc : ∀ i, (c i).length = 4) : ∀ k, (vcs c k).length = k * 4
  | 0 => rfl
  | k + 1 => by simp only [vcs, List.length_append, vcs_len hc k, hc]; omega
theorem vcs_at {c : Nat → List Value} (hc : ∀ i, (c i).length = 4) : ∀ k i r, i < k → r < 4 → (vcs c k)[i * 4 + r]? = (c i)[r]?
  | 0, i, r, hi, _ => by omega
  | k + 1, i, r, hi, hr => by
    simp only [vcs]
    by_cases e : i = k
    · subst e
      rw [List.getElem?_append_right (by rw [vcs_len hc]; omega), vcs_len hc]
      congr 1; omega
    · rw [List.getElem?_append_left (by rw [vcs_len hc]; omega)]
      exact vcs_at hc k i r (by omega) hr
def vc0 (i : Nat) : List Value := [.int .i64 1, .int .i64 1, .int .i64 (i : Int), .slice none 0 0]
def vc1 (i : Nat) : List Value := [.int .i64 33, .int .i64 (1 + (i : Int) % 3), .int .i64 (i : Int), .slice none 0 0]
theorem own_row {w : World} {B : Nat} {e : TypeId} {z : Nat} {v : Value} {n : Nat} {xs : List Value} (h : w.ownsRow B e z v n xs) {b : Nat} (hb : v.ownBlock = some b) : ∃ cur, w.heap[b]? = some (.cells cur e (0, 0)) := by
  rcases h.2 with ⟨e1, _⟩ | ⟨g', cap', cur, e1, e2, e3, e4, e5, e6, e7⟩
  · rw [e1] at hb; simp [Value.ownBlock] at hb
  · rw [e1] at hb
    simp [Value.ownBlock] at hb
    exact ⟨cur, by rw [← hb]; exact e3⟩
theorem own_two {w : World} {B B' : Nat} {e e' : TypeId} {z z' : Nat} {u v : Value} {n m : Nat} {xs ys : List Value} (h : w.ownsRow B e z u n xs) (h' : w.ownsRow B' e' z' v m ys) (hne : e' ≠ e) : ∀ b, u.ownBlock = some b → v.ownBlock ≠ some b := fun b hb => by
  obtain ⟨cur, hc⟩ := own_row h hb
  exact own_not h' hc hne
/-- The values and the numbers, each in a row of its own. -/
structure LV (W : World) (B k j : Nat) (vv iv : Value) (c : Nat → List Value) : Prop where
  ov : W.ownsRow (B + 4) 25 4 vv k (vcs c k)
  oi : OwnI W (B + 4) iv j (rng j)
theorem LV.start (W : World) (B : Nat) (c : Nat → List Value) : LV W B 0 0 (.slice none 0 0) (.slice none 0 0) c := ⟨World.ownsRow_nil _ _ _ _, OwnI.nil _ _⟩
theorem LV.vl {W w6 : World} {B k j vv iv c v6} (L : LV W B k j vv iv c) (h6 : w6.ownsRow (B + 4) 25 4 v6 (k + 1) (vcs c k ++ c k)) (g6 : GI (B + 4) W w6 vv v6) : LV w6 B (k + 1) j v6 iv c :=
  ⟨h6, L.oi.gi g6 (own_two L.oi.out L.ov (by decide))⟩
theorem LV.int {W w6 : World} {B k j vv iv c v6} (L : LV W B k j vv iv c) (h6 : OwnI w6 (B + 4) v6 (j + 1) (rng j ++ [(j : Int)])) (g6 : GI (B + 4) W w6 iv v6) : LV w6 B k (j + 1) vv v6 c :=
  ⟨own_move L.ov fun b hb => g6.blk b (own_block L.ov hb).2 (own_two L.ov L.oi.out (by decide) b hb), by rw [rng_succ]; exact h6⟩
theorem LV.set {W : World} {B k j vv iv c} (L : LV W B k j vv iv c) (a : Addr) (ha : a.block < B + 4) (v : Value) : LV (W.setCell a v) B k j vv iv c := by
  have hs : ∀ b, B + 4 ≤ b → (W.setCell a v).heap[b]? = W.heap[b]? := fun b hb => Below.heap_setCell _ _ _ _ (by omega)
  exact ⟨own_move L.ov fun b hb => hs b (own_block L.ov hb).1, ⟨L.oi.len, own_move L.oi.out fun b hb => hs b (own_block L.oi.out hb).1⟩⟩
theorem LV.keep {W W' : World} {B k j vv iv c} (L : LV W B k j vv iv c) (hb : Below W.heap.size W W') : LV W' B k j vv iv c := ⟨own_keep L.ov hb.block, L.oi.keep hb⟩
theorem LV.vls {W : World} {B k j vv iv c} (L : LV W B k j vv iv c) (hc : ∀ i, (c i).length = 4) (hk : k ≤ 1000000) (v : Nat → Vl) (hv : ∀ i, c i = [.int .i64 (v i).op, .int .i64 (v i).ty, .int .i64 (v i).imm, .slice none 0 0] ∧ (v i).args = []) : ∃ va cap, vv = .slice va ((List.range k).map v).length cap ∧ Vls W va cap ((List.range k).map v) := by
  rcases L.ov.2 with ⟨e1, e2⟩ | ⟨g', cap', cur, e1, e2, e3, e4, e5, e6, e7⟩
  · have hk0 : k = 0 := by
      have := L.ov.1
      have h2 := vcs_len hc k
      rw [e2] at h2
      simp at h2
      omega
    subst hk0
    exact ⟨none, 0, by rw [e1]; rfl, vls_none W⟩
  · refine ⟨_, cap', by rw [e1]; simp, by simpa using e4, by unfold maxLen at e5; omega, fun _ => ⟨g', 0, rfl, (Array.getElem?_eq_some_iff.1 e3).1, fun i hi => ?_⟩⟩
    have hi' : i < k := by simpa using hi
    have hcell : ∀ r u, r < 4 → (c i)[r]? = some u → W.cell? ⟨g', 0 + i * 4 + r, none⟩ = some u := fun r u hr hu => by
      rw [Nat.zero_add]
      refine cell_arr e3 ?_
      have h1 := vcs_at hc k i r hi' hr
      rw [← e7, List.getElem?_take_of_lt (by omega), Array.getElem?_toList, hu] at h1
      exact h1
    have e : ((List.range k).map v)[i] = v i := by simp
    rw [e]
    obtain ⟨q1, q2⟩ := hv i
    refine ⟨none, 0, hcell 0 _ (by omega) (by rw [q1]; rfl), hcell 1 _ (by omega) (by rw [q1]; rfl), hcell 2 _ (by omega) (by rw [q1]; rfl), ?_, by rw [q2]; exact ints_none W⟩
    rw [q2]
    exact hcell 3 _ (by omega) (by rw [q1]; rfl)
theorem vc_one {u : Value} {a b d : Int} (hu : u ∈ [Value.int .i64 a, .int .i64 b, .int .i64 d, .slice none 0 0]) : u.oneCell' = true := by
  simp only [List.mem_cons, List.not_mem_nil, or_false] at hu
  rcases hu with rfl | rfl | rfl | rfl <;> rfl
end Go.Proofs.YtdbkjjelaipcfaaDoor
