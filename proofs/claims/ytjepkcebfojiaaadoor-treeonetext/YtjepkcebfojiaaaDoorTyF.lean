import Derived.Test.YtjepkcebfojiaaaDoorTyD
import Derived.Test.YtjepkcebfojiaaaDoorTyE
import Derived.Test.YtjepkcebfojiaaaDoorLzO
import Derived.Test.YtjepkcebfojiaaaDoorLzW
set_option linter.unusedVariables false
set_option linter.unusedSimpArgs false
namespace Go.Proofs.YtjepkcebfojiaaaDoor
open Go.ChangeShapes Go.WideShapes Go.ChangeAt Go.RowKit

/-- An array of seventy counts. -/
structure WA (wr : World) (g : Nat) (f : Nat → Nat) : Prop where
  out : ∃ A : Array Value, wr.heap[g]? = some (.cells A 37 (0, 0)) ∧ A.size = 70 ∧ ∀ q, q < 70 → A[q]? = some (.int .i64 (f q : Int))
theorem WA.lt {wr g f} (h : WA wr g f) : g < wr.heap.size := by
  obtain ⟨A, h1, _⟩ := h.out
  exact (Array.getElem?_eq_some_iff.1 h1).1
theorem WA.cell {wr g f} (h : WA wr g f) (q : Nat) (hq : q < 70) : wr.cell? ⟨g, q, none⟩ = some (.int .i64 (f q : Int)) ∧ wr.frozen? ⟨g, q, none⟩ = false := by
  obtain ⟨A, h1, _, h3⟩ := h.out
  exact ⟨cell_arr h1 (h3 q hq), fz_of h1⟩
def up (f : Nat → Nat) (q : Nat) : Nat → Nat := fun x => if x = q then f q + 1 else f x
theorem WA.inc {wr g f} (h : WA wr g f) (q : Nat) (hq : q < 70) {v : Int} (hv : v = ((f q + 1 : Nat) : Int)) : WA (wr.setCell ⟨g, q, none⟩ (.int .i64 v)) g (up f q) := by
  subst hv
  obtain ⟨A, h1, h2, h3⟩ := h.out
  refine ⟨A.setIfInBounds q (.int .i64 ((f q + 1 : Nat) : Int)), heap_set_at h1, by simpa using h2, fun x hx => ?_⟩
  rw [Array.getElem?_setIfInBounds]
  by_cases e : q = x
  · subst e
    rw [if_pos rfl, if_pos (by omega)]
    simp [up]
  · rw [if_neg e, h3 x hx]
    simp [up, Ne.symm e]
theorem WA.keep {wr w' g f} (h : WA wr g f) (hb : w'.heap[g]? = wr.heap[g]?) : WA w' g f := by
  obtain ⟨A, h1, h2, h3⟩ := h.out
  exact ⟨A, hb.trans h1, h2, h3⟩
theorem WA.to {wr g f f'} (h : WA wr g f) (e : ∀ q, q < 70 → f q = f' q) : WA wr g f' := by
  obtain ⟨A, h1, h2, h3⟩ := h.out
  exact ⟨A, h1, h2, fun q hq => by rw [← e q hq]; exact h3 q hq⟩
theorem ite_lt {c : Prop} [Decidable c] {a b m : Nat} (h1 : a < m) (h2 : b < m) : (if c then a else b) < m := by split <;> assumption
theorem wordK_lt (k : Int) : wordK k < 70 := by
  unfold wordK
  iterate 17 (apply ite_lt (by omega))
  omega
theorem opK_lt {k : Int} (h1 : 1 ≤ k) (h2 : k ≤ 19) : opK k < 70 ∧ 1 ≤ opK k := by
  have hk2 : k = 1 ∨ k = 2 ∨ k = 3 ∨ k = 4 ∨ k = 5 ∨ k = 6 ∨ k = 7 ∨ k = 8 ∨ k = 9 ∨ k = 10 ∨ k = 11 ∨ k = 12 ∨ k = 13 ∨ k = 14 ∨ k = 15 ∨ k = 16 ∨ k = 17 ∨ k = 18 ∨ k = 19 := by omega
  rcases hk2 with rfl | rfl | rfl | rfl | rfl | rfl | rfl | rfl | rfl | rfl | rfl | rfl | rfl | rfl | rfl | rfl | rfl | rfl | rfl <;> decide
theorem wn_le (nm : Bool) (k : Int) (els : Bool) (p : Int) (q : Nat) : wn nm k els p q ≤ 5 := by
  unfold wn
  repeat' split
  all_goals omega
/-- What is wanted of the first i nodes. -/
def wS (N : List Nd) (i : Nat) : Nat → Nat := fun q => ((N.take i).map fun n => wq n q).sum
theorem wS_le (N : List Nd) (i q : Nat) : wS N i q ≤ 5 * i := by
  have : ∀ l : List Nd, (l.map fun n => wq n q).sum ≤ 5 * l.length := by
    intro l
    induction l with
    | nil => simp
    | cons a l ih =>
      have : wq a q ≤ 5 := wn_le _ _ _ _ _
      simp only [List.map_cons, List.sum_cons, List.length_cons]
      omega
  have h := this (N.take i)
  have : (N.take i).length ≤ i := by simp; omega
  unfold wS
  omega
theorem wS_next {N : List Nd} {i : Nat} (h : i < N.length) (q : Nat) : wS N (i + 1) q = wS N i q + wq N[i] q := by
  unfold wS
  rw [← List.take_append_getElem h, List.map_append, List.sum_append]
  simp
theorem vals_next {N : List Nd} {i : Nat} (h : i < N.length) : vals (N.take (i + 1)) = vals (N.take i) ++ if N[i].kind = 20 then [N[i].val] else [] := by
  rw [← List.take_append_getElem h]
  unfold vals
  rw [List.filter_append, List.map_append]
  congr 1
  by_cases hk : N[i].kind = 20
  · rw [if_pos hk]; simp [hk]
  · rw [if_neg hk]; simp [hk]
theorem cnt_next {ts : List T} {j : Nat} (h : j < ts.length) (q : Nat) : cnt q ((ts.take (j + 1)).map kv) = cnt q ((ts.take j).map kv) + if ts[j].kind = (q : Int) then 1 else 0 := by
  rw [← List.take_append_getElem h, List.map_append, cnt_app]
  congr 1
  simp [cnt, kv]
theorem nums_next {ts : List T} {j : Nat} (h : j < ts.length) : nums ((ts.take (j + 1)).map kv) = nums ((ts.take j).map kv) ++ if ts[j].kind = 2 then [ts[j].val] else [] := by
  rw [← List.take_append_getElem h, List.map_append, nums_app]
  congr 1
  by_cases hk : ts[j].kind = 2
  · simp [nums, kv, hk]
  · simp [nums, kv, hk]
theorem cnt_le (q : Nat) : ∀ K : List (Int × Int), cnt q K ≤ K.length
  | [] => by simp [cnt]
  | p :: K => by
    have := cnt_le q K
    unfold cnt at this ⊢
    simp only [List.map_cons, List.sum_cons, List.length_cons]
    split <;> omega
theorem may_nm {k : Int} (h : (mayOf k).name = true) : k = 1 ∨ k = 2 ∨ k = 4 ∨ k = 5 ∨ k = 6 ∨ k = 24 ∨ k = 25 := by
  unfold mayOf at h
  simp only at h
  repeat' split at h
  all_goals first | omega | (simp at h)
theorem cell_set_ne {w : World} {b o b2 o2 : Nat} {u : Value} (h : b ≠ b2) : (w.setCell ⟨b2, o2, none⟩ u).cell? ⟨b, o, none⟩ = w.cell? ⟨b, o, none⟩ := World.cell?_of_block (w := w) (heap_set_other h)
theorem cell_new0 (w : World) (g q : Nat) (u v : Value) (vs : List Value) : ((w.setCell ⟨g, q, none⟩ u).alloc (.cells (v :: vs).toArray 39)).cell? ⟨w.heap.size, 0, none⟩ = some v := by
  have h := heap_alloc_last (w.setCell ⟨g, q, none⟩ u) (.cells (v :: vs).toArray 39)
  rw [show (w.setCell ⟨g, q, none⟩ u).heap.size = w.heap.size by simp [World.setCell]] at h
  exact cell_arr h (by simp)
theorem nums_at {ts : List T} {V : List Int} {j : Nat} (hns : nums (ts.map kv) = V) (hj : j < ts.length) (h2 : ts[j].kind = 2) {k : Nat} (hk : k = (nums ((ts.take j).map kv)).length) : k < V.length ∧ ∀ h : k < V.length, V[k] = ts[j].val := by
  have e : ts = ts.take j ++ (ts[j] :: ts.drop (j + 1)) := by rw [List.getElem_cons_drop, List.take_append_drop]
  have e2 : V = nums ((ts.take j).map kv) ++ (ts[j].val :: nums ((ts.drop (j + 1)).map kv)) := by
    rw [← hns]
    conv => lhs; rw [e]
    rw [List.map_append, nums_app, List.map_cons]
    congr 1
    simp [nums, kv, h2]
  subst e2 hk
  refine ⟨by simp, fun h => ?_⟩
  rw [List.getElem_append_right (Nat.le_refl _)]
  simp
/-- Counts and numbers, so far. -/
structure LS (g : Nat) (w4 wr : World) (nv : Value) (nk : Nat) (V : List Int) (f : Nat → Nat) : Prop where
  nu : OwnI wr (g + 1) nv nk V
  wa : WA wr g f
  bel : Below g w4 wr
theorem LS.alloc {g w4 wr nv nk V f} (h : LS g w4 wr nv nk V f) (ob : Obj) : LS g w4 (wr.alloc ob) nv nk V f := by
  have hl := h.wa.lt
  exact ⟨⟨h.nu.len, own_move h.nu.out fun b hb => heap_alloc_old _ _ (own_block h.nu.out hb).2⟩, h.wa.keep (heap_alloc_old _ _ hl), h.bel.alloc (by omega) _⟩
theorem LS.inc {g w4 wr nv nk V f} (h : LS g w4 wr nv nk V f) (q : Nat) (hq : q < 70) {v : Int} (hv : v = ((f q + 1 : Nat) : Int)) : LS g w4 (wr.setCell ⟨g, q, none⟩ (.int .i64 v)) nv nk V (up f q) :=
  ⟨⟨h.nu.len, own_move h.nu.out fun b hb => heap_set_other (fun e => by have := (own_block h.nu.out hb).1; omega)⟩, h.wa.inc q hq hv, h.bel.setCell (p := ⟨g, q, none⟩) (Nat.le_refl _) _⟩
theorem LS.to {g w4 wr nv nk V f V' f'} (h : LS g w4 wr nv nk V f) (e : V = V') (e2 : ∀ q, q < 70 → f q = f' q) : LS g w4 wr nv nk V' f' := by
  subst e
  exact ⟨h.nu, h.wa.to e2, h.bel⟩
theorem LS.below {g w4 wr w' nv nk V f} (h : LS g w4 wr nv nk V f) (hb : Below wr.heap.size wr w') : LS g w4 w' nv nk V f := by
  have hl := h.wa.lt
  exact ⟨h.nu.keep hb, h.wa.keep (hb.block _ hl), h.bel.trans (hb.mono (by omega))⟩
theorem LS.push {g w4 w0 w' nv nk V f v' x} (h : LS g w4 w0 nv nk V f) (h1 : OwnI w' (g + 1) v' (nk + 1) (V ++ [x])) (hG : GJ (g + 1) w0 w' nv v') : LS g w4 w' v' (nk + 1) (V ++ [x]) f := by
  have hl := h.wa.lt
  exact ⟨h1, h.wa.keep (hG.blk g hl (fun e => by have := (own_block h.nu.out e).1; omega)), h.bel.trans (hG.bel.mono (by omega))⟩
theorem up1 (f : Nat → Nat) (a q : Nat) : up f a q = f q + if a = q then 1 else 0 := by
  unfold up
  by_cases h : q = a
  · subst h; simp
  · rw [if_neg h, if_neg (Ne.symm h)]; rfl
theorem up2 (f : Nat → Nat) (a b q : Nat) (h : a ≠ b) : up (up f a) b q = f q + (if a = q then 1 else 0) + if b = q then 1 else 0 := by
  rw [up1, up1]
/-- append(numbers, x): the one number in a new row behind all others. -/
theorem wpList_append_intJ {w0 : World} {ops : Array Oper} {rest : List Oper} {op : Oper} {a : Act} {Q : Exit → Act → World → Prop} (hgd : op.guard = none) (s x : Operand)
    (ho : op.op = .call { callee := .builtin .append, args := #[s, x], argTypes := #[23, 23] })
    (B : Nat) (v : Value) (n : Nat) (L : List Int) (y : Int) (g : Nat) (hg : g = w0.heap.size) (hs : a.eval s = v) (hown : OwnI w0 B v n L) (hx : a.eval x = .slice (some ⟨g, 0, none⟩) 1 1)
    (hl : n + 1 ≤ 17592186044416) (hB : B ≤ w0.heap.size)
    (h : ∀ v' w', OwnI w' B v' (n + 1) (L ++ [y]) → GJ B w0 w' v v' → wpList Tryd.prog ops Q rest (a.put op.dst v') w') : wpList Tryd.prog ops Q (op :: rest) a (w0.alloc (.cells #[.int .i64 y] 3)) := by
  subst hg
  obtain ⟨i0, hi, hz0, hz1, hz2⟩ := info_parts info3i
  have hba : Below w0.heap.size w0 (w0.alloc (.cells #[.int .i64 y] 3)) := (Below.refl _ _).alloc (Nat.le_refl _) _
  refine wpList_append_where hgd s x 23 ho B 3 i0 (.int .i64 0) 1 8 Tryd.underlying23 hi hz0 hz1 hz2 rfl (by decide) v n (ivs L) hs (hown.out.alloc _) ⟨w0.heap.size, 0, none⟩ 1 1 (by omega) [.int .i64 y] hx rfl (cell_one_newI _ _ _) (fun u hu => by simp at hu; subst hu; rfl) (by unfold maxLen; omega) (by omega) (by simp; omega) ?_
  intro v' w' h1 h2 h3
  have hG := gj_of (hown.out.alloc _) (by simp; omega) h2 h3
  exact h v' w' ⟨by simp; exact hown.len, by simpa [ivs] using h1⟩ ⟨(hba.mono hB).trans hG.bel, fun b h4 h5 => (hG.blk b (by simp; omega) h5).trans (hba.block b h4), fun b hb => by
      rcases hG.own b hb with h | h
      · exact .inl h
      · right; simp at h; omega⟩
end Go.Proofs.YtjepkcebfojiaaaDoor
