import Derived.Test.YtdoiblknbpbhaaaMvLa
import Derived.Test.YtdoiblknbpbhaaaMvU
set_option linter.unusedVariables false
set_option linter.unusedSimpArgs false
namespace Go.Proofs.Ytdoiblknbpbhaaa
open Go.ChangeShapes Go.WideShapes Go.ChangeAt Go.RowKit Go.Maps

/-- What is read is what the moves read, or the temporary. -/
structure FrI (t : Lc) (F : List Lc) (left out : List Mv) : Prop where
  l : ∀ m ∈ left, m.2 = t ∨ m.2 ∈ F
  o : ∀ m ∈ out, m.2 = t ∨ m.2 ∈ F
theorem FrI.step {t : Lc} {F : List Lc} {left out : List Mv} (H : FrI t F left out) : FrI t F (ds t (left, out)).1 (ds t (left, out)).2 := by
  by_cases hne : left = []
  · subst hne; exact H
  · rcases fre_cases (fre left) left with hf | ⟨X, m, Y, rfl, h1, h2⟩
    · obtain ⟨m, r, rfl⟩ := List.exists_cons_of_ne_nil hne
      rw [ds_temp hf]
      refine ⟨fun x hx => ?_, fun x hx => ?_⟩
      · rcases List.mem_cons.1 hx with rfl | hx
        · exact .inl rfl
        · exact H.l x (by simp [hx])
      · rcases List.mem_append.1 hx with hx | hx
        · exact H.o x hx
        · simp at hx; subst hx; exact H.l m (by simp)
    · rw [ds_put h1 h2]
      refine ⟨fun x hx => H.l x ?_, fun x hx => ?_⟩
      · rcases List.mem_append.1 hx with hx | hx
        · simp [hx]
        · simp [hx]
      · rcases List.mem_append.1 hx with hx | hx
        · exact H.o x hx
        · simp at hx; subst hx; exact H.l x (by simp)
theorem FrI.run {t : Lc} {F : List Lc} : ∀ (n : Nat) (left out : List Mv), FrI t F left out → FrI t F (dn t n (left, out)).1 (dn t n (left, out)).2
  | 0, _, _, H => H
  | n + 1, _, _, H => FrI.run n _ _ H.step
theorem ord_froms {t : Lc} {l : List Mv} (g : Gd t l) : ∀ m ∈ ord t l, m.2 = t ∨ m.2 ∈ l.map Prod.snd := by
  have H := FrI.run (t := t) (F := l.map Prod.snd) (3 * (lft l).length) (lft l) [] ⟨fun m hm => .inr (List.mem_map_of_mem (List.mem_filter.1 hm).1), by simp⟩
  rw [ord_run g] at H
  exact H.o
/-- A place by its number among n + 2 cells; the number of a place. -/
def pl (n j : Nat) : Lc := if j = n + 1 then tL else (1, (j : Int))
def ix (n : Nat) (p : Lc) : Nat := if p = tL then n + 1 else p.2.toNat
def Dom (n : Nat) (p : Lc) : Prop := p = tL ∨ ∃ k : Nat, k ≤ n ∧ p = (1, (k : Int))
theorem pl_ix {n : Nat} {p : Lc} (h : Dom n p) : pl n (ix n p) = p ∧ ix n p < n + 2 := by
  rcases h with rfl | ⟨k, hk, rfl⟩
  · simp [pl, ix]
  · have : ((1, (k : Int)) : Lc) ≠ tL := by simp [tL]
    simp only [ix, if_neg this, Int.toNat_natCast, pl]
    rw [if_neg (by omega)]
    exact ⟨rfl, by omega⟩
theorem ix_pl {n j : Nat} (h : j < n + 2) : ix n (pl n j) = j := by
  unfold pl
  by_cases e : j = n + 1
  · rw [if_pos e]; simp [ix, e]
  · rw [if_neg e]
    have : ((1, (j : Int)) : Lc) ≠ tL := by simp [tL]
    simp [ix, this]
/-- Numbers at block cb, by a function. -/
structure IRf (w : World) (cb n : Nat) (f : Nat → Int) : Prop where
  out : ∃ cs : Array Value, w.heap[cb]? = some (.cells cs 3 (0, 0)) ∧ cs.size = n ∧ ∀ j, j < n → cs[j]? = some (.int .i64 (f j))
theorem IRf.lt {w cb n f} (h : IRf w cb n f) : cb < w.heap.size := by
  obtain ⟨cs, h1, _⟩ := h.out
  exact (Array.getElem?_eq_some_iff.1 h1).1
theorem IRf.move {w w' : World} {cb n f} (h : IRf w cb n f) (hk : w'.heap[cb]? = w.heap[cb]?) : IRf w' cb n f := by
  obtain ⟨cs, h1, h2⟩ := h.out
  exact ⟨cs, hk.trans h1, h2⟩
theorem IRf.cell {w cb n f} (h : IRf w cb n f) {j : Nat} (hj : j < n) : w.cell? ⟨cb, j, none⟩ = some (.int .i64 (f j)) ∧ w.frozen? ⟨cb, j, none⟩ = false := by
  obtain ⟨cs, h1, h2, h3⟩ := h.out
  exact ⟨cell_arr h1 (h3 j hj), fz_of h1⟩
theorem IRf.set {w cb n f} (h : IRf w cb n f) {j : Nat} (hj : j < n) (v : Int) : IRf (w.setCell ⟨cb, j, none⟩ (.int .i64 v)) cb n (fun i => if i = j then v else f i) := by
  obtain ⟨cs, h1, h2, h3⟩ := h.out
  refine ⟨_, heap_set_at h1, by simpa using h2, fun i hi => ?_⟩
  rw [Array.getElem?_setIfInBounds]
  by_cases e : j = i
  · subst e
    rw [if_pos rfl, if_pos (by omega), if_pos rfl]
  · rw [if_neg e, if_neg (fun h => e h.symm)]
    exact h3 i hi
theorem IRf.same {w cb n f g} (h : IRf w cb n f) (e : ∀ j, j < n → f j = g j) : IRf w cb n g := by
  obtain ⟨cs, h1, h2, h3⟩ := h.out
  exact ⟨cs, h1, h2, fun j hj => by rw [h3 j hj, e j hj]⟩
theorem IRf.made (w : World) (n : Nat) : IRf (w.alloc (.cells (madeCells #[.int .i64 0] n) 3)) w.heap.size n (fun _ => 0) := by
  refine ⟨_, heap_alloc_new _ _, by rw [size_madeCells]; try simp, fun j hj => ?_⟩
  have e : madeCells #[.int .i64 0] n = (List.replicate n (Value.int .i64 0)).toArray := Array.ext' (by rw [toList_madeCells_one])
  rw [e]
  simp [hj]
theorem placeT_any (w : World) (n : Nat) (hn : n ≤ 1000) : Calls Try.prog 18 #[.agg #[.int .i64 2, .int .i64 3], .int .i64 n] w fun e w' => e = .returned (.int .i64 ((n + 1 : Nat) : Int)) ∧ Below w.heap.size w w' := by
  go_enter Try.func18, Try.ntmps18
  go_wp2
  go_ret
  exact ⟨by simp, below_new _ _⟩
theorem placeR_any (w : World) (n k : Nat) (hn : n ≤ 1000) (hk : k ≤ n) : Calls Try.prog 18 #[.agg #[.int .i64 1, .int .i64 k], .int .i64 n] w fun e w' => e = .returned (.int .i64 (k : Int)) ∧ Below w.heap.size w w' := by
  have h1 : decide ((k : Int) < 0) = false := by simp
  have h2 : decide ((n : Int) < (k : Int)) = false := by simp; omega
  go_enter Try.func18, Try.ntmps18
  go_wp2
  go_ret
  exact ⟨rfl, below_new _ _⟩
theorem placeD_any (w : World) (n : Nat) (hn : n ≤ 1000) {p : Lc} (hp : Dom n p) : Calls Try.prog 18 #[.agg #[.int .i64 p.1, .int .i64 p.2], .int .i64 n] w fun e w' => e = .returned (.int .i64 (ix n p : Int)) ∧ Below w.heap.size w w' := by
  rcases hp with rfl | ⟨k, hk, rfl⟩
  · refine (placeT_any w n hn).mono ?_
    rintro e w' ⟨rfl, h⟩
    exact ⟨by simp [ix], h⟩
  · refine (placeR_any w n k hn hk).mono ?_
    rintro e w' ⟨rfl, h⟩
    have : ((1, (k : Int)) : Lc) ≠ tL := by simp [tL]
    exact ⟨by simp [ix, this], h⟩
theorem lng_placed {n : Nat} (r c : Bool) : placedP tL (lng n r c n) = true := by
  unfold placedP
  simp only [Bool.and_eq_true, List.all_eq_true]
  refine ⟨by decide, fun m hm => ?_⟩
  obtain ⟨k, hk, rfl⟩ := lng_mem hm
  simp [mvOk, plP, tL]
theorem lng_err (n : Nat) (r c : Bool) : errP tL (lng n r c n) = 0 ∧ ansP tL (lng n r c n) = ord tL (lng n r c n) := by
  unfold errP ansP
  rw [if_pos (lng_placed r c), if_pos (lng_gd n r c).nd, if_pos (lng_placed r c), if_pos (lng_gd n r c).nd]
  exact ⟨rfl, rfl⟩
theorem nx_le {n k : Nat} (c : Bool) (hk : k < n) : nx n c k ≤ n := by unfold nx; split <;> omega
/-- The answer's moves are among the cells. -/
theorem lng_dom {n : Nat} (r c : Bool) : ∀ m ∈ ord tL (lng n r c n), Dom n m.1 ∧ Dom n m.2 := fun m hm => by
  have g := lng_gd n r c
  refine ⟨?_, ?_⟩
  · rcases (ord_does g (fun _ => 0)).2.2.1 m hm with e | e
    · exact .inl e
    · obtain ⟨x, hx, e2⟩ := List.mem_map.1 e
      obtain ⟨k, hk, rfl⟩ := lng_mem hx
      exact .inr ⟨k, by omega, e2.symm⟩
  · rcases ord_froms g m hm with e | e
    · exact .inl e
    · obtain ⟨x, hx, e2⟩ := List.mem_map.1 e
      obtain ⟨k, hk, rfl⟩ := lng_mem hx
      exact .inr ⟨nx n c k, nx_le c hk, e2.symm⟩
end Go.Proofs.Ytdoiblknbpbhaaa
