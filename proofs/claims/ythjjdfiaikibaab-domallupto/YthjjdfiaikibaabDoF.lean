import Derived.Test.YthjjdfiaikibaabDmZ
import Derived.Test.YthjjdfiaikibaabLdB
set_option linter.unusedVariables false
set_option linter.unusedSimpArgs false
namespace Go.Proofs.Ythjjdfiaikibaab
open Go.ChangeShapes Go.WideShapes Go.ChangeAt Go.RowKit Go.Maps

/-- A row of n cells, all told. -/
def CW (w : World) (g n t : Nat) (f : Nat → Value) : Prop := w.heap[g]? = some (.cells ((List.range n).map f).toArray t (0, 0))
theorem CW.lt {w g n t f} (h : CW w g n t f) : g < w.heap.size := (Array.getElem?_eq_some_iff.1 h).1
theorem CW.cell {w g n t f} (h : CW w g n t f) {i : Nat} (hi : i < n) : w.cell? ⟨g, i, none⟩ = some (f i) := cell_arr h (by simp [hi])
theorem CW.fz {w g n t f} (h : CW w g n t f) (i : Nat) : w.frozen? ⟨g, i, none⟩ = false := fz_of h
theorem CW.congr {w g n t f f'} (h : CW w g n t f) (e : ∀ i, i < n → f i = f' i) : CW w g n t f' := by
  unfold CW at h ⊢
  rw [h]
  congr 3
  exact List.map_congr_left fun i hi => e i (by simpa using hi)
theorem CW.set {w g n t f} (h : CW w g n t f) (i : Nat) (v : Value) : CW (w.setCell ⟨g, i, none⟩ v) g n t (fun j => if j = i then v else f j) := by
  unfold CW at h ⊢
  rw [heap_set_at h]
  congr 2
  rw [List.setIfInBounds_toArray]
  congr 1
  refine List.ext_getElem (by simp) fun j h1 h2 => ?_
  rw [List.getElem_set]
  simp only [List.getElem_map, List.getElem_range]
  by_cases e : i = j
  · subst e; simp
  · rw [if_neg e, if_neg (fun q => e q.symm)]
theorem CW.other {w : World} {g n t f} (h : CW w g n t f) {k i : Nat} {v : Value} (hne : g ≠ k) : CW (w.setCell ⟨k, i, none⟩ v) g n t f := by
  unfold CW at h ⊢
  rw [heap_set_other hne]; exact h
theorem CW.move {w w' : World} {g n t f} (h : CW w g n t f) (hk : w'.heap[g]? = w.heap[g]?) : CW w' g n t f := hk.trans h
theorem CW.keep {w w' : World} {g n t f} (h : CW w g n t f) (hb : Below w.heap.size w w') : CW w' g n t f := h.move (hb.block g h.lt)
theorem CW.made (w : World) (n t : Nat) (z : Value) : CW (w.alloc (.cells (madeCells #[z] n) t)) w.heap.size n t fun _ => z := by
  unfold CW
  have e : madeCells #[z] n = ((List.range n).map fun _ => z).toArray := by
    apply Array.toList_inj.1
    rw [toList_madeCells_one]
    refine List.ext_getElem (by simp) fun i h1 h2 => ?_
    simp
  rw [e]; exact heap_alloc_new _ _
theorem CW.ne {w : World} {g g' n n' t t' f f'} (h : CW w g n t f) (h' : CW w g' n' t' f') (ht : t ≠ t') : g ≠ g' := by
  rintro rfl
  unfold CW at h h'
  rw [h] at h'
  simp only [Option.some.injEq, Obj.cells.injEq] at h'
  exact ht h'.2.1
theorem OwnBl.cell {w B g c n L} (h : OwnBl w B (.slice (some ⟨g, 0, none⟩) n c) n L) {i : Nat} (hi : i < n) : w.cell? ⟨g, i, none⟩ = some (.bool (L.getD i false)) := by
  rw [own_cell h.out i (by omega)]
  have : i < L.length := by rw [← h.len]; exact hi
  simp [this]
theorem rch_get {n i : Nat} {l : List Int} (hi : i < n) : (rch n l).getD i false = decide ((i : Int) ∈ l) := by simp [rch, hi]
theorem CW.own {w : World} {B g n : Nat} {f : Nat → Int} (h : CW w g n 3 fun i => .int .i64 (f i)) (hB : B ≤ g) (hn : n ≤ 9223372036854775807) : OwnI w B (.slice (some ⟨g, 0, none⟩) n n) n ((List.range n).map f) := by
  refine own_of_exact (by simp) hn hB ?_
  unfold CW at h
  rw [h]
  simp [ivs, Function.comp_def]
theorem infoSb : (Try.prog.info? 36).map (fun i => (i.zero, i.size, i.bytes)) = some (some (.slice none 0 0), 1, 24) := by kernel_rfl
theorem cnt_succ (Ls : List (List Int)) (k b : Nat) : cnt Ls (k + 1) b = cnt Ls k b + (if ovb Ls k b = true then 1 else 0) := by
  unfold cnt
  rw [List.range_succ, List.countP_append]
  simp [List.countP_cons]
theorem cnt_le (Ls : List (List Int)) (k b : Nat) : cnt Ls k b ≤ k := by
  unfold cnt
  exact Nat.le_trans List.countP_le_length (by simp)
theorem pk_rng (Ls : List (List Int)) (b : Nat) : ∀ k, pk Ls b k = -1 ∨ (0 ≤ pk Ls b k ∧ pk Ls b k < k)
  | 0 => .inl rfl
  | k + 1 => by
    rw [pk]
    split
    · right; omega
    · rcases pk_rng Ls b k with h | h
      · exact .inl h
      · right; omega
/-- Ahead of each block: who is over whom, so far. -/
structure OT (w wr : World) (B n : Nat) (Ls : List (List Int)) (gr cr go gy k : Nat) (gs : Nat → Nat) : Prop where
  r : OwnBl wr B (.slice (some ⟨gr, 0, none⟩) n cr) n (rch n (walkP Ls).bl)
  o : CW wr go n 36 fun i => if i < k then .slice (some ⟨gs i, 0, none⟩) n n else .slice none 0 0
  s : ∀ i, i < k → CW wr (gs i) n 4 fun b => .bool (ovb Ls i b)
  y : CW wr gy n 3 fun b => .int .i64 (cnt Ls k b)
  bel : Below B w wr
  lo : B ≤ go ∧ B ≤ gy
/-- Within a block's row. -/
structure OI (w wr : World) (B n : Nat) (Ls : List (List Int)) (gr cr go gy k : Nat) (gs : Nat → Nat) (gm cm j : Nat) : Prop where
  r : OwnBl wr B (.slice (some ⟨gr, 0, none⟩) n cr) n (rch n (walkP Ls).bl)
  m : OwnBl wr B (.slice (some ⟨gm, 0, none⟩) n cm) n (rch n (woP Ls k))
  o : CW wr go n 36 fun i => if i < k + 1 then .slice (some ⟨gs i, 0, none⟩) n n else .slice none 0 0
  s : ∀ i, i < k → CW wr (gs i) n 4 fun b => .bool (ovb Ls i b)
  c : CW wr (gs k) n 4 fun b => .bool (decide (b < j) && ovb Ls k b)
  y : CW wr gy n 3 fun b => .int .i64 (cnt Ls (if b < j then k + 1 else k) b)
  ne : gr ≠ gs k ∧ gm ≠ gs k ∧ ∀ i, i < k → gs i ≠ gs k
  bel : Below B w wr
  lo : B ≤ go ∧ B ≤ gy ∧ B ≤ gs k
theorem OI.skip {w wr : World} {B n Ls gr cr go gy k gs gm cm j} (h : OI w wr B n Ls gr cr go gy k gs gm cm j) (hn : ovb Ls k j = false) : OI w wr B n Ls gr cr go gy k gs gm cm (j + 1) := by
  refine ⟨h.r, h.m, h.o, h.s, h.c.congr fun i _ => ?_, h.y.congr fun i _ => ?_, h.ne, h.bel, h.lo⟩
  · by_cases e : i = j
    · subst e; simp [hn]
    · congr 2; rw [decide_eq_decide]; omega
  · by_cases e : i = j
    · subst e; rw [if_neg (by omega), if_pos (by omega), cnt_succ, hn]; simp
    · congr 3
      by_cases h2 : i < j
      · rw [if_pos h2, if_pos (by omega)]
      · rw [if_neg h2, if_neg (by omega)]
theorem OI.take {w wr : World} {B n Ls gr cr go gy k gs gm cm j} (h : OI w wr B n Ls gr cr go gy k gs gm cm j) (hn : ovb Ls k j = true) : OI w ((wr.setCell ⟨gs k, j, none⟩ (.bool true)).setCell ⟨gy, j, none⟩ (.int .i64 ((cnt Ls k j : Int) + 1))) B n Ls gr cr go gy k gs gm cm (j + 1) := by
  have n1 : gs k ≠ gy := h.c.ne h.y (by decide)
  have n2 : go ≠ gs k := h.o.ne h.c (by decide)
  have n3 : go ≠ gy := h.o.ne h.y (by decide)
  have n4 : gr ≠ gy := fun e => own_not h.r.out h.y (by decide) (by rw [e]; rfl)
  have n5 : gm ≠ gy := fun e => own_not h.m.out h.y (by decide) (by rw [e]; rfl)
  have mv : ∀ g : Nat, g ≠ gs k → g ≠ gy → ((wr.setCell ⟨gs k, j, none⟩ (.bool true)).setCell ⟨gy, j, none⟩ (.int .i64 ((cnt Ls k j : Int) + 1))).heap[g]? = wr.heap[g]? := fun g h1 h2 => (heap_set_other h2).trans (heap_set_other h1)
  refine ⟨h.r.move fun g hg => ?_, h.m.move fun g hg => ?_, h.o.move (mv go n2 n3), fun i hi => (h.s i hi).move (mv _ (h.ne.2.2 i hi) ((h.s i hi).ne h.y (by decide))), ((h.c.set j (.bool true)).other n1).congr fun i _ => ?_, ((h.y.other n1.symm).set j _).congr fun i _ => ?_, h.ne, (h.bel.setCell h.lo.2.2 _).setCell h.lo.2.1 _, h.lo⟩
  · simp [Value.ownBlock] at hg; subst hg; exact mv _ h.ne.1 n4
  · simp [Value.ownBlock] at hg; subst hg; exact mv _ h.ne.2.1 n5
  · by_cases e : i = j
    · subst e; simp [hn]
    · rw [if_neg e]; congr 2; rw [decide_eq_decide]; omega
  · by_cases e : i = j
    · subst e; rw [if_pos rfl, if_pos (by omega), cnt_succ, hn]; simp
    · rw [if_neg e]
      congr 3
      by_cases h2 : i < j
      · rw [if_pos h2, if_pos (by omega)]
      · rw [if_neg h2, if_neg (by omega)]
/-- The search among those that are over a block. -/
structure OU (w wr : World) (B n : Nat) (Ls : List (List Int)) (go gy gt b : Nat) (x : Int) (gs : Nat → Nat) : Prop where
  o : CW wr go n 36 fun i => .slice (some ⟨gs i, 0, none⟩) n n
  s : ∀ i, i < n → CW wr (gs i) n 4 fun b => .bool (ovb Ls i b)
  y : CW wr gy n 3 fun b => .int .i64 (cnt Ls n b)
  t : CW wr gt n 3 fun i => .int .i64 (if i < b then pk Ls i n else if i = b then x else 0)
  ne : gt ≠ gy
  bel : Below B w wr
  lo : B ≤ gt
theorem OU.set {w wr : World} {B n Ls go gy gt b x gs} (h : OU w wr B n Ls go gy gt b x gs) (v : Int) : OU w (wr.setCell ⟨gt, b, none⟩ (.int .i64 v)) B n Ls go gy gt b v gs := by
  refine ⟨h.o.other (h.o.ne h.t (by decide)), fun i hi => (h.s i hi).other ((h.s i hi).ne h.t (by decide)), h.y.other h.ne.symm, (h.t.set b _).congr fun i _ => ?_, h.ne, h.bel.setCell h.lo _, h.lo⟩
  by_cases e : i = b
  · subst e; rw [if_pos rfl, if_neg (by omega), if_pos rfl]
  · rw [if_neg e, if_neg e, if_neg e]
theorem OU.next {w wr : World} {B n Ls go gy gt b gs} (h : OU w wr B n Ls go gy gt b (pk Ls b n) gs) : OU w wr B n Ls go gy gt (b + 1) 0 gs := by
  refine ⟨h.o, h.s, h.y, h.t.congr fun i _ => ?_, h.ne, h.bel, h.lo⟩
  by_cases e : i = b
  · subst e; rw [if_neg (by omega), if_pos rfl, if_pos (by omega)]
  · rw [if_neg e]
    by_cases h2 : i < b
    · rw [if_pos h2, if_pos (by omega)]
    · rw [if_neg h2, if_neg (by omega)]; split <;> rfl
theorem OU.draws {w wr : World} {B n Ls go gy gt b x gs} (h : OU w wr B n Ls go gy gt b x gs) (q : Nat) : OU w (wr.drewN q) B n Ls go gy gt b x gs :=
  ⟨h.o.move (drewN_at wr q go h.o.lt), fun i hi => (h.s i hi).move (drewN_at wr q _ (h.s i hi).lt), h.y.move (drewN_at wr q gy h.y.lt), h.t.move (drewN_at wr q gt h.t.lt), h.ne, below_drewN h.bel q, h.lo⟩
end Go.Proofs.Ythjjdfiaikibaab
