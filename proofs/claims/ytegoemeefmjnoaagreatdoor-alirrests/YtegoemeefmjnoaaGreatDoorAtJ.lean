import Derived.Test.YtegoemeefmjnoaaGreatDoorAtI
set_option linter.unusedVariables false
set_option linter.unusedSimpArgs false
namespace Go.Proofs.YtegoemeefmjnoaaGreatDoor
open Go.ChangeShapes Go.WideShapes Go.ChangeAt Go.RowKit Go.Maps

def reX (B : Nat) : List Obj := [.cells #[.int .i64 1, .int .i64 0] 24, .cells #[.int .i64 1, .int .i64 0] 24, .cells #[.int .i64 1, .int .i64 0] 24, .cells #[.int .i64 1, .int .i64 0] 24, .cells #[.int .i64 2, .int .i64 0] 24, .cells #[.int .i64 1, .int .i64 0, .int .i64 2, .int .i64 0] 24, .cells #[.int .i64 26, .int .i64 0, .int .i64 0, .int .i64 0, .slice (some ⟨B + 1, 0, none⟩) 1 1, .slice none 0 0, .int .i64 3, .int .i64 0, .int .i64 1, .int .i64 0, .slice (some ⟨B + 5, 0, none⟩) 2 2, .slice none 0 0] 29, .cells #[.int .i64 1, .int .i64 0] 24, .cells #[.int .i64 1, .int .i64 2] 3, .cells #[.slice (some ⟨B + 6, 0, none⟩) 2 2, .int .i64 2, .int .i64 1, .int .i64 0, .slice (some ⟨B + 8, 0, none⟩) 2 2] 34, .cells #[.int .i64 1, .int .i64 0] 24, .cells #[.int .i64 2, .int .i64 0] 24, .cells #[.int .i64 1, .int .i64 7] 24, .cells #[.int .i64 1, .int .i64 1048576, .int .i64 1, .int .i64 0, .slice none 0 0, .slice none 0 0, .int .i64 1, .int .i64 1, .int .i64 2, .int .i64 0, .slice none 0 0, .slice none 0 0, .int .i64 1, .int .i64 5, .int .i64 1, .int .i64 7, .slice none 0 0, .slice none 0 0] 29, .cells #[.int .i64 1] 3, .cells #[.slice (some ⟨B + 13, 0, none⟩) 3 3, .int .i64 1, .int .i64 0, .int .i64 0, .slice (some ⟨B + 14, 0, none⟩) 1 1] 34, .cells #[.slice none 0 0, .int .i64 3, .int .i64 0, .int .i64 0, .slice none 0 0] 34, .cells #[.slice none 0 0, .int .i64 0, .int .i64 0, .int .i64 0, .int .i64 3145732, .int .i64 0, .int .i64 1] 48]
/-- Its memory, while the last block and the wanted outcome are written. -/
structure RS (wL W : World) (B l q : Nat) (LC WC : Array Value) (N : List Obj) : Prop where
  el : l = B + 16
  eq : q = B + 17
  bel : Below B wL W
  low : ∀ i (h : i < (reX B).length), i < 16 → W.heap[B + i]? = some (reX B)[i]
  kl : W.heap[l]? = some (.cells LC 34 (0, 0))
  kw : W.heap[q]? = some (.cells WC 48 (0, 0))
  new : ∀ i (h : i < N.length), W.heap[B + 18 + i]? = some N[i]
  size : W.heap.size = B + 18 + N.length
theorem RS.start (wL : World) {B l q : Nat} (hB : B = wL.heap.size) (hl : l = B + 16) (hq : q = B + 17) : RS wL (al wL (reX B)) B l q #[.slice none 0 0, .int .i64 3, .int .i64 0, .int .i64 0, .slice none 0 0] #[.slice none 0 0, .int .i64 0, .int .i64 0, .int .i64 0, .int .i64 3145732, .int .i64 0, .int .i64 1] [] := by
  have h := fun i (h : i < (reX B).length) => al_at (reX B) wL i h
  rw [← hB] at h
  have b := al_below (reX B) wL
  rw [← hB] at b
  have s := al_size (reX B) wL
  refine ⟨hl, hq, b, fun i hi _ => h i hi, ?_, ?_, fun i hi => absurd hi (Nat.not_lt_zero _), ?_⟩
  · rw [hl]
    exact h 16 (by simp [reX])
  · rw [hq]
    exact h 17 (by simp [reX])
  · rw [s, hB]
    rfl
theorem RS.alloc {wL W B l q LC WC N} (h : RS wL W B l q LC WC N) (x : Obj) : RS wL (W.alloc x) B l q LC WC (N ++ [x]) := by
  have s := h.size
  have e1 := h.el
  have e2 := h.eq
  refine ⟨h.el, h.eq, h.bel.trans ((below_newA W x).mono (by omega)), fun i hi h6 => (heap_alloc_old _ _ (by omega)).trans (h.low i hi h6), (heap_alloc_old _ _ (by omega)).trans h.kl, (heap_alloc_old _ _ (by omega)).trans h.kw, fun i hi => ?_, by simp; omega⟩
  by_cases q : i < N.length
  · rw [List.getElem_append_left q]
    exact (heap_alloc_old _ _ (by omega)).trans (h.new i q)
  · have e : i = N.length := by
      have : i < N.length + 1 := by simpa using hi
      omega
    subst e
    have g := heap_alloc_new W x
    rw [s] at g
    simpa using g
theorem RS.put {wL W B l q LC WC N} (h : RS wL W B l q LC WC N) {W' : World} {g : Nat} (hg : g = l ∨ g = q) (ho : Only (fun k => k = g) W W') (hs : W'.heap.size = W.heap.size) {LC' WC' : Array Value} (k1 : W'.heap[l]? = some (.cells LC' 34 (0, 0))) (k2 : W'.heap[q]? = some (.cells WC' 48 (0, 0))) : RS wL W' B l q LC' WC' N := by
  have s := h.size
  have e1 := h.el
  have e2 := h.eq
  have hgB : B + 16 ≤ g ∧ g < B + 18 := by omega
  exact ⟨h.el, h.eq, h.bel.trans (ho.below (by omega) fun k hk => by have : k = g := hk; omega), fun i hi h6 => (ho.block _ (by omega) (fun e => by have : B + i = g := e; omega)).trans (h.low i hi h6), k1, k2, fun i hi => (ho.block _ (by omega) (fun e => by have : B + 18 + i = g := e; omega)).trans (h.new i hi), hs.trans s⟩
theorem RS.setL {wL W B l q LC WC N} (h : RS wL W B l q LC WC N) (i : Nat) (v : Value) : RS wL (W.setCell ⟨l, i, none⟩ v) B l q (LC.setIfInBounds i v) WC N := by
  have e1 := h.el
  have e2 := h.eq
  exact h.put (.inl rfl) (Only.of_set W ⟨l, i, none⟩ v) (by simp) (heap_set_at h.kl) ((heap_set_other (by omega)).trans h.kw)
theorem RS.setW {wL W B l q LC WC N} (h : RS wL W B l q LC WC N) (i : Nat) (v : Value) : RS wL (W.setCell ⟨q, i, none⟩ v) B l q LC (WC.setIfInBounds i v) N := by
  have e1 := h.el
  have e2 := h.eq
  exact h.put (.inr rfl) (Only.of_set W ⟨q, i, none⟩ v) (by simp) ((heap_set_other (by omega)).trans h.kl) (heap_set_at h.kw)
theorem RS.rowL {wL W B l q LC WC N} (h : RS wL W B l q LC WC N) (A : Array Value) : RS wL (W.setRow l A) B l q A WC N := by
  have e1 := h.el
  have e2 := h.eq
  exact h.put (.inl rfl) (only_setRowA W l A) (by simp) (setRow_heap W l _ A _ _ h.kl) ((heap_setRow_otherA (by omega)).trans h.kw)
set_option maxRecDepth 100000 in
theorem re_afs0 {wL W : World} {B l q : Nat} (h : RS wL W B l q #[.slice (some ⟨B + 20, 0, none⟩) 1 1, .int .i64 3, .int .i64 0, .int .i64 0, .slice none 0 0] #[.slice none 0 0, .int .i64 0, .int .i64 0, .int .i64 0, .int .i64 3145732, .int .i64 0, .int .i64 1] [.cells #[.int .i64 1, .int .i64 7] 24, .cells #[.int .i64 1, .int .i64 7] 24, .cells #[.int .i64 26, .int .i64 0, .int .i64 0, .int .i64 0, .slice (some ⟨B + 19, 0, none⟩) 1 1, .slice none 0 0] 29]) {Q : Nat} (hQ : Q = W.heap.size) : Afs ((W.alloc (.cells #[.slice (some ⟨B + 13, 0, none⟩) 3 3, .int .i64 1, .int .i64 0, .int .i64 0, .slice (some ⟨B + 14, 0, none⟩) 1 1, .slice (some ⟨B + 6, 0, none⟩) 2 2, .int .i64 2, .int .i64 1, .int .i64 0, .slice (some ⟨B + 8, 0, none⟩) 2 2, .slice (some ⟨B + 20, 0, none⟩) 1 1, .int .i64 3, .int .i64 0, .int .i64 0, .slice none 0 0] 34)).alloc (.cells #[.string ⟨#[109, 97, 105, 110]⟩, .slice none 0 0, .int .i64 0, .int .i64 1, .slice (some ⟨Q, 0, none⟩) 3 3] 37)) (some ⟨Q + 1, 0, none⟩) 1 (reF (reL 0)) := by
  have b1 := below_newA W (.cells #[.slice (some ⟨B + 13, 0, none⟩) 3 3, .int .i64 1, .int .i64 0, .int .i64 0, .slice (some ⟨B + 14, 0, none⟩) 1 1, .slice (some ⟨B + 6, 0, none⟩) 2 2, .int .i64 2, .int .i64 1, .int .i64 0, .slice (some ⟨B + 8, 0, none⟩) 2 2, .slice (some ⟨B + 20, 0, none⟩) 1 1, .int .i64 3, .int .i64 0, .int .i64 0, .slice none 0 0] 34)
  have b2 := below_newA (W.alloc (.cells #[.slice (some ⟨B + 13, 0, none⟩) 3 3, .int .i64 1, .int .i64 0, .int .i64 0, .slice (some ⟨B + 14, 0, none⟩) 1 1, .slice (some ⟨B + 6, 0, none⟩) 2 2, .int .i64 2, .int .i64 1, .int .i64 0, .slice (some ⟨B + 8, 0, none⟩) 2 2, .slice (some ⟨B + 20, 0, none⟩) 1 1, .int .i64 3, .int .i64 0, .int .i64 0, .slice none 0 0] 34)) (.cells #[.string ⟨#[109, 97, 105, 110]⟩, .slice none 0 0, .int .i64 0, .int .i64 1, .slice (some ⟨Q, 0, none⟩) 3 3] 37)
  have g1 := heap_alloc_new W (.cells #[.slice (some ⟨B + 13, 0, none⟩) 3 3, .int .i64 1, .int .i64 0, .int .i64 0, .slice (some ⟨B + 14, 0, none⟩) 1 1, .slice (some ⟨B + 6, 0, none⟩) 2 2, .int .i64 2, .int .i64 1, .int .i64 0, .slice (some ⟨B + 8, 0, none⟩) 2 2, .slice (some ⟨B + 20, 0, none⟩) 1 1, .int .i64 3, .int .i64 0, .int .i64 0, .slice none 0 0] 34)
  have g2 := heap_alloc_new (W.alloc (.cells #[.slice (some ⟨B + 13, 0, none⟩) 3 3, .int .i64 1, .int .i64 0, .int .i64 0, .slice (some ⟨B + 14, 0, none⟩) 1 1, .slice (some ⟨B + 6, 0, none⟩) 2 2, .int .i64 2, .int .i64 1, .int .i64 0, .slice (some ⟨B + 8, 0, none⟩) 2 2, .slice (some ⟨B + 20, 0, none⟩) 1 1, .int .i64 3, .int .i64 0, .int .i64 0, .slice none 0 0] 34)) (.cells #[.string ⟨#[109, 97, 105, 110]⟩, .slice none 0 0, .int .i64 0, .int .i64 1, .slice (some ⟨Q, 0, none⟩) 3 3] 37)
  have e2 : (W.alloc (.cells #[.slice (some ⟨B + 13, 0, none⟩) 3 3, .int .i64 1, .int .i64 0, .int .i64 0, .slice (some ⟨B + 14, 0, none⟩) 1 1, .slice (some ⟨B + 6, 0, none⟩) 2 2, .int .i64 2, .int .i64 1, .int .i64 0, .slice (some ⟨B + 8, 0, none⟩) 2 2, .slice (some ⟨B + 20, 0, none⟩) 1 1, .int .i64 3, .int .i64 0, .int .i64 0, .slice none 0 0] 34)).heap.size = Q + 1 := by simp [hQ]
  rw [e2] at g2
  rw [← hQ] at g1
  have b12 := b1.trans (b2.mono b1.size)
  have g1' := (b2.block Q (by rw [e2]; omega)).trans g1
  have s := h.size
  obtain ⟨V, hV⟩ : ∃ V, V = (W.alloc (.cells #[.slice (some ⟨B + 13, 0, none⟩) 3 3, .int .i64 1, .int .i64 0, .int .i64 0, .slice (some ⟨B + 14, 0, none⟩) 1 1, .slice (some ⟨B + 6, 0, none⟩) 2 2, .int .i64 2, .int .i64 1, .int .i64 0, .slice (some ⟨B + 8, 0, none⟩) 2 2, .slice (some ⟨B + 20, 0, none⟩) 1 1, .int .i64 3, .int .i64 0, .int .i64 0, .slice none 0 0] 34)).alloc (.cells #[.string ⟨#[109, 97, 105, 110]⟩, .slice none 0 0, .int .i64 0, .int .i64 1, .slice (some ⟨Q, 0, none⟩) 3 3] 37) := ⟨_, rfl⟩
  rw [← hV] at b12 g1' g2 ⊢
  have h1 := (b12.block (B + 1) (by omega)).trans (h.low 1 (by simp [reX]) (by omega))
  have h5 := (b12.block (B + 5) (by omega)).trans (h.low 5 (by simp [reX]) (by omega))
  have h6 := (b12.block (B + 6) (by omega)).trans (h.low 6 (by simp [reX]) (by omega))
  have h8 := (b12.block (B + 8) (by omega)).trans (h.low 8 (by simp [reX]) (by omega))
  have h13 := (b12.block (B + 13) (by omega)).trans (h.low 13 (by simp [reX]) (by omega))
  have h14 := (b12.block (B + 14) (by omega)).trans (h.low 14 (by simp [reX]) (by omega))
  have n19 := (b12.block (B + 18 + 1) (by simp at s; omega)).trans (h.new 1 (by simp))
  have n20 := (b12.block (B + 18 + 2) (by simp at s; omega)).trans (h.new 2 (by simp))
  clear b1 b2 b12 g1 e2 hV h s
  have hi0 : Lst EnI 6 V (some ⟨B + 13, 0, none⟩) 3 [⟨1, 1048576, (1, 0), [], []⟩, ⟨1, 1, (2, 0), [], []⟩, ⟨1, 5, (1, 7), [], []⟩] := by
    refine lst_exact (α := Ai) (En := EnI) (N := [⟨1, 1048576, (1, 0), [], []⟩, ⟨1, 1, (2, 0), [], []⟩, ⟨1, 5, (1, 7), [], []⟩]) (xs := [[.int .i64 1, .int .i64 1048576, .int .i64 1, .int .i64 0, .slice none 0 0, .slice none 0 0], [.int .i64 1, .int .i64 1, .int .i64 2, .int .i64 0, .slice none 0 0, .slice none 0 0], [.int .i64 1, .int .i64 5, .int .i64 1, .int .i64 7, .slice none 0 0, .slice none 0 0]]) h13 rfl rfl rfl (Nat.le_of_ble_eq_true (by kernel_rfl)) rfl (fun i hi => ?_)
    match i, hi with
    | 0, _ => exact ⟨none, 0, none, 0, rfl, (locs_none V), (ints_noneA V)⟩
    | 1, _ => exact ⟨none, 0, none, 0, rfl, (locs_none V), (ints_noneA V)⟩
    | 2, _ => exact ⟨none, 0, none, 0, rfl, (locs_none V), (ints_noneA V)⟩
  have hi1 : Lst EnI 6 V (some ⟨B + 6, 0, none⟩) 2 [⟨26, 0, (0, 0), [(1, 0)], []⟩, ⟨3, 0, (1, 0), [(1, 0), (2, 0)], []⟩] := by
    refine lst_exact (α := Ai) (En := EnI) (N := [⟨26, 0, (0, 0), [(1, 0)], []⟩, ⟨3, 0, (1, 0), [(1, 0), (2, 0)], []⟩]) (xs := [[.int .i64 26, .int .i64 0, .int .i64 0, .int .i64 0, .slice (some ⟨B + 1, 0, none⟩) 1 1, .slice none 0 0], [.int .i64 3, .int .i64 0, .int .i64 1, .int .i64 0, .slice (some ⟨B + 5, 0, none⟩) 2 2, .slice none 0 0]]) h6 rfl rfl rfl (Nat.le_of_ble_eq_true (by kernel_rfl)) rfl (fun i hi => ?_)
    match i, hi with
    | 0, _ => exact ⟨some ⟨B + 1, 0, none⟩, 1, none, 0, rfl, (locs_exact (L := [(1, 0)]) h1 rfl (by decide)), (ints_noneA V)⟩
    | 1, _ => exact ⟨some ⟨B + 5, 0, none⟩, 2, none, 0, rfl, (locs_exact (L := [(1, 0), (2, 0)]) h5 rfl (by decide)), (ints_noneA V)⟩
  have hi2 : Lst EnI 6 V (some ⟨B + 20, 0, none⟩) 1 [⟨26, 0, (0, 0), [(1, 7)], []⟩] := by
    refine lst_exact (α := Ai) (En := EnI) (N := [⟨26, 0, (0, 0), [(1, 7)], []⟩]) (xs := [[.int .i64 26, .int .i64 0, .int .i64 0, .int .i64 0, .slice (some ⟨B + 19, 0, none⟩) 1 1, .slice none 0 0]]) n20 rfl rfl rfl (Nat.le_of_ble_eq_true (by kernel_rfl)) rfl (fun i hi => ?_)
    match i, hi with
    | 0, _ => exact ⟨some ⟨B + 19, 0, none⟩, 1, none, 0, rfl, (locs_exact (L := [(1, 7)]) n19 rfl (by decide)), (ints_noneA V)⟩
  have hb : Lst EnB 5 V (some ⟨Q, 0, none⟩) 3 [⟨[⟨1, 1048576, (1, 0), [], []⟩, ⟨1, 1, (2, 0), [], []⟩, ⟨1, 5, (1, 7), [], []⟩], 1, (0, 0), [1]⟩, ⟨[⟨26, 0, (0, 0), [(1, 0)], []⟩, ⟨3, 0, (1, 0), [(1, 0), (2, 0)], []⟩], 2, (1, 0), [1, 2]⟩, ⟨[⟨26, 0, (0, 0), [(1, 7)], []⟩], 3, (0, 0), []⟩] := by
    refine lst_exact (α := Ab) (En := EnB) (N := [⟨[⟨1, 1048576, (1, 0), [], []⟩, ⟨1, 1, (2, 0), [], []⟩, ⟨1, 5, (1, 7), [], []⟩], 1, (0, 0), [1]⟩, ⟨[⟨26, 0, (0, 0), [(1, 0)], []⟩, ⟨3, 0, (1, 0), [(1, 0), (2, 0)], []⟩], 2, (1, 0), [1, 2]⟩, ⟨[⟨26, 0, (0, 0), [(1, 7)], []⟩], 3, (0, 0), []⟩]) (xs := [[.slice (some ⟨B + 13, 0, none⟩) 3 3, .int .i64 1, .int .i64 0, .int .i64 0, .slice (some ⟨B + 14, 0, none⟩) 1 1], [.slice (some ⟨B + 6, 0, none⟩) 2 2, .int .i64 2, .int .i64 1, .int .i64 0, .slice (some ⟨B + 8, 0, none⟩) 2 2], [.slice (some ⟨B + 20, 0, none⟩) 1 1, .int .i64 3, .int .i64 0, .int .i64 0, .slice none 0 0]]) g1' rfl rfl rfl (Nat.le_of_ble_eq_true (by kernel_rfl)) rfl (fun i hi => ?_)
    match i, hi with
    | 0, _ => exact ⟨some ⟨B + 13, 0, none⟩, 3, some ⟨B + 14, 0, none⟩, 1, rfl, hi0, (ints_exactA (L := [1]) h14 (by decide))⟩
    | 1, _ => exact ⟨some ⟨B + 6, 0, none⟩, 2, some ⟨B + 8, 0, none⟩, 2, rfl, hi1, (ints_exactA (L := [1, 2]) h8 (by decide))⟩
    | 2, _ => exact ⟨some ⟨B + 20, 0, none⟩, 1, none, 0, rfl, hi2, (ints_noneA V)⟩
  refine lst_exact (α := Af) (En := EnF) (N := reF (reL 0)) (xs := [[.string ⟨#[109, 97, 105, 110]⟩, .slice none 0 0, .int .i64 0, .int .i64 1, .slice (some ⟨Q, 0, none⟩) 3 3]]) g2 rfl rfl rfl (Nat.le_of_ble_eq_true (by kernel_rfl)) rfl (fun i hi => ?_)
  match i, hi with
  | 0, _ => exact ⟨none, 0, some ⟨Q, 0, none⟩, 3, rfl, (locs_none V), hb⟩
set_option maxRecDepth 100000 in
theorem re_afs1 {wL W : World} {B l q : Nat} (h : RS wL W B l q #[.slice none 0 0, .int .i64 3, .int .i64 0, .int .i64 0, .slice none 0 0] #[.slice none 0 0, .int .i64 1, .int .i64 0, .int .i64 0, .int .i64 3145733, .int .i64 0, .int .i64 1] []) {Q : Nat} (hQ : Q = W.heap.size) : Afs ((W.alloc (.cells #[.slice (some ⟨B + 13, 0, none⟩) 3 3, .int .i64 1, .int .i64 0, .int .i64 0, .slice (some ⟨B + 14, 0, none⟩) 1 1, .slice (some ⟨B + 6, 0, none⟩) 2 2, .int .i64 2, .int .i64 1, .int .i64 0, .slice (some ⟨B + 8, 0, none⟩) 2 2, .slice none 0 0, .int .i64 3, .int .i64 0, .int .i64 0, .slice none 0 0] 34)).alloc (.cells #[.string ⟨#[109, 97, 105, 110]⟩, .slice none 0 0, .int .i64 0, .int .i64 1, .slice (some ⟨Q, 0, none⟩) 3 3] 37)) (some ⟨Q + 1, 0, none⟩) 1 (reF (reL 1)) := by
  have b1 := below_newA W (.cells #[.slice (some ⟨B + 13, 0, none⟩) 3 3, .int .i64 1, .int .i64 0, .int .i64 0, .slice (some ⟨B + 14, 0, none⟩) 1 1, .slice (some ⟨B + 6, 0, none⟩) 2 2, .int .i64 2, .int .i64 1, .int .i64 0, .slice (some ⟨B + 8, 0, none⟩) 2 2, .slice none 0 0, .int .i64 3, .int .i64 0, .int .i64 0, .slice none 0 0] 34)
  have b2 := below_newA (W.alloc (.cells #[.slice (some ⟨B + 13, 0, none⟩) 3 3, .int .i64 1, .int .i64 0, .int .i64 0, .slice (some ⟨B + 14, 0, none⟩) 1 1, .slice (some ⟨B + 6, 0, none⟩) 2 2, .int .i64 2, .int .i64 1, .int .i64 0, .slice (some ⟨B + 8, 0, none⟩) 2 2, .slice none 0 0, .int .i64 3, .int .i64 0, .int .i64 0, .slice none 0 0] 34)) (.cells #[.string ⟨#[109, 97, 105, 110]⟩, .slice none 0 0, .int .i64 0, .int .i64 1, .slice (some ⟨Q, 0, none⟩) 3 3] 37)
  have g1 := heap_alloc_new W (.cells #[.slice (some ⟨B + 13, 0, none⟩) 3 3, .int .i64 1, .int .i64 0, .int .i64 0, .slice (some ⟨B + 14, 0, none⟩) 1 1, .slice (some ⟨B + 6, 0, none⟩) 2 2, .int .i64 2, .int .i64 1, .int .i64 0, .slice (some ⟨B + 8, 0, none⟩) 2 2, .slice none 0 0, .int .i64 3, .int .i64 0, .int .i64 0, .slice none 0 0] 34)
  have g2 := heap_alloc_new (W.alloc (.cells #[.slice (some ⟨B + 13, 0, none⟩) 3 3, .int .i64 1, .int .i64 0, .int .i64 0, .slice (some ⟨B + 14, 0, none⟩) 1 1, .slice (some ⟨B + 6, 0, none⟩) 2 2, .int .i64 2, .int .i64 1, .int .i64 0, .slice (some ⟨B + 8, 0, none⟩) 2 2, .slice none 0 0, .int .i64 3, .int .i64 0, .int .i64 0, .slice none 0 0] 34)) (.cells #[.string ⟨#[109, 97, 105, 110]⟩, .slice none 0 0, .int .i64 0, .int .i64 1, .slice (some ⟨Q, 0, none⟩) 3 3] 37)
  have e2 : (W.alloc (.cells #[.slice (some ⟨B + 13, 0, none⟩) 3 3, .int .i64 1, .int .i64 0, .int .i64 0, .slice (some ⟨B + 14, 0, none⟩) 1 1, .slice (some ⟨B + 6, 0, none⟩) 2 2, .int .i64 2, .int .i64 1, .int .i64 0, .slice (some ⟨B + 8, 0, none⟩) 2 2, .slice none 0 0, .int .i64 3, .int .i64 0, .int .i64 0, .slice none 0 0] 34)).heap.size = Q + 1 := by simp [hQ]
  rw [e2] at g2
  rw [← hQ] at g1
  have b12 := b1.trans (b2.mono b1.size)
  have g1' := (b2.block Q (by rw [e2]; omega)).trans g1
  have s := h.size
  obtain ⟨V, hV⟩ : ∃ V, V = (W.alloc (.cells #[.slice (some ⟨B + 13, 0, none⟩) 3 3, .int .i64 1, .int .i64 0, .int .i64 0, .slice (some ⟨B + 14, 0, none⟩) 1 1, .slice (some ⟨B + 6, 0, none⟩) 2 2, .int .i64 2, .int .i64 1, .int .i64 0, .slice (some ⟨B + 8, 0, none⟩) 2 2, .slice none 0 0, .int .i64 3, .int .i64 0, .int .i64 0, .slice none 0 0] 34)).alloc (.cells #[.string ⟨#[109, 97, 105, 110]⟩, .slice none 0 0, .int .i64 0, .int .i64 1, .slice (some ⟨Q, 0, none⟩) 3 3] 37) := ⟨_, rfl⟩
  rw [← hV] at b12 g1' g2 ⊢
  have h1 := (b12.block (B + 1) (by omega)).trans (h.low 1 (by simp [reX]) (by omega))
  have h5 := (b12.block (B + 5) (by omega)).trans (h.low 5 (by simp [reX]) (by omega))
  have h6 := (b12.block (B + 6) (by omega)).trans (h.low 6 (by simp [reX]) (by omega))
  have h8 := (b12.block (B + 8) (by omega)).trans (h.low 8 (by simp [reX]) (by omega))
  have h13 := (b12.block (B + 13) (by omega)).trans (h.low 13 (by simp [reX]) (by omega))
  have h14 := (b12.block (B + 14) (by omega)).trans (h.low 14 (by simp [reX]) (by omega))
  clear b1 b2 b12 g1 e2 hV h s
  have hi0 : Lst EnI 6 V (some ⟨B + 13, 0, none⟩) 3 [⟨1, 1048576, (1, 0), [], []⟩, ⟨1, 1, (2, 0), [], []⟩, ⟨1, 5, (1, 7), [], []⟩] := by
    refine lst_exact (α := Ai) (En := EnI) (N := [⟨1, 1048576, (1, 0), [], []⟩, ⟨1, 1, (2, 0), [], []⟩, ⟨1, 5, (1, 7), [], []⟩]) (xs := [[.int .i64 1, .int .i64 1048576, .int .i64 1, .int .i64 0, .slice none 0 0, .slice none 0 0], [.int .i64 1, .int .i64 1, .int .i64 2, .int .i64 0, .slice none 0 0, .slice none 0 0], [.int .i64 1, .int .i64 5, .int .i64 1, .int .i64 7, .slice none 0 0, .slice none 0 0]]) h13 rfl rfl rfl (Nat.le_of_ble_eq_true (by kernel_rfl)) rfl (fun i hi => ?_)
    match i, hi with
    | 0, _ => exact ⟨none, 0, none, 0, rfl, (locs_none V), (ints_noneA V)⟩
    | 1, _ => exact ⟨none, 0, none, 0, rfl, (locs_none V), (ints_noneA V)⟩
    | 2, _ => exact ⟨none, 0, none, 0, rfl, (locs_none V), (ints_noneA V)⟩
  have hi1 : Lst EnI 6 V (some ⟨B + 6, 0, none⟩) 2 [⟨26, 0, (0, 0), [(1, 0)], []⟩, ⟨3, 0, (1, 0), [(1, 0), (2, 0)], []⟩] := by
    refine lst_exact (α := Ai) (En := EnI) (N := [⟨26, 0, (0, 0), [(1, 0)], []⟩, ⟨3, 0, (1, 0), [(1, 0), (2, 0)], []⟩]) (xs := [[.int .i64 26, .int .i64 0, .int .i64 0, .int .i64 0, .slice (some ⟨B + 1, 0, none⟩) 1 1, .slice none 0 0], [.int .i64 3, .int .i64 0, .int .i64 1, .int .i64 0, .slice (some ⟨B + 5, 0, none⟩) 2 2, .slice none 0 0]]) h6 rfl rfl rfl (Nat.le_of_ble_eq_true (by kernel_rfl)) rfl (fun i hi => ?_)
    match i, hi with
    | 0, _ => exact ⟨some ⟨B + 1, 0, none⟩, 1, none, 0, rfl, (locs_exact (L := [(1, 0)]) h1 rfl (by decide)), (ints_noneA V)⟩
    | 1, _ => exact ⟨some ⟨B + 5, 0, none⟩, 2, none, 0, rfl, (locs_exact (L := [(1, 0), (2, 0)]) h5 rfl (by decide)), (ints_noneA V)⟩
  have hb : Lst EnB 5 V (some ⟨Q, 0, none⟩) 3 [⟨[⟨1, 1048576, (1, 0), [], []⟩, ⟨1, 1, (2, 0), [], []⟩, ⟨1, 5, (1, 7), [], []⟩], 1, (0, 0), [1]⟩, ⟨[⟨26, 0, (0, 0), [(1, 0)], []⟩, ⟨3, 0, (1, 0), [(1, 0), (2, 0)], []⟩], 2, (1, 0), [1, 2]⟩, ⟨[], 3, (0, 0), []⟩] := by
    refine lst_exact (α := Ab) (En := EnB) (N := [⟨[⟨1, 1048576, (1, 0), [], []⟩, ⟨1, 1, (2, 0), [], []⟩, ⟨1, 5, (1, 7), [], []⟩], 1, (0, 0), [1]⟩, ⟨[⟨26, 0, (0, 0), [(1, 0)], []⟩, ⟨3, 0, (1, 0), [(1, 0), (2, 0)], []⟩], 2, (1, 0), [1, 2]⟩, ⟨[], 3, (0, 0), []⟩]) (xs := [[.slice (some ⟨B + 13, 0, none⟩) 3 3, .int .i64 1, .int .i64 0, .int .i64 0, .slice (some ⟨B + 14, 0, none⟩) 1 1], [.slice (some ⟨B + 6, 0, none⟩) 2 2, .int .i64 2, .int .i64 1, .int .i64 0, .slice (some ⟨B + 8, 0, none⟩) 2 2], [.slice none 0 0, .int .i64 3, .int .i64 0, .int .i64 0, .slice none 0 0]]) g1' rfl rfl rfl (Nat.le_of_ble_eq_true (by kernel_rfl)) rfl (fun i hi => ?_)
    match i, hi with
    | 0, _ => exact ⟨some ⟨B + 13, 0, none⟩, 3, some ⟨B + 14, 0, none⟩, 1, rfl, hi0, (ints_exactA (L := [1]) h14 (by decide))⟩
    | 1, _ => exact ⟨some ⟨B + 6, 0, none⟩, 2, some ⟨B + 8, 0, none⟩, 2, rfl, hi1, (ints_exactA (L := [1, 2]) h8 (by decide))⟩
    | 2, _ => exact ⟨none, 0, none, 0, rfl, (Lst.nil V (by decide)), (ints_noneA V)⟩
  refine lst_exact (α := Af) (En := EnF) (N := reF (reL 1)) (xs := [[.string ⟨#[109, 97, 105, 110]⟩, .slice none 0 0, .int .i64 0, .int .i64 1, .slice (some ⟨Q, 0, none⟩) 3 3]]) g2 rfl rfl rfl (Nat.le_of_ble_eq_true (by kernel_rfl)) rfl (fun i hi => ?_)
  match i, hi with
  | 0, _ => exact ⟨none, 0, some ⟨Q, 0, none⟩, 3, rfl, (locs_none V), hb⟩
set_option maxRecDepth 100000 in
theorem re_afs2 {wL W : World} {B l q : Nat} (h : RS wL W B l q #[.slice none 0 0, .int .i64 4, .int .i64 1, .int .i64 7, .slice none 0 0] #[.slice none 0 0, .int .i64 2, .int .i64 6, .int .i64 5, .int .i64 3145733, .int .i64 0, .int .i64 1] [.cells #[.int .i64 1, .int .i64 7] 24]) {Q : Nat} (hQ : Q = W.heap.size) : Afs ((W.alloc (.cells #[.slice (some ⟨B + 13, 0, none⟩) 3 3, .int .i64 1, .int .i64 0, .int .i64 0, .slice (some ⟨B + 14, 0, none⟩) 1 1, .slice (some ⟨B + 6, 0, none⟩) 2 2, .int .i64 2, .int .i64 1, .int .i64 0, .slice (some ⟨B + 8, 0, none⟩) 2 2, .slice none 0 0, .int .i64 4, .int .i64 1, .int .i64 7, .slice none 0 0] 34)).alloc (.cells #[.string ⟨#[109, 97, 105, 110]⟩, .slice none 0 0, .int .i64 0, .int .i64 1, .slice (some ⟨Q, 0, none⟩) 3 3] 37)) (some ⟨Q + 1, 0, none⟩) 1 (reF (reL 2)) := by
  have b1 := below_newA W (.cells #[.slice (some ⟨B + 13, 0, none⟩) 3 3, .int .i64 1, .int .i64 0, .int .i64 0, .slice (some ⟨B + 14, 0, none⟩) 1 1, .slice (some ⟨B + 6, 0, none⟩) 2 2, .int .i64 2, .int .i64 1, .int .i64 0, .slice (some ⟨B + 8, 0, none⟩) 2 2, .slice none 0 0, .int .i64 4, .int .i64 1, .int .i64 7, .slice none 0 0] 34)
  have b2 := below_newA (W.alloc (.cells #[.slice (some ⟨B + 13, 0, none⟩) 3 3, .int .i64 1, .int .i64 0, .int .i64 0, .slice (some ⟨B + 14, 0, none⟩) 1 1, .slice (some ⟨B + 6, 0, none⟩) 2 2, .int .i64 2, .int .i64 1, .int .i64 0, .slice (some ⟨B + 8, 0, none⟩) 2 2, .slice none 0 0, .int .i64 4, .int .i64 1, .int .i64 7, .slice none 0 0] 34)) (.cells #[.string ⟨#[109, 97, 105, 110]⟩, .slice none 0 0, .int .i64 0, .int .i64 1, .slice (some ⟨Q, 0, none⟩) 3 3] 37)
  have g1 := heap_alloc_new W (.cells #[.slice (some ⟨B + 13, 0, none⟩) 3 3, .int .i64 1, .int .i64 0, .int .i64 0, .slice (some ⟨B + 14, 0, none⟩) 1 1, .slice (some ⟨B + 6, 0, none⟩) 2 2, .int .i64 2, .int .i64 1, .int .i64 0, .slice (some ⟨B + 8, 0, none⟩) 2 2, .slice none 0 0, .int .i64 4, .int .i64 1, .int .i64 7, .slice none 0 0] 34)
  have g2 := heap_alloc_new (W.alloc (.cells #[.slice (some ⟨B + 13, 0, none⟩) 3 3, .int .i64 1, .int .i64 0, .int .i64 0, .slice (some ⟨B + 14, 0, none⟩) 1 1, .slice (some ⟨B + 6, 0, none⟩) 2 2, .int .i64 2, .int .i64 1, .int .i64 0, .slice (some ⟨B + 8, 0, none⟩) 2 2, .slice none 0 0, .int .i64 4, .int .i64 1, .int .i64 7, .slice none 0 0] 34)) (.cells #[.string ⟨#[109, 97, 105, 110]⟩, .slice none 0 0, .int .i64 0, .int .i64 1, .slice (some ⟨Q, 0, none⟩) 3 3] 37)
  have e2 : (W.alloc (.cells #[.slice (some ⟨B + 13, 0, none⟩) 3 3, .int .i64 1, .int .i64 0, .int .i64 0, .slice (some ⟨B + 14, 0, none⟩) 1 1, .slice (some ⟨B + 6, 0, none⟩) 2 2, .int .i64 2, .int .i64 1, .int .i64 0, .slice (some ⟨B + 8, 0, none⟩) 2 2, .slice none 0 0, .int .i64 4, .int .i64 1, .int .i64 7, .slice none 0 0] 34)).heap.size = Q + 1 := by simp [hQ]
  rw [e2] at g2
  rw [← hQ] at g1
  have b12 := b1.trans (b2.mono b1.size)
  have g1' := (b2.block Q (by rw [e2]; omega)).trans g1
  have s := h.size
  obtain ⟨V, hV⟩ : ∃ V, V = (W.alloc (.cells #[.slice (some ⟨B + 13, 0, none⟩) 3 3, .int .i64 1, .int .i64 0, .int .i64 0, .slice (some ⟨B + 14, 0, none⟩) 1 1, .slice (some ⟨B + 6, 0, none⟩) 2 2, .int .i64 2, .int .i64 1, .int .i64 0, .slice (some ⟨B + 8, 0, none⟩) 2 2, .slice none 0 0, .int .i64 4, .int .i64 1, .int .i64 7, .slice none 0 0] 34)).alloc (.cells #[.string ⟨#[109, 97, 105, 110]⟩, .slice none 0 0, .int .i64 0, .int .i64 1, .slice (some ⟨Q, 0, none⟩) 3 3] 37) := ⟨_, rfl⟩
  rw [← hV] at b12 g1' g2 ⊢
  have h1 := (b12.block (B + 1) (by omega)).trans (h.low 1 (by simp [reX]) (by omega))
  have h5 := (b12.block (B + 5) (by omega)).trans (h.low 5 (by simp [reX]) (by omega))
  have h6 := (b12.block (B + 6) (by omega)).trans (h.low 6 (by simp [reX]) (by omega))
  have h8 := (b12.block (B + 8) (by omega)).trans (h.low 8 (by simp [reX]) (by omega))
  have h13 := (b12.block (B + 13) (by omega)).trans (h.low 13 (by simp [reX]) (by omega))
  have h14 := (b12.block (B + 14) (by omega)).trans (h.low 14 (by simp [reX]) (by omega))
  clear b1 b2 b12 g1 e2 hV h s
  have hi0 : Lst EnI 6 V (some ⟨B + 13, 0, none⟩) 3 [⟨1, 1048576, (1, 0), [], []⟩, ⟨1, 1, (2, 0), [], []⟩, ⟨1, 5, (1, 7), [], []⟩] := by
    refine lst_exact (α := Ai) (En := EnI) (N := [⟨1, 1048576, (1, 0), [], []⟩, ⟨1, 1, (2, 0), [], []⟩, ⟨1, 5, (1, 7), [], []⟩]) (xs := [[.int .i64 1, .int .i64 1048576, .int .i64 1, .int .i64 0, .slice none 0 0, .slice none 0 0], [.int .i64 1, .int .i64 1, .int .i64 2, .int .i64 0, .slice none 0 0, .slice none 0 0], [.int .i64 1, .int .i64 5, .int .i64 1, .int .i64 7, .slice none 0 0, .slice none 0 0]]) h13 rfl rfl rfl (Nat.le_of_ble_eq_true (by kernel_rfl)) rfl (fun i hi => ?_)
    match i, hi with
    | 0, _ => exact ⟨none, 0, none, 0, rfl, (locs_none V), (ints_noneA V)⟩
    | 1, _ => exact ⟨none, 0, none, 0, rfl, (locs_none V), (ints_noneA V)⟩
    | 2, _ => exact ⟨none, 0, none, 0, rfl, (locs_none V), (ints_noneA V)⟩
  have hi1 : Lst EnI 6 V (some ⟨B + 6, 0, none⟩) 2 [⟨26, 0, (0, 0), [(1, 0)], []⟩, ⟨3, 0, (1, 0), [(1, 0), (2, 0)], []⟩] := by
    refine lst_exact (α := Ai) (En := EnI) (N := [⟨26, 0, (0, 0), [(1, 0)], []⟩, ⟨3, 0, (1, 0), [(1, 0), (2, 0)], []⟩]) (xs := [[.int .i64 26, .int .i64 0, .int .i64 0, .int .i64 0, .slice (some ⟨B + 1, 0, none⟩) 1 1, .slice none 0 0], [.int .i64 3, .int .i64 0, .int .i64 1, .int .i64 0, .slice (some ⟨B + 5, 0, none⟩) 2 2, .slice none 0 0]]) h6 rfl rfl rfl (Nat.le_of_ble_eq_true (by kernel_rfl)) rfl (fun i hi => ?_)
    match i, hi with
    | 0, _ => exact ⟨some ⟨B + 1, 0, none⟩, 1, none, 0, rfl, (locs_exact (L := [(1, 0)]) h1 rfl (by decide)), (ints_noneA V)⟩
    | 1, _ => exact ⟨some ⟨B + 5, 0, none⟩, 2, none, 0, rfl, (locs_exact (L := [(1, 0), (2, 0)]) h5 rfl (by decide)), (ints_noneA V)⟩
  have hb : Lst EnB 5 V (some ⟨Q, 0, none⟩) 3 [⟨[⟨1, 1048576, (1, 0), [], []⟩, ⟨1, 1, (2, 0), [], []⟩, ⟨1, 5, (1, 7), [], []⟩], 1, (0, 0), [1]⟩, ⟨[⟨26, 0, (0, 0), [(1, 0)], []⟩, ⟨3, 0, (1, 0), [(1, 0), (2, 0)], []⟩], 2, (1, 0), [1, 2]⟩, ⟨[], 4, (1, 7), []⟩] := by
    refine lst_exact (α := Ab) (En := EnB) (N := [⟨[⟨1, 1048576, (1, 0), [], []⟩, ⟨1, 1, (2, 0), [], []⟩, ⟨1, 5, (1, 7), [], []⟩], 1, (0, 0), [1]⟩, ⟨[⟨26, 0, (0, 0), [(1, 0)], []⟩, ⟨3, 0, (1, 0), [(1, 0), (2, 0)], []⟩], 2, (1, 0), [1, 2]⟩, ⟨[], 4, (1, 7), []⟩]) (xs := [[.slice (some ⟨B + 13, 0, none⟩) 3 3, .int .i64 1, .int .i64 0, .int .i64 0, .slice (some ⟨B + 14, 0, none⟩) 1 1], [.slice (some ⟨B + 6, 0, none⟩) 2 2, .int .i64 2, .int .i64 1, .int .i64 0, .slice (some ⟨B + 8, 0, none⟩) 2 2], [.slice none 0 0, .int .i64 4, .int .i64 1, .int .i64 7, .slice none 0 0]]) g1' rfl rfl rfl (Nat.le_of_ble_eq_true (by kernel_rfl)) rfl (fun i hi => ?_)
    match i, hi with
    | 0, _ => exact ⟨some ⟨B + 13, 0, none⟩, 3, some ⟨B + 14, 0, none⟩, 1, rfl, hi0, (ints_exactA (L := [1]) h14 (by decide))⟩
    | 1, _ => exact ⟨some ⟨B + 6, 0, none⟩, 2, some ⟨B + 8, 0, none⟩, 2, rfl, hi1, (ints_exactA (L := [1, 2]) h8 (by decide))⟩
    | 2, _ => exact ⟨none, 0, none, 0, rfl, (Lst.nil V (by decide)), (ints_noneA V)⟩
  refine lst_exact (α := Af) (En := EnF) (N := reF (reL 2)) (xs := [[.string ⟨#[109, 97, 105, 110]⟩, .slice none 0 0, .int .i64 0, .int .i64 1, .slice (some ⟨Q, 0, none⟩) 3 3]]) g2 rfl rfl rfl (Nat.le_of_ble_eq_true (by kernel_rfl)) rfl (fun i hi => ?_)
  match i, hi with
  | 0, _ => exact ⟨none, 0, some ⟨Q, 0, none⟩, 3, rfl, (locs_none V), hb⟩
set_option maxRecDepth 100000 in
theorem re_afs3 {wL W : World} {B l q : Nat} (h : RS wL W B l q #[.slice (some ⟨B + 20, 0, none⟩) 1 1, .int .i64 3, .int .i64 0, .int .i64 0, .slice none 0 0] #[.slice none 0 0, .int .i64 2, .int .i64 3, .int .i64 0, .int .i64 3145733, .int .i64 0, .int .i64 1] [.cells #[.int .i64 1, .int .i64 0] 24, .cells #[.int .i64 1, .int .i64 0] 24, .cells #[.int .i64 28, .int .i64 3, .int .i64 0, .int .i64 0, .slice (some ⟨B + 19, 0, none⟩) 1 1, .slice none 0 0] 29]) {Q : Nat} (hQ : Q = W.heap.size) : Afs ((W.alloc (.cells #[.slice (some ⟨B + 13, 0, none⟩) 3 3, .int .i64 1, .int .i64 0, .int .i64 0, .slice (some ⟨B + 14, 0, none⟩) 1 1, .slice (some ⟨B + 6, 0, none⟩) 2 2, .int .i64 2, .int .i64 1, .int .i64 0, .slice (some ⟨B + 8, 0, none⟩) 2 2, .slice (some ⟨B + 20, 0, none⟩) 1 1, .int .i64 3, .int .i64 0, .int .i64 0, .slice none 0 0] 34)).alloc (.cells #[.string ⟨#[109, 97, 105, 110]⟩, .slice none 0 0, .int .i64 0, .int .i64 1, .slice (some ⟨Q, 0, none⟩) 3 3] 37)) (some ⟨Q + 1, 0, none⟩) 1 (reF (reL 3)) := by
  have b1 := below_newA W (.cells #[.slice (some ⟨B + 13, 0, none⟩) 3 3, .int .i64 1, .int .i64 0, .int .i64 0, .slice (some ⟨B + 14, 0, none⟩) 1 1, .slice (some ⟨B + 6, 0, none⟩) 2 2, .int .i64 2, .int .i64 1, .int .i64 0, .slice (some ⟨B + 8, 0, none⟩) 2 2, .slice (some ⟨B + 20, 0, none⟩) 1 1, .int .i64 3, .int .i64 0, .int .i64 0, .slice none 0 0] 34)
  have b2 := below_newA (W.alloc (.cells #[.slice (some ⟨B + 13, 0, none⟩) 3 3, .int .i64 1, .int .i64 0, .int .i64 0, .slice (some ⟨B + 14, 0, none⟩) 1 1, .slice (some ⟨B + 6, 0, none⟩) 2 2, .int .i64 2, .int .i64 1, .int .i64 0, .slice (some ⟨B + 8, 0, none⟩) 2 2, .slice (some ⟨B + 20, 0, none⟩) 1 1, .int .i64 3, .int .i64 0, .int .i64 0, .slice none 0 0] 34)) (.cells #[.string ⟨#[109, 97, 105, 110]⟩, .slice none 0 0, .int .i64 0, .int .i64 1, .slice (some ⟨Q, 0, none⟩) 3 3] 37)
  have g1 := heap_alloc_new W (.cells #[.slice (some ⟨B + 13, 0, none⟩) 3 3, .int .i64 1, .int .i64 0, .int .i64 0, .slice (some ⟨B + 14, 0, none⟩) 1 1, .slice (some ⟨B + 6, 0, none⟩) 2 2, .int .i64 2, .int .i64 1, .int .i64 0, .slice (some ⟨B + 8, 0, none⟩) 2 2, .slice (some ⟨B + 20, 0, none⟩) 1 1, .int .i64 3, .int .i64 0, .int .i64 0, .slice none 0 0] 34)
  have g2 := heap_alloc_new (W.alloc (.cells #[.slice (some ⟨B + 13, 0, none⟩) 3 3, .int .i64 1, .int .i64 0, .int .i64 0, .slice (some ⟨B + 14, 0, none⟩) 1 1, .slice (some ⟨B + 6, 0, none⟩) 2 2, .int .i64 2, .int .i64 1, .int .i64 0, .slice (some ⟨B + 8, 0, none⟩) 2 2, .slice (some ⟨B + 20, 0, none⟩) 1 1, .int .i64 3, .int .i64 0, .int .i64 0, .slice none 0 0] 34)) (.cells #[.string ⟨#[109, 97, 105, 110]⟩, .slice none 0 0, .int .i64 0, .int .i64 1, .slice (some ⟨Q, 0, none⟩) 3 3] 37)
  have e2 : (W.alloc (.cells #[.slice (some ⟨B + 13, 0, none⟩) 3 3, .int .i64 1, .int .i64 0, .int .i64 0, .slice (some ⟨B + 14, 0, none⟩) 1 1, .slice (some ⟨B + 6, 0, none⟩) 2 2, .int .i64 2, .int .i64 1, .int .i64 0, .slice (some ⟨B + 8, 0, none⟩) 2 2, .slice (some ⟨B + 20, 0, none⟩) 1 1, .int .i64 3, .int .i64 0, .int .i64 0, .slice none 0 0] 34)).heap.size = Q + 1 := by simp [hQ]
  rw [e2] at g2
  rw [← hQ] at g1
  have b12 := b1.trans (b2.mono b1.size)
  have g1' := (b2.block Q (by rw [e2]; omega)).trans g1
  have s := h.size
  obtain ⟨V, hV⟩ : ∃ V, V = (W.alloc (.cells #[.slice (some ⟨B + 13, 0, none⟩) 3 3, .int .i64 1, .int .i64 0, .int .i64 0, .slice (some ⟨B + 14, 0, none⟩) 1 1, .slice (some ⟨B + 6, 0, none⟩) 2 2, .int .i64 2, .int .i64 1, .int .i64 0, .slice (some ⟨B + 8, 0, none⟩) 2 2, .slice (some ⟨B + 20, 0, none⟩) 1 1, .int .i64 3, .int .i64 0, .int .i64 0, .slice none 0 0] 34)).alloc (.cells #[.string ⟨#[109, 97, 105, 110]⟩, .slice none 0 0, .int .i64 0, .int .i64 1, .slice (some ⟨Q, 0, none⟩) 3 3] 37) := ⟨_, rfl⟩
  rw [← hV] at b12 g1' g2 ⊢
  have h1 := (b12.block (B + 1) (by omega)).trans (h.low 1 (by simp [reX]) (by omega))
  have h5 := (b12.block (B + 5) (by omega)).trans (h.low 5 (by simp [reX]) (by omega))
  have h6 := (b12.block (B + 6) (by omega)).trans (h.low 6 (by simp [reX]) (by omega))
  have h8 := (b12.block (B + 8) (by omega)).trans (h.low 8 (by simp [reX]) (by omega))
  have h13 := (b12.block (B + 13) (by omega)).trans (h.low 13 (by simp [reX]) (by omega))
  have h14 := (b12.block (B + 14) (by omega)).trans (h.low 14 (by simp [reX]) (by omega))
  have n19 := (b12.block (B + 18 + 1) (by simp at s; omega)).trans (h.new 1 (by simp))
  have n20 := (b12.block (B + 18 + 2) (by simp at s; omega)).trans (h.new 2 (by simp))
  clear b1 b2 b12 g1 e2 hV h s
  have hi0 : Lst EnI 6 V (some ⟨B + 13, 0, none⟩) 3 [⟨1, 1048576, (1, 0), [], []⟩, ⟨1, 1, (2, 0), [], []⟩, ⟨1, 5, (1, 7), [], []⟩] := by
    refine lst_exact (α := Ai) (En := EnI) (N := [⟨1, 1048576, (1, 0), [], []⟩, ⟨1, 1, (2, 0), [], []⟩, ⟨1, 5, (1, 7), [], []⟩]) (xs := [[.int .i64 1, .int .i64 1048576, .int .i64 1, .int .i64 0, .slice none 0 0, .slice none 0 0], [.int .i64 1, .int .i64 1, .int .i64 2, .int .i64 0, .slice none 0 0, .slice none 0 0], [.int .i64 1, .int .i64 5, .int .i64 1, .int .i64 7, .slice none 0 0, .slice none 0 0]]) h13 rfl rfl rfl (Nat.le_of_ble_eq_true (by kernel_rfl)) rfl (fun i hi => ?_)
    match i, hi with
    | 0, _ => exact ⟨none, 0, none, 0, rfl, (locs_none V), (ints_noneA V)⟩
    | 1, _ => exact ⟨none, 0, none, 0, rfl, (locs_none V), (ints_noneA V)⟩
    | 2, _ => exact ⟨none, 0, none, 0, rfl, (locs_none V), (ints_noneA V)⟩
  have hi1 : Lst EnI 6 V (some ⟨B + 6, 0, none⟩) 2 [⟨26, 0, (0, 0), [(1, 0)], []⟩, ⟨3, 0, (1, 0), [(1, 0), (2, 0)], []⟩] := by
    refine lst_exact (α := Ai) (En := EnI) (N := [⟨26, 0, (0, 0), [(1, 0)], []⟩, ⟨3, 0, (1, 0), [(1, 0), (2, 0)], []⟩]) (xs := [[.int .i64 26, .int .i64 0, .int .i64 0, .int .i64 0, .slice (some ⟨B + 1, 0, none⟩) 1 1, .slice none 0 0], [.int .i64 3, .int .i64 0, .int .i64 1, .int .i64 0, .slice (some ⟨B + 5, 0, none⟩) 2 2, .slice none 0 0]]) h6 rfl rfl rfl (Nat.le_of_ble_eq_true (by kernel_rfl)) rfl (fun i hi => ?_)
    match i, hi with
    | 0, _ => exact ⟨some ⟨B + 1, 0, none⟩, 1, none, 0, rfl, (locs_exact (L := [(1, 0)]) h1 rfl (by decide)), (ints_noneA V)⟩
    | 1, _ => exact ⟨some ⟨B + 5, 0, none⟩, 2, none, 0, rfl, (locs_exact (L := [(1, 0), (2, 0)]) h5 rfl (by decide)), (ints_noneA V)⟩
  have hi2 : Lst EnI 6 V (some ⟨B + 20, 0, none⟩) 1 [⟨28, 3, (0, 0), [(1, 0)], []⟩] := by
    refine lst_exact (α := Ai) (En := EnI) (N := [⟨28, 3, (0, 0), [(1, 0)], []⟩]) (xs := [[.int .i64 28, .int .i64 3, .int .i64 0, .int .i64 0, .slice (some ⟨B + 19, 0, none⟩) 1 1, .slice none 0 0]]) n20 rfl rfl rfl (Nat.le_of_ble_eq_true (by kernel_rfl)) rfl (fun i hi => ?_)
    match i, hi with
    | 0, _ => exact ⟨some ⟨B + 19, 0, none⟩, 1, none, 0, rfl, (locs_exact (L := [(1, 0)]) n19 rfl (by decide)), (ints_noneA V)⟩
  have hb : Lst EnB 5 V (some ⟨Q, 0, none⟩) 3 [⟨[⟨1, 1048576, (1, 0), [], []⟩, ⟨1, 1, (2, 0), [], []⟩, ⟨1, 5, (1, 7), [], []⟩], 1, (0, 0), [1]⟩, ⟨[⟨26, 0, (0, 0), [(1, 0)], []⟩, ⟨3, 0, (1, 0), [(1, 0), (2, 0)], []⟩], 2, (1, 0), [1, 2]⟩, ⟨[⟨28, 3, (0, 0), [(1, 0)], []⟩], 3, (0, 0), []⟩] := by
    refine lst_exact (α := Ab) (En := EnB) (N := [⟨[⟨1, 1048576, (1, 0), [], []⟩, ⟨1, 1, (2, 0), [], []⟩, ⟨1, 5, (1, 7), [], []⟩], 1, (0, 0), [1]⟩, ⟨[⟨26, 0, (0, 0), [(1, 0)], []⟩, ⟨3, 0, (1, 0), [(1, 0), (2, 0)], []⟩], 2, (1, 0), [1, 2]⟩, ⟨[⟨28, 3, (0, 0), [(1, 0)], []⟩], 3, (0, 0), []⟩]) (xs := [[.slice (some ⟨B + 13, 0, none⟩) 3 3, .int .i64 1, .int .i64 0, .int .i64 0, .slice (some ⟨B + 14, 0, none⟩) 1 1], [.slice (some ⟨B + 6, 0, none⟩) 2 2, .int .i64 2, .int .i64 1, .int .i64 0, .slice (some ⟨B + 8, 0, none⟩) 2 2], [.slice (some ⟨B + 20, 0, none⟩) 1 1, .int .i64 3, .int .i64 0, .int .i64 0, .slice none 0 0]]) g1' rfl rfl rfl (Nat.le_of_ble_eq_true (by kernel_rfl)) rfl (fun i hi => ?_)
    match i, hi with
    | 0, _ => exact ⟨some ⟨B + 13, 0, none⟩, 3, some ⟨B + 14, 0, none⟩, 1, rfl, hi0, (ints_exactA (L := [1]) h14 (by decide))⟩
    | 1, _ => exact ⟨some ⟨B + 6, 0, none⟩, 2, some ⟨B + 8, 0, none⟩, 2, rfl, hi1, (ints_exactA (L := [1, 2]) h8 (by decide))⟩
    | 2, _ => exact ⟨some ⟨B + 20, 0, none⟩, 1, none, 0, rfl, hi2, (ints_noneA V)⟩
  refine lst_exact (α := Af) (En := EnF) (N := reF (reL 3)) (xs := [[.string ⟨#[109, 97, 105, 110]⟩, .slice none 0 0, .int .i64 0, .int .i64 1, .slice (some ⟨Q, 0, none⟩) 3 3]]) g2 rfl rfl rfl (Nat.le_of_ble_eq_true (by kernel_rfl)) rfl (fun i hi => ?_)
  match i, hi with
  | 0, _ => exact ⟨none, 0, some ⟨Q, 0, none⟩, 3, rfl, (locs_none V), hb⟩
set_option maxRecDepth 100000 in
theorem re_afs4 {wL W : World} {B l q : Nat} (h : RS wL W B l q #[.slice (some ⟨B + 20, 0, none⟩) 1 1, .int .i64 3, .int .i64 0, .int .i64 0, .slice none 0 0] #[.slice none 0 0, .int .i64 3, .int .i64 5, .int .i64 0, .int .i64 3145733, .int .i64 0, .int .i64 1] [.cells #[.int .i64 1, .int .i64 7] 24, .cells #[.int .i64 1, .int .i64 7] 24, .cells #[.int .i64 27, .int .i64 0, .int .i64 0, .int .i64 0, .slice (some ⟨B + 19, 0, none⟩) 1 1, .slice none 0 0] 29]) {Q : Nat} (hQ : Q = W.heap.size) : Afs ((W.alloc (.cells #[.slice (some ⟨B + 13, 0, none⟩) 3 3, .int .i64 1, .int .i64 0, .int .i64 0, .slice (some ⟨B + 14, 0, none⟩) 1 1, .slice (some ⟨B + 6, 0, none⟩) 2 2, .int .i64 2, .int .i64 1, .int .i64 0, .slice (some ⟨B + 8, 0, none⟩) 2 2, .slice (some ⟨B + 20, 0, none⟩) 1 1, .int .i64 3, .int .i64 0, .int .i64 0, .slice none 0 0] 34)).alloc (.cells #[.string ⟨#[109, 97, 105, 110]⟩, .slice none 0 0, .int .i64 0, .int .i64 1, .slice (some ⟨Q, 0, none⟩) 3 3] 37)) (some ⟨Q + 1, 0, none⟩) 1 (reF (reL 4)) := by
  have b1 := below_newA W (.cells #[.slice (some ⟨B + 13, 0, none⟩) 3 3, .int .i64 1, .int .i64 0, .int .i64 0, .slice (some ⟨B + 14, 0, none⟩) 1 1, .slice (some ⟨B + 6, 0, none⟩) 2 2, .int .i64 2, .int .i64 1, .int .i64 0, .slice (some ⟨B + 8, 0, none⟩) 2 2, .slice (some ⟨B + 20, 0, none⟩) 1 1, .int .i64 3, .int .i64 0, .int .i64 0, .slice none 0 0] 34)
  have b2 := below_newA (W.alloc (.cells #[.slice (some ⟨B + 13, 0, none⟩) 3 3, .int .i64 1, .int .i64 0, .int .i64 0, .slice (some ⟨B + 14, 0, none⟩) 1 1, .slice (some ⟨B + 6, 0, none⟩) 2 2, .int .i64 2, .int .i64 1, .int .i64 0, .slice (some ⟨B + 8, 0, none⟩) 2 2, .slice (some ⟨B + 20, 0, none⟩) 1 1, .int .i64 3, .int .i64 0, .int .i64 0, .slice none 0 0] 34)) (.cells #[.string ⟨#[109, 97, 105, 110]⟩, .slice none 0 0, .int .i64 0, .int .i64 1, .slice (some ⟨Q, 0, none⟩) 3 3] 37)
  have g1 := heap_alloc_new W (.cells #[.slice (some ⟨B + 13, 0, none⟩) 3 3, .int .i64 1, .int .i64 0, .int .i64 0, .slice (some ⟨B + 14, 0, none⟩) 1 1, .slice (some ⟨B + 6, 0, none⟩) 2 2, .int .i64 2, .int .i64 1, .int .i64 0, .slice (some ⟨B + 8, 0, none⟩) 2 2, .slice (some ⟨B + 20, 0, none⟩) 1 1, .int .i64 3, .int .i64 0, .int .i64 0, .slice none 0 0] 34)
  have g2 := heap_alloc_new (W.alloc (.cells #[.slice (some ⟨B + 13, 0, none⟩) 3 3, .int .i64 1, .int .i64 0, .int .i64 0, .slice (some ⟨B + 14, 0, none⟩) 1 1, .slice (some ⟨B + 6, 0, none⟩) 2 2, .int .i64 2, .int .i64 1, .int .i64 0, .slice (some ⟨B + 8, 0, none⟩) 2 2, .slice (some ⟨B + 20, 0, none⟩) 1 1, .int .i64 3, .int .i64 0, .int .i64 0, .slice none 0 0] 34)) (.cells #[.string ⟨#[109, 97, 105, 110]⟩, .slice none 0 0, .int .i64 0, .int .i64 1, .slice (some ⟨Q, 0, none⟩) 3 3] 37)
  have e2 : (W.alloc (.cells #[.slice (some ⟨B + 13, 0, none⟩) 3 3, .int .i64 1, .int .i64 0, .int .i64 0, .slice (some ⟨B + 14, 0, none⟩) 1 1, .slice (some ⟨B + 6, 0, none⟩) 2 2, .int .i64 2, .int .i64 1, .int .i64 0, .slice (some ⟨B + 8, 0, none⟩) 2 2, .slice (some ⟨B + 20, 0, none⟩) 1 1, .int .i64 3, .int .i64 0, .int .i64 0, .slice none 0 0] 34)).heap.size = Q + 1 := by simp [hQ]
  rw [e2] at g2
  rw [← hQ] at g1
  have b12 := b1.trans (b2.mono b1.size)
  have g1' := (b2.block Q (by rw [e2]; omega)).trans g1
  have s := h.size
  obtain ⟨V, hV⟩ : ∃ V, V = (W.alloc (.cells #[.slice (some ⟨B + 13, 0, none⟩) 3 3, .int .i64 1, .int .i64 0, .int .i64 0, .slice (some ⟨B + 14, 0, none⟩) 1 1, .slice (some ⟨B + 6, 0, none⟩) 2 2, .int .i64 2, .int .i64 1, .int .i64 0, .slice (some ⟨B + 8, 0, none⟩) 2 2, .slice (some ⟨B + 20, 0, none⟩) 1 1, .int .i64 3, .int .i64 0, .int .i64 0, .slice none 0 0] 34)).alloc (.cells #[.string ⟨#[109, 97, 105, 110]⟩, .slice none 0 0, .int .i64 0, .int .i64 1, .slice (some ⟨Q, 0, none⟩) 3 3] 37) := ⟨_, rfl⟩
  rw [← hV] at b12 g1' g2 ⊢
  have h1 := (b12.block (B + 1) (by omega)).trans (h.low 1 (by simp [reX]) (by omega))
  have h5 := (b12.block (B + 5) (by omega)).trans (h.low 5 (by simp [reX]) (by omega))
  have h6 := (b12.block (B + 6) (by omega)).trans (h.low 6 (by simp [reX]) (by omega))
  have h8 := (b12.block (B + 8) (by omega)).trans (h.low 8 (by simp [reX]) (by omega))
  have h13 := (b12.block (B + 13) (by omega)).trans (h.low 13 (by simp [reX]) (by omega))
  have h14 := (b12.block (B + 14) (by omega)).trans (h.low 14 (by simp [reX]) (by omega))
  have n19 := (b12.block (B + 18 + 1) (by simp at s; omega)).trans (h.new 1 (by simp))
  have n20 := (b12.block (B + 18 + 2) (by simp at s; omega)).trans (h.new 2 (by simp))
  clear b1 b2 b12 g1 e2 hV h s
  have hi0 : Lst EnI 6 V (some ⟨B + 13, 0, none⟩) 3 [⟨1, 1048576, (1, 0), [], []⟩, ⟨1, 1, (2, 0), [], []⟩, ⟨1, 5, (1, 7), [], []⟩] := by
    refine lst_exact (α := Ai) (En := EnI) (N := [⟨1, 1048576, (1, 0), [], []⟩, ⟨1, 1, (2, 0), [], []⟩, ⟨1, 5, (1, 7), [], []⟩]) (xs := [[.int .i64 1, .int .i64 1048576, .int .i64 1, .int .i64 0, .slice none 0 0, .slice none 0 0], [.int .i64 1, .int .i64 1, .int .i64 2, .int .i64 0, .slice none 0 0, .slice none 0 0], [.int .i64 1, .int .i64 5, .int .i64 1, .int .i64 7, .slice none 0 0, .slice none 0 0]]) h13 rfl rfl rfl (Nat.le_of_ble_eq_true (by kernel_rfl)) rfl (fun i hi => ?_)
    match i, hi with
    | 0, _ => exact ⟨none, 0, none, 0, rfl, (locs_none V), (ints_noneA V)⟩
    | 1, _ => exact ⟨none, 0, none, 0, rfl, (locs_none V), (ints_noneA V)⟩
    | 2, _ => exact ⟨none, 0, none, 0, rfl, (locs_none V), (ints_noneA V)⟩
  have hi1 : Lst EnI 6 V (some ⟨B + 6, 0, none⟩) 2 [⟨26, 0, (0, 0), [(1, 0)], []⟩, ⟨3, 0, (1, 0), [(1, 0), (2, 0)], []⟩] := by
    refine lst_exact (α := Ai) (En := EnI) (N := [⟨26, 0, (0, 0), [(1, 0)], []⟩, ⟨3, 0, (1, 0), [(1, 0), (2, 0)], []⟩]) (xs := [[.int .i64 26, .int .i64 0, .int .i64 0, .int .i64 0, .slice (some ⟨B + 1, 0, none⟩) 1 1, .slice none 0 0], [.int .i64 3, .int .i64 0, .int .i64 1, .int .i64 0, .slice (some ⟨B + 5, 0, none⟩) 2 2, .slice none 0 0]]) h6 rfl rfl rfl (Nat.le_of_ble_eq_true (by kernel_rfl)) rfl (fun i hi => ?_)
    match i, hi with
    | 0, _ => exact ⟨some ⟨B + 1, 0, none⟩, 1, none, 0, rfl, (locs_exact (L := [(1, 0)]) h1 rfl (by decide)), (ints_noneA V)⟩
    | 1, _ => exact ⟨some ⟨B + 5, 0, none⟩, 2, none, 0, rfl, (locs_exact (L := [(1, 0), (2, 0)]) h5 rfl (by decide)), (ints_noneA V)⟩
  have hi2 : Lst EnI 6 V (some ⟨B + 20, 0, none⟩) 1 [⟨27, 0, (0, 0), [(1, 7)], []⟩] := by
    refine lst_exact (α := Ai) (En := EnI) (N := [⟨27, 0, (0, 0), [(1, 7)], []⟩]) (xs := [[.int .i64 27, .int .i64 0, .int .i64 0, .int .i64 0, .slice (some ⟨B + 19, 0, none⟩) 1 1, .slice none 0 0]]) n20 rfl rfl rfl (Nat.le_of_ble_eq_true (by kernel_rfl)) rfl (fun i hi => ?_)
    match i, hi with
    | 0, _ => exact ⟨some ⟨B + 19, 0, none⟩, 1, none, 0, rfl, (locs_exact (L := [(1, 7)]) n19 rfl (by decide)), (ints_noneA V)⟩
  have hb : Lst EnB 5 V (some ⟨Q, 0, none⟩) 3 [⟨[⟨1, 1048576, (1, 0), [], []⟩, ⟨1, 1, (2, 0), [], []⟩, ⟨1, 5, (1, 7), [], []⟩], 1, (0, 0), [1]⟩, ⟨[⟨26, 0, (0, 0), [(1, 0)], []⟩, ⟨3, 0, (1, 0), [(1, 0), (2, 0)], []⟩], 2, (1, 0), [1, 2]⟩, ⟨[⟨27, 0, (0, 0), [(1, 7)], []⟩], 3, (0, 0), []⟩] := by
    refine lst_exact (α := Ab) (En := EnB) (N := [⟨[⟨1, 1048576, (1, 0), [], []⟩, ⟨1, 1, (2, 0), [], []⟩, ⟨1, 5, (1, 7), [], []⟩], 1, (0, 0), [1]⟩, ⟨[⟨26, 0, (0, 0), [(1, 0)], []⟩, ⟨3, 0, (1, 0), [(1, 0), (2, 0)], []⟩], 2, (1, 0), [1, 2]⟩, ⟨[⟨27, 0, (0, 0), [(1, 7)], []⟩], 3, (0, 0), []⟩]) (xs := [[.slice (some ⟨B + 13, 0, none⟩) 3 3, .int .i64 1, .int .i64 0, .int .i64 0, .slice (some ⟨B + 14, 0, none⟩) 1 1], [.slice (some ⟨B + 6, 0, none⟩) 2 2, .int .i64 2, .int .i64 1, .int .i64 0, .slice (some ⟨B + 8, 0, none⟩) 2 2], [.slice (some ⟨B + 20, 0, none⟩) 1 1, .int .i64 3, .int .i64 0, .int .i64 0, .slice none 0 0]]) g1' rfl rfl rfl (Nat.le_of_ble_eq_true (by kernel_rfl)) rfl (fun i hi => ?_)
    match i, hi with
    | 0, _ => exact ⟨some ⟨B + 13, 0, none⟩, 3, some ⟨B + 14, 0, none⟩, 1, rfl, hi0, (ints_exactA (L := [1]) h14 (by decide))⟩
    | 1, _ => exact ⟨some ⟨B + 6, 0, none⟩, 2, some ⟨B + 8, 0, none⟩, 2, rfl, hi1, (ints_exactA (L := [1, 2]) h8 (by decide))⟩
    | 2, _ => exact ⟨some ⟨B + 20, 0, none⟩, 1, none, 0, rfl, hi2, (ints_noneA V)⟩
  refine lst_exact (α := Af) (En := EnF) (N := reF (reL 4)) (xs := [[.string ⟨#[109, 97, 105, 110]⟩, .slice none 0 0, .int .i64 0, .int .i64 1, .slice (some ⟨Q, 0, none⟩) 3 3]]) g2 rfl rfl rfl (Nat.le_of_ble_eq_true (by kernel_rfl)) rfl (fun i hi => ?_)
  match i, hi with
  | 0, _ => exact ⟨none, 0, some ⟨Q, 0, none⟩, 3, rfl, (locs_none V), hb⟩
theorem evs_nilA (w : World) : Evs w none 0 [] := ⟨Nat.le_refl _, by decide, fun _ => rfl, fun h => absurd rfl h⟩
/-- What the two runs leave, and what is wanted. -/
structure TwoA (w W : World) (gx gy gw K : Nat) (x1 x2 x3 x4 : Int) (oa ya : Option Addr) (oc yc : Nat) : Prop where
  bel : Below w.heap.size w W
  kx : W.heap[gx]? = some (.cells #[.slice oa K oc, .int .i64 x1, .int .i64 x2, .int .i64 x3, .int .i64 x4, .int .i64 0, .int .i64 1] 48 (0, 0))
  ky : W.heap[gy]? = some (.cells #[.slice ya K yc, .int .i64 x1, .int .i64 x2, .int .i64 x3, .int .i64 x4, .int .i64 0, .int .i64 1] 48 (0, 0))
  kw : W.heap[gw]? = some (.cells #[.slice none 0 0, .int .i64 x1, .int .i64 x2, .int .i64 x3, .int .i64 x4, .int .i64 0, .int .i64 1] 48 (0, 0))
  eo : Evs W oa oc (uev K)
  ey : Evs W ya yc (uev K)
theorem TwoA.keep {w W W' gx gy gw K x1 x2 x3 x4 oa ya oc yc} (h : TwoA w W gx gy gw K x1 x2 x3 x4 oa ya oc yc) (b : Below W.heap.size W W') : TwoA w W' gx gy gw K x1 x2 x3 x4 oa ya oc yc :=
  ⟨h.bel.trans (b.mono h.bel.size), (b.block _ (Array.getElem?_eq_some_iff.1 h.kx).1).trans h.kx, (b.block _ (Array.getElem?_eq_some_iff.1 h.ky).1).trans h.ky, (b.block _ (Array.getElem?_eq_some_iff.1 h.kw).1).trans h.kw, h.eo.belowR b, h.ey.belowR b⟩
end Go.Proofs.YtegoemeefmjnoaaGreatDoor
