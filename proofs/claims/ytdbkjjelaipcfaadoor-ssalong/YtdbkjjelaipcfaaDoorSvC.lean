import Derived.Test.YtdbkjjelaipcfaaDoorSvB
set_option linter.unusedVariables false
set_option linter.unusedSimpArgs false
namespace Go.Proofs.YtdbkjjelaipcfaaDoor
open Go.ChangeShapes Go.WideShapes Go.ChangeAt Go.RowKit Go.Maps

def nmMain : ByteArray := ⟨#[109, 97, 105, 110]⟩
/-- The chain while it is made. -/
structure LG (w1 wr : World) (B k : Nat) (v : Value) (g h : Nat → Nat) : Prop where
  z0 : wr.heap[B]? = some (.cells #[.int .i64 0] 3 (0, 0))
  vv : wr.heap[B + 1]? = some (.cells #[.int .i64 1, .int .i64 1, .int .i64 7, .slice none 0 0, .int .i64 26, .int .i64 0, .int .i64 0, .slice (some ⟨B, 0, none⟩) 1 1] 25 (0, 0))
  fo : wr.heap[B + 2]? = some (.cells #[.string ⟨#[109, 97, 105, 110]⟩, .slice none 0 0, .int .i64 0, .slice (some ⟨B + 1, 0, none⟩) 2 2, v] 29 (0, 0))
  own : wr.ownsRow (B + 3) 33 6 v k (lgcs g h k)
  gi : ∀ i, i < k → wr.heap[g i]? = some (.cells #[.int .i64 ((i : Int) + 1)] 3 (0, 0))
  hi : ∀ i, 0 < i → i < k → wr.heap[h i]? = some (.cells #[.int .i64 ((i : Int) - 1)] 3 (0, 0))
  low : Below B w1 wr
theorem LG.keep {w1 wr W : World} {B k v g h} (L : LG w1 wr B k v g h) (hb : Below wr.heap.size wr W) : LG w1 W B k v g h := by
  have e : ∀ (j : Nat) (X : Obj), wr.heap[j]? = some X → W.heap[j]? = some X := fun j X hj => (hb.block j (Array.getElem?_eq_some_iff.1 hj).1).trans hj
  have hl := (Array.getElem?_eq_some_iff.1 L.fo).1
  exact ⟨e _ _ L.z0, e _ _ L.vv, e _ _ L.fo, own_keep L.own hb.block, fun i hi => e _ _ (L.gi i hi), fun i h0 hi => e _ _ (L.hi i h0 hi), L.low.trans (hb.mono (by omega))⟩
theorem LG.more {w1 W w6 : World} {B k v g h} (L : LG w1 W B k v g h) {gn' hn' : Nat} (hg : W.heap[gn']? = some (.cells #[.int .i64 ((k : Int) + 1)] 3 (0, 0))) (hh : 0 < k → W.heap[hn']? = some (.cells #[.int .i64 ((k : Int) - 1)] 3 (0, 0))) {v6 : Value}
    (h6 : w6.ownsRow (B + 3) 33 6 v6 (k + 1) (lgcs g h k ++ lgc (fun i => if i = k then gn' else g i) (fun i => if i = k then hn' else h i) k)) (g6 : GI (B + 3) W w6 v v6) :
    w6.cell? ⟨B + 2, 4, none⟩ = some v ∧ w6.frozen? ⟨B + 2, 4, none⟩ = false ∧ LG w1 (w6.setCell ⟨B + 2, 4, none⟩ v6) B (k + 1) v6 (fun i => if i = k then gn' else g i) (fun i => if i = k then hn' else h i) := by
  have ne : ∀ (j : Nat) (A : Array Value) (t : TypeId) (fz : Nat × Nat), W.heap[j]? = some (.cells A t fz) → 33 ≠ t → w6.heap[j]? = some (.cells A t fz) := fun j A t fz hj ht => (g6.blk j (Array.getElem?_eq_some_iff.1 hj).1 (own_not L.own hj ht)).trans hj
  have nb : ∀ (j : Nat) (A : Array Value) (t : TypeId) (fz : Nat × Nat), W.heap[j]? = some (.cells A t fz) → 29 ≠ t → j ≠ B + 2 := fun j A t fz hj ht e => by
    rw [e, L.fo] at hj
    simp only [Option.some.injEq, Obj.cells.injEq] at hj
    exact ht hj.2.1
  have both : ∀ (j : Nat) (A : Array Value) (t : TypeId) (fz : Nat × Nat), W.heap[j]? = some (.cells A t fz) → 33 ≠ t → 29 ≠ t → (w6.setCell ⟨B + 2, 4, none⟩ v6).heap[j]? = some (.cells A t fz) := fun j A t fz hj h1 h2 => (heap_set_other (nb j A t fz hj h2)).trans (ne j A t fz hj h1)
  have fo6 := ne _ _ _ _ L.fo (by decide)
  refine ⟨cell_arr fo6 rfl, fz_of fo6, both _ _ _ _ L.z0 (by decide) (by decide), both _ _ _ _ L.vv (by decide) (by decide), ?_, ?_, fun i hi => ?_, fun i h0 hi => ?_, (L.low.trans (g6.bel.mono (by omega))).setCell (by show B ≤ B + 2; omega) _⟩
  · have := heap_set_at (i := 4) (v := v6) fo6
    simpa using this
  · rw [show lgcs (fun i => if i = k then gn' else g i) (fun i => if i = k then hn' else h i) (k + 1) = lgcs g h k ++ lgc (fun i => if i = k then gn' else g i) (fun i => if i = k then hn' else h i) k by
      simp only [lgcs]
      rw [lgcs_same k fun i hi => ⟨if_neg (by omega), if_neg (by omega)⟩]]
    exact own_move h6 fun b hb => heap_set_other (fun e => own_not h6 fo6 (by decide) (by rw [hb, e]))
  · by_cases e : i = k
    · subst e; simp only [if_pos]; exact both _ _ _ _ hg (by decide) (by decide)
    · simp only [if_neg e]; exact both _ _ _ _ (L.gi i (by omega)) (by decide) (by decide)
  · by_cases e : i = k
    · subst e; simp only [if_pos]; exact both _ _ _ _ (hh h0) (by decide) (by decide)
    · simp only [if_neg e]; exact both _ _ _ _ (L.hi i h0 (by omega)) (by decide) (by decide)
theorem LG.start (w1 : World) (B : Nat) (hB : B = w1.heap.size) : LG w1 (((w1.alloc (.cells #[.int .i64 0] 3)).alloc (.cells #[.int .i64 1, .int .i64 1, .int .i64 7, .slice none 0 0, .int .i64 26, .int .i64 0, .int .i64 0, .slice (some ⟨B, 0, none⟩) 1 1] 25)).alloc (.cells #[.string ⟨#[109, 97, 105, 110]⟩, .slice none 0 0, .int .i64 0, .slice (some ⟨B + 1, 0, none⟩) 2 2, .slice none 0 0] 29)) B 0 (.slice none 0 0) (fun _ => 0) (fun _ => 0) := by
  have hx := fun i h => al_at [.cells #[.int .i64 0] 3, .cells #[.int .i64 1, .int .i64 1, .int .i64 7, .slice none 0 0, .int .i64 26, .int .i64 0, .int .i64 0, .slice (some ⟨B, 0, none⟩) 1 1] 25, .cells #[.string ⟨#[109, 97, 105, 110]⟩, .slice none 0 0, .int .i64 0, .slice (some ⟨B + 1, 0, none⟩) 2 2, .slice none 0 0] 29] w1 i h
  have hb := al_below [.cells #[.int .i64 0] 3, .cells #[.int .i64 1, .int .i64 1, .int .i64 7, .slice none 0 0, .int .i64 26, .int .i64 0, .int .i64 0, .slice (some ⟨B, 0, none⟩) 1 1] 25, .cells #[.string ⟨#[109, 97, 105, 110]⟩, .slice none 0 0, .int .i64 0, .slice (some ⟨B + 1, 0, none⟩) 2 2, .slice none 0 0] 29] w1
  rw [← hB] at hx hb
  exact ⟨hx 0 (by simp), hx 1 (by simp), hx 2 (by simp), World.ownsRow_nil _ _ _ _, fun i hi => by omega, fun i _ hi => by omega, hb⟩
theorem RC.congr {w : World} {rb n c c'} (h : RC w rb n c) (e : ∀ i r, i < n → r < 6 → c i r = c' i r) : RC w rb n c' := by
  obtain ⟨cur, h1, h2⟩ := h.out
  exact ⟨cur, h1, fun i r hi hr => (h2 i r hi hr).trans (by rw [e i r hi hr])⟩
/-- The chain when it is made. -/
structure ST (w1 W : World) (B rb cap m : Nat) (c : Nat → Nat → Value) (g h : Nat → Nat) : Prop where
  z0 : W.heap[B]? = some (.cells #[.int .i64 0] 3 (0, 0))
  vv : W.heap[B + 1]? = some (.cells #[.int .i64 1, .int .i64 1, .int .i64 7, .slice none 0 0, .int .i64 26, .int .i64 0, .int .i64 0, .slice (some ⟨B, 0, none⟩) 1 1] 25 (0, 0))
  fo : W.heap[B + 2]? = some (.cells #[.string ⟨#[109, 97, 105, 110]⟩, .slice none 0 0, .int .i64 0, .slice (some ⟨B + 1, 0, none⟩) 2 2, .slice (some ⟨rb, 0, none⟩) (m + 1) cap] 29 (0, 0))
  rc : RC W rb (m + 1) c
  gi : ∀ i, i < m + 1 → W.heap[g i]? = some (.cells #[.int .i64 ((i : Int) + 1)] 3 (0, 0))
  hi : ∀ i, 0 < i → i < m + 1 → W.heap[h i]? = some (.cells #[.int .i64 ((i : Int) - 1)] 3 (0, 0))
  low : Below B w1 W
  rbB : B + 3 ≤ rb
theorem RC.other {W : World} {rb n c} (h : RC W rb n c) (o : Nat) (v : Value) {j : Nat} {A : Array Value} {t : TypeId} {fz : Nat × Nat} (hj : W.heap[j]? = some (.cells A t fz)) (ht : 33 ≠ t) : (W.setCell ⟨rb, o, none⟩ v).heap[j]? = some (.cells A t fz) := by
  obtain ⟨cur, h1, _⟩ := h.out
  refine (heap_set_other ?_).trans hj
  rintro rfl
  rw [h1] at hj
  simp only [Option.some.injEq, Obj.cells.injEq] at hj
  exact ht hj.2.1
theorem ST.set {w1 W : World} {B rb cap m c g h} (S : ST w1 W B rb cap m c g h) {i r : Nat} (hi : i < m + 1) (hr : r < 6) (v : Value) : ST w1 (W.setCell ⟨rb, i * 6 + r, none⟩ v) B rb cap m (fun i' r' => if i' = i ∧ r' = r then v else c i' r') g h :=
  ⟨S.rc.other _ v S.z0 (by decide), S.rc.other _ v S.vv (by decide), S.rc.other _ v S.fo (by decide), S.rc.set hi hr v, fun j hj => S.rc.other _ v (S.gi j hj) (by decide), fun j h0 hj => S.rc.other _ v (S.hi j h0 hj) (by decide), S.low.setCell (by show B ≤ rb; have := S.rbB; omega) _, S.rbB⟩
theorem ST.keep {w1 W W' : World} {B rb cap m c g h} (S : ST w1 W B rb cap m c g h) (hb : Below W.heap.size W W') : ST w1 W' B rb cap m c g h := by
  have e : ∀ (j : Nat) (X : Obj), W.heap[j]? = some X → W'.heap[j]? = some X := fun j X hj => (hb.block j (Array.getElem?_eq_some_iff.1 hj).1).trans hj
  have hl := (Array.getElem?_eq_some_iff.1 S.fo).1
  obtain ⟨cur, h1, h2⟩ := S.rc.out
  exact ⟨e _ _ S.z0, e _ _ S.vv, e _ _ S.fo, ⟨cur, e _ _ h1, h2⟩, fun i hi => e _ _ (S.gi i hi), fun i h0 hi => e _ _ (S.hi i h0 hi), S.low.trans (hb.mono (by omega)), S.rbB⟩
theorem ST.congr {w1 W : World} {B rb cap m c c' g h} (S : ST w1 W B rb cap m c g h) (e : ∀ i r, i < m + 1 → r < 6 → c i r = c' i r) : ST w1 W B rb cap m c' g h :=
  ⟨S.z0, S.vv, S.fo, S.rc.congr e, S.gi, S.hi, S.low, S.rbB⟩
theorem ST.f4 {w1 W : World} {B rb cap m c g h} (S : ST w1 W B rb cap m c g h) : W.cell? ⟨B + 2, 0, none⟩ = some (.string ⟨#[109, 97, 105, 110]⟩) ∧ W.cell? ⟨B + 2, 1, none⟩ = some (.slice none 0 0) ∧ W.cell? ⟨B + 2, 2, none⟩ = some (.int .i64 0) ∧ W.cell? ⟨B + 2, 3, none⟩ = some (.slice (some ⟨B + 1, 0, none⟩) 2 2) ∧ W.cell? ⟨B + 2, 4, none⟩ = some (.slice (some ⟨rb, 0, none⟩) (m + 1) cap) ∧ B + 2 < W.heap.size :=
  ⟨cell_arr S.fo rfl, cell_arr S.fo rfl, cell_arr S.fo rfl, cell_arr S.fo rfl, cell_arr S.fo rfl, (Array.getElem?_eq_some_iff.1 S.fo).1⟩
theorem LG.st {w1 wr : World} {B m rb cap g h} (L : LG w1 wr B (m + 1) (.slice (some ⟨rb, 0, none⟩) (m + 1) cap) g h) (hrb : B + 3 ≤ rb) : ST w1 wr B rb cap m (fun i r => (lgc g h i).getD r undef) g h :=
  ⟨L.z0, L.vv, L.fo, RC.of_own L.own (by omega), L.gi, L.hi, L.low, hrb⟩
theorem six {r : Nat} (hr : r < 6) : r = 0 ∨ r = 1 ∨ r = 2 ∨ r = 3 ∨ r = 4 ∨ r = 5 := by omega
theorem cnC_made {g h : Nat → Nat} {m : Nat} (hm : 1 ≤ m) (A Z : Value) : ∀ i r, i < m + 1 → r < 6 → (if i = m ∧ r = 4 then .slice none 0 0 else if i = m ∧ r = 3 then .int .i64 (-1) else if i = m ∧ r = 2 then .int .i64 3 else if i = m ∧ r = 1 then Z else if i = 0 ∧ r = 1 then A else (lgc g h i).getD r undef) = cnC g h (m + 1) A Z i r := by
  intro i r hi hr
  by_cases e : i = m
  · subst e
    have h0 : ¬ i = 0 := by omega
    rcases six hr with rfl | rfl | rfl | rfl | rfl | rfl <;> simp [cnC, lgc, h0]
  · have h0 : ¬ i + 1 = m + 1 := by omega
    rcases six hr with rfl | rfl | rfl | rfl | rfl | rfl <;> simp [cnC, lgc, e]
theorem cnC_last {g h : Nat → Nat} {m : Nat} (A Z Y : Value) : ∀ i r, i < m + 1 → r < 6 → (if i = m ∧ r = 1 then Y else cnC g h (m + 1) A Z i r) = cnC g h (m + 1) A Y i r := by
  intro i r hi hr
  by_cases e : i = m
  · subst e
    rcases six hr with rfl | rfl | rfl | rfl | rfl | rfl <;> simp [cnC]
  · rcases six hr with rfl | rfl | rfl | rfl | rfl | rfl <;> simp [cnC, e]
theorem cnC_first {g h : Nat → Nat} {m : Nat} (hm : 1 ≤ m) (A Z Y : Value) : ∀ i r, i < m + 1 → r < 6 → (if i = 0 ∧ r = 1 then Y else cnC g h (m + 1) A Z i r) = cnC g h (m + 1) Y Z i r := by
  intro i r hi hr
  by_cases e : i = 0
  · subst e
    have h0 : ¬ 0 = m := by omega
    have h1 : ¬ m = 0 := by omega
    rcases six hr with rfl | rfl | rfl | rfl | rfl | rfl <;> simp [cnC, h0, h1]
  · rcases six hr with rfl | rfl | rfl | rfl | rfl | rfl <;> simp [cnC, e]
theorem ST.fus {w1 W : World} {B rb cap m g h} {aa : Option Addr} {ac : Nat} {za : Option Addr} {zc : Nat} {a z : List Int} (S : ST w1 W B rb cap m (cnC g h (m + 1) (.slice aa a.length ac) (.slice za z.length zc)) g h) (hm : m ≤ 999) (hc1 : m + 1 ≤ cap) (hc2 : cap ≤ 9223372036854775807) {sf : Nat} (hsf : W.heap[sf]? = some (.cells #[.string ⟨#[109, 97, 105, 110]⟩, .slice none 0 0, .int .i64 0, .slice (some ⟨B + 1, 0, none⟩) 2 2, .slice (some ⟨rb, 0, none⟩) (m + 1) cap] 29 (0, 0))) (ha : Ints W aa ac a) (hz : Ints W za zc z) : Fus W (some ⟨sf, 0, none⟩) 1 [cnF (m + 1) a z] := by
  have hb := cn_bks (a := a) (z := z) S.rc (fun i r _ _ => rfl) hc1 hc2 (fun i hi => S.gi i (by omega)) S.hi ha hz
  have hv : Vls W (some ⟨B + 1, 0, none⟩) 2 (cnF (m + 1) a z).vals := by
    refine ⟨by simp [cnF], by decide, fun _ => ⟨B + 1, 0, rfl, (Array.getElem?_eq_some_iff.1 S.vv).1, fun i hi => ?_⟩⟩
    match i, hi with
    | 0, _ => exact ⟨none, 0, cell_arr (i := 0) S.vv rfl, cell_arr (i := 1) S.vv rfl, cell_arr (i := 2) S.vv rfl, cell_arr (i := 3) S.vv rfl, ints_none W⟩
    | 1, _ => exact ⟨some ⟨B, 0, none⟩, 1, cell_arr (i := 4) S.vv rfl, cell_arr (i := 5) S.vv rfl, cell_arr (i := 6) S.vv rfl, cell_arr (i := 7) S.vv rfl, ints_exact (L := [0]) S.z0 (by decide)⟩
    | j + 2, h => exact absurd h (by simp [cnF])
  refine ⟨by simp, by decide, fun _ => ⟨sf, 0, rfl, (Array.getElem?_eq_some_iff.1 hsf).1, fun i hi => ?_⟩⟩
  match i, hi with
  | 0, _ => exact ⟨none, 0, some ⟨B + 1, 0, none⟩, 2, some ⟨rb, 0, none⟩, cap, cell_arr (i := 0) hsf rfl, cell_arr (i := 1) hsf rfl, cell_arr (i := 2) hsf rfl, cell_arr (i := 3) hsf rfl, by rw [show ([cnF (m + 1) a z][0]).blks.length = m + 1 from cn_len _ _ _]; exact cell_arr (i := 4) hsf rfl, ints_none W, hv, hb⟩
  | j + 1, h => exact absurd h (by simp)
theorem set_size (w : World) (a : Addr) (v : Value) : (w.setCell a v).heap.size = w.heap.size := by simp [World.setCell]
end Go.Proofs.YtdbkjjelaipcfaaDoor
