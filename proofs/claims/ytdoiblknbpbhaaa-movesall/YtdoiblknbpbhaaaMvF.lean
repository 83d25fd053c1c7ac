import Derived.Test.YtdoiblknbpbhaaaMvQ
set_option linter.unusedVariables false
set_option linter.unusedSimpArgs false
namespace Go.Proofs.Ytdoiblknbpbhaaa
open Go.ChangeShapes Go.WideShapes Go.ChangeAt Go.RowKit Go.Maps

/-- A row of bools at block gb. -/
structure BR (w : World) (gb n : Nat) (L : List Bool) : Prop where
  len : L.length = n
  out : w.heap[gb]? = some (.cells (L.map Value.bool).toArray 4 (0, 0))
theorem BR.lt {w gb n L} (h : BR w gb n L) : gb < w.heap.size := (Array.getElem?_eq_some_iff.1 h.out).1
theorem BR.move {w w' : World} {gb n L} (h : BR w gb n L) (hk : w'.heap[gb]? = w.heap[gb]?) : BR w' gb n L := ⟨h.len, hk.trans h.out⟩
theorem BR.cell {w gb n L} (h : BR w gb n L) {i : Nat} (hi : i < L.length) : w.cell? ⟨gb, i, none⟩ = some (.bool L[i]) := cell_arr h.out (by simp [hi])
theorem BR.fz {w gb n L} (h : BR w gb n L) (i : Nat) : w.frozen? ⟨gb, i, none⟩ = false := fz_of h.out
theorem BR.set {w gb n L} (h : BR w gb n L) (i : Nat) (u : Bool) : BR (w.setCell ⟨gb, i, none⟩ (.bool u)) gb n (L.set i u) :=
  ⟨by simpa using h.len, by rw [heap_set_at h.out]; simp [List.map_set]⟩
def lftB (l A : List Mv) : List Bool := l.map fun m => decide (m ∈ A)
/-- How many moves that are left read a place. -/
def cntR (A : List Mv) (p : Lc) : Int := ((A.map Prod.snd).count p : Int)
theorem fre_cnt (A : List Mv) (m : Mv) : fre A m = (cntR A m.1 == 0) := by
  rw [Bool.eq_iff_iff]
  unfold fre cntR
  have := rd_iff (A := A) (p := m.1)
  constructor
  · intro h
    have h2 : ¬ rd A m.1 = true := by simpa using h
    rw [this] at h2
    simp; omega
  · intro h
    have h2 : (A.map Prod.snd).count m.1 = 0 := by simp at h; omega
    have h3 : ¬ rd A m.1 = true := by rw [this]; omega
    simpa using h3
/-- The program's sequence: its box sb, the row gb of what is left, the maps sm and rm, what was put (ov); l the moves, A those that are left. -/
structure SQ (w : World) (B sb gb sm rm : Nat) (la : Option Addr) (ln lc : Nat) (ov : Value) (l A R out : List Mv) : Prop where
  box : w.heap[sb]? = some (.cells #[.slice la ln lc, .slice (some ⟨gb, 0, none⟩) ln ln, .map (some sm), .map (some rm), ov] 59 (0, 0))
  lf : BR w gb ln (lftB l A)
  st : MpL w sm ln (fun p => decide (p ∈ l.map Prod.fst)) (ixP (l.map Prod.fst))
  rd : ∃ nr h, nr + R.length ≤ 2 * ln ∧ MpL w rm nr h (cntR R)
  ou : OwnM w B ov out.length out
  sr : sm ≠ rm
  lo : B ≤ sb ∧ B ≤ gb ∧ B ≤ sm ∧ B ≤ rm
  ar : l ≠ [] → ∃ b o, la = some ⟨b, o, none⟩ ∧ b < B ∧ AtM w b o l
  fit : ∀ m ∈ l, FitM m
  n : ln = l.length
  al : R.length ≤ ln
  ca : ln ≤ lc ∧ lc ≤ 9223372036854775807
  sz : ln ≤ 1000000
/-- The blocks that the sequence may write. -/
def SF (sb gb rm : Nat) (ov : Value) (k : Nat) : Prop := k = sb ∨ k = gb ∨ k = rm ∨ ov.ownBlock = some k
theorem SQ.keep {w w' : World} {B sb gb sm rm la ln lc ov l A R out} (H : SQ w B sb gb sm rm la ln lc ov l A R out) (hb : Below w.heap.size w w') : SQ w' B sb gb sm rm la ln lc ov l A R out := by
  obtain ⟨nr, h, h1, h2⟩ := H.rd
  exact ⟨(hb.block _ (Array.getElem?_eq_some_iff.1 H.box).1).trans H.box, H.lf.move (hb.block _ H.lf.lt), H.st.move (hb.block _ H.st.lt), ⟨nr, h, h1, h2.move (hb.block _ h2.lt)⟩, H.ou.keep hb, H.sr, H.lo, fun hn => by
    obtain ⟨b, o, e, h3, h4⟩ := H.ar hn
    exact ⟨b, o, e, h3, h4.move (hb.block _ h4.lt)⟩, H.fit, H.n, H.al, H.ca, H.sz⟩
theorem below_drewN0 (w : World) (k : Nat) : Below w.heap.size w (w.drewN k) := ⟨rfl, rfl, rfl, Nat.le_refl _, fun _ _ => rfl⟩
set_option maxRecDepth 100000 in
set_option maxHeartbeats 4000000 in
theorem free_any (w : World) {B sb gb sm rm la ln lc ov l A out} (H : SQ w B sb gb sm rm la ln lc ov l A A out) (i : Nat) (hi : i < l.length) :
    Calls Try.prog 33 #[.pointer (some ⟨sb, 0, none⟩), .int .i64 i] w fun e w' => e = .returned (.bool (decide (l[i] ∈ A) && fre A l[i])) ∧ Below w.heap.size w w' := by
  have hiln : i < ln := by have := H.n; omega
  have hb := H.box
  have x0 : w.cell? ⟨sb, 0, none⟩ = some (.slice la ln lc) := cell_arr hb rfl
  have x1 : w.cell? ⟨sb, 1, none⟩ = some (.slice (some ⟨gb, 0, none⟩) ln ln) := cell_arr hb rfl
  have x3 : w.cell? ⟨sb, 3, none⟩ = some (.map (some rm)) := cell_arr hb rfl
  have hz := H.sz
  have hca := H.ca
  have xl := H.lf.cell (i := i) (by simp [lftB]; omega)
  simp only [lftB, List.getElem_map] at xl
  obtain ⟨b, o, rfl, _, hM⟩ := H.ar (by rintro rfl; simp at hi)
  obtain ⟨c0, c1, _, _⟩ := hM.cell i hi
  obtain ⟨nr, h, _, hR⟩ := H.rd
  have hfl := (H.fit _ (List.getElem_mem hi)).t
  have hlk : ∀ k, _ := fun k => (hR.move (w' := w.drewN k) rfl).look hfl
  rw [fre_cnt]
  generalize l[i] = m at xl c0 c1 hfl hlk
  obtain ⟨⟨m1, m2⟩, m34⟩ := m
  simp only at xl c0 c1 hlk
  generalize cntR A (m1, m2) = q at hlk
  generalize decide (((m1, m2), m34) ∈ A) = bl at xl
  clear H hb hM hR hfl
  cases bl
  · go_enter Try.func33, Try.ntmps33
    go_wp2_with fail
    go_quiet (fail)
    go_wp2_with fail
    go_ret
    exact ⟨rfl, below_drewN0 _ _⟩
  · obtain ⟨e0, d0⟩ : ∃ e, (q == 0) = e := ⟨_, rfl⟩
    simp only [d0]
    go_enter Try.func33, Try.ntmps33
    go_wp2_with fail
    go_quiet (fail)
    go_wp2_with fail
    go_ret
    exact ⟨by simp [d0], below_drewN0 _ _⟩
end Go.Proofs.Ytdoiblknbpbhaaa
