import Derived.Test.YthjjdfiaikibaabDmI
set_option linter.unusedVariables false
set_option linter.unusedSimpArgs false
namespace Go.Proofs.Ythjjdfiaikibaab
open Go.ChangeShapes Go.WideShapes Go.ChangeAt Go.RowKit Go.Maps

def gn (l : List Int) (i : Nat) : Int := l.getD i 0
theorem gn_set {l : List Int} {i j : Nat} {v : Int} (hi : i < l.length) : gn (l.set i v) j = if j = i then v else gn l j := by
  unfold gn
  by_cases h : j = i
  · subst h; simp [hi]
  · rw [if_neg h]; simp [List.getD, List.getElem?_set, Ne.symm h]
theorem gn_at {l : List Int} {i : Nat} (hi : i < l.length) : gn l i = l[i] := by simp [gn, hi]
structure Fo where
  up : List Int
  best : List Int
/-- The places below the root's next one, from the lowest on. -/
def wayUp (up : List Int) : Nat → Nat → List Nat
  | 0, _ => []
  | f + 1, x => if 0 ≤ gn up (gn up x).toNat then x :: wayUp up f (gn up x).toNat else []
def stp (door : List Int) (low : Nat) (f : Fo) : Fo :=
  ⟨f.up.set low (gn f.up (gn f.up low).toNat), if gn door (gn f.best (gn f.up low).toNat).toNat < gn door (gn f.best low).toNat then f.best.set low (gn f.best (gn f.up low).toNat) else f.best⟩
def shorten (door : List Int) (f : Fo) (x : Nat) : Fo := (wayUp f.up (x + 1) x).foldr (stp door) f
def lst (door : List Int) (f : Fo) (x : Nat) : Nat × Fo := if gn f.up x < 0 then (x, f) else ((gn (shorten door f x).best x).toNat, shorten door f x)
/-- What holds of a forest of n places. -/
structure FI (n : Nat) (door : List Int) (f : Fo) : Prop where
  ld : door.length = n
  lu : f.up.length = n
  lb : f.best.length = n
  dr : ∀ i, i < n → 0 ≤ gn door i ∧ gn door i < n
  ur : ∀ i, i < n → -1 ≤ gn f.up i ∧ gn f.up i < i
  br : ∀ i, i < n → 0 ≤ gn f.best i ∧ gn f.best i < n
/-- One step up: bounds stay, and which places hang. -/
theorem FI.stp {n : Nat} {door : List Int} {f : Fo} (h : FI n door f) {low : Nat} (hl : low < n) (h0 : 0 ≤ gn f.up low) (h1 : 0 ≤ gn f.up (gn f.up low).toNat) : FI n door (stp door low f) ∧ ∀ i, 0 ≤ gn (Go.Proofs.Ythjjdfiaikibaab.stp door low f).up i ↔ 0 ≤ gn f.up i := by
  have hu := h.ur low hl
  have ha : (gn f.up low).toNat < n := by omega
  have hu2 := h.ur _ ha
  have hb := h.br _ ha
  refine ⟨⟨h.ld, by simp [Go.Proofs.Ythjjdfiaikibaab.stp, h.lu], ?_, h.dr, fun i hi => ?_, fun i hi => ?_⟩, fun i => ?_⟩
  · unfold Go.Proofs.Ythjjdfiaikibaab.stp
    simp only
    split
    · simp [h.lb]
    · exact h.lb
  · unfold Go.Proofs.Ythjjdfiaikibaab.stp
    simp only
    rw [gn_set (by rw [h.lu]; exact hl)]
    split
    · next e => subst e; omega
    · exact h.ur i hi
  · unfold Go.Proofs.Ythjjdfiaikibaab.stp
    simp only
    split
    · rw [gn_set (by rw [h.lb]; exact hl)]
      split
      · exact hb
      · exact h.br i hi
    · exact h.br i hi
  · unfold Go.Proofs.Ythjjdfiaikibaab.stp
    simp only
    rw [gn_set (by rw [h.lu]; exact hl)]
    split
    · next e => subst e; simp [h0, h1]
    · rfl
/-- All of a way hang, and what is above them. -/
theorem way_ok {n : Nat} {door : List Int} {f : Fo} (h : FI n door f) : ∀ (q x : Nat), x < n → 0 ≤ gn f.up x → ∀ y ∈ wayUp f.up q x, y < n ∧ 0 ≤ gn f.up y ∧ 0 ≤ gn f.up (gn f.up y).toNat
  | 0, _, _, _, y, hy => by simp [wayUp] at hy
  | q + 1, x, hx, h0, y, hy => by
    simp only [wayUp] at hy
    split at hy
    · next h1 =>
      rcases List.mem_cons.1 hy with rfl | hy
      · exact ⟨hx, h0, h1⟩
      · have := h.ur x hx
        exact way_ok h q _ (by omega) h1 y hy
    · simp at hy
theorem way_le {n : Nat} {door : List Int} {f : Fo} (h : FI n door f) : ∀ (q x : Nat), x < n → 0 ≤ gn f.up x → (∀ y ∈ wayUp f.up q x, y ≤ x) ∧ (wayUp f.up q x).Nodup
  | 0, _, _, _ => by simp [wayUp]
  | q + 1, x, hx, h0 => by
    simp only [wayUp]
    split
    · next h1 =>
      have hu := h.ur x hx
      obtain ⟨i1, i2⟩ := way_le h q (gn f.up x).toNat (by omega) h1
      refine ⟨fun y hy => ?_, List.nodup_cons.2 ⟨fun hm => ?_, i2⟩⟩
      · rcases List.mem_cons.1 hy with rfl | hy
        · exact Nat.le_refl _
        · have := i1 y hy; omega
      · have := i1 x hm; omega
    · simp
theorem fold_other (door : List Int) (f : Fo) (y : Nat) : ∀ (l : List Nat), y ∉ l → gn (l.foldr (stp door) f).up y = gn f.up y
  | [], _ => rfl
  | x :: l, h => by
    have hne : x ≠ y := fun e => h (by simp [e])
    rw [List.foldr_cons]
    have ih := fold_other door f y l fun hm => h (by simp [hm])
    show gn ((l.foldr (stp door) f).up.set x _) y = _
    rw [← ih]
    simp [gn, List.getD, List.getElem?_set, hne]
theorem fold_ok {n : Nat} {door : List Int} {f : Fo} (h : FI n door f) : ∀ (l : List Nat), l.Nodup → (∀ y ∈ l, y < n ∧ 0 ≤ gn f.up y ∧ 0 ≤ gn f.up (gn f.up y).toNat) → FI n door (l.foldr (stp door) f) ∧ ∀ i, 0 ≤ gn (l.foldr (stp door) f).up i ↔ 0 ≤ gn f.up i
  | [], _, _ => ⟨h, fun _ => Iff.rfl⟩
  | y :: l, hd, hl => by
    obtain ⟨d1, d2⟩ := List.nodup_cons.1 hd
    obtain ⟨h1, h2⟩ := fold_ok h l d2 fun z hz => hl z (by simp [hz])
    obtain ⟨y1, y2, y3⟩ := hl y (by simp)
    rw [List.foldr_cons]
    have e := fold_other door f y l d1
    have k0 : 0 ≤ gn (l.foldr (stp door) f).up y := by rw [e]; exact y2
    have k1 : 0 ≤ gn (l.foldr (stp door) f).up (gn (l.foldr (stp door) f).up y).toNat := by rw [e]; exact (h2 _).2 y3
    obtain ⟨p1, p2⟩ := h1.stp y1 k0 k1
    exact ⟨p1, fun i => (p2 i).trans (h2 i)⟩
theorem FI.shorten {n : Nat} {door : List Int} {f : Fo} (h : FI n door f) {x : Nat} (hx : x < n) (h0 : 0 ≤ gn f.up x) : FI n door (shorten door f x) ∧ ∀ i, 0 ≤ gn (Go.Proofs.Ythjjdfiaikibaab.shorten door f x).up i ↔ 0 ≤ gn f.up i :=
  fold_ok h _ (way_le h _ x hx h0).2 (way_ok h _ x hx h0)
theorem FI.lst {n : Nat} {door : List Int} {f : Fo} (h : FI n door f) {x : Nat} (hx : x < n) : FI n door (lst door f x).2 ∧ (Go.Proofs.Ythjjdfiaikibaab.lst door f x).1 < n ∧ ∀ i, 0 ≤ gn (Go.Proofs.Ythjjdfiaikibaab.lst door f x).2.up i ↔ 0 ≤ gn f.up i := by
  unfold Go.Proofs.Ythjjdfiaikibaab.lst
  split
  · exact ⟨h, hx, fun _ => Iff.rfl⟩
  · obtain ⟨h1, h2⟩ := h.shorten hx (by omega)
    have := h1.br x hx
    exact ⟨h1, by show (gn _ x).toNat < n; omega, h2⟩
theorem ivs_at {l : List Int} {i : Nat} (hi : i < l.length) : (ivs l).toArray[i]? = some (.int .i64 (gn l i)) := by simp [ivs, gn, hi]
/-- The forest at block fb, its lists at gd, gu, gb. -/
structure FR (w : World) (fb gd gu gb n : Nat) (door : List Int) (f : Fo) : Prop where
  box : w.heap[fb]? = some (.cells #[.slice (some ⟨gd, 0, none⟩) n n, .slice (some ⟨gu, 0, none⟩) n n, .slice (some ⟨gb, 0, none⟩) n n] 63 (0, 0))
  d : w.heap[gd]? = some (.cells (ivs door).toArray 3 (0, 0))
  u : w.heap[gu]? = some (.cells (ivs f.up).toArray 3 (0, 0))
  b : w.heap[gb]? = some (.cells (ivs f.best).toArray 3 (0, 0))
  ne : gd ≠ gu ∧ gd ≠ gb ∧ gu ≠ gb
def FF (fb gd gu gb k : Nat) : Prop := k = fb ∨ k = gd ∨ k = gu ∨ k = gb
theorem FR.lt {w fb gd gu gb n door f} (h : FR w fb gd gu gb n door f) : ∀ k, FF fb gd gu gb k → k < w.heap.size := by
  rintro k (rfl | rfl | rfl | rfl)
  · exact (Array.getElem?_eq_some_iff.1 h.box).1
  · exact (Array.getElem?_eq_some_iff.1 h.d).1
  · exact (Array.getElem?_eq_some_iff.1 h.u).1
  · exact (Array.getElem?_eq_some_iff.1 h.b).1
theorem FR.move {w w' : World} {fb gd gu gb n door f} (h : FR w fb gd gu gb n door f) (hk : ∀ k, FF fb gd gu gb k → w'.heap[k]? = w.heap[k]?) : FR w' fb gd gu gb n door f :=
  ⟨(hk fb (.inl rfl)).trans h.box, (hk gd (.inr (.inl rfl))).trans h.d, (hk gu (.inr (.inr (.inl rfl)))).trans h.u, (hk gb (.inr (.inr (.inr rfl)))).trans h.b, h.ne⟩
theorem FR.drewN {w fb gd gu gb n door f} (h : FR w fb gd gu gb n door f) (k : Nat) : FR (w.drewN k) fb gd gu gb n door f := h.move fun g hg => drewN_at w k g (h.lt g hg)
theorem FR.drew {w fb gd gu gb n door f} (h : FR w fb gd gu gb n door f) : FR w.drew fb gd gu gb n door f := h.drewN 1
theorem FR.fne {w fb gd gu gb n door f} (h : FR w fb gd gu gb n door f) : fb ≠ gd ∧ fb ≠ gu ∧ fb ≠ gb := by
  refine ⟨?_, ?_, ?_⟩
  · rintro rfl; have := h.box; rw [h.d] at this; simp only [Option.some.injEq, Obj.cells.injEq] at this; exact absurd this.2.1 (by decide)
  · rintro rfl; have := h.box; rw [h.u] at this; simp only [Option.some.injEq, Obj.cells.injEq] at this; exact absurd this.2.1 (by decide)
  · rintro rfl; have := h.box; rw [h.b] at this; simp only [Option.some.injEq, Obj.cells.injEq] at this; exact absurd this.2.1 (by decide)
/-- What may be read of it. -/
theorem FR.boxes {w fb gd gu gb n door f} (h : FR w fb gd gu gb n door f) : w.cell? ⟨fb, 0, none⟩ = some (.slice (some ⟨gd, 0, none⟩) n n) ∧ w.cell? ⟨fb, 1, none⟩ = some (.slice (some ⟨gu, 0, none⟩) n n) ∧ w.cell? ⟨fb, 2, none⟩ = some (.slice (some ⟨gb, 0, none⟩) n n) :=
  ⟨cell_arr h.box rfl, cell_arr h.box rfl, cell_arr h.box rfl⟩
theorem FR.kd {w fb gd gu gb n door f} (h : FR w fb gd gu gb n door f) (hf : FI n door f) {i : Nat} (hi : i < n) : w.cell? ⟨gd, i, none⟩ = some (.int .i64 (gn door i)) := cell_arr h.d (ivs_at (by rw [hf.ld]; exact hi))
theorem FR.ku {w fb gd gu gb n door f} (h : FR w fb gd gu gb n door f) (hf : FI n door f) {i : Nat} (hi : i < n) : w.cell? ⟨gu, i, none⟩ = some (.int .i64 (gn f.up i)) := cell_arr h.u (ivs_at (by rw [hf.lu]; exact hi))
theorem FR.kb {w fb gd gu gb n door f} (h : FR w fb gd gu gb n door f) (hf : FI n door f) {i : Nat} (hi : i < n) : w.cell? ⟨gb, i, none⟩ = some (.int .i64 (gn f.best i)) := cell_arr h.b (ivs_at (by rw [hf.lb]; exact hi))
theorem ivs_set (l : List Int) (i : Nat) (v : Int) : (ivs l).toArray.setIfInBounds i (.int .i64 v) = (ivs (l.set i v)).toArray := by
  simp [ivs, List.map_set]
theorem FR.setU {w fb gd gu gb n door f} (h : FR w fb gd gu gb n door f) (i : Nat) (v : Int) : FR (w.setCell ⟨gu, i, none⟩ (.int .i64 v)) fb gd gu gb n door ⟨f.up.set i v, f.best⟩ :=
  ⟨(heap_set_other h.fne.2.1).trans h.box, (heap_set_other h.ne.1).trans h.d, by have := heap_set_at (i := i) (v := .int .i64 v) h.u; rw [ivs_set] at this; exact this, (heap_set_other h.ne.2.2.symm).trans h.b, h.ne⟩
theorem FR.setB {w fb gd gu gb n door f} (h : FR w fb gd gu gb n door f) (i : Nat) (v : Int) : FR (w.setCell ⟨gb, i, none⟩ (.int .i64 v)) fb gd gu gb n door ⟨f.up, f.best.set i v⟩ :=
  ⟨(heap_set_other h.fne.2.2).trans h.box, (heap_set_other h.ne.2.1).trans h.d, (heap_set_other h.ne.2.2).trans h.u, by have := heap_set_at (i := i) (v := .int .i64 v) h.b; rw [ivs_set] at this; exact this, h.ne⟩
theorem FR.setD {w fb gd gu gb n door f} (h : FR w fb gd gu gb n door f) (i : Nat) (v : Int) : FR (w.setCell ⟨gd, i, none⟩ (.int .i64 v)) fb gd gu gb n (door.set i v) f :=
  ⟨(heap_set_other h.fne.1).trans h.box, by have := heap_set_at (i := i) (v := .int .i64 v) h.d; rw [ivs_set] at this; exact this, (heap_set_other h.ne.1.symm).trans h.u, (heap_set_other h.ne.2.1.symm).trans h.b, h.ne⟩
end Go.Proofs.Ythjjdfiaikibaab
