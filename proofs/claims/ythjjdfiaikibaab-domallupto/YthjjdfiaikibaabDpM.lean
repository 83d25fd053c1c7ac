import Derived.Test.YthjjdfiaikibaabDpL
set_option linter.unusedVariables false
set_option linter.unusedSimpArgs false
namespace Go.Proofs.Ythjjdfiaikibaab
open Go.ChangeShapes Go.WideShapes Go.ChangeAt Go.RowKit Go.Maps

/-- The lists of bools as they lie. -/
structure QW (w : World) (B kb : Nat) (lv wv : Value) (vs : List Value) (Cs : List (List Bool)) : Prop where
  box : w.heap[kb]? = some (.cells #[.bool false, .slice none 0 0, .slice none 0 0, .slice none 0 0, lv, wv] 30 (0, 0))
  l : OwnU w B lv vs
  p : PB w B vs Cs
theorem QW.keep {w w' : World} {B kb lv wv vs Cs} (h : QW w B kb lv wv vs Cs) (hb : Below w.heap.size w w') : QW w' B kb lv wv vs Cs :=
  ⟨(hb.block kb (Array.getElem?_eq_some_iff.1 h.box).1).trans h.box, h.l.move fun g hg => hb.block g (own_block h.l.out hg).2, h.p.move fun j hj g hg => hb.block g (own_block (h.p.own j hj).out hg).2⟩
theorem QW.ty {w B kb lv wv vs Cs} (h : QW w B kb lv wv vs Cs) {j : Nat} (hj : j < vs.length) {g : Nat} (hg : (vs.getD j vn0).ownBlock = some g) : g ≠ kb ∧ lv.ownBlock ≠ some g ∧ g < w.heap.size ∧ ∃ A, w.heap[g]? = some (.cells A 4 (0, 0)) := by
  rcases (h.p.own j hj).out.2 with ⟨p, _⟩ | ⟨g2, cap, cur, p, _, p3, _⟩
  · rw [p] at hg; cases hg
  · rw [p] at hg; cases hg
    refine ⟨?_, own_not h.l.out p3 (by decide), (Array.getElem?_eq_some_iff.1 p3).1, cur, p3⟩
    rintro rfl
    rw [h.box] at p3
    simp only [Option.some.injEq, Obj.cells.injEq] at p3
    exact absurd p3.2.1 (by decide)
/-- One cell of one list is set. -/
theorem QW.setc {w : World} {B kb lv wv vs Cs} (h : QW w B kb lv wv vs Cs) {i j g n c : Nat} (hi : i < vs.length) (hv : vs.getD i vn0 = .slice (some ⟨g, 0, none⟩) n c) (hn : n = (Cs.getD i []).length) (hj : j < n) (x : Bool) : QW (w.setCell ⟨g, j, none⟩ (.bool x)) B kb lv wv vs (Cs.set i ((Cs.getD i []).set j x)) := by
  have hb : (vs.getD i vn0).ownBlock = some g := by rw [hv]; rfl
  obtain ⟨t1, t2, t3, _⟩ := h.ty hi hb
  have hlen := h.p.len
  refine ⟨(heap_set_other t1.symm).trans h.box, h.l.move fun g' hg => heap_set_other (fun e => t2 (e ▸ hg)), ⟨by simpa using hlen, fun a ha => ?_, h.p.ne⟩⟩
  have h1 := h.p.own a ha
  by_cases e : a = i
  · subst e
    have e2 : (Cs.set a ((Cs.getD a []).set j x)).getD a [] = (Cs.getD a []).set j x := by simp [← hlen, ha]
    rw [e2, List.length_set]
    rw [hv, ← hn] at h1 ⊢
    exact h1.set j hj x
  · have e2 : (Cs.set i ((Cs.getD i []).set j x)).getD a [] = Cs.getD a [] := by rw [List.getD, List.getElem?_set_ne (fun q => e q.symm)]; rfl
    rw [e2]
    exact ⟨h1.len, own_move h1.out fun g' hg => heap_set_other (fun q => h.p.ne a i ha hi e g' hg (by rw [q]; exact hb))⟩
/-- The lists while they are grown: fs the grown ones, i the list that is grown. -/
structure P2 (F : Nat → Prop) (w0 w : World) (B kb : Nat) (lv wv : Value) (vs : List Value) (Cs : List (List Bool)) (fv : Value) (fs : List Value) (col : Nat → Option (Value × Nat)) (i : Nat) : Prop where
  q : QW w B kb lv wv vs Cs
  f : OwnU w B fv fs
  c : Col w B 4 col
  nl : ∀ g, lv.ownBlock = some g → fv.ownBlock ≠ some g
  pe : ∀ a, i ≤ a → a < vs.length → ∀ g, (vs.getD a vn0).ownBlock = some g → col g = none
  on : Only F w0 w
  cf : ∀ g, (col g).isSome = true → g < w0.heap.size → F g
  ff : ∀ g, fv.ownBlock = some g → w0.heap.size ≤ g
theorem P2.nes {F w0 w B kb lv wv vs Cs fv fs col i} (h : P2 F w0 w B kb lv wv vs Cs fv fs col i) : kb < w.heap.size ∧ fv.ownBlock ≠ some kb ∧ (∀ g, (col g).isSome = true → g ≠ kb ∧ lv.ownBlock ≠ some g ∧ fv.ownBlock ≠ some g) ∧ (∀ a, a < vs.length → ∀ g, (vs.getD a vn0).ownBlock = some g → fv.ownBlock ≠ some g) := by
  refine ⟨(Array.getElem?_eq_some_iff.1 h.q.box).1, own_not h.f.out h.q.box (by decide), fun g hg => ?_, fun a ha g hg => ?_⟩
  · obtain ⟨_, _, A, h3⟩ := h.c.lt hg
    refine ⟨?_, own_not h.q.l.out h3 (by decide), own_not h.f.out h3 (by decide)⟩
    rintro rfl
    rw [h.q.box] at h3
    simp only [Option.some.injEq, Obj.cells.injEq] at h3
    exact absurd h3.2.1 (by decide)
  · obtain ⟨_, _, _, A, h3⟩ := h.q.ty ha hg
    exact own_not h.f.out h3 (by decide)
/-- The grown list is put behind the others. -/
theorem P2.addF {F w0 w w6 B kb lv wv vs Cs fv fs col i fv6 fs6} (h : P2 F w0 w B kb lv wv vs Cs fv fs col i) (hB : B ≤ w.heap.size) (h6 : OwnU w6 B fv6 fs6) (g6 : GI B w w6 fv fv6) : P2 F w0 w6 B kb lv wv vs Cs fv6 fs6 col i ∧ ∀ g, (col g).isSome = true → w6.heap[g]? = w.heap[g]? := by
  obtain ⟨n1, n2, n3, n4⟩ := h.nes
  have hcol : ∀ g, (col g).isSome = true → w6.heap[g]? = w.heap[g]? := fun g hg => g6.blk g (h.c.lt hg).2.1 (n3 g hg).2.2
  refine ⟨⟨⟨(g6.blk kb n1 n2).trans h.q.box, h.q.l.move fun g hg => g6.blk g (own_block h.q.l.out hg).2 (h.nl g hg), h.q.p.move fun a ha g hg => g6.blk g (h.q.ty ha hg).2.2.1 (n4 a ha g hg)⟩, h6, h.c.move hcol, fun g hg q => ?_, h.pe, h.on.trans g6.only fun k hk q => by have := h.ff k q; omega, h.cf, fun g hg => ?_⟩, hcol⟩
  · rcases g6.own g q with q | q
    · exact h.nl g hg q
    · have := (own_block h.q.l.out hg).2; omega
  · rcases g6.own g hg with q | q
    · exact h.ff g q
    · have := h.on.size; omega
/-- How the list that is grown lies to the list that it came of. -/
def Jn (vs : List Value) (i : Nat) (v : Value) (n0 n : Nat) : Prop := ∀ g, v.ownBlock = some g → ∀ a, a < vs.length → (vs.getD a vn0).ownBlock = some g → a = i ∧ ∃ cap, vs.getD i vn0 = .slice (some ⟨g, 0, none⟩) n0 cap ∧ v = .slice (some ⟨g, 0, none⟩) n cap
/-- It is grown by one. -/
theorem P2.grow {F w0 w w6 B kb lv wv vs Cs fv fs col i v v6 n0 n y} (h : P2 F w0 w B kb lv wv vs Cs fv fs col (i + 1)) (hi : i < vs.length) (f : FarB w B col v n y) (hc : Cs.getD i [] = List.replicate n0 y) (hn : n0 ≤ n) (j : Jn vs i v n0 n) (h6 : OwnBl w6 B v6 (n + 1) (List.replicate n y ++ [y])) (g6 : GK B w w6 v v6) :
    ∃ col', ColLe col col' ∧ P2 F w0 w6 B kb lv wv vs Cs fv fs col' (i + 1) ∧ FarB w6 B col' v6 (n + 1) y ∧ Jn vs i v6 n0 (n + 1) := by
  obtain ⟨n1, n2, n3, n4⟩ := h.nes
  obtain ⟨col', c1, c2, c3, c4⟩ := f.more h.c h6 g6
  have hv : ∀ g, v.ownBlock = some g → (col g).isSome = true := fun g hg => by rw [f.col g hg]; rfl
  have blk : ∀ g, g < w.heap.size → v.ownBlock ≠ some g → w6.heap[g]? = w.heap[g]? := fun g hl hg => g6.gi.blk g hl hg
  refine ⟨col', c1, ⟨⟨(blk kb n1 fun q => (n3 kb (hv kb q)).1 rfl).trans h.q.box, h.q.l.move fun g hg => blk g (own_block h.q.l.out hg).2 fun q => (n3 g (hv g q)).2.1 hg, ⟨h.q.p.len, fun a ha => ?_, h.q.p.ne⟩⟩, h.f.move fun g hg => blk g (own_block h.f.out hg).2 fun q => (n3 g (hv g q)).2.2 hg, c2, h.nl, fun a ha1 ha2 g hg => ?_, h.on.trans g6.gi.only fun k hk q => h.cf k (hv k q) hk, fun g hg hl => ?_, h.ff⟩, c3, fun g hg a ha hga => ?_⟩
  · have h1 := h.q.p.own a ha
    by_cases hva : ∃ g, (vs.getD a vn0).ownBlock = some g ∧ v.ownBlock = some g
    · obtain ⟨g, e1, e2⟩ := hva
      obtain ⟨rfl, cap, q1, q2⟩ := j g e2 a ha e1
      rcases g6.old g e2 with ⟨n', cap', p1, p2⟩ | ⟨p1, _⟩
      · rw [q2] at p1
        cases p1
        subst p2
        have hf := h6.front (k := n0) (by omega)
        rw [q1, hc]
        have e3 : (List.replicate n y ++ [y]).take n0 = List.replicate n0 y := by
          rw [List.take_append_of_le_length (by simp; exact hn), List.take_replicate, Nat.min_eq_left hn]
        rw [e3] at hf
        simpa using hf
      · exact ⟨h1.len, own_move h1.out fun g' hg' => by rw [e1] at hg'; cases hg'; exact p1⟩
    · exact ⟨h1.len, own_move h1.out fun g' hg' => blk g' (own_block h1.out hg').2 fun q => hva ⟨g', hg', q⟩⟩
  · have h0 := h.pe a ha1 ha2 g hg
    cases hcg : col' g with
    | none => rfl
    | some p =>
      rcases c4 g (by rw [hcg]; rfl) with q | q
      · rw [h0] at q; cases q
      · have := (h.q.ty ha2 hg).2.2.1; omega
  · rcases c4 g hg with q | q
    · exact h.cf g q hl
    · have := h.on.size; omega
  · rcases g6.gi.own g hg with q | q
    · obtain ⟨e1, cap, q1, q2⟩ := j g q a ha hga
      refine ⟨e1, cap, q1, ?_⟩
      rcases g6.old g q with ⟨n', cap', p1, p2⟩ | ⟨_, p2⟩
      · rw [q2] at p1
        cases p1
        exact p2
      · exact absurd hg p2
    · have := (h.q.ty ha hga).2.2.1; omega
/-- A list begins to be grown. -/
theorem P2.begin {F w0 w B kb lv wv vs Cs fv fs col i n0 y} (h : P2 F w0 w B kb lv wv vs Cs fv fs col i) (hi : i < vs.length) (hF : ∀ g, (vs.getD i vn0).ownBlock = some g → F g) (hc : Cs.getD i [] = List.replicate n0 y) :
    ∃ col', ColLe col col' ∧ P2 F w0 w B kb lv wv vs Cs fv fs col' (i + 1) ∧ FarB w B col' (vs.getD i vn0) n0 y ∧ Jn vs i (vs.getD i vn0) n0 n0 := by
  have h1 := h.q.p.own i hi
  rw [hc] at h1
  simp only [List.length_replicate] at h1
  refine ⟨fun g => if (vs.getD i vn0).ownBlock = some g then some (.bool y, n0) else col g, fun g x M hcg => ?_, ⟨h.q, h.f, ⟨fun g x M hcg => ?_⟩, h.nl, fun a ha1 ha2 g hg => ?_, h.on, fun g hg hl => ?_, h.ff⟩, ⟨h1, fun g hg => by simp only [hg, if_true]⟩, fun g hg a ha hga => ?_⟩
  · have hne : (vs.getD i vn0).ownBlock ≠ some g := fun e => by rw [h.pe i (Nat.le_refl _) hi g e] at hcg; cases hcg
    exact ⟨M, by simp only [if_neg hne]; exact hcg, Nat.le_refl _⟩
  · by_cases e : (vs.getD i vn0).ownBlock = some g
    · simp only [e, if_true, Option.some.injEq, Prod.mk.injEq] at hcg
      obtain ⟨rfl, rfl⟩ := hcg
      obtain ⟨_, _, t3, A, t4⟩ := h.q.ty hi e
      refine ⟨(own_block h1.out e).1, t3, ⟨A, t4⟩, fun k hk => ?_⟩
      obtain ⟨g', c', e', _, _, _, _⟩ := own_some h1.out (by omega)
      rw [e'] at e h1
      cases e
      rw [own_cell h1.out k (by omega)]
      simp [hk]
    · simp only [if_neg e] at hcg; exact h.c.cells g x M hcg
  · have hne : (vs.getD i vn0).ownBlock ≠ some g := fun q => h.q.p.ne a i ha2 hi (by omega) g hg q
    simp only [if_neg hne]; exact h.pe a (by omega) ha2 g hg
  · by_cases e : (vs.getD i vn0).ownBlock = some g
    · exact hF g e
    · simp only [if_neg e] at hg; exact h.cf g hg hl
  · have e : a = i := Classical.byContradiction fun q => h.q.p.ne a i ha hi q g hga hg
    subst e
    refine ⟨rfl, ?_⟩
    rcases h1.out.2 with ⟨p, _⟩ | ⟨g2, cap, cur, p, _⟩
    · rw [p] at hg; cases hg
    · rw [p] at hg; cases hg; exact ⟨cap, p, p⟩
end Go.Proofs.Ythjjdfiaikibaab
