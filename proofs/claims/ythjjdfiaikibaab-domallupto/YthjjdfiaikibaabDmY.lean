import Derived.Test.YthjjdfiaikibaabDmX
set_option linter.unusedVariables false
set_option linter.unusedSimpArgs false
namespace Go.Proofs.Ythjjdfiaikibaab
open Go.ChangeShapes Go.WideShapes Go.ChangeAt Go.RowKit Go.Maps

/-- What the walk met lies within every set that has the first block and all that its blocks go to. -/
theorem wrun_least {Ls : List (List Int)} (hg : goodP Ls = true) (S : Int → Prop) (hS : ∀ x, S x → ∀ y ∈ rowOf Ls x, S y) : ∀ (k : Nat) (s : DS), WI Ls s → (∀ x ∈ s.bl, S x) → ∀ x ∈ (wrun Ls k s).bl, S x
  | 0, s, _, j => j
  | k + 1, s, h, j => by
    rw [wrun]
    split
    · exact j
    · next hne =>
      have hw : WI Ls (wstep Ls s) := by
        have := wrun_wi hg 1 s h
        rw [wrun, if_neg hne, wrun] at this
        exact this
      refine wrun_least hg S hS k _ hw ?_
      obtain ⟨bl, mt, op⟩ := s
      rcases List.eq_nil_or_concat op with he | ⟨st, ⟨b, t⟩, he⟩
      · subst he; exact j
      · rw [List.concat_eq_append] at he
        subst he
        cases e : fst0 bl ((rowOf Ls b).drop t) with
        | none =>
          have e2 : wstep Ls ⟨bl, mt, st ++ [(b, t)]⟩ = ⟨bl, mt, st⟩ := by simp [wstep, e]
          rw [e2]; exact j
        | some k =>
          have e2 : wstep Ls ⟨bl, mt, st ++ [(b, t)]⟩ = ⟨bl ++ [((rowOf Ls b).drop t).getD k 0], mt ++ [plc bl b], st ++ [(b, t + k + 1), (((rowOf Ls b).drop t).getD k 0, 0)]⟩ := by simp [wstep, e]
          rw [e2]
          intro x hx
          rcases List.mem_append.1 hx with hx | hx
          · exact j x hx
          · simp only [List.mem_singleton] at hx
            obtain ⟨h1, _, _⟩ := fst0_some e
            refine hS b (j b (h.ops (b, t) (by simp)).1) x ?_
            rw [hx, List.getD_eq_getElem?_getD, List.getElem?_eq_getElem h1]
            exact List.mem_of_mem_drop (List.getElem_mem h1)
theorem walkP_least {Ls : List (List Int)} (hg : goodP Ls = true) (S : Int → Prop) (h0 : S 0) (hS : ∀ x, S x → ∀ y ∈ rowOf Ls x, S y) : ∀ x ∈ (walkP Ls).bl, S x :=
  wrun_least hg S hS _ _ (WI.zero hg) fun x hx => by simp [ds0] at hx; subst hx; exact h0
theorem wrun_sub {Ls : List (List Int)} : ∀ (k : Nat) (s : DS), ∀ x ∈ s.bl, x ∈ (wrun Ls k s).bl
  | 0, s, x, hx => hx
  | k + 1, s, x, hx => by
    rw [wrun]
    split
    · exact hx
    · refine wrun_sub k _ x ?_
      obtain ⟨bl, mt, op⟩ := s
      rcases List.eq_nil_or_concat op with he | ⟨st, ⟨b, t⟩, he⟩
      · subst he; exact hx
      · rw [List.concat_eq_append] at he
        subst he
        cases e : fst0 bl ((rowOf Ls b).drop t) with
        | none => simpa [wstep, e] using hx
        | some k => simp only at hx; simp [wstep, e, hx]
theorem walkP_zero {Ls : List (List Int)} : (0 : Int) ∈ (walkP Ls).bl := wrun_sub _ _ 0 (by simp [ds0])
/-- The row of one block, block by block. -/
theorem woIn_spec {n : Nat} (out : Int) : ∀ (row ml : List Int), WQ n ml → (∀ x ∈ row, 0 ≤ x ∧ x < (n : Int)) →
    (∃ e, woIn out ml row = ml ++ e ∧ ∀ x ∈ e, x ∈ row ∧ x ≠ out) ∧ WQ n (woIn out ml row) ∧ ∀ x ∈ row, x ≠ out → x ∈ woIn out ml row
  | [], ml, h, _ => ⟨⟨[], by simp [woIn], by simp⟩, h, by simp⟩
  | c :: row, ml, h, hr => by
    have e0 : woIn out ml (c :: row) = woIn out (if c ≠ out ∧ c ∉ ml then ml ++ [c] else ml) row := rfl
    rw [e0]
    by_cases hc : c ≠ out ∧ c ∉ ml
    · rw [if_pos hc]
      obtain ⟨⟨e, h1, h2⟩, h3, h4⟩ := woIn_spec out row (ml ++ [c]) (h.more hc.2 (hr c (by simp))) fun x hx => hr x (by simp [hx])
      refine ⟨⟨c :: e, by rw [h1]; simp, fun x hx => ?_⟩, h3, fun x hx hne => ?_⟩
      · rcases List.mem_cons.1 hx with rfl | hx
        · exact ⟨by simp, hc.1⟩
        · exact ⟨by simp [(h2 x hx).1], (h2 x hx).2⟩
      · rcases List.mem_cons.1 hx with rfl | hx
        · rw [h1]; simp
        · exact h4 x hx hne
    · rw [if_neg hc]
      obtain ⟨⟨e, h1, h2⟩, h3, h4⟩ := woIn_spec out row ml h fun x hx => hr x (by simp [hx])
      refine ⟨⟨e, h1, fun x hx => ⟨by simp [(h2 x hx).1], (h2 x hx).2⟩⟩, h3, fun x hx hne => ?_⟩
      rcases List.mem_cons.1 hx with rfl | hx
      · have : x ∈ ml := by by_cases hm : x ∈ ml; exact hm; exact absurd ⟨hne, hm⟩ hc
        rw [h1]; simp [this]
      · exact h4 x hx hne
theorem goodP_rows {Ls : List (List Int)} (hg : goodP Ls = true) (b : Int) : ∀ x ∈ rowOf Ls b, 0 ≤ x ∧ x < ((Ls.length : Nat) : Int) := by
  intro x hx
  by_cases hb : b.toNat < Ls.length
  · have e : rowOf Ls b = Ls[b.toNat] := by simp [rowOf, hb]
    rw [e] at hx
    obtain ⟨j, hj, rfl⟩ := List.getElem_of_mem hx
    exact goodP_yes hg hb hj
  · have e : rowOf Ls b = [] := by simp [rowOf, hb]
    rw [e] at hx; simp at hx
/-- The document's run: it has what it began with, what its blocks go to (the one left out aside), and nothing else. -/
theorem woRun_spec {Ls : List (List Int)} (hg : goodP Ls = true) (out : Int) : ∀ (q : Nat) (ml : List Int) (h : Nat), WQ Ls.length ml → h ≤ ml.length → q = Ls.length - h →
    (∀ i, i < h → ∀ y ∈ rowOf Ls (gn ml i), y ≠ out → y ∈ ml) →
    (∀ x ∈ ml, x ∈ woRun Ls out q ml h) ∧ WQ Ls.length (woRun Ls out q ml h) ∧ (∀ x ∈ woRun Ls out q ml h, ∀ y ∈ rowOf Ls x, y ≠ out → y ∈ woRun Ls out q ml h) ∧
    ∀ S : Int → Prop, (∀ x ∈ ml, S x) → (∀ x, S x → ∀ y ∈ rowOf Ls x, y ≠ out → S y) → ∀ x ∈ woRun Ls out q ml h, S x
  | q, ml, h, hw, hh, hq, hc => by
    by_cases he : h < ml.length
    · obtain ⟨k, rfl⟩ : ∃ k, q = k + 1 := ⟨q - 1, by have := hw.le; omega⟩
      rw [woRun, if_pos he]
      obtain ⟨⟨e, h1, h2⟩, h3, h4⟩ := woIn_spec out (rowOf Ls (gn ml h)) ml hw (goodP_rows hg _)
      have hgn : ∀ i, i ≤ h → gn (woIn out ml (rowOf Ls (gn ml h))) i = gn ml i := fun i hi => by rw [h1]; exact gn_app (by omega)
      obtain ⟨g1, g2, g3, g4⟩ := woRun_spec hg out k (woIn out ml (rowOf Ls (gn ml h))) (h + 1) h3 (by rw [h1]; simp; omega) (by omega) (fun i hi y hy hne => by
        rw [hgn i (by omega)] at hy
        by_cases e1 : i = h
        · subst e1; exact h4 y hy hne
        · rw [h1]; exact List.mem_append_left _ (hc i (by omega) y hy hne))
      refine ⟨fun x hx => g1 x (by rw [h1]; exact List.mem_append_left _ hx), g2, g3, fun S a b => g4 S (fun x hx => ?_) b⟩
      rw [h1] at hx
      rcases List.mem_append.1 hx with hx | hx
      · exact a x hx
      · refine b (gn ml h) (a _ ?_) x (h2 x hx).1 (h2 x hx).2
        have : gn ml h = ml[h] := by simp [gn, he]
        rw [this]; exact List.getElem_mem he
    · have e : woRun Ls out q ml h = ml := by
        cases q with
        | zero => rfl
        | succ k => rw [woRun, if_neg he]
      rw [e]
      refine ⟨fun x hx => hx, hw, fun x hx y hy hne => ?_, fun S a _ => a⟩
      obtain ⟨i, hi, rfl⟩ := List.getElem_of_mem hx
      refine hc i (by omega) y ?_ hne
      have : gn ml i = ml[i] := by simp [gn, hi]
      rw [this]; exact hy
  termination_by q => q
theorem woP_spec {Ls : List (List Int)} (hg : goodP Ls = true) {out : Int} (ho : out ≠ 0) : (0 : Int) ∈ woP Ls out ∧ WQ Ls.length (woP Ls out) ∧ (∀ x ∈ woP Ls out, ∀ y ∈ rowOf Ls x, y ≠ out → y ∈ woP Ls out) ∧
    ∀ S : Int → Prop, S 0 → (∀ x, S x → ∀ y ∈ rowOf Ls x, y ≠ out → S y) → ∀ x ∈ woP Ls out, S x := by
  have hp := goodP_pos hg
  obtain ⟨h1, h2, h3, h4⟩ := woRun_spec hg out Ls.length [0] 0 ⟨by simp, fun x hx => by simp at hx; subst hx; omega⟩ (by simp) (by omega) (fun i hi => by omega)
  unfold woP
  rw [if_neg ho]
  exact ⟨h1 0 (by simp), h2, h3, fun S a b => h4 S (fun x hx => by simp at hx; subst hx; exact a) b⟩
/-- With none left out: the same blocks as the walk's. -/
theorem woP_reach {Ls : List (List Int)} (hg : goodP Ls = true) (x : Int) : x ∈ woP Ls (-1) ↔ x ∈ (walkP Ls).bl := by
  obtain ⟨h1, h2, h3, h4⟩ := woP_spec hg (out := -1) (by omega)
  constructor
  · exact h4 (· ∈ (walkP Ls).bl) walkP_zero (fun x hx y hy _ => walkP_closed hg x hx y hy) x
  · exact walkP_least hg (· ∈ woP Ls (-1)) h1 (fun x hx y hy => h3 x hx y hy (by have := goodP_rows hg x y hy; omega)) x
theorem rch_reach {Ls : List (List Int)} (hg : goodP Ls = true) (n : Nat) : rch n (woP Ls (-1)) = rch n (walkP Ls).bl := by
  unfold rch
  simp only [woP_reach hg]
end Go.Proofs.Ythjjdfiaikibaab
