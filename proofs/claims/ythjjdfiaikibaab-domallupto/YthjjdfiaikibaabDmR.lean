import Derived.Test.YthjjdfiaikibaabDmP
set_option linter.unusedVariables false
set_option linter.unusedSimpArgs false
namespace Go.Proofs.Ythjjdfiaikibaab
open Go.ChangeShapes Go.WideShapes Go.ChangeAt Go.RowKit Go.Maps

/-- Blocks' immediate dominators, of what the places' are. -/
def treeIn (bl over : List Int) (n : Nat) : Nat → List Int
  | 0 => List.replicate n (-1)
  | k + 1 => if k = 0 then treeIn bl over n 0 else (treeIn bl over n k).set (gn bl k).toNat (gn bl (gn over k).toNat)
def treeP (Ls : List (List Int)) : List Int := if goodP Ls = true then treeIn (walkP Ls).bl (domP (walkP Ls).mt (srcs (walkP Ls).bl Ls)) Ls.length (walkP Ls).bl.length else []
theorem treeIn_len (bl over : List Int) (n : Nat) : ∀ k, (treeIn bl over n k).length = n
  | 0 => by simp [treeIn]
  | k + 1 => by
    rw [treeIn]
    split
    · simp [treeIn]
    · rw [List.length_set]; exact treeIn_len bl over n k
/-- Where the walk met each place: from one ahead. -/
structure WJ (Ls : List (List Int)) (s : DS) : Prop where
  mt : ∀ i, 1 ≤ i → i < s.bl.length → 0 ≤ gn s.mt i ∧ gn s.mt i < i
  pos : 0 < s.bl.length
theorem WJ.zero (Ls : List (List Int)) : WJ Ls ds0 := ⟨fun i h1 h2 => by simp [ds0] at h2; omega, by simp [ds0]⟩
theorem gn_app {l r : List Int} {i : Nat} (h : i < l.length) : gn (l ++ r) i = gn l i := by
  unfold gn
  rw [List.getD, List.getD, List.getElem?_append_left h]
theorem WJ.step {Ls : List (List Int)} {s : DS} (h : WI Ls s) (j : WJ Ls s) : WJ Ls (wstep Ls s) := by
  obtain ⟨bl, mt, op⟩ := s
  rcases List.eq_nil_or_concat op with he | ⟨st, ⟨b, t⟩, he⟩
  · subst he; exact j
  · rw [List.concat_eq_append] at he
    subst he
    have hl := h.len
    have jp := j.pos
    have jm := j.mt
    simp only at hl jp jm
    cases e : fst0 bl ((rowOf Ls b).drop t) with
    | none =>
      have e2 : wstep Ls ⟨bl, mt, st ++ [(b, t)]⟩ = ⟨bl, mt, st⟩ := by simp [wstep, e]
      rw [e2]; exact ⟨j.mt, j.pos⟩
    | some k =>
      have e2 : wstep Ls ⟨bl, mt, st ++ [(b, t)]⟩ = ⟨bl ++ [((rowOf Ls b).drop t).getD k 0], mt ++ [plc bl b], st ++ [(b, t + k + 1), (((rowOf Ls b).drop t).getD k 0, 0)]⟩ := by simp [wstep, e]
      rw [e2]
      refine ⟨fun i h1 h2 => ?_, by simp⟩
      simp only [List.length_append, List.length_cons, List.length_nil] at h2 ⊢
      by_cases hi : i < bl.length
      · rw [gn_app (by omega)]; exact jm i h1 hi
      · have e3 : i = bl.length := by omega
        have e4 : gn (mt ++ [plc bl b]) i = plc bl b := by simp [gn, List.getD, e3, ← hl]
        rw [e4]
        have hb : b ∈ bl := (h.ops (b, t) (by simp)).1
        unfold plc
        rw [if_pos hb]
        have := List.idxOf_lt_length_of_mem hb
        omega
theorem wrun_wj {Ls : List (List Int)} (hg : goodP Ls = true) : ∀ (k : Nat) (s : DS), WI Ls s → WJ Ls s → WJ Ls (wrun Ls k s)
  | 0, s, _, j => j
  | k + 1, s, h, j => by
    rw [wrun]
    split
    · exact j
    · next hne =>
      refine wrun_wj hg k _ ?_ (j.step h)
      have := wrun_wi hg 1 s h
      rw [wrun, if_neg hne, wrun] at this
      exact this
theorem walkP_wj {Ls : List (List Int)} (hg : goodP Ls = true) : WJ Ls (walkP Ls) := wrun_wj hg _ _ (WI.zero hg) (WJ.zero Ls)
/-- A turn, by its two ways. -/
theorem wstep_two {Ls : List (List Int)} (hg : goodP Ls = true) {bl mt : List Int} {st : List (Int × Nat)} {b : Int} {t : Nat} (h : WI Ls ⟨bl, mt, st ++ [(b, t)]⟩) :
    ((∀ i, t + i < (rowOf Ls b).length → (rowOf Ls b).getD (t + i) 0 ∈ bl) ∧ WI Ls ⟨bl, mt, st⟩ ∧ wstep Ls ⟨bl, mt, st ++ [(b, t)]⟩ = ⟨bl, mt, st⟩ ∧ msr Ls.length ⟨bl, mt, st ++ [(b, t)]⟩ = msr Ls.length ⟨bl, mt, st⟩ + 1) ∨
    ∃ k x, t + k < (rowOf Ls b).length ∧ x = (rowOf Ls b).getD (t + k) 0 ∧ (∀ i, i < k → (rowOf Ls b).getD (t + i) 0 ∈ bl) ∧ WI Ls ⟨bl ++ [x], mt ++ [plc bl b], st ++ [(b, t + k + 1), (x, 0)]⟩ ∧ wstep Ls ⟨bl, mt, st ++ [(b, t)]⟩ = ⟨bl ++ [x], mt ++ [plc bl b], st ++ [(b, t + k + 1), (x, 0)]⟩ ∧ msr Ls.length ⟨bl, mt, st ++ [(b, t)]⟩ = msr Ls.length ⟨bl ++ [x], mt ++ [plc bl b], st ++ [(b, t + k + 1), (x, 0)]⟩ + 1 := by
  cases e : fst0 bl ((rowOf Ls b).drop t) with
  | none =>
    left
    have hall : ∀ i, t + i < (rowOf Ls b).length → (rowOf Ls b).getD (t + i) 0 ∈ bl := by
      have key : ∀ l : List Int, fst0 bl l = none → ∀ i, i < l.length → l.getD i 0 ∈ bl := by
        intro l
        induction l with
        | nil => intro _ i hi; simp at hi
        | cons y l ih =>
          intro h0 i hi
          simp only [fst0] at h0
          split at h0
          · next hy =>
            cases i with
            | zero => simpa using hy
            | succ i => simpa using ih (by simpa using h0) i (by simpa using hi)
          · cases h0
      intro i hi
      have := key _ e i (by simp; omega)
      simpa [List.getD] using this
    exact ⟨hall, h.pop hall⟩
  | some k =>
    right
    obtain ⟨h1, h2, h3⟩ := fst0_some e
    have a1 : t + k < (rowOf Ls b).length := by simp at h1; omega
    have a2 : (rowOf Ls b).getD (t + k) 0 ∉ bl := by simpa [List.getD] using h2
    have a3 : ∀ i, i < k → (rowOf Ls b).getD (t + i) 0 ∈ bl := fun i hi => by simpa [List.getD] using h3 i hi
    obtain ⟨p1, p2, p3, _⟩ := h.push hg a1 a2 a3
    exact ⟨k, _, a1, rfl, a3, p1, p2, p3⟩
theorem wrun_end {Ls : List (List Int)} (hg : goodP Ls = true) : ∀ (k : Nat) (s : DS), WI Ls s → msr Ls.length s ≤ k → (wrun Ls k s).op = []
  | 0, s, h, hk => by
    have : s.op.length = 0 := by simp [msr] at hk; exact hk.2 ▸ (by simp [hk.2])
    exact List.length_eq_zero_iff.1 this
  | k + 1, s, h, hk => by
    rw [wrun]
    split
    · assumption
    · next hne =>
      obtain ⟨bl, mt, op⟩ := s
      rcases List.eq_nil_or_concat op with he | ⟨st, ⟨b, t⟩, he⟩
      · exact absurd he hne
      · rw [List.concat_eq_append] at he
        subst he
        rcases wstep_two hg h with ⟨_, p1, p2, p3⟩ | ⟨j, x, _, _, _, p1, p2, p3⟩
        · rw [p2]; exact wrun_end hg k _ p1 (by omega)
        · rw [p2]; exact wrun_end hg k _ p1 (by omega)
/-- Of each block that was met all exits were met, or it is on the way that is open. -/
def WC (Ls : List (List Int)) (s : DS) : Prop := ∀ x ∈ s.bl, (∃ t, (x, t) ∈ s.op ∧ ∀ i, i < t → i < (rowOf Ls x).length → (rowOf Ls x).getD i 0 ∈ s.bl) ∨ ∀ i, i < (rowOf Ls x).length → (rowOf Ls x).getD i 0 ∈ s.bl
theorem wrun_wc {Ls : List (List Int)} (hg : goodP Ls = true) : ∀ (k : Nat) (s : DS), WI Ls s → WC Ls s → WC Ls (wrun Ls k s)
  | 0, s, _, c => c
  | k + 1, s, h, c => by
    rw [wrun]
    split
    · exact c
    · next hne =>
      obtain ⟨bl, mt, op⟩ := s
      rcases List.eq_nil_or_concat op with he | ⟨st, ⟨b, t⟩, he⟩
      · exact absurd he hne
      · rw [List.concat_eq_append] at he
        subst he
        rcases wstep_two hg h with ⟨hall, p1, p2, p3⟩ | ⟨j, x, hj, hx, hb, p1, p2, p3⟩
        · rw [p2]
          refine wrun_wc hg k _ p1 fun y hy => ?_
          rcases c y hy with ⟨t', h1, h2⟩ | h1
          · simp only [List.mem_append, List.mem_singleton] at h1
            rcases h1 with h1 | h1
            · exact .inl ⟨t', h1, h2⟩
            · simp only [Prod.mk.injEq] at h1
              obtain ⟨rfl, rfl⟩ := h1
              right
              intro i hi
              by_cases hit : i < t'
              · exact h2 i hit hi
              · have := hall (i - t') (by omega)
                rwa [show t' + (i - t') = i by omega] at this
          · exact .inr h1
        · rw [p2]
          refine wrun_wc hg k _ p1 fun y hy => ?_
          simp only [List.mem_append, List.mem_singleton] at hy
          rcases hy with hy | rfl
          · rcases c y hy with ⟨t', h1, h2⟩ | h1
            · simp only [List.mem_append, List.mem_singleton] at h1
              rcases h1 with h1 | h1
              · exact .inl ⟨t', by simp [h1], fun i hi hl => List.mem_append_left _ (h2 i hi hl)⟩
              · simp only [Prod.mk.injEq] at h1
                obtain ⟨rfl, rfl⟩ := h1
                refine .inl ⟨t' + j + 1, by simp, fun i hi hl => ?_⟩
                by_cases h4 : i < t'
                · exact List.mem_append_left _ (h2 i h4 hl)
                · by_cases h5 : i = t' + j
                  · subst h5; rw [← hx]; simp
                  · have := hb (i - t') (by omega)
                    rw [show t' + (i - t') = i by omega] at this
                    exact List.mem_append_left _ this
            · exact .inr fun i hi => List.mem_append_left _ (h1 i hi)
          · exact .inl ⟨0, by simp, fun i hi => by omega⟩
theorem walkP_closed {Ls : List (List Int)} (hg : goodP Ls = true) : ∀ x ∈ (walkP Ls).bl, ∀ y ∈ rowOf Ls x, y ∈ (walkP Ls).bl := by
  have h0 : WC Ls ds0 := by
    intro x hx
    simp [ds0] at hx
    subst hx
    exact .inl ⟨0, by simp [ds0], fun i hi => by omega⟩
  have he := wrun_end hg (msr Ls.length ds0) ds0 (WI.zero hg) (Nat.le_refl _)
  have hc := wrun_wc hg (msr Ls.length ds0) ds0 (WI.zero hg) h0
  intro x hx y hy
  obtain ⟨i, hi, rfl⟩ := List.mem_iff_getElem.1 hy
  rcases hc x hx with ⟨t, h1, _⟩ | h1
  · rw [he] at h1; simp at h1
  · have := h1 i hi
    have e3 : (rowOf Ls x).getD i 0 = (rowOf Ls x)[i] := by simp [hi]
    rw [e3] at this
    exact this
/-- The places that lead somewhere are places. -/
theorem srcIn_ok {n : Nat} {bl : List Int} {k : Nat} (hk : k < n) : ∀ (row : List Int) (S : List (List Int)), S.length = n → (∀ l ∈ S, ∀ y ∈ l, 0 ≤ y ∧ y < (n : Int)) → (srcIn bl k row S).length = n ∧ ∀ l ∈ srcIn bl k row S, ∀ y ∈ l, 0 ≤ y ∧ y < (n : Int)
  | [], S, h1, h2 => ⟨h1, h2⟩
  | x :: row, S, h1, h2 => by
    refine srcIn_ok hk row _ (by simpa using h1) fun l hl y hy => ?_
    rcases List.mem_or_eq_of_mem_set hl with h | rfl
    · exact h2 l h y hy
    · rcases List.mem_append.1 hy with h | h
      · by_cases hp : (plc bl x).toNat < S.length
        · have e : S.getD (plc bl x).toNat [] = S[(plc bl x).toNat] := by simp [hp]
          rw [e] at h
          exact h2 _ (List.getElem_mem hp) y h
        · rw [List.getD, List.getElem?_eq_none (by omega)] at h
          simp at h
      · simp at h; omega
theorem srcN_ok (bl : List Int) (Ls : List (List Int)) : ∀ k, k ≤ bl.length → (srcN bl Ls k).length = bl.length ∧ ∀ l ∈ srcN bl Ls k, ∀ y ∈ l, 0 ≤ y ∧ y < (bl.length : Int)
  | 0, _ => ⟨by simp [srcN], fun l hl y hy => by simp [srcN] at hl; rw [hl.2] at hy; simp at hy⟩
  | k + 1, hk => by
    obtain ⟨h1, h2⟩ := srcN_ok bl Ls k (by omega)
    exact srcIn_ok (by omega) _ _ h1 h2
end Go.Proofs.Ythjjdfiaikibaab
