import Derived.Test.YthjjdfiaikibaabDmE
set_option linter.unusedVariables false
set_option linter.unusedSimpArgs false
namespace Go.Proofs.Ythjjdfiaikibaab
open Go.ChangeShapes Go.WideShapes Go.ChangeAt Go.RowKit Go.Maps

/-- The walk's state: blocks met, from where, and the way that is open. -/
structure DS where
  bl : List Int
  mt : List Int
  op : List (Int × Nat)
/-- The first of a list that was not met. -/
def fst0 (bl : List Int) : List Int → Option Nat
  | [] => none
  | x :: l => if x ∈ bl then (fst0 bl l).map (· + 1) else some 0
def rowOf (Ls : List (List Int)) (b : Int) : List Int := Ls.getD b.toNat []
/-- One turn: the last block goes on to a new one, or is left. -/
def wstep (Ls : List (List Int)) (s : DS) : DS :=
  match s.op.getLast? with
  | none => s
  | some (b, t) => match fst0 s.bl ((rowOf Ls b).drop t) with
    | none => ⟨s.bl, s.mt, s.op.dropLast⟩
    | some k => ⟨s.bl ++ [((rowOf Ls b).drop t).getD k 0], s.mt ++ [plc s.bl b], s.op.dropLast ++ [(b, t + k + 1), (((rowOf Ls b).drop t).getD k 0, 0)]⟩
def wrun (Ls : List (List Int)) : Nat → DS → DS
  | 0, s => s
  | k + 1, s => if s.op = [] then s else wrun Ls k (wstep Ls s)
def ds0 : DS := ⟨[0], [-1], [(0, 0)]⟩
def msr (n : Nat) (s : DS) : Nat := 2 * (n - s.bl.length) + s.op.length
def walkP (Ls : List (List Int)) : DS := wrun Ls (msr Ls.length ds0) ds0
/-- What holds at each turn. -/
structure WI (Ls : List (List Int)) (s : DS) : Prop where
  nd : s.bl.Nodup
  rng : ∀ x ∈ s.bl, 0 ≤ x ∧ x < Ls.length
  len : s.mt.length = s.bl.length
  ops : ∀ p ∈ s.op, p.1 ∈ s.bl ∧ p.2 ≤ (rowOf Ls p.1).length
  few : s.op.length ≤ s.bl.length
theorem nodup_le : ∀ (n : Nat) (l : List Int), l.Nodup → (∀ x ∈ l, 0 ≤ x ∧ x < n) → l.length ≤ n
  | 0, l, _, h => by
    cases l with
    | nil => simp
    | cons x l => have := h x (by simp); omega
  | n + 1, l, hd, h => by
    by_cases hm : (n : Int) ∈ l
    · have h1 := nodup_le n (l.erase (n : Int)) (hd.erase _) fun x hx => by
        have h2 := h x (List.mem_of_mem_erase hx)
        have h3 : x ≠ n := ((hd.mem_erase_iff).1 hx).1
        omega
      rw [List.length_erase_of_mem hm] at h1
      have : 0 < l.length := List.length_pos_of_mem hm
      omega
    · have := nodup_le n l hd fun x hx => by
        have h2 := h x hx
        have h3 : x ≠ n := fun e => hm (e ▸ hx)
        omega
      omega
theorem WI.le {Ls s} (h : WI Ls s) : s.bl.length ≤ Ls.length := nodup_le _ _ h.nd h.rng
theorem fst0_some {bl : List Int} : ∀ {l : List Int} {k : Nat}, fst0 bl l = some k → k < l.length ∧ l.getD k 0 ∉ bl ∧ ∀ j, j < k → l.getD j 0 ∈ bl
  | [], _, h => by cases h
  | x :: l, k, h => by
    simp only [fst0] at h
    split at h
    · next hx =>
      cases e : fst0 bl l with
      | none => rw [e] at h; cases h
      | some k' =>
        rw [e] at h
        have hk : k' + 1 = k := by simpa using h
        subst hk
        obtain ⟨h1, h2, h3⟩ := fst0_some e
        refine ⟨by simp; omega, by simpa using h2, fun j hj => ?_⟩
        cases j with
        | zero => simpa using hx
        | succ j => simpa using h3 j (by omega)
    · next hx => cases h; exact ⟨by simp, by simpa using hx, fun j hj => by omega⟩
theorem fst0_at {bl : List Int} : ∀ {l : List Int} {k : Nat}, k < l.length → l.getD k 0 ∉ bl → (∀ j, j < k → l.getD j 0 ∈ bl) → fst0 bl l = some k
  | [], _, h, _, _ => by simp at h
  | x :: l, 0, _, h2, _ => by simp at h2; simp [fst0, h2]
  | x :: l, k + 1, h1, h2, h3 => by
    have hx : x ∈ bl := by simpa using h3 0 (by omega)
    have := fst0_at (bl := bl) (l := l) (k := k) (by simpa using h1) (by simpa using h2) fun j hj => by simpa using h3 (j + 1) (by omega)
    simp [fst0, hx, this]
theorem fst0_none {bl : List Int} : ∀ {l : List Int}, (∀ j, j < l.length → l.getD j 0 ∈ bl) → fst0 bl l = none
  | [], _ => rfl
  | x :: l, h => by
    have hx : x ∈ bl := by simpa using h 0 (by simp)
    have := fst0_none (bl := bl) (l := l) fun j hj => by simpa using h (j + 1) (by simpa using hj)
    simp [fst0, hx, this]
/-- A turn that meets a block. -/
theorem WI.push {Ls st b t k bl mt} (hg : goodP Ls = true) (h : WI Ls ⟨bl, mt, st ++ [(b, t)]⟩) (hk : t + k < (rowOf Ls b).length) (hx : (rowOf Ls b).getD (t + k) 0 ∉ bl) (hb : ∀ j, j < k → (rowOf Ls b).getD (t + j) 0 ∈ bl) :
    WI Ls ⟨bl ++ [(rowOf Ls b).getD (t + k) 0], mt ++ [plc bl b], st ++ [(b, t + k + 1), ((rowOf Ls b).getD (t + k) 0, 0)]⟩ ∧ wstep Ls ⟨bl, mt, st ++ [(b, t)]⟩ = ⟨bl ++ [(rowOf Ls b).getD (t + k) 0], mt ++ [plc bl b], st ++ [(b, t + k + 1), ((rowOf Ls b).getD (t + k) 0, 0)]⟩
      ∧ msr Ls.length ⟨bl, mt, st ++ [(b, t)]⟩ = msr Ls.length ⟨bl ++ [(rowOf Ls b).getD (t + k) 0], mt ++ [plc bl b], st ++ [(b, t + k + 1), ((rowOf Ls b).getD (t + k) 0, 0)]⟩ + 1 ∧ 0 ≤ (rowOf Ls b).getD (t + k) 0 ∧ (rowOf Ls b).getD (t + k) 0 < Ls.length := by
  obtain ⟨hbm, htl⟩ := h.ops (b, t) (by simp)
  have hbr := h.rng b hbm
  have hr : 0 ≤ (rowOf Ls b).getD (t + k) 0 ∧ (rowOf Ls b).getD (t + k) 0 < Ls.length := by
    have hbl : b.toNat < Ls.length := by omega
    have e : rowOf Ls b = Ls[b.toNat] := by simp [rowOf, hbl]
    rw [e] at hk ⊢
    have := goodP_yes hg hbl hk
    simpa [List.getD, hk] using this
  have hW : WI Ls ⟨bl ++ [(rowOf Ls b).getD (t + k) 0], mt ++ [plc bl b], st ++ [(b, t + k + 1), ((rowOf Ls b).getD (t + k) 0, 0)]⟩ := by
    refine ⟨?_, ?_, ?_, ?_, ?_⟩
    · refine List.nodup_append.2 ⟨h.nd, by simp, fun a ha c hc e => ?_⟩
      simp at hc
      subst hc
      subst e
      exact hx ha
    · intro x hx'
      simp only [List.mem_append, List.mem_singleton] at hx'
      rcases hx' with hx' | rfl
      · exact h.rng x hx'
      · exact hr
    · have := h.len
      simp at this ⊢
      exact this
    · intro p hp
      simp only [List.mem_append, List.mem_cons, List.not_mem_nil, or_false] at hp
      rcases hp with hp | rfl | rfl
      · obtain ⟨h1, h2⟩ := h.ops p (by simp [hp])
        exact ⟨by simp; exact .inl h1, h2⟩
      · exact ⟨by simp; exact .inl hbm, by show t + k + 1 ≤ (rowOf Ls b).length; omega⟩
      · exact ⟨by simp, Nat.zero_le _⟩
    · have := h.few
      simp at this ⊢
      omega
  refine ⟨hW, ?_, ?_, hr⟩
  · have e : fst0 bl ((rowOf Ls b).drop t) = some k := fst0_at (by simp; omega) (by simpa [List.getD] using hx) fun j hj => by simpa [List.getD] using hb j hj
    simp only [wstep]
    simp [e, List.getD]
  · have := hW.le
    simp only [msr, List.length_append, List.length_cons, List.length_nil] at this ⊢
    omega
/-- A turn that leaves a block. -/
theorem WI.pop {Ls st b t bl mt} (h : WI Ls ⟨bl, mt, st ++ [(b, t)]⟩) (hb : ∀ j, t + j < (rowOf Ls b).length → (rowOf Ls b).getD (t + j) 0 ∈ bl) :
    WI Ls ⟨bl, mt, st⟩ ∧ wstep Ls ⟨bl, mt, st ++ [(b, t)]⟩ = ⟨bl, mt, st⟩ ∧ msr Ls.length ⟨bl, mt, st ++ [(b, t)]⟩ = msr Ls.length ⟨bl, mt, st⟩ + 1 := by
  refine ⟨⟨h.nd, h.rng, h.len, fun p hp => h.ops p (by simp; exact .inl hp), by have := h.few; simp at this ⊢; omega⟩, ?_, by simp [msr]; omega⟩
  have e : fst0 bl ((rowOf Ls b).drop t) = none := fst0_none fun j hj => by
    have := hb j (by simp at hj; omega)
    simpa [List.getD] using this
  simp [wstep, e]
theorem WI.zero {Ls} (hg : goodP Ls = true) : WI Ls ds0 := by
  have := goodP_pos hg
  refine ⟨by simp [ds0], fun x hx => ?_, rfl, fun p hp => ?_, by simp [ds0]⟩
  · simp [ds0] at hx; subst hx; omega
  · simp [ds0] at hp; subst hp; exact ⟨by simp [ds0], Nat.zero_le _⟩
end Go.Proofs.Ythjjdfiaikibaab
