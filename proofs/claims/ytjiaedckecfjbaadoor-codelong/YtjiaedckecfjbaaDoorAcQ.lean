import Derived.Test.YtjiaedckecfjbaaDoorScQ
set_option linter.unusedVariables false
set_option linter.unusedSimpArgs false
namespace Go.Proofs.YtjiaedckecfjbaaDoor
open Go.ChangeShapes Go.WideShapes Go.ChangeAt Go.RowKit Go.Maps

/-- None of B is ready before number i is done. -/
def blocked (ops : Array Oper) (B : List Nat) (i : Nat) : Bool := B.all fun x => waitsFor ops x i || B.any fun y => waitsFor ops x y
theorem not_ready_of {ops : Array Oper} {x y : Nat} {l : Array Bool} (hw : waitsFor ops x y = true) (hy : l.getD y true = false) : x ∉ Region.ready .any ops l := by
  intro hx
  obtain ⟨_, o, ho, hall⟩ := mem_ready.1 hx
  unfold waitsFor at hw
  rw [ho] at hw
  simp only [Array.any_eq_true, Bool.and_eq_true, beq_iff_eq] at hw
  obtain ⟨k, hk, h1, h2⟩ := hw
  have h3 := hall _ (Array.getElem_mem hk) h1
  rw [h2] at h3
  rcases Nat.lt_or_ge y l.size with h' | h'
  · simp [Array.getD, h'] at hy h3; rw [hy] at h3; cases h3
  · simp [Array.getD] at hy
    obtain ⟨h9, _⟩ := hy
    omega
theorem lec_firstT {P : Program} {ops : Array Oper} {Q : Exit → Act → World → Prop} {S : World → Prop} {z i : Nat} {oi : Oper} {v : Value} {B : List Nat} (hi : ops[i]? = some oi) (hsel : ∀ (j : Nat) (o : Oper) cs b, ops[j]? = some o → o.op ≠ .select cs b) (hQ : ∀ c a w, Q (.panic c) (a.put oi.dst v) w → Q (.panic c) a w) (hB : blocked ops B i = true) (hzB : z ∈ B) (hiB : i ∉ B) :
    ∀ (k : Nat) (l : Array Bool) (a : Act) (w : World), (∀ j oj, ops[j]? = some oj → j ≠ i → l.getD j true = false → (∀ e ∈ oj.after, Region.binds .any e = true → e.on ≠ i) → oi.apart ops oj = true) → i ∈ Region.ready .any ops l → YieldsIf P ops S oi v a → S w → (∀ x ∈ B, l.getD x true = false) → lec P ops Q S z k (l.setIfInBounds i true) (a.put oi.dst v) w → lec P ops Q S z (k + 1) l a w := by
  have hzi : i ≠ z := fun e => hiB (e ▸ hzB)
  intro k
  induction k with
  | zero =>
    intro l a w _ hr hy hS hzl H
    refine ⟨fun h => absurd hr (by rw [h]; simp), fun j hj => ?_⟩
    by_cases e : j = i
    · subst e
      exact hy.wpOp hi hS ⟨fun _ => hS, H⟩
    · have h1 := ready_mono hj e
      rw [H.1] at h1
      simp at h1
  | succ k ih =>
    intro l a w hfree hr hy hS hzl H
    refine ⟨fun h => absurd hr (by rw [h]; simp), fun j hj => ?_⟩
    by_cases e : j = i
    · subst e
      exact hy.wpOp hi hS ⟨fun _ => hS, H⟩
    · have hjB : j ∉ B := fun hjB => by
        have h1 := List.all_eq_true.1 hB j hjB
        simp only [Bool.or_eq_true, List.any_eq_true] at h1
        rcases h1 with h1 | ⟨y, hy1, hy2⟩
        · exact not_ready_of h1 (mem_ready.1 hr).1 hj
        · exact not_ready_of hy2 (hzl y hy1) hj
      have hjz : j ≠ z := fun e2 => hjB (e2 ▸ hzB)
      obtain ⟨hun, oj, hoj, hall⟩ := mem_ready.1 hj
      have hno : ∀ e ∈ oj.after, Region.binds .any e = true → e.on ≠ i := fun x hx hb heq => by
        have h1 := hall x hx hb
        have h0 := (mem_ready.1 hr).1
        rw [heq] at h1
        rcases Nat.lt_or_ge i l.size with h' | h'
        · simp [h'] at h0 h1; rw [h0] at h1; cases h1
        · simp [Array.getElem?_eq_none h'] at h1
      have h2 := wpOp_putIf hoj (hfree j oj hoj e hun hno) (fun cs b => hsel i oi cs b hi) (fun cs b => hsel j oj cs b hoj) hQ hy (H.2 j (ready_mono hj e))
      refine wpOp_mono (fun a' w' h3 => ?_) h2
      have h4 : S w' := h3.2.1 (by rw [getD_set_ne true hjz, getD_set_ne true hzi]; exact hzl z hzB)
      refine ⟨fun _ => h4, ih (l.setIfInBounds j true) a' w' ?_ (ready_mono hr (Ne.symm e)) h3.1 h4 (fun x hx => by have hne : j ≠ x := fun e2 => hjB (by rw [e2]; exact hx); rw [getD_set_ne true hne]; exact hzl x hx) ?_⟩
      · intro m om hm hmi hmun hmno
        refine hfree m om hm hmi ?_ hmno
        by_cases ejm : j = m
        · subst ejm; exact hun
        · rw [getD_set_ne true ejm] at hmun; exact hmun
      · rw [Array.setIfInBounds_comm _ _ e]
        exact h3.2.2
/-- An operation that reads memory is taken first, where those of B come behind it. -/
theorem lec_takeT {P : Program} {ops : Array Oper} {Q : Exit → Act → World → Prop} {S : World → Prop} {z i : Nat} {oi : Oper} {v : Value} {k : Nat} {l : Array Bool} {a : Act} {w : World} (B : List Nat) (hi : ops[i]? = some oi) (hs : Region.noSelect ops = true) (hf : Region.free .any ops l i = true) (hr : (Region.ready .any ops l).contains i = true) (hz : (blocked ops B i && (B.contains z && (!B.contains i && B.all fun x => !l.getD x true))) = true)
    (hQ : ∀ c a w, Q (.panic c) (a.put oi.dst v) w → Q (.panic c) a w) (hy : YieldsIf P ops S oi v a) (hS : S w) (h : lec P ops Q S z k (l.setIfInBounds i true) (a.put oi.dst v) w) : lec P ops Q S z (k + 1) l a w := by
  simp only [Bool.and_eq_true] at hz
  obtain ⟨h1, h2, h3, h4⟩ := hz
  exact lec_firstT hi (Region.noSelect_spec hs) hQ h1 (by simpa using h2) (by simpa using h3) k l a w (Region.free_spec hi hf) (by simpa using hr) hy hS (fun x hx => by have := List.all_eq_true.1 h4 x hx; simpa using this) h
end Go.Proofs.YtjiaedckecfjbaaDoor
