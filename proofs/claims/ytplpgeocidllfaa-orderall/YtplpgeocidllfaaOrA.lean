import Derived.Test.YtplpgeocidllfaaDmC
set_option linter.unusedVariables false
set_option linter.unusedSimpArgs false
namespace Go.Proofs.Ytplpgeocidllfaa

/-- The row of a block. -/
def rowOf (Ls : List (List Int)) (b : Int) : List Int := Ls.getD b.toNat []
/-- A visit: who was visited; the way to the block that is visited, each with how many of its own are left; who is done. -/
structure OS where
  vis : List Int
  way : List (Int × Nat)
  out : List Int
def vst (Ls : List (List Int)) (b : Int) (s : OS) : OS := if b ∈ s.vis then s else ⟨s.vis ++ [b], s.way ++ [(b, (rowOf Ls b).length)], s.out⟩
def stp (Ls : List (List Int)) (s : OS) : OS := match s.way.getLast? with
  | none => s
  | some (b, 0) => ⟨s.vis, s.way.dropLast, s.out ++ [b]⟩
  | some (b, l + 1) => vst Ls ((rowOf Ls b).getD l 0) ⟨s.vis, s.way.dropLast ++ [(b, l)], s.out⟩
def orun (Ls : List (List Int)) : Nat → OS → OS
  | 0, s => s
  | k + 1, s => if s.way = [] then s else orun Ls k (stp Ls s)
def os0 (Ls : List (List Int)) : OS := ⟨[0], [(0, (rowOf Ls 0).length)], []⟩
def unv (Ls : List (List Int)) (vis : List Int) (n : Nat) : Nat := ((List.range n).map fun i : Nat => if (i : Int) ∈ vis then 0 else (rowOf Ls i).length + 1).sum
def msr (Ls : List (List Int)) (s : OS) : Nat := unv Ls s.vis Ls.length + (s.way.map fun p => p.2 + 1).sum
def orP (Ls : List (List Int)) : OS := orun Ls (msr Ls (os0 Ls)) (os0 Ls)
def linP (Ls : List (List Int)) : List Int := if goodP Ls = true then (orP Ls).out.reverse else []

theorem stp_pop (Ls : List (List Int)) (vis : List Int) (st : List (Int × Nat)) (b : Int) (out : List Int) : stp Ls ⟨vis, st ++ [(b, 0)], out⟩ = ⟨vis, st, out ++ [b]⟩ := by simp [stp]
theorem stp_go (Ls : List (List Int)) (vis : List Int) (st : List (Int × Nat)) (b : Int) (l : Nat) (out : List Int) : stp Ls ⟨vis, st ++ [(b, l + 1)], out⟩ = vst Ls ((rowOf Ls b).getD l 0) ⟨vis, st ++ [(b, l)], out⟩ := by simp [stp]
theorem orun_more (Ls : List (List Int)) (k : Nat) (s : OS) (h : s.way ≠ []) : orun Ls (k + 1) s = orun Ls k (stp Ls s) := by rw [orun, if_neg h]
theorem orun_end (Ls : List (List Int)) (k : Nat) (s : OS) (h : s.way = []) : orun Ls k s = s := by
  cases k with
  | zero => rfl
  | succ k => rw [orun, if_pos h]

theorem unv_more (Ls : List (List Int)) (vis : List Int) (b : Int) (h0 : 0 ≤ b) (hb : b ∉ vis) : ∀ n : Nat, unv Ls vis n = unv Ls (vis ++ [b]) n + (if b < n then (rowOf Ls b).length + 1 else 0)
  | 0 => by rw [if_neg (by omega)]; rfl
  | n + 1 => by
    have ih := unv_more Ls vis b h0 hb n
    have e : ∀ vis, unv Ls vis (n + 1) = unv Ls vis n + (if (n : Int) ∈ vis then 0 else (rowOf Ls n).length + 1) := fun vis => by simp [unv, List.range_succ]
    rw [e, e, ih]
    by_cases e1 : b = (n : Int)
    · subst e1
      simp only [hb, List.mem_append, List.mem_singleton, or_true, if_true, if_false, Int.lt_irrefl]
      rw [if_pos (by omega)]
    · have e2 : ((n : Int) ∈ vis ++ [b]) ↔ (n : Int) ∈ vis := by simp; intro h; exact absurd h.symm e1
      have e3 : (b < ((n + 1 : Nat) : Int)) ↔ b < (n : Int) := by omega
      simp only [e2, e3]
      omega

/-- Ways. -/
def Wk (Ls : List (List Int)) : Nat → Int → Int → Prop
  | 0, a, b => a = b
  | k + 1, a, b => ∃ c, c ∈ rowOf Ls a ∧ Wk Ls k c b
def Rc (Ls : List (List Int)) (a b : Int) : Prop := ∃ k, Wk Ls k a b
theorem Rc.refl (Ls : List (List Int)) (a : Int) : Rc Ls a a := ⟨0, rfl⟩
theorem wk_add {Ls : List (List Int)} {j : Nat} {b c : Int} (h : Wk Ls j b c) : ∀ {k : Nat} {a : Int}, Wk Ls k a b → Wk Ls (k + j) a c
  | 0, a, e => by obtain rfl : a = b := e; simpa using h
  | k + 1, a, ⟨x, h1, h2⟩ => by
    rw [show k + 1 + j = (k + j) + 1 by omega]
    exact ⟨x, h1, wk_add h h2⟩
theorem Rc.trans {Ls : List (List Int)} {a b c : Int} (h : Rc Ls a b) (k : Rc Ls b c) : Rc Ls a c := by
  obtain ⟨i, hi⟩ := h
  obtain ⟨j, hj⟩ := k
  exact ⟨_, wk_add hj hi⟩
theorem Rc.edge {Ls : List (List Int)} {a b : Int} (h : b ∈ rowOf Ls a) : Rc Ls a b := ⟨1, b, h, rfl⟩
theorem wk_closed {Ls : List (List Int)} {S : Int → Prop} (hS : ∀ x, S x → ∀ y ∈ rowOf Ls x, S y) : ∀ {k : Nat} {a b : Int}, Wk Ls k a b → S a → S b
  | 0, a, b, e, h => by obtain rfl : a = b := e; exact h
  | k + 1, a, b, ⟨c, h1, h2⟩, h => wk_closed hS h2 (hS a h c h1)
theorem Rc.closed {Ls : List (List Int)} {S : Int → Prop} (hS : ∀ x, S x → ∀ y ∈ rowOf Ls x, S y) {a b : Int} (h : Rc Ls a b) (ha : S a) : S b := by
  obtain ⟨k, hk⟩ := h
  exact wk_closed hS hk ha
theorem row_mem {Ls : List (List Int)} {b : Int} {j : Nat} (h : j < (rowOf Ls b).length) : (rowOf Ls b).getD j 0 ∈ rowOf Ls b := by
  rw [List.getD, List.getElem?_eq_getElem h]; simp
theorem row_mem_iff {Ls : List (List Int)} {b y : Int} (h : y ∈ rowOf Ls b) : ∃ j, j < (rowOf Ls b).length ∧ (rowOf Ls b).getD j 0 = y := by
  obtain ⟨j, hj, e⟩ := List.mem_iff_getElem.1 h
  exact ⟨j, hj, by rw [List.getD, List.getElem?_eq_getElem hj]; simpa using e⟩
theorem row_good {Ls : List (List Int)} (hg : goodP Ls = true) {b y : Int} (h : y ∈ rowOf Ls b) : 0 ≤ y ∧ y < Ls.length := by
  unfold rowOf at h
  by_cases hb : b.toNat < Ls.length
  · rw [List.getD, List.getElem?_eq_getElem hb] at h
    obtain ⟨j, hj, e⟩ := List.mem_iff_getElem.1 h
    have := goodP_yes hg hb (j := j) hj
    simp only [Option.getD_some] at e
    rw [← e]; exact this
  · rw [List.getD, List.getElem?_eq_none (by omega)] at h
    simp at h

/-- What holds all along. -/
structure OI (Ls : List (List Int)) (s : OS) : Prop where
  perm : s.vis.Perm (s.way.map Prod.fst ++ s.out)
  nd : s.vis.Nodup
  rng : ∀ x ∈ s.vis, 0 ≤ x ∧ x < Ls.length
  lft : ∀ p ∈ s.way, p.2 ≤ (rowOf Ls p.1).length
  rch : ∀ x ∈ s.vis, Rc Ls 0 x
  fst : (∃ l r, s.way = (0, l) :: r) ∨ (s.way = [] ∧ ∃ o, s.out = o ++ [0])
  pth : s.way.Pairwise fun p q => Rc Ls p.1 q.1
  opn : ∀ pre b l post, s.way = pre ++ (b, l) :: post → ∀ j, l ≤ j → j < (rowOf Ls b).length → (rowOf Ls b).getD j 0 ∈ s.out ∨ Rc Ls ((rowOf Ls b).getD j 0) b ∨ (rowOf Ls b).getD j 0 ∈ post.map Prod.fst
  don : ∀ pre b post, s.out = pre ++ b :: post → ∀ y ∈ rowOf Ls b, y ∈ s.vis ∧ (y ∈ pre ∨ Rc Ls y b)
  wvs : ∀ p ∈ s.way, ∀ j, p.2 ≤ j → j < (rowOf Ls p.1).length → (rowOf Ls p.1).getD j 0 ∈ s.vis
theorem OI.zero {Ls : List (List Int)} (hg : goodP Ls = true) : OI Ls (os0 Ls) := by
  have hp := goodP_pos hg
  refine ⟨by simp [os0], by simp [os0], ?_, ?_, ?_, .inl ⟨_, [], rfl⟩, by simp [os0], ?_, ?_, ?_⟩
  · intro x hx; simp [os0] at hx; subst hx; omega
  · intro p hp; simp [os0] at hp; subst hp; exact Nat.le_refl _
  · intro x hx; simp [os0] at hx; subst hx; exact Rc.refl _ _
  · intro pre b l post e j h1 h2
    simp only [os0] at e
    rcases pre with _ | ⟨x, pre⟩
    · simp at e; obtain ⟨⟨rfl, rfl⟩, rfl⟩ := e; omega
    · simp at e
  · intro pre b post e; simp [os0] at e
  · intro p hp j h1 h2; simp [os0] at hp; subst hp; simp only at h1 h2; omega
theorem cons_of_snoc {α : Type} {st : List α} {x y : α} {r : List α} (h : st ++ [x] = y :: r) : (st = [] ∧ x = y ∧ r = []) ∨ ∃ r', st = y :: r' := by
  cases st with
  | nil => simp at h; exact .inl ⟨rfl, h.1, h.2⟩
  | cons z st => simp at h; exact .inr ⟨st, by rw [h.1]⟩
theorem OI.pop {Ls : List (List Int)} {vis : List Int} {st : List (Int × Nat)} {b : Int} {out : List Int} (h : OI Ls ⟨vis, st ++ [(b, 0)], out⟩) : OI Ls ⟨vis, st, out ++ [b]⟩ := by
  have hw := h.wvs (b, 0) (by simp)
  have ho := h.opn st b 0 [] rfl
  refine ⟨?_, h.nd, h.rng, fun p hp => h.lft p (by simp; exact .inl hp), h.rch, ?_, ?_, ?_, ?_, fun p hp => h.wvs p (by simp; exact .inl hp)⟩
  · refine h.perm.trans ?_
    simp only [List.map_append, List.map_cons, List.map_nil, List.append_assoc]
    exact List.Perm.append_left _ (by simpa using (List.perm_append_comm (l₁ := [b]) (l₂ := out)))
  · rcases h.fst with ⟨l, r, e⟩ | ⟨e, _⟩
    · rcases cons_of_snoc e with ⟨e1, e2, e3⟩ | ⟨r', e1⟩
      · cases e2
        exact .inr ⟨e1, out, rfl⟩
      · exact .inl ⟨l, r', e1⟩
    · simp at e
  · exact (List.pairwise_append.1 h.pth).1
  · intro pre c l post e j h1 h2
    rcases h.opn pre c l (post ++ [(b, 0)]) (by simp only at e ⊢; rw [e]; simp) j h1 h2 with h3 | h3 | h3
    · exact .inl (by simp only [List.mem_append]; exact .inl h3)
    · exact .inr (.inl h3)
    · rw [List.map_append, List.mem_append] at h3
      rcases h3 with h3 | h3
      · exact .inr (.inr h3)
      · exact .inl (by simp only [List.mem_append]; exact .inr (by simpa using h3))
  · intro pre c post e y hy
    rcases List.eq_nil_or_concat post with hp | ⟨post', z, hp⟩
    · subst hp
      obtain ⟨e1, e2⟩ := List.append_inj' e rfl
      cases e2
      subst e1
      obtain ⟨j, hj, rfl⟩ := row_mem_iff hy
      refine ⟨hw j (Nat.zero_le _) hj, ?_⟩
      rcases ho j (Nat.zero_le _) hj with h3 | h3 | h3
      · exact .inl h3
      · exact .inr h3
      · simp at h3
    · rw [List.concat_eq_append] at hp
      subst hp
      rw [show pre ++ c :: (post' ++ [z]) = (pre ++ c :: post') ++ [z] by simp] at e
      obtain ⟨e1, _⟩ := List.append_inj' e rfl
      exact h.don pre c post' e1 y hy
/-- One of a block's own is gone over that was visited before. -/
theorem OI.old {Ls : List (List Int)} {vis : List Int} {st : List (Int × Nat)} {b : Int} {l : Nat} {out : List Int} (h : OI Ls ⟨vis, st ++ [(b, l + 1)], out⟩) (hx : (rowOf Ls b).getD l 0 ∈ vis) : OI Ls ⟨vis, st ++ [(b, l)], out⟩ := by
  have hl := h.lft (b, l + 1) (by simp)
  simp only at hl
  have hpw := List.pairwise_append.1 h.pth
  refine ⟨by simpa using h.perm, h.nd, h.rng, ?_, h.rch, ?_, ?_, ?_, h.don, ?_⟩
  · intro p hp
    rw [List.mem_append] at hp
    rcases hp with hp | hp
    · exact h.lft p (by simp; exact .inl hp)
    · simp at hp; subst hp; simp only; omega
  · rcases h.fst with ⟨l', r, e⟩ | ⟨e, _⟩
    · rcases cons_of_snoc e with ⟨e1, e2, e3⟩ | ⟨r', e1⟩
      · cases e2
        subst e1
        exact .inl ⟨l, [], rfl⟩
      · exact .inl ⟨l', r' ++ [(b, l)], by rw [e1]; rfl⟩
    · simp at e
  · refine List.pairwise_append.2 ⟨hpw.1, by simp, fun p hp q hq => ?_⟩
    simp at hq
    subst hq
    exact hpw.2.2 p hp (b, l + 1) (by simp)
  · intro pre c m post e j h1 h2
    rcases List.eq_nil_or_concat post with hp | ⟨post', z, hp⟩
    · subst hp
      obtain ⟨e1, e2⟩ := List.append_inj' e rfl
      cases e2
      subst e1
      by_cases e3 : j = l
      · subst e3
        have hm := h.perm.mem_iff.1 hx
        simp only [List.map_append, List.map_cons, List.map_nil, List.mem_append, List.mem_singleton] at hm
        rcases hm with (hm | hm) | hm
        · obtain ⟨p, hp, e4⟩ := List.mem_map.1 hm
          have := hpw.2.2 p hp (b, j + 1) (by simp)
          exact .inr (.inl (by rw [← e4]; exact this))
        · exact .inr (.inl (by rw [hm]; exact Rc.refl _ _))
        · exact .inl hm
      · exact h.opn st b (l + 1) [] rfl j (by omega) h2
    · rw [List.concat_eq_append] at hp
      subst hp
      rw [show pre ++ (c, m) :: (post' ++ [z]) = (pre ++ (c, m) :: post') ++ [z] by simp] at e
      obtain ⟨e1, e2⟩ := List.append_inj' e rfl
      cases e2
      have := h.opn pre c m (post' ++ [(b, l + 1)]) (by simp only [e1]; simp) j h1 h2
      simpa using this
  · intro p hp j h1 h2
    rw [List.mem_append] at hp
    rcases hp with hp | hp
    · exact h.wvs p (by simp; exact .inl hp) j h1 h2
    · simp at hp
      subst hp
      by_cases e3 : j = l
      · subst e3; exact hx
      · exact h.wvs (b, l + 1) (by simp) j (by simp only at h1 ⊢; omega) h2
/-- One that was not. -/
theorem OI.new {Ls : List (List Int)} (hg : goodP Ls = true) {vis : List Int} {st : List (Int × Nat)} {b : Int} {l : Nat} {out : List Int} (h : OI Ls ⟨vis, st ++ [(b, l + 1)], out⟩) (hx : (rowOf Ls b).getD l 0 ∉ vis) :
    OI Ls ⟨vis ++ [(rowOf Ls b).getD l 0], st ++ [(b, l)] ++ [((rowOf Ls b).getD l 0, (rowOf Ls ((rowOf Ls b).getD l 0)).length)], out⟩ := by
  have hl := h.lft (b, l + 1) (by simp)
  simp only at hl
  have hpw := List.pairwise_append.1 h.pth
  have hbv : b ∈ vis := h.perm.mem_iff.2 (by simp)
  have hmem := row_mem (Ls := Ls) (b := b) (j := l) (by omega)
  have hxr := row_good hg hmem
  have hed : Rc Ls b ((rowOf Ls b).getD l 0) := Rc.edge hmem
  generalize hxe : (rowOf Ls b).getD l 0 = x at hx hmem hxr hed
  refine ⟨?_, ?_, ?_, ?_, ?_, ?_, ?_, ?_, ?_, ?_⟩
  · have := h.perm.append_right [x]
    refine this.trans ?_
    simp only [List.map_append, List.map_cons, List.map_nil, List.append_assoc]
    refine List.Perm.append_left _ (List.Perm.append_left _ ?_)
    exact List.perm_append_comm
  · rw [List.nodup_append]
    exact ⟨h.nd, by simp, fun a ha c hc => by simp at hc; subst hc; exact fun e => hx (e ▸ ha)⟩
  · intro y hy
    simp only [List.mem_append, List.mem_singleton] at hy
    rcases hy with hy | rfl
    · exact h.rng y hy
    · exact hxr
  · intro p hp
    simp only [List.mem_append, List.mem_singleton] at hp
    rcases hp with (hp | rfl) | rfl
    · exact h.lft p (by simp; exact .inl hp)
    · simp only; omega
    · exact Nat.le_refl _
  · intro y hy
    simp only [List.mem_append, List.mem_singleton] at hy
    rcases hy with hy | rfl
    · exact h.rch y hy
    · exact (h.rch b hbv).trans hed
  · rcases h.fst with ⟨l', r, e⟩ | ⟨e, _⟩
    · rcases cons_of_snoc e with ⟨e1, e2, e3⟩ | ⟨r', e1⟩
      · cases e2
        subst e1
        exact .inl ⟨l, _, rfl⟩
      · exact .inl ⟨l', r' ++ [(b, l)] ++ [(x, (rowOf Ls x).length)], by simp [e1]⟩
    · simp at e
  · refine List.pairwise_append.2 ⟨List.pairwise_append.2 ⟨hpw.1, by simp, fun p hp q hq => ?_⟩, by simp, fun p hp q hq => ?_⟩
    · simp at hq
      subst hq
      exact hpw.2.2 p hp (b, l + 1) (by simp)
    · simp at hq
      subst hq
      simp only [List.mem_append, List.mem_singleton] at hp
      rcases hp with hp | rfl
      · have := hpw.2.2 p hp (b, l + 1) (by simp)
        exact this.trans hed
      · exact hed
  · intro pre c m post e j h1 h2
    rcases List.eq_nil_or_concat post with hp | ⟨post', z, hp⟩
    · subst hp
      obtain ⟨e1, e2⟩ := List.append_inj' e rfl
      cases e2
      omega
    · rw [List.concat_eq_append] at hp
      subst hp
      rw [show pre ++ (c, m) :: (post' ++ [z]) = (pre ++ (c, m) :: post') ++ [z] by simp] at e
      obtain ⟨e1, e2⟩ := List.append_inj' e rfl
      cases e2
      rcases List.eq_nil_or_concat post' with hp | ⟨post2, z2, hp⟩
      · subst hp
        obtain ⟨e3, e4⟩ := List.append_inj' e1 rfl
        cases e4
        by_cases e5 : j = l
        · subst e5; rw [hxe]; exact .inr (.inr (by simp))
        · rcases h.opn st b (l + 1) [] rfl j (by omega) h2 with h3 | h3 | h3
          · exact .inl h3
          · exact .inr (.inl h3)
          · simp at h3
      · rw [List.concat_eq_append] at hp
        subst hp
        rw [show pre ++ (c, m) :: (post2 ++ [z2]) = (pre ++ (c, m) :: post2) ++ [z2] by simp] at e1
        obtain ⟨e3, e4⟩ := List.append_inj' e1 rfl
        cases e4
        rcases h.opn pre c m (post2 ++ [(b, l + 1)]) (by simp only [e3]; simp) j h1 h2 with h3 | h3 | h3
        · exact .inl h3
        · exact .inr (.inl h3)
        · refine .inr (.inr ?_)
          simp only [List.map_append, List.mem_append] at h3 ⊢
          exact .inl (by simpa using h3)
  · intro pre c post e y hy
    obtain ⟨h1, h2⟩ := h.don pre c post e y hy
    exact ⟨by simp only [List.mem_append]; exact .inl h1, h2⟩
  · intro p hp j h1 h2
    simp only [List.mem_append, List.mem_singleton] at hp ⊢
    rcases hp with (hp | rfl) | rfl
    · exact .inl (h.wvs p (by simp; exact .inl hp) j h1 h2)
    · by_cases e3 : j = l
      · subst e3; exact .inr hxe
      · exact .inl (h.wvs (b, l + 1) (by simp) j (by simp only at h1 ⊢; omega) h2)
    · simp only at h1 h2
      omega
/-- A step: what holds, and one less to do. -/
theorem OI.step {Ls : List (List Int)} (hg : goodP Ls = true) {s : OS} (h : OI Ls s) (hne : s.way ≠ []) : OI Ls (stp Ls s) ∧ msr Ls s = msr Ls (stp Ls s) + 1 := by
  obtain ⟨vis, way, out⟩ := s
  rcases List.eq_nil_or_concat way with he | ⟨st, ⟨b, l⟩, he⟩
  · exact absurd he hne
  · rw [List.concat_eq_append] at he
    subst he
    cases l with
    | zero =>
      rw [stp_pop]
      exact ⟨h.pop, by simp [msr]; omega⟩
    | succ l =>
      rw [stp_go]
      by_cases hx : (rowOf Ls b).getD l 0 ∈ vis
      · rw [vst, if_pos hx]
        exact ⟨h.old hx, by simp [msr]; omega⟩
      · have hl := h.lft (b, l + 1) (by simp)
        simp only at hl
        have hr := row_good hg (row_mem (Ls := Ls) (b := b) (j := l) (by omega))
        rw [vst, if_neg hx]
        refine ⟨h.new hg hx, ?_⟩
        have := unv_more Ls vis _ hr.1 hx Ls.length
        rw [if_pos hr.2] at this
        simp only [msr, this]
        simp
        omega
theorem orun_oi {Ls : List (List Int)} (hg : goodP Ls = true) : ∀ (k : Nat) (s : OS), OI Ls s → msr Ls s = k → OI Ls (orun Ls k s) ∧ (orun Ls k s).way = []
  | 0, s, h, e => by
    refine ⟨h, ?_⟩
    rcases hw : s.way with _ | ⟨p, r⟩
    · exact hw
    · simp [msr, hw] at e
  | k + 1, s, h, e => by
    by_cases hw : s.way = []
    · rw [orun_end _ _ _ hw]; exact ⟨h, hw⟩
    · rw [orun_more _ _ _ hw]
      obtain ⟨h1, h2⟩ := h.step hg hw
      exact orun_oi hg k _ h1 (by omega)
theorem orP_oi {Ls : List (List Int)} (hg : goodP Ls = true) : OI Ls (orP Ls) ∧ (orP Ls).way = [] := orun_oi hg _ _ (OI.zero hg) rfl
theorem nodup_le : ∀ (n : Nat) (l : List Int), l.Nodup → (∀ x ∈ l, 0 ≤ x ∧ x < n) → l.length ≤ n
  | 0, l, _, h => by
    cases l with
    | nil => simp
    | cons x l => have := h x (by simp); omega
  | n + 1, l, hd, h => by
    by_cases hm : (n : Int) ∈ l
    · have h1 := nodup_le n (l.erase (n : Int)) (hd.erase _) fun x hx => by
        have h2 := h x (List.mem_of_mem_erase hx)
        have h3 : x ≠ n := ((hd.mem_erase_iff).1 hx).1
        omega
      rw [List.length_erase_of_mem hm] at h1
      have : 0 < l.length := List.length_pos_of_mem hm
      omega
    · have := nodup_le n l hd fun x hx => by
        have h2 := h x hx
        have h3 : x ≠ n := fun e => hm (e ▸ hx)
        omega
      omega
theorem OI.le {Ls : List (List Int)} {s : OS} (h : OI Ls s) : s.vis.length ≤ Ls.length := nodup_le _ _ h.nd h.rng

/-- The line: no block twice; just what can be reached; block 0 first; ways back lead into circles. -/
theorem lin_nodup {Ls : List (List Int)} (hg : goodP Ls = true) : (linP Ls).Nodup := by
  obtain ⟨h, hw⟩ := orP_oi hg
  rw [linP, if_pos hg, (List.reverse_perm _).nodup_iff]
  have := h.perm
  rw [hw] at this
  simp at this
  exact this.nodup_iff.1 h.nd
theorem lin_mem {Ls : List (List Int)} (hg : goodP Ls = true) (x : Int) : x ∈ linP Ls ↔ Rc Ls 0 x := by
  obtain ⟨h, hw⟩ := orP_oi hg
  have hp := h.perm
  rw [hw] at hp
  simp at hp
  rw [linP, if_pos hg, List.mem_reverse, ← hp.mem_iff]
  refine ⟨h.rch x, fun hr => ?_⟩
  have h0 : (0 : Int) ∈ (orP Ls).vis := by
    rcases h.fst with ⟨l, r, e⟩ | ⟨_, o, e⟩
    · rw [hw] at e; cases e
    · exact hp.mem_iff.2 (by rw [e]; simp)
  refine hr.closed (S := fun x => x ∈ (orP Ls).vis) (fun y hy z hz => ?_) h0
  obtain ⟨pre, post, e⟩ := List.append_of_mem (hp.mem_iff.1 hy)
  exact (h.don pre y post e z hz).1
theorem lin_first {Ls : List (List Int)} (hg : goodP Ls = true) : ∃ r, linP Ls = 0 :: r := by
  obtain ⟨h, hw⟩ := orP_oi hg
  rcases h.fst with ⟨l, r, e⟩ | ⟨_, o, e⟩
  · rw [hw] at e; cases e
  · exact ⟨o.reverse, by rw [linP, if_pos hg, e]; simp⟩
theorem lin_rng {Ls : List (List Int)} (hg : goodP Ls = true) {x : Int} (hx : x ∈ linP Ls) : 0 ≤ x ∧ x < Ls.length := by
  obtain ⟨h, hw⟩ := orP_oi hg
  have hp := h.perm
  rw [hw] at hp
  simp at hp
  rw [linP, if_pos hg, List.mem_reverse, ← hp.mem_iff] at hx
  exact h.rng x hx
theorem lin_len {Ls : List (List Int)} : (linP Ls).length ≤ Ls.length := by
  by_cases hg : goodP Ls = true
  · obtain ⟨h, hw⟩ := orP_oi hg
    have hp := h.perm
    rw [hw] at hp
    simp at hp
    rw [linP, if_pos hg, List.length_reverse, ← hp.length_eq]
    exact h.le
  · rw [linP, if_neg hg]; simp
theorem lin_back {Ls : List (List Int)} (hg : goodP Ls = true) {pre post : List Int} {a : Int} (e : linP Ls = pre ++ a :: post) {y : Int} (hy : y ∈ rowOf Ls a) : y ∈ post ∨ Rc Ls y a := by
  obtain ⟨h, hw⟩ := orP_oi hg
  rw [linP, if_pos hg] at e
  have e2 : (orP Ls).out = post.reverse ++ a :: pre.reverse := by
    have := congrArg List.reverse e
    simpa using this
  rcases (h.don _ _ _ e2 y hy).2 with h1 | h1
  · exact .inl (by simpa using h1)
  · exact .inr h1
end Go.Proofs.Ytplpgeocidllfaa
