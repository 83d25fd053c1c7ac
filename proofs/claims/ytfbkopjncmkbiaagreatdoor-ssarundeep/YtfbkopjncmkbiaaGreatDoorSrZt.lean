import Derived.Test.YtfbkopjncmkbiaaGreatDoorSrZs
import Derived.Test.YtfbkopjncmkbiaaGreatDoorSrZq
set_option linter.unusedVariables false
set_option linter.unusedSimpArgs false
namespace Go.Proofs.YtfbkopjncmkbiaaGreatDoor
open Go.ChangeShapes Go.WideShapes Go.ChangeAt Go.RowKit Go.Maps

/-- A run of n steps. -/
def Way (FS : List Fu) (n : Nat) (M M' : Ms) : Prop := ∃ Q : Nat → Ms, Q 0 = M ∧ Q n = M' ∧ ∀ k, k < n → StepsTo FS (Q k) true (Q (k + 1))
theorem Way.one {FS M M'} (h : StepsTo FS M true M') : Way FS 1 M M' := ⟨fun k => if k = 0 then M else M', rfl, rfl, fun k hk => by
  have : k = 0 := by omega
  subst this
  exact h⟩
theorem Way.trans {FS n k M M' M''} (h : Way FS n M M') (g : Way FS k M' M'') : Way FS (n + k) M M'' := by
  obtain ⟨Q, a, b, c⟩ := h
  obtain ⟨R, a', b', c'⟩ := g
  refine ⟨fun i => if i ≤ n then Q i else R (i - n), by simpa using a, ?_, fun i hi => ?_⟩
  · by_cases hk : k = 0
    · subst hk
      simp only [Nat.add_zero, Nat.le_refl, if_true]
      rw [b, ← a', b']
    · simp only
      rw [if_neg (by omega), Nat.add_sub_cancel_left, b']
  · simp only
    by_cases h1 : i + 1 ≤ n
    · rw [if_pos (by omega), if_pos h1]
      exact c i (by omega)
    · rw [if_neg h1, show i + 1 - n = i - n + 1 by omega]
      by_cases h2 : i ≤ n
      · have : i = n := by omega
        subst this
        rw [if_pos h2, b, ← a']
        have := c' 0 (by omega)
        simpa using this
      · rw [if_neg h2]
        exact c' (i - n) (by omega)
theorem Way.more {FS n M M' M''} (h : Way FS n M M') (g : StepsTo FS M' true M'') : Way FS (n + 1) M M'' := h.trans (.one g)
/-- What is told: a, b, a, b .. -/
def pA (a b : Int) (t : Nat) : Int := if t % 2 = 0 then a else b
theorem pA_next (a b : Int) (t : Nat) : pA a b (t + 1) = pA b a t := by unfold pA; split <;> split <;> first | rfl | omega
def alt (a b : Int) (t : Nat) : List Int := (List.range t).map (pA a b)
theorem alt_len (a b : Int) (t : Nat) : (alt a b t).length = t := by simp [alt]
theorem evl_alt (a b : Int) (t : Nat) : evl (alt a b (t + 1)) = evl (alt a b t) ++ [(1, pA a b t)] := by simp [alt, evl, List.range_succ]
theorem alt_at (a b : Int) (n t : Nat) (h : t < (alt a b n).length) : (alt a b n)[t] = pA a b t := by simp [alt]
theorem doIW_lt {t m : Int} (h : t < m) : doIW 15 t m = 1 := by
  show truthIW (decide (t < m)) = 1
  rw [decide_eq_true h]; rfl
theorem doIW_ge {t m : Int} (h : ¬ t < m) : doIW 15 t m = 0 := by
  show truthIW (decide (t < m)) = 0
  rw [decide_eq_false h]; rfl
theorem doIW_inc {t : Int} (h : 0 ≤ t ∧ t ≤ 1000) : doIW 2 t 1 = t + 1 := by
  show wrap64 (t + 1) = t + 1
  unfold wrap64
  omega
/-- Ahead of a turn. -/
def TopT (a b m : Int) (t : Nat) (M : Ms) : Prop := t = 0 ∧ M = tuM 1 0 [a, b, 0, 1, m] [a, b, 0] [] 6 ∨ ∃ p' q' i c z e, M = tuM 1 0 (LN a b m p' q' i c z e) [pA a b t, pA b a t, (t : Int)] (evl (alt a b t)) (6 + 8 * (t : Int))
theorem tu_start (a b m : Int) : Way [tuF a b m] 6 (tuM 0 0 [] [] [] 0) (tuM 1 0 [a, b, 0, 1, m] [a, b, 0] [] 6) :=
  (((((Way.one (tu_i0 a b m)).more (tu_i1 a b m)).more (tu_i2 a b m)).more (tu_i3 a b m)).more (tu_i4 a b m)).more (tu_i5 a b m)
theorem tu_turn (a b : Int) (n t : Nat) (hn : n ≤ 300) (ht : t < n) {M : Ms} (h : TopT a b (n : Int) t M) : ∃ M', TopT a b (n : Int) (t + 1) M' ∧ Way [tuF a b (n : Int)] 8 M M' := by
  rcases h with ⟨rfl, rfl⟩ | ⟨p', q', i, c, z, e, rfl⟩
  · have h3 := tu_s3 a b (n : Int)
    rw [doIW_lt (by omega)] at h3
    have h7 := tu_g7 a b (n : Int) a b 1 0 1 0 [(1, a)] 13 (by omega)
    refine ⟨_, .inr ⟨a, b, 0, 1, 0, 1, rfl⟩, (((((((Way.one (tu_s0 a b n)).more (tu_s1 a b n)).more (tu_s2 a b n)).more h3).more (tu_s4 a b n)).more (tu_s5 a b n)).more (tu_s6 a b n)).more h7⟩
  · have hs : 0 ≤ 6 + 8 * (t : Int) ∧ 6 + 8 * (t : Int) ≤ 900000 := by omega
    have hE : (evl (alt a b t)).length ≤ 1000 := by simp [evl, alt_len]; omega
    have e1 := pA_next a b t
    have e2 := pA_next b a t
    have e3 := evl_alt a b t
    obtain ⟨s, hS⟩ : ∃ s, s = 6 + 8 * (t : Int) := ⟨_, rfl⟩
    obtain ⟨p, hp⟩ : ∃ p, p = pA a b t := ⟨_, rfl⟩
    obtain ⟨q, hq⟩ : ∃ q, q = pA b a t := ⟨_, rfl⟩
    obtain ⟨E, hEE⟩ : ∃ E, E = evl (alt a b t) := ⟨_, rfl⟩
    rw [← hS] at hs ⊢
    rw [← hEE] at hE e3 ⊢
    rw [← hp] at e2 e3 ⊢
    rw [← hq] at e1 ⊢
    have h0 := tu_g0 a b n p q i c z e p' q' t E s (by omega)
    have h1 := tu_g1 a b n p q i c z e q' t E (s + 1) (by omega)
    have h2 := tu_g2 a b n p q i c z e t E (s + 1 + 1) (by omega)
    have h3 := tu_g3 a b n p q c z e t [p, q, (t : Int)] E (s + 1 + 1 + 1) (by omega)
    rw [doIW_lt (by omega)] at h3
    have h4 := tu_g4 a b n p q z e t [p, q, (t : Int)] E (s + 1 + 1 + 1 + 1) (by omega)
    have h5 := tu_g5 a b n p q 1 z e t E (s + 1 + 1 + 1 + 1 + 1) hE (by omega)
    have h6 := tu_g6 a b n p q 1 z e t (E ++ [(1, p)]) (s + 1 + 1 + 1 + 1 + 1 + 1) (by omega)
    rw [doIW_inc (by omega)] at h6
    have h7 := tu_g7 a b n p q 1 z (t + 1) t (E ++ [(1, p)]) (s + 1 + 1 + 1 + 1 + 1 + 1 + 1) (by omega)
    refine ⟨_, .inr ⟨p, q, t, 1, z, t + 1, ?_⟩, (((((((Way.one h0).more h1).more h2).more h3).more h4).more h5).more h6).more h7⟩
    rw [e1, e2, e3]
    congr 1
    omega
theorem tu_tops (a b : Int) (n : Nat) (hn : n ≤ 300) : ∀ t, t ≤ n → ∃ M, TopT a b (n : Int) t M ∧ Way [tuF a b (n : Int)] (6 + 8 * t) (tuM 0 0 [] [] [] 0) M := by
  intro t
  induction t with
  | zero => exact fun _ => ⟨_, .inl ⟨rfl, rfl⟩, tu_start a b n⟩
  | succ t ih =>
    intro ht
    obtain ⟨M, h1, h2⟩ := ih (by omega)
    obtain ⟨M', h3, h4⟩ := tu_turn a b n t hn (by omega) h1
    exact ⟨M', h3, h2.trans h4⟩
theorem tu_last (a b : Int) (n : Nat) (hn : n ≤ 300) {M : Ms} (h : TopT a b (n : Int) n M) : ∃ N, Way [tuF a b (n : Int)] 6 M (tuE N (evl (alt a b n)) (12 + 8 * (n : Int))) := by
  rcases h with ⟨rfl, rfl⟩ | ⟨p', q', i, c, z, e, rfl⟩
  · have h3 := tu_s3 a b ((0 : Nat) : Int)
    rw [doIW_ge (by omega)] at h3
    have he := tu_e a b ((0 : Nat) : Int) [a, b, 0, 1, ((0 : Nat) : Int), a, b, 0, 0] [] 11 (by simp) (by omega)
    exact ⟨_, ((((Way.one (tu_s0 a b _)).more (tu_s1 a b _)).more (tu_s2 a b _)).more h3).more (tu_s4n a b _) |>.more he⟩
  · have hs : 0 ≤ 6 + 8 * (n : Int) ∧ 6 + 8 * (n : Int) ≤ 900000 := by omega
    obtain ⟨s, hS⟩ : ∃ s, s = 6 + 8 * (n : Int) := ⟨_, rfl⟩
    have hS2 : 12 + 8 * (n : Int) = s + 1 + 1 + 1 + 1 + 1 + 1 := by omega
    rw [hS2]
    rw [← hS] at hs ⊢
    generalize pA a b n = p
    generalize pA b a n = q
    generalize evl (alt a b n) = E
    have h0 := tu_g0 a b n p q i c z e p' q' n E s (by omega)
    have h1 := tu_g1 a b n p q i c z e q' n E (s + 1) (by omega)
    have h2 := tu_g2 a b n p q i c z e n E (s + 1 + 1) (by omega)
    have h3 := tu_g3 a b n p q c z e n [p, q, (n : Int)] E (s + 1 + 1 + 1) (by omega)
    rw [doIW_ge (by omega)] at h3
    have h4 := tu_g4n a b n p q z e n [p, q, (n : Int)] E (s + 1 + 1 + 1 + 1) (by omega)
    have he := tu_e a b n (LN a b n p q n 0 z e) E (s + 1 + 1 + 1 + 1 + 1) (by simp [LN]) (by omega)
    exact ⟨_, (((((Way.one h0).more h1).more h2).more h3).more h4).more he⟩
/-- SSARunTurns' run. -/
theorem tu_all (a b : Int) (n : Nat) (hn : n ≤ 300) : ∃ N, Way [tuF a b (n : Int)] (12 + 8 * n) (tuM 0 0 [] [] [] 0) (tuE N (evl (alt a b n)) (12 + 8 * (n : Int))) := by
  obtain ⟨M, h1, h2⟩ := tu_tops a b n hn n (Nat.le_refl _)
  obtain ⟨N, h3⟩ := tu_last a b n hn h1
  refine ⟨N, ?_⟩
  have := h2.trans h3
  rwa [show 6 + 8 * n + 6 = 12 + 8 * n by omega] at this
end Go.Proofs.YtfbkopjncmkbiaaGreatDoor
