import Derived.Test.YtfbkopjncmkbiabGreatDoorKbl
set_option linter.unusedVariables false
set_option linter.unusedSimpArgs false
namespace Go.Proofs.YtfbkopjncmkbiabGreatDoor
open Go.ChangeShapes Go.WideShapes Go.ChangeAt Go.RowKit Go.Maps

/-- Run, where the run is over. -/
theorem mRun_over {s d w M} (h : Over10 s d w M) (ho : M.over = true) {fuel : Nat} (hf : fuel ≤ 1099511627776) :
    Calls Tryz.prog 6 #[.pointer (some ⟨s.mb, 0, none⟩), .int .i64 fuel] w fun e w' => ∃ v B, e = .returned (.tuple #[otv v M, .int .i64 0]) ∧ Row w' B 45 2 v (M.ev.map evc) ∧ Below w.heap.size w w' := by
  obtain ⟨wq, hwq⟩ : ∃ wq, wq = w.alloc (.cells #[.slice none 0 0, .int .i64 0, .int .i64 0, .int .i64 0, .int .i64 0, .int .i64 0, .int .i64 0] 43) := ⟨_, rfl⟩
  obtain ⟨wb, hwb⟩ : ∃ wb, wb = wq.alloc (.cells #[.slice none 0 0, .int .i64 0, .int .i64 0, .int .i64 0, .int .i64 0, .int .i64 0, .int .i64 0] 43) := ⟨_, rfl⟩
  have bq : Below w.heap.size w wq := by rw [hwq]; exact below_new w _
  have bb : Below wq.heap.size wq wb := by rw [hwb]; exact below_new wq _
  have bwb : Below w.heap.size w wb := bq.trans (bb.mono bq.size)
  have k0 : wq.heap[w.heap.size]? = some (.cells #[.slice none 0 0, .int .i64 0, .int .i64 0, .int .i64 0, .int .i64 0, .int .i64 0, .int .i64 0] 43 (0, 0)) := by rw [hwq]; exact heap_alloc_new _ _
  have k1 : wb.heap[w.heap.size]? = some (.cells #[.slice none 0 0, .int .i64 0, .int .i64 0, .int .i64 0, .int .i64 0, .int .i64 0, .int .i64 0] 43 (0, 0)) := (bb.block _ (Array.getElem?_eq_some_iff.1 k0).1).trans k0
  have k2 : wb.heap[wq.heap.size]? = some (.cells #[.slice none 0 0, .int .i64 0, .int .i64 0, .int .i64 0, .int .i64 0, .int .i64 0, .int .i64 0] 43 (0, 0)) := by rw [hwb]; exact heap_alloc_new _ _
  have hfin : ∀ W, FinR 0 fuel (fun k W => k = 0 ∧ W = wb) (fun W => W = wb) W → W = wb := fun W hW => by
    unfold FinR at hW
    split at hW
    · exact hW
    · exact hW.2
  have T := told_run wq (mb := s.mb) (o := 41) (B := s.hi) (fuel := fuel) (N := 0) #[.pointer (some ⟨s.mb, 0, none⟩)] opens_stepR hf (fun k W => k = 0 ∧ W = wb) (fun W => W = wb) (E := M.ev) (x1 := M.fin) (x2 := M.kd) (x3 := M.vl) (x4 := M.steps) (x5 := M.words) (x6 := M.deep) ⟨rfl, by rw [hwb]⟩ (fun k W hk => absurd hk (Nat.not_lt_zero _)) (fun W hi => by
      obtain ⟨_, rfl⟩ := hi
      exact (mStep_no (h.below bwb) ho).mono fun e w' q => ⟨q.1, q.2.symm⟩) (fun W hW => by
    rw [hfin W hW]
    exact ⟨(h.below bwb).toldAt, k2⟩)
  refine (mRun_of w wq h.lt hf _ hwq T fun wF hW => by rw [hfin wF hW]; exact k1).mono ?_
  rintro e w' ⟨v, wF, rfl, hW, hR, hO⟩
  have e1 := hfin wF hW
  subst e1
  refine ⟨v, _, rfl, hR, ?_⟩
  have sz0 := bq.size
  exact bwb.trans (hO.below bwb.size fun k hk => by rcases hk with rfl | rfl <;> omega)
/-- A run of n steps. -/
def Way (FS : List Fu) (n : Nat) (M M' : Ms) : Prop := ∃ Q : Nat → Ms, Q 0 = M ∧ Q n = M' ∧ ∀ k, k < n → StepsTo FS (Q k) true (Q (k + 1))
theorem Way.one {FS M M'} (h : StepsTo FS M true M') : Way FS 1 M M' := ⟨fun k => if k = 0 then M else M', rfl, rfl, fun k hk => by
  have : k = 0 := by omega
  subst this
  exact h⟩
theorem Way.trans {FS n k M M' M''} (h : Way FS n M M') (g : Way FS k M' M'') : Way FS (n + k) M M'' := by
  obtain ⟨Q, a, b, c⟩ := h
  obtain ⟨R, a', b', c'⟩ := g
  refine ⟨fun i => if i ≤ n then Q i else R (i - n), by simpa using a, ?_, fun i hi => ?_⟩
  · by_cases hk : k = 0
    · subst hk
      simp only [Nat.add_zero, Nat.le_refl, if_true]
      rw [b, ← a', b']
    · simp only
      rw [if_neg (by omega), Nat.add_sub_cancel_left, b']
  · simp only
    by_cases h1 : i + 1 ≤ n
    · rw [if_pos (by omega), if_pos h1]
      exact c i (by omega)
    · rw [if_neg h1, show i + 1 - n = i - n + 1 by omega]
      by_cases h2 : i ≤ n
      · have : i = n := by omega
        subst this
        rw [if_pos h2, b, ← a']
        have := c' 0 (by omega)
        simpa using this
      · rw [if_neg h2]
        exact c' (i - n) (by omega)
theorem Way.more {FS n M M' M''} (h : Way FS n M M') (g : StepsTo FS M' true M'') : Way FS (n + 1) M M'' := h.trans (.one g)
/-- What is told: 0, 1, 2 .. -/
def uev (t : Nat) : List (Int × Int) := (List.range t).map fun i : Nat => ((1 : Int), (i : Int))
theorem uev_len (t : Nat) : (uev t).length = t := by simp [uev]
theorem uev_more (t : Nat) : uev (t + 1) = uev t ++ [(1, (t : Int))] := by simp [uev, List.range_succ]
theorem doIW_lt {t m : Int} (h : t < m) : doIW 15 t m = 1 := by
  show truthIW (decide (t < m)) = 1
  rw [decide_eq_true h]; rfl
theorem doIW_ge {t m : Int} (h : ¬ t < m) : doIW 15 t m = 0 := by
  show truthIW (decide (t < m)) = 0
  rw [decide_eq_false h]; rfl
theorem doIW_incR {y : Int} (h : 0 ≤ y ∧ y ≤ 100000000) : doIW 2 y 1 = y + 1 := by
  show wrap64 (y + 1) = y + 1
  unfold wrap64
  omega
/-- SSARunRests' program. -/
def reF (m : Int) : Fu := ⟨⟨#[109, 97, 105, 110]⟩, [], 0, [⟨1, 1, 0, []⟩, ⟨1, 1, 1, []⟩, ⟨1, 1, m, []⟩, ⟨32, 1, 0, [0, 5]⟩, ⟨26, 0, 0, [3]⟩, ⟨2, 1, 0, [3, 1]⟩, ⟨15, 2, 0, [5, 2]⟩], [⟨[], [0, 1, 2], 1, -1, [1], []⟩, ⟨[3], [4, 5, 6], 2, 6, [1, 2], [0, 1]⟩, ⟨[], [], 4, 2, [], [1]⟩]⟩
theorem re_check (m : Int) : checkP [reF m] 0 = 0 := by kernel_rfl
theorem re_few (m : Int) : ∀ f ∈ [reF m], FewF f := by
  intro f hf
  simp only [List.mem_cons, List.not_mem_nil, or_false] at hf
  subst hf
  exact ⟨Nat.le_of_ble_eq_true (by kernel_rfl), Nat.le_of_ble_eq_true (by kernel_rfl)⟩
theorem re_fewC (m : Int) : ∀ f ∈ [reF m], FewC f := by
  intro f hf
  simp only [List.mem_cons, List.not_mem_nil, or_false] at hf
  subst hf
  refine ⟨by simp [reF], by simp [reF], by simp [reF], by simp [reF], by simp [reF]⟩
theorem re_few10 (m : Int) : Few10 [reF m] := by
  constructor <;> (intro f hf; simp only [List.mem_cons, List.not_mem_nil, or_false] at hf; subst hf; simp [reF])
def hpR : Hpd := ⟨0, fun _ => none, fun _ => 0, 0⟩
def rsM (bk bh : Nat) (N P : List Int) (E : List (Int × Int)) (s : Int) : Ms := ⟨[], ⟨0, bk, bh, 0⟩, [], N, P, E, 0, 0, 0, s, 0, 1, false, hpR⟩
def LRs (m p z e c : Int) : List Int := [0, 1, m, p, z, e, c]
theorem re_begin (m : Int) : (Ms.fresh []).begin [reF m] 0 [] = some (rsM 0 0 [] [] [] 0) := by rfl
theorem re_i0 (m : Int) : StepsTo [reF m] (rsM 0 0 [] [] [] 0) true (rsM 0 1 [0] [] [] 1) := StepsTo.at _ _ 0 rfl (by kernel_rfl) (by kernel_rfl) rfl rfl (by kernel_rfl) (by decide) rfl rfl
theorem re_i1 (m : Int) : StepsTo [reF m] (rsM 0 1 [0] [] [] 1) true (rsM 0 2 [0, 1] [] [] 2) := StepsTo.at _ _ 1 rfl (by kernel_rfl) (by kernel_rfl) rfl rfl (by kernel_rfl) (by decide) rfl rfl
theorem re_i2 (m : Int) : StepsTo [reF m] (rsM 0 2 [0, 1] [] [] 2) true (rsM 0 3 [0, 1, m] [] [] 3) := StepsTo.at _ _ 2 rfl (by kernel_rfl) (by kernel_rfl) rfl rfl (by kernel_rfl) (by decide) rfl rfl
theorem re_i3 (m : Int) : StepsTo [reF m] (rsM 0 3 [0, 1, m] [] [] 3) true (rsM 1 0 [0, 1, m] [0] [] 4) := StepsTo.at _ _ 3 rfl (by kernel_rfl) (by kernel_rfl) rfl rfl (by kernel_rfl) (by decide) rfl rfl
theorem re_s0 (m : Int) : StepsTo [reF m] (rsM 1 0 [0, 1, m] [0] [] 4) true (rsM 1 1 [0, 1, m, 0] [0] [] 5) := StepsTo.at _ _ 4 rfl (by kernel_rfl) (by kernel_rfl) rfl rfl (by kernel_rfl) (by decide) rfl rfl
theorem re_s1 (m : Int) : StepsTo [reF m] (rsM 1 1 [0, 1, m, 0] [0] [] 5) true (rsM 1 2 [0, 1, m, 0] [0] [(1, 0)] 6) := StepsTo.at _ _ 5 rfl (by kernel_rfl) (by kernel_rfl) rfl rfl (by kernel_rfl) (by decide) rfl rfl
theorem re_s2 (m : Int) : StepsTo [reF m] (rsM 1 2 [0, 1, m, 0] [0] [(1, 0)] 6) true (rsM 1 3 [0, 1, m, 0, 0, 1] [0] [(1, 0)] 7) := StepsTo.at _ _ 6 rfl (by kernel_rfl) (by kernel_rfl) rfl rfl (by kernel_rfl) (by decide) rfl rfl
theorem re_s3 (m : Int) : StepsTo [reF m] (rsM 1 3 [0, 1, m, 0, 0, 1] [0] [(1, 0)] 7) true (rsM 1 4 (LRs m 0 0 1 (doIW 15 1 m)) [0] [(1, 0)] 8) := StepsTo.at _ _ 7 rfl (by kernel_rfl) (by kernel_rfl) rfl rfl (by kernel_rfl) (by decide) rfl rfl
theorem re_g0 (m p z e c t : Int) (P : List Int) (E : List (Int × Int)) (s : Int) (hs : 0 ≤ s ∧ s ≤ 100000000) : StepsTo [reF m] (rsM 1 0 (LRs m p z e c) [t] E s) true (rsM 1 1 (LRs m t z e c) [t] E (s + 1)) := StepsTo.at _ _ s rfl (by kernel_rfl) (by kernel_rfl) rfl rfl (by kernel_rfl) (by omega) rfl rfl
theorem re_g1 (m p z e c t : Int) (P : List Int) (E : List (Int × Int)) (s : Int) (hs : 0 ≤ s ∧ s ≤ 100000000) (hE : E.length < 1048576) : StepsTo [reF m] (rsM 1 1 (LRs m t z e c) P E s) true (rsM 1 2 (LRs m t z e c) P (E ++ [(1, t)]) (s + 1)) := by
  refine StepsTo.at _ _ s rfl ?_ (by kernel_rfl) rfl rfl (by kernel_rfl) (by omega) rfl rfl
  have ht : ∀ M : Ms, M.ev = E → M.tell 1 t = { M with ev := E ++ [(1, t)] } := fun M hM => by
    unfold Ms.tell
    rw [if_neg (by rw [hM]; omega), hM]
  show some (((rsM 1 1 (LRs m t z e c) P E s).on.tell 1 t).after 4 none) = _
  rw [ht _ rfl]
  rfl
theorem re_g2 (m p z e c t : Int) (P : List Int) (E : List (Int × Int)) (s : Int) (hs : 0 ≤ s ∧ s ≤ 100000000) : StepsTo [reF m] (rsM 1 2 (LRs m t z e c) P E s) true (rsM 1 3 (LRs m t z (doIW 2 t 1) c) P E (s + 1)) := StepsTo.at _ _ s rfl (by kernel_rfl) (by kernel_rfl) rfl rfl (by kernel_rfl) (by omega) rfl rfl
theorem re_g3 (m p z e c t : Int) (P : List Int) (E : List (Int × Int)) (s : Int) (hs : 0 ≤ s ∧ s ≤ 100000000) : StepsTo [reF m] (rsM 1 3 (LRs m p z t c) P E s) true (rsM 1 4 (LRs m p z t (doIW 15 t m)) P E (s + 1)) := StepsTo.at _ _ s rfl (by kernel_rfl) (by kernel_rfl) rfl rfl (by kernel_rfl) (by omega) rfl rfl
theorem re_g4 (m p z e c t : Int) (P : List Int) (E : List (Int × Int)) (s : Int) (hs : 0 ≤ s ∧ s ≤ 100000000) : StepsTo [reF m] (rsM 1 4 (LRs m p z t 1) P E s) true (rsM 1 0 (LRs m p z t 1) [t] E (s + 1)) := StepsTo.at _ _ s rfl (by kernel_rfl) (by kernel_rfl) rfl rfl (by kernel_rfl) (by omega) rfl rfl
theorem re_g4n (m p z e c t : Int) (P : List Int) (E : List (Int × Int)) (s : Int) (hs : 0 ≤ s ∧ s ≤ 100000000) : StepsTo [reF m] (rsM 1 4 (LRs m p z t 0) P E s) true (rsM 2 0 (LRs m p z t 0) [] E (s + 1)) := StepsTo.at _ _ s rfl (by kernel_rfl) (by kernel_rfl) rfl rfl (by kernel_rfl) (by omega) rfl rfl
/-- The panic, and the rest. -/
def rsP (m : Int) (N : List Int) (E : List (Int × Int)) (s : Int) : Ms := ⟨[], ⟨0, 2, 1, 0⟩, [], N, [], E, 2, 6, m, s, 0, 1, false, hpR⟩
def rsR (N P : List Int) (E : List (Int × Int)) (s : Int) : Ms := ⟨[], ⟨0, 1, 2, 0⟩, [], N, P, E, 0, 0, 0, s, 0, 1, true, hpR⟩
theorem re_p (m p z e c t : Int) (P : List Int) (E : List (Int × Int)) (s : Int) (hs : 0 ≤ s ∧ s ≤ 100000000) : StepsTo [reF m] (rsM 2 0 (LRs m p z e c) [] E s) true (rsP m (LRs m p z e c) E (s + 1)) := StepsTo.at _ _ s rfl (by kernel_rfl) (by kernel_rfl) rfl rfl (by kernel_rfl) (by omega) rfl rfl
theorem re_r (m p z e c t : Int) (P : List Int) (E : List (Int × Int)) (s : Int) (hs : 0 ≤ s ∧ s ≤ 100000000) (hE : E.length = 1048576) : StepsTo [reF m] (rsM 1 1 (LRs m t z e c) P E s) false (rsR (LRs m t z e c) P E s) := by
  have ht : ∀ M : Ms, M.ev = E → M.tell 1 t = { M with rests := true } := fun M hM => by
    unfold Ms.tell
    rw [if_pos (by rw [hM]; exact hE)]
  refine StepsTo.rest (rsR (LRs m t z e c) P E s) rfl ?_ (Roomy.one (by show 7 ≤ _; decide) rfl rfl (by show 2 ≤ _; decide)) (fun f b _ _ _ => .inl rfl) ⟨hs.1, by show s ≤ _; omega⟩ rfl
  show some (((rsM 1 1 (LRs m t z e c) P E s).on.tell 1 t).after 4 none) = _
  rw [ht _ rfl]
  rfl
/-- Ahead of a turn. -/
def TopR (m : Int) (t : Nat) (M : Ms) : Prop := t = 0 ∧ M = rsM 1 0 [0, 1, m] [0] [] 4 ∨ ∃ p z e c, M = rsM 1 0 (LRs m p z e c) [(t : Int)] (uev t) (4 + 5 * (t : Int))
theorem re_start (m : Int) : Way [reF m] 4 (rsM 0 0 [] [] [] 0) (rsM 1 0 [0, 1, m] [0] [] 4) :=
  (((Way.one (re_i0 m)).more (re_i1 m)).more (re_i2 m)).more (re_i3 m)
/-- A turn up to its branch. -/
theorem re_turn (m : Int) (t : Nat) (ht : t < 1048576) {M : Ms} (h : TopR m t M) : ∃ p z, ∃ P, Way [reF m] 4 M (rsM 1 4 (LRs m p z ((t : Int) + 1) (doIW 15 ((t : Int) + 1) m)) P (uev (t + 1)) (4 + 5 * (t : Int) + 4)) := by
  rcases h with ⟨rfl, rfl⟩ | ⟨p, z, e, c, rfl⟩
  · exact ⟨0, 0, [0], (((Way.one (re_s0 m)).more (re_s1 m)).more (re_s2 m)).more (re_s3 m)⟩
  · rw [uev_more]
    have hE : (uev t).length < 1048576 := by rw [uev_len]; exact ht
    generalize uev t = E at hE ⊢
    have hs : 0 ≤ 4 + 5 * (t : Int) ∧ 4 + 5 * (t : Int) ≤ 90000000 := by omega
    obtain ⟨s, hS⟩ : ∃ s, s = 4 + 5 * (t : Int) := ⟨_, rfl⟩
    have e4 : s + 4 = s + 1 + 1 + 1 + 1 := by omega
    rw [← hS] at hs ⊢
    rw [e4]
    have ht0 : 0 ≤ (t : Int) ∧ (t : Int) ≤ 100000000 := by omega
    generalize (t : Int) = y at *
    have h0 := re_g0 m p z e c y [] E s (by omega)
    have h1 := re_g1 m p z e c y [y] E (s + 1) (by omega) hE
    have h2 := re_g2 m p z e c y [y] (E ++ [(1, y)]) (s + 1 + 1) (by omega)
    have h3 := re_g3 m y z e c (y + 1) [y] (E ++ [(1, y)]) (s + 1 + 1 + 1) (by omega)
    rw [doIW_incR ht0] at h2
    exact ⟨y, z, [y], (((Way.one h0).more h1).more h2).more h3⟩
theorem re_tops (m : Int) : ∀ t : Nat, t ≤ 1048576 → (t = 0 ∨ (t : Int) < m) → ∃ M, TopR m t M ∧ Way [reF m] (4 + 5 * t) (rsM 0 0 [] [] [] 0) M := by
  intro t
  induction t with
  | zero => exact fun _ _ => ⟨_, .inl ⟨rfl, rfl⟩, re_start m⟩
  | succ t ih =>
    intro ht hm
    obtain ⟨M, h1, h2⟩ := ih (by omega) (by omega)
    obtain ⟨p, z, P, h3⟩ := re_turn m t (by omega) h1
    rw [doIW_lt (by omega)] at h3
    have h4 := re_g4 m p z 0 0 ((t : Int) + 1) P (uev (t + 1)) (4 + 5 * (t : Int) + 4) (by omega)
    refine ⟨_, .inr ⟨p, z, (t : Int) + 1, 1, ?_⟩, h2.trans (h3.more h4)⟩
    have e1 : 4 + 5 * (t : Int) + 4 + 1 = 4 + 5 * ((t + 1 : Nat) : Int) := by omega
    have e2 : (t : Int) + 1 = ((t + 1 : Nat) : Int) := by omega
    rw [e1, e2]
/-- SSARunRests' run, where it panics and where it rests. -/
theorem re_panics (n : Nat) (h1 : 1 ≤ n) (hn : n ≤ 1048576) : ∃ N, Way [reF (n : Int)] (5 + 5 * n) (rsM 0 0 [] [] [] 0) (rsP (n : Int) N (uev n) (5 + 5 * (n : Int))) := by
  obtain ⟨t, rfl⟩ : ∃ t, n = t + 1 := ⟨n - 1, by omega⟩
  obtain ⟨M, g1, g2⟩ := re_tops ((t + 1 : Nat) : Int) t (by omega) (by omega)
  obtain ⟨p, z, P, g3⟩ := re_turn ((t + 1 : Nat) : Int) t (by omega) g1
  rw [doIW_ge (by omega)] at g3
  have g4 := re_g4n ((t + 1 : Nat) : Int) p z 0 0 ((t : Int) + 1) P (uev (t + 1)) (4 + 5 * (t : Int) + 4) (by omega)
  have g5 := re_p ((t + 1 : Nat) : Int) p z ((t : Int) + 1) 0 0 [] (uev (t + 1)) (4 + 5 * (t : Int) + 4 + 1) (by omega)
  have z := g2.trans ((g3.more g4).more g5)
  have e1 : 5 + 5 * (t + 1) = 4 + 5 * t + (4 + 1 + 1) := by omega
  have e2 : 5 + 5 * ((t + 1 : Nat) : Int) = 4 + 5 * (t : Int) + 4 + 1 + 1 := by omega
  rw [e1, e2]
  exact ⟨_, z⟩
theorem re_rests (m : Int) (T : Nat) (hT : T = 1048576) (hm : (1048576 : Int) < m) : ∃ M1 N P, Way [reF m] (5 + 5 * T) (rsM 0 0 [] [] [] 0) M1 ∧ StepsTo [reF m] M1 false (rsR N P (uev T) (5 + 5 * (T : Int))) := by
  obtain ⟨M, g1, g2⟩ := re_tops m T (by omega) (by omega)
  rcases g1 with ⟨e, _⟩ | ⟨p, z, e, c, rfl⟩
  · omega
  have g3 := re_g0 m p z e c (T : Int) [] (uev T) (4 + 5 * (T : Int)) (by omega)
  have g4 := re_r m p z e c (T : Int) [(T : Int)] (uev T) (4 + 5 * (T : Int) + 1) (by omega) (by rw [uev_len]; exact hT)
  have e1 : 5 + 5 * T = 4 + 5 * T + 1 := by omega
  have e2 : 5 + 5 * (T : Int) = 4 + 5 * (T : Int) + 1 := by omega
  rw [e1, e2]
  exact ⟨_, _, _, g2.more g3, g4⟩
end Go.Proofs.YtfbkopjncmkbiabGreatDoor
