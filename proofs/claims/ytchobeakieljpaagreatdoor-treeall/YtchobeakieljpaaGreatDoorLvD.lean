import Derived.Test.YtchobeakieljpaaGreatDoorLzG
import Derived.Test.YtchobeakieljpaaGreatDoorTvG
import Derived.Test.YtchobeakieljpaaGreatDoorLuB
import Derived.Test.YtchobeakieljpaaGreatDoorTvF
import Derived.Test.YtchobeakieljpaaGreatDoorLuN
import Derived.Test.YtchobeakieljpaaGreatDoorLuE
set_option linter.unusedVariables false
set_option linter.unusedSimpArgs false
namespace Go.Proofs.YtchobeakieljpaaGreatDoor
open Go.ChangeShapes Go.WideShapes Go.ChangeAt Go.RowKit

theorem r_step {N k p t r o S'} (h : RunsOKx N k ⟨t, p :: r, o⟩ S') : ∃ k', k = k' + 1 ∧ RunsOKx N k' (pstep N ⟨t, p :: r, o⟩) S' := by
  rcases h.inv with ⟨_, _, e⟩ | ⟨n, p', r', rfl, e, _, _, h'⟩
  · cases e
  · exact ⟨n, rfl, h'⟩
theorem r_f0 {N k p t r o S'} (hp : p.form = 0) (h : RunsOKx N k ⟨t, p :: r, o⟩ S') : ∃ k', k' ≤ k ∧ RunsOKx N k' ⟨t ++ p.text, r, o⟩ S' := by
  obtain ⟨k', rfl, h'⟩ := r_step h
  refine ⟨k', by omega, ?_⟩
  simpa [pstep, hp] using h'
theorem r_f3 {N k p t r o S'} (hp : p.form = 3) (h : RunsOKx N k ⟨t, p :: r, o⟩ S') : ∃ k', k' ≤ k ∧ RunsOKx N k' ⟨t ++ tabs o, r, o⟩ S' := by
  obtain ⟨k', rfl, h'⟩ := r_step h
  refine ⟨k', by omega, ?_⟩
  simpa [pstep, hp] using h'
theorem r_ep {N k t r o S'} (h : RunsOKx N k ⟨t, ep :: r, o⟩ S') : ∃ k', k' ≤ k ∧ RunsOKx N k' ⟨t ++ (tabs (o - 1) ++ [125]), r, o - 1⟩ S' := by
  obtain ⟨k', rfl, h'⟩ := r_step h
  refine ⟨k', by omega, ?_⟩
  simpa [pstep, ep] using h'
theorem r_xp {N k x t r o S'} (h : RunsOKx N k ⟨t, xp x :: r, o⟩ S') : ∃ k', k' ≤ k ∧ RunsOKx N k' ⟨t ++ [40], wp x :: tp [41] :: r, o⟩ S' := by
  obtain ⟨k', rfl, h'⟩ := r_step h
  have h2 : RunsOKx N k' ⟨t, tp [40] :: wp x :: tp [41] :: r, o⟩ S' := by simpa [pstep, xp] using h'
  obtain ⟨k2, hk2, h3⟩ := r_f0 rfl h2
  exact ⟨k2, by omega, h3⟩
theorem r_wp {N k x t r o S'} (h : RunsOKx N k ⟨t, wp x :: r, o⟩ S') : ∃ k', k' < k ∧ RunsOKx N k' ⟨t, ndParts N (ndOf N x) ++ r, if (ndOf N x).kind = 3 then o + 1 else o⟩ S' := by
  obtain ⟨k', rfl, h'⟩ := r_step h
  refine ⟨k', by omega, ?_⟩
  have e : pstep N ⟨t, wp x :: r, o⟩ = ⟨t, ndParts N (ndOf N x) ++ r, if (ndOf N x).kind = 3 then o + 1 else o⟩ := by by_cases hk : (ndOf N x).kind = 3 <;> simp [pstep, wp, hk]
  rw [e] at h'
  exact h'
theorem r_pre {N : List Nd} {S' : Ps} : ∀ (l r : List Pt) (k : Nat) (t : List UInt8) (o : Nat), (∀ p ∈ l, p.form = 0 ∨ p.form = 3) → RunsOKx N k ⟨t, l ++ r, o⟩ S' → ∃ k', k' ≤ k ∧ RunsOKx N k' ⟨t ++ ptx o l, r, o⟩ S'
  | [], r, k, t, o, _, h => ⟨k, Nat.le_refl _, by simpa [ptx] using h⟩
  | p :: l, r, k, t, o, hl, h => by
    rcases hl p (by simp) with hp | hp
    · obtain ⟨k1, h1, h2⟩ := r_f0 hp h
      obtain ⟨k2, h3, h4⟩ := r_pre l r k1 _ o (fun q hq => hl q (by simp [hq])) h2
      exact ⟨k2, by omega, by simpa [ptx, hp] using h4⟩
    · obtain ⟨k1, h1, h2⟩ := r_f3 hp h
      obtain ⟨k2, h3, h4⟩ := r_pre l r k1 _ o (fun q hq => hl q (by simp [hq])) h2
      exact ⟨k2, by omega, by simpa [ptx, hp] using h4⟩
def F03 (l : List Pt) : Prop := ∀ p ∈ l, p.form = 0 ∨ p.form = 3
theorem F03.ite {c : Prop} [Decidable c] {a b : List Pt} (ha : F03 a) (hb : F03 b) : F03 (if c then a else b) := by split <;> assumption
theorem F03.app {a b : List Pt} (ha : F03 a) (hb : F03 b) : F03 (a ++ b) := fun p hp => by
  rcases List.mem_append.1 hp with h | h
  · exact ha p h
  · exact hb p h
theorem F03.nil : F03 [] := fun p hp => by cases hp
theorem F03.tp {s : List UInt8} {l : List Pt} (h : F03 l) : F03 (tp s :: l) := fun p hp => by
  rcases List.mem_cons.1 hp with rfl | hp
  · exact .inl rfl
  · exact h p hp
theorem F03.np {l : List Pt} (h : F03 l) : F03 (np :: l) := fun p hp => by
  rcases List.mem_cons.1 hp with rfl | hp
  · exact .inr rfl
  · exact h p hp
theorem pre_forms (n : Nd) (i : Nat) : ∀ p ∈ pre n i, p.form = 0 ∨ p.form = 3 := by
  show F03 (pre n i)
  unfold pre
  repeat' (first | exact F03.nil | apply F03.ite | apply F03.app | apply F03.tp | apply F03.np)
def F0 (l : List Pt) : Prop := ∀ p ∈ l, p.form = 0
theorem F0.ite {c : Prop} [Decidable c] {a b : List Pt} (ha : F0 a) (hb : F0 b) : F0 (if c then a else b) := by split <;> assumption
theorem F0.nil : F0 [] := fun p hp => by cases hp
theorem F0.tp {s : List UInt8} {l : List Pt} (h : F0 l) : F0 (tp s :: l) := fun p hp => by
  rcases List.mem_cons.1 hp with rfl | hp
  · rfl
  · exact h p hp
theorem etx_tp (o : Nat) : ∀ (l : List Pt), (∀ p ∈ l, p.form = 0) → etx o l = ptx o l
  | [], _ => rfl
  | p :: l, h => by
    rw [etx, ptx, etx_tp o l (fun q hq => h q (by simp [hq])), if_pos (h p (by simp)), if_pos (h p (by simp))]
theorem tl_forms (n : Nd) (h : n.kind ≠ 3) : ∀ p ∈ tl n, p.form = 0 := by
  show F0 (tl n)
  unfold tl
  rw [if_neg h]
  repeat' (first | exact F0.nil | apply F0.ite | apply F0.tp)
theorem r_tl {N k n t r o S'} (h : RunsOKx N k ⟨t, tl n ++ r, o⟩ S') : ∃ k', k' ≤ k ∧ RunsOKx N k' ⟨t ++ etx o (tl n), r, if n.kind = 3 then o - 1 else o⟩ S' := by
  by_cases hk : n.kind = 3
  · rw [if_pos hk]
    by_cases hkk : n.kids = []
    · have e : tl n = [tp [123], ep] := by simp [tl, hk, hkk]
      rw [e] at h ⊢
      obtain ⟨k1, h1, h2⟩ := r_f0 (p := tp [123]) rfl h
      obtain ⟨k2, h3, h4⟩ := r_ep h2
      exact ⟨k2, by omega, by simpa [etx, tp, ep] using h4⟩
    · have e : tl n = [ep] := by simp [tl, hk, hkk]
      rw [e] at h ⊢
      obtain ⟨k2, h3, h4⟩ := r_ep h
      exact ⟨k2, by omega, by simpa [etx, ep] using h4⟩
  · rw [if_neg hk, etx_tp o _ (tl_forms n hk)]
    exact r_pre _ _ _ _ _ (fun p hp => .inl (tl_forms n hk p hp)) h
theorem r_len {N : List Nd} : ∀ {k s S'}, RunsOKx N k s S' → s.text.length ≤ S'.text.length := by
  intro k
  induction k with
  | zero =>
    intro s S' h
    rcases h.inv with ⟨_, rfl, _⟩ | ⟨n, p, r, e, _⟩
    · exact Nat.le_refl _
    · omega
  | succ k ih =>
    intro s S' h
    rcases h.inv with ⟨e, _⟩ | ⟨n, p, r, e, e2, _, _, h'⟩
    · omega
    · have hn : n = k := by omega
      subst hn
      have := ih h'
      refine Nat.le_trans ?_ this
      unfold pstep
      rw [e2]
      simp only
      repeat' split
      all_goals simp
      all_goals omega
/-- What closes a kid. -/
def clx (N : List Nd) (n : Nd) (j : Nat) : List UInt8 := if 0 < j ∧ ard N n (j - 1) = true then [41] else []
def clo (N : List Nd) (n : Nd) (j : Nat) : List Pt := if 0 < j ∧ ard N n (j - 1) = true then [tp [41]] else []
/-- What is still to be printed of frames. -/
def RP (N : List Nd) : List (Int × Nat) → List Pt
  | [] => []
  | (f, j) :: S => clo N (ndOf N f) j ++ (segs N (ndOf N f) j ++ RP N S)
/-- The open blocks of frames. -/
def nbk (N : List Nd) : List (Int × Nat) → Nat
  | [] => 0
  | (f, _) :: S => (if (ndOf N f).kind = 3 then 1 else 0) + nbk N S
/-- The blocks that are told open, ahead of a step. -/
def bks (N : List Nd) : List (Int × Nat) → Nat
  | [] => 0
  | (f, j) :: S => (if (ndOf N f).kind = 3 ∧ j ≠ 0 then 1 else 0) + nbk N S
theorem bks_adv {N : List Nd} {S : List (Int × Nat)} (h : ∀ p ∈ S, 1 ≤ p.2) : bks N S = nbk N S := by
  cases S with
  | nil => rfl
  | cons p S =>
    have := h p (by simp)
    obtain ⟨f, j⟩ := p
    simp only at this
    simp only [bks, nbk]
    have hj : j ≠ 0 := by omega
    simp [hj]
theorem nbk_le (N : List Nd) : ∀ S, nbk N S ≤ S.length
  | [] => Nat.le_refl _
  | (f, j) :: S => by
    have := nbk_le N S
    simp only [nbk, List.length_cons]
    split <;> omega
theorem r_clo {N k n j t r o S'} (h : RunsOKx N k ⟨t, clo N n j ++ r, o⟩ S') : ∃ k', k' ≤ k ∧ RunsOKx N k' ⟨t ++ clx N n j, r, o⟩ S' := by
  unfold clo at h
  unfold clx
  split at h
  · rename_i hc
    rw [if_pos hc]
    exact r_f0 (p := tp [41]) rfl h
  · rename_i hc
    rw [if_neg hc]
    exact ⟨k, Nat.le_refl _, by simpa using h⟩
/-- A kid is begun. -/
theorem r_push {N k f j t S o S'} (hj : j < (ndOf N f).kids.length) (hv : VK (ndOf N ((ndOf N f).kids.getD j 0)).kind) (hf : kfit N (ndOf N ((ndOf N f).kids.getD j 0)) = true) (ho : o = nbk N ((f, j) :: S))
    (h : RunsOKx N k ⟨t, segs N (ndOf N f) j ++ RP N S, o⟩ S') : ∃ k', k' < k ∧ RunsOKx N k' ⟨t ++ (ptx o (pre (ndOf N f) j) ++ if ard N (ndOf N f) j = true then [40] else []), RP N (((ndOf N f).kids.getD j 0, 0) :: (f, j + 1) :: S), nbk N (((ndOf N f).kids.getD j 0, 0) :: (f, j + 1) :: S)⟩ S' := by
  rw [segs_next hj, List.append_assoc] at h
  obtain ⟨k1, h1, h2⟩ := r_pre _ _ _ _ _ (pre_forms _ _) h
  have key : ∃ k2, k2 ≤ k1 ∧ RunsOKx N k2 ⟨t ++ (ptx o (pre (ndOf N f) j) ++ if ard N (ndOf N f) j = true then [40] else []), wp ((ndOf N f).kids.getD j 0) :: (clo N (ndOf N f) (j + 1) ++ (segs N (ndOf N f) (j + 1) ++ RP N S)), o⟩ S' := by
    unfold kp at h2
    by_cases ha : ard N (ndOf N f) j = true
    · rw [if_pos ha] at h2
      obtain ⟨k2, h3, h4⟩ := r_xp h2
      refine ⟨k2, h3, ?_⟩
      have e : clo N (ndOf N f) (j + 1) = [tp [41]] := by simp [clo, ha]
      rw [e]
      simpa [ha] using h4
    · rw [if_neg ha] at h2
      refine ⟨k1, Nat.le_refl _, ?_⟩
      have e : clo N (ndOf N f) (j + 1) = [] := by simp [clo, ha]
      rw [e]
      simpa [ha] using h2
  obtain ⟨k2, h3, h4⟩ := key
  obtain ⟨k3, h5, h6⟩ := r_wp h4
  refine ⟨k3, by omega, ?_⟩
  rw [parts_eq hv hf] at h6
  have e0 : clo N (ndOf N ((ndOf N f).kids.getD j 0)) 0 = [] := by simp [clo]
  have e1 : nbk N (((ndOf N f).kids.getD j 0, 0) :: (f, j + 1) :: S) = if (ndOf N ((ndOf N f).kids.getD j 0)).kind = 3 then o + 1 else o := by
    rw [ho]
    simp only [nbk]
    split <;> omega
  rw [e1]
  simp only [RP, e0, List.nil_append]
  exact h6
/-- A node is done. -/
theorem r_pop {N k f j t S o S'} (hj : (ndOf N f).kids.length ≤ j) (ho : o = nbk N ((f, j) :: S)) (h : RunsOKx N k ⟨t, segs N (ndOf N f) j ++ RP N S, o⟩ S') : ∃ k', k' ≤ k ∧ RunsOKx N k' ⟨t ++ etx o (tl (ndOf N f)), RP N S, nbk N S⟩ S' := by
  rw [segs_end hj] at h
  obtain ⟨k1, h1, h2⟩ := r_tl h
  refine ⟨k1, h1, ?_⟩
  have e : nbk N S = if (ndOf N f).kind = 3 then o - 1 else o := by
    rw [ho]
    simp only [nbk]
    split <;> omega
  rw [e]
  exact h2
theorem r_start {N k f t S'} (hv : VK (ndOf N f).kind) (hf : kfit N (ndOf N f) = true) (h : RunsOKx N k ⟨t, [wp f], 0⟩ S') : ∃ k', k' ≤ k ∧ RunsOKx N k' ⟨t, RP N [(f, 0)], nbk N [(f, 0)]⟩ S' := by
  obtain ⟨k1, h1, h2⟩ := r_wp h
  refine ⟨k1, by omega, ?_⟩
  rw [parts_eq hv hf] at h2
  have e0 : clo N (ndOf N f) 0 = [] := by simp [clo]
  have e1 : nbk N [(f, 0)] = if (ndOf N f).kind = 3 then 0 + 1 else 0 := by simp [nbk]
  rw [e1]
  simp only [RP, e0, List.nil_append]
  exact h2
end Go.Proofs.YtchobeakieljpaaGreatDoor
namespace Go.Proofs.YtchobeakieljpaaGreatDoor
open Go.ChangeShapes Go.WideShapes Go.ChangeAt Go.RowKit

theorem rAhead_all (w : World) (no : Option Addr) (nc nn : Nat) (fo : Option Addr) (fc fn : Nat) (N : List Nd) (nd : Nd) (ka : Option Addr) (kc kl : Nat) (s : ByteArray) (i d p : Nat) (H : AhE w no nc nn N nd ka kc kl s i d p) (hv : VK nd.kind) (hkf : kfit N nd = true) (o : Nat) (ho : o ≤ 100000000) :
    Calls Tryz.prog 24 #[.agg #[.slice no nn nc, .slice fo fn fc], .agg #[.int .i64 nd.kind, .int .i64 nd.at_, .int .i64 nd.wh, .int .i64 nd.close, .int .i64 nd.decl, .int .i64 nd.typ, .int .i64 nd.op, .int .i64 nd.val, .string s, .slice ka kl kc], .int .i64 i, .int .i64 o] w fun e w' => e = .returned (.string (bs (ptx o (pre nd i) ++ if ard N nd i = true then [40] else []))) ∧ Below w.heap.size w w' := by
  obtain ⟨l0, l1, l2, l3, l4, l5, l6⟩ := kids_len hkf
  have hi := H.ei
  have hkl := H.ekl
  rw [H.ed, H.ep]
  have hk26 : nd.kind = 1 ∨ nd.kind = 3 ∨ nd.kind = 4 ∨ nd.kind = 5 ∨ nd.kind = 6 ∨ nd.kind = 7 ∨ nd.kind = 8 ∨ nd.kind = 9 ∨ nd.kind = 10 ∨ nd.kind = 11 ∨ nd.kind = 12 ∨ nd.kind = 25 ∨ nd.kind = 27 ∨ nd.kind = 28 ∨ nd.kind = 29 ∨ nd.kind = 30 ∨ nd.kind = 31 ∨ (nd.kind = 2 ∨ nd.kind = 13 ∨ nd.kind = 14 ∨ nd.kind = 20 ∨ nd.kind = 21 ∨ nd.kind = 22 ∨ nd.kind = 23 ∨ nd.kind = 24 ∨ nd.kind = 26) := by
    rcases hv with h | h <;> omega
  rcases hk26 with hk | hk | hk | hk | hk | hk | hk | hk | hk | hk | hk | hk | hk | hk | hk | hk | hk | hk
  · rw [hk]
    by_cases h0 : i = 0
    · by_cases h1 : i + 1 = nd.kids.length
      · by_cases h2 : d = 0
        · exact ah1c w no nc nn fo fc fn N nd ka kc kl s i d p H hk o ho h0 h1 h2 _ rfl
        · exact ah1d w no nc nn fo fc fn N nd ka kc kl s i d p H hk o ho h0 h1 h2 _ rfl
      · exact ah1a w no nc nn fo fc fn N nd ka kc kl s i d p H hk o ho h0 (by omega) _ rfl
    · by_cases h1 : i + 1 = nd.kids.length
      · by_cases h2 : d = 0
        · exact ah1e w no nc nn fo fc fn N nd ka kc kl s i d p H hk o ho h0 h1 h2 _ rfl
        · exact ah1f w no nc nn fo fc fn N nd ka kc kl s i d p H hk o ho h0 h1 h2 _ rfl
      · exact ah1b w no nc nn fo fc fn N nd ka kc kl s i d p H hk o ho h0 h1 _ rfl
  · rw [hk]
    by_cases h0 : i = 0
    · exact ah3a w no nc nn fo fc fn N nd ka kc kl s i d p H hk o ho h0 _ rfl
    · exact ah3b w no nc nn fo fc fn N nd ka kc kl s i d p H hk o ho h0 _ rfl
  · rw [hk]; exact ah4 w no nc nn fo fc fn N nd ka kc kl s i d p H hk o ho _ rfl
  · rw [hk]; exact ah5 w no nc nn fo fc fn N nd ka kc kl s i d p H hk o ho _ rfl
  · rw [hk]
    have := l2 (.inl hk)
    by_cases h0 : i = 0
    · exact ah6a w no nc nn fo fc fn N nd ka kc kl s i d p H hk o ho h0 _ rfl
    · exact ah6b w no nc nn fo fc fn N nd ka kc kl s i d p H hk o ho (by omega) _ rfl
  · rw [hk]; exact ah7 w no nc nn fo fc fn N nd ka kc kl s i d p H hk o ho _ rfl
  · rw [hk]; exact ah8 w no nc nn fo fc fn N nd ka kc kl s i d p H hk o ho _ rfl
  · rw [hk]; exact ah9 w no nc nn fo fc fn N nd ka kc kl s i d p H hk o ho _ rfl
  · rw [hk]
    have := l4 hk
    by_cases h0 : i = 0
    · exact ah10a w no nc nn fo fc fn N nd ka kc kl s i d p H hk o ho h0 _ rfl
    · by_cases h1 : i = 1
      · exact ah10b w no nc nn fo fc fn N nd ka kc kl s i d p H hk o ho h1 _ rfl
      · exact ah10c w no nc nn fo fc fn N nd ka kc kl s i d p H hk o ho (by omega) _ rfl
  · rw [hk]
    have := l5 hk
    by_cases h0 : i = 0
    · exact ah11a w no nc nn fo fc fn N nd ka kc kl s i d p H hk o ho h0 _ rfl
    · exact ah11b w no nc nn fo fc fn N nd ka kc kl s i d p H hk o ho (by omega) _ rfl
  · rw [hk]; exact ah12 w no nc nn fo fc fn N nd ka kc kl s i d p H hk o ho _ rfl
  · rw [hk]
    by_cases h0 : i = 0
    · exact ah25a w no nc nn fo fc fn N nd ka kc kl s i d p H hk o ho h0 _ rfl
    · exact ah25b w no nc nn fo fc fn N nd ka kc kl s i d p H hk o ho h0 _ rfl
  · rw [hk]; exact ah27 w no nc nn fo fc fn N nd ka kc kl s i d p H hk o ho _ rfl
  · rw [hk]; exact ah28 w no nc nn fo fc fn N nd ka kc kl s i d p H hk o ho _ rfl
  · rw [hk]
    have := l2 (.inr (.inl hk))
    by_cases h0 : i = 0
    · exact ah29a w no nc nn fo fc fn N nd ka kc kl s i d p H hk o ho h0 _ rfl
    · exact ah29b w no nc nn fo fc fn N nd ka kc kl s i d p H hk o ho (by omega) _ rfl
  · rw [hk]; exact ah30 w no nc nn fo fc fn N nd ka kc kl s i d p H hk o ho _ rfl
  · rw [hk]
    have := l2 (.inr (.inr hk))
    by_cases h0 : i = 0
    · exact ah31a w no nc nn fo fc fn N nd ka kc kl s i d p H hk o ho h0 _ rfl
    · exact ah31b w no nc nn fo fc fn N nd ka kc kl s i d p H hk o ho (by omega) _ rfl
  · have := l0 hk
    omega
theorem rBehind_all (w : World) (N : List Nd) (nd : Nd) (ka : Option Addr) (kc kl : Nat) (s : ByteArray) (d v : Nat) (H : BhE nd s kl d v) (hv : VK nd.kind) (o : Nat) (ho : o ≤ 100000000) (ho1 : nd.kind = 3 → 1 ≤ o) :
    Calls Tryz.prog 25 #[.agg #[.int .i64 nd.kind, .int .i64 nd.at_, .int .i64 nd.wh, .int .i64 nd.close, .int .i64 nd.decl, .int .i64 nd.typ, .int .i64 nd.op, .int .i64 nd.val, .string s, .slice ka kl kc], .int .i64 o] w fun e w' => e = .returned (.string (bs (etx o (tl nd)))) ∧ Below w.heap.size w w' := by
  rw [H.ed, H.ev]
  have hk26 : nd.kind = 1 ∨ nd.kind = 2 ∨ nd.kind = 3 ∨ nd.kind = 4 ∨ nd.kind = 5 ∨ nd.kind = 6 ∨ nd.kind = 7 ∨ nd.kind = 8 ∨ nd.kind = 9 ∨ nd.kind = 10 ∨ nd.kind = 11 ∨ nd.kind = 12 ∨ nd.kind = 13 ∨ nd.kind = 14 ∨ nd.kind = 20 ∨ nd.kind = 21 ∨ nd.kind = 22 ∨ nd.kind = 23 ∨ nd.kind = 24 ∨ nd.kind = 25 ∨ nd.kind = 26 ∨ nd.kind = 27 ∨ nd.kind = 28 ∨ nd.kind = 29 ∨ nd.kind = 30 ∨ nd.kind = 31 := by
    rcases hv with h | h <;> omega
  rcases hk26 with hk | hk | hk | hk | hk | hk | hk | hk | hk | hk | hk | hk | hk | hk | hk | hk | hk | hk | hk | hk | hk | hk | hk | hk | hk | hk
  · rw [hk]; exact bh1 w nd ka kc kl s d v H hk o ho
  · rw [hk]; exact bh2 w nd ka kc kl s d v H hk o ho
  · have h1 := ho1 hk
    rw [hk]
    by_cases hn : nd.kids = []
    · exact bh3a w nd ka kc kl s d v H hk o ho hn h1
    · exact bh3b w nd ka kc kl s d v H hk o ho hn h1
  · rw [hk]
    by_cases hn : nd.kids = []
    · exact bh4a w nd ka kc kl s d v H hk o ho hn
    · exact bh4b w nd ka kc kl s d v H hk o ho hn
  · rw [hk]; exact bh5 w nd ka kc kl s d v H hk o ho
  · rw [hk]; exact bh6 w nd ka kc kl s d v H hk o ho
  · rw [hk]; exact bh7 w nd ka kc kl s d v H hk o ho
  · rw [hk]; exact bh8 w nd ka kc kl s d v H hk o ho
  · rw [hk]; exact bh9 w nd ka kc kl s d v H hk o ho
  · rw [hk]; exact bh10 w nd ka kc kl s d v H hk o ho
  · rw [hk]; exact bh11 w nd ka kc kl s d v H hk o ho
  · rw [hk]
    by_cases hn : nd.kids = []
    · exact bh12a w nd ka kc kl s d v H hk o ho hn
    · exact bh12b w nd ka kc kl s d v H hk o ho hn
  · rw [hk]; exact bh13 w nd ka kc kl s d v H hk o ho
  · rw [hk]; exact bh14 w nd ka kc kl s d v H hk o ho
  · rw [hk]; exact bh20 w nd ka kc kl s d v H hk o ho
  · rw [hk]; exact bh21 w nd ka kc kl s d v H hk o ho
  · rw [hk]; exact bh22 w nd ka kc kl s d v H hk o ho
  · rw [hk]; exact bh23 w nd ka kc kl s d v H hk o ho
  · rw [hk]; exact bh24 w nd ka kc kl s d v H hk o ho
  · rw [hk]
    by_cases hn : nd.kids = []
    · exact bh25a w nd ka kc kl s d v H hk o ho hn
    · exact bh25b w nd ka kc kl s d v H hk o ho hn
  · rw [hk]; exact bh26 w nd ka kc kl s d v H hk o ho
  · rw [hk]; exact bh27 w nd ka kc kl s d v H hk o ho
  · rw [hk]; exact bh28 w nd ka kc kl s d v H hk o ho
  · rw [hk]; exact bh29 w nd ka kc kl s d v H hk o ho
  · rw [hk]; exact bh30 w nd ka kc kl s d v H hk o ho
  · rw [hk]; exact bh31 w nd ka kc kl s d v H hk o ho
end Go.Proofs.YtchobeakieljpaaGreatDoor
namespace Go.Proofs.YtchobeakieljpaaGreatDoor
open Go.ChangeShapes Go.WideShapes Go.ChangeAt Go.RowKit

/-- append(c, s...) of a string. -/
theorem wpList_append_strP {w : World} {ops : Array Oper} {rest : List Oper} {op : Oper} {a : Act} {Q : Exit → Act → World → Prop} (hgd : op.guard = none) (s x : Operand)
    (ho : op.op = .call { callee := .builtin .append, args := #[s, x], argTypes := #[30, 9] })
    (B : Nat) (v : Value) (n : Nat) (M : List UInt8) (hs : a.eval s = v) (hown : OwnB w B v n M) (u : ByteArray) (X : List UInt8) (hx : a.eval x = .string u) (hu : u = bs X)
    (hl : n + X.length ≤ 1000000000) (hB : B ≤ w.heap.size)
    (h : ∀ v' w', OwnB w' B v' (n + X.length) (M ++ X) → w.grownBy w' v.ownBlock → wpList Tryz.prog ops Q rest (a.put op.dst v') w') : wpList Tryz.prog ops Q (op :: rest) a w := by
  subst hu
  obtain ⟨i0, hi, hz0, hz1, hz2⟩ := info_parts infoB
  refine Lib.wpList_append_own_string _ hgd s x 30 9 ho B 5 i0 Tryz.underlying30 Tryz.underlying9 hi hz0 hz1 hz2 v n (bvs M) hs hown.out (bs X) hx (by rw [bs_size]; unfold maxLen; omega) (by rw [bs_size]; omega) hB ?_
  intro v' w' h1 h2 _
  rw [bs_size, strCells_bs] at h1
  exact h v' w' ⟨by simp; exact hown.len, by rw [bvs_append]; exact h1⟩ h2
/-- What Check leaves of a node. -/
structure NdF (N : List Nd) (nd : Nd) : Prop where
  name : nd.name.length ≤ 64
  decl : ∃ d : Nat, nd.decl = (d : Int) ∧ d < 4
  op : ∃ p : Nat, nd.op = (p : Int) ∧ p < 23
  val : ∃ v : Nat, nd.val = (v : Int) ∧ v ≤ 9223372036854775807
  vk : VK nd.kind
  kf : kfit N nd = true
theorem nmOk_len {S : List UInt8} (h : nmOk S = true) : S.length ≤ 64 := by
  simp only [nmOk, Bool.and_eq_true, decide_eq_true_eq] at h
  exact h.1.1.1
theorem may_rng (k : Int) : 0 ≤ (mayOf k).d0 ∧ (mayOf k).d1 ≤ 3 ∧ 0 ≤ (mayOf k).o0 ∧ (mayOf k).o1 ≤ 22 := by
  unfold mayOf
  simp only
  repeat' split
  all_goals simp
theorem nd_facts {T : Tr} (hc : chk T = true) (hv : ∀ n ∈ T.nodes, n.val ≤ 9223372036854775807) (i : Nat) (hi : i < T.nodes.length) : NdF T.nodes T.nodes[i] := by
  obtain ⟨h1, h2, h3⟩ := chk_stk hc
  obtain ⟨f1, f2⟩ := h2 _ (List.getElem_mem hi)
  have hvk := chk_vk hc i hi
  have hval := hv _ (List.getElem_mem hi)
  generalize T.nodes[i] = nd at *
  obtain ⟨_, _, d, _, o, v, n⟩ := ff_iff.1 f1
  obtain ⟨r1, r2, r3, r4⟩ := may_rng nd.kind
  refine ⟨?_, ⟨nd.decl.toNat, by omega, by omega⟩, ⟨nd.op.toNat, by omega, by omega⟩, ⟨nd.val.toNat, ?_, ?_⟩, hvk, f2⟩
  · unfold nmFits at n
    split at n
    · exact nmOk_len n
    · have : nd.name = [] := by simpa using n
      simp [this]
  · rcases v with v | ⟨_, v⟩ <;> omega
  · omega
theorem p_len {N : List Nd} : ∀ {F s S'}, PrintsOKx N F s S' → s.text.length ≤ S'.text.length := by
  intro F
  induction F with
  | nil => intro s S' h; rw [h.done]; exact Nat.le_refl _
  | cons f F ih =>
    intro s S' h
    obtain ⟨k, s1, h1, _, h2⟩ := h.inv
    have h3 := r_len h1
    simp only at h3
    exact Nat.le_trans h3 (ih h2)
/-- The state of the document's printing. -/
structure PK (wr : World) (B : Nat) (N : List Nd) (nn D : Nat) (vo vn vx : Value) (m k : Nat) (S : List (Int × Nat)) (O : List UInt8) : Prop where
  oo : OwnB wr B vo m O
  on : OwnI wr B vn k (S.map Prod.fst).reverse
  ox : OwnI wr B vx k (S.map fun p => (p.2 : Int)).reverse
  a3 : ∀ g, vn.ownBlock = some g → vx.ownBlock ≠ some g
  frs : Frs (N.map Nd.kids) nn D S
  adv : ∀ p ∈ S.tail, 1 ≤ p.2
  low : Lwr (N.map Nd.kids)
theorem PK.keep {wr w1 : World} {B N nn D vo vn vx m k S O} (h : PK wr B N nn D vo vn vx m k S O) (hb : Below wr.heap.size wr w1) : PK w1 B N nn D vo vn vx m k S O :=
  ⟨h.oo.keep hb, h.on.keep hb, h.ox.keep hb, h.a3, h.frs, h.adv, h.low⟩
theorem PK.grow {wr w1 : World} {B N nn D vo vn vx m k S O vo' m' O'} (h : PK wr B N nn D vo vn vx m k S O) (ho : OwnB w1 B vo' m' O') (hg : ∀ b, b < wr.heap.size → vo.ownBlock ≠ some b → w1.heap[b]? = wr.heap[b]?) : PK w1 B N nn D vo' vn vx m' k S O' :=
  ⟨ho, ⟨h.on.len, own_move h.on.out fun b hb => hg b (own_block h.on.out hb).2 (own_apart h.on.out h.oo.out (by decide) b hb)⟩, ⟨h.ox.len, own_move h.ox.out fun b hb => hg b (own_block h.ox.out hb).2 (own_apart h.ox.out h.oo.out (by decide) b hb)⟩, h.a3, h.frs, h.adv, h.low⟩
theorem PK.top {wr B N nn D vo vn vx m k S O} (h : PK wr B N nn D vo vn vx m k S O) (hk : 0 < k) : ∃ f j S', S = (f, j) :: S' ∧ k = S'.length + 1 := by
  have := h.on.len
  simp at this
  cases S with
  | nil => simp at this; omega
  | cons p S' => exact ⟨p.1, p.2, S', rfl, by simpa using this⟩
/-- The uppermost frame is left. -/
theorem PK.pop {wr : World} {na xa : Option Addr} {nc2 xc r B nn D m j : Nat} {N : List Nd} {f : Int} {vo : Value} {S : List (Int × Nat)} {O : List UInt8}
    (h : PK wr B N nn D vo (.slice na (r + 1) nc2) (.slice xa (r + 1) xc) m (r + 1) ((f, j) :: S) O) (hr : r = S.length) : PK wr B N nn D vo (.slice na r nc2) (.slice xa r xc) m r S O := by
  have n3 := h.on.take r (by omega)
  have x3 := h.ox.take r (by omega)
  simp only [List.map_cons, List.reverse_cons] at n3 x3
  rw [rev_take _ _ r (by simpa using hr)] at n3 x3
  refine ⟨h.oo, n3, x3, fun g h1 h2 => h.a3 g ((own_len na (r + 1) r nc2).trans h1) ((own_len xa (r + 1) r xc).trans h2), h.frs.2.2.2.2, fun p hp => ?_, h.low⟩
  exact h.adv p (List.mem_of_mem_tail hp)
/-- The number of the next kid is turned. -/
theorem PK.turn {wa : World} {B nn D m j xg xc r : Nat} {N : List Nd} {f : Int} {vo vn : Value} {S : List (Int × Nat)} {O : List UInt8} (h : PK wa B N nn D vo vn (.slice (some ⟨xg, 0, none⟩) (r + 1) xc) m (r + 1) ((f, j) :: S) O) (hr : r = S.length) :
    OwnI (wa.setCell ⟨xg, r, none⟩ (.int .i64 ((j : Int) + 1))) B (.slice (some ⟨xg, 0, none⟩) (r + 1) xc) (r + 1) ((S.map fun p => (p.2 : Int)).reverse ++ [(j : Int) + 1]) ∧ OwnI (wa.setCell ⟨xg, r, none⟩ (.int .i64 ((j : Int) + 1))) B vn (r + 1) (((f, j) :: S).map Prod.fst).reverse ∧ OwnB (wa.setCell ⟨xg, r, none⟩ (.int .i64 ((j : Int) + 1))) B vo m O := by
  refine ⟨?_, h.on.setNe (fun e => h.a3 xg e rfl), ⟨h.oo.len, own_move h.oo.out fun b hb => heap_set_other fun e => own_apart h.oo.out h.ox.out (by decide) b hb (by rw [e]; rfl)⟩⟩
  have x2 := h.ox.setAt r ((j : Int) + 1)
  simp only [List.map_cons, List.reverse_cons] at x2
  rw [rev_set (by simpa using hr)] at x2
  exact x2
/-- A kid is begun. -/
theorem PK.push {wa wc wd : World} {B nn D m j xg xc r : Nat} {N : List Nd} {f x : Int} {vo vn vn' vx' : Value} {S : List (Int × Nat)} {O : List UInt8}
    (h : PK wa B N nn D vo vn (.slice (some ⟨xg, 0, none⟩) (r + 1) xc) m (r + 1) ((f, j) :: S) O) (hj : j < (ks (N.map Nd.kids) f).length) (hx : x = (ks (N.map Nd.kids) f)[j]) (hr : r = S.length)
    (hn : OwnI wc B vn' (r + 1 + 1) ((((f, j) :: S).map Prod.fst).reverse ++ [x])) (hG1 : GI B (wa.setCell ⟨xg, r, none⟩ (.int .i64 ((j : Int) + 1))) wc vn vn')
    (hxx : OwnI wd B vx' (r + 1 + 1) (((S.map fun p => (p.2 : Int)).reverse ++ [(j : Int) + 1]) ++ [0])) (hG3 : GI B wc wd (.slice (some ⟨xg, 0, none⟩) (r + 1) xc) vx') :
    PK wd B N nn D vo vn' vx' m (r + 1 + 1) ((x, 0) :: (f, j + 1) :: S) O := by
  obtain ⟨x1, n1, o1⟩ := h.turn hr
  have nx : vn'.ownBlock ≠ some xg := fun e => by
    rcases hG1.own xg e with h1 | h1
    · exact h.a3 xg h1 rfl
    · have := (own_block x1.out (g := xg) rfl).2
      omega
  have ne2 : ∀ b, vn'.ownBlock = some b → (Value.slice (some ⟨xg, 0, none⟩) (r + 1) xc).ownBlock ≠ some b := fun b hb e => nx (by cases e; exact hb)
  refine ⟨⟨o1.len, own_move o1.out fun b hb => ?_⟩, ?_, ?_, hn.giA hG3 ne2, ?_, ?_, h.low⟩
  · have hb2 := (own_block o1.out hb).2
    rw [hG3.blk b (by have := hG1.size; omega) (own_apart o1.out x1.out (by decide) b hb), hG1.blk b hb2 (own_apart o1.out n1.out (by decide) b hb)]
  · have := hn.gi hG3 ne2
    simpa using this
  · simpa using hxx
  · rw [hx]; exact Frs_push h.low hj h.frs
  · intro p hp
    simp at hp
    rcases hp with rfl | hp
    · simp
    · exact h.adv p (by simpa using hp)
end Go.Proofs.YtchobeakieljpaaGreatDoor
