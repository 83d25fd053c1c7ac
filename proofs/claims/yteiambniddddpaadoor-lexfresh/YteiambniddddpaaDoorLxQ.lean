import Derived.Test.YteiambniddddpaaDoorLxP
set_option linter.unusedVariables false
namespace Go.Proofs.YteiambniddddpaaDoor

theorem Lexes.range {k l ts p e} (h : Lexes k l ts p e) : (e = 0 ∧ p = 0) ∨ ((e = 20 ∨ e = 21 ∨ e = 22) ∧ k ≤ p ∧ p < k + l.length) := by
  induction h with
  | bad h => exact .inr ⟨.inl rfl, by omega, by have := (sk_bad false _ [] _ h).2; omega⟩
  | fin h => exact .inl ⟨rfl, rfl⟩
  | err h1 h2 h3 => exact .inr ⟨tk_err h3, by omega, by omega⟩
  | tok h1 h2 h3 h4 ih =>
    rcases ih with h | ⟨h, h5, h6⟩
    · exact .inl h
    · have hm := tk_ok h3
      simp at h6 hm
      exact .inr ⟨h, by omega, by omega⟩

theorem drop_ne {l : List UInt8} {n : Nat} (h : n < l.length) : l.drop n ≠ [] := by
  intro e; have := congrArg List.length e; simp at this; omega

theorem take_drop_app {l Y : List UInt8} {q n : Nat} (h : n ≤ q) (hq : q ≤ l.length) : (l.take q ++ Y).drop n = (l.drop n).take (q - n) ++ Y := by
  rw [List.drop_append_of_le_length (by simp; omega), List.drop_take]

/-- The bytes ahead of a fault are a text of just the tokens told. -/
theorem Lexes.ahead {k l ts p e} (h : Lexes k l ts p e) (he : e ≠ 0) : Lexes k (l.take (p - k)) ts 0 0 := by
  induction h with
  | @bad k l n h =>
    have h1 := sk_take false l
    rw [h] at h1
    have hn := (sk_bad false _ [] _ h).2
    rw [show k + n - k = n by omega]
    exact .fin (by rw [h1]; simp; omega)
  | fin h => exact absurd rfl he
  | @err k l n e h1 h2 h3 =>
    have h4 := sk_take false l
    rw [h1] at h4
    rw [show k + n - k = n by omega]
    exact .fin (by rw [h4]; simp; omega)
  | @tok k l n t m ts p e h1 h2 h3 h4 ih =>
    have hm := tk_ok h3
    have hr := h4.range
    have hp : k + n + m ≤ p ∧ p < k + n + m + (l.drop (n + m)).length := by
      rcases hr with ⟨h, _⟩ | ⟨_, h⟩
      · exact absurd h he
      · exact h
    have hlen : n + m ≤ l.length := by have := hm.2; simp at this; omega
    simp at hp
    obtain ⟨q, hq⟩ : ∃ q, p - k = q := ⟨_, rfl⟩
    rw [hq]
    have hq1 : n + m ≤ q := by omega
    have hq2 : q ≤ l.length := by omega
    have e1 := sk_stop false l [] n q h1 h2 (by omega) (by simp)
    rw [List.append_nil] at e1
    have e2 : (l.take q).drop n = (l.drop n).take (q - n) := List.drop_take
    have e3 := tk_ext (l := l.drop n) (Y := []) (q := q - n) (drop_ne h2) Blk.nil (fun t' m' h' => by rw [h3] at h'; cases h'; omega) (fun e' h' => by rw [h3] at h'; cases h')
    rw [List.append_nil, ← e2, h3] at e3
    refine .tok e1 (by simp; omega) e3 ?_
    have ih' := ih he
    rw [show p - (k + n + m) = q - (n + m) by omega] at ih'
    rw [List.drop_take]
    exact ih'

/-- What stands behind a line's end changes neither tokens nor place. -/
theorem Lexes.behind {k l ts p e} (h : Lexes k l ts p e) (he : e ≠ 0) (more : List UInt8) : Lexes k (l ++ 10 :: more) ts p e := by
  induction h with
  | bad h => exact .bad (sk_bad false _ _ _ h).1
  | fin h => exact absurd rfl he
  | @err k l n e h1 h2 h3 =>
    have hY : Blk (10 :: more) := .cons (.inl cl10)
    have e1 := sk_stop false l (10 :: more) n l.length h1 h2 h2 hY.not47
    rw [List.take_length] at e1
    have e3 := tk_ext (l := l.drop n) (Y := 10 :: more) (q := (l.drop n).length) (drop_ne h2) hY (fun t' m' h' => by rw [h3] at h'; cases h') (fun e' h' => Nat.le_refl _)
    rw [List.take_length, h3] at e3
    refine .err e1 (by simp; omega) ?_
    rw [List.drop_append_of_le_length (by omega)]
    exact e3
  | @tok k l n t m ts p e h1 h2 h3 h4 ih =>
    have hY : Blk (10 :: more) := .cons (.inl cl10)
    have hm := tk_ok h3
    have hlen : n + m ≤ l.length := by have := hm.2; simp at this; omega
    have e1 := sk_stop false l (10 :: more) n l.length h1 h2 h2 hY.not47
    rw [List.take_length] at e1
    have e3 := tk_ext (l := l.drop n) (Y := 10 :: more) (q := (l.drop n).length) (drop_ne h2) hY (fun t' m' h' => by rw [h3] at h'; cases h'; exact hm.2) (fun e' h' => Nat.le_refl _)
    rw [List.take_length, h3] at e3
    refine .tok e1 (by simp; omega) (by rw [List.drop_append_of_le_length (by omega)]; exact e3) ?_
    rw [List.drop_append_of_le_length hlen]
    exact ih he

theorem Lexes.total : ∀ (n : Nat) (k : Nat) (l : List UInt8), l.length ≤ n → ∃ ts p e, Lexes k l ts p e
  | n, k, l, hn => by
    cases hb : (sk false l).2 with
    | false => exact ⟨[], _, _, .bad (n := (sk false l).1) (Prod.ext rfl hb)⟩
    | true =>
      have hs : sk false l = ((sk false l).1, true) := Prod.ext rfl hb
      have hle := sk_le false l
      by_cases hl : (sk false l).1 = l.length
      · exact ⟨[], 0, 0, .fin (by rw [hs, hl])⟩
      · have hlt : (sk false l).1 < l.length := by omega
        cases ht : tk (l.drop (sk false l).1) with
        | error e => exact ⟨[], _, e, .err hs hlt ht⟩
        | ok p =>
          obtain ⟨t, m⟩ := p
          have hm := tk_ok ht
          cases n with
          | zero => omega
          | succ n =>
            obtain ⟨ts, p, e, h⟩ := Lexes.total n (k + (sk false l).1 + m) (l.drop ((sk false l).1 + m)) (by simp; omega)
            exact ⟨_, p, e, .tok hs hlt ht h⟩

theorem Lexes.more {k l ts p e} (h : Lexes k l ts p e) (he : e = 0) (more : List UInt8) : ∃ ts' p' e', Lexes k (l ++ 10 :: more) (ts ++ ts') p' e' := by
  induction h with
  | bad h => cases he
  | @fin k l h =>
    obtain ⟨ts, p, e, h'⟩ := Lexes.total _ k (l ++ 10 :: more) (Nat.le_refl _)
    exact ⟨ts, p, e, h'⟩
  | @err k l n e h1 h2 h3 => have := tk_err h3; omega
  | @tok k l n t m ts p e h1 h2 h3 h4 ih =>
    have hY : Blk (10 :: more) := .cons (.inl cl10)
    have hm := tk_ok h3
    have hlen : n + m ≤ l.length := by have := hm.2; simp at this; omega
    have e1 := sk_stop false l (10 :: more) n l.length h1 h2 h2 hY.not47
    rw [List.take_length] at e1
    have e3 := tk_ext (l := l.drop n) (Y := 10 :: more) (q := (l.drop n).length) (drop_ne h2) hY (fun t' m' h' => by rw [h3] at h'; cases h'; exact hm.2) (fun e' h' => Nat.le_refl _)
    rw [List.take_length, h3] at e3
    obtain ⟨ts', p', e', h'⟩ := ih he
    refine ⟨ts', p', e', .tok e1 (by simp; omega) (by rw [List.drop_append_of_le_length (by omega)]; exact e3) ?_⟩
    rw [List.drop_append_of_le_length hlen]
    exact h'

def shift (d : Nat) (t : T) : T := ⟨t.kind, t.pos + d, t.val, t.name⟩
theorem Lexes.shift {k l ts p e} (h : Lexes k l ts p e) (d : Nat) : Lexes (k + d) l (ts.map (shift d)) (if e = 0 then 0 else p + d) e := by
  induction h with
  | @bad k l n h => have := Lexes.bad (k := k + d) h; simp; rwa [show k + n + d = k + d + n by omega]
  | fin h => exact .fin h
  | @err k l n e h1 h2 h3 =>
    have := tk_err h3
    rw [if_neg (by omega)]
    have := Lexes.err (k := k + d) h1 h2 h3
    rwa [show k + n + d = k + d + n by omega]
  | @tok k l n t m ts p e h1 h2 h3 h4 ih =>
    rw [show k + n + m + d = k + d + n + m by omega] at ih
    have := Lexes.tok h1 h2 h3 ih
    simp only [List.map_cons]
    rwa [show Go.Proofs.YteiambniddddpaaDoor.shift d ⟨t.kind, k + n, t.val, t.name⟩ = ⟨t.kind, k + d + n, t.val, t.name⟩ by simp [Go.Proofs.YteiambniddddpaaDoor.shift]; omega]

/-- A gap: it begins blank, and behind it nothing is open. -/
structure Gap (g : List UInt8) : Prop where
  blk : Blk g
  ne : g ≠ []
  pass : ∀ Z, sk false (g ++ Z) = (g.length + (sk false Z).1, (sk false Z).2)
theorem Gap.app {g : List UInt8} (h : Gap g) (Z : List UInt8) : Blk (g ++ Z) := by
  obtain ⟨b, n, _⟩ := h
  cases g with
  | nil => exact absurd rfl n
  | cons y g => exact .cons (b y rfl)

theorem Lexes.insert {k l ts p e} (h : Lexes k l ts p e) (g : List UInt8) (hg : Gap g) : ∀ (i : Nat) (hi : i < ts.length),
    k ≤ ts[i].pos ∧ ts[i].pos - k ≤ l.length ∧ Lexes k (l.take (ts[i].pos - k) ++ (g ++ l.drop (ts[i].pos - k))) (ts.take i ++ (ts.drop i).map (Go.Proofs.YteiambniddddpaaDoor.shift g.length)) (if e = 0 then 0 else p + g.length) e := by
  induction h with
  | bad h => intro i hi; simp at hi
  | fin h => intro i hi; simp at hi
  | err h1 h2 h3 => intro i hi; simp at hi
  | @tok k l n t m ts p e h1 h2 h3 h4 ih =>
    intro i hi
    have hm := tk_ok h3
    have hlen : n + m ≤ l.length := by have := hm.2; simp at this; omega
    cases i with
    | zero =>
      show k ≤ k + n ∧ k + n - k ≤ l.length ∧ _
      refine ⟨by omega, by omega, ?_⟩
      show Lexes k (l.take (k + n - k) ++ (g ++ l.drop (k + n - k))) ([] ++ (_ :: ts).map _) _ e
      rw [show k + n - k = n by omega, List.nil_append, List.map_cons]
      have e1 := sk_pass false l (g ++ l.drop n) n h1 h2
      rw [hg.pass, sk_at false l n h1 h2] at e1
      have hd : (l.take n ++ (g ++ l.drop n)).drop (n + g.length) = l.drop n := by
        rw [List.drop_append, List.drop_append]
        simp [show min n l.length = n by omega]
      have hsh := h4.shift g.length
      have := Lexes.tok (k := k) (l := l.take n ++ (g ++ l.drop n)) (n := n + g.length) (t := t) (m := m) (by simpa using e1) (by simp; omega) (by rw [hd]; exact h3)
        (by rw [show k + (n + g.length) + m = k + n + m + g.length by omega, ← List.drop_drop, hd, List.drop_drop]; exact hsh)
      rwa [show (⟨t.kind, k + (n + g.length), t.val, t.name⟩ : T) = Go.Proofs.YteiambniddddpaaDoor.shift g.length ⟨t.kind, k + n, t.val, t.name⟩ by simp [Go.Proofs.YteiambniddddpaaDoor.shift]; omega] at this
    | succ i =>
      have hi' : i < ts.length := by simpa using hi
      obtain ⟨h5, h6, h7⟩ := ih i hi'
      have e0 : (⟨t.kind, k + n, t.val, t.name⟩ :: ts)[i + 1] = ts[i] := rfl
      rw [e0]
      obtain ⟨q, hq⟩ : ∃ q, ts[i].pos - k = q := ⟨_, rfl⟩
      simp at h6
      rw [hq]
      have hq1 : n + m ≤ q := by omega
      have hq2 : q ≤ l.length := by omega
      refine ⟨by omega, hq2, ?_⟩
      have hY := hg.app (l.drop q)
      have e1 := sk_stop false l (g ++ l.drop q) n q h1 h2 (by omega) hY.not47
      have e3 := tk_ext (l := l.drop n) (Y := g ++ l.drop q) (q := q - n) (drop_ne h2) hY (fun t' m' h' => by rw [h3] at h'; cases h'; omega) (fun e' h' => by rw [h3] at h'; cases h')
      rw [h3, ← take_drop_app (by omega) hq2] at e3
      show Lexes k _ (_ :: (ts.take i ++ (ts.drop i).map _)) _ e
      refine .tok e1 (by simp; omega) e3 ?_
      rw [show ts[i].pos - (k + n + m) = q - (n + m) by omega] at h7
      rw [take_drop_app (by omega) hq2]
      rwa [List.drop_drop, show n + m + (q - (n + m)) = q by omega] at h7
end Go.Proofs.YteiambniddddpaaDoor
