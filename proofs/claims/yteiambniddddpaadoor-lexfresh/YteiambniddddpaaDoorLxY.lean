import Derived.Test.YteiambniddddpaaDoorLxTz
import Derived.Test.YteiambniddddpaaDoorLxU
set_option linter.unusedVariables false
namespace Go.Proofs.YteiambniddddpaaDoor
open Go.ChangeShapes Go.WideShapes Go.ChangeAt Go.RowKit

theorem tw_mem {p : UInt8 → Bool} {c : UInt8} : ∀ {l : List UInt8}, c ∈ l.takeWhile p → p c = true
  | [], h => by simp at h
  | x :: l, h => by
    by_cases hx : p x = true
    · rw [List.takeWhile_cons, if_pos hx] at h
      rcases List.mem_cons.1 h with rfl | h
      · exact hx
      · exact tw_mem h
    · rw [List.takeWhile_cons, if_neg hx] at h; simp at h

/-- How long a token is, by its kind. -/
inductive Shp (K V : Int) (N : List UInt8) : Nat → Prop
  | name : K = 1 → N.length ≤ 4194304 → Shp K V N N.length
  | num (v : Nat) : K = 2 → V = v → v ≤ 9223372036854775807 → Shp K V N (dec v).length
  | word (i : Nat) : i < 18 → K = 10 + i → Shp K V N (WORDS.getD i []).length
  | sign (i : Nat) : i < 29 → K = 40 + i → Shp K V N (SIGNS.getD i []).length

theorem bst_kind (l : List UInt8) : ∀ i, (bst l i).2 = 0 ∨ ∃ j, j < i ∧ bst l i = (40 + j, (SIGNS.getD j []).length)
  | 0 => .inl rfl
  | i + 1 => by
    rw [bst]
    split
    · exact .inr ⟨i, by omega, rfl⟩
    · rcases bst_kind l i with h | ⟨j, hj, h⟩
      · exact .inl h
      · exact .inr ⟨j, by omega, h⟩

theorem tk_shp {l : List UInt8} {t m} (h : tk l = .ok (t, m)) : Shp t.kind t.val t.name m := by
  cases l with
  | nil => simp [tk] at h
  | cons x l =>
    by_cases h7 : cl x = 7
    · have e := tr_num h7 ⟨h⟩
      rw [numS, ns_eq] at e
      have hp := take_pos (l := l) (p := isDg) (x := x) (by simp [isDg, h7])
      cases hv : numVal (List.takeWhile isDg (x :: l)) with
      | none => rw [hv] at e; simp at e
      | some v =>
        rw [hv] at e
        simp at e
        obtain ⟨rfl, rfl⟩ := e
        have hmax : v ≤ 9223372036854775807 := by
          unfold numVal at hv
          split at hv
          · cases hv
          · rename_i hc; cases hv; omega
        have hd := num_dec _ v (fun c hc => by have := tw_mem hc; simpa [isDg] using this) (by intro e; rw [e] at hp; simp at hp) hv
        rw [← hd]
        exact .num v rfl rfl hmax
    · by_cases h6 : cl x = 6
      · have e := tr_name h6 ⟨h⟩
        unfold nameR at e
        split at e
        · cases e
        · rename_i h64
          simp at e
          obtain ⟨rfl, rfl⟩ := e
          unfold nameTk
          cases hw : WORDS.findIdx? (· == List.takeWhile isNm (x :: l)) with
          | none => exact .name rfl (by show (List.takeWhile isNm (x :: l)).length ≤ _; omega)
          | some i =>
            rw [List.findIdx?_eq_some_iff_getElem] at hw
            obtain ⟨hi, he, _⟩ := hw
            have he' : WORDS[i] = List.takeWhile isNm (x :: l) := by simpa using he
            have hg : WORDS.getD i [] = List.takeWhile isNm (x :: l) := by rw [← he']; simp [List.getD, List.getElem?_eq_getElem hi]
            rw [← hg]
            exact .word i hi rfl
      · have e := tr_sign h7 h6 ⟨h⟩
        unfold signR at e
        split at e
        · cases e
        · rename_i hb
          rcases bst_kind (x :: l) 29 with h0 | ⟨j, hj, hb2⟩
          · exact absurd h0 hb
          · rw [hb2] at e
            simp at e
            obtain ⟨rfl, rfl⟩ := e
            exact .sign j hj (by push_cast; rfl)

theorem Lexes.first {k l t ts p e} (h : Lexes k l (t :: ts) p e) : k ≤ t.pos := by
  cases h; show k ≤ k + _; omega

theorem Lexes.span {k l ts p e} (h : Lexes k l ts p e) : ∀ i (hi : i < ts.length), ∃ m, Shp ts[i].kind ts[i].val ts[i].name m ∧ 0 < m ∧ k ≤ ts[i].pos ∧ ts[i].pos - k + m ≤ l.length ∧ (e ≠ 0 → ts[i].pos + m ≤ p)
    ∧ Lexes 0 ((l.drop (ts[i].pos - k)).take m) [⟨ts[i].kind, 0, ts[i].val, ts[i].name⟩] 0 0 ∧ (∀ hi' : i + 1 < ts.length, ts[i].pos + m ≤ ts[i + 1].pos) := by
  induction h with
  | bad h => intro i hi; simp at hi
  | fin h => intro i hi; simp at hi
  | err h1 h2 h3 => intro i hi; simp at hi
  | @tok k l n t m ts p e h1 h2 h3 h4 ih =>
    intro i hi
    have hm := tk_ok h3
    have hlen : n + m ≤ l.length := by have := hm.2; simp at this; omega
    cases i with
    | zero =>
      refine ⟨m, tk_shp h3, hm.1, ?_, ?_, ?_, ?_, ?_⟩
      · show k ≤ k + n; omega
      · show k + n - k + m ≤ _; omega
      · intro he
        show k + n + m ≤ p
        rcases h4.range with ⟨h, _⟩ | ⟨_, h, _⟩
        · exact absurd h he
        · exact h
      · show Lexes 0 ((l.drop (k + n - k)).take m) [⟨t.kind, 0, t.val, t.name⟩] 0 0
        rw [show k + n - k = n by omega]
        have hl : ((l.drop n).take m).length = m := by simp; omega
        have e1 := sk_stop false (l.drop n) [] 0 m (sk_at false l n h1 h2) (by simp; omega) hm.1 (by simp)
        have e3 := tk_ext (l := l.drop n) (Y := []) (q := m) (drop_ne h2) Blk.nil (fun t' m' h' => by rw [h3] at h'; cases h'; omega) (fun e' h' => by rw [h3] at h'; cases h')
        rw [List.append_nil] at e1 e3
        have := Lexes.tok (k := 0) (l := (l.drop n).take m) (n := 0) (t := t) (m := m) (ts := []) (p := 0) (e := 0) e1 (by omega) (by rw [List.drop_zero, e3, h3])
          (by rw [Nat.zero_add, List.drop_of_length_le (by omega)]; exact .fin (by simp [sk]))
        exact this
      · intro hi'
        cases ts with
        | nil => simp at hi'
        | cons u us => exact h4.first
    | succ i =>
      have hi2 : i < ts.length := by simpa using hi
      obtain ⟨m', a1, a2, a3, a4, a5, a6, a7⟩ := ih i hi2
      have e0 : (⟨t.kind, k + n, t.val, t.name⟩ :: ts)[i + 1] = ts[i] := rfl
      rw [e0]
      simp at a4
      refine ⟨m', a1, a2, by omega, by omega, a5, ?_, fun hi' => a7 (by simpa using hi')⟩
      rw [List.drop_drop, show n + m + (ts[i].pos - (k + n + m)) = ts[i].pos - k by omega] at a6
      exact a6

end Go.Proofs.YteiambniddddpaaDoor
