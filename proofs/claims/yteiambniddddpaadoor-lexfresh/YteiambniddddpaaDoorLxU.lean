import Derived.Test.YteiambniddddpaaDoorLxT
set_option linter.unusedVariables false
namespace Go.Proofs.YteiambniddddpaaDoor
open Go.ChangeShapes Go.WideShapes Go.ChangeAt Go.RowKit

def dig (d : Nat) : UInt8 := UInt8.ofNat (48 + d)
theorem dig_nat {d : Nat} (h : d < 10) : (dig d).toNat = 48 + d := by unfold dig; rw [UInt8.toNat_ofNat']; omega
theorem dig_cl {d : Nat} (h : d < 10) : cl (dig d) = 7 := by have := dig_nat h; have := cl_cases (dig d); omega

/-- A number's digits. -/
def dec (n : Nat) : List UInt8 := if h : n < 10 then [dig n] else dec (n / 10) ++ [dig (n % 10)]
termination_by n
decreasing_by omega
theorem dec_lt {n : Nat} (h : n < 10) : dec n = [dig n] := by rw [dec, dif_pos h]
theorem dec_ge {n : Nat} (h : ¬ n < 10) : dec n = dec (n / 10) ++ [dig (n % 10)] := by rw [dec, dif_neg h]

theorem dec_dg : ∀ (n : Nat), ∀ c ∈ dec n, cl c = 7 := by
  intro n
  induction n using Nat.strongRecOn with
  | ind n ih =>
    intro c hc
    by_cases h : n < 10
    · rw [dec_lt h] at hc
      simp at hc; subst hc; exact dig_cl h
    · rw [dec_ge h] at hc
      rcases List.mem_append.1 hc with hc | hc
      · exact ih (n / 10) (by omega) c hc
      · simp at hc; subst hc; exact dig_cl (by omega)
theorem dec_ne (n : Nat) : dec n ≠ [] := by
  by_cases h : n < 10
  · rw [dec_lt h]; simp
  · rw [dec_ge h]; simp
theorem dec_val : ∀ (n : Nat), valOf 0 (dec n) = n := by
  intro n
  induction n using Nat.strongRecOn with
  | ind n ih =>
    by_cases h : n < 10
    · rw [dec_lt h]; simp [valOf, dig_nat h]
    · rw [dec_ge h, valOf_snoc, ih (n / 10) (by omega), dig_nat (by omega)]; omega
theorem dec_head : ∀ (n : Nat), 0 < n → (dec n).head? ≠ some 48 := by
  intro n
  induction n using Nat.strongRecOn with
  | ind n ih =>
    intro h0
    by_cases h : n < 10
    · rw [dec_lt h]
      simp
      intro e
      have := congrArg UInt8.toNat e
      rw [dig_nat h] at this
      simp at this; omega
    · rw [dec_ge h]
      have hh := ih (n / 10) (by omega) (by omega)
      cases hd : dec (n / 10) with
      | nil => exact absurd hd (dec_ne _)
      | cons c l => rw [hd] at hh; simpa using hh
theorem dec_len : ∀ (n k : Nat), 0 < k → n < 10 ^ k → (dec n).length ≤ k := by
  intro n
  induction n using Nat.strongRecOn with
  | ind n ih =>
    intro k hk hn
    by_cases h : n < 10
    · rw [dec_lt h]; simp; omega
    · rw [dec_ge h]
      obtain ⟨j, rfl⟩ : ∃ j, k = j + 1 := ⟨k - 1, by omega⟩
      rw [Nat.pow_succ] at hn
      have hj : 0 < j := by
        rcases Nat.eq_zero_or_pos j with e | e
        · subst e; simp at hn; omega
        · exact e
      have := ih (n / 10) (by omega) j hj (by omega)
      simp; omega
theorem dec_num {n : Nat} (h : n ≤ 9223372036854775807) : numVal (dec n) = some n := by
  unfold numVal
  rw [dec_val, if_neg]
  rintro (⟨h1, h2⟩ | h2)
  · rcases Nat.eq_zero_or_pos n with e | e
    · subst e; rw [dec_lt (by omega)] at h1; simp at h1
    · exact dec_head n e h2
  · omega

/-- The only digits whose number is v are v's own. -/
theorem num_dec : ∀ (ds : List UInt8) (v : Nat), (∀ c ∈ ds, cl c = 7) → ds ≠ [] → numVal ds = some v → dec v = ds := by
  suffices h : ∀ (r : List UInt8), (∀ c ∈ r, cl c = 7) → r ≠ [] → ¬ (1 < r.length ∧ r.reverse.head? = some 48) → dec (valOf 0 r.reverse) = r.reverse by
    intro ds v hd hn hv
    unfold numVal at hv
    split at hv
    · cases hv
    · rename_i hc
      cases hv
      have := h ds.reverse (by simpa using hd) (by simpa using hn) (by simpa using fun a b => hc (.inl ⟨a, b⟩))
      simpa using this
  intro r
  induction r with
  | nil => intro _ h; exact absurd rfl h
  | cons c r ih =>
    intro hd _ hh
    have h7 : cl c = 7 := hd c (by simp)
    have hr : 48 ≤ c.toNat ∧ c.toNat ≤ 57 := by have := cl_cases c; omega
    have hdc : dig (c.toNat - 48) = c := UInt8.toNat_inj.1 (by rw [dig_nat (by omega)]; omega)
    rw [List.reverse_cons, valOf_snoc]
    cases hr' : r with
    | nil =>
      simp [valOf]
      rw [dec_lt (by omega), hdc]
    | cons d r' =>
      rw [← hr']
      have hne : r ≠ [] := by rw [hr']; simp
      have h1 := ih (fun x hx => hd x (by simp [hx])) hne (by
        rintro ⟨a, b⟩
        refine hh ⟨by simp; omega, ?_⟩
        rw [List.reverse_cons]
        cases hrr : r.reverse with
        | nil => rw [hrr] at b; simp at b
        | cons x y => rw [hrr] at b; simpa using b)
      have hpos : 0 < valOf 0 r.reverse := by
        rcases Nat.eq_zero_or_pos (valOf 0 r.reverse) with e | e
        · exfalso
          rw [e, dec_lt (by omega)] at h1
          refine hh ⟨by rw [hr']; simp, ?_⟩
          rw [List.reverse_cons, ← h1]
          rfl
        · exact e
      rw [dec_ge (by omega), show (10 * valOf 0 r.reverse + (c.toNat - 48)) / 10 = valOf 0 r.reverse by omega, show (10 * valOf 0 r.reverse + (c.toNat - 48)) % 10 = c.toNat - 48 by omega, h1, hdc]

def hiD (m : Nat) : List UInt8 := if m < 10 then [] else dec (m / 10)
theorem dec_split (m : Nat) : dec m = hiD m ++ [dig (m % 10)] := by
  unfold hiD
  by_cases h : m < 10
  · rw [if_pos h, dec_lt h, Nat.mod_eq_of_lt h]; rfl
  · rw [if_neg h, dec_ge h]

structure DR (n m : Nat) (S : List UInt8) (s : ByteArray) : Prop where
  eq : dec n = hiD m ++ S
  str : s = bs S
theorem bs_cons (c : UInt8) (S : List UInt8) : bs [c] ++ bs S = bs (c :: S) := by
  unfold bs
  apply ByteArray.ext
  simp [ByteArray.data_append]

theorem DR.next {n m S s} (h : DR n m S s) (hm : ¬ m < 10) : DR n (m / 10) (dig (m / 10 % 10) :: S) (bs [dig (m / 10 % 10)] ++ s) := by
  refine ⟨?_, by rw [h.str, bs_cons]⟩
  rw [h.eq]
  conv => lhs; rw [hiD, if_neg hm, dec_split (m / 10)]
  simp
theorem DR.len {n m S s} (h : DR n m S s) (hn : n ≤ 9223372036854775807) : s.size ≤ 19 := by
  rw [h.str, bs_size]
  have h1 := dec_len n 19 (by omega) (by omega)
  rw [h.eq] at h1
  simp at h1; omega

end Go.Proofs.YteiambniddddpaaDoor
