import Derived.Test.YtddcpbidlbiamaaHpM
set_option linter.unusedVariables false
set_option linter.unusedSimpArgs false
namespace Go.Proofs.Ytddcpbidlbiamaa
open Go.ChangeShapes Go.WideShapes Go.ChangeAt Go.RowKit

/-- A call, as a value. -/
structure O where
  k : Int
  who : Int
  near : Int
  a : Int
  i : Int
  v : Int
structure O.Ok (o : O) : Prop where
  a : Fits o.a
  i : Fits o.i
  v : Fits o.v
  near : Fits o.near
def O.val (o : O) : Value := .agg #[.int .i64 o.k, .int .i64 o.who, .int .i64 o.near, .int .i64 o.a, .int .i64 o.i, .int .i64 o.v]

theorem tmod_bounds (a : Int) (n : Nat) (hn : 0 < n) : -(n : Int) < a.tmod n ∧ a.tmod n < n := by
  have h1 := Int.tmod_lt_of_pos a (show (0 : Int) < n by omega)
  have h2 := Int.tmod_lt_of_pos (-a) (show (0 : Int) < n by omega)
  rw [Int.neg_tmod] at h2
  omega

set_option maxHeartbeats 1000000 in
theorem address_any (w : World) {B S c} (H : PS w B S c) (hc : c ≤ 1000000000) (o : O) (ho : o.Ok) :
    Calls Try.prog 21 #[.pointer (some ⟨S.p, 0, none⟩), o.val] w fun e w' => ∃ a, e = .returned (.int .i64 a) ∧ Fits a ∧ Below w.heap.size w w' := by
  have c2 := cell_arr (i := 2) H.box rfl
  have hpl := (H.lt S.p (.inl rfl)).2
  have hlen := H.rh.len
  obtain ⟨ao, cp, had, n1, n2⟩ := own_slice H.own.out
  have hon := H.own
  rw [had] at c2 hon
  have HA := show Hid (∀ q (hq : q < S.L.length), ∃ g, ao = some ⟨g, 0, none⟩ ∧ g < w.heap.size ∧ w.cell? ⟨g, q, none⟩ = some (.int .i64 (S.L[q]).a) ∧ 1 ≤ (S.L[q]).a ∧ (S.L[q]).a ≤ 4611686018427387904) from fun q hq => by
    obtain ⟨g, cp', e, _, _, _, hgl⟩ := own_some hon.out (by omega)
    cases e
    refine ⟨g, rfl, hgl, ?_, ?_⟩
    · have := hon.cell (q := q) (by simpa using hq)
      simpa using this
    · have h1 := H.wd.lay.mem _ (List.getElem_mem hq)
      have h2 := H.ch.lim
      omega
  clear H had hon
  generalize S.p = p at *
  obtain ⟨n, hn⟩ : ∃ n, n = S.L.length := ⟨_, rfl⟩
  rw [← hn] at c2 hlen n1
  have HN := show Hid (n = S.L.length) from hn
  obtain ⟨⟨fa1, fa2⟩, _, _, ⟨fn1, fn2⟩⟩ := ho
  obtain ⟨ok, owho, near, oa, oi, ov⟩ := o
  simp only at fa1 fa2 fn1 fn2
  unfold O.val
  simp only
  clear hn
  by_cases h0 : near = 0
  · subst h0
    go_enter Try.func21, Try.ntmps21
    go_wp2
    go_ret
    exact ⟨_, rfl, ⟨fa1, fa2⟩, (Below.refl _ _).alloc (Nat.le_refl _) _⟩
  by_cases h1 : n = 0
  · subst h1
    go_enter Try.func21, Try.ntmps21
    go_wp2
    go_ret
    exact ⟨_, rfl, ⟨fa1, fa2⟩, (Below.refl _ _).alloc (Nat.le_refl _) _⟩
  have hnp : 0 < n := by omega
  obtain ⟨t1, t2⟩ := tmod_bounds oa n hnp
  obtain ⟨t, ht⟩ : ∃ t, t = oa.tmod (n : Int) := ⟨_, rfl⟩
  rw [← ht] at t1 t2
  have ht' : oa.tmod (n : Int) = t := ht.symm
  clear ht
  obtain ⟨q, hq, hqn⟩ : ∃ q : Nat, (q : Int) = (if t < 0 then t + n else t) ∧ q < n := by
    by_cases h : t < 0
    · refine ⟨(t + n).toNat, ?_, by omega⟩
      rw [if_pos h]; omega
    · refine ⟨t.toNat, ?_, by omega⟩
      rw [if_neg h]; omega
  obtain ⟨g, rfl, hgl, cq, l1, l2⟩ := HA.out q (by have := HN.out; omega)
  generalize (S.L[q]'(by have := HN.out; omega)).a = z at cq l1 l2
  have hn9 : n ≤ 1000000000 := by omega
  have hgw : ¬ g = w.heap.size := by omega
  have hpw : ¬ p = w.heap.size := by omega
  have hb0 : (near == 0) = false := by simpa using h0
  have hb1 : ((n : Int) == 0) = false := by simp; omega
  by_cases hneg : t < 0
  · rw [if_pos hneg] at hq
    have hq' : t + (n : Int) = q := hq.symm
    clear hq
    by_cases hodd : near.tmod 2 = 0
    · go_enter Try.func21, Try.ntmps21
      go_wp2_with fail
      go_region
      all_goals
        go_wp2_with fail
        go_ret
        exact ⟨_, rfl, ⟨by omega, by omega⟩, ((Below.refl _ _).alloc (Nat.le_refl _) _).drew⟩
    · go_enter Try.func21, Try.ntmps21
      go_wp2_with fail
      go_region
      all_goals
        go_wp2_with fail
        go_ret
        exact ⟨_, rfl, ⟨by omega, by omega⟩, ((Below.refl _ _).alloc (Nat.le_refl _) _).drew⟩
  · rw [if_neg hneg] at hq
    subst hq
    by_cases hodd : near.tmod 2 = 0
    · go_enter Try.func21, Try.ntmps21
      go_wp2_with fail
      go_region
      all_goals
        go_wp2_with fail
        go_ret
        exact ⟨_, rfl, ⟨by omega, by omega⟩, ((Below.refl _ _).alloc (Nat.le_refl _) _).drew⟩
    · go_enter Try.func21, Try.ntmps21
      go_wp2_with fail
      go_region
      all_goals
        go_wp2_with fail
        go_ret
        exact ⟨_, rfl, ⟨by omega, by omega⟩, ((Below.refl _ _).alloc (Nat.le_refl _) _).drew⟩
end Go.Proofs.Ytddcpbidlbiamaa
