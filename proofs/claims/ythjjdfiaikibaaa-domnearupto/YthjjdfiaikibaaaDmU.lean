import Derived.Test.YthjjdfiaikibaaaDmT
import Derived.Laws.AppendOwnNone
import Derived.Deep.Cut
set_option linter.unusedVariables false
set_option linter.unusedSimpArgs false
namespace Go.Proofs.Ythjjdfiaikibaaa
open Go.ChangeShapes Go.WideShapes Go.ChangeAt Go.RowKit Go.Maps

theorem add_none (b o j : Nat) : (⟨b, o, none⟩ : Addr).add j = ⟨b, o + j, none⟩ := by
  cases j with
  | zero => simp [Addr.add]
  | succ j => simp [Addr.add]
/-- append([]int(nil), x...). -/
theorem wpList_copyG {w : World} {ops : Array Oper} {rest : List Oper} {op : Oper} {a : Act} {Q : Exit → Act → World → Prop} (hgd : op.guard = none) (s x : Operand)
    (ho : op.op = .call { callee := .builtin .append, args := #[s, x], argTypes := #[31, 31] })
    (B : Nat) (hs : a.eval s = .slice none 0 0) (xo : Option Addr) (m c : Nat) (M : List Int) (hm : m = M.length) (hI : Ints w xo c M) (hnz : xo = none → c = 0) (hx : a.eval x = .slice xo m c) (hl : m ≤ 17592186044416) (hB : B ≤ w.heap.size)
    (h : ∀ v' w', OwnI w' B v' m M → Below w.heap.size w w' → wpList Try.prog ops Q rest (a.put op.dst v') w') : wpList Try.prog ops Q (op :: rest) a w := by
  obtain ⟨i0, hi, hz0, hz1, hz2⟩ := info_parts info3i
  cases xo with
  | none =>
    have hM : M = [] := by
      cases M with
      | nil => rfl
      | cons y l => obtain ⟨b, o, e, _⟩ := hI.out (by simp); cases e
    subst hM
    simp at hm
    subst hm
    rw [hnz rfl] at hx
    exact wpList_append_own_none hgd s x 31 ho B 3 i0 1 Try.underlying31 hi (.slice none 0 0) 0 [] hs (World.ownsRow_nil _ _ _ _) hx (h _ _ (OwnI.nil _ _) (Below.refl _ _))
  | some ad =>
    refine wpList_plain hgd fun K hK => ?_
    have hc : ∀ j u, (ivs M)[j]? = some u → w.cell? (ad.add j) = some u := by
      intro j u hj
      have hjl : j < M.length := by
        have := (List.getElem?_eq_some_iff.1 hj).1
        simpa [ivs] using this
      obtain ⟨b, o, e, hA⟩ := hI.out (by intro e; rw [e] at hjl; simp at hjl)
      cases e
      have := hA.cell j hjl
      rw [add_none, this]
      simp [ivs, hjl] at hj
      rw [hj]
    obtain ⟨v', w', hr, h2, h3, h4⟩ := run_append_own (P := Try.prog) w B 31 op.type 3 i0 (.int .i64 0) 1 8 Try.underlying31 hi hz0 hz1 hz2 rfl (by decide) (.slice none 0 0) 0 [] (World.ownsRow_nil _ _ _ _) ad m c (ivs M) (by simp [ivs, hm]) hc (ivs_one M) (by unfold maxLen; omega) (by omega) hB
    unfold Oper.wp execOp
    simp only [ho, resolve, invoke, builtin, Sem.run_bind, Sem.run_pure, Result.andThen_ok, List.map_toArray, List.map_cons, List.map_nil, hs, hx, hr]
    exact hK _ _ (h v' w' ⟨hm, by simpa using h2⟩ ((Below.refl _ _).grown h3 (Nat.le_refl _) (fun k hk => by simp [Value.ownBlock] at hk)))
theorem run_copyI {w : World} (B : Nat) (ty : TypeId) (xo : Option Addr) (m c : Nat) (M : List Int) (hm : m = M.length) (hI : Ints w xo c M) (hnz : xo = none → c = 0) (hl : m ≤ 17592186044416) (hB : B ≤ w.heap.size) :
    ∃ v' w', (Builtin.append_ #[31, 31] ty #[.slice none 0 0, .slice xo m c]).run Try.prog w = .ok v' w' ∧ OwnI w' B v' m M ∧ Below w.heap.size w w' := by
  obtain ⟨i0, hi, hz0, hz1, hz2⟩ := info_parts info3i
  cases xo with
  | none =>
    have hM : M = [] := by
      cases M with
      | nil => rfl
      | cons y l => obtain ⟨b, o, e, _⟩ := hI.out (by simp); cases e
    subst hM
    simp at hm
    subst hm
    rw [hnz rfl]
    exact ⟨_, _, run_append_owned_none (P := Try.prog) (w := w) B 31 ty 3 i0 1 Try.underlying31 hi (.slice none 0 0) 0 [] (World.ownsRow_nil _ _ _ _), OwnI.nil _ _, Below.refl _ _⟩
  | some ad =>
    have hc : ∀ j u, (ivs M)[j]? = some u → w.cell? (ad.add j) = some u := by
      intro j u hj
      have hjl : j < M.length := by
        have := (List.getElem?_eq_some_iff.1 hj).1
        simpa [ivs] using this
      obtain ⟨b, o, e, hA⟩ := hI.out (by intro e; rw [e] at hjl; simp at hjl)
      cases e
      have := hA.cell j hjl
      rw [add_none, this]
      simp [ivs, hjl] at hj
      rw [hj]
    obtain ⟨v', w', hr, h2, h3, h4⟩ := run_append_own (P := Try.prog) w B 31 ty 3 i0 (.int .i64 0) 1 8 Try.underlying31 hi hz0 hz1 hz2 rfl (by decide) (.slice none 0 0) 0 [] (World.ownsRow_nil _ _ _ _) ad m c (ivs M) (by simp [ivs, hm]) hc (ivs_one M) (by unfold maxLen; omega) (by omega) hB
    exact ⟨v', w', hr, ⟨hm, by simpa using h2⟩, (Below.refl _ _).grown h3 (Nat.le_refl _) (fun k hk => by simp [Value.ownBlock] at hk)⟩
theorem run_append2I {w0 : World} (B : Nat) (ty : TypeId) (v : Value) (n : Nat) (L : List Int) (y z : Int) (hown : OwnI w0 B v n L) (hl : n + 2 ≤ 17592186044416) (hB : B ≤ w0.heap.size) :
    ∃ v' w', (Builtin.append_ #[31, 31] ty #[v, .slice (some ⟨w0.heap.size, 0, none⟩) 2 2]).run Try.prog (w0.alloc (.cells #[.int .i64 y, .int .i64 z] 3)) = .ok v' w' ∧ OwnI w' B v' (n + 2) (L ++ [y, z]) ∧ GI B w0 w' v v' := by
  obtain ⟨i0, hi, hz0, hz1, hz2⟩ := info_parts info3i
  obtain ⟨v', w', hr, h1, h2, h3⟩ := run_append_where (P := Try.prog) (w := w0.alloc (.cells #[.int .i64 y, .int .i64 z] 3)) B 31 ty 3 i0 (.int .i64 0) 1 8 Try.underlying31 hi hz0 hz1 hz2 rfl (by decide) v n (ivs L) (hown.out.alloc _) ⟨w0.heap.size, 0, none⟩ 2 2 (by omega) [.int .i64 y, .int .i64 z] rfl (cell_two_newI _ _ _ _) (fun u hu => by simp at hu; rcases hu with rfl | rfl <;> rfl) (by unfold maxLen; omega) (by omega) (by simp; omega)
  exact ⟨v', w', hr, ⟨by simp; exact hown.len, by simpa [ivs] using h1⟩, gi_of hown.out hB h2 h3⟩
/-- append(l, y, z). -/
theorem wpList_append_two {w0 : World} {ops : Array Oper} {rest : List Oper} {op : Oper} {a : Act} {Q : Exit → Act → World → Prop} (hgd : op.guard = none) (s x : Operand)
    (ho : op.op = .call { callee := .builtin .append, args := #[s, x], argTypes := #[31, 31] })
    (B : Nat) (v : Value) (n : Nat) (L : List Int) (y z : Int) (hs : a.eval s = v) (hown : OwnI w0 B v n L) (hx : a.eval x = .slice (some ⟨w0.heap.size, 0, none⟩) 2 2)
    (hl : n + 2 ≤ 17592186044416) (hB : B ≤ w0.heap.size)
    (h : ∀ v' w', OwnI w' B v' (n + 2) (L ++ [y, z]) → GI B w0 w' v v' → wpList Try.prog ops Q rest (a.put op.dst v') w') : wpList Try.prog ops Q (op :: rest) a (w0.alloc (.cells #[.int .i64 y, .int .i64 z] 3)) := by
  obtain ⟨i0, hi, hz0, hz1, hz2⟩ := info_parts info3i
  refine wpList_append_where hgd s x 31 ho B 3 i0 (.int .i64 0) 1 8 Try.underlying31 hi hz0 hz1 hz2 rfl (by decide) v n (ivs L) hs (hown.out.alloc _) ⟨w0.heap.size, 0, none⟩ 2 2 (by omega) [.int .i64 y, .int .i64 z] hx rfl (cell_two_newI _ _ _ _) (fun u hu => by simp at hu; rcases hu with rfl | rfl <;> rfl) (by unfold maxLen; omega) (by omega) (by simp; omega) ?_
  intro v' w' h1 h2 h3
  exact h v' w' ⟨by simp; exact hown.len, by simpa [ivs] using h1⟩ (gi_of hown.out hB h2 h3)
/-- The same two where they stand behind a guard. -/
theorem wpList_copyW {w : World} {ops : Array Oper} {rest : List Oper} {op : Oper} {a : Act} {Q : Exit → Act → World → Prop} (hw : Region.wanted op (yielded ops a.tmps) = true) (s x : Operand)
    (ho : op.op = .call { callee := .builtin .append, args := #[s, x], argTypes := #[31, 31] })
    (B : Nat) (hs : a.eval s = .slice none 0 0) (xo : Option Addr) (m c : Nat) (M : List Int) (hm : m = M.length) (hI : Ints w xo c M) (hnz : xo = none → c = 0) (hx : a.eval x = .slice xo m c) (hl : m ≤ 17592186044416) (hB : B ≤ w.heap.size)
    (h : ∀ v' w', OwnI w' B v' m M → Below w.heap.size w w' → wpList Try.prog ops Q rest (a.put op.dst v') w') : wpList Try.prog ops Q (op :: rest) a w := by
  obtain ⟨v', w', hr, h1, h2⟩ := run_copyI B op.type xo m c M hm hI hnz hl hB
  refine wpList_step fun K hK => ?_
  rw [if_pos hw]
  unfold Oper.wp execOp
  simp only [ho, resolve, invoke, builtin, Sem.run_bind, Sem.run_pure, Result.andThen_ok, List.map_toArray, List.map_cons, List.map_nil, hs, hx, hr]
  exact hK _ _ (h v' w' h1 h2)
theorem wpList_append_twoW {w0 : World} {ops : Array Oper} {rest : List Oper} {op : Oper} {a : Act} {Q : Exit → Act → World → Prop} (hw : Region.wanted op (yielded ops a.tmps) = true) (s x : Operand)
    (ho : op.op = .call { callee := .builtin .append, args := #[s, x], argTypes := #[31, 31] })
    (B : Nat) (v : Value) (n : Nat) (L : List Int) (y z : Int) (hs : a.eval s = v) (hown : OwnI w0 B v n L) (hx : a.eval x = .slice (some ⟨w0.heap.size, 0, none⟩) 2 2)
    (hl : n + 2 ≤ 17592186044416) (hB : B ≤ w0.heap.size)
    (h : ∀ v' w', OwnI w' B v' (n + 2) (L ++ [y, z]) → GI B w0 w' v v' → wpList Try.prog ops Q rest (a.put op.dst v') w') : wpList Try.prog ops Q (op :: rest) a (w0.alloc (.cells #[.int .i64 y, .int .i64 z] 3)) := by
  obtain ⟨v', w', hr, h1, h2⟩ := run_append2I B op.type v n L y z hown hl hB
  refine wpList_step fun K hK => ?_
  rw [if_pos hw]
  unfold Oper.wp execOp
  simp only [ho, resolve, invoke, builtin, Sem.run_bind, Sem.run_pure, Result.andThen_ok, List.map_toArray, List.map_cons, List.map_nil, hs, hx, hr]
  exact hK _ _ (h v' w' h1 h2)
/-- The first numbers of a row. -/
theorem OwnI.prefix {w : World} {B g n m c : Nat} {L R : List Int} (h : OwnI w B (.slice (some ⟨g, 0, none⟩) m c) m (L ++ R)) (hn : n = L.length) (hc : c ≤ 9223372036854775807) (hmc : m ≤ c) : Ints w (some ⟨g, 0, none⟩) c L := by
  obtain ⟨ao, c', e, hI⟩ := h.ints
  cases e
  refine ⟨by have := h.len; simp at this; omega, hc, fun hne => ?_⟩
  obtain ⟨b, o, e, hA⟩ := hI.out (by simp [hne])
  cases e
  exact ⟨g, 0, rfl, hA.lt, fun i hi => by have := hA.cell i (by simp; omega); rw [this]; simp [List.getElem_append_left hi]⟩

set_option maxRecDepth 100000 in
set_option maxHeartbeats 4000000 in
theorem domOver_any (w : World) (tao : Option Addr) (n c : Nat) (T : List Int) (hn : n = T.length) (h : Ints w tao c T) (hz : tao = none → c = 0) (hl : n + 2 ≤ 17592186044416) (a b : Int) :
    Calls Try.prog 5 #[.slice tao n c, .int .i64 a, .int .i64 b] w fun e w' => e = .returned (.bool true) ∧ Below w.heap.size w w' := by
  have HN : Hid (n = T.length) := hn
  have HI : Hid (Ints w tao c T) := h
  have HZ : Hid (tao = none → c = 0) := hz
  have hnc : n ≤ c := by have := h.le; omega
  have hcm : c ≤ 9223372036854775807 := h.mx
  clear hn h hz
  obtain ⟨B, hB⟩ : ∃ B, B = w.heap.size := ⟨_, rfl⟩
  have HB : Hid (B = w.heap.size) := hB
  have hBw : B ≤ w.heap.size := by omega
  clear hB
  go_enter Try.func5, Try.ntmps5
  go_wp2_with (first
    | (at_builtin; refine wpList_copyG rfl _ _ rfl B rfl tao n c T HN.out HI.out HZ.out rfl (by omega) hBw ?_; intro v1 w1 o1 b1
       have hs1 := b1.size
       have hB1 : B ≤ w1.heap.size := by omega
       have HO1 := show Hid _ from o1
       have HB1 := show Hid _ from b1
       obtain ⟨a1, c1, e1, _, _⟩ := own_slice o1.out
       subst e1
       clear o1 b1)
    | (at_builtin; refine wpList_append_two (w0 := w1) rfl _ _ rfl B (.slice a1 n c1) n T (-71) (-72) rfl HO1.out rfl hl hB1 ?_; intro v2 w2 o2 g2
       have b2 : Below w.heap.size w w2 := HB1.out.trans (g2.bel.mono (by have := HB.out; omega))
       have HO2 := show Hid _ from o2
       have HB2 := show Hid _ from b2
       obtain ⟨g, c2, e2, hc2, hc2', hg2, hg2'⟩ := own_some o2.out (by omega)
       subst e2
       clear o2 g2 b2))
  have I2 : Ints w2 (some ⟨g, 0, none⟩) c2 T := HO2.out.prefix HN.out hc2' hc2
  refine (over_any w2 (some ⟨g, 0, none⟩) n c2 T HN.out I2 a b).mono ?_
  rintro e w3 ⟨rfl, rfl⟩
  obtain ⟨x, hx⟩ : ∃ x, x = overP T a b := ⟨_, rfl⟩
  rw [← hx]
  have HX : Hid (x = overP T a b) := hx
  clear I2 hx
  go_wp2_with fail
  refine (alive_any w3).mono ?_
  rintro e w4 ⟨rfl, b4⟩
  have hs4 := b4.size
  have HO4 := show Hid (OwnI w4 B (.slice (some ⟨g, 0, none⟩) (n + 2) c2) (n + 2) (T ++ [-71, -72])) from HO2.out.keep b4
  have HB4 := show Hid (Below w.heap.size w w4) from HB2.out.trans (b4.mono HB2.out.size)
  have hB4 : B ≤ w4.heap.size := by have := HB4.out.size; omega
  have HI4 := show Hid (Ints w4 tao c T) from HI.out.below HB4.out (Nat.le_refl _)
  clear b4 HO2 HB2 HO1 HB1
  go_wp2_with fail
  refine (refOver_any w4 tao n c T HN.out HI4.out a b).mono ?_
  rintro e w5 ⟨rfl, rfl⟩
  rw [← HX.out]
  have hxx : (x != x) = false := by simp
  go_wp2_with (first
    | (at_builtin; refine wpList_copyW (by rfl) _ _ rfl w5.heap.size rfl tao n c T HN.out HI4.out HZ.out rfl (by omega) (Nat.le_refl _) ?_; intro v6 w6 o6 b6
       have hs6 := b6.size
       have HO6 := show Hid _ from o6
       have HB6 := show Hid _ from b6
       obtain ⟨a6, c6, e6, _, _⟩ := own_slice o6.out
       subst e6
       clear o6 b6)
    | (at_builtin; refine wpList_append_twoW (w0 := w6) (by rfl) _ _ rfl w5.heap.size (.slice a6 n c6) n T (-71) (-72) rfl HO6.out rfl hl hs6 ?_; intro v7 w7 o7 g7
       have b7 : Below w5.heap.size w5 w7 := HB6.out.trans g7.bel
       have hs7 := b7.size
       have HO7 := show Hid _ from o7
       have HB7 := show Hid _ from b7
       obtain ⟨a7, c7, e7, hI7⟩ := o7.ints
       subst e7
       have HI7 := show Hid _ from hI7
       clear o7 g7 b7 hI7))
  have HO8 := show Hid (OwnI w7 B (.slice (some ⟨g, 0, none⟩) (n + 2) c2) (n + 2) (T ++ [-71, -72])) from HO4.out.keep HB7.out
  have HB8 := show Hid (Below w.heap.size w w7) from HB4.out.trans (HB7.out.mono HB4.out.size)
  refine (same_any w7 (some ⟨g, 0, none⟩) a7 c2 c7 (n + 2) (n + 2) (T ++ [-71, -72]) (T ++ [-71, -72]) HO8.out.len HO8.out.len ?_ HI7.out).mono ?_
  · obtain ⟨a8, c8, e8, hI8⟩ := HO8.out.ints
    cases e8
    exact hI8
  rintro e w9 ⟨rfl, b9⟩
  have hs9 := b9.size
  have HO9 := show Hid (OwnI w9 B (.slice (some ⟨g, 0, none⟩) (n + 2) c2) (n + 2) (T ++ [-71, -72])) from HO8.out.keep b9
  have HB9 := show Hid (Below w.heap.size w w9) from HB8.out.trans (b9.mono HB8.out.size)
  clear b9 HO8 HB8 HI7 HB7 HO7 HO6 HB6 HO4 HB4
  rw [show (decide (T ++ [-71, -72] = T ++ [-71, -72])) = true from by simp]
  by_cases hb0 : b < 0
  · go_wp2_with fail
    go_ret
    exact ⟨rfl, HB9.out⟩
  · by_cases hbn : (n : Int) ≤ b
    · go_wp2_with fail
      go_ret
      exact ⟨rfl, HB9.out⟩
    · obtain ⟨bn, rfl⟩ : ∃ bn : Nat, b = (bn : Int) := ⟨b.toNat, by omega⟩
      have hbl : bn < n := by omega
      have hbT : bn < T.length := by have := HN.out; omega
      obtain ⟨z0, k0⟩ : ∃ z, w9.cell? ⟨g, bn, none⟩ = some z := ⟨_, (own_cell HO9.out.out bn (by omega)).trans (List.getElem?_eq_getElem (by simp [ivs]; omega))⟩
      have f0 : w9.frozen? ⟨g, bn, none⟩ = false := own_fz HO9.out.out bn
      obtain ⟨tb, to_, ht, kt⟩ := (HI.out.below HB9.out (Nat.le_refl _)).at hbT
      subst ht
      obtain ⟨t, htt⟩ : ∃ t, t = T[bn] := ⟨_, rfl⟩
      rw [← htt] at kt
      have hgw : B ≤ g := (own_block HO9.out.out (g := g) rfl).1
      have htg : tb ≠ g := by
        have h1 := HI.out.at hbT
        obtain ⟨b1, o1, e1, k1⟩ := h1
        cases e1
        have h2 : tb < w.heap.size := block_lt_of_cell k1
        have := HB.out
        intro e
        subst e
        omega
      have kt1 : (w9.setCell ⟨g, bn, none⟩ (.int .i64 (-1))).cell? ⟨tb, to_ + bn, none⟩ = some (.int .i64 t) := cell_setN (.inl htg) kt
      have setO : ∀ (w' : World) (L : List Int) (v : Int), OwnI w' B (.slice (some ⟨g, 0, none⟩) (n + 2) c2) (n + 2) (L ++ [-71, -72]) → L.length = n → OwnI (w'.setCell ⟨g, bn, none⟩ (.int .i64 v)) B (.slice (some ⟨g, 0, none⟩) (n + 2) c2) (n + 2) (L.set bn v ++ [-71, -72]) := fun w' L v ho hL => by
        refine ⟨by simp [hL], ?_⟩
        have := own_set ho.out bn (by omega) (.int .i64 v)
        have e : (ivs (L ++ [-71, -72])).set bn (.int .i64 v) = ivs (L.set bn v ++ [-71, -72]) := by
          simp only [ivs, List.map_append, List.map_set]
          rw [List.set_append_left _ _ (by simp [hL]; exact hbl)]
        rw [e] at this
        exact this
      have O10 := setO w9 T (-1) HO9.out HN.out.symm
      have B10 : Below w.heap.size w (w9.setCell ⟨g, bn, none⟩ (.int .i64 (-1))) := HB9.out.setCell (by have := HB.out; show w.heap.size ≤ g; omega) _
      by_cases ht1 : t = -1
      · subst ht1
        have O11 := setO _ (T.set bn (-1)) 0 O10 (by simp; exact HN.out.symm)
        have B11 : Below w.heap.size w ((w9.setCell ⟨g, bn, none⟩ (.int .i64 (-1))).setCell ⟨g, bn, none⟩ (.int .i64 0)) := B10.setCell (by have := HB.out; show w.heap.size ≤ g; omega) _
        obtain ⟨z1, k1⟩ : ∃ z, (w9.setCell ⟨g, bn, none⟩ (.int .i64 (-1))).cell? ⟨g, bn, none⟩ = some z := ⟨_, (own_cell O10.out bn (by omega)).trans (List.getElem?_eq_getElem (by simp [ivs]; omega))⟩
        have f1 : (w9.setCell ⟨g, bn, none⟩ (.int .i64 (-1))).frozen? ⟨g, bn, none⟩ = false := own_fz O10.out bn
        obtain ⟨T2, hT2⟩ : ∃ T2, T2 = (T.set bn (-1)).set bn 0 := ⟨_, rfl⟩
        rw [← hT2] at O11
        have HT2 : Hid (n = T2.length) := by show _ = _; rw [hT2]; simp; exact HN.out
        have HO10' := show Hid _ from O11
        have HB10' := show Hid _ from B11
        clear setO O10 B10 O11 B11 htt hT2
        go_upto_region 10 with fail
        obtain ⟨w10, hw10⟩ : ∃ w10, w10 = (w9.setCell ⟨g, bn, none⟩ (.int .i64 (-1))).setCell ⟨g, bn, none⟩ (.int .i64 0) := ⟨_, rfl⟩
        rw [← hw10] at HO10' HB10' ⊢
        have HO10 := HO10'
        have HB10 := HB10'
        have HI10 := show Hid (Ints w10 (some ⟨g, 0, none⟩) c2 (T2 ++ [-71, -72])) from by
          obtain ⟨a8, c8, e8, hI8⟩ := HO10'.out.ints
          cases e8
          exact hI8
        clear hw10 k0 f0 k1 f1 kt kt1
        go_wp2_with (first
          | (at_builtin; refine wpList_copyW (by rfl) _ _ rfl w10.heap.size rfl (some ⟨g, 0, none⟩) (n + 2) c2 (T2 ++ [-71, -72]) HO10.out.len HI10.out (fun e => by cases e) rfl (by omega) (Nat.le_refl _) ?_; intro v11 w11 o11 b11
             have hs11 := b11.size
             have HO11 := show Hid _ from o11
             have HB11 := show Hid _ from b11
             obtain ⟨g11, c11, e11, hc11, hc11', _, _⟩ := own_some o11.out (by omega)
             subst e11
             clear o11 b11))
        have HO12 := show Hid (OwnI w11 B (.slice (some ⟨g, 0, none⟩) (n + 2) c2) (n + 2) (T2 ++ [-71, -72])) from HO10.out.keep HB11.out
        refine (over_any w11 (some ⟨g, 0, none⟩) n c2 T2 HT2.out (HO12.out.prefix HT2.out hc2' hc2) a (bn : Int)).mono ?_
        rintro e w12 ⟨rfl, rfl⟩
        obtain ⟨y, hy⟩ : ∃ y, y = overP T2 a (bn : Int) := ⟨_, rfl⟩
        rw [← hy]
        have HY : Hid (y = overP T2 a (bn : Int)) := hy
        clear hy
        go_wp2_with fail
        refine (refOver_any w12 (some ⟨g11, 0, none⟩) n c11 T2 HT2.out (HO11.out.prefix HT2.out hc11' hc11) a (bn : Int)).mono ?_
        rintro e w13 ⟨rfl, rfl⟩
        rw [← HY.out]
        have hyy : (y == y) = true := by simp
        go_wp2_with fail
        obtain ⟨a8, c8, e8, hI8⟩ := HO12.out.ints
        cases e8
        obtain ⟨a9, c9, e9, hI9⟩ := HO11.out.ints
        cases e9
        refine (same_any w13 (some ⟨g, 0, none⟩) (some ⟨g11, 0, none⟩) c2 c11 (n + 2) (n + 2) (T2 ++ [-71, -72]) (T2 ++ [-71, -72]) HO12.out.len HO12.out.len hI8 hI9).mono ?_
        rintro e w14 ⟨rfl, b14⟩
        have HB14 := show Hid (Below w.heap.size w w14) from (HB10.out.trans (HB11.out.mono (by have := HB10.out.size; omega))).trans (b14.mono (by have := HB10.out.size; omega))
        clear b14 hI8 hI9
        rw [show (decide (T2 ++ [-71, -72] = T2 ++ [-71, -72])) = true from by simp]
        go_wp2_with fail
        go_ret
        exact ⟨rfl, HB14.out⟩
      · have HT2 : Hid (n = (T.set bn (-1)).length) := by show _ = _; simp; exact HN.out
        obtain ⟨T2, hT2⟩ : ∃ T2, T2 = T.set bn (-1) := ⟨_, rfl⟩
        rw [← hT2] at O10 HT2
        have HO10' := show Hid _ from O10
        have HB10' := show Hid _ from B10
        clear setO O10 B10 htt hT2
        go_upto_region 10 with fail
        obtain ⟨w10, hw10⟩ : ∃ w10, w10 = w9.setCell ⟨g, bn, none⟩ (.int .i64 (-1)) := ⟨_, rfl⟩
        rw [← hw10] at HO10' HB10' ⊢
        have HO10 := HO10'
        have HB10 := HB10'
        have HI10 := show Hid (Ints w10 (some ⟨g, 0, none⟩) c2 (T2 ++ [-71, -72])) from by
          obtain ⟨a8, c8, e8, hI8⟩ := HO10'.out.ints
          cases e8
          exact hI8
        clear hw10 k0 f0 kt kt1
        go_wp2_with (first
          | (at_builtin; refine wpList_copyW (by rfl) _ _ rfl w10.heap.size rfl (some ⟨g, 0, none⟩) (n + 2) c2 (T2 ++ [-71, -72]) HO10.out.len HI10.out (fun e => by cases e) rfl (by omega) (Nat.le_refl _) ?_; intro v11 w11 o11 b11
             have hs11 := b11.size
             have HO11 := show Hid _ from o11
             have HB11 := show Hid _ from b11
             obtain ⟨g11, c11, e11, hc11, hc11', _, _⟩ := own_some o11.out (by omega)
             subst e11
             clear o11 b11))
        have HO12 := show Hid (OwnI w11 B (.slice (some ⟨g, 0, none⟩) (n + 2) c2) (n + 2) (T2 ++ [-71, -72])) from HO10.out.keep HB11.out
        refine (over_any w11 (some ⟨g, 0, none⟩) n c2 T2 HT2.out (HO12.out.prefix HT2.out hc2' hc2) a (bn : Int)).mono ?_
        rintro e w12 ⟨rfl, rfl⟩
        obtain ⟨y, hy⟩ : ∃ y, y = overP T2 a (bn : Int) := ⟨_, rfl⟩
        rw [← hy]
        have HY : Hid (y = overP T2 a (bn : Int)) := hy
        clear hy
        go_wp2_with fail
        refine (refOver_any w12 (some ⟨g11, 0, none⟩) n c11 T2 HT2.out (HO11.out.prefix HT2.out hc11' hc11) a (bn : Int)).mono ?_
        rintro e w13 ⟨rfl, rfl⟩
        rw [← HY.out]
        have hyy : (y == y) = true := by simp
        go_wp2_with fail
        obtain ⟨a8, c8, e8, hI8⟩ := HO12.out.ints
        cases e8
        obtain ⟨a9, c9, e9, hI9⟩ := HO11.out.ints
        cases e9
        refine (same_any w13 (some ⟨g, 0, none⟩) (some ⟨g11, 0, none⟩) c2 c11 (n + 2) (n + 2) (T2 ++ [-71, -72]) (T2 ++ [-71, -72]) HO12.out.len HO12.out.len hI8 hI9).mono ?_
        rintro e w14 ⟨rfl, b14⟩
        have HB14 := show Hid (Below w.heap.size w w14) from (HB10.out.trans (HB11.out.mono (by have := HB10.out.size; omega))).trans (b14.mono (by have := HB10.out.size; omega))
        clear b14 hI8 hI9
        rw [show (decide (T2 ++ [-71, -72] = T2 ++ [-71, -72])) = true from by simp]
        go_wp2_with fail
        go_ret
        exact ⟨rfl, HB14.out⟩
end Go.Proofs.Ythjjdfiaikibaaa
