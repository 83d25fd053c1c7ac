import Derived.Test.YtdoiblknbpbhaaaMvV
set_option linter.unusedVariables false
set_option linter.unusedSimpArgs false
namespace Go.Proofs.Ytdoiblknbpbhaaa
open Go.ChangeShapes Go.WideShapes Go.ChangeAt Go.RowKit Go.Maps

abbrev Cl := Lc × Int
/-- What a place holds at first. -/
def hz (p : Lc) : Int := wrap64 (wrap64 (wrap64 (1000000007 * p.1) + wrap64 (p.2 * 31)) + 5)
def h00 (p : Lc) : Int := if p.1 = 3 then p.2 else hz p
def hl : List Cl → Lc → Int
  | [], p => hz p
  | c :: r, p => if c.1 = p then c.2 else hl r p
def hld (C : List Cl) (p : Lc) : Int := if p.1 = 3 then p.2 else hl C.reverse p
/-- The cells behind some moves. -/
def cls (L : List Mv) : Nat → List Cl
  | 0 => []
  | k + 1 => cls L k ++ [((L.getD k ((0, 0), (0, 0))).1, ex h00 (L.take k) (L.getD k ((0, 0), (0, 0))).2)]
theorem cls_len (L : List Mv) : ∀ k, (cls L k).length = k
  | 0 => rfl
  | k + 1 => by simp [cls, cls_len L k]
theorem hld_snoc (C : List Cl) (c : Cl) (p : Lc) : hld (C ++ [c]) p = if p.1 = 3 then p.2 else if c.1 = p then c.2 else hl C.reverse p := by
  unfold hld
  rw [List.reverse_append]
  rfl
theorem hld_cls (L : List Mv) (hk : ∀ m ∈ L, m.1.1 ≠ 3) : ∀ k, k ≤ L.length → ∀ p, hld (cls L k) p = ex h00 (L.take k) p
  | 0, _, p => by simp [hld, cls, hl, ex, h00]
  | k + 1, h, p => by
    have hkl : k < L.length := by omega
    have e1 : L.getD k ((0, 0), (0, 0)) = L[k] := by simp [List.getD_eq_getElem?_getD, hkl]
    rw [cls, hld_snoc, List.take_succ_eq_append_getElem hkl, ex_snoc, e1]
    have ih := hld_cls L hk k (by omega) p
    by_cases h3 : p.1 = 3
    · rw [if_pos h3]
      have hne : p ≠ L[k].1 := fun e => hk L[k] (List.getElem_mem hkl) (by rw [← e]; exact h3)
      rw [if_neg hne, ← ih]
      simp [hld, h3]
    · rw [if_neg h3]
      by_cases e : L[k].1 = p
      · rw [if_pos e, if_pos e.symm]
      · rw [if_neg e, if_neg (fun e2 => e e2.symm), ← ih]
        simp [hld, h3]
/-- Cells in block b from o on. -/
structure AtC (w : World) (b o : Nat) (M : List Cl) : Prop where
  lt : b < w.heap.size
  cell : ∀ i (h : i < M.length), w.cell? ⟨b, o + i * 3, none⟩ = some (.int .i64 M[i].1.1) ∧ w.cell? ⟨b, o + i * 3 + 1, none⟩ = some (.int .i64 M[i].1.2) ∧ w.cell? ⟨b, o + i * 3 + 2, none⟩ = some (.int .i64 M[i].2)
structure Cls (w : World) (ao : Option Addr) (cap : Nat) (L : List Cl) : Prop where
  le : L.length ≤ cap
  mx : cap ≤ 9223372036854775807
  out : L ≠ [] → ∃ b o, ao = some ⟨b, o, none⟩ ∧ AtC w b o L
theorem Cls.below {w w' ao cap L K} (h : Cls w ao cap L) (hb : Below K w w') (hK : w.heap.size ≤ K) : Cls w' ao cap L :=
  ⟨h.le, h.mx, fun hn => by
    obtain ⟨b, o, e, hA⟩ := h.out hn
    have hbK : b < K := Nat.lt_of_lt_of_le hA.lt hK
    refine ⟨b, o, e, by have := hb.size; have := hA.lt; omega, fun i hi => ?_⟩
    have := hA.cell i hi
    rw [hb.cell (p := ⟨b, o + i * 3, none⟩) hbK, hb.cell (p := ⟨b, o + i * 3 + 1, none⟩) hbK, hb.cell (p := ⟨b, o + i * 3 + 2, none⟩) hbK]
    exact this⟩
theorem Cls.at {w ao cap L} (h : Cls w ao cap L) {i : Nat} (hi : i < L.length) : ∃ b o, ao = some ⟨b, o, none⟩ ∧ b < w.heap.size ∧ w.cell? ⟨b, o + i * 3, none⟩ = some (.int .i64 L[i].1.1) ∧ w.cell? ⟨b, o + i * 3 + 1, none⟩ = some (.int .i64 L[i].1.2) ∧ w.cell? ⟨b, o + i * 3 + 2, none⟩ = some (.int .i64 L[i].2) := by
  obtain ⟨b, o, e, hA⟩ := h.out (by rintro rfl; simp at hi)
  obtain ⟨h1, h2, h3⟩ := hA.cell i hi
  exact ⟨b, o, e, hA.lt, h1, h2, h3⟩
theorem Cls.nil (w : World) : Cls w none 0 [] := ⟨Nat.le_refl _, by omega, fun h => absurd rfl h⟩
def ccs (L : List Cl) : List Value := L.flatMap fun m => [.int .i64 m.1.1, .int .i64 m.1.2, .int .i64 m.2]
theorem ccs_len : ∀ L : List Cl, (ccs L).length = L.length * 3
  | [] => rfl
  | m :: L => by
    have := ccs_len L
    unfold ccs at this ⊢
    simp only [List.flatMap_cons, List.length_append, List.length_cons, List.length_nil, this]
    omega
theorem ccs_at : ∀ (L : List Cl) (i : Nat) (h : i < L.length), (ccs L)[i * 3]? = some (.int .i64 L[i].1.1) ∧ (ccs L)[i * 3 + 1]? = some (.int .i64 L[i].1.2) ∧ (ccs L)[i * 3 + 2]? = some (.int .i64 L[i].2)
  | m :: L, 0, _ => ⟨rfl, rfl, rfl⟩
  | m :: L, i + 1, h => by
    have := ccs_at L i (by simpa using h)
    have e : ccs (m :: L) = .int .i64 m.1.1 :: .int .i64 m.1.2 :: .int .i64 m.2 :: ccs L := rfl
    rw [e, show (i + 1) * 3 = i * 3 + 1 + 1 + 1 by omega]
    exact this
structure OwnC (w : World) (B : Nat) (v : Value) (n : Nat) (L : List Cl) : Prop where
  len : n = L.length
  out : w.ownsRow B 39 3 v n (ccs L)
theorem OwnC.nil (w : World) (B : Nat) : OwnC w B (.slice none 0 0) 0 [] := ⟨rfl, World.ownsRow_nil _ _ _ _⟩
theorem OwnC.keep {w w' B v n L} (h : OwnC w B v n L) (hb : Below w.heap.size w w') : OwnC w' B v n L := ⟨h.len, own_keep h.out hb.block⟩
theorem OwnC.cls {w B v n L} (h : OwnC w B v n L) : ∃ ao c, v = .slice ao n c ∧ Cls w ao c L := by
  obtain ⟨ao, c, e, h1, h2⟩ := own_slice h.out
  subst e
  refine ⟨ao, c, rfl, by rw [← h.len]; exact h1, h2, fun hn => ?_⟩
  have hp : 0 < n := by rw [h.len]; exact List.length_pos_iff.2 hn
  obtain ⟨g, c', e, _, _, hB, hg⟩ := own_some h.out hp
  cases e
  refine ⟨g, 0, rfl, hg, fun i hi => ?_⟩
  have hl := h.len
  obtain ⟨m0, m1, m2⟩ := ccs_at L i hi
  simp only [Nat.zero_add]
  rw [own_cell h.out (i * 3) (by omega), own_cell h.out (i * 3 + 1) (by omega), own_cell h.out (i * 3 + 2) (by omega)]
  exact ⟨m0, m1, m2⟩
theorem info_cl : (Try.prog.info? 39).map (fun i => (i.zero, i.size, i.bytes)) = some (some (.agg #[.int .i64 0, .int .i64 0, .int .i64 0]), 3, 24) := by kernel_rfl
/-- append(cells, c) in a statement that draws its order. -/
theorem step_append_cl {w : World} {ops : Array Oper} {op : Oper} {a : Act} {K : Act → World → Prop} {Q : Exit → Act → World → Prop} {E : Prop} (hgd : op.guard = none) (s x : Operand)
    (ho : op.op = .call { callee := .builtin .append, args := #[s, x], argTypes := #[34, 34] })
    (B : Nat) (v : Value) (n : Nat) (L : List Cl) (m1 m2 m3 : Int) (hs : a.eval s = v) (hown : OwnC w B v n L) (g : Nat) (hx : a.eval x = .slice (some ⟨g, 0, none⟩) 1 1)
    (c0 : w.cell? ⟨g, 0, none⟩ = some (.int .i64 m1)) (c1 : w.cell? ⟨g, 1, none⟩ = some (.int .i64 m2)) (c2 : w.cell? ⟨g, 2, none⟩ = some (.int .i64 m3))
    (hl : n + 1 ≤ 100000000) (hB : B ≤ w.heap.size)
    (h : ∀ v' w', OwnC w' B v' (n + 1) (L ++ [((m1, m2), m3)]) → GI B w w' v v' → K (a.put op.dst v') w') : if Region.wanted op (yielded ops a.tmps) = true then Oper.wp Try.prog op a w K Q else E := by
  have hw : Region.wanted op (yielded ops a.tmps) = true := by simp [Region.wanted, hgd]
  rw [if_pos hw]
  obtain ⟨i0, hi, hz0, hz1, hz2⟩ := info_parts info_cl
  obtain ⟨v', w', hr, h2, h3, h4⟩ := run_append_where (P := Try.prog) (w := w) B 34 op.type 39 i0 _ 3 24 Try.underlying34 hi hz0 hz1 hz2 rfl (by decide) v n (ccs L) hown.out ⟨g, 0, none⟩ 1 1 (by omega) [.int .i64 m1, .int .i64 m2, .int .i64 m3] rfl (fun j u hj => by
    rw [add_none, Nat.zero_add]
    match j, hj with
    | 0, hj => simp at hj; subst hj; exact c0
    | 1, hj => simp at hj; subst hj; exact c1
    | 2, hj => simp at hj; subst hj; exact c2
    | j + 3, hj => simp at hj) (fun u hu => by simp at hu; rcases hu with rfl | rfl | rfl <;> rfl) (by unfold maxLen; omega) (by omega) hB
  unfold Oper.wp execOp
  simp only [ho, resolve, invoke, builtin, Sem.run_bind, Sem.run_pure, Result.andThen_ok, List.map_toArray, List.map_cons, List.map_nil, hs, hx, hr]
  refine h v' w' ⟨by simp; exact hown.len, by unfold ccs at h2 ⊢; rw [List.flatMap_append]; exact h2⟩ ⟨?_, fun b h5 h6 => grown_at h3 h5 h6, fun b hb => ?_⟩
  · exact (Below.refl _ _).grown h3 hB (fun k hk => (own_block hown.out hk).1)
  · rcases h4.out with ⟨g', cap, e1, e2⟩ | ⟨e1, _⟩
    · subst e1 e2; exact .inl hb
    · rw [e1] at hb; cases hb; right; exact Nat.le_refl _
set_option maxRecDepth 100000 in
set_option maxHeartbeats 4000000 in
theorem held_any (w : World) {ca : Option Addr} {n cc : Nat} {C : List Cl} (hC : Cls w ca cc C) (hn : n = C.length) (p : Lc) :
    Calls Try.prog 15 #[.slice ca n cc, .agg #[.int .i64 p.1, .int .i64 p.2]] w fun e w' => e = .returned (.int .i64 (hld C p)) ∧ Below w.heap.size w w' := by
  obtain ⟨p1, p2⟩ := p
  have hmx : n ≤ 9223372036854775807 := by have := hC.le; have := hC.mx; omega
  have HC : Hid (Cls w ca cc C) := hC
  have HN : Hid (n = C.length) := hn
  clear hC hn
  simp only
  by_cases h3 : p1 = 3
  · subst h3
    unfold hld
    rw [if_pos rfl]
    go_enter Try.func15, Try.ntmps15
    go_wp2_with fail
    go_ret
    exact ⟨rfl, below_new _ _⟩
  · have e3 : (p1 == 3) = false := by simpa using h3
    have hq : hld C (p1, p2) = hl C.reverse (p1, p2) := by unfold hld; rw [if_neg h3]
    rw [hq]
    obtain ⟨R, hR⟩ : ∃ R, hl C.reverse (p1, p2) = R := ⟨_, rfl⟩
    have HR : Hid (hl C.reverse (p1, p2) = R) := hR
    rw [hR]
    clear hR hq
    obtain ⟨wt, hwt⟩ : ∃ W, W = w.alloc (.cells #[.int .i64 p1, .int .i64 p2] 24) := ⟨_, rfl⟩
    have HB0 : Hid (Below w.heap.size w wt) := by rw [hwt]; exact below_new _ _
    have HT0 : Hid (wt.heap[w.heap.size]? = some (.cells #[.int .i64 p1, .int .i64 p2] 24 (0, 0))) := by rw [hwt]; exact heap_alloc_new _ _
    have hw1 : IntKind.i64.wrap ((n : Int) - 1) = (n : Int) - 1 := by rw [IntKind.wrap_i64]; omega
    go_enter Try.func15, Try.ntmps15
    go_wp2_with fail
    rw [← hwt]
    clear hwt hw1
    go_loopw [5] (fun v wr => ∃ k : Nat, k ≤ n ∧ v = .int .i64 ((k : Int) - 1) ∧ Hid (hl (C.take k).reverse (p1, p2) = R) ∧ Hid (Below w.heap.size w wr) ∧ Hid (wr.heap[w.heap.size]? = some (.cells #[.int .i64 p1, .int .i64 p2] 24 (0, 0)))) (fun v _ => (intOf v + 1).toNat)
    case atStart => exact ⟨n, Nat.le_refl _, rfl, by rw [HN.out, List.take_length]; exact HR, HB0, HT0⟩
    case round =>
      clear HB0 HT0
      obtain ⟨k, hk, rfl, HP, HB, HT⟩ := hrel
      have x0 : wr.cell? ⟨w.heap.size, 0, none⟩ = some (.int .i64 p1) := cell_arr HT.out rfl
      have x1 : wr.cell? ⟨w.heap.size, 1, none⟩ = some (.int .i64 p2) := cell_arr HT.out rfl
      have xs : w.heap.size < wr.heap.size := (Array.getElem?_eq_some_iff.1 HT.out).1
      by_cases hk0 : 0 < k
      · obtain ⟨j, rfl⟩ : ∃ j, k = j + 1 := ⟨k - 1, by omega⟩
        have hjf : j < C.length := by have := HN.out; omega
        obtain ⟨b, o, rfl, hbl, c0, c1, c2⟩ := (HC.out.below HB.out (Nat.le_refl _)).at hjf
        have hst : (C.take (j + 1)).reverse = C[j] :: (C.take j).reverse := by rw [List.take_succ_eq_append_getElem hjf]; simp
        have HPP := HP.out
        rw [hst] at HPP
        generalize C[j] = m at c0 c1 c2 HPP
        obtain ⟨⟨m1, m2⟩, m3⟩ := m
        simp only at c0 c1 c2
        unfold hl at HPP
        have HNX : Hid ((if ((m1, m2) : Lc) = (p1, p2) then m3 else hl (C.take j).reverse (p1, p2)) = R) := HPP
        have hji : (0 : Int) ≤ (j : Int) := by omega
        have hjn : j < n := by omega
        have hc1 : ((j + 1 : Nat) : Int) - 1 = (j : Int) := by omega
        rw [hc1]
        have hw2 : IntKind.i64.wrap ((j : Int) - 1) = (j : Int) - 1 := by rw [IntKind.wrap_i64]; omega
        clear HPP hst HP hc1
        obtain ⟨e1, q1⟩ : ∃ e, (m1 == p1) = e := ⟨_, rfl⟩
        obtain ⟨e2, q2⟩ : ∃ e, (m2 == p2) = e := ⟨_, rfl⟩
        have HQ : Hid ((e1 && e2) = decide (((m1, m2) : Lc) = (p1, p2))) := by
          show _ = _
          rw [← q1, ← q2, Bool.eq_iff_iff]; simp
        cases e1
        ·
          go_wp2_with fail
          go_quiet (fail)
          go_wp2_with fail
          go_roundw
          case rel => exact ⟨j, by omega, by go_num, by have := HNX.out; rwa [if_neg (by simpa using HQ.out)] at this, HB.out.trans ((below_drewN0 _ _).mono HB.out.size), HT.out⟩
          case measure => simp [intOf]
        · cases e2
          ·
            go_wp2_with fail
            go_quiet (fail)
            go_wp2_with fail
            go_roundw
            case rel => exact ⟨j, by omega, by go_num, by have := HNX.out; rwa [if_neg (by simpa using HQ.out)] at this, HB.out.trans ((below_drewN0 _ _).mono HB.out.size), HT.out⟩
            case measure => simp [intOf]
          · go_wp2_with fail
            go_quiet (fail)
            go_wp2_with fail
            go_ret
            refine ⟨?_, HB.out.trans ((below_drewN0 _ _).mono HB.out.size)⟩
            have := HNX.out
            rw [if_pos (by simpa using HQ.out)] at this
            rw [← this]
            try rfl
      · obtain rfl : k = 0 := by omega
        have hR : hz (p1, p2) = R := by simpa [hl] using HP.out
        have HRR : Hid (hz (p1, p2) = R) := hR
        clear hR HP HR
        have hc0 : ((0 : Nat) : Int) - 1 = -1 := by omega
        rw [hc0]
        go_wp2_with fail
        go_ret
        refine ⟨?_, HB.out⟩
        rw [← HRR.out]
        try rfl
end Go.Proofs.Ytdoiblknbpbhaaa
