import Derived.Test.YtplpgeocidllfaaOrN
set_option linter.unusedVariables false
set_option linter.unusedSimpArgs false
namespace Go.Proofs.Ytplpgeocidllfaa
open Go.ChangeShapes Go.WideShapes Go.ChangeAt Go.RowKit Go.Maps

/-- The blocks that were found so far; the first i were gone over. -/
structure QP (Ls : List (List Int)) (f : Int) (ml : List Int) (i : Nat) : Prop where
  nd : ml.Nodup
  rng : ∀ x ∈ ml, 0 ≤ x ∧ x < Ls.length
  me : f ∈ ml
  rc : ∀ x ∈ ml, Rc Ls f x
  cl : ∀ k, k < i → ∀ y ∈ rowOf Ls (ml.getD k 0), y ∈ ml
  le : i ≤ ml.length
theorem QP.len {Ls f ml i} (h : QP Ls f ml i) : ml.length ≤ Ls.length := nodup_le _ _ h.nd h.rng
theorem QP.more {Ls : List (List Int)} {f : Int} {ml : List Int} {i : Nat} (hg : goodP Ls = true) (h : QP Ls f ml i) (hi : i < ml.length) {b : Int} (hb : b ∉ ml) (hr : b ∈ rowOf Ls (ml.getD i 0)) : QP Ls f (ml ++ [b]) i := by
  have hm : ml.getD i 0 ∈ ml := by rw [List.getD, List.getElem?_eq_getElem hi]; simp
  refine ⟨?_, ?_, by simp [h.me], ?_, ?_, by simp; omega⟩
  · rw [List.nodup_append]
    exact ⟨h.nd, by simp, fun a ha c hc => by simp at hc; subst hc; exact fun e => hb (e ▸ ha)⟩
  · intro x hx
    simp only [List.mem_append, List.mem_singleton] at hx
    rcases hx with hx | rfl
    · exact h.rng x hx
    · exact row_good hg hr
  · intro x hx
    simp only [List.mem_append, List.mem_singleton] at hx
    rcases hx with hx | rfl
    · exact h.rc x hx
    · exact (h.rc _ hm).trans (Rc.edge hr)
  · intro k hk y hy
    rw [List.getD, List.getElem?_append_left (by omega), ← List.getD] at hy
    simp only [List.mem_append]
    exact .inl (h.cl k hk y hy)
theorem QP.next {Ls : List (List Int)} {f : Int} {ml : List Int} {i : Nat} (h : QP Ls f ml i) (hi : i < ml.length) (hr : ∀ j, j < (rowOf Ls (ml.getD i 0)).length → (rowOf Ls (ml.getD i 0)).getD j 0 ∈ ml) : QP Ls f ml (i + 1) := by
  refine ⟨h.nd, h.rng, h.me, h.rc, fun k hk y hy => ?_, hi⟩
  by_cases e : k = i
  · subst e
    obtain ⟨j, hj, rfl⟩ := row_mem_iff hy
    exact hr j hj
  · exact h.cl k (by omega) y hy
theorem QP.done {Ls : List (List Int)} {f : Int} {ml : List Int} (h : QP Ls f ml ml.length) (x : Int) : x ∈ ml ↔ Rc Ls f x := by
  refine ⟨h.rc x, fun hr => hr.closed (S := fun x => x ∈ ml) (fun y hy z hz => ?_) h.me⟩
  obtain ⟨k, hk, e⟩ := List.mem_iff_getElem.1 hy
  refine h.cl k hk z ?_
  rw [List.getD, List.getElem?_eq_getElem hk]
  simpa [e] using hz
/-- Its memory. -/
structure QH (w wr : World) (B n : Nat) (lv : Value) (ml : List Int) : Prop where
  mr : MR wr B n ml
  ln : OwnI wr B lv ml.length ml
  bel : Below B w wr
theorem QH.more {w wr w5 : World} {B n : Nat} {lv v5 : Value} {ml : List Int} {b : Nat} (h : QH w wr B n lv ml) (o : OwnI w5 B v5 (ml.length + 1) (ml ++ [(b : Int)])) (g : GI B (wr.setCell ⟨B, b, none⟩ (.bool true)) w5 lv v5) : QH w w5 B n v5 (ml ++ [(b : Int)]) := by
  have hm := h.mr
  unfold MR at hm
  have hlt := (Array.getElem?_eq_some_iff.1 hm).1
  have hne : lv.ownBlock ≠ some B := own_not h.ln.out hm (by decide)
  refine ⟨?_, by rw [List.length_append]; exact o, (h.bel.setCell (Nat.le_refl _) _).trans g.bel⟩
  have := h.mr.set (b := b)
  unfold MR at this ⊢
  rw [g.blk B (by simp [World.setCell]; exact hlt) hne]
  exact this
set_option maxRecDepth 100000 in
set_option maxHeartbeats 4000000 in
theorem reached_any (w : World) (ao : Option Addr) (n c : Nat) (Ls : List (List Int)) (hn : n = Ls.length) (hI : IRow w ao c Ls) (hg : goodP Ls = true) (hsz : n ≤ 1000000) (f : Nat) (hf : f < n) :
    Calls Try.prog 17 #[.slice ao n c, .int .i64 f] w fun e w' => e = .returned (.slice (some ⟨w.heap.size, 0, none⟩) n n) ∧ (∃ ml, MR w' w.heap.size n ml ∧ ∀ x, x ∈ ml ↔ Rc Ls (f : Int) x) ∧ Below w.heap.size w w' := by
  have hnc : n ≤ c := by have := hI.le; omega
  have hcm : c ≤ 9223372036854775807 := hI.mx
  have hmk := run_make_row' (P := Try.prog) 32 4 (.bool false) 1 Try.underlying32 infoBool rfl .i64 .i64 n (by omega) (by omega)
  have HN : Hid (n = Ls.length) := hn
  have HI : Hid (IRow w ao c Ls) := hI
  have HG : Hid (goodP Ls = true) := hg
  clear hn hI hg
  obtain ⟨W1, hW1⟩ : ∃ W1, W1 = w.alloc (.cells (madeCells #[.bool false] n) 4) := ⟨_, rfl⟩
  have mr1 : MR W1 w.heap.size n [] := by
    unfold MR
    rw [hW1, heap_alloc_new, rch_nil, List.map_replicate, ← toList_madeCells_one, Array.toArray_toList]
  have b1 : Below w.heap.size w W1 := by rw [hW1]; exact (Below.refl _ _).alloc (Nat.le_refl _) _
  have k1 := mr1.cell hf
  have f1 : W1.frozen? ⟨w.heap.size, f, none⟩ = false := by unfold MR at mr1; exact fz_of mr1
  have hs1 : W1.heap.size = w.heap.size + 1 := by rw [hW1]; simp
  obtain ⟨W2, hW2⟩ : ∃ W2, W2 = W1.setCell ⟨w.heap.size, f, none⟩ (.bool true) := ⟨_, rfl⟩
  have hs2 : W2.heap.size = w.heap.size + 1 := by rw [hW2, ← hs1]; simp [World.setCell]
  have mr2 : MR W2 w.heap.size n [(f : Int)] := by rw [hW2]; exact mr1.set
  have b2 : Below w.heap.size w W2 := by rw [hW2]; exact b1.setCell (Nat.le_refl _) _
  have o3 := own_one W2 w.heap.size (by omega) (f : Int)
  have mr3 : MR (W2.alloc (.cells #[.int .i64 (f : Int)] 3)) w.heap.size n [(f : Int)] := by
    unfold MR at mr2 ⊢
    rw [heap_alloc_old _ _ (by omega)]; exact mr2
  obtain ⟨B, hB⟩ : ∃ B, B = w.heap.size := ⟨_, rfl⟩
  have ST : Hid (QH w (W2.alloc (.cells #[.int .i64 (f : Int)] 3)) B n (.slice (some ⟨W2.heap.size, 0, none⟩) 1 1) [(f : Int)]) := by
    rw [hB]; exact ⟨mr3, o3, b2.alloc (by omega) _⟩
  have SP : Hid (QP Ls (f : Int) [(f : Int)] 0) := by
    refine ⟨by simp, ?_, by simp, ?_, fun k hk => absurd hk (by omega), by simp⟩
    · intro x hx; simp at hx; subst hx; have := HN.out; omega
    · intro x hx; simp at hx; subst hx; exact Rc.refl _ _
  have HW1 : Hid (W1 = w.alloc (.cells (madeCells #[.bool false] n) 4)) := hW1
  have HW2 : Hid (W2 = W1.setCell ⟨w.heap.size, f, none⟩ (.bool true)) := hW2
  have HB : Hid (B = w.heap.size) := hB
  clear mr1 mr2 mr3 b1 b2 o3 hs1 hs2 hW1 hW2
  go_enter Try.func17, Try.ntmps17
  go_upto_region 2 with fail
  rw [← HW1.out]
  clear hmk
  go_upto_region 3 with fail
  rw [← HW2.out]
  clear k1 f1 HW1 HW2
  go_wp2_with fail
  rw [← hB]
  clear hB
  go_loopg [6, 7] n (fun q lv iv wr => ∃ (i : Nat) (ml : List Int) (a6 : Option Addr) (c6 : Nat), i ≤ n ∧ q = n - i ∧ lv = .slice a6 ml.length c6 ∧ iv = .int .i64 (i : Int) ∧ Hid (QH w wr B n (.slice a6 ml.length c6) ml) ∧ Hid (QP Ls (f : Int) ml i))
  case atStart => exact ⟨0, [(f : Int)], _, _, by omega, by omega, rfl, rfl, ST.out, SP.out⟩
  case round =>
    clear ST SP
    obtain ⟨i, ml, a6, c6, hi, rfl, rfl, rfl, HQ, HP⟩ := hrel
    have hml : ml.length ≤ n := by have := HP.out.len; have := HN.out; omega
    by_cases hlt : i < ml.length
    · obtain ⟨gl, _, e9, hc6, hc6', _, _⟩ := own_some HQ.out.ln.out (by omega)
      cases e9
      have kx : wr.cell? ⟨gl, i, none⟩ = some (.int .i64 (ml.getD i 0)) := by
        rw [own_cell HQ.out.ln.out i (by omega)]; simp [ivs, hlt]
      have hxm : ml.getD i 0 ∈ ml := by rw [List.getD, List.getElem?_eq_getElem hlt]; simp
      have hxr := HP.out.rng _ hxm
      obtain ⟨x, hx⟩ : ∃ x, x = ml.getD i 0 := ⟨_, rfl⟩
      rw [← hx] at kx hxr
      obtain ⟨xn, rfl⟩ : ∃ xn : Nat, x = (xn : Int) := ⟨x.toNat, by omega⟩
      have hxn : xn < n := by have := HN.out; omega
      have hxL : xn < Ls.length := by have := HN.out; omega
      obtain ⟨rb, ro, ar, cr, rfl, krw, hIr⟩ := HI.out.at hxL
      rw [← rowOf_at hxL] at krw hIr
      obtain ⟨row, hrow⟩ : ∃ row, row = rowOf Ls (xn : Int) := ⟨_, rfl⟩
      rw [← hrow] at krw hIr
      obtain ⟨m, hm⟩ : ∃ m, m = row.length := ⟨_, rfl⟩
      rw [← hm] at krw
      have hmc : m ≤ cr := by have := hIr.le; omega
      have hmx : cr ≤ 9223372036854775807 := hIr.mx
      have hrb : rb < B := by rw [HB.out]; exact block_lt_of_cell krw
      have HKW : Hid (w.cell? ⟨rb, ro + xn, none⟩ = some (.slice ar m cr)) := krw
      have HIR : Hid (Ints w ar cr row) := hIr
      have HM : Hid (m = row.length) := hm
      have HR : Hid (row = rowOf Ls (xn : Int)) := hrow
      have HX : Hid (∀ ml', ml <+: ml' → (xn : Int) = ml'.getD i 0) := fun ml' ⟨t, e⟩ => by rw [hx, ← e, List.getD, List.getD, List.getElem?_append_left hlt]
      clear krw hIr hm hrow kx hxm hxr hx
      have J0 : Hid (QH w wr B n (.slice (some ⟨gl, 0, none⟩) ml.length c6) ml ∧ QP Ls (f : Int) ml i ∧ ml <+: ml ∧ ∀ j', j' < 0 → row.getD j' 0 ∈ ml) := ⟨HQ.out, HP.out, List.prefix_refl _, fun j' h => absurd h (by omega)⟩
      clear HQ HP
      go_wp2_with fail
      go_loopg [6, 8] m (fun q lv jv wr' => ∃ (j : Nat) (ml' : List Int) (a6 : Option Addr) (c6 : Nat), j ≤ m ∧ q = m - j ∧ lv = .slice a6 ml'.length c6 ∧ jv = .int .i64 (j : Int) ∧ Hid (QH w wr' B n (.slice a6 ml'.length c6) ml' ∧ QP Ls (f : Int) ml' i ∧ ml <+: ml' ∧ ∀ j', j' < j → row.getD j' 0 ∈ ml'))
      case atStart => exact ⟨0, ml, _, _, by omega, by omega, rfl, rfl, J0.out⟩
      case round =>
        clear J0 hc6 hc6'
        obtain ⟨j, ml', a6, c6, hj, rfl, rfl, rfl, HJ⟩ := hrel
        obtain ⟨Q, P, pre, met⟩ := HJ.out
        have hml' : ml'.length ≤ n := by have := P.len; have := HN.out; omega
        have hlt' : i < ml'.length := by have := pre.length_le; omega
        obtain ⟨gl, _, e9, hc6, hc6', _, _⟩ := own_some Q.ln.out (by omega)
        cases e9
        have kx : wr.cell? ⟨gl, i, none⟩ = some (.int .i64 (xn : Int)) := by
          rw [own_cell Q.ln.out i (by omega), HX.out ml' pre]; simp [ivs, hlt']
        have kr : wr.cell? ⟨rb, ro + xn, none⟩ = some (.slice ar m cr) := (Q.bel.cell (p := ⟨rb, ro + xn, none⟩) hrb).trans HKW.out
        by_cases hjm : j < m
        · have hjr : j < row.length := by have := HM.out; omega
          obtain ⟨xb, xo, e9, ky0⟩ := HIR.out.at hjr
          subst e9
          have ky : wr.cell? ⟨xb, xo + j, none⟩ = some (.int .i64 row[j]) := (Q.bel.cell (p := ⟨xb, xo + j, none⟩) (by rw [HB.out]; exact block_lt_of_cell ky0)).trans ky0
          have hyr : row[j] ∈ row := List.getElem_mem hjr
          have hyg : row.getD j 0 = row[j] := by simp [hjr]
          have hyb : 0 ≤ row[j] ∧ row[j] < Ls.length := by have := row_good HG.out (b := (xn : Int)) (y := row[j]) (by rw [← HR.out]; exact hyr); exact this
          obtain ⟨y, hy⟩ : ∃ y, y = row[j] := ⟨_, rfl⟩
          rw [← hy] at ky hyr hyg hyb
          obtain ⟨yn, rfl⟩ : ∃ yn : Nat, y = (yn : Int) := ⟨y.toNat, by omega⟩
          have hyn : yn < n := by have := HN.out; omega
          have ks := Q.mr.cell hyn
          have fs : wr.frozen? ⟨B, yn, none⟩ = false := by have := Q.mr; unfold MR at this; exact fz_of this
          have HYG : Hid (row.getD j 0 = (yn : Int)) := hyg
          by_cases hin : (yn : Int) ∈ ml'
          · rw [decide_eq_true hin] at ks
            have HN2 : Hid (QH w wr B n (.slice (some ⟨gl, 0, none⟩) ml'.length c6) ml' ∧ QP Ls (f : Int) ml' i ∧ ml <+: ml' ∧ ∀ j', j' < j + 1 → row.getD j' 0 ∈ ml') := ⟨Q, P, pre, fun j' h => by
              by_cases e : j' = j
              · subst e; rw [hyg]; exact hin
              · exact met j' (by omega)⟩
            clear HJ Q P pre met hin hyr hyg hyb hy ky0
            go_wp2_with fail
            go_roundg (m - (j + 1))
            case rel => exact ⟨j + 1, ml', _, _, by omega, rfl, rfl, by go_num, HN2.out⟩
            case measure => omega
          · rw [decide_eq_false hin] at ks
            obtain ⟨W3, hW3⟩ : ∃ W3, W3 = wr.setCell ⟨B, yn, none⟩ (.bool true) := ⟨_, rfl⟩
            have hmr := Q.mr
            unfold MR at hmr
            have HLN : Hid (OwnI W3 B (.slice (some ⟨gl, 0, none⟩) ml'.length c6) ml'.length ml') := ⟨Q.ln.len, own_move Q.ln.out fun k hk => by
              rw [hW3]
              exact heap_set_other fun e => own_not Q.ln.out hmr (by decide) (by rw [← e]; exact hk)⟩
            have hB3 : B ≤ W3.heap.size := by
              have h1 := (Array.getElem?_eq_some_iff.1 hmr).1
              rw [hW3]; simp [World.setCell]; omega
            have FIN : Hid (∀ v5 w5, OwnI w5 B v5 (ml'.length + 1) (ml' ++ [(yn : Int)]) → GI B W3 w5 (.slice (some ⟨gl, 0, none⟩) ml'.length c6) v5 → QH w w5 B n v5 (ml' ++ [(yn : Int)]) ∧ QP Ls (f : Int) (ml' ++ [(yn : Int)]) i ∧ ml <+: ml' ++ [(yn : Int)] ∧ ∀ j', j' < j + 1 → row.getD j' 0 ∈ ml' ++ [(yn : Int)]) := fun v5 w5 o5 g5 => by
              rw [hW3] at g5
              refine ⟨Q.more o5 g5, P.more HG.out hlt' hin (by rw [← HX.out ml' pre, ← HR.out]; exact hyr), pre.trans (List.prefix_append _ _), fun j' h => ?_⟩
              simp only [List.mem_append, List.mem_singleton]
              by_cases e : j' = j
              · subst e; exact .inr hyg
              · exact .inl (met j' (by omega))
            have HW3 : Hid (W3 = wr.setCell ⟨B, yn, none⟩ (.bool true)) := hW3
            clear HJ Q P pre met hin hyr hyg hyb hy ky0 hmr hW3
            go_upto_region 13 with fail
            rw [← HW3.out]
            clear kx kr ky ks fs HW3
            go_wp2_with (first
              | (at_builtin; refine wpList_append_intG (w0 := W3) rfl _ _ rfl B (.slice (some ⟨gl, 0, none⟩) ml'.length c6) ml'.length ml' (yn : Int) rfl HLN.out rfl (by omega) hB3 ?_; intro v5 w5 o5 g5
                 have P5 := FIN.out v5 w5 o5 g5
                 have HP5 : Hid _ := P5
                 obtain ⟨a5, c5, e5, _, _⟩ := own_slice o5.out
                 subst e5
                 clear o5 g5 P5 FIN)
              | go_in)
            go_roundg (m - (j + 1))
            case rel =>
              refine ⟨j + 1, ml' ++ [(yn : Int)], a5, c5, by omega, rfl, by simp, by go_num, ?_⟩
              have := HP5.out
              rw [show (ml' ++ [(yn : Int)]).length = ml'.length + 1 by simp]
              exact this
            case measure => omega
        · have HNX : Hid (QH w wr B n (.slice (some ⟨gl, 0, none⟩) ml'.length c6) ml' ∧ QP Ls (f : Int) ml' (i + 1)) := ⟨Q, P.next hlt' (fun j' hj' => by
            rw [← HX.out ml' pre, ← HR.out] at hj' ⊢
            exact met j' (by have := HM.out; omega))⟩
          clear HJ Q P pre met
          go_wp2_with fail
          go_roundg (n - (i + 1))
          case rel => exact ⟨i + 1, ml', _, _, by omega, rfl, rfl, by go_num, HNX.out.1, HNX.out.2⟩
          case measure => omega
    · have hie : i = ml.length := by have := HP.out.le; omega
      have HF : Hid (∀ x, x ∈ ml ↔ Rc Ls (f : Int) x) := by
        have := HP.out
        rw [hie] at this
        exact this.done
      clear HP hie
      go_wp2_with fail
      try rw [Exit.noGoto_ret]
      go_ret
      rw [← HB.out]
      exact ⟨rfl, ⟨ml, HQ.out.mr, HF.out⟩, HQ.out.bel⟩
end Go.Proofs.Ytplpgeocidllfaa
