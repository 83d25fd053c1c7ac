import Derived.Test.YtplpgeocidllfaaOrQ
set_option linter.unusedVariables false
set_option linter.unusedSimpArgs false
namespace Go.Proofs.Ytplpgeocidllfaa
open Go.ChangeShapes Go.WideShapes Go.ChangeAt Go.RowKit Go.Maps

/-- The memory of OrderBack: the line and where each block stands in it. -/
structure BK (w wr : World) (gw n : Nat) (wf : Nat → Int) (B : Nat) (va : Value) (A : List Int) : Prop where
  row : IR wr gw n wf
  oa : OwnI wr B va A.length A
  ap : va.ownBlock ≠ some gw
  bel : Below w.heap.size w wr
theorem BK.keep {w wr w' : World} {gw n wf B va A} (h : BK w wr gw n wf B va A) (hb : Below wr.heap.size wr w') : BK w w' gw n wf B va A :=
  ⟨h.row.move (hb.block _ h.row.lt), h.oa.keep hb, h.ap, h.bel.trans (hb.mono h.bel.size)⟩
theorem lin_where {Ls : List (List Int)} (hg : goodP Ls = true) {wf : Nat → Int} (hw : ∀ k (h : k < (linP Ls).length), wf ((linP Ls)[k]).toNat = k) {i : Nat} (hi : i < (linP Ls).length) {y : Int} (hy : y ∈ rowOf Ls (linP Ls)[i]) (hle : wf y.toNat ≤ i) : Rc Ls y (linP Ls)[i] := by
  have e : linP Ls = (linP Ls).take i ++ (linP Ls)[i] :: (linP Ls).drop (i + 1) := by
    rw [List.getElem_cons_drop, List.take_append_drop]
  rcases lin_back hg e hy with h | h
  · obtain ⟨j, hj, e2⟩ := List.mem_iff_getElem.1 h
    rw [List.getElem_drop] at e2
    simp at hj
    have := hw (i + 1 + j) (by omega)
    rw [e2] at this
    omega
  · exact h
set_option maxRecDepth 100000 in
set_option maxHeartbeats 4000000 in
theorem orderBack_any (w : World) (ao : Option Addr) (n c : Nat) (Ls : List (List Int)) (hn : n = Ls.length) (hI : IRow w ao c Ls) (hz : RZ w ao n) (hl : ∀ l ∈ Ls, l.length ≤ 17592186043904) (hnn : n ≤ 17592186043904) :
    Calls Try.prog 5 #[.slice ao n c] w fun e w' => e = .returned (.bool true) ∧ Below w.heap.size w w' := by
  have hal := aliveO_any w
  have hnc : n ≤ c := by have := hI.le; omega
  have hcm : c ≤ 9223372036854775807 := hI.mx
  have HN : Hid (n = Ls.length) := hn
  have HI : Hid (IRow w ao c Ls) := hI
  have HZ : Hid (RZ w ao n) := hz
  have HL : Hid (∀ l ∈ Ls, l.length ≤ 17592186043904) := hl
  clear hn hI hz hl
  go_enter Try.func5, Try.ntmps5
  go_wp2_with fail
  refine hal.mono ?_
  rintro e w1 ⟨rfl, b1⟩
  have HB1 : Hid (Below w.heap.size w w1) := b1
  clear hal b1
  go_wp2_with fail
  have hhv := heavy_any w1 ao n c Ls HN.out (HI.out.below HB1.out (Nat.le_refl _)) (fun l hl => by have := HL.out l hl; omega) (by omega) 3000 (by omega)
  refine Calls.mono hhv ?_
  rintro e w2 ⟨rfl, rfl⟩
  clear hhv
  by_cases h2 : 3000 < bulkP Ls
  · rw [decide_eq_true h2]
    go_wp2_with fail
    go_ret
    exact ⟨rfl, HB1.out⟩
  rw [decide_eq_false h2]
  have hnb : n ≤ 3000 := by have := HN.out; unfold bulkP at h2; omega
  have HM : Hid (∀ l ∈ Ls, l.length ≤ 1000000) := fun l hl => by have := bulk_row hl; omega
  clear h2 hnn
  go_wp2_with fail
  refine Calls.mono (right_any w2 ao n c Ls HN.out (HI.out.below HB1.out (Nat.le_refl _))) ?_
  rintro e w5 ⟨rfl, rfl⟩
  by_cases hg : goodP Ls = true
  · rw [hg]
    have HG : Hid (goodP Ls = true) := hg
    have hpos : 0 < n := by have := goodP_pos hg; have := HN.out; omega
    clear hg
    go_wp2_with fail
    refine Calls.mono (lent_any w5 ao n c Ls HN.out (HI.out.below HB1.out (Nat.le_refl _)) (HZ.out.below HI.out HN.out HB1.out) (by omega) HM.out) ?_
    rintro e w3 ⟨g4, c4, af, cf, gs, cs, g1, g2, rfl, V, F, NE, T, R1, R2, b3⟩
    have HT : Hid (IRow w3 (some ⟨g4, 0, none⟩) c4 Ls) := lent_irow V T (by simp [ltv_len, HN.out])
    have HB3 : Hid (Below w.heap.size w w3) := HB1.out.trans (b3.mono HB1.out.size)
    clear V F NE T R1 R2 b3 HB1 HM
    go_wp2_with fail
    refine Calls.mono (line_any w3 (some ⟨g4, 0, none⟩) n c4 Ls HN.out HT.out (by omega)) ?_
    rintro e w4 ⟨va, rfl, OA, b4⟩
    have HB4 : Hid (Below w.heap.size w w4) := HB3.out.trans (b4.mono HB3.out.size)
    obtain ⟨r0, hr0⟩ := lin_first HG.out
    have hAp : 0 < (linP Ls).length := by rw [hr0]; simp
    obtain ⟨ga, ca, ea, hca, hca', _, _⟩ := own_some OA.out hAp
    subst ea
    have hAl : (linP Ls).length ≤ n := by rw [HN.out]; exact lin_len
    have HRG : Hid (∀ i (h : i < (linP Ls).length), ∃ xn : Nat, (linP Ls)[i] = (xn : Int) ∧ xn < n) := fun i h => by
      have := lin_rng HG.out (List.getElem_mem h)
      exact ⟨((linP Ls)[i]).toNat, by omega, by have := HN.out; omega⟩
    have HND : Hid (linP Ls).Nodup := lin_nodup HG.out
    have HWH : Hid (∀ (wf : Nat → Int), (∀ k (h : k < (linP Ls).length), wf ((linP Ls)[k]).toNat = k) → ∀ (i : Nat) (hi : i < (linP Ls).length) (y : Int), y ∈ rowOf Ls (linP Ls)[i] → wf y.toNat ≤ i → Rc Ls y (linP Ls)[i]) := fun wf hw i hi y hy hle => lin_where HG.out hw hi hy hle
    have HOA : Hid (OwnI w4 w3.heap.size (.slice (some ⟨ga, 0, none⟩) (linP Ls).length ca) (linP Ls).length (linP Ls)) := OA
    generalize linP Ls = A at HOA HRG HND HWH hca hAl hAp hr0 ⊢
    have hmk := (run_make_row' (P := Try.prog) 27 3 (.int .i64 0) 8 Try.underlying27 info3i rfl .i64 .i64 n (by omega) (by omega)) w4
    obtain ⟨W5, hW5⟩ : ∃ W5, W5 = w4.alloc (.cells (madeCells #[.int .i64 0] n) 3) := ⟨_, rfl⟩
    rw [← hW5] at hmk
    obtain ⟨gw, hgw⟩ : ∃ gw, gw = w4.heap.size := ⟨_, rfl⟩
    have b5 : Below w4.heap.size w4 W5 := by rw [hW5]; exact (Below.refl _ _).alloc (Nat.le_refl _) _
    have HK0 : Hid (∃ wf, BK w W5 gw n wf w3.heap.size (.slice (some ⟨ga, 0, none⟩) A.length ca) A ∧ ∀ k (h : k < A.length), k < 0 → wf (A[k]).toNat = k) := by
      refine ⟨fun _ => 0, ⟨?_, HOA.out.keep b5, ?_, HB4.out.trans (b5.mono HB4.out.size)⟩, fun k _ h => absurd h (by omega)⟩
      · rw [hW5, hgw]; exact IR.made w4 n
      · intro e
        have := (own_block HOA.out.out e).2
        omega
    rw [← hgw] at hmk
    have hgwB : w.heap.size ≤ gw := by rw [hgw]; exact HB4.out.size
    clear OA b4 HT HB3 hr0 hW5 hgw b5 HOA HB4
    go_wp2_with fail
    clear hmk
    go_loopg [9] A.length (fun q iv wr => ∃ i : Nat, i ≤ A.length ∧ q = A.length - i ∧ iv = .int .i64 (i : Int) ∧ Hid (∃ wf, BK w wr gw n wf w3.heap.size (.slice (some ⟨ga, 0, none⟩) A.length ca) A ∧ ∀ k (h : k < A.length), k < i → wf (A[k]).toNat = k))
    case atStart => exact ⟨0, by omega, by omega, rfl, HK0.out⟩
    case round =>
      clear HK0
      obtain ⟨i, hi, rfl, rfl, HS⟩ := hrel
      obtain ⟨wf, K, hwf⟩ := HS.out
      by_cases hlt : i < A.length
      · have kx : wr.cell? ⟨ga, i, none⟩ = some (.int .i64 A[i]) := by rw [own_cell K.oa.out i (by omega)]; simp [ivs, hlt]
        obtain ⟨xn, hx, hxn⟩ := HRG.out i hlt
        rw [hx] at kx
        have ks := K.row.cell hxn
        have fs := K.row.fz xn
        obtain ⟨z, hz⟩ : ∃ z, z = wf xn := ⟨_, rfl⟩
        rw [← hz] at ks
        have HNX : Hid (∃ wf, BK w (wr.setCell ⟨gw, xn, none⟩ (.int .i64 (i : Int))) gw n wf w3.heap.size (.slice (some ⟨ga, 0, none⟩) A.length ca) A ∧ ∀ k (h : k < A.length), k < i + 1 → wf (A[k]).toNat = k) := by
          refine ⟨updN wf xn (i : Int), ⟨K.row.set xn _, K.oa.set_other K.ap, K.ap, K.bel.setCell hgwB _⟩, fun k hk hki => ?_⟩
          unfold updN
          by_cases e : k = i
          · subst e; rw [hx]; simp
          · have hne : ¬ (A[k]).toNat = xn := fun e2 => by
              obtain ⟨yn, hy, _⟩ := HRG.out k hk
              have e3 : A[k] = A[i] := by rw [hy] at e2 ⊢; rw [hx]; omega
              exact e ((List.getElem_inj (h₀ := hk) (h₁ := hlt) HND.out).1 e3)
            rw [if_neg hne]
            exact hwf k hk (by omega)
        have q1 : decide ((xn : Int) < 0) = false := by simp
        have q2 : decide ((n : Int) ≤ (xn : Int)) = false := by simp; omega
        clear HS K hwf hx hz
        go_wp2_with fail
        go_roundg (A.length - (i + 1))
        case rel => exact ⟨i + 1, by omega, rfl, by go_num, HNX.out⟩
        case measure => omega
      · have HW : Hid (∀ k (h : k < A.length), wf (A[k]).toNat = k) := fun k h => hwf k h (by omega)
        have HK : Hid (BK w wr gw n wf w3.heap.size (.slice (some ⟨ga, 0, none⟩) A.length ca) A) := K
        clear HS K hwf
        go_wp2_with fail
        go_loopg [10] A.length (fun q iv wr => ∃ i : Nat, i ≤ A.length ∧ q = A.length - i ∧ iv = .int .i64 (i : Int) ∧ Hid (BK w wr gw n wf w3.heap.size (.slice (some ⟨ga, 0, none⟩) A.length ca) A))
        case atStart => exact ⟨0, by omega, by omega, rfl, HK.out⟩
        case round =>
          clear HK
          obtain ⟨i, hi, rfl, rfl, HK⟩ := hrel
          by_cases hlt : i < A.length
          · obtain ⟨xn, hx, hxn⟩ := HRG.out i hlt
            have hxL : xn < Ls.length := by have := HN.out; omega
            obtain ⟨rb, ro, ar, cr, rfl, krw, hIr⟩ := HI.out.at hxL
            rw [← rowOf_at hxL] at krw hIr
            obtain ⟨row, hrow⟩ : ∃ row, row = rowOf Ls (xn : Int) := ⟨_, rfl⟩
            rw [← hrow] at krw hIr
            obtain ⟨m, hm⟩ : ∃ m, m = row.length := ⟨_, rfl⟩
            rw [← hm] at krw
            have hmc : m ≤ cr := by have := hIr.le; omega
            have hmx : cr ≤ 9223372036854775807 := hIr.mx
            have HKW : Hid (w.cell? ⟨rb, ro + xn, none⟩ = some (.slice ar m cr)) := krw
            have HIR : Hid (Ints w ar cr row) := hIr
            have HMM : Hid (m = row.length) := hm
            have HR : Hid (row = rowOf Ls (xn : Int)) := hrow
            have HX : Hid (A[i] = (xn : Int)) := hx
            have HBK : Hid (∀ yn : Nat, (yn : Int) ∈ row → wf yn ≤ i → Rc Ls (yn : Int) (xn : Int)) := fun yn hy hle => by
              have := HWH.out wf HW.out i hlt (yn : Int) (by rw [hx, ← hrow]; exact hy) (by simpa using hle)
              rw [hx] at this
              exact this
            clear krw hIr hm hrow hx
            go_wp2_with fail
            go_loopg [11] m (fun q jv wr => ∃ j : Nat, j ≤ m ∧ q = m - j ∧ jv = .int .i64 (j : Int) ∧ Hid (BK w wr gw n wf w3.heap.size (.slice (some ⟨ga, 0, none⟩) A.length ca) A))
            case atStart => exact ⟨0, by omega, by omega, rfl, HK.out⟩
            case round =>
              clear HK
              obtain ⟨j, hj, rfl, rfl, HK⟩ := hrel
              have kx : wr.cell? ⟨ga, i, none⟩ = some (.int .i64 (xn : Int)) := by rw [own_cell HK.out.oa.out i (by omega), ← HX.out]; simp [ivs, hlt]
              have kr : wr.cell? ⟨rb, ro + xn, none⟩ = some (.slice ar m cr) := (HK.out.bel.cell (p := ⟨rb, ro + xn, none⟩) (block_lt_of_cell HKW.out)).trans HKW.out
              by_cases hjm : j < m
              · have hjr : j < row.length := by have := HMM.out; omega
                obtain ⟨xb, xo, e9, ky0⟩ := HIR.out.at hjr
                subst e9
                have ky : wr.cell? ⟨xb, xo + j, none⟩ = some (.int .i64 row[j]) := (HK.out.bel.cell (p := ⟨xb, xo + j, none⟩) (block_lt_of_cell ky0)).trans ky0
                have hyr : row[j] ∈ row := List.getElem_mem hjr
                have hyb := row_good HG.out (b := (xn : Int)) (y := row[j]) (by rw [← HR.out]; exact hyr)
                obtain ⟨y, hy⟩ : ∃ y, y = row[j] := ⟨_, rfl⟩
                rw [← hy] at ky hyr hyb
                obtain ⟨yn, rfl⟩ : ∃ yn : Nat, y = (yn : Int) := ⟨y.toNat, by omega⟩
                have hyn : yn < n := by have := HN.out; omega
                have ks := HK.out.row.cell hyn
                have HBY : Hid (wf yn ≤ i → Rc Ls (yn : Int) (xn : Int)) := HBK.out yn hyr
                obtain ⟨z, hz⟩ : ∃ z, z = wf yn := ⟨_, rfl⟩
                rw [← hz] at ks HBY
                clear hyr hyb hy ky0 hz
                by_cases hle : z ≤ (i : Int)
                · have q1 : decide (z ≤ (i : Int)) = true := by simpa using hle
                  have HRC : Hid (Rc Ls (yn : Int) (xn : Int)) := HBY.out hle
                  go_wp2_with fail
                  refine Calls.mono (reached_any wr (some ⟨rb, ro, none⟩) n c Ls HN.out (HI.out.below HK.out.bel (Nat.le_refl _)) HG.out (by omega) yn hyn) ?_
                  rintro e w6 ⟨rfl, ⟨ml, M6, hml⟩, b6⟩
                  have HK6 : Hid (BK w w6 gw n wf w3.heap.size (.slice (some ⟨ga, 0, none⟩) A.length ca) A) := HK.out.keep b6
                  have k6 : w6.cell? ⟨ga, i, none⟩ = some (.int .i64 (xn : Int)) := by rw [own_cell HK6.out.oa.out i (by omega), ← HX.out]; simp [ivs, hlt]
                  have km := M6.cell hxn
                  rw [decide_eq_true ((hml _).2 HRC.out)] at km
                  clear M6 hml b6 HK kx kr ky ks q1
                  go_wp2_with fail
                  go_roundg (m - (j + 1))
                  case rel => exact ⟨j + 1, by omega, rfl, by go_num, HK6.out⟩
                  case measure => omega
                · have q1 : decide (z ≤ (i : Int)) = false := by simpa using hle
                  go_wp2_with fail
                  go_roundg (m - (j + 1))
                  case rel => exact ⟨j + 1, by omega, rfl, by go_num, HK.out⟩
                  case measure => omega
              · go_wp2_with fail
                go_roundg (A.length - (i + 1))
                case rel => exact ⟨i + 1, by omega, rfl, by go_num, HK.out⟩
                case measure => omega
          · have q1 : decide ((0 : Int) < (A.length : Int)) = true := by simp; omega
            go_wp2_with fail
            try rw [Exit.noGoto_ret]
            go_ret
            exact ⟨by simp [Array.getD]; try omega, HK.out.bel⟩
  · have hf : goodP Ls = false := by simpa using hg
    rw [hf]
    clear hg hf
    go_wp2_with fail
    go_ret
    exact ⟨rfl, HB1.out⟩
end Go.Proofs.Ytplpgeocidllfaa
