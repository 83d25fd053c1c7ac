import Derived.Test.YthjjdfiaikibaaaDoG
set_option linter.unusedVariables false
set_option linter.unusedSimpArgs false
namespace Go.Proofs.Ythjjdfiaikibaaa
open Go.ChangeShapes Go.WideShapes Go.ChangeAt Go.RowKit Go.Maps

/-- At the head of the statement's own search. -/
structure CQh (w wr : World) (B gm n : Nat) (Ls : List (List Int)) (out : Int) (q : Nat) (ml : List Int) (h : Nat) (v : Value) (R : List Int) : Prop where
  que : OwnI wr (B + 1) v ml.length ml
  met : MR wr gm n ml
  wq : WQ n ml
  run : woRun Ls out q ml h = R
  hq : q = n - h
  hh : h ≤ ml.length
  bel : Below B w wr
/-- Within the row of one block. -/
structure CQi (w wr : World) (B gm n : Nat) (out : Int) (ml0 row : List Int) (h j : Nat) (ml : List Int) (v : Value) : Prop where
  que : OwnI wr (B + 1) v ml.length ml
  met : MR wr gm n ml
  wq : WQ n ml
  run : ml = woIn out ml0 (row.take j)
  hh : h + 1 ≤ ml.length
  bel : Below B w wr
set_option maxRecDepth 100000 in
set_option maxHeartbeats 4000000 in
theorem cut_any (w : World) (ao : Option Addr) (n c : Nat) (Ls : List (List Int)) (hn : n = Ls.length) (hI : IRow w ao c Ls) (hg : goodP Ls = true) (hsz : n ≤ 100000000) (out : Int) :
    Calls Try.prog 22 #[.slice ao n c, .int .i64 out] w fun e w' => ∃ v, e = .returned v ∧ OwnBl w' w.heap.size v n (rch n (woP Ls out)) ∧ Below w.heap.size w w' := by
  have hmk := run_make_row' (P := Try.prog) 26 4 (.bool false) 1 Try.underlying26 infoBool rfl .i64 .i64 n (by omega) (by omega)
  have hpos : 0 < n := by have := goodP_pos hg; omega
  obtain ⟨w1, hw1⟩ : ∃ w1, w1 = w.alloc (.cells (madeCells #[.bool false] n) 4) := ⟨_, rfl⟩
  replace hmk := hmk w
  rw [← hw1] at hmk
  have M1 : MR w1 w.heap.size n [] := by
    unfold MR
    have e : madeCells #[.bool false] n = ((rch n []).map Value.bool).toArray := by
      apply Array.toList_inj.1
      rw [toList_madeCells_one, rch_nil]
      simp
    rw [hw1, e]; exact heap_alloc_new _ _
  have b1 : Below w.heap.size w w1 := by rw [hw1]; exact (Below.refl _ _).alloc (Nat.le_refl _) _
  have hs1 : w1.heap.size = w.heap.size + 1 := by rw [hw1]; simp
  have HN : Hid (n = Ls.length) := hn
  have HI : Hid _ := hI
  have HG : Hid (goodP Ls = true) := hg
  have OB : ∀ (w' : World) (ml : List Int), MR w' w.heap.size n ml → OwnBl w' w.heap.size (.slice (some ⟨w.heap.size, 0, none⟩) n n) n (rch n ml) := fun w' ml h =>
    ⟨(rch_len n ml).symm, by simp [rch_len], .inr ⟨w.heap.size, n, _, rfl, Nat.le_refl _, h, Nat.le_refl _, by unfold maxLen; omega, by simp [rch_len], List.take_of_length_le (by simp [rch_len])⟩⟩
  have HOB : Hid _ := OB
  have HM1 : Hid _ := M1
  have HB1 : Hid _ := b1
  clear hn hI hg OB M1 b1 hw1
  by_cases ho : out = 0
  · have HW : Hid (woP Ls out = []) := by show _ = _; unfold woP; rw [if_pos ho]
    have hno : (out != 0) = false := by simp [ho]
    go_enter Try.func22, Try.ntmps22
    go_wp2_with fail
    try rw [hno]
    go_loopg [6, 7] 0 (fun q lv iv wr => q = 0 ∧ lv = .slice none 0 0 ∧ iv = .int .i64 0 ∧ Hid (wr = w1))
    case atStart => exact ⟨rfl, rfl, rfl, rfl⟩
    case round =>
      obtain ⟨rfl, rfl, rfl, HE⟩ := hrel
      go_wp2_with fail
      go_ret
      rw [HW.out, HE.out]
      exact ⟨_, rfl, HOB.out w1 [] HM1.out, HB1.out⟩
  · have HW : Hid (woP Ls out = woRun Ls out n [0] 0) := by show _ = _; unfold woP; rw [if_neg ho, HN.out]
    have hno : (out != 0) = true := by simp [ho]
    obtain ⟨z0, k0⟩ : ∃ z, w1.cell? ⟨w.heap.size, 0, none⟩ = some z := ⟨_, MR.cell HM1.out hpos⟩
    have f0 : w1.frozen? ⟨w.heap.size, 0, none⟩ = false := fz_of HM1.out
    obtain ⟨gm, hgm⟩ : ∃ gm, gm = w.heap.size := ⟨_, rfl⟩
    obtain ⟨R, hR⟩ : ∃ R, R = woRun Ls out n [0] 0 := ⟨_, rfl⟩
    have hst : CQh w ((w1.setCell ⟨gm, 0, none⟩ (.bool true)).alloc (.cells #[.int .i64 0] 3)) w.heap.size gm n Ls out n [0] 0 (.slice (some ⟨w1.heap.size, 0, none⟩) 1 1) R := by
      have hgl : gm < w1.heap.size := by omega
      have hs2 : (w1.setCell ⟨gm, 0, none⟩ (.bool true)).heap.size = w1.heap.size := by simp [World.setCell]
      refine ⟨own_of_exact rfl (by omega) (by omega) ?_, ?_, ⟨by simp, fun x hx => by simp at hx; subst hx; omega⟩, hR.symm, by omega, by simp, ?_⟩
      · rw [← hs2]; exact heap_alloc_new _ _
      · unfold MR
        rw [heap_alloc_old _ _ (by rw [hs2]; exact hgl)]
        have := MR.set (b := 0) HM1.out
        rw [hgm]; exact this
      · exact (HB1.out.setCell (by show w.heap.size ≤ gm; omega) _).alloc (by rw [hs2]; omega) _
    have HST : Hid _ := hst
    rw [← hgm] at k0 f0 hmk
    have HR : Hid (R = woRun Ls out n [0] 0) := hR
    have HGM : Hid (gm = w.heap.size) := hgm
    have HS1 : Hid (w1.heap.size = w.heap.size + 1) := hs1
    clear hst hR hgm hs1
    go_enter Try.func22, Try.ntmps22
    go_wp2_with fail
    try rw [hno]
    go_loopg [6, 7] n (fun q lv iv wr => ∃ (ml : List Int) (h : Nat) (a : Option Addr) (l c' : Nat), lv = .slice a l c' ∧ l = ml.length ∧ h ≤ l ∧ iv = .int .i64 (h : Int) ∧ Hid (CQh w wr w.heap.size gm n Ls out q ml h (.slice a l c') R))
    case atStart => exact ⟨[0], 0, _, _, _, rfl, rfl, by omega, rfl, HST.out⟩
    case round =>
      clear HST
      obtain ⟨ml, hd, la, l, lc, rfl, hl, hdl, rfl, HH⟩ := hrel
      have hln : l ≤ n := by rw [hl]; exact HH.out.wq.le
      by_cases he : hd < l
      · have he' : hd < ml.length := by omega
        obtain ⟨x, hx⟩ : ∃ x, x = ml[hd] := ⟨_, rfl⟩
        have hxr := HH.out.wq.rng x (hx ▸ List.getElem_mem he')
        obtain ⟨bn, rfl⟩ : ∃ bn : Nat, x = (bn : Int) := ⟨x.toNat, by have := hxr.1; omega⟩
        have hbn2 : bn < n := by have := hxr.2; omega
        have hbn : bn < Ls.length := by have := HN.out; omega
        obtain ⟨lg, rfl⟩ : ∃ lg, la = some ⟨lg, 0, none⟩ := by
          obtain ⟨g, c2, e, _⟩ := own_some HH.out.que.out (by omega)
          cases e; exact ⟨g, rfl⟩
        have kq : wr.cell? ⟨lg, hd, none⟩ = some (.int .i64 (bn : Int)) := by
          have q1 := HH.out.que.out
          rw [← hl] at q1
          rw [own_cell q1 hd (by omega), hx]
          simp [ivs, he']
        obtain ⟨rb, ro, ar, cr, rfl, krw, hIr⟩ := HI.out.at hbn
        have kr := (HH.out.bel.cell (p := ⟨rb, ro + bn, none⟩) (block_lt_of_cell krw)).trans krw
        obtain ⟨G, rfl⟩ : ∃ G, gk = G + 1 := ⟨gk - 1, by have := HH.out.hq; omega⟩
        obtain ⟨row, hrow⟩ : ∃ row, row = Ls[bn] := ⟨_, rfl⟩
        rw [← hrow] at kr hIr
        have HXE : Hid ((bn : Int) = ml[hd]) := hx
        have HIR : Hid _ := hIr
        have HRO : Hid (row = Ls[bn]) := hrow
        obtain ⟨rl, hrl⟩ : ∃ rl, rl = row.length := ⟨_, rfl⟩
        rw [← hrl] at kr
        have HRL : Hid (rl = row.length) := hrl
        have QI0 : Hid (CQi w wr w.heap.size gm n out ml row hd 0 ml (.slice (some ⟨lg, 0, none⟩) l lc)) :=
          ⟨HH.out.que, HH.out.met, HH.out.wq, by simp [woIn], he', HH.out.bel⟩
        have hcr : rl ≤ cr := by have := hIr.le; omega
        have hcr2 : cr ≤ 9223372036854775807 := hIr.mx
        have HL0 : Hid (l = ml.length) := hl
        clear hx hIr krw hrow hxr hrl hl
        go_wp2_with fail
        go_loopg [6, 9] rl (fun q lv jv wr' => ∃ (j : Nat) (ml' : List Int) (a' : Option Addr) (l' c' : Nat), j ≤ rl ∧ q = rl - j ∧ lv = .slice a' l' c' ∧ l' = ml'.length ∧ jv = .int .i64 (j : Int) ∧ Hid (CQi w wr' w.heap.size gm n out ml row hd j ml' (.slice a' l' c')))
        case atStart => exact ⟨0, ml, _, _, _, by omega, by omega, rfl, HL0.out, rfl, QI0.out⟩
        case round =>
          obtain ⟨j, ml', la', l', lc', hj, rfl, rfl, hl', rfl, HL⟩ := hrel
          clear kq kr
          have hln' : l' ≤ n := by rw [hl']; exact HL.out.wq.le
          by_cases hlt : j < rl
          · have hjr : j < row.length := by have := HRL.out; omega
            obtain ⟨x, hx⟩ : ∃ x, x = row[j] := ⟨_, rfl⟩
            obtain ⟨xb, xo, rfl, kc⟩ := HIR.out.at hjr
            have hxb : xb < w.heap.size := block_lt_of_cell kc
            have kx : wr.cell? ⟨xb, xo + j, none⟩ = some (.int .i64 x) := by
              rw [hx]
              exact (HL.out.bel.cell (p := ⟨xb, xo + j, none⟩) hxb).trans kc
            have hxr : 0 ≤ x ∧ x < Ls.length := by
              have h1 := goodP_yes HG.out hbn (j := j) (by rw [← HRO.out]; exact hjr)
              simp only [← HRO.out] at h1
              rw [hx]; exact h1
            obtain ⟨xn, rfl⟩ : ∃ xn : Nat, x = (xn : Int) := ⟨x.toNat, by have := hxr.1; omega⟩
            have hxn : xn < n := by have := hxr.2; have := HN.out; omega
            have km := MR.cell HL.out.met hxn
            have fm : wr.frozen? ⟨gm, xn, none⟩ = false := fz_of HL.out.met
            have HX : Hid ((xn : Int) = row[j]) := hx
            have hxm' : xb ≠ gm := by have := HGM.out; omega
            have STAY : ¬ ((xn : Int) ≠ out ∧ (xn : Int) ∉ ml') → CQi w wr w.heap.size gm n out ml row hd (j + 1) ml' (.slice la' l' lc') := fun hno => by
              refine ⟨HL.out.que, HL.out.met, HL.out.wq, ?_, HL.out.hh, HL.out.bel⟩
              rw [woIn_take _ _ _ hjr, ← HL.out.run, ← HX.out, if_neg hno]
            have HSTAY : Hid _ := STAY
            have HL' : Hid (l' = ml'.length) := hl'
            clear hx hxr STAY hl'
            by_cases hxo : (xn : Int) = out
            · have hq : ((xn : Int) != out) = false := by simp [hxo]
              have hq2 : ((xn : Int) == out) = true := by simp [hxo]
              clear kc
              go_wp2_with fail
              go_roundg (rl - (j + 1))
              case rel => exact ⟨j + 1, ml', _, _, _, by omega, rfl, rfl, HL'.out, by go_num, HSTAY.out fun e => e.1 hxo⟩
              case measure => omega
            · have hq : ((xn : Int) != out) = true := by simp [hxo]
              have hq2 : ((xn : Int) == out) = false := by simp [hxo]
              by_cases hxm : (xn : Int) ∈ ml'
              · rw [decide_eq_true hxm] at km
                clear kc
                go_wp2_with fail
                go_roundg (rl - (j + 1))
                case rel => exact ⟨j + 1, ml', _, _, _, by omega, rfl, rfl, HL'.out, by go_num, HSTAY.out fun e => e.2 hxm⟩
                case measure => omega
              · rw [decide_eq_false hxm] at km
                clear HSTAY
                obtain ⟨w2, hw2⟩ : ∃ w2, w2 = wr.setCell ⟨gm, xn, none⟩ (.bool true) := ⟨_, rfl⟩
                have hgg : ∀ g, (Value.slice la' l' lc').ownBlock = some g → g ≠ gm := fun g hg => by have := (own_block HL.out.que.out hg).1; have := HGM.out; omega
                have Q2 : OwnI w2 (w.heap.size + 1) (.slice la' l' lc') ml'.length ml' := ⟨HL.out.que.len, own_move HL.out.que.out fun g hg => by rw [hw2]; exact heap_set_other (hgg g hg)⟩
                have M2 : MR w2 gm n (ml' ++ [(xn : Int)]) := by rw [hw2]; exact MR.set HL.out.met
                have B2 : Below w.heap.size w w2 := by rw [hw2]; exact HL.out.bel.setCell (by have := HGM.out; show w.heap.size ≤ gm; omega) _
                have HS2 : Hid (w2.heap.size = wr.heap.size) := by show w2.heap.size = _; rw [hw2]; simp [World.setCell]
                have hmz : gm < wr.heap.size := (Array.getElem?_eq_some_iff.1 HL.out.met).1
                have hB2 : w.heap.size + 1 ≤ w2.heap.size := by have := HGM.out; have := HS2.out; omega
                have hl2 : l' + 1 ≤ 17592186044416 := by omega
                have kx2 : w2.cell? ⟨xb, xo + j, none⟩ = some (.int .i64 (xn : Int)) := by
                  rw [HX.out]
                  exact (B2.cell (p := ⟨xb, xo + j, none⟩) hxb).trans kc
                have NEXT : ∀ v6 w3, OwnI w3 (w.heap.size + 1) v6 (l' + 1) (ml' ++ [(xn : Int)]) → GI (w.heap.size + 1) w2 w3 (.slice la' l' lc') v6 → CQi w w3 w.heap.size gm n out ml row hd (j + 1) (ml' ++ [(xn : Int)]) v6 := by
                  intro v6 w3 h1 h2
                  refine ⟨?_, ?_, HL.out.wq.more hxm (by omega), ?_, by have := HL.out.hh; simp; omega, B2.trans (h2.bel.mono (by omega))⟩
                  · rw [show (ml' ++ [(xn : Int)]).length = l' + 1 by have := HL'.out; simp; omega]; exact h1
                  · unfold MR at M2 ⊢
                    rw [h2.blk gm (by have := HS2.out; omega) fun e => hgg gm e rfl]
                    exact M2
                  · rw [woIn_take _ _ _ hjr, ← HL.out.run, ← HX.out, if_pos ⟨hxo, hxm⟩]
                have HNX : Hid _ := NEXT
                have HQ2 : Hid (OwnI w2 (w.heap.size + 1) (.slice la' l' lc') l' ml') := by have := Q2; rw [← HL'.out] at this; exact this
                have HE2 : Hid (w2 = wr.setCell ⟨gm, xn, none⟩ (.bool true)) := hw2
                rw [hw2] at kx2
                clear NEXT Q2 M2 B2 hw2 hgg kc
                go_wp2_with (first
                  | (at_builtin; rw [← HE2.out]; refine wpList_append_intG (w0 := w2) rfl _ _ rfl (w.heap.size + 1) (.slice la' l' lc') l' ml' (xn : Int) rfl HQ2.out (by rw [HS2.out]; rfl) hl2 hB2 ?_; intro v6 w3 h1 h2
                     obtain ⟨a6, c6, rfl, _, _⟩ := own_slice h1.out
                     have H7 : Hid _ := HNX.out _ w3 h1 h2
                     clear h1 h2 HNX)
                  | go_in)
                go_roundg (rl - (j + 1))
                case rel => exact ⟨j + 1, ml' ++ [(xn : Int)], _, _, _, by omega, rfl, rfl, by have := HL'.out; simp; omega, by go_num, H7.out⟩
                case measure => omega
          · have hjr : j = rl := by omega
            have HNX : Hid (CQh w wr w.heap.size gm n Ls out G ml' (hd + 1) (.slice la' l' lc') R) := by
              have hr := HH.out.run
              rw [woRun, if_pos he'] at hr
              have e1 : rowOf Ls (gn ml hd) = row := by
                rw [HRO.out]
                have e2 : gn ml hd = (bn : Int) := by rw [HXE.out]; simp [gn, he']
                rw [e2]
                simp [rowOf, hbn]
              have e3 := HL.out.run
              rw [List.take_of_length_le (by have := HRL.out; omega)] at e3
              rw [e1, ← e3] at hr
              exact ⟨HL.out.que, HL.out.met, HL.out.wq, hr, by have := HH.out.hq; omega, HL.out.hh, HL.out.bel⟩
            have HHH : Hid (hd + 1 ≤ l') := by have := HL.out.hh; show _ ≤ _; omega
            have HL' : Hid (l' = ml'.length) := hl'
            clear hjr hl'
            go_wp2_with fail
            go_roundg G
            case rel => exact ⟨ml', hd + 1, _, _, _, rfl, HL'.out, HHH.out, by go_num, HNX.out⟩
            case measure => omega
      · have he' : ¬ hd < ml.length := by omega
        have eR : R = ml := by
          rw [← HH.out.run]
          cases gk with
          | zero => rfl
          | succ k => rw [woRun, if_neg he']
        have HER : Hid (R = ml) := eR
        clear eR he' hl
        go_wp2_with fail
        try rw [Exit.noGoto_ret]
        go_ret
        rw [HW.out, ← HR.out, HER.out]
        have hb := HH.out.met
        have hv := HOB.out wr ml (by rw [← HGM.out]; exact hb)
        rw [← HGM.out] at hv
        exact ⟨_, rfl, by rw [← HGM.out]; exact hv, HH.out.bel⟩
end Go.Proofs.Ythjjdfiaikibaaa
