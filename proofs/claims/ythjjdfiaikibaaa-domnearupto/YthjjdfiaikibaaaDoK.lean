import Derived.Test.YthjjdfiaikibaaaDoJ
set_option linter.unusedVariables false
set_option linter.unusedSimpArgs false
namespace Go.Proofs.Ythjjdfiaikibaaa
open Go.ChangeShapes Go.WideShapes Go.ChangeAt Go.RowKit Go.Maps

theorem rz_below {w w' : World} {ao : Option Addr} {n c : Nat} {Ls : List (List Int)} (h : RZ w ao n) (hI : IRow w ao c Ls) (hn : n = Ls.length) (hb : Below w.heap.size w w') : RZ w' ao n := by
  intro b o i m c' e hi hc
  obtain ⟨rb, ro, ar, cr, e2, k, _⟩ := hI.at (j := i) (by omega)
  subst e
  cases e2
  rw [hb.cell (block_lt_of_cell k)] at hc
  exact h b o i m c' rfl hi hc
/-- One turn of the statement's loop. -/
structure LW (w wr : World) (B n : Nat) (Ls : List (List Int)) (gt ct ga ca gl cl an : Nat) : Prop where
  t : OwnI wr B (.slice (some ⟨gt, 0, none⟩) n ct) n (treeP Ls)
  a : OwnBl wr B (.slice (some ⟨ga, 0, none⟩) n ca) n (rch n (walkP Ls).bl)
  l : OwnBl wr B (.slice (some ⟨gl, 0, none⟩) n cl) n (rch n (woP Ls an))
  bel : Below B w wr
theorem LW.draws {w wr B n Ls gt ct ga ca gl cl an} (h : LW w wr B n Ls gt ct ga ca gl cl an) (q : Nat) : LW w (wr.drewN q) B n Ls gt ct ga ca gl cl an :=
  ⟨h.t.keep (below_drewN (Below.refl _ _) q), h.a.keep (below_drewN (Below.refl _ _) q), h.l.keep (below_drewN (Below.refl _ _) q), below_drewN h.bel q⟩
theorem OwnI.cellI {w B g c n L} (h : OwnI w B (.slice (some ⟨g, 0, none⟩) n c) n L) {i : Nat} (hi : i < n) : w.cell? ⟨g, i, none⟩ = some (.int .i64 (gn L i)) := by
  rw [own_cell h.out i (by omega)]
  have : i < L.length := by rw [← h.len]; exact hi
  simp [ivs, gn, this]
set_option maxRecDepth 100000 in
set_option maxHeartbeats 8000000 in
theorem domWays_any (w : World) (ao : Option Addr) (n c : Nat) (Ls : List (List Int)) (hn : n = Ls.length) (hI : IRow w ao c Ls) (hz : RZ w ao n) (hs : n + (Ls.map List.length).sum ≤ 1048576) (at0 : Int) (hat : Fits at0) :
    Calls Try.prog 6 #[.slice ao n c, .int .i64 at0] w fun e w' => e = .returned (.bool true) ∧ Below w.heap.size w w' := by
  obtain ⟨S, hS⟩ : ∃ S, S = (Ls.map List.length).sum := ⟨_, rfl⟩
  have hnc : n ≤ c := by have := hI.le; omega
  have hcm : c ≤ 9223372036854775807 := hI.mx
  have hal := alive_any w
  have HN : Hid (n = Ls.length) := hn
  have HI : Hid (IRow w ao c Ls) := hI
  have HZ : Hid (RZ w ao n) := hz
  have HS : Hid (S = (Ls.map List.length).sum) := hS
  have hs' : n + S ≤ 1048576 := by rw [hS]; exact hs
  clear hn hI hz hS hs
  go_enter Try.func6, Try.ntmps6
  go_wp2_with fail
  refine hal.mono ?_
  rintro e w1 ⟨rfl, b1⟩
  have HB1 : Hid (Below w.heap.size w w1) := b1
  have HI1 : Hid (IRow w1 ao c Ls) := HI.out.below b1 (Nat.le_refl _)
  clear hal b1
  go_wp2_with fail
  refine (edges_any w1 ao n c Ls HN.out HI1.out (by rw [← HS.out]; omega)).mono ?_
  rintro e w' ⟨rfl, rfl⟩
  rw [← HS.out]
  by_cases hbig : S ≤ 20000
  · go_wp2_with fail
    refine (lawGood_any w' ao n c Ls HN.out HI1.out).mono ?_
    rintro e w2 ⟨rfl, rfl⟩
    have HM : Hid (∀ l ∈ Ls, l.length ≤ 1000000) := fun l hl => by
      have := le_sum (List.mem_map_of_mem (f := List.length) hl)
      have := HS.out
      omega
    have HZ1 : Hid (RZ w2 ao n) := rz_below HZ.out HI.out HN.out HB1.out
    by_cases hg : goodP Ls = true
    · rw [hg]
      have HG : Hid (goodP Ls = true) := hg
      clear hg
      by_cases hmost : n ≤ 300
      · have hpos : 0 < n := by have := goodP_pos HG.out; have := HN.out; omega
        obtain ⟨r, hr⟩ : ∃ r, r = at0.tmod n := ⟨_, rfl⟩
        have hr1 : -(n : Int) < r ∧ r < n := by
          rw [hr]
          have h1 := Int.natAbs_tmod at0 n
          have h2 : (at0.natAbs % (n : Int).natAbs) < n := by simpa using Nat.mod_lt at0.natAbs hpos
          omega
        have hn0 : ¬ (n : Int) = 0 := by omega
        obtain ⟨an, han⟩ : ∃ an : Nat, an = r.natAbs := ⟨_, rfl⟩
        have hann : an < n := by omega
        have HRE : (at0.tmod n = -(an : Int) ∧ 0 < an) ∨ at0.tmod n = (an : Int) := by rw [← hr]; omega
        clear hr hr1 han
        rcases HRE with ⟨hre, hap⟩ | hre
        all_goals
          go_wp2_with fail
          refine (lent_any w2 ao n c Ls HN.out HI1.out HZ1.out (by omega) HM.out).mono ?_
          rintro e w3 ⟨v, gs, cs, g1, g2, rfl, V, T, AP, R1, R2, A1, A2, A3, b2⟩
          have hll := ltv_len gs cs Ls
          have hlen : (ltv gs cs Ls ++ [Value.slice (some ⟨g1, 0, none⟩) 1 1, .slice (some ⟨g2, 0, none⟩) 2 2]).length = n + 2 := by have := HN.out; simp [hll, this]
          have V2 := V.out
          rw [hlen] at V2
          obtain ⟨g4, c4, e4, hc4, hc4', hg4, hg4'⟩ := own_some V2 (by omega)
          subst e4
          have HIR : Hid (IRow w3 (some ⟨g4, 0, none⟩) c4 Ls) := lent_irow V T hlen.symm
          have HB3 : Hid (Below w.heap.size w w3) := HB1.out.trans (b2.mono HB1.out.size)
          clear V T AP R1 R2 A1 A2 A3 b2 V2 hll hlen hre
          go_wp2_with fail
          refine (tree_any w3 (some ⟨g4, 0, none⟩) n c4 Ls HN.out HIR.out (by omega) HM.out).mono ?_
          rintro e w4 ⟨v, rfl, OT, b4⟩
          have hlt : (treeP Ls).length = n := by rw [treeP_len HG.out, HN.out]
          rw [hlt] at OT
          obtain ⟨gt, ct, rfl, hct, hct', _, _⟩ := own_some OT.out hpos
          have HB4 : Hid (Below w.heap.size w w4) := HB3.out.trans (b4.mono HB3.out.size)
          have HOT : Hid (OwnI w4 w.heap.size (.slice (some ⟨gt, 0, none⟩) n ct) n (treeP Ls)) := ⟨OT.len, own_lower OT.out HB3.out.size⟩
          clear OT b4 hlt HIR
          go_wp2_with fail
          refine (cut_any w4 ao n c Ls HN.out (HI.out.below HB4.out (Nat.le_refl _)) HG.out (by omega) (-1)).mono ?_
          rintro e w5 ⟨v, rfl, OA, b5⟩
          obtain ⟨ga, ca, rfl, hca, hca', _, _⟩ := own_some OA.out hpos
          rw [rch_reach HG.out] at OA
          have HB5 : Hid (Below w.heap.size w w5) := HB4.out.trans (b5.mono HB4.out.size)
          have HOT5 : Hid _ := HOT.out.keep b5
          have HOA : Hid (OwnBl w5 w.heap.size (.slice (some ⟨ga, 0, none⟩) n ca) n (rch n (walkP Ls).bl)) := ⟨OA.len, own_lower OA.out HB4.out.size⟩
          clear OA b5 HOT
          go_wp2_with fail
          refine (cut_any w5 ao n c Ls HN.out (HI.out.below HB5.out (Nat.le_refl _)) HG.out (by omega) (an : Int)).mono ?_
          rintro e w6 ⟨v, rfl, OL, b6⟩
          obtain ⟨gl, cl, rfl, hcl, hcl', _, _⟩ := own_some OL.out hpos
          have HLW : Hid (LW w w6 w.heap.size n Ls gt ct ga ca gl cl an) := ⟨HOT5.out.keep b6, HOA.out.keep b6, ⟨OL.len, own_lower OL.out HB5.out.size⟩, HB5.out.trans (b6.mono HB5.out.size)⟩
          clear OL b6 HOA HOT5 HB3 HB4 HB5
          go_wp2_with fail
          go_loopg [11] n (fun q bv wr => ∃ b : Nat, b ≤ n ∧ q = n - b ∧ bv = .int .i64 b ∧ Hid (LW w wr w.heap.size n Ls gt ct ga ca gl cl an))
          case atStart => exact ⟨0, by omega, by omega, rfl, HLW.out⟩
          case round =>
            clear HLW
            obtain ⟨b, hb, rfl, rfl, HL⟩ := hrel
            by_cases hbn : b < n
            · have kb := HL.out.a.cell hbn
              have ka := HL.out.a.cell hann
              have kl := HL.out.l.cell hbn
              have kt := HL.out.t.cellI hbn
              rw [rch_get hbn] at kb kl
              rw [rch_get hann] at ka
              have HNX : Hid (∀ q, LW w (wr.drewN q) w.heap.size n Ls gt ct ga ca gl cl an) := fun q => HL.out.draws q
              have hov : ∀ q, Calls Try.prog 19 #[.slice (some ⟨gt, 0, none⟩) n ct, .int .i64 (an : Int), .int .i64 (b : Int)] (wr.drewN q) fun e w' => e = .returned (.bool (overP (treeP Ls) an b)) ∧ w' = wr.drewN q := fun q => by
                obtain ⟨ao', c', e', hI'⟩ := (HL.out.draws q).t.ints
                cases e'
                exact over_any (wr.drewN q) _ n ct (treeP Ls) (by rw [treeP_len HG.out, HN.out]) hI' an b
              by_cases h1 : (b : Int) ∈ (walkP Ls).bl
              · rw [decide_eq_true h1] at kb
                by_cases h2 : (an : Int) ∈ (walkP Ls).bl
                · rw [decide_eq_true h2] at ka
                  rw [over_ovb HG.out h2 h1] at hov
                  by_cases h3 : (b : Int) ∈ woP Ls an
                  · rw [decide_eq_true h3] at kl hov
                    have HOV : Hid _ := hov
                    clear hov
                    go_wp2_with fail
                    go_quiet (first | (go_at_call 19; refine Calls.quiet_of_same (HOV.out _)))
                    go_wp2_with fail
                    go_roundg (n - (b + 1))
                    case rel => exact ⟨b + 1, by omega, rfl, by go_num, HNX.out _⟩
                    case measure => omega
                  · rw [decide_eq_false h3] at kl hov
                    have HOV : Hid _ := hov
                    clear hov
                    go_wp2_with fail
                    go_quiet (first | (go_at_call 19; refine Calls.quiet_of_same (HOV.out _)))
                    go_wp2_with fail
                    go_roundg (n - (b + 1))
                    case rel => exact ⟨b + 1, by omega, rfl, by go_num, HNX.out _⟩
                    case measure => omega
                · rw [decide_eq_false h2] at ka
                  clear hov
                  go_wp2_with fail
                  go_quiet (fail)
                  go_wp2_with fail
                  go_roundg (n - (b + 1))
                  case rel => exact ⟨b + 1, by omega, rfl, by go_num, HNX.out _⟩
                  case measure => omega
              · rw [decide_eq_false h1] at kb
                rw [treeP_none HG.out (by have := HN.out; omega) (.inl h1)] at kt
                clear hov
                go_wp2_with fail
                go_quiet (fail)
                go_wp2_with fail
                go_roundg (n - (b + 1))
                case rel => exact ⟨b + 1, by omega, rfl, by go_num, HNX.out _⟩
                case measure => omega
            · go_wp2_with fail
              go_ret
              exact ⟨rfl, HL.out.bel⟩
      · go_wp2_with fail
        go_ret
        exact ⟨rfl, HB1.out⟩
    · have hg' : goodP Ls = false := by simpa using hg
      rw [hg']
      have HG : Hid (goodP Ls = false) := hg'
      clear hg hg'
      go_wp2_with fail
      refine (lent_any w2 ao n c Ls HN.out HI1.out HZ1.out (by omega) HM.out).mono ?_
      rintro e w3 ⟨v, gs, cs, g1, g2, rfl, V, T, AP, R1, R2, A1, A2, A3, b2⟩
      have hll := ltv_len gs cs Ls
      have hlen : (ltv gs cs Ls ++ [Value.slice (some ⟨g1, 0, none⟩) 1 1, .slice (some ⟨g2, 0, none⟩) 2 2]).length = n + 2 := by have := HN.out; simp [hll, this]
      have V2 := V.out
      rw [hlen] at V2
      obtain ⟨g4, c4, e4, hc4, hc4', hg4, hg4'⟩ := own_some V2 (by omega)
      subst e4
      have HIR : Hid (IRow w3 (some ⟨g4, 0, none⟩) c4 Ls) := lent_irow V T hlen.symm
      have HB3 : Hid (Below w.heap.size w w3) := HB1.out.trans (b2.mono HB1.out.size)
      clear V T AP R1 R2 A1 A2 A3 b2 V2 hll hlen
      go_wp2_with fail
      refine (tree_bad w3 (some ⟨g4, 0, none⟩) n c4 Ls HN.out HIR.out HG.out).mono ?_
      rintro e w4 ⟨rfl, rfl⟩
      go_wp2_with fail
      go_ret
      exact ⟨rfl, HB3.out⟩
  · go_wp2_with fail
    go_ret
    exact ⟨rfl, HB1.out⟩
end Go.Proofs.Ythjjdfiaikibaaa
