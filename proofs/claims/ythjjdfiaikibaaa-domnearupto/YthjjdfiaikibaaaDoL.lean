import Derived.Test.YthjjdfiaikibaaaDoK
set_option linter.unusedVariables false
set_option linter.unusedSimpArgs false
namespace Go.Proofs.Ythjjdfiaikibaaa
open Go.ChangeShapes Go.WideShapes Go.ChangeAt Go.RowKit Go.Maps

/-- What the statement's loops read. -/
structure LN (w wr : World) (B n : Nat) (Ls : List (List Int)) (gt ct ga ca : Nat) : Prop where
  t : OwnI wr B (.slice (some ⟨gt, 0, none⟩) n ct) n (treeP Ls)
  a : OwnBl wr B (.slice (some ⟨ga, 0, none⟩) n ca) n (rch n (walkP Ls).bl)
  bel : Below B w wr
theorem LN.keep {w wr w' B n Ls gt ct ga ca} (h : LN w wr B n Ls gt ct ga ca) (hb : Below wr.heap.size wr w') : LN w w' B n Ls gt ct ga ca :=
  ⟨h.t.keep hb, h.a.keep hb, h.bel.trans (hb.mono (by have := own_block h.t.out (g := gt) rfl; omega))⟩
set_option maxRecDepth 100000 in
set_option maxHeartbeats 8000000 in
theorem domNear_any (w : World) (ao : Option Addr) (n c : Nat) (Ls : List (List Int)) (hn : n = Ls.length) (hI : IRow w ao c Ls) (hz : RZ w ao n) (hs : n + (Ls.map List.length).sum ≤ 1048576) :
    Calls Try.prog 7 #[.slice ao n c] w fun e w' => e = .returned (.bool true) ∧ Below w.heap.size w w' := by
  obtain ⟨S, hS⟩ : ∃ S, S = (Ls.map List.length).sum := ⟨_, rfl⟩
  have hnc : n ≤ c := by have := hI.le; omega
  have hcm : c ≤ 9223372036854775807 := hI.mx
  have hal := alive_any w
  have HN : Hid (n = Ls.length) := hn
  have HI : Hid (IRow w ao c Ls) := hI
  have HZ : Hid (RZ w ao n) := hz
  have HS : Hid (S = (Ls.map List.length).sum) := hS
  have hs' : n + S ≤ 1048576 := by rw [hS]; exact hs
  clear hn hI hz hS hs
  go_enter Try.func7, Try.ntmps7
  go_wp2_with fail
  refine hal.mono ?_
  rintro e w1 ⟨rfl, b1⟩
  have HB1 : Hid (Below w.heap.size w w1) := b1
  have HI1 : Hid (IRow w1 ao c Ls) := HI.out.below b1 (Nat.le_refl _)
  clear hal b1
  by_cases hmost : n ≤ 60
  · go_wp2_with fail
    refine (edges_any w1 ao n c Ls HN.out HI1.out (by rw [← HS.out]; omega)).mono ?_
    rintro e w' ⟨rfl, rfl⟩
    rw [← HS.out]
    by_cases hbig : S ≤ 2000
    · go_wp2_with fail
      refine (lawGood_any w' ao n c Ls HN.out HI1.out).mono ?_
      rintro e w2 ⟨rfl, rfl⟩
      have HM : Hid (∀ l ∈ Ls, l.length ≤ 1000000) := fun l hl => by
        have := le_sum (List.mem_map_of_mem (f := List.length) hl)
        have := HS.out
        omega
      have HZ1 : Hid (RZ w2 ao n) := rz_below HZ.out HI.out HN.out HB1.out
      by_cases hg : goodP Ls = true
      · rw [hg]
        have HG : Hid (goodP Ls = true) := hg
        have hpos : 0 < n := by have := goodP_pos hg; have := HN.out; omega
        clear hg
        go_wp2_with fail
        refine (lent_any w2 ao n c Ls HN.out HI1.out HZ1.out (by omega) HM.out).mono ?_
        rintro e w3 ⟨v, gs, cs, g1, g2, rfl, V, T, AP, R1, R2, A1, A2, A3, b2⟩
        have hll := ltv_len gs cs Ls
        have hlen : (ltv gs cs Ls ++ [Value.slice (some ⟨g1, 0, none⟩) 1 1, .slice (some ⟨g2, 0, none⟩) 2 2]).length = n + 2 := by have := HN.out; simp [hll, this]
        have V2 := V.out
        rw [hlen] at V2
        obtain ⟨g4, c4, e4, hc4, hc4', hg4, hg4'⟩ := own_some V2 (by omega)
        subst e4
        have HIR : Hid (IRow w3 (some ⟨g4, 0, none⟩) c4 Ls) := lent_irow V T hlen.symm
        have HB3 : Hid (Below w.heap.size w w3) := HB1.out.trans (b2.mono HB1.out.size)
        clear V T AP R1 R2 A1 A2 A3 b2 V2 hll hlen
        go_wp2_with fail
        refine (tree_any w3 (some ⟨g4, 0, none⟩) n c4 Ls HN.out HIR.out (by omega) HM.out).mono ?_
        rintro e w4 ⟨v, rfl, OT, b4⟩
        have hlt : (treeP Ls).length = n := by rw [treeP_len HG.out, HN.out]
        rw [hlt] at OT
        obtain ⟨gt, ct, rfl, hct, hct', _, _⟩ := own_some OT.out hpos
        have HB4 : Hid (Below w.heap.size w w4) := HB3.out.trans (b4.mono HB3.out.size)
        have HOT : Hid (OwnI w4 w.heap.size (.slice (some ⟨gt, 0, none⟩) n ct) n (treeP Ls)) := ⟨OT.len, own_lower OT.out HB3.out.size⟩
        clear OT b4 hlt HIR
        go_wp2_with fail
        refine (cut_any w4 ao n c Ls HN.out (HI.out.below HB4.out (Nat.le_refl _)) HG.out (by omega) (-1)).mono ?_
        rintro e w5 ⟨v, rfl, OA, b5⟩
        obtain ⟨ga, ca, rfl, hca, hca', _, _⟩ := own_some OA.out hpos
        rw [rch_reach HG.out] at OA
        have HLN : Hid (LN w w5 w.heap.size n Ls gt ct ga ca) := ⟨HOT.out.keep b5, ⟨OA.len, own_lower OA.out HB4.out.size⟩, HB4.out.trans (b5.mono HB4.out.size)⟩
        have k0 := HLN.out.t.cellI hpos
        rw [treeP_none HG.out (by have := HN.out; omega) (.inr rfl)] at k0
        clear OA b5 HOT HB3 HB4
        go_wp2_with fail
        go_loopg [6] (n - 1) (fun q bv wr => ∃ b : Nat, 1 ≤ b ∧ b ≤ n ∧ q = n - b ∧ bv = .int .i64 b ∧ Hid (LN w wr w.heap.size n Ls gt ct ga ca))
        case atStart => exact ⟨1, by omega, by omega, by omega, rfl, HLN.out⟩
        case round =>
          clear HLN k0
          obtain ⟨b, hb1, hb, rfl, rfl, HL⟩ := hrel
          by_cases hbn : b < n
          · have kb := HL.out.a.cell hbn
            have kt := HL.out.t.cellI hbn
            rw [rch_get hbn] at kb
            by_cases h1 : (b : Int) ∈ (walkP Ls).bl
            · rw [decide_eq_true h1] at kb
              have hID := treeP_some HG.out h1 (by omega)
              have hrd := (walkP_wi HG.out).rng _ hID.ov.1
              obtain ⟨d, hd⟩ : ∃ d : Nat, gn (treeP Ls) b = d := ⟨(gn (treeP Ls) b).toNat, by omega⟩
              rw [hd] at hID hrd kt
              have hdn : d < n := by have := HN.out; omega
              have hdb : ¬ (d : Int) = (b : Int) := fun e => hID.ne e
              have hdb2 : ((d : Int) == (b : Int)) = false := by simp [hdb]
              have hd0 : decide ((d : Int) < 0) = false := decide_eq_false (by omega)
              have hd1 : decide (n ≤ d) = false := decide_eq_false (by omega)
              have hd2 : decide ((n : Int) ≤ (d : Int)) = false := decide_eq_false (by omega)
              have HID : Hid (IsD Ls d b) := hID
              clear hID hrd hd
              go_wp2_with fail
              refine (cut_any wr ao n c Ls HN.out (HI.out.below HL.out.bel (Nat.le_refl _)) HG.out (by omega) (d : Int)).mono ?_
              rintro e w6 ⟨v, rfl, OD, b6⟩
              obtain ⟨gd, cd, rfl, hcd, hcd', _, _⟩ := own_some OD.out hpos
              have kd := OD.cell hbn
              rw [rch_get hbn, decide_eq_false HID.out.ov.2.2] at kd
              have HL6 : Hid _ := HL.out.keep b6
              clear OD b6 HL kb kt
              go_wp2_with fail
              go_loopg [8] n (fun q av wr => ∃ a : Nat, a ≤ n ∧ q = n - a ∧ av = .int .i64 a ∧ Hid (LN w wr w.heap.size n Ls gt ct ga ca))
              case atStart => exact ⟨0, by omega, by omega, rfl, HL6.out⟩
              case round =>
                clear HL6 kd
                obtain ⟨a, ha, rfl, rfl, HL⟩ := hrel
                by_cases han : a < n
                · have ka := HL.out.a.cell han
                  rw [rch_get han] at ka
                  by_cases hab : a = b
                  · subst hab
                    go_wp2_with fail
                    go_roundg (n - (a + 1))
                    case rel => exact ⟨a + 1, by omega, rfl, by go_num, HL.out⟩
                    case measure => omega
                  · have hab' : ¬ (a : Int) = (b : Int) := by omega
                    have e1 : ((a : Int) != (b : Int)) = true := by simp [hab']
                    have e2 : ((a : Int) == (b : Int)) = false := by simp [hab']
                    by_cases had : a = d
                    · subst had
                      go_wp2_with fail
                      go_roundg (n - (a + 1))
                      case rel => exact ⟨a + 1, by omega, rfl, by go_num, HL.out⟩
                      case measure => omega
                    · have had' : ¬ (a : Int) = (d : Int) := by omega
                      have e3 : ((a : Int) != (d : Int)) = true := by simp [had']
                      have e4 : ((a : Int) == (d : Int)) = false := by simp [had']
                      by_cases h2 : (a : Int) ∈ (walkP Ls).bl
                      · rw [decide_eq_true h2] at ka
                        go_wp2_with fail
                        refine (cut_any wr ao n c Ls HN.out (HI.out.below HL.out.bel (Nat.le_refl _)) HG.out (by omega) (a : Int)).mono ?_
                        rintro e w7 ⟨v, rfl, O7, b7⟩
                        obtain ⟨g7, c7, rfl, hc7, hc7', _, _⟩ := own_some O7.out hpos
                        have k7 := O7.cell hbn
                        rw [rch_get hbn] at k7
                        have HL7 : Hid _ := HL.out.keep b7
                        clear O7 b7 HL
                        by_cases h3 : (b : Int) ∈ woP Ls a
                        · rw [decide_eq_true h3] at k7
                          go_wp2_with fail
                          go_roundg (n - (a + 1))
                          case rel => exact ⟨a + 1, by omega, rfl, by go_num, HL7.out⟩
                          case measure => omega
                        · rw [decide_eq_false h3] at k7
                          have hnd : (d : Int) ∉ woP Ls a := (HID.out.near a ⟨h2, h1, h3⟩ hab').2.2
                          go_wp2_with fail
                          refine (cut_any w7 ao n c Ls HN.out (HI.out.below HL7.out.bel (Nat.le_refl _)) HG.out (by omega) (a : Int)).mono ?_
                          rintro e w8 ⟨v, rfl, O8, b8⟩
                          obtain ⟨g8, c8, rfl, hc8, hc8', _, _⟩ := own_some O8.out hpos
                          have k8 := O8.cell hdn
                          rw [rch_get hdn, decide_eq_false hnd] at k8
                          have HL8 : Hid _ := HL7.out.keep b8
                          clear O8 b8 HL7 k7
                          go_wp2_with fail
                          go_roundg (n - (a + 1))
                          case rel => exact ⟨a + 1, by omega, rfl, by go_num, HL8.out⟩
                          case measure => omega
                      · rw [decide_eq_false h2] at ka
                        go_wp2_with fail
                        go_roundg (n - (a + 1))
                        case rel => exact ⟨a + 1, by omega, rfl, by go_num, HL.out⟩
                        case measure => omega
                · go_wp2_with fail
                  go_roundg (n - (b + 1))
                  case rel => exact ⟨b + 1, by omega, by omega, rfl, by go_num, HL.out⟩
                  case measure => omega
            · rw [decide_eq_false h1] at kb
              clear kt
              go_wp2_with fail
              go_roundg (n - (b + 1))
              case rel => exact ⟨b + 1, by omega, by omega, rfl, by go_num, HL.out⟩
              case measure => omega
          · go_wp2_with fail
            go_ret
            exact ⟨rfl, HL.out.bel⟩
      · have hg' : goodP Ls = false := by simpa using hg
        rw [hg']
        go_wp2_with fail
        go_ret
        exact ⟨rfl, HB1.out⟩
    · go_wp2_with fail
      go_ret
      exact ⟨rfl, HB1.out⟩
  · go_wp2_with fail
    go_ret
    exact ⟨rfl, HB1.out⟩
end Go.Proofs.Ythjjdfiaikibaaa
