import Derived.Test.YteiambniddddpaaDoorLxFb
set_option linter.unusedVariables false
namespace Go.Proofs.YteiambniddddpaaDoor
open Go.ChangeShapes Go.WideShapes Go.ChangeAt Go.RowKit

theorem bs_nil : bs [] = ⟨#[]⟩ := rfl
theorem Own.tok {w B g n c} {Y : List T} (h : Own w B (.slice (some ⟨g, 0, none⟩) n c) Y) {j : Nat} {t : T} (ht : Y[j]? = some t) :
    w.cell? ⟨g, j * 4, none⟩ = some (.int .i64 t.kind) ∧ w.cell? ⟨g, j * 4 + 1, none⟩ = some (.int .i64 t.pos) ∧ w.cell? ⟨g, j * 4 + 2, none⟩ = some (.int .i64 t.val) ∧ w.cell? ⟨g, j * 4 + 3, none⟩ = some (.string (bs t.name)) := by
  obtain ⟨ao, cap, e, _, _, hV⟩ := h.view
  simp at e
  obtain ⟨e1, e2, e3⟩ := e
  obtain ⟨hj, rfl⟩ := List.getElem?_eq_some_iff.1 ht
  obtain ⟨g', e4, _, k⟩ := hV.out (by intro e; rw [e] at hj; simp at hj)
  rw [← e1] at e4
  cases e4
  exact k j hj
theorem info28' : (Tryd.prog.info? 26).map (fun i => (i.zero, i.size, i.bytes)) = some (some (.slice none 0 0), 1, 24) := by kernel_rfl

set_option maxRecDepth 10000 in
set_option maxHeartbeats 4000000 in
theorem apart_any (w : World) (B : Nat) (hB : B ≤ w.heap.size) (v : Value) (m : Nat) (A : Nat → Option Addr) (C N : Nat → Nat) (X0 : Nat → List T) (hL : Lst w B v m A C N) (hF : Fam w B m A C N X0) (hA : Apt m A)
    (hm : m ≤ 2000) (hN : ∀ k, k < m → N k ≤ 100000) : Calls Tryd.prog 12 #[v] w fun e w' => e = .returned (.bool true) ∧ Below B w w' := by
  obtain ⟨ao, cc, rfl, hc1, hc2, HV⟩ := hL.view
  have HN : Hid _ := hN
  clear hN HV
  obtain ⟨i0, hi0, hz0, hz1, hz2⟩ := info_parts info33'
  obtain ⟨i1, hi1, hy0, hy1, hy2⟩ := info_parts info28'
  go_enter Tryd.func12, Tryd.ntmps12
  go_wp2_with fail
  go_loopw [3] (fun c wr => ∃ (i : Nat) (X : Nat → List T), i ≤ m ∧ c = .int .i64 i ∧ St w wr B (.slice ao m cc) m A C N X ∧ Marked i N X) (fun c _ => m - (intOf c).toNat)
  case atStart => exact ⟨0, X0, by omega, rfl, ⟨hL, hF, Below.refl _ _⟩, ⟨fun k hk => by omega⟩⟩
  case round =>
    obtain ⟨i, X, hi, rfl, HS, HM⟩ := hrel
    by_cases hlt : i < m
    · go_wp2_with fail
      go_loopw [4] (fun c wr => ∃ (j : Nat) (X : Nat → List T), j ≤ N i ∧ c = .int .i64 j ∧ St w wr B (.slice ao m cc) m A C N X ∧ Marked i N X ∧ Marking i j X) (fun c _ => N i - (intOf c).toNat)
      case atStart => exact ⟨0, X, by omega, rfl, HS, HM, ⟨fun l hl => by omega⟩⟩
      case round =>
        obtain ⟨j, X, hj, rfl, HS, HM, HJ⟩ := hrel
        obtain ⟨_, _, e, _, _, HV⟩ := HS.lst.view
        cases e
        obtain ⟨b, rfl, hb1, hb2, hcells⟩ := HV (by omega)
        have hcell := hcells i hlt
        clear HV hcells
        obtain ⟨n, hn⟩ : ∃ n, n = N i := ⟨_, rfl⟩
        obtain ⟨ci, hci⟩ : ∃ c, c = C i := ⟨_, rfl⟩
        rw [← hn, ← hci] at hcell
        have hnl := HN.out i hlt
        by_cases hjn : j < N i
        · obtain ⟨g, hg, hg1, hg2⟩ := HS.fam.at hlt (by omega)
          rw [hg] at hcell
          have hown := HS.fam.own i hlt
          have hlen := HS.fam.len i hlt
          rw [hg, ← hn, ← hci] at hown
          rw [← hn] at hjn hnl hlen
          have HC : Hid (n = N i ∧ ci = C i ∧ A i = some ⟨g, 0, none⟩) := ⟨hn, hci, hg⟩
          clear hn hci hg hj
          go_wp2_with (refine wpList_store_in rfl _ _ rfl B _ (X i) hown g rfl j (by omega) (own_ i j) rfl rfl ?_; intro w2 hown2 hgr2 hs2)
          go_roundw
          case rel => exact ⟨j + 1, _, by have := HC.out.1; omega, by go_num, HS.put hA hB hlt HC.out.1 HC.out.2.1 HC.out.2.2 (by simp; exact hlen) hown2 hgr2, HM.put, HJ.put (by omega)⟩
          case measure => have := HC.out.1; simp [intOf]; omega
        · have HX := mks_of (HS.fam.len i hlt) (fun l hl => HJ.out l (by omega))
          have hje : j = N i := by omega
          rw [← hn] at hjn hnl hje
          have HC : Hid (n = N i ∧ ci = C i) := ⟨hn, hci⟩
          clear hn hci hj
          go_wp2_with fail
          go_roundw
          case rel => exact ⟨i + 1, X, by omega, by go_num, HS, HM.next HX⟩
          case measure => simp [intOf]; omega
    · have him : m = i := by omega
      subst him
      obtain ⟨B2, hB2⟩ : ∃ b, b = wr.heap.size := ⟨_, rfl⟩
      have hB3 := HS.bel.size
      have HG0 : GS w wr B B2 (.slice ao m cc) (.slice none 0 0) m 0 A C N A C :=
        ⟨HS.lst, ⟨fun k hk => by simp [mks], fun k hk => by have := HS.fam.own k hk; rw [HM.out k hk] at this; exact this⟩, ⟨World.ownsRow_nil _ _ _ _⟩, ⟨fun k hk => by omega, fun k hk => by omega⟩, fun k l hk => by omega, HS.bel, ⟨by omega, by omega⟩, fun g hg => by have := (own_block HS.lst.out hg).2; omega⟩
      clear hB2 HS HM hlt
      go_wp2_with fail
      go_loopw [5, 6] (fun vf c wr => ∃ (i : Nat) (AF : Nat → Option Addr) (CF : Nat → Nat), i ≤ m ∧ c = .int .i64 i ∧ GS w wr B B2 (.slice ao m cc) vf m i A C N AF CF) (fun _ c _ => m - (intOf c).toNat)
      case atStart => exact ⟨0, _, _, by omega, rfl, HG0⟩
      case round =>
        obtain ⟨i, AF, CF, hi, rfl, HG⟩ := hrel
        by_cases hlt : i < m
        · obtain ⟨_, _, e, _, _, HV⟩ := HG.lst.view
          cases e
          obtain ⟨b, rfl, hb1, hb2, hcells⟩ := HV (by omega)
          have hcell := hcells i hlt
          clear HV hcells
          have hnl := HN.out i hlt
          have hsz := HG.big.2
          go_wp2_with fail
          go_loopw [7, 8] (fun G c wr => ∃ j : Nat, j ≤ 60 ∧ c = .int .i64 j ∧ GS w wr B B2 (.slice (some ⟨b, 0, none⟩) m cc) u5 m i A C N AF CF ∧ GI G m i A C AF ∧ Own wr B G (mks i (N i) ++ List.replicate j (fz i))) (fun _ c _ => 60 - (intOf c).toNat)
          case atStart => exact ⟨0, by omega, rfl, HG, HG.first hA hlt, by simpa using HG.fam.own i hlt⟩
          case round =>
            obtain ⟨j, hj, rfl, HG, HI, HO⟩ := hrel
            have hsz := HG.big
            have hlen : (mks i (N i) ++ List.replicate j (fz i)).length = N i + j := by simp [mks]
            by_cases hj6 : j < 60
            · go_wp2_with (first | (at_builtin; refine wpList_append_where rfl _ _ 26 rfl B 31 i0 _ 4 40 Tryd.underlying26 hi0 hz0 hz1 hz2 rfl (by decide) _ _ _ rfl (HO.out.alloc _) ⟨wr.heap.size, 0, none⟩ 1 1 (by omega) (tc (fz i)) rfl rfl (cell_four_new _ _ _ _ _ _) (fun x hx => by simp [tc] at hx; rcases hx with rfl | rfl | rfl | rfl <;> rfl) (by unfold maxLen; omega) (by omega) (by simp; omega) ?_; intro v7 w7 hown7 hgr7 hG7) | fail)
              have hO7 : Own w7 B v7 (mks i (N i) ++ List.replicate (j + 1) (fz i)) := ⟨by
                rw [List.replicate_succ', ← List.append_assoc, tcs_snoc, List.length_append]
                exact hown7⟩
              have h7 := (HG.keep ((Below.refl _ _).alloc (Nat.le_refl _) _)).grow hlt HI (t := fz i) (HO.keep ((Below.refl _ _).alloc (Nat.le_refl _) _)) hgr7 hG7 hO7
              clear hown7 hgr7 hG7
              go_roundw
              case rel => exact ⟨j + 1, by omega, by go_num, h7.1, h7.2, hO7⟩
              case measure => simp [intOf]; omega
            · have hje : j = 60 := by omega
              subst hje
              obtain ⟨aG, cG, e, _, _, _⟩ := HO.view
              rw [hlen] at e
              subst e
              go_wp2_with (first | (at_builtin; refine wpList_append_own _ rfl _ _ 25 rfl B2 26 i1 _ 1 24 Tryd.underlying25 hi1 hy0 hy1 hy2 rfl (by decide) _ i _ rfl (HG.far.out.alloc _) ⟨wr.heap.size, 0, none⟩ 1 1 [.slice aG _ cG] rfl rfl (cell_one_new _ _ _) (fun x hx => by simp at hx; subst hx; rfl) (by unfold maxLen; omega) (by omega) (by simp; omega) ?_; intro v9 w9 hown9 hgr9 _) | fail)
              have h9 := (HG.keep ((Below.refl _ _).alloc (Nat.le_refl _) _)).next hlt rfl HI (HO.keep ((Below.refl _ _).alloc (Nat.le_refl _) _)) hgr9 hown9
              clear hown9 hgr9
              go_roundw
              case rel => exact ⟨i + 1, _, _, by omega, by go_num, h9⟩
              case measure => simp [intOf]; omega
        · have him : m = i := by omega
          subst him
          go_wp2_with fail
          go_loopw [9] (fun c wr => ∃ i : Nat, i ≤ m ∧ c = .int .i64 i ∧ GS w wr B B2 (.slice ao m cc) u5 m m A C N AF CF) (fun c _ => m - (intOf c).toNat)
          case atStart => exact ⟨0, by omega, rfl, HG⟩
          case round =>
            obtain ⟨i, hi, rfl, HG⟩ := hrel
            obtain ⟨af, cf, e, hf1, hf2, HV2⟩ := HG.far.view
            subst e
            by_cases hlt : i < m
            · obtain ⟨_, _, e, _, _, HV⟩ := HG.lst.view
              cases e
              obtain ⟨b, rfl, hb1, hb2, hcells⟩ := HV (by omega)
              obtain ⟨bf, rfl, hbf1, hbf2, hcells2⟩ := HV2 (by omega)
              have hcell := hcells i hlt
              clear HV hcells HV2 hcells2
              have hnl := HN.out i hlt
              obtain ⟨n, hn⟩ : ∃ n, n = N i := ⟨_, rfl⟩
              rw [← hn] at hcell hnl
              have HNN : Hid (n = N i) := hn
              clear hn
              go_wp2_with fail
              go_loopw [11] (fun c wr => ∃ j : Nat, j ≤ n + 60 ∧ c = .int .i64 j ∧ GS w wr B B2 (.slice (some ⟨b, 0, none⟩) m cc) (.slice (some ⟨bf, 0, none⟩) m cf) m m A C N AF CF) (fun c _ => n + 60 - (intOf c).toNat)
              case atStart => exact ⟨0, by omega, rfl, HG⟩
              case round =>
                obtain ⟨j, hj, rfl, HG⟩ := hrel
                obtain ⟨_, _, e, _, _, HV⟩ := HG.lst.view
                cases e
                obtain ⟨_, e, _, hb2, hcells⟩ := HV (by omega)
                cases e
                obtain ⟨_, _, e, _, _, HV2⟩ := HG.far.view
                cases e
                obtain ⟨_, e, _, hbf2, hcells2⟩ := HV2 (by omega)
                cases e
                have hc1 := hcells i hlt
                have hc2 := hcells2 i hlt
                rw [← HNN.out] at hc1 hc2
                clear HV hcells HV2 hcells2
                obtain ⟨gf, hgf, _, hgf2⟩ := HG.ff.at hlt (by omega)
                rw [hgf] at hc2
                have hO2 := HG.ff.own i hlt
                rw [hgf] at hO2
                by_cases hjn : j < n
                · have hjN : j < N i := by have := HNN.out; omega
                  obtain ⟨g, hg, _, hg2⟩ := HG.fam.at hlt (by omega)
                  rw [hg] at hc1
                  have hO1 := HG.fam.own i hlt
                  rw [hg] at hO1
                  have hp := hO1.tok (j := j) (t := own_ i j) (by simp [mks, hjN])
                  have hq := hO2.tok (j := j) (t := own_ i j) (by rw [List.getElem?_append_left (by simp [mks]; omega)]; simp [mks, hjN])
                  simp only [own_, bs_nil] at hp hq
                  obtain ⟨p0, p1, p2, p3⟩ := hp
                  obtain ⟨q0, q1, q2, q3⟩ := hq
                  have hjI : (j : Int) < (n : Int) + 60 := by omega
                  have hge : ¬ (n : Int) ≤ (j : Int) := by omega
                  have hge2 : decide ((n : Int) ≤ (j : Int)) = false := decide_eq_false hge
                  have hge3 : decide (n ≤ j) = false := decide_eq_false (by omega)
                  clear hgf hg hO1 hO2 hjN
                  go_wp2_with fail
                  go_quiet (fail)
                  go_wp2_with fail
                  go_roundw
                  case rel => exact ⟨j + 1, by omega, by go_num, HG.keep (below_drewN ((Below.refl _ _).alloc (Nat.le_refl _) _) _)⟩
                  case measure => simp [intOf]; omega
                · by_cases hj6 : j < n + 60
                  · have hq := hO2.tok (j := j) (t := fz i) (by have := HNN.out; rw [List.getElem?_append_right (by simp [mks]; omega), List.getElem?_replicate, if_pos (by simp [mks]; omega)])
                    simp only [fz, bs_nil] at hq
                    obtain ⟨q0, q1, q2, q3⟩ := hq
                    have hjI : (j : Int) < (n : Int) + 60 := by omega
                    have hjn' : ¬ (j : Int) < (n : Int) := by omega
                    have hge : (n : Int) ≤ (j : Int) := by omega
                    have hge2 : decide ((n : Int) ≤ (j : Int)) = true := decide_eq_true hge
                    have hjn2 : decide ((j : Int) < (n : Int)) = false := decide_eq_false hjn'
                    clear hgf hO2
                    go_wp2_with fail
                    go_quiet (fail)
                    go_wp2_with fail
                    go_roundw
                    case rel => exact ⟨j + 1, by omega, by go_num, HG.keep (below_drewN ((Below.refl _ _).alloc (Nat.le_refl _) _) _)⟩
                    case measure => simp [intOf]; omega
                  · have hjI : ¬ (j : Int) < (n : Int) + 60 := by omega
                    clear hgf hO2
                    go_wp2_with fail
                    go_roundw
                    case rel => exact ⟨i + 1, by omega, by go_num, HG⟩
                    case measure => simp [intOf]; omega
            · go_wp2_with fail
              go_ret
              exact ⟨rfl, HG.bel⟩
end Go.Proofs.YteiambniddddpaaDoor
