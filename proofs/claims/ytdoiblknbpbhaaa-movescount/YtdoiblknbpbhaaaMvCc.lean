import Derived.Test.YtdoiblknbpbhaaaMvCb
import Derived.Test.YtdoiblknbpbhaaaMvW
set_option linter.unusedVariables false
set_option linter.unusedSimpArgs false
namespace Go.Proofs.Ytdoiblknbpbhaaa
open Go.ChangeShapes Go.WideShapes Go.ChangeAt Go.RowKit Go.Maps

def nxE : Option Nat → Int
  | none => -1
  | some j => j
theorem ciN_le (l : List Mv) : ∀ n, ciN l n ≤ n
  | 0 => Nat.le_refl _
  | n + 1 => by have := ciN_le l n; unfold ciN; split <;> omega
theorem nxU_lt {l : List Mv} {k n j : Nat} (h : nxU l k n = some j) : j < n := (nxU_some h).1
set_option maxRecDepth 100000 in
set_option maxHeartbeats 8000000 in
theorem lawCircles_any (w : World) {la : Option Addr} {ln lc : Nat} {l : List Mv} (hL : Mvs w la lc l) (hn : ln = l.length) (hsz : ln ≤ 1000000) :
    Calls Try.prog 16 #[.slice la ln lc] w fun e w' => e = .returned (.int .i64 (ciN l ln)) ∧ Below w.heap.size w w' := by
  have HL : Hid (Mvs w la lc l) := hL
  have HN : Hid (ln = l.length) := hn
  clear hL hn
  go_enter Try.func16, Try.ntmps16
  go_wp2_with fail
  go_loopw [3, 4] (fun nv v wr => ∃ i c : Nat, i ≤ ln ∧ c ≤ i ∧ v = .int .i64 i ∧ nv = .int .i64 c ∧ Hid (c = ciN l i) ∧ Hid (Below w.heap.size w wr)) (fun _ v _ => ln - (intOf v).toNat)
  case atStart => exact ⟨0, 0, by omega, by omega, rfl, rfl, rfl, Below.refl _ _⟩
  case round =>
    obtain ⟨i, c, hi, hc, rfl, rfl, HC, HB⟩ := hrel
    by_cases hlt : i < ln
    · have hif : i < l.length := by have := HN.out; omega
      obtain ⟨bb, o, rfl, hbl, c0, c1, c2, c3⟩ := (HL.out.below HB.out (Nat.le_refl _)).at hif
      obtain ⟨m, hmi⟩ : ∃ m, l[i] = m := ⟨_, rfl⟩
      have HLI : Hid (l[i] = m) := hmi
      rw [hmi] at c0 c1 c2 c3
      clear hmi
      obtain ⟨⟨m1, m2⟩, ⟨m3, m4⟩⟩ := m
      simp only at c0 c1 c2 c3
      have HCS : Hid (ciN l (i + 1) = c + (if (!stays ((m1, m2), (m3, m4)) && cyB l i) = true then 1 else 0)) := by
        show ciN l (i + 1) = _
        rw [HC.out]
        show ciN l i + _ = _
        rw [gD hif, HLI.out]
      obtain ⟨e1, q1⟩ : ∃ e, (m3 == m1) = e := ⟨_, rfl⟩
      obtain ⟨e2, q2⟩ : ∃ e, (m4 == m2) = e := ⟨_, rfl⟩
      have HQ : Hid (stays ((m1, m2), (m3, m4)) = (e1 && e2)) := by
        show _ = _
        rw [← q1, ← q2, Bool.eq_iff_iff]
        simp [stays]
        try (constructor <;> (rintro ⟨rfl, rfl⟩; simp))
      cases e1
      · have HST : Hid (stays ((m1, m2), (m3, m4)) = false) := HQ.out
        go_wp2_with fail
        go_quiet (fail)
        go_wp2_with fail
        clear c0 c1 c2 c3 q1 q2
        go_loopw [3, 5, 6, 7] (fun nv kv lv sv wr => ∃ k s : Nat, nv = .int .i64 c ∧ k < ln ∧ s ≤ ln + 1 ∧ kv = .int .i64 k ∧ sv = .int .i64 s ∧ ∃ L : Bool, lv = .bool L ∧ Hid (cyL l i (ln + 1 - s) k L = cyB l i) ∧ Hid (Below w.heap.size w wr)) (fun _ _ _ v _ => ln + 1 - (intOf v).toNat)
        case atStart => exact ⟨i, 0, rfl, hlt, by omega, rfl, rfl, true, rfl, by show cyL l i (ln + 1) i true = cyB l i; rw [HN.out]; rfl, HB.out.trans ((below_drewN0 _ _).mono HB.out.size)⟩
        case round =>
          clear HB
          obtain ⟨k, s, rfl, hk, hs, rfl, rfl, L, rfl, HY, HB⟩ := hrel
          by_cases hsl : s ≤ ln
          · have hkf : k < l.length := by have := HN.out; omega
            obtain ⟨y, hy⟩ : ∃ y, l[k] = y := ⟨_, rfl⟩
            have HLK : Hid (l[k] = y) := hy
            clear hy
            obtain ⟨⟨k1, k2⟩, ⟨k3, k4⟩⟩ := y
            go_wp2_with fail
            go_loopw [8, 9] (fun nv jv wr => ∃ j : Nat, j ≤ ln ∧ jv = .int .i64 j ∧ ∃ x : Int, nv = .int .i64 x ∧ Hid (x = nxE (nxU l k j)) ∧ Hid (Below w.heap.size w wr)) (fun _ v _ => ln - (intOf v).toNat)
            case atStart => exact ⟨0, by omega, rfl, -1, rfl, rfl, HB⟩
            case round =>
              clear HB
              obtain ⟨j, hj, rfl, x, rfl, HX, HB⟩ := hrel
              by_cases hjl : j < ln
              · have hjf : j < l.length := by have := HN.out; omega
                obtain ⟨b2, o2, E2, hb2, d0, d1, d2, d3⟩ := (HL.out.below HB.out (Nat.le_refl _)).at hjf
                cases E2
                obtain ⟨b3, o3, E3, hb3, _, _, g2, g3⟩ := (HL.out.below HB.out (Nat.le_refl _)).at hkf
                cases E3
                rw [HLK.out] at g2 g3
                obtain ⟨z, hz⟩ : ∃ z, l[j] = z := ⟨_, rfl⟩
                have HLJ : Hid (l[j] = z) := hz
                rw [hz] at d0 d1 d2 d3
                clear hz
                obtain ⟨⟨n1, n2⟩, ⟨n3, n4⟩⟩ := z
                simp only at d0 d1 d2 d3 g2 g3
                obtain ⟨f1, p1⟩ : ∃ e, (n1 == k3) = e := ⟨_, rfl⟩
                obtain ⟨f2, p2⟩ : ∃ e, (n2 == k4) = e := ⟨_, rfl⟩
                obtain ⟨f3, p3⟩ : ∃ e, (n3 == n1) = e := ⟨_, rfl⟩
                obtain ⟨f4, p4⟩ : ∃ e, (n4 == n2) = e := ⟨_, rfl⟩
                have HXS : Hid (nxU l k (j + 1) = if ((f1 && f2) && !(f3 && f4)) = true then some j else nxU l k j) := by
                  show nxU l k (j + 1) = _
                  have e : nxC l k j = ((f1 && f2) && !(f3 && f4)) := by
                    unfold nxC
                    rw [gD hjf, gD hkf, HLJ.out, HLK.out, ← p1, ← p2, ← p3, ← p4]
                    have a1 : decide (((n1, n2) : Lc) = (k3, k4)) = ((n1 == k3) && (n2 == k4)) := by rw [Bool.eq_iff_iff]; simp
                    have a2 : stays ((n1, n2), (n3, n4)) = ((n3 == n1) && (n4 == n2)) := by rw [Bool.eq_iff_iff]; simp [stays]; try (constructor <;> (rintro ⟨rfl, rfl⟩; simp))
                    rw [a2, ← a1]
                  rw [← e]; rfl
                cases f1
                · go_wp2_with fail
                  go_quiet (fail)
                  go_wp2_with fail
                  go_roundw
                  case rel => exact ⟨j + 1, by omega, by go_num, _, rfl, by show _ = nxE (nxU l k (j + 1)); rw [HXS.out]; exact HX.out, HB.out.trans ((below_drewN0 _ _).mono HB.out.size)⟩
                  case measure => simp [intOf]; omega
                · cases f2
                  · go_wp2_with fail
                    go_quiet (fail)
                    go_wp2_with fail
                    go_roundw
                    case rel => exact ⟨j + 1, by omega, by go_num, _, rfl, by show _ = nxE (nxU l k (j + 1)); rw [HXS.out]; exact HX.out, HB.out.trans ((below_drewN0 _ _).mono HB.out.size)⟩
                    case measure => simp [intOf]; omega
                  · cases f3
                    · have nn3 := ne_of_beq_false p3
                      go_wp2_with fail
                      go_quiet (fail)
                      go_wp2_with fail
                      go_roundw
                      case rel => exact ⟨j + 1, by omega, by go_num, _, rfl, by show _ = nxE (nxU l k (j + 1)); rw [HXS.out]; rfl, HB.out.trans ((below_drewN0 _ _).mono HB.out.size)⟩
                      case measure => simp [intOf]; omega
                    · cases f4
                      · have nn4 := ne_of_beq_false p4
                        go_wp2_with fail
                        go_quiet (fail)
                        go_wp2_with fail
                        go_roundw
                        case rel => exact ⟨j + 1, by omega, by go_num, _, rfl, by show _ = nxE (nxU l k (j + 1)); rw [HXS.out]; rfl, HB.out.trans ((below_drewN0 _ _).mono HB.out.size)⟩
                        case measure => simp [intOf]; omega
                      · go_wp2_with fail
                        go_quiet (fail)
                        go_wp2_with fail
                        go_roundw
                        case rel => exact ⟨j + 1, by omega, by go_num, _, rfl, by show _ = nxE (nxU l k (j + 1)); rw [HXS.out]; exact HX.out, HB.out.trans ((below_drewN0 _ _).mono HB.out.size)⟩
                        case measure => simp [intOf]; omega
              · obtain rfl : j = ln := by omega
                have HNI : Hid (nxI l k = nxU l k j) := by show nxU l k l.length = _; rw [HN.out]
                have HYS : Hid (cyB l i = (match nxI l k with | none => false | some q => if q = i then (L && decide (i ≤ q)) else cyL l i (j + 1 - (s + 1)) q (L && decide (i ≤ q)))) := by
                  show cyB l i = _
                  rw [← HY.out, show j + 1 - s = (j + 1 - (s + 1)) + 1 by omega]
                  rfl
                rw [HNI.out] at HYS
                obtain ⟨nx, hnx⟩ : ∃ nx, nxU l k j = nx := ⟨_, rfl⟩
                have HNX : Hid (nxU l k j = nx) := hnx
                rw [hnx] at HX HYS
                clear hnx
                cases nx with
                | none =>
                  obtain rfl : x = -1 := HX.out
                  go_wp2_with fail
                  go_roundw
                  case rel => exact ⟨i + 1, c, by omega, by omega, by go_num, by first | rfl | go_num, by show c = _; rw [HCS.out, HST.out, HYS.out]; rfl, HB.out⟩
                  case measure => simp [intOf]; omega
                | some q =>
                  obtain rfl : x = (q : Int) := HX.out
                  have hq : q < j := nxU_lt HNX.out
                  have hqd : decide ((q : Int) < 0) = false := decide_eq_false (by omega)
                  simp only at HYS
                  obtain ⟨L2, hL2⟩ : ∃ L2, (L && decide (i ≤ q)) = L2 := ⟨_, rfl⟩
                  have HL2 : Hid ((L && decide (i ≤ q)) = L2) := hL2
                  rw [hL2] at HYS
                  have hge : decide ((i : Int) ≤ (q : Int)) = decide (i ≤ q) := by rw [Bool.eq_iff_iff]; simp
                  rw [← hge] at hL2
                  obtain ⟨G, hG⟩ : ∃ G, decide ((i : Int) ≤ (q : Int)) = G := ⟨_, rfl⟩
                  rw [hG] at hL2
                  clear hge
                  by_cases hqi : q = i
                  · have HYT : Hid (cyB l i = L2) := by show cyB l i = L2; rw [HYS.out, if_pos hqi]
                    have hqe : ((q : Int) == (i : Int)) = true := by simp; omega
                    have nqi : (q : Int) = (i : Int) := by omega
                    subst hqi
                    clear nqi hqe
                    cases L
                    · obtain rfl : L2 = false := hL2.symm
                      go_wp2_with fail
                      go_roundw
                      case rel => exact ⟨q + 1, c, by omega, by omega, by go_num, by first | rfl | go_num, by show c = _; rw [HCS.out, HST.out, HYT.out]; rfl, HB.out⟩
                      case measure => simp [intOf]; omega
                    · cases G
                      · simp at hG
                      · obtain rfl : L2 = true := hL2.symm
                        go_wp2_with fail
                        go_roundw
                        case rel => exact ⟨q + 1, c + 1, by omega, by omega, by go_num, by first | rfl | go_num, by show c + 1 = _; rw [HCS.out, HST.out, HYT.out]; rfl, HB.out⟩
                        case measure => simp [intOf]; omega
                  · have HYT : Hid (cyB l i = cyL l i (j + 1 - (s + 1)) q L2) := by show cyB l i = _; rw [HYS.out, if_neg hqi]
                    have hqe : ((q : Int) == (i : Int)) = false := by simp; omega
                    cases L
                    · obtain rfl : L2 = false := hL2.symm
                      go_wp2_with fail
                      go_roundw
                      case rel => exact ⟨q, s + 1, rfl, hq, by omega, rfl, by go_num, false, by first | rfl | (simp at hG ⊢; omega), by show _ = cyB l i; rw [HYT.out], HB.out⟩
                      case measure => simp [intOf]; omega
                    · cases G
                      · obtain rfl : L2 = false := hL2.symm
                        go_wp2_with fail
                        go_roundw
                        case rel => exact ⟨q, s + 1, rfl, hq, by omega, rfl, by go_num, false, by first | rfl | (simp at hG ⊢; omega), by show _ = cyB l i; rw [HYT.out], HB.out⟩
                        case measure => simp [intOf]; omega
                      · obtain rfl : L2 = true := hL2.symm
                        go_wp2_with fail
                        go_roundw
                        case rel => exact ⟨q, s + 1, rfl, hq, by omega, rfl, by go_num, true, by first | rfl | (simp at hG ⊢; omega), by show _ = cyB l i; rw [HYT.out], HB.out⟩
                        case measure => simp [intOf]; omega
          · obtain rfl : s = ln + 1 := by omega
            have HYS : Hid (cyB l i = false) := by show cyB l i = false; rw [← HY.out, Nat.sub_self]; rfl
            go_wp2_with fail
            go_roundw
            case rel => exact ⟨i + 1, c, by omega, by omega, by go_num, by first | rfl | go_num, by show c = _; rw [HCS.out, HST.out, HYS.out]; rfl, HB.out⟩
            case measure => simp [intOf]; omega
      · cases e2
        · have HST : Hid (stays ((m1, m2), (m3, m4)) = false) := HQ.out
          go_wp2_with fail
          go_quiet (fail)
          go_wp2_with fail
          clear c0 c1 c2 c3 q1 q2
          go_loopw [3, 5, 6, 7] (fun nv kv lv sv wr => ∃ k s : Nat, nv = .int .i64 c ∧ k < ln ∧ s ≤ ln + 1 ∧ kv = .int .i64 k ∧ sv = .int .i64 s ∧ ∃ L : Bool, lv = .bool L ∧ Hid (cyL l i (ln + 1 - s) k L = cyB l i) ∧ Hid (Below w.heap.size w wr)) (fun _ _ _ v _ => ln + 1 - (intOf v).toNat)
          case atStart => exact ⟨i, 0, rfl, hlt, by omega, rfl, rfl, true, rfl, by show cyL l i (ln + 1) i true = cyB l i; rw [HN.out]; rfl, HB.out.trans ((below_drewN0 _ _).mono HB.out.size)⟩
          case round =>
            clear HB
            obtain ⟨k, s, rfl, hk, hs, rfl, rfl, L, rfl, HY, HB⟩ := hrel
            by_cases hsl : s ≤ ln
            · have hkf : k < l.length := by have := HN.out; omega
              obtain ⟨y, hy⟩ : ∃ y, l[k] = y := ⟨_, rfl⟩
              have HLK : Hid (l[k] = y) := hy
              clear hy
              obtain ⟨⟨k1, k2⟩, ⟨k3, k4⟩⟩ := y
              go_wp2_with fail
              go_loopw [8, 9] (fun nv jv wr => ∃ j : Nat, j ≤ ln ∧ jv = .int .i64 j ∧ ∃ x : Int, nv = .int .i64 x ∧ Hid (x = nxE (nxU l k j)) ∧ Hid (Below w.heap.size w wr)) (fun _ v _ => ln - (intOf v).toNat)
              case atStart => exact ⟨0, by omega, rfl, -1, rfl, rfl, HB⟩
              case round =>
                clear HB
                obtain ⟨j, hj, rfl, x, rfl, HX, HB⟩ := hrel
                by_cases hjl : j < ln
                · have hjf : j < l.length := by have := HN.out; omega
                  obtain ⟨b2, o2, E2, hb2, d0, d1, d2, d3⟩ := (HL.out.below HB.out (Nat.le_refl _)).at hjf
                  cases E2
                  obtain ⟨b3, o3, E3, hb3, _, _, g2, g3⟩ := (HL.out.below HB.out (Nat.le_refl _)).at hkf
                  cases E3
                  rw [HLK.out] at g2 g3
                  obtain ⟨z, hz⟩ : ∃ z, l[j] = z := ⟨_, rfl⟩
                  have HLJ : Hid (l[j] = z) := hz
                  rw [hz] at d0 d1 d2 d3
                  clear hz
                  obtain ⟨⟨n1, n2⟩, ⟨n3, n4⟩⟩ := z
                  simp only at d0 d1 d2 d3 g2 g3
                  obtain ⟨f1, p1⟩ : ∃ e, (n1 == k3) = e := ⟨_, rfl⟩
                  obtain ⟨f2, p2⟩ : ∃ e, (n2 == k4) = e := ⟨_, rfl⟩
                  obtain ⟨f3, p3⟩ : ∃ e, (n3 == n1) = e := ⟨_, rfl⟩
                  obtain ⟨f4, p4⟩ : ∃ e, (n4 == n2) = e := ⟨_, rfl⟩
                  have HXS : Hid (nxU l k (j + 1) = if ((f1 && f2) && !(f3 && f4)) = true then some j else nxU l k j) := by
                    show nxU l k (j + 1) = _
                    have e : nxC l k j = ((f1 && f2) && !(f3 && f4)) := by
                      unfold nxC
                      rw [gD hjf, gD hkf, HLJ.out, HLK.out, ← p1, ← p2, ← p3, ← p4]
                      have a1 : decide (((n1, n2) : Lc) = (k3, k4)) = ((n1 == k3) && (n2 == k4)) := by rw [Bool.eq_iff_iff]; simp
                      have a2 : stays ((n1, n2), (n3, n4)) = ((n3 == n1) && (n4 == n2)) := by rw [Bool.eq_iff_iff]; simp [stays]; try (constructor <;> (rintro ⟨rfl, rfl⟩; simp))
                      rw [a2, ← a1]
                    rw [← e]; rfl
                  cases f1
                  · go_wp2_with fail
                    go_quiet (fail)
                    go_wp2_with fail
                    go_roundw
                    case rel => exact ⟨j + 1, by omega, by go_num, _, rfl, by show _ = nxE (nxU l k (j + 1)); rw [HXS.out]; exact HX.out, HB.out.trans ((below_drewN0 _ _).mono HB.out.size)⟩
                    case measure => simp [intOf]; omega
                  · cases f2
                    · go_wp2_with fail
                      go_quiet (fail)
                      go_wp2_with fail
                      go_roundw
                      case rel => exact ⟨j + 1, by omega, by go_num, _, rfl, by show _ = nxE (nxU l k (j + 1)); rw [HXS.out]; exact HX.out, HB.out.trans ((below_drewN0 _ _).mono HB.out.size)⟩
                      case measure => simp [intOf]; omega
                    · cases f3
                      · have nn3 := ne_of_beq_false p3
                        go_wp2_with fail
                        go_quiet (fail)
                        go_wp2_with fail
                        go_roundw
                        case rel => exact ⟨j + 1, by omega, by go_num, _, rfl, by show _ = nxE (nxU l k (j + 1)); rw [HXS.out]; rfl, HB.out.trans ((below_drewN0 _ _).mono HB.out.size)⟩
                        case measure => simp [intOf]; omega
                      · cases f4
                        · have nn4 := ne_of_beq_false p4
                          go_wp2_with fail
                          go_quiet (fail)
                          go_wp2_with fail
                          go_roundw
                          case rel => exact ⟨j + 1, by omega, by go_num, _, rfl, by show _ = nxE (nxU l k (j + 1)); rw [HXS.out]; rfl, HB.out.trans ((below_drewN0 _ _).mono HB.out.size)⟩
                          case measure => simp [intOf]; omega
                        · go_wp2_with fail
                          go_quiet (fail)
                          go_wp2_with fail
                          go_roundw
                          case rel => exact ⟨j + 1, by omega, by go_num, _, rfl, by show _ = nxE (nxU l k (j + 1)); rw [HXS.out]; exact HX.out, HB.out.trans ((below_drewN0 _ _).mono HB.out.size)⟩
                          case measure => simp [intOf]; omega
                · obtain rfl : j = ln := by omega
                  have HNI : Hid (nxI l k = nxU l k j) := by show nxU l k l.length = _; rw [HN.out]
                  have HYS : Hid (cyB l i = (match nxI l k with | none => false | some q => if q = i then (L && decide (i ≤ q)) else cyL l i (j + 1 - (s + 1)) q (L && decide (i ≤ q)))) := by
                    show cyB l i = _
                    rw [← HY.out, show j + 1 - s = (j + 1 - (s + 1)) + 1 by omega]
                    rfl
                  rw [HNI.out] at HYS
                  obtain ⟨nx, hnx⟩ : ∃ nx, nxU l k j = nx := ⟨_, rfl⟩
                  have HNX : Hid (nxU l k j = nx) := hnx
                  rw [hnx] at HX HYS
                  clear hnx
                  cases nx with
                  | none =>
                    obtain rfl : x = -1 := HX.out
                    go_wp2_with fail
                    go_roundw
                    case rel => exact ⟨i + 1, c, by omega, by omega, by go_num, by first | rfl | go_num, by show c = _; rw [HCS.out, HST.out, HYS.out]; rfl, HB.out⟩
                    case measure => simp [intOf]; omega
                  | some q =>
                    obtain rfl : x = (q : Int) := HX.out
                    have hq : q < j := nxU_lt HNX.out
                    have hqd : decide ((q : Int) < 0) = false := decide_eq_false (by omega)
                    simp only at HYS
                    obtain ⟨L2, hL2⟩ : ∃ L2, (L && decide (i ≤ q)) = L2 := ⟨_, rfl⟩
                    have HL2 : Hid ((L && decide (i ≤ q)) = L2) := hL2
                    rw [hL2] at HYS
                    have hge : decide ((i : Int) ≤ (q : Int)) = decide (i ≤ q) := by rw [Bool.eq_iff_iff]; simp
                    rw [← hge] at hL2
                    obtain ⟨G, hG⟩ : ∃ G, decide ((i : Int) ≤ (q : Int)) = G := ⟨_, rfl⟩
                    rw [hG] at hL2
                    clear hge
                    by_cases hqi : q = i
                    · have HYT : Hid (cyB l i = L2) := by show cyB l i = L2; rw [HYS.out, if_pos hqi]
                      have hqe : ((q : Int) == (i : Int)) = true := by simp; omega
                      have nqi : (q : Int) = (i : Int) := by omega
                      subst hqi
                      clear nqi hqe
                      cases L
                      · obtain rfl : L2 = false := hL2.symm
                        go_wp2_with fail
                        go_roundw
                        case rel => exact ⟨q + 1, c, by omega, by omega, by go_num, by first | rfl | go_num, by show c = _; rw [HCS.out, HST.out, HYT.out]; rfl, HB.out⟩
                        case measure => simp [intOf]; omega
                      · cases G
                        · simp at hG
                        · obtain rfl : L2 = true := hL2.symm
                          go_wp2_with fail
                          go_roundw
                          case rel => exact ⟨q + 1, c + 1, by omega, by omega, by go_num, by first | rfl | go_num, by show c + 1 = _; rw [HCS.out, HST.out, HYT.out]; rfl, HB.out⟩
                          case measure => simp [intOf]; omega
                    · have HYT : Hid (cyB l i = cyL l i (j + 1 - (s + 1)) q L2) := by show cyB l i = _; rw [HYS.out, if_neg hqi]
                      have hqe : ((q : Int) == (i : Int)) = false := by simp; omega
                      cases L
                      · obtain rfl : L2 = false := hL2.symm
                        go_wp2_with fail
                        go_roundw
                        case rel => exact ⟨q, s + 1, rfl, hq, by omega, rfl, by go_num, false, by first | rfl | (simp at hG ⊢; omega), by show _ = cyB l i; rw [HYT.out], HB.out⟩
                        case measure => simp [intOf]; omega
                      · cases G
                        · obtain rfl : L2 = false := hL2.symm
                          go_wp2_with fail
                          go_roundw
                          case rel => exact ⟨q, s + 1, rfl, hq, by omega, rfl, by go_num, false, by first | rfl | (simp at hG ⊢; omega), by show _ = cyB l i; rw [HYT.out], HB.out⟩
                          case measure => simp [intOf]; omega
                        · obtain rfl : L2 = true := hL2.symm
                          go_wp2_with fail
                          go_roundw
                          case rel => exact ⟨q, s + 1, rfl, hq, by omega, rfl, by go_num, true, by first | rfl | (simp at hG ⊢; omega), by show _ = cyB l i; rw [HYT.out], HB.out⟩
                          case measure => simp [intOf]; omega
            · obtain rfl : s = ln + 1 := by omega
              have HYS : Hid (cyB l i = false) := by show cyB l i = false; rw [← HY.out, Nat.sub_self]; rfl
              go_wp2_with fail
              go_roundw
              case rel => exact ⟨i + 1, c, by omega, by omega, by go_num, by first | rfl | go_num, by show c = _; rw [HCS.out, HST.out, HYS.out]; rfl, HB.out⟩
              case measure => simp [intOf]; omega
        · go_wp2_with fail
          go_quiet (fail)
          go_wp2_with fail
          go_roundw
          case rel => exact ⟨i + 1, c, by omega, by omega, by go_num, rfl, by show c = _; rw [HCS.out, HQ.out]; rfl, HB.out.trans ((below_drewN0 _ _).mono HB.out.size)⟩
          case measure => simp [intOf]; omega
    · obtain rfl : i = ln := by omega
      go_wp2_with fail
      go_ret
      exact ⟨by rw [← HC.out]; rfl, HB.out⟩
end Go.Proofs.Ytdoiblknbpbhaaa
