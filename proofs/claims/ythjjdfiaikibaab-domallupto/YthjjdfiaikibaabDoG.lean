import Derived.Test.YthjjdfiaikibaabDoF
set_option linter.unusedVariables false
set_option linter.unusedSimpArgs false
namespace Go.Proofs.Ythjjdfiaikibaab
open Go.ChangeShapes Go.WideShapes Go.ChangeAt Go.RowKit Go.Maps

theorem own_lower {w : World} {B B' e s n xs} {v : Value} (h : w.ownsRow B e s v n xs) (hB : B' ≤ B) : w.ownsRow B' e s v n xs := by
  refine ⟨h.1, h.2.imp id ?_⟩
  rintro ⟨g, cap, cur, e1, e2, e3, e4⟩
  exact ⟨g, cap, cur, e1, Nat.le_trans hB e2, e3, e4⟩
set_option maxRecDepth 100000 in
set_option maxHeartbeats 8000000 in
/-- The document's Tree answers as the program's. -/
theorem refTree_any (w : World) (ao : Option Addr) (n c : Nat) (Ls : List (List Int)) (hn : n = Ls.length) (h : IRow w ao c Ls) (hsz : n ≤ 1000000) :
    Calls Try.prog 12 #[.slice ao n c] w fun e w' => ∃ v, e = .returned v ∧ OwnI w' w.heap.size v (treeP Ls).length (treeP Ls) ∧ Below w.heap.size w w' := by
  have hgd := refGood_any w ao n c Ls hn h
  by_cases hg : goodP Ls = true
  · rw [hg] at hgd
    have hwo := without_any w ao n c Ls hn h hg (by omega) (-1)
    rw [rch_reach hg n] at hwo
    have hpos : 0 < n := by have := goodP_pos hg; omega
    have HR : Hid (treeP Ls = (List.range n).map fun b => pk Ls b n) := by show _ = _; rw [treeP_doc hg, hn]
    have HI : Hid (IRow w ao c Ls) := h
    have HN : Hid (n = Ls.length) := hn
    have HG : Hid (goodP Ls = true) := hg
    have HM45 : Hid _ := run_make_row' (P := Try.prog) 28 36 (.slice none 0 0) 24 Try.underlying28 infoSb rfl .i64 .i64 n (by omega) (by omega)
    have HM3 : Hid _ := run_make_row' (P := Try.prog) 27 3 (.int .i64 0) 8 Try.underlying27 info3d rfl .i64 .i64 n (by omega) (by omega)
    have HM4 : Hid _ := run_make_row' (P := Try.prog) 36 4 (.bool false) 1 Try.underlying36 infoBool rfl .i64 .i64 n (by omega) (by omega)
    clear h hn hg
    go_enter Try.func12, Try.ntmps12
    go_wp2_with fail
    refine hgd.mono ?_
    rintro e w' ⟨rfl, rfl⟩
    clear hgd
    go_wp2_with fail
    refine hwo.mono ?_
    rintro e w2 ⟨v, rfl, HO, hb⟩
    obtain ⟨gr, cr, rfl, hc1, hc2, hgr, hgr2⟩ := own_some HO.out hpos
    clear hwo
    obtain ⟨w3, hw3⟩ : ∃ w3, w3 = w2.alloc (.cells (madeCells #[.slice none 0 0] n) 36) := ⟨_, rfl⟩
    obtain ⟨w4, hw4⟩ : ∃ w4, w4 = w3.alloc (.cells (madeCells #[.int .i64 0] n) 3) := ⟨_, rfl⟩
    have m1 := HM45.out w2
    have m2 := HM3.out w3
    rw [← hw3] at m1
    rw [← hw4] at m2
    have s3 : w3.heap.size = w2.heap.size + 1 := by rw [hw3]; simp
    have s4 : w4.heap.size = w3.heap.size + 1 := by rw [hw4]; simp
    have b23 : Below w2.heap.size w2 w3 := by rw [hw3]; exact (Below.refl _ _).alloc (Nat.le_refl _) _
    have b34 : Below w3.heap.size w3 w4 := by rw [hw4]; exact (Below.refl _ _).alloc (Nat.le_refl _) _
    have b24 : Below w2.heap.size w2 w4 := b23.trans (b34.mono (by omega))
    have hsz2 := hb.size
    have OT0 : OT w' w4 w'.heap.size n Ls gr cr w2.heap.size w3.heap.size 0 (fun _ => 0) := by
      refine ⟨HO.keep b24, ?_, fun i hi => by omega, ?_, hb.trans (b24.mono (by omega)), by omega, by omega⟩
      · have := CW.made w2 n 36 (.slice none 0 0)
        rw [← hw3] at this
        exact (this.keep b34).congr fun i _ => by simp
      · have := CW.made w3 n 3 (.int .i64 0)
        rw [← hw4] at this
        exact this.congr fun i _ => by simp [cnt]
    have HOT : Hid _ := OT0
    obtain ⟨go, hgo⟩ : ∃ go, go = w2.heap.size := ⟨_, rfl⟩
    obtain ⟨gy, hgy⟩ : ∃ gy, gy = w3.heap.size := ⟨_, rfl⟩
    rw [← hgo, ← hgy] at HOT
    rw [← hgo] at m1
    rw [← hgy] at m2
    clear HO hb hw3 hw4 s3 s4 b23 b34 b24 hsz2 OT0 hgr hgr2 hgo hgy
    go_wp2_with fail
    go_loopg [7] n (fun q av wr => ∃ (k : Nat) (gs : Nat → Nat), k ≤ n ∧ q = n - k ∧ av = .int .i64 k ∧ Hid (OT w' wr w'.heap.size n Ls gr cr go gy k gs))
    case atStart => exact ⟨0, fun _ => 0, by omega, by omega, rfl, HOT.out⟩
    case round =>
      clear HOT m1 m2
      obtain ⟨k, gs, hk, rfl, rfl, HT⟩ := hrel
      by_cases hlt : k < n
      · -- a row of its own
        obtain ⟨wA, hwA⟩ : ∃ wA, wA = wr.alloc (.cells (madeCells #[.bool false] n) 4) := ⟨_, rfl⟩
        have m1 := HM4.out wr
        rw [← hwA] at m1
        have sA : wA.heap.size = wr.heap.size + 1 := by rw [hwA]; simp
        have bA : Below wr.heap.size wr wA := by rw [hwA]; exact (Below.refl _ _).alloc (Nat.le_refl _) _
        obtain ⟨g, hgE⟩ : ∃ g, g = wr.heap.size := ⟨_, rfl⟩
        have hBg : w'.heap.size ≤ g := by have := HT.out.bel.size; omega
        have oA := HT.out.o.keep bA
        have CA : CW wA g n 4 fun _ => .bool false := by rw [hwA, hgE]; exact CW.made wr n 4 _
        have ko := oA.cell hlt
        have fo := oA.fz k
        rw [if_neg (by omega)] at ko
        have rA := HT.out.r.keep bA
        have hgrl : gr < wr.heap.size := (own_block HT.out.r.out rfl).2
        have ngo : gr ≠ go := fun e => own_not rA.out oA (by decide) (by rw [e]; rfl)
        obtain ⟨wB, hwB⟩ : ∃ wB, wB = wA.setCell ⟨go, k, none⟩ (.slice (some ⟨g, 0, none⟩) n n) := ⟨_, rfl⟩
        have rB : OwnBl wB w'.heap.size (.slice (some ⟨gr, 0, none⟩) n cr) n (rch n (walkP Ls).bl) := rA.move fun x hx => by
          simp [Value.ownBlock] at hx; subst hx; rw [hwB]; exact heap_set_other ngo
        have sB : wB.heap.size = wA.heap.size := by rw [hwB]; simp [World.setCell]
        have belB : Below w'.heap.size w' wB := by rw [hwB]; exact (HT.out.bel.trans (bA.mono (by omega))).setCell HT.out.lo.1 _
        have gsn : ∀ i, i < k → gs i ≠ go ∧ gs i ≠ g := fun i hi => ⟨(HT.out.s i hi).ne HT.out.o (by decide), by have := (HT.out.s i hi).lt; omega⟩
        have OIB : ∀ (wC : World) (gm cm : Nat), OwnBl wC wB.heap.size (.slice (some ⟨gm, 0, none⟩) n cm) n (rch n (woP Ls k)) → Below wB.heap.size wB wC → OI w' wC w'.heap.size n Ls gr cr go gy k (fun i => if i = k then g else gs i) gm cm 0 := by
          intro wC gm cm hm hbC
          have hml : wB.heap.size ≤ gm := (own_block hm.out rfl).1
          refine ⟨rB.keep hbC, ⟨hm.len, own_lower hm.out (by omega)⟩, ?_, fun i hi => ?_, ?_, ?_, ⟨?_, ?_, fun i hi => ?_⟩, belB.trans (hbC.mono (by have := HT.out.bel.size; omega)), HT.out.lo.1, HT.out.lo.2, ?_⟩
          · have := (oA.set k (.slice (some ⟨g, 0, none⟩) n n))
            rw [← hwB] at this
            refine (this.keep hbC).congr fun i _ => ?_
            by_cases e : i = k
            · subst e; simp
            · rw [if_neg e]
              by_cases e2 : i < k
              · rw [if_pos e2, if_pos (by omega), if_neg e]
              · rw [if_neg e2, if_neg (by omega)]
          · have h1 := ((HT.out.s i hi).keep bA).other (k := go) (i := k) (v := .slice (some ⟨g, 0, none⟩) n n) (gsn i hi).1
            rw [← hwB] at h1
            simp only [if_neg (show i ≠ k by omega)]
            exact h1.keep hbC
          · have h1 := CA.other (k := go) (i := k) (v := .slice (some ⟨g, 0, none⟩) n n) (CA.ne oA (by decide))
            rw [← hwB] at h1
            simp only [if_true]
            exact (h1.keep hbC).congr fun i _ => by simp
          · have h1 := (HT.out.y.keep bA).other (k := go) (i := k) (v := .slice (some ⟨g, 0, none⟩) n n) (HT.out.y.ne HT.out.o (by decide))
            rw [← hwB] at h1
            exact (h1.keep hbC).congr fun i _ => by simp
          · simp only [if_true]; omega
          · simp only [if_true]; omega
          · simp only [if_true, if_neg (show i ≠ k by omega)]; exact (gsn i hi).2
          · simp only [if_true]; exact hBg
        have HOIB : Hid _ := OIB
        have kr : wB.cell? ⟨gr, k, none⟩ = some (.bool (decide ((k : Int) ∈ (walkP Ls).bl))) := by rw [rB.cell hlt, rch_get hlt]
        have HIB : Hid (IRow wB ao c Ls) := HI.out.below belB (Nat.le_refl _)
        have HwB : Hid (wB = wA.setCell ⟨go, k, none⟩ (.slice (some ⟨g, 0, none⟩) n n)) := hwB
        have HBB : Hid (Below w'.heap.size w' wB) := belB
        rw [← hgE] at m1
        rw [hwB] at kr
        have OTB : ovb Ls k = (fun _ => false) → OT w' wB w'.heap.size n Ls gr cr go gy (k + 1) (fun i => if i = k then g else gs i) := by
          intro hov
          have hov' : ∀ b, ovb Ls k b = false := fun b => by rw [hov]
          refine ⟨rB, ?_, fun i hi => ?_, ?_, belB, HT.out.lo⟩
          · have := (oA.set k (.slice (some ⟨g, 0, none⟩) n n))
            rw [← hwB] at this
            refine this.congr fun i _ => ?_
            by_cases e : i = k
            · subst e; simp
            · rw [if_neg e]
              by_cases e2 : i < k
              · rw [if_pos e2, if_pos (by omega), if_neg e]
              · rw [if_neg e2, if_neg (by omega)]
          · by_cases e : i = k
            · subst e
              simp only [if_true]
              have h1 := CA.other (k := go) (i := i) (v := .slice (some ⟨g, 0, none⟩) n n) (CA.ne oA (by decide))
              rw [← hwB] at h1
              exact h1.congr fun b _ => by rw [hov']
            · have h1 := ((HT.out.s i (by omega)).keep bA).other (k := go) (i := k) (v := .slice (some ⟨g, 0, none⟩) n n) (gsn i (by omega)).1
              rw [← hwB] at h1
              simp only [if_neg e]
              exact h1
          · have h1 := (HT.out.y.keep bA).other (k := go) (i := k) (v := .slice (some ⟨g, 0, none⟩) n n) (HT.out.y.ne HT.out.o (by decide))
            rw [← hwB] at h1
            exact h1.congr fun i _ => by rw [cnt_succ, hov']; simp
        have HOTB : Hid _ := OTB
        clear hwA sA bA hgE oA CA rA OIB OTB gsn rB belB hwB
        by_cases hin : (k : Int) ∈ (walkP Ls).bl
        · rw [decide_eq_true hin] at kr
          clear HOTB
          go_wp2_with fail
          rw [← HwB.out]
          refine (without_any wB ao n c Ls HN.out HIB.out HG.out (by omega) (k : Int)).mono ?_
          rintro e wC ⟨v, rfl, OM, bC⟩
          obtain ⟨gm, cm, rfl, hcm1, hcm2, _, _⟩ := own_some OM.out hpos
          have HOI : Hid _ := HOIB.out wC gm cm OM bC
          clear OM bC HOIB kr
          go_wp2_with fail
          go_loopg [9] n (fun q jv wr' => ∃ j : Nat, j ≤ n ∧ q = n - j ∧ jv = .int .i64 j ∧ Hid (OI w' wr' w'.heap.size n Ls gr cr go gy k (fun i => if i = k then g else gs i) gm cm j))
          case atStart => exact ⟨0, by omega, by omega, rfl, HOI.out⟩
          case round =>
            clear HOI
            obtain ⟨j, hj, rfl, rfl, HL⟩ := hrel
            by_cases hjn : j < n
            · have kj := HL.out.r.cell hjn
              have km := HL.out.m.cell hjn
              rw [rch_get hjn] at kj km
              have kc := HL.out.c.cell hjn
              have fc := HL.out.c.fz j
              have ky := HL.out.y.cell hjn
              have fy := HL.out.y.fz j
              have kg := HL.out.o.cell hlt
              simp only [if_pos (Nat.lt_succ_self k), if_true] at kg kc fc
              rw [if_neg (by omega)] at ky
              have ngy : g ≠ gy := by have := HL.out.c.ne HL.out.y (by decide); simpa using this
              have hcl := cnt_le Ls k j
              by_cases h1 : (j : Int) ∈ (walkP Ls).bl
              · rw [decide_eq_true h1] at kj
                by_cases h2 : (j : Int) ∈ woP Ls k
                · rw [decide_eq_true h2] at km
                  have HNX : Hid _ := HL.out.skip (by unfold ovb; simp [h2])
                  clear kc fc ky fy kg
                  go_wp2_with fail
                  go_roundg (n - (j + 1))
                  case rel => exact ⟨j + 1, by omega, rfl, by go_num, HNX.out⟩
                  case measure => omega
                · rw [decide_eq_false h2] at km
                  have HNX : Hid _ := HL.out.take (by unfold ovb; simp [h2, h1, hin])
                  simp only [if_true] at HNX
                  go_wp2_with fail
                  go_roundg (n - (j + 1))
                  case rel => exact ⟨j + 1, by omega, rfl, by go_num, HNX.out⟩
                  case measure => omega
              · rw [decide_eq_false h1] at kj
                have HNX : Hid _ := HL.out.skip (by unfold ovb; simp [h1])
                clear kc fc ky fy kg km
                go_wp2_with fail
                go_roundg (n - (j + 1))
                case rel => exact ⟨j + 1, by omega, rfl, by go_num, HNX.out⟩
                case measure => omega
            · have hjn' : j = n := by omega
              subst hjn'
              have HNX : Hid (OT w' wr w'.heap.size j Ls gr cr go gy (k + 1) (fun i => if i = k then g else gs i)) := by
                refine ⟨HL.out.r, HL.out.o, fun i hi => ?_, HL.out.y.congr fun i hi => by rw [if_pos hi], HL.out.bel, HL.out.lo.1, HL.out.lo.2.1⟩
                by_cases e : i = k
                · subst e
                  exact HL.out.c.congr fun b hb => by simp [hb]
                · exact HL.out.s i (by omega)
              go_wp2_with fail
              go_roundg (j - (k + 1))
              case rel => exact ⟨k + 1, _, by omega, rfl, by go_num, HNX.out⟩
              case measure => omega
        · rw [decide_eq_false hin] at kr
          have HNX : Hid _ := HOTB.out (by funext b; unfold ovb; simp [hin])
          clear HOTB HOIB
          go_wp2_with fail
          rw [← HwB.out]
          go_roundg (n - (k + 1))
          case rel => exact ⟨k + 1, _, by omega, rfl, by go_num, HNX.out⟩
          case measure => omega
      · have hkn : k = n := by omega
        have HT2 : Hid (OT w' wr w'.heap.size n Ls gr cr go gy n gs) := by have := HT.out; rw [hkn] at this; exact this
        clear HT
        have m1 := HM3.out wr
        obtain ⟨w5, hw5⟩ : ∃ w5, w5 = wr.alloc (.cells (madeCells #[.int .i64 0] n) 3) := ⟨_, rfl⟩
        rw [← hw5] at m1
        obtain ⟨gt, hgt⟩ : ∃ gt, gt = wr.heap.size := ⟨_, rfl⟩
        have hBt : w'.heap.size ≤ gt := by have := HT2.out.bel.size; omega
        have HU : Hid (OU w' w5 w'.heap.size n Ls go gy gt 0 0 gs) := by
          have b5 : Below wr.heap.size wr w5 := by rw [hw5]; exact (Below.refl _ _).alloc (Nat.le_refl _) _
          refine ⟨(HT2.out.o.keep b5).congr fun i hi => by rw [if_pos hi], fun i hi => (HT2.out.s i hi).keep b5, HT2.out.y.keep b5, ?_, by have := HT2.out.y.lt; omega, HT2.out.bel.trans (b5.mono (by omega)), hBt⟩
          rw [hw5, hgt]
          exact (CW.made wr n 3 (.int .i64 0)).congr fun i _ => by simp
        rw [← hgt] at m1
        clear HT2 hw5 hgt hkn
        go_wp2_with fail
        go_loopg [11] n (fun q bv wq => ∃ b : Nat, b ≤ n ∧ q = n - b ∧ bv = .int .i64 b ∧ Hid (OU w' wq w'.heap.size n Ls go gy gt b 0 gs))
        case atStart => exact ⟨0, by omega, by omega, rfl, HU.out⟩
        case round =>
          clear HU m1
          obtain ⟨b, hb, rfl, rfl, HU⟩ := hrel
          by_cases hbn : b < n
          · obtain ⟨z, kz⟩ : ∃ z, wr.cell? ⟨gt, b, none⟩ = some z := ⟨_, HU.out.t.cell hbn⟩
            have fz := HU.out.t.fz b
            have HU1 : Hid _ := HU.out.set (-1)
            go_wp2_with fail
            go_loopg [12] n (fun q av wq => ∃ k : Nat, k ≤ n ∧ q = n - k ∧ av = .int .i64 k ∧ Hid (OU w' wq w'.heap.size n Ls go gy gt b (pk Ls b k) gs))
            case atStart => exact ⟨0, by omega, by omega, rfl, HU1.out⟩
            case round =>
              clear HU HU1 kz fz
              obtain ⟨k, hk, rfl, rfl, HU⟩ := hrel
              by_cases hkn : k < n
              · obtain ⟨x, hx⟩ : ∃ x, x = pk Ls b k := ⟨_, rfl⟩
                have hxr := pk_rng Ls b k
                rw [← hx] at hxr HU
                have kt := HU.out.t.cell hbn
                have ft := HU.out.t.fz b
                rw [if_neg (by omega), if_pos rfl] at kt
                have ko := HU.out.o.cell hkn
                have ks := (HU.out.s k hkn).cell hbn
                have ky := HU.out.y.cell hkn
                obtain ⟨cy, hcy⟩ : ∃ cy, cy = cnt Ls n k := ⟨_, rfl⟩
                have hcl := cnt_le Ls n k
                rw [← hcy] at ky hcl
                have HSAME : Hid (pk Ls b (k + 1) = x → ∀ q, OU w' (wr.drewN q) w'.heap.size n Ls go gy gt b (pk Ls b (k + 1)) gs) := fun e q => by rw [e]; exact HU.out.draws q
                have HTURN : Hid (pk Ls b (k + 1) = k → ∀ q, OU w' ((wr.drewN q).setCell ⟨gt, b, none⟩ (.int .i64 (k : Int))) w'.heap.size n Ls go gy gt b (pk Ls b (k + 1)) gs) := fun e q => by rw [e]; exact (HU.out.draws q).set _
                by_cases hkb : k = b
                · subst hkb
                  have hS : pk Ls k (k + 1) = x := by rw [pk, if_neg (by simp)]; exact hx.symm
                  have HS : Hid _ := hS
                  clear hx hxr hcy HTURN hS
                  go_wp2_with fail
                  go_quiet (fail)
                  go_wp2_with fail
                  go_roundg (n - (k + 1))
                  case rel => exact ⟨k + 1, by omega, rfl, by go_num, HSAME.out HS.out _⟩
                  case measure => omega
                · have hne : ¬ (k : Int) = (b : Int) := by omega
                  have hne2 : ((k : Int) == (b : Int)) = false := by simp [hne]
                  have hne3 : ((k : Int) != (b : Int)) = true := by simp [hne]
                  by_cases hov : ovb Ls k b = true
                  · rw [hov] at ks
                    rcases hxr with hneg | hnn
                    · have hS : pk Ls b (k + 1) = k := by
                        rw [pk, if_pos]
                        exact ⟨hkb, hov, .inl (by rw [← hx, hneg]; omega)⟩
                      have HS : Hid _ := hS
                      have hx0 : x < 0 := by omega
                      have hx1 : decide (x < 0) = true := by simp [hx0]
                      clear hx hcy HSAME hS hneg
                      go_wp2_with fail
                      go_quiet (fail)
                      go_wp2_with fail
                      go_roundg (n - (k + 1))
                      case rel => exact ⟨k + 1, by omega, rfl, by go_num, HTURN.out HS.out _⟩
                      case measure => omega
                    · obtain ⟨p, rfl⟩ : ∃ p : Nat, x = p := ⟨x.toNat, by omega⟩
                      have hpn : p < n := by omega
                      have kp := HU.out.y.cell hpn
                      obtain ⟨cp, hcp⟩ : ∃ cp, cp = cnt Ls n p := ⟨_, rfl⟩
                      rw [← hcp] at kp
                      have hn' := HN.out
                      have hS : pk Ls b (k + 1) = if cp < cy then (k : Int) else (p : Int) := by
                        rw [pk, ← hx, ← hn', hcp, hcy]
                        simp only [Int.toNat_natCast]
                        by_cases hc : cnt Ls n p < cnt Ls n k
                        · rw [if_pos hc, if_pos ⟨hkb, hov, .inr hc⟩]
                        · rw [if_neg hc, if_neg]
                          rintro ⟨_, _, q | q⟩
                          · omega
                          · exact hc q
                      have HS : Hid _ := hS
                      have hp0 : ¬ (p : Int) < 0 := by omega
                      have hp1 : decide ((p : Int) < 0) = false := by simp
                      clear hx hcy hcp hn' hS
                      by_cases hc : cp < cy
                      · have hc1 : (cp : Int) < (cy : Int) := by omega
                        have HS2 : Hid (pk Ls b (k + 1) = k) := by show _ = _; rw [HS.out, if_pos hc]
                        clear HS
                        go_wp2_with fail
                        go_quiet (fail)
                        go_wp2_with fail
                        go_roundg (n - (k + 1))
                        case rel => exact ⟨k + 1, by omega, rfl, by go_num, HTURN.out HS2.out _⟩
                        case measure => omega
                      · have hc1 : ¬ (cp : Int) < (cy : Int) := by omega
                        have HS2 : Hid (pk Ls b (k + 1) = p) := by show _ = _; rw [HS.out, if_neg hc]
                        clear HS
                        go_wp2_with fail
                        go_quiet (fail)
                        go_wp2_with fail
                        go_roundg (n - (k + 1))
                        case rel => exact ⟨k + 1, by omega, rfl, by go_num, HSAME.out HS2.out _⟩
                        case measure => omega
                  · have hov' : ovb Ls k b = false := by simpa using hov
                    rw [hov'] at ks
                    have hS : pk Ls b (k + 1) = x := by
                      rw [pk, if_neg]
                      · exact hx.symm
                      · rintro ⟨_, q, _⟩; exact hov q
                    have HS : Hid _ := hS
                    clear hx hcy HTURN hS hxr
                    go_wp2_with fail
                    go_quiet (fail)
                    go_wp2_with fail
                    go_roundg (n - (k + 1))
                    case rel => exact ⟨k + 1, by omega, rfl, by go_num, HSAME.out HS.out _⟩
                    case measure => omega
              · have hkn' : k = n := by omega
                have HNX : Hid (OU w' wr w'.heap.size n Ls go gy gt (b + 1) 0 gs) := by have := HU.out; rw [hkn'] at this; exact this.next
                clear hkn'
                go_wp2_with fail
                go_roundg (n - (b + 1))
                case rel => exact ⟨b + 1, by omega, rfl, by go_num, HNX.out⟩
                case measure => omega
          · have hbn' : b = n := by omega
            have HF : Hid (OwnI wr w'.heap.size (.slice (some ⟨gt, 0, none⟩) n n) n ((List.range n).map fun b => pk Ls b n) ∧ Below w'.heap.size w' wr) := by
              have hU := HU.out
              rw [hbn'] at hU
              exact ⟨(hU.t.congr fun i hi => by rw [if_pos hi]).own hU.lo (by omega), hU.bel⟩
            clear hbn' HU
            go_wp2_with fail
            go_ret
            rw [HR.out]
            refine ⟨_, rfl, ?_, HF.out.2⟩
            have := HF.out.1
            simpa using this
  · have hg' : goodP Ls = false := by simpa using hg
    rw [hg'] at hgd
    have HR : Hid (treeP Ls = []) := by show _ = _; unfold treeP; rw [if_neg hg]
    clear h hn hg hg'
    go_enter Try.func12, Try.ntmps12
    go_wp2_with fail
    refine hgd.mono ?_
    rintro e w' ⟨rfl, rfl⟩
    go_wp2_with fail
    go_ret
    rw [HR.out]
    exact ⟨_, rfl, OwnI.nil _ _, Below.refl _ _⟩
end Go.Proofs.Ythjjdfiaikibaab
