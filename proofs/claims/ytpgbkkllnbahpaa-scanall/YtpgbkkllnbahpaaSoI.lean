import Derived.Test.YtpgbkkllnbahpaaSoH
import Derived.Test.YtpgbkkllnbahpaaSoD
set_option linter.unusedVariables false
set_option linter.unusedSimpArgs false
namespace Go.Proofs.Ytpgbkkllnbahpaa
open Go.ChangeShapes Go.WideShapes Go.ChangeAt Go.RowKit Go.Maps

/-- The eight numbers of held. -/
structure HA (w : World) (hb : Nat) (H : List Int) : Prop where
  out : w.heap[hb]? = some (.cells (ivs H).toArray 54 (0, 0))
theorem HA.lt {w hb H} (h : HA w hb H) : hb < w.heap.size := (Array.getElem?_eq_some_iff.1 h.out).1
theorem HA.keep {w w' hb H} (h : HA w hb H) (hb' : Below w.heap.size w w') : HA w' hb H := ⟨(hb'.block hb h.lt).trans h.out⟩
theorem HA.cell {w hb H} (h : HA w hb H) {q : Nat} (hq : q < H.length) : w.cell? ⟨hb, q, none⟩ = some (.int .i64 (H.getD q 0)) := by
  simp [World.cell?, h.out, ivs, hq, List.getD]
theorem HA.fz {w hb H} (h : HA w hb H) (q : Nat) : w.frozen? ⟨hb, q, none⟩ = false := by simp [World.frozen?, h.out]
theorem HA.set {w hb H} (h : HA w hb H) (q : Nat) (u : Int) : HA (w.setCell ⟨hb, q, none⟩ (.int .i64 u)) hb (H.set q u) := ⟨by
  rw [heap_set_at h.out]
  simp [ivs, List.map_set]⟩
def flK (j : Nat) : List Int := List.replicate j (-1) ++ List.replicate (8 - j) 0
theorem flK_len {j : Nat} (h : j ≤ 8) : (flK j).length = 8 := by simp [flK]; omega
theorem flK_set {j : Nat} (h : j < 8) : (flK j).set j (-1) = flK (j + 1) := by
  unfold flK
  obtain ⟨d, hd⟩ : ∃ d, 8 - j = d + 1 := ⟨7 - j, by omega⟩
  rw [hd, List.set_append_right _ _ (by simp), List.length_replicate, Nat.sub_self, List.replicate_succ, List.set_cons_zero, List.replicate_succ', List.append_assoc, show 8 - (j + 1) = d by omega]
  rfl
theorem Lst.start (L : List Iv) (k : Nat) (H : List Int) : Lst L k H 0 k := ⟨Nat.le_refl _, .inl rfl, fun _ _ => .inl rfl, fun p i hp => by omega⟩
theorem Lst.yes {L : List Iv} {k : Nat} {H : List Int} {q last i : Nat} (h : Lst L k H q last) (hk : k < L.length) (hi : i < k) (hH : H.getD q 0 = (i : Int)) (ha : ∀ (hi : i < L.length) (hl : last < L.length), aft L[last] L[i] = true) : Lst L k H (q + 1) i := by
  have hl : last < L.length := by have := h.lt; omega
  have ha' := ha (by omega) hl
  refine ⟨by omega, .inr ⟨q, by omega, hH⟩, fun h1 h2 => ?_, fun p i' hp he h1 h2 => ?_⟩
  · rcases h.self h1 hl with e | e
    · rw [e]; exact .inr ha'
    · exact .inr (aft_trans _ _ _ e ha')
  · rcases Nat.lt_succ_iff_lt_or_eq.1 hp with e | rfl
    · rcases h.max p i' e he h1 hl with e | e
      · rw [e]; exact .inr ha'
      · exact .inr (aft_trans _ _ _ e ha')
    · have : i' = i := by omega
      subst this
      exact .inl rfl
theorem Lst.no {L : List Iv} {m k : Nat} {H : List Int} {q last i : Nat} (g : G1 L m) (h : Lst L k H q last) (hk : k < L.length) (hi : i < k) (hH : H.getD q 0 = (i : Int)) (ha : ∀ (hi : i < L.length) (hl : last < L.length), aft L[last] L[i] = false) : Lst L k H (q + 1) last := by
  have hl : last < L.length := by have := h.lt; omega
  have ha' := ha (by omega) hl
  refine ⟨h.lt, ?_, h.self, fun p i' hp he h1 h2 => ?_⟩
  · rcases h.mem with e | ⟨p, hp, e⟩
    · exact .inl e
    · exact .inr ⟨p, by omega, e⟩
  · rcases Nat.lt_succ_iff_lt_or_eq.1 hp with e | rfl
    · exact h.max p i' e he h1 h2
    · have : i' = i := by omega
      subst this
      by_cases e : L[i'].1 = L[last].1
      · exact .inl (nodup_inj g.once (List.getElem_mem _) (List.getElem_mem _) e)
      · exact .inr (aft_total (fun q => e q.symm) ha')
/-- All that the document's scan holds while it takes an interval. -/
structure RS (w wr : World) (ob hb m : Nat) (H : List Int) (pl : List Lc) : Prop where
  row : Row wr w.heap.size 37 2 (.slice (some ⟨ob, 0, none⟩) m m) (pl.map lc)
  ha : HA wr hb H
  bel : Below w.heap.size w wr
  lo : w.heap.size ≤ hb
theorem RS.keep {w wr wr' ob hb m H pl} (h : RS w wr ob hb m H pl) (hb' : Below wr.heap.size wr wr') : RS w wr' ob hb m H pl := ⟨h.row.keep hb', h.ha.keep hb', h.bel.trans (hb'.mono h.bel.size), h.lo⟩
theorem RS.set {w wr ob hb m H pl} (h : RS w wr ob hb m H pl) (q : Nat) (u : Int) : RS w (wr.setCell ⟨hb, q, none⟩ (.int .i64 u)) ob hb m (H.set q u) pl :=
  ⟨h.row.move fun g hg => Below.heap_setCell _ _ _ _ fun e => own_not h.row.out h.ha.out (by decide) (by rw [hg, e]), h.ha.set q u, h.bel.setCell (p := ⟨hb, q, none⟩) h.lo _, h.lo⟩
/-- The free register so far, from q on. -/
def FrP (H : List Int) (r q : Nat) (f : Int) : Prop := (f = -1 ∧ ∀ p, q ≤ p → p < r → 0 ≤ H.getD p 0) ∨ (∃ f' : Nat, f = (f' : Int) ∧ q ≤ f' ∧ f' < r ∧ H.getD f' 0 < 0 ∧ ∀ p, q ≤ p → p < f' → 0 ≤ H.getD p 0)
set_option maxRecDepth 100000 in
set_option maxHeartbeats 8000000 in
theorem refScan_any (w : World) (ao : Option Addr) (n c : Nat) (L : List Iv) (hn : n = L.length) (h : Ivs w ao c L) (regs : Int) (hl : n ≤ 90000000) : Calls Try.prog 13 #[.slice ao n c, .int .i64 regs] w fun e w' => ∃ v m x, e = .returned (.tuple #[v, .int .i64 m, .int .i64 x]) ∧ ScAns w w' L regs v m x := by
  have HN : Hid (n = L.length) := hn
  have hnc : n ≤ c := by have := h.le; omega
  have hcm : c ≤ 9223372036854775807 := h.mx
  have HH : Hid (Ivs w ao c L) := h
  by_cases hr : regs < 1 ∨ 8 < regs
  · have HR : Hid (regs < 1 ∨ 8 < regs) := hr
    clear h hn
    rcases hr with hr | hr
    · go_enter Try.func13, Try.ntmps13
      go_wp2_with fail
      refine bodyPost_ret (v := .tuple #[.slice none 0 0, .int .i64 0, .int .i64 180]) (by simp [results, Try.results13, go_sem]) rfl ?_
      exact ⟨_, _, _, rfl, Below.refl _ _, fun _ => ⟨rfl, rfl, rfl⟩, fun q => absurd HR.out q, fun q => absurd HR.out q⟩
    · have hr2 : ¬ regs < 1 := by omega
      go_enter Try.func13, Try.ntmps13
      go_wp2_with fail
      refine bodyPost_ret (v := .tuple #[.slice none 0 0, .int .i64 0, .int .i64 180]) (by simp [results, Try.results13, go_sem]) rfl ?_
      exact ⟨_, _, _, rfl, Below.refl _ _, fun _ => ⟨rfl, rfl, rfl⟩, fun q => absurd HR.out q, fun q => absurd HR.out q⟩
  have HR : Hid (¬ (regs < 1 ∨ 8 < regs)) := hr
  obtain ⟨r, hrr⟩ : ∃ r : Nat, regs = (r : Int) := ⟨regs.toNat, by omega⟩
  subst hrr
  have hr1 : 1 ≤ r := by omega
  have hr8 : r ≤ 8 := by omega
  have ri1 : decide ((r : Int) < 1) = false := by simp; omega
  have ri8 : decide ((8 : Int) < (r : Int)) = false := by simp; omega
  have HRT : Hid (Calls Try.prog 26 #[.slice ao n c] w fun e w' => e = .returned (.bool (gdB L)) ∧ Below w.heap.size w w') := right_any w ao n c L hn h
  clear h hn hr
  cases hg : gdB L with
  | false =>
    rw [hg] at HRT
    have HG : Hid (gdB L = false) := hg
    clear hg
    go_enter Try.func13, Try.ntmps13
    go_wp2_with (go_at_call 26; refine Calls.mono HRT.out ?_; rintro e w1 ⟨rfl, hb1⟩; have HB1 : Hid (Below w.heap.size w w1) := hb1; clear hb1)
    refine bodyPost_ret (v := .tuple #[.slice none 0 0, .int .i64 0, .int .i64 181]) (by simp [results, Try.results13, go_sem]) rfl ?_
    exact ⟨_, _, _, rfl, HB1.out, fun q => absurd q HR.out, fun _ _ => ⟨rfl, rfl, rfl⟩, fun _ q => by rw [HG.out] at q; cases q⟩
  | true =>
    rw [hg] at HRT
    have HG : Hid (gdB L = true) := hg
    have HS : Hid (Srt L) := gd_srt hg HH.out.fit
    clear hg
    go_enter Try.func13, Try.ntmps13
    go_wp2_with (go_at_call 26; refine Calls.mono HRT.out ?_; rintro e w1 ⟨rfl, hb1⟩; have HB1 : Hid (Below w.heap.size w w1) := hb1; clear hb1)
    clear HRT ri1 ri8
    go_loopw [8, 9] (fun u v wr => ∃ k : Nat, k ≤ n ∧ v = .int .i64 k ∧ u = .int .i64 (grt (L.take k)) ∧ wr = w1) (fun _ v _ => n - (intOf v).toNat)
    case atStart => exact ⟨0, by omega, rfl, rfl, rfl⟩
    case round =>
      obtain ⟨k, hk, rfl, rfl, hwr⟩ := hrel
      subst hwr
      by_cases hlt : k < n
      · have hk2 : k < L.length := by have := HN.out; omega
        obtain ⟨b, o, rfl, hbw, c0, c1, c2⟩ := (HH.out.below HB1.out (Nat.le_refl _)).at hk2
        have HGS : Hid (grt (L.take (k + 1)) = max (grt (L.take k)) L[k].1) := grt_step L k hk2
        generalize L[k] = y at c0 c1 c2 HGS
        obtain ⟨g, hg⟩ : ∃ g, g = grt (L.take k) := ⟨_, rfl⟩
        rw [← hg] at HGS ⊢
        clear hg hk2
        go_wp2_with fail
        go_roundw
        case rel => exact ⟨k + 1, by omega, by go_num, by rw [HGS.out]; first | rfl | (congr 1; omega), by trivial⟩
        case measure => simp [intOf]; omega
      · obtain rfl : k = n := by omega
        have HT : Hid (L.take k = L) := List.take_of_length_le (by have := HN.out; omega)
        rw [HT.out]
        obtain ⟨m, hm⟩ : ∃ m : Nat, grt L = (m : Int) - 1 := ⟨(grt L + 1).toNat, by have := grt_ge L; omega⟩
        have hml : m ≤ 262144 := by
          have := grt_lt fun x hx => by have := HS.out.ok x hx; simp [okI] at this; exact this.1.2
          omega
        have HG1 : Hid (G1 L m) := by have := HS.out.g1; rw [hm] at this; rw [show (m : Int) - 1 + 1 = m by omega, Int.toNat_natCast] at this; exact this
        have HMM : Hid (scn L r = scnN L r m) := by show scn L r = _; unfold scn; rw [hm]; congr 1; omega
        rw [hm]
        have hmk := run_locs m (by omega)
        obtain ⟨cs, hcs⟩ : ∃ cs, cs = ((List.replicate m ((0, 0) : Lc)).map lc).flatten.toArray := ⟨_, rfl⟩
        rw [← hcs] at hmk
        have HCS : Hid (cs = ((List.replicate m ((0, 0) : Lc)).map lc).flatten.toArray) := hcs
        clear hm hk hlt hcs
        go_wp2_with fail
        obtain ⟨w2, hw2⟩ : ∃ w2, w2 = wr.alloc (.cells cs 37) := ⟨_, rfl⟩
        rw [← hw2]
        have HB2 : Hid (Below w.heap.size w w2) := by rw [hw2]; exact HB1.out.alloc HB1.out.size _
        have HR2 : Hid (Row w2 w.heap.size 37 2 (.slice (some ⟨wr.heap.size, 0, none⟩) m m) ((scnN (L.take 0) r m).pl.map lc)) := by rw [hw2, HCS.out]; exact row_made HB1.out.size (by omega)
        generalize wr.heap.size = ob at HR2 ⊢
        clear hw2 hmk HB1
        go_loopw [11, 12] (fun u v wr => ∃ i : Nat, i ≤ k ∧ v = .int .i64 i ∧ u = .int .i64 ((scnN (L.take i) r m).sl : Int) ∧ Hid (Row wr w.heap.size 37 2 (.slice (some ⟨ob, 0, none⟩) m m) ((scnN (L.take i) r m).pl.map lc)) ∧ Hid (Below w.heap.size w wr)) (fun _ v _ => k - (intOf v).toNat)
        case atStart => exact ⟨0, by omega, rfl, rfl, HR2.out, HB2.out⟩
        case round =>
          clear HR2 HB2
          obtain ⟨i, hi, rfl, rfl, HRW, HB⟩ := hrel
          obtain ⟨wq, rfl⟩ : ∃ wq, wq = wr := ⟨_, rfl⟩
          by_cases hlt : i < k
          · have hi2 : i < L.length := by have := HN.out; omega
            obtain ⟨F0, hF1, hF2⟩ := inv_scan (r := r) HG1.out i (by omega)
            have hinv := hF1.free (hF2 hi2)
            have hbd := (Bnd.scan (r := r) HG1.out.reg i (by omega)).free L[i].2.1
            have hstep := scnN_step (r := r) (m := m) hi2
            obtain ⟨s, hs⟩ : ∃ s, s = (scnN (L.take i) r m).free L[i].2.1 := ⟨_, rfl⟩
            have hspl : s.pl = (scnN (L.take i) r m).pl := by rw [hs]; rfl
            have hssl : s.sl = (scnN (L.take i) r m).sl := by rw [hs]; rfl
            rw [← hs] at hinv hbd hstep
            rw [← hspl] at HRW
            rw [← hssl]
            have HINV : Hid (Inv L r i L[i].2.1 s) := hinv
            have HBD : Hid (Bnd s m i r) := hbd
            have HST : Hid (scnN (L.take (i + 1)) r m = s.take L[i]) := hstep
            clear hF1 hF2 hinv hbd hstep hspl hssl hs F0
            go_wp2_with fail
            obtain ⟨W1, hW1⟩ : ∃ W1, W1 = wq.alloc (.cells #[.int .i64 0, .int .i64 0, .int .i64 0, .int .i64 0, .int .i64 0, .int .i64 0, .int .i64 0, .int .i64 0] 54) := ⟨_, rfl⟩
            rw [← hW1]
            have HRS : Hid (RS w W1 ob wq.heap.size m (flK 0) s.pl) := by
              rw [hW1]
              exact ⟨HRW.out.keep ((Below.refl _ _).alloc (Nat.le_refl _) _), ⟨heap_alloc_new wq _⟩, HB.out.alloc HB.out.size _, HB.out.size⟩
            generalize wq.heap.size = hb at HRS ⊢
            clear hW1 HRW HB
            go_loopw [14] (fun v wr => ∃ j : Nat, j ≤ 8 ∧ v = .int .i64 j ∧ Hid (RS w wr ob hb m (flK j) s.pl)) (fun v _ => 8 - (intOf v).toNat)
            case atStart => exact ⟨0, by omega, rfl, HRS.out⟩
            case round =>
              clear HRS
              obtain ⟨j, hj, rfl, HRS⟩ := hrel
              obtain ⟨wz, rfl⟩ : ∃ wz, wz = wr := ⟨_, rfl⟩
              by_cases hj8 : j < 8
              · have hc := HRS.out.ha.cell (q := j) (by rw [flK_len (by omega)]; omega)
                have hf := HRS.out.ha.fz j
                have hlt2 := HRS.out.ha.lt
                have HR2 : Hid (RS w (wz.setCell ⟨hb, j, none⟩ (.int .i64 (-1))) ob hb m (flK (j + 1)) s.pl) := by
                  have := HRS.out.set j (-1)
                  rw [flK_set hj8] at this
                  exact this
                generalize (flK j).getD j 0 = u0 at hc
                go_wp2_with fail
                go_roundw
                case rel => exact ⟨j + 1, by omega, by go_num, HR2.out⟩
                case measure => simp [intOf]; omega
              · obtain rfl : j = 8 := by omega
                have HR0 : Hid (RS w wz ob hb m (List.replicate 8 (-1)) s.pl) := HRS.out
                clear HRS
                have e8 : ((8 : Nat) : Int) = 8 := rfl
                rw [e8]
                clear e8
                go_wp2_with fail
                go_loopw [15] (fun v wr => ∃ (j : Nat) (H : List Int), j ≤ i ∧ v = .int .i64 j ∧ Hid (RS w wr ob hb m H s.pl) ∧ Hid (Hld L s.pl L[i].2.1 j H)) (fun v _ => i - (intOf v).toNat)
                case atStart => exact ⟨0, _, by omega, rfl, HR0.out, Hld.start _ _ _⟩
                case round =>
                  clear HR0
                  obtain ⟨j, H, hj, rfl, HRS, HHL⟩ := hrel
                  obtain ⟨wz, rfl⟩ : ∃ wz, wz = wr := ⟨_, rfl⟩
                  by_cases hji : j < i
                  · have hj2 : j < L.length := by have := HN.out; omega
                    obtain ⟨b, o, rfl, hbw, c0, c1, c2⟩ := (HH.out.below HRS.out.bel (Nat.le_refl _)).at hi2
                    obtain ⟨_, _, e, _, d0, d1, d2⟩ := (HH.out.below HRS.out.bel (Nat.le_refl _)).at hj2
                    cases e
                    obtain ⟨p, hp⟩ : ∃ p : Nat, L[j].1 = (p : Int) := ⟨L[j].1.toNat, by have := (HG1.out.reg L[j] (List.getElem_mem hj2)).1; omega⟩
                    have hpm : p < m := by have := (HG1.out.reg L[j] (List.getElem_mem hj2)).2; omega
                    have hpi : (p : Int) < (m : Int) := by omega
                    have hml2 : m = s.pl.length := HBD.out.pl.symm
                    obtain ⟨f0, f1⟩ := row_lc HRS.out.row hml2 (k := p) (by omega)
                    have hob := (own_block HRS.out.row.out (g := ob) rfl).2
                    have hpx : s.pl[p]'(by omega) = plc s.pl L[j].1 := by rw [hp]; exact plc_at _
                    rw [hpx] at f0 f1
                    obtain ⟨x1, x2, hxx⟩ : ∃ x1 x2, plc s.pl L[j].1 = (x1, x2) := ⟨_, _, rfl⟩
                    rw [hxx] at f0 f1
                    simp only at f0 f1
                    rw [hp] at d0
                    have hhl := HRS.out.ha.lt
                    have hjk : j < k := by omega
                    have HKIN := HINV.out.kin L[j] (by rw [List.mem_take_iff_getElem]; exact ⟨j, by omega, rfl⟩)
                    rw [hxx] at HKIN
                    simp only at HKIN
                    have HNX : Hid (x1 ≠ 1 → Hld L s.pl L[i].2.1 (j + 1) H) := fun q => HHL.out.skip fun q' hh => by
                      obtain ⟨_, a, _⟩ := hh
                      rw [hxx] at a
                      simp at a
                      exact q a.1
                    have HNT : Hid (L[j].2.2 < L[i].2.1 → Hld L s.pl L[i].2.1 (j + 1) H) := fun q => HHL.out.skip fun q' hh => by
                      obtain ⟨_, _, a⟩ := hh
                      omega
                    have HYT : Hid (x1 = 1 → L[i].2.1 ≤ L[j].2.2 → ∀ q0 : Nat, x2 = (q0 : Int) → q0 < 8 → Hld L s.pl L[i].2.1 (j + 1) (H.set q0 (j : Int))) := fun q1 q2 q0 q3 q4 => HHL.out.put q4 ⟨hj2, by rw [hxx, q1, q3], q2⟩
                    have HRA : Hid (∀ q, RS w ((wz.alloc (.cells #[.int .i64 x1, .int .i64 x2] 37)).drewN q) ob hb m H s.pl) := fun q => HRS.out.keep (((Below.refl _ _).alloc (Nat.le_refl _) _).trans ((below_drewN0 _ _).mono (by simp)))
                    clear hpx hxx hml2
                    by_cases hx1 : x1 = 1
                    · by_cases ht : L[i].2.1 ≤ L[j].2.2
                      · obtain ⟨q0, hq0⟩ : ∃ q0 : Nat, x2 = (q0 : Int) := ⟨x2.toNat, by rcases HKIN with z | z <;> omega⟩
                        have hq8 : q0 < 8 := by rcases HKIN with z | z <;> omega
                        have HL2 := show Hid _ from HYT.out hx1 ht q0 hq0 hq8
                        subst hx1 hq0
                        clear HNX HNT HYT HKIN
                        go_wp2_with fail
                        go_quiet (fail)
                        have HRZ := show Hid _ from HRA.out nq
                        have bx : BxL ((wz.alloc (.cells #[.int .i64 1, .int .i64 (q0 : Int)] 37)).drewN nq) wz.heap.size (1, (q0 : Int)) := (BxL.mk (heap_alloc_new wz _)).keep (below_drewN0 _ _)
                        obtain ⟨W5, hW5⟩ : ∃ W5, W5 = (wz.alloc (.cells #[.int .i64 1, .int .i64 (q0 : Int)] 37)).drewN nq := ⟨_, rfl⟩
                        rw [← hW5] at HRZ bx ⊢
                        generalize wz.heap.size = pbx at bx ⊢
                        clear hW5 HRA c0 c1 c2 d0 d1 d2 f0 f1 hbw hob hhl
                        obtain ⟨g0, g1⟩ := bx.cells
                        have hbl := bx.lt
                        have hcc := HRZ.out.ha.cell (q := q0) (by rw [HHL.out.len]; omega)
                        have hff := HRZ.out.ha.fz q0
                        have hhl := HRZ.out.ha.lt
                        have HR5 := show Hid _ from HRZ.out.set q0 (j : Int)
                        generalize H.getD q0 0 = u0 at hcc
                        clear bx
                        simp only at g0 g1
                        go_wp2_with fail
                        go_roundw
                        case rel => exact ⟨j + 1, H.set q0 (j : Int), by omega, by go_num, HR5.out, HL2.out⟩
                        case measure => simp [intOf]; omega
                      · have t1 : decide (L[i].2.1 ≤ L[j].2.2) = false := by simp; omega
                        have HL2 := show Hid _ from HNT.out (by omega)
                        subst hx1
                        clear HNX HNT HYT HKIN
                        go_wp2_with fail
                        go_quiet (fail)
                        go_wp2_with fail
                        go_roundw
                        case rel => exact ⟨j + 1, H, by omega, by go_num, HRA.out _, HL2.out⟩
                        case measure => simp [intOf]; omega
                    · have t1 : (x1 == 1) = false := by simpa using hx1
                      have HL2 := show Hid _ from HNX.out hx1
                      clear HNX HNT HYT HKIN
                      go_wp2_with fail
                      go_quiet (fail)
                      go_wp2_with fail
                      go_roundw
                      case rel => exact ⟨j + 1, H, by omega, by go_num, HRA.out _, HL2.out⟩
                      case measure => simp [intOf]; omega
                  · obtain rfl : j = i := by omega
                    have HLEN := HHL.out.len
                    go_wp2_with fail
                    go_loopw [17, 18] (fun u v wr => ∃ (q : Nat) (f : Int), q ≤ r ∧ v = .int .i64 ((q : Int) - 1) ∧ u = .int .i64 f ∧ Hid (FrP H r q f) ∧ wr = wz) (fun _ v _ => (intOf v + 1).toNat)
                    case atStart => exact ⟨r, -1, by omega, by first | rfl | go_num, rfl, .inl ⟨rfl, fun p h1 h2 => by omega⟩, rfl⟩
                    case round =>
                      obtain ⟨q, f, hq, rfl, rfl, HFP, hwr⟩ := hrel
                      subst hwr
                      cases q with
                      | succ q =>
                        have hcc := HRS.out.ha.cell (q := q) (by omega)
                        have hhl := HRS.out.ha.lt
                        have i1 : ((q : Int) + 1 - 1) = (q : Int) := by omega
                        have i2 : (q : Int) < 8 := by omega
                        have hq8 : q < 8 := by omega
                        have HFN : Hid (H.getD q 0 < 0 → FrP H r q (q : Int)) := fun z => .inr ⟨q, rfl, Nat.le_refl _, by omega, z, fun p h1 h2 => by omega⟩
                        have HFY : Hid (0 ≤ H.getD q 0 → FrP H r q f) := fun z => by
                          rcases HFP.out with ⟨a, b⟩ | ⟨f', a, b, c, d, e⟩
                          · exact .inl ⟨a, fun p h1 h2 => by
                              by_cases e : p = q
                              · rw [e]; exact z
                              · exact b p (by omega) h2⟩
                          · exact .inr ⟨f', a, by omega, c, d, fun p h1 h2 => by
                              by_cases e' : p = q
                              · rw [e']; exact z
                              · exact e p (by omega) h2⟩
                        rw [show (((q + 1 : Nat) : Int) - 1) = (q : Int) by omega]
                        generalize H.getD q 0 = u0 at hcc HFN HFY
                        by_cases hu : u0 < 0
                        · have HF2 := show Hid _ from HFN.out hu
                          go_wp2_with fail
                          go_roundw
                          case rel => exact ⟨q, (q : Int), by omega, by first | rfl | go_num, rfl, HF2.out, by trivial⟩
                          case measure => simp [intOf]; try omega
                        · have HF2 := show Hid _ from HFY.out (by omega)
                          have hu2 : decide (u0 < 0) = false := by simp; omega
                          go_wp2_with fail
                          go_roundw
                          case rel => exact ⟨q, f, by omega, by first | rfl | go_num, rfl, HF2.out, by trivial⟩
                          case measure => simp [intOf]; try omega
                      | zero =>
                        have HFP0 : Hid (FrP H r 0 f) := HFP
                        clear HFP
                        rw [show (((0 : Nat) : Int) - 1) = -1 by omega]
                        have hi3 : j < L.length := hi2
                        obtain ⟨q, hqx⟩ : ∃ q : Nat, L[j].1 = (q : Int) := ⟨L[j].1.toNat, by have := (HG1.out.reg L[j] (List.getElem_mem hi3)).1; omega⟩
                        have hqm : q < m := by have := (HG1.out.reg L[j] (List.getElem_mem hi3)).2; omega
                        have hqi : (q : Int) < (m : Int) := by omega
                        obtain ⟨b, o, rfl, hbw, c0, c1, c2⟩ := (HH.out.below HRS.out.bel (Nat.le_refl _)).at hi3
                        rw [hqx] at c0
                        have hml2 : m = s.pl.length := HBD.out.pl.symm
                        have fz := fun p => own_fz (g := ob) (by have := HRS.out.row.out; rw [show (List.map lc s.pl).length = m by simp [hml2]] at this; exact this) p
                        have hob := (own_block HRS.out.row.out (g := ob) rfl).2
                        have hlo := (own_block HRS.out.row.out (g := ob) rfl).1
                        rcases HFP0.out with ⟨rfl, hall⟩ | ⟨f', rfl, _, hf1, hf2, hf3⟩
                        · have hall2 : Hid (∀ q, q < r → 0 ≤ H.getD q 0) := fun q hq => hall q (by omega) hq
                          have HRF : Hid (RS w wr ob hb m H s.pl) := HRS
                          clear HRS hall HFP0 fz hob hlo hml2 c0 c1 c2 hbw
                          go_wp2_with fail
                          go_loopw [19, 20] (fun u v wr => ∃ (p last : Nat), p ≤ r ∧ last ≤ j ∧ v = .int .i64 p ∧ u = .int .i64 last ∧ Hid (Lst L j H p last) ∧ Hid (RS w wr ob hb m H s.pl)) (fun _ v _ => r - (intOf v).toNat)
                          case atStart => exact ⟨0, j, by omega, by omega, rfl, rfl, Lst.start _ _ _, HRF.out⟩
                          case round =>
                            clear HRF
                            obtain ⟨p, last, hp, hlast, rfl, rfl, HLS, HRS⟩ := hrel
                            obtain ⟨wz, rfl⟩ : ∃ wz, wz = wr := ⟨_, rfl⟩
                            have hll : last < L.length := by omega
                            obtain ⟨_, _, e, hbw, c0, c1, c2⟩ := (HH.out.below HRS.out.bel (Nat.le_refl _)).at hll
                            cases e
                            have hlk : last < k := by omega
                            by_cases hpr : p < r
                            · obtain ⟨i', hi', heq⟩ : ∃ i' : Nat, i' < j ∧ H.getD p 0 = (i' : Int) := by
                                rcases HHL.out.out p (by omega) with ⟨a, _⟩ | ⟨i', a, b, _⟩
                                · have := hall2.out p hpr; omega
                                · exact ⟨i', a, b⟩
                              have hil : i' < L.length := by omega
                              obtain ⟨_, _, e, _, d0, d1, d2⟩ := (HH.out.below HRS.out.bel (Nat.le_refl _)).at hil
                              cases e
                              have hcc := HRS.out.ha.cell (q := p) (by omega)
                              rw [heq] at hcc
                              have hhl := HRS.out.ha.lt
                              have hik : i' < k := by omega
                              have hp8 : p < 8 := by omega
                              have HYS : Hid (aft L[last] L[i'] = true → Lst L j H (p + 1) i') := fun q => HLS.out.yes hi3 hi' heq (fun _ _ => q)
                              have HNO : Hid (aft L[last] L[i'] = false → Lst L j H (p + 1) last) := fun q => HLS.out.no HG1.out hi3 hi' heq (fun _ _ => q)
                              generalize L[i'] = y at d0 d1 d2 HYS HNO
                              generalize L[last] = z at c0 c1 c2 HYS HNO
                              have HRA : Hid (∀ q, RS w ((wz.alloc (.cells #[.int .i64 y.1, .int .i64 y.2.1, .int .i64 y.2.2] 35)).drewN q) ob hb m H s.pl) := fun q => HRS.out.keep (((Below.refl _ _).alloc (Nat.le_refl _) _).trans ((below_drewN0 _ _).mono (by simp)))
                              have hccA : ∀ q, ((wz.alloc (.cells #[.int .i64 y.1, .int .i64 y.2.1, .int .i64 y.2.2] 35)).drewN q).cell? ⟨hb, p, none⟩ = some (.int .i64 (i' : Int)) := fun q => by
                                have := (HRA.out q).ha.cell (q := p) (by omega)
                                rw [heq] at this
                                exact this
                              have HCA : Hid (∀ q, ((wz.alloc (.cells #[.int .i64 y.1, .int .i64 y.2.1, .int .i64 y.2.2] 35)).drewN q).cell? ⟨hb, p, none⟩ = some (.int .i64 (i' : Int))) := hccA
                              clear hccA hll hil
                              by_cases h1 : z.2.2 < y.2.2
                              · have HL2 := show Hid _ from HYS.out (by rw [aft_iff]; omega)
                                clear HYS HNO
                                go_wp2_with fail
                                go_quiet (fail)
                                have hcz := HCA.out nq
                                have HRZ := show Hid _ from HRA.out nq
                                obtain ⟨W5, hW5⟩ : ∃ W5, W5 = (wz.alloc (.cells #[.int .i64 y.1, .int .i64 y.2.1, .int .i64 y.2.2] 35)).drewN nq := ⟨_, rfl⟩
                                rw [← hW5] at hcz HRZ ⊢
                                clear hW5 HCA HRA c0 c1 c2 d0 d1 d2 hcc hbw hhl
                                have hhl := HRZ.out.ha.lt
                                go_wp2_with fail
                                go_roundw
                                case rel => exact ⟨p + 1, i', by omega, by omega, by go_num, rfl, HL2.out, HRZ.out⟩
                                case measure => simp [intOf]; omega
                              · by_cases h2 : y.2.2 = z.2.2
                                · by_cases h3 : z.1 < y.1
                                  · have HL2 := show Hid _ from HYS.out (by rw [aft_iff]; omega)
                                    rw [h2] at d2
                                    clear HYS HNO h1
                                    go_wp2_with fail
                                    go_quiet (fail)
                                    have hcz := HCA.out nq
                                    have HRZ := show Hid _ from HRA.out nq
                                    rw [h2] at hcz HRZ
                                    obtain ⟨W5, hW5⟩ : ∃ W5, W5 = (wz.alloc (.cells #[.int .i64 y.1, .int .i64 y.2.1, .int .i64 z.2.2] 35)).drewN nq := ⟨_, rfl⟩
                                    rw [← hW5] at hcz HRZ ⊢
                                    clear hW5 HCA HRA c0 c1 c2 d0 d1 d2 hcc hbw hhl h2
                                    have hhl := HRZ.out.ha.lt
                                    go_wp2_with fail
                                    go_roundw
                                    case rel => exact ⟨p + 1, i', by omega, by omega, by go_num, rfl, HL2.out, HRZ.out⟩
                                    case measure => simp [intOf]; omega
                                  · have HL2 := show Hid _ from HNO.out (by cases e : aft z y with | false => rfl | true => rw [aft_iff] at e; omega)
                                    have t1 : decide (z.1 < y.1) = false := by simp; omega
                                    have HRA2 : Hid (∀ q, RS w ((wz.alloc (.cells #[.int .i64 y.1, .int .i64 y.2.1, .int .i64 z.2.2] 35)).drewN q) ob hb m H s.pl) := by rw [← h2]; exact HRA
                                    rw [h2] at d2
                                    clear HYS HNO h1 HRA HCA h2
                                    go_wp2_with fail
                                    go_quiet (fail)
                                    go_wp2_with fail
                                    go_roundw
                                    case rel => exact ⟨p + 1, last, by omega, by omega, by go_num, rfl, HL2.out, HRA2.out _⟩
                                    case measure => simp [intOf]; omega
                                · have HL2 := show Hid _ from HNO.out (by cases e : aft z y with | false => rfl | true => rw [aft_iff] at e; omega)
                                  have t1 : decide (z.2.2 < y.2.2) = false := by simp; omega
                                  have t2 : (y.2.2 == z.2.2) = false := by simpa using h2
                                  clear HYS HNO HCA
                                  go_wp2_with fail
                                  go_quiet (fail)
                                  go_wp2_with fail
                                  go_roundw
                                  case rel => exact ⟨p + 1, last, by omega, by omega, by go_num, rfl, HL2.out, HRA.out _⟩
                                  case measure => simp [intOf]; omega
                            · obtain rfl : p = r := by omega
                              have hml2 : m = s.pl.length := HBD.out.pl.symm
                              have hnsp : s.sp = [] := none_sp HINV.out HHL.out hr8 hall2.out
                              obtain ⟨_, hle, hlm⟩ := last_is HG1.out hi3 HINV.out HHL.out hr8 HLS.out hall2.out
                              have fz := fun p => own_fz (g := ob) (by have := HRS.out.row.out; rw [show (List.map lc s.pl).length = m by simp [hml2]] at this; exact this) p
                              have hob := (own_block HRS.out.row.out (g := ob) rfl).2
                              have hlo := (own_block HRS.out.row.out (g := ob) rfl).1
                              have hsl9 : s.sl ≤ 90000000 := by have := HBD.out.sl; omega
                              obtain ⟨z0, z1, f0, f1⟩ : ∃ z0 z1 : Int, wz.cell? ⟨ob, q * 2, none⟩ = some (.int .i64 z0) ∧ wz.cell? ⟨ob, q * 2 + 1, none⟩ = some (.int .i64 z1) := ⟨_, _, row_lc HRS.out.row hml2 (k := q) (by omega)⟩
                              have fa := fz (q * 2)
                              have fb := fz (q * 2 + 1)
                              by_cases hlj : j = last
                              · subst hlj
                                rw [hqx] at c0
                                have HTK : Hid (s.take L[j] = ⟨(wth (aft L[j]) L[j] s.act).dropLast, [], s.pl.set q (2, (s.sl : Int)), s.sl + 1⟩) := by
                                  show _ = _
                                  unfold SS.take
                                  rw [hnsp]
                                  simp only [← hle, hqx, Int.toNat_natCast, List.set_set]
                                have HR7 : Hid (Row ((wz.setCell ⟨ob, q * 2, none⟩ (.int .i64 2)).setCell ⟨ob, q * 2 + 1, none⟩ (.int .i64 (s.sl : Int))) w.heap.size 37 2 (.slice (some ⟨ob, 0, none⟩) m m) ((s.pl.set q (2, (s.sl : Int))).map lc)) := row_lc_set HRS.out.row hml2 (q := q) (by omega) (2, (s.sl : Int))
                                have HB7 : Hid (Below w.heap.size w ((wz.setCell ⟨ob, q * 2, none⟩ (.int .i64 2)).setCell ⟨ob, q * 2 + 1, none⟩ (.int .i64 (s.sl : Int)))) := (HRS.out.bel.setCell (p := ⟨ob, q * 2, none⟩) hlo _).setCell (p := ⟨ob, q * 2 + 1, none⟩) hlo _
                                clear fz hnsp hle hlm hml2 HHL HLS
                                go_wp2_with fail
                                go_roundw
                                case rel => exact ⟨j + 1, by omega, by go_num, by rw [HST.out, HTK.out]; first | rfl | go_num, by rw [HST.out, HTK.out]; exact HR7.out, HB7.out⟩
                                case measure => simp [intOf]; omega
                              · have hlj2 : ((last : Int) == (j : Int)) = false := by simp; omega
                                obtain ⟨pz, hpz⟩ : ∃ pz : Nat, L[last].1 = (pz : Int) := ⟨L[last].1.toNat, by have := (HG1.out.reg L[last] (List.getElem_mem hll)).1; omega⟩
                                have hpm : pz < m := by have := (HG1.out.reg L[last] (List.getElem_mem hll)).2; omega
                                have hpi : (pz : Int) < (m : Int) := by omega
                                rw [hpz] at c0
                                obtain ⟨_, _, e, _, d0, d1, d2⟩ := (HH.out.below HRS.out.bel (Nat.le_refl _)).at hi3
                                cases e
                                rw [hqx] at d0
                                obtain ⟨g0, g1⟩ := row_lc HRS.out.row hml2 (k := pz) (by omega)
                                have hpx : s.pl[pz]'(by omega) = plc s.pl L[last].1 := by rw [hpz]; exact plc_at _
                                rw [hpx] at g0 g1
                                obtain ⟨y, hy⟩ : ∃ y, y = plc s.pl L[last].1 := ⟨_, rfl⟩
                                rw [← hy] at g0 g1
                                have HTK : Hid (s.take L[j] = ⟨(wth (aft L[j]) L[j] s.act).dropLast, [], (s.pl.set q y).set pz (2, (s.sl : Int)), s.sl + 1⟩) := by
                                  show _ = _
                                  unfold SS.take
                                  rw [hnsp]
                                  simp only [← hle, hqx, hpz, Int.toNat_natCast, hy]
                                have HR6 : Hid (Row ((wz.setCell ⟨ob, q * 2, none⟩ (.int .i64 y.1)).setCell ⟨ob, q * 2 + 1, none⟩ (.int .i64 y.2)).drew w.heap.size 37 2 (.slice (some ⟨ob, 0, none⟩) m m) ((s.pl.set q y).map lc)) := (row_lc_set HRS.out.row hml2 (q := q) (by omega) y).keep (Below.refl _ _).drew
                                have HB6 : Hid (Below w.heap.size w ((wz.setCell ⟨ob, q * 2, none⟩ (.int .i64 y.1)).setCell ⟨ob, q * 2 + 1, none⟩ (.int .i64 y.2)).drew) := ((HRS.out.bel.setCell (p := ⟨ob, q * 2, none⟩) hlo _).setCell (p := ⟨ob, q * 2 + 1, none⟩) hlo _).drew
                                have HLN : Hid (m = (s.pl.set q y).length) := by show m = _; simp [hml2]
                                have HC6 : Hid (∀ W, Below w.heap.size w W → W.cell? ⟨b, o + last * 3, none⟩ = some (.int .i64 (pz : Int))) := fun W hW => by
                                  obtain ⟨_, _, e, _, x0, _, _⟩ := (HH.out.below hW (Nat.le_refl _)).at hll
                                  cases e
                                  rw [hpz] at x0
                                  exact x0
                                clear fz hnsp hle hlm hml2 HHL HLS hpx hy
                                have hjk : j < k := by omega
                                go_wp2_with fail
                                go_region
                                obtain ⟨w6, hw6⟩ : ∃ w6, w6 = ((wz.setCell ⟨ob, q * 2, none⟩ (.int .i64 y.1)).setCell ⟨ob, q * 2 + 1, none⟩ (.int .i64 y.2)).drew := ⟨_, rfl⟩
                                rw [← hw6] at HR6 HB6 ⊢
                                clear hw6 c0 c1 c2 d0 d1 d2 f0 f1 g0 g1 fa fb hob hbw
                                have c6 := HC6.out w6 HB6.out
                                have hbw := block_lt_of_cell c6
                                simp only at hbw
                                have hob := (own_block HR6.out.out (g := ob) rfl).2
                                obtain ⟨z2, z3, f0, f1⟩ : ∃ z0 z1 : Int, w6.cell? ⟨ob, pz * 2, none⟩ = some (.int .i64 z0) ∧ w6.cell? ⟨ob, pz * 2 + 1, none⟩ = some (.int .i64 z1) := ⟨_, _, row_lc HR6.out HLN.out (k := pz) (by rw [← HLN.out]; omega)⟩
                                have fz := fun p => own_fz (g := ob) (by have := HR6.out.out; rw [show (List.map lc (s.pl.set q y)).length = m by rw [List.length_map]; exact HLN.out.symm] at this; exact this) p
                                have fa := fz (pz * 2)
                                have fb := fz (pz * 2 + 1)
                                have HR7 : Hid (Row ((w6.setCell ⟨ob, pz * 2, none⟩ (.int .i64 2)).setCell ⟨ob, pz * 2 + 1, none⟩ (.int .i64 (s.sl : Int))) w.heap.size 37 2 (.slice (some ⟨ob, 0, none⟩) m m) (((s.pl.set q y).set pz (2, (s.sl : Int))).map lc)) := row_lc_set HR6.out HLN.out (q := pz) (by rw [← HLN.out]; omega) (2, (s.sl : Int))
                                have HB7 : Hid (Below w.heap.size w ((w6.setCell ⟨ob, pz * 2, none⟩ (.int .i64 2)).setCell ⟨ob, pz * 2 + 1, none⟩ (.int .i64 (s.sl : Int)))) := (HB6.out.setCell (p := ⟨ob, pz * 2, none⟩) hlo _).setCell (p := ⟨ob, pz * 2 + 1, none⟩) hlo _
                                clear fz
                                go_wp2_with fail
                                go_roundw
                                case rel => exact ⟨j + 1, by omega, by go_num, by rw [HST.out, HTK.out]; first | rfl | go_num, by rw [HST.out, HTK.out]; exact HR7.out, HB7.out⟩
                                case measure => simp [intOf]; omega
                        · obtain ⟨sp, hsp⟩ := free_sp HINV.out HHL.out hr8 hf1 hf2 (fun p hp => hf3 p (by omega) hp)
                          have HTK : Hid (s.take L[j] = ⟨wth (aft L[j]) L[j] s.act, sp, s.pl.set q (1, (f' : Int)), s.sl⟩) := by
                            show _ = _
                            unfold SS.take
                            rw [hsp]
                            simp only [hqx, Int.toNat_natCast]
                          obtain ⟨f0, f1⟩ : ∃ z0 z1 : Int, wr.cell? ⟨ob, q * 2, none⟩ = some (.int .i64 z0) ∧ wr.cell? ⟨ob, q * 2 + 1, none⟩ = some (.int .i64 z1) := ⟨_, _, row_lc HRS.out.row hml2 (k := q) (by omega)⟩
                          obtain ⟨z1, f0, f1⟩ := f1
                          have fa := fz (q * 2)
                          have fb := fz (q * 2 + 1)
                          have HR7 : Hid (Row ((wr.setCell ⟨ob, q * 2, none⟩ (.int .i64 1)).setCell ⟨ob, q * 2 + 1, none⟩ (.int .i64 (f' : Int))) w.heap.size 37 2 (.slice (some ⟨ob, 0, none⟩) m m) ((s.pl.set q (1, (f' : Int))).map lc)) := row_lc_set HRS.out.row hml2 (q := q) (by omega) (1, (f' : Int))
                          have HB7 : Hid (Below w.heap.size w ((wr.setCell ⟨ob, q * 2, none⟩ (.int .i64 1)).setCell ⟨ob, q * 2 + 1, none⟩ (.int .i64 (f' : Int)))) := (HRS.out.bel.setCell (p := ⟨ob, q * 2, none⟩) hlo _).setCell (p := ⟨ob, q * 2 + 1, none⟩) hlo _
                          clear fz hsp hf2 hf3 hml2 HFP0 HHL
                          go_wp2_with fail
                          go_roundw
                          case rel => exact ⟨j + 1, by omega, by go_num, by rw [HST.out, HTK.out], by rw [HST.out, HTK.out]; exact HR7.out, HB7.out⟩
                          case measure => simp [intOf]; omega
          · obtain rfl : i = k := by omega
            have HE : Hid (scnN (L.take i) r m = scn L r) := by show _ = _; rw [HMM.out, HT.out]
            rw [HE.out] at HRW
            rw [HE.out]
            go_wp2_with fail
            refine bodyPost_ret (v := .tuple #[.slice (some ⟨ob, 0, none⟩) m m, .int .i64 ((scn L r).sl : Int), .int .i64 0]) (by simp [results, Try.results13, go_sem]) rfl ?_
            exact ⟨_, _, _, rfl, HB.out, fun q => absurd q HR.out, fun _ q => absurd q (by rw [HG.out]; decide), fun _ _ => ⟨by rw [Int.toNat_natCast]; exact HRW.out, by rw [Int.toNat_natCast], rfl⟩⟩
end Go.Proofs.Ytpgbkkllnbahpaa
