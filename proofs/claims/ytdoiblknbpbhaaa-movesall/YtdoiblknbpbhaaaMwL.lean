import Derived.Test.YtdoiblknbpbhaaaMwK
set_option linter.unusedVariables false
set_option linter.unusedSimpArgs false
namespace Go.Proofs.Ytdoiblknbpbhaaa
open Go.ChangeShapes Go.WideShapes Go.ChangeAt Go.RowKit Go.Maps

theorem run_makeM (w : World) : (Instr.makeSlice 22 (.int .i64 60) (.int .i64 60)).run Try.prog w = .ok (.slice (some ⟨w.heap.size, 0, none⟩) 60 60) (w.alloc (.cells (mcs (List.replicate 60 ((0, 0), (0, 0)))).toArray 36)) := by
  obtain ⟨i0, hi, hz0, hz1, hz2⟩ := info_parts info_mv
  have hr := run_make (P := Try.prog) w 22 36 i0 _ Try.underlying22 hi hz0 .i64 .i64 60 60 (by omega) (Int.le_refl _) (by rw [hz2]; decide) (by omega)
  rw [hr, hz1]
  have e : madeCells (Value.agg #[Value.int IntKind.i64 0, Value.int IntKind.i64 0, Value.int IntKind.i64 0, Value.int IntKind.i64 0]).cells (Int.toNat 60 * 4) = (mcs (List.replicate 60 ((0, 0), (0, 0)))).toArray := by kernel_rfl
  rw [e]
  rfl
set_option maxRecDepth 100000 in
set_option maxHeartbeats 16000000 in
theorem movesAll_any (w : World) {ao : Option Addr} {nm cm : Nat} {Ls : List (List Mv)} (hI : MM w ao cm Ls) (hn : nm = Ls.length) (t : Lc) (hft : FitL t) :
    Calls Try.prog 7 #[.slice ao nm cm, .agg #[.int .i64 t.1, .int .i64 t.2]] w fun e w' => e = .returned (.bool true) ∧ Below w.heap.size w w' := by
  obtain ⟨t1, t2⟩ := t
  simp only
  have hnm : nm ≤ 9223372036854775807 := by have := hI.le; have := hI.mx; omega
  obtain ⟨B, hB⟩ : ∃ B, B = w.heap.size := ⟨_, rfl⟩
  have HI : Hid (MM w ao cm Ls) := hI
  have HN : Hid (nm = Ls.length) := hn
  have HBE : Hid (B = w.heap.size) := hB
  have HFT : Hid (FitL (t1, t2)) := hft
  have HMK : ∀ w : World, (Instr.makeSlice 22 (.int .i64 60) (.int .i64 60)).run Try.prog w = .ok (.slice (some ⟨w.heap.size, 0, none⟩) 60 60) (w.alloc (.cells (mcs (List.replicate 60 ((0, 0), (0, 0)))).toArray 36)) := run_makeM
  obtain ⟨MZ, hMZ⟩ : ∃ MZ, MZ = (mcs (List.replicate 60 ((0, 0), (0, 0)))).toArray := ⟨_, rfl⟩
  rw [← hMZ] at HMK
  have HMZ : Hid (MZ = (mcs (List.replicate 60 ((0, 0), (0, 0)))).toArray) := hMZ
  obtain ⟨wt, hwt⟩ : ∃ W, W = w.alloc (.cells #[.int .i64 t1, .int .i64 t2] 24) := ⟨_, rfl⟩
  have HB0 : Hid (Below w.heap.size w wt) := by rw [hwt]; exact below_new _ _
  have HT0 : Hid (wt.heap[w.heap.size]? = some (.cells #[.int .i64 t1, .int .i64 t2] 24 (0, 0))) := by rw [hwt]; exact heap_alloc_new _ _
  have HWT : Hid (wt = w.alloc (.cells #[.int .i64 t1, .int .i64 t2] 24)) := hwt
  have HLT : Hid (wt.heap.size = w.heap.size + 1) := by rw [hwt]; show _ = _; simp
  clear hI hn hft hwt hMZ hB
  go_enter Try.func7, Try.ntmps7
  go_wp2_with (first
    | (go_at_call 8; rw [← HWT.out]; refine (alive_any wt).mono ?_; rintro e w1 ⟨rfl, hb1⟩; have HB1 : Hid _ := hb1; clear hb1))
  obtain ⟨w4, hw4⟩ : ∃ W, W = ((w1.alloc (.cells #[.bool false, .slice none 0 0, .slice none 0 0, .slice none 0 0] 48)).alloc (.cells #[.bool true, .slice none 0 0, .slice none 0 0, .slice none 0 0] 48)).alloc (.cells MZ 36) := ⟨_, rfl⟩
  rw [← hw4]
  have s1 := HB1.out.size
  have s0 := HLT.out
  have b4 : Below w1.heap.size w1 w4 := by
    rw [hw4]
    exact (((Below.refl _ _).alloc (Nat.le_refl _) _).alloc (by simp) _).alloc (by simp; omega) _
  have s4 : w4.heap.size = w1.heap.size + 3 := by rw [hw4]; simp
  have HA0 : Hid (∃ F G, MA w w4 B w1.heap.size (w1.heap.size + 1) (w1.heap.size + 2) w.heap.size F G 0 t1 t2) := by
    refine ⟨KF w1.heap.size (.slice none 0 0) (.slice none 0 0) (fun _ => none), WFp (w1.heap.size + 1) (.slice none 0 0) (.slice none 0 0) [] [], ?_⟩
    have e1 : w4.heap[w1.heap.size]? = some (.cells #[.bool false, .slice none 0 0, .slice none 0 0, .slice none 0 0] 48 (0, 0)) := by
      rw [hw4, heap_alloc_old _ _ (by simp; omega), heap_alloc_old _ _ (by simp)]; exact heap_alloc_new _ _
    have e2 : w4.heap[w1.heap.size + 1]? = some (.cells #[.bool true, .slice none 0 0, .slice none 0 0, .slice none 0 0] 48 (0, 0)) := by
      rw [hw4, heap_alloc_old _ _ (by simp)]
      have := heap_alloc_new (w1.alloc (.cells #[.bool false, .slice none 0 0, .slice none 0 0, .slice none 0 0] 48)) (.cells #[.bool true, .slice none 0 0, .slice none 0 0, .slice none 0 0] 48)
      simpa using this
    have e3 : w4.heap[w1.heap.size + 2]? = some (.cells MZ 36 (0, 0)) := by
      rw [hw4]
      have := heap_alloc_new ((w1.alloc (.cells #[.bool false, .slice none 0 0, .slice none 0 0, .slice none 0 0] 48)).alloc (.cells #[.bool true, .slice none 0 0, .slice none 0 0, .slice none 0 0] 48)) (.cells MZ 36)
      simpa using this
    have hBE := HBE.out
    refine ⟨.inl ⟨rfl, _, _, [], [], fun _ => none, ⟨e1, by omega, OwnV.nil _ _, OwnI.nil _ _, ⟨fun g x M h => (by cases h)⟩, fun g h => (by cases h)⟩, ⟨rfl, fun i hi => by simp at hi, fun x hx => by simp at hx⟩, rfl, by simp⟩,
      .inr ⟨rfl, _, _, [], [], [], ⟨e2, by omega, OwnV.nil _ _, OwnV.nil _ _, PL.nil _ _, rfl, fun i hi => by simp at hi, fun g h => (by cases h)⟩, rfl, by simp, fun l hl => by simp at hl⟩,
      ⟨List.replicate 60 ((0, 0), (0, 0)), List.length_replicate, by rw [e3, HMZ.out]⟩, (b4.block _ (by omega)).trans ((HB1.out.block _ (by omega)).trans HT0.out), fun x hx hg => ?_, ⟨fun q => ?_, fun q => ?_⟩, ⟨fun q => ?_, fun q => ?_⟩, ?_, by omega, by omega⟩
    · rcases hx with q | q | q | q
      · rcases hg with p | p | p | ⟨_, p, _⟩ | ⟨_, p, _⟩
        · omega
        · cases p
        · cases p
        · simp at p
        · simp at p
      · cases q
      · cases q
      · cases q
    · rcases q with q | q | q | q
      · omega
      · cases q
      · cases q
      · cases q
    · rcases q with p | p | p | ⟨_, p, _⟩ | ⟨_, p, _⟩
      · omega
      · cases p
      · cases p
      · simp at p
      · simp at p
    · rcases q with q | q | q | q
      · omega
      · cases q
      · cases q
      · cases q
    · rcases q with p | p | p | ⟨_, p, _⟩ | ⟨_, p, _⟩
      · omega
      · cases p
      · cases p
      · simp at p
      · simp at p
    · rw [hBE]; exact HB0.out.trans ((HB1.out.trans (b4.mono s1)).mono (by omega))
  obtain ⟨nb, hnb⟩ : ∃ nb, nb = w1.heap.size := ⟨_, rfl⟩
  obtain ⟨tb, htb⟩ : ∃ tb, tb = w.heap.size := ⟨_, rfl⟩
  obtain ⟨lb, hlb⟩ : ∃ lb, lb = nb + 1 := ⟨_, rfl⟩
  obtain ⟨rg, hrg⟩ : ∃ rg, rg = lb + 1 := ⟨_, rfl⟩
  rw [show w1.heap.size + 2 = w1.heap.size + 1 + 1 from rfl, ← hnb, ← htb, ← hlb, ← hrg] at HA0
  rw [← hnb, ← htb, ← hlb, ← hrg]
  clear hw4 b4 s4 s0 s1 hnb htb hlb hrg HMK
  obtain ⟨F0, G0, HA0⟩ := HA0
  go_loopg [9] nm (fun q iv wr => ∃ (i k : Nat) (F G : Nat → Prop), i ≤ nm ∧ i ≤ 30 ∧ q = nm - i ∧ iv = .int .i64 i ∧ k ≤ i ∧ Hid (MA w wr B nb lb rg tb F G k t1 t2))
  case atStart => exact ⟨0, 0, F0, G0, by omega, by omega, by omega, rfl, by omega, HA0⟩
  case round =>
    clear HA0
    obtain ⟨i, k, F, G, hi, hi30, rfl, rfl, hk1, HA⟩ := hrel
    have hBr : B ≤ wr.heap.size := by have := HA.out.bel.size; have := HBE.out; omega
    by_cases hin : i < nm
    · by_cases hi3 : i < 30
      · have hd3 : decide ((i : Int) < 30) = true := by simp; omega
        have hiM : i < Ls.length := by have := HN.out; omega
        obtain ⟨mb, mo, la, lc, rfl, hmb, kM, hL⟩ := HI.out.at hiM
        obtain ⟨l, hl⟩ : ∃ l, l = Ls[i] := ⟨_, rfl⟩
        rw [← hl] at kM hL
        obtain ⟨n, hn⟩ : ∃ n, n = l.length := ⟨_, rfl⟩
        rw [← hn] at kM
        have km : wr.cell? ⟨mb, mo + i, none⟩ = some (.slice la n lc) := (HA.out.bel.cell (p := ⟨mb, mo + i, none⟩) (by show mb < B; have := HBE.out; omega)).trans kM
        have HL : Hid (Mvs w la lc l) := hL
        have HNL : Hid (n = l.length) := hn
        have hnlc : n ≤ lc := by have := hL.le; omega
        have hlc : lc ≤ 9223372036854775807 := hL.mx
        clear kM hL hl hn
        by_cases h60 : n ≤ 60
        · have hd6 : decide ((60 : Int) < (n : Int)) = false := by simp; omega
          have HBX : Hid (Below w.heap.size w wr) := by have := HA.out.bel; rw [HBE.out] at this; exact this
          obtain ⟨L0, hL0, hR0⟩ := HA.out.r
          have HR0 : Hid _ := hR0
          have HL0 : Hid (L0.length = 60) := hL0
          clear hR0 hL0
          obtain ⟨w2, hrun2, hr2, on2⟩ := run_copy_mvs (w := wr) 3 rg n 60 L0 l la lc HNL.out HR0.out (by have := HL0.out; omega) (HL.out.below HBX.out (Nat.le_refl _))
          have HA2 : Hid _ := HA.out.room hBr on2 (L := l ++ L0.drop n) (by have := HL0.out; have := HNL.out; simp; omega) hr2
          have HX2 : Hid (Mvs w2 (some ⟨rg, 0, none⟩) 60 l) := mvs_pre hr2 HL.out.fit (by have := HNL.out; omega) (by omega)
          have kt1 : w2.cell? ⟨tb, 0, none⟩ = some (.int .i64 t1) := cell_arr HA2.out.t rfl
          have kt2 : w2.cell? ⟨tb, 1, none⟩ = some (.int .i64 t2) := cell_arr HA2.out.t rfl
          have hB2 : B ≤ w2.heap.size := by have := on2.size; omega
          clear hr2 on2 HA HR0 HL0
          go_wp2_with fail
          obtain ⟨er, her⟩ : ∃ er, er = errP (t1, t2) l := ⟨_, rfl⟩
          obtain ⟨A, hA⟩ : ∃ A, A = ansP (t1, t2) l := ⟨_, rfl⟩
          obtain ⟨an, han⟩ : ∃ an, an = A.length := ⟨_, rfl⟩
          have HAN : Hid (an ≤ 1000000) := by rw [han, hA]; exact ansP_le _ _ (by have := HNL.out; omega)
          have HAL : Hid (an = A.length) := han
          have HLW : Hid (∀ w' : World, Below B w w' → Mvs w' la lc l) := fun w' hb => HL.out.below hb (by have := HBE.out; omega)
          have HRO : Hid (∀ w', Below B w w' → Calls Try.prog 12 #[.slice la n lc, .agg #[.int .i64 t1, .int .i64 t2]] w' fun e w'' => ∃ va vc, e = .returned (.tuple #[.slice va an vc, .int .i64 er]) ∧ OwnM w'' w'.heap.size (.slice va an vc) an A ∧ Below w'.heap.size w' w'') := fun w' hb => by
            refine (refOrder_any w' (HLW.out w' hb) HNL.out (by omega) (t1, t2) HFT.out).mono ?_
            rintro e w'' ⟨v, rfl, h1, h2⟩
            obtain ⟨va, vc, rfl, _, _⟩ := own_slice h1.out
            rw [← hA, ← han] at h1
            exact ⟨va, vc, by rw [← hA, ← han, ← her], h1, h2⟩
          have HOR : Hid (∀ w', Mvs w' (some ⟨rg, 0, none⟩) 60 l → Calls Try.prog 10 #[.slice (some ⟨rg, 0, none⟩) n 60, .agg #[.int .i64 t1, .int .i64 t2]] w' fun e w'' => ∃ va vc, e = .returned (.tuple #[.slice va an vc, .int .i64 er]) ∧ OwnM w'' w'.heap.size (.slice va an vc) an A ∧ Below w'.heap.size w' w'') := fun w' hX => by
            refine (order_any w' hX HNL.out (by omega) (t1, t2) HFT.out).mono ?_
            rintro e w'' ⟨v, rfl, h1, h2⟩
            obtain ⟨va, vc, rfl, _, _⟩ := own_slice h1.out
            rw [← hA, ← han] at h1
            exact ⟨va, vc, by rw [← hA, ← han, ← her], h1, h2⟩
          clear her hA han
          refine (HRO.out w2 HA2.out.bel).mono ?_
          rintro e w3 ⟨a3, c3, rfl, O3, b3⟩
          have HA3 : Hid _ := HA2.out.keep hB2 b3
          have HX3 : Hid _ := HX2.out.below b3 (Nat.le_refl _)
          have HO3 : Hid _ := O3
          have kt1 : w3.cell? ⟨tb, 0, none⟩ = some (.int .i64 t1) := cell_arr HA3.out.t rfl
          have kt2 : w3.cell? ⟨tb, 1, none⟩ = some (.int .i64 t2) := cell_arr HA3.out.t rfl
          have hB3 : B ≤ w3.heap.size := by have := b3.size; omega
          clear O3 b3 HX2 HA2
          go_wp2_with fail
          refine (HOR.out w3 HX3.out).mono ?_
          rintro e w4 ⟨a4, c4, rfl, O4, b4⟩
          have HA4 : Hid _ := HA3.out.keep hB3 b4
          have HX4 : Hid _ := HX3.out.below b4 (Nat.le_refl _)
          have HO4 : Hid _ := O4
          have HO34 : Hid _ := HO3.out.keep b4
          have HF4 : Hid (∀ g, (Value.slice a4 an c4).ownBlock = some g → B ≤ g ∧ ¬ F g ∧ ¬ G g ∧ g ≠ rg ∧ g ≠ tb) := fun g hg => by
            have h1 := (own_block O4.out hg).1
            obtain ⟨_, _, hr⟩ := HA3.out.r
            have h2 := (Array.getElem?_eq_some_iff.1 hr).1
            have h3 := (Array.getElem?_eq_some_iff.1 HA3.out.t).1
            exact ⟨by omega, fun q => by have := (HA3.out.kn.lt q).2; omega, fun q => by have := (HA3.out.kl.lt q).2; omega, by omega, by omega⟩
          have HZ4 : Hid (∀ g, (Value.slice a4 an c4).ownBlock = some g → g < w4.heap.size) := fun g hg => (own_block O4.out hg).2
          have kt1 : w4.cell? ⟨tb, 0, none⟩ = some (.int .i64 t1) := cell_arr HA4.out.t rfl
          have kt2 : w4.cell? ⟨tb, 1, none⟩ = some (.int .i64 t2) := cell_arr HA4.out.t rfl
          have hB4 : B ≤ w4.heap.size := by have := b4.size; omega
          clear O4 b4 HX3 HA3 HO3
          go_wp2_with fail
          refine (HOR.out w4 HX4.out).mono ?_
          rintro e w5 ⟨a5, c5, rfl, O5, b5⟩
          have HA5 : Hid _ := HA4.out.keep hB4 b5
          have HX5 : Hid _ := HX4.out.below b5 (Nat.le_refl _)
          have HO5 : Hid _ := O5
          have HO35 : Hid _ := HO34.out.keep b5
          have HO45 : Hid _ := HO4.out.keep b5
          have HF5 : Hid (∀ g, (Value.slice a5 an c5).ownBlock = some g → (B ≤ g ∧ ¬ F g ∧ ¬ G g ∧ g ≠ rg ∧ g ≠ tb) ∧ (Value.slice a4 an c4).ownBlock ≠ some g) := fun g hg => by
            have h1 := (own_block O5.out hg).1
            obtain ⟨_, _, hr⟩ := HA4.out.r
            have h2 := (Array.getElem?_eq_some_iff.1 hr).1
            have h3 := (Array.getElem?_eq_some_iff.1 HA4.out.t).1
            exact ⟨⟨by omega, fun q => by have := (HA4.out.kn.lt q).2; omega, fun q => by have := (HA4.out.kl.lt q).2; omega, by omega, by omega⟩, fun q => by have := HZ4.out g q; omega⟩
          have hB5 : B ≤ w5.heap.size := by have := b5.size; omega
          have HM3 : Hid (Mvs w5 a3 c3 A) := HO35.out.mvsS
          have HM4 : Hid (Mvs w5 a4 c4 A) := HO45.out.mvsS
          have HM5 : Hid (Mvs w5 a5 c5 A) := HO5.out.mvsS
          have HML : Hid (Mvs w5 la lc l) := HLW.out w5 HA5.out.bel
          clear O5 b5 HX4 HA4 HO4 HO34 HO35 HZ4
          have HBW : Hid (Below w5.heap.size w5 w5) := Below.refl _ _
          have eqf : (er != er) = false := by simp
          have eqt : (er == er) = true := by simp
          go_wp2_with fail
          refine (sameM_any w5 HM4.out HM3.out HAL.out).mono ?_
          rintro e w6 ⟨rfl, b6⟩
          have HB6 : Hid _ := b6
          clear b6
          go_wp2_with fail
          refine (sameM_any w6 (HM5.out.below HB6.out (Nat.le_refl _)) (HM3.out.below HB6.out (Nat.le_refl _)) HAL.out).mono ?_
          rintro e w7 ⟨rfl, b7⟩
          have HB7 : Hid (Below w5.heap.size w5 w7) := HB6.out.trans (b7.mono HB6.out.size)
          clear b7 HB6
          go_wp2_with fail
          refine (sameM_any w7 (HX5.out.below HB7.out (Nat.le_refl _)) (HML.out.below HB7.out (Nat.le_refl _)) HNL.out).mono ?_
          rintro e w8 ⟨rfl, b8⟩
          have b58 : Below w5.heap.size w5 w8 := HB7.out.trans (b8.mono HB7.out.size)
          have HA8 : Hid _ := HA5.out.keep hB5 b58
          have HO48 : Hid (OwnM w8 B (.slice a4 an c4) an A) := by have := HO45.out.keep b58; exact ⟨this.len, this.fit, own_lower this.out (by omega)⟩
          have HO58 : Hid (OwnM w8 B (.slice a5 an c5) an A) := by have := HO5.out.keep b58; exact ⟨this.len, this.fit, own_lower this.out hB4⟩
          have hB8 : B ≤ w8.heap.size := by have := b58.size; omega
          clear b8 b58 HB7 HA5 HO45 HO5 HM3 HM4 HM5 HML HX5 HBW
          go_wp2_with fail
          refine (row_any w8 HA8.out.kl HO58.out (fun g hg => (HF5.out g hg).1.2.2.1) HAN.out (by omega)).mono ?_
          rintro e w9 ⟨rfl, G9, K9, O9, S9⟩
          have HL9 : Hid _ := HA8.out.late (fun g hg => (HF5.out g hg).1) hB8 K9 O9 S9
          have HK9 : KPH true w9 B lb G9 (k + 1) := ⟨K9⟩
          have HO49 : Hid (OwnM w9 B (.slice a4 an c4) an A) := HO48.out.move fun g hg => O9.block g (own_block HO48.out.out hg).2 fun q => by
            rcases q with q | q
            · exact (HF4.out g hg).2.2.1 q
            · exact (HF5.out g q).2 hg
          have HF9 : Hid (∀ g, (Value.slice a4 an c4).ownBlock = some g → B ≤ g ∧ ¬ F g ∧ ¬ G9 g ∧ g ≠ rg ∧ g ≠ tb) := fun g hg => by
            have h1 := HF4.out g hg
            refine ⟨h1.1, h1.2.1, fun q => ?_, h1.2.2.2.1, h1.2.2.2.2⟩
            rcases S9 g (own_block HO48.out.out hg).2 q with q | q
            · exact h1.2.2.1 q
            · exact (HF5.out g q).2 hg
          have hB9 : B ≤ w9.heap.size := by have := O9.size; omega
          have HFR : Hid (¬ F (rg) ∧ ¬ F tb ∧ B ≤ rg ∧ rg ≠ tb) := ⟨HA8.out.fr.1, HA8.out.ft.1, HA8.out.lo, HA8.out.rt⟩
          clear K9 O9 S9 HA8 HO48 HO58 HF4 HF5
          go_wp2_with fail
          refine (row_any w9 HL9.out.1 HO49.out (fun g hg => (HF9.out g hg).2.1) HAN.out (by omega)).mono ?_
          rintro e w10 ⟨rfl, F10, K10, O10, S10⟩
          have HA10 : Hid (MA w w10 B nb lb rg tb F10 G9 (k + 1) t1 t2) := MA.now HL9.out.1 HK9.out HL9.out.2.1 HL9.out.2.2.1 HL9.out.2.2.2.1 ⟨HFR.out.1, HL9.out.2.2.2.2.1⟩ ⟨HFR.out.2.1, HL9.out.2.2.2.2.2.1⟩ HL9.out.2.2.2.2.2.2 HFR.out.2.2.1 HFR.out.2.2.2 HF9.out hB9 K10 O10 S10
          clear K10 O10 S10 HL9 HK9 HO49 HF9
          go_wp2_with fail
          go_roundg (nm - (i + 1))
          case rel => exact ⟨i + 1, k + 1, F10, G9, by omega, by omega, rfl, by go_num, by omega, HA10.out⟩
          case measure => omega
        · have hd6 : decide ((60 : Int) < (n : Int)) = true := by simp; omega
          go_wp2_with fail
          go_roundg (nm - (i + 1))
          case rel => exact ⟨i + 1, k, F, G, by omega, by omega, rfl, by go_num, by omega, HA.out⟩
          case measure => omega
      · have hd3 : decide ((i : Int) < 30) = false := by simp; omega
        have HKN : Hid (∃ lv mv vs ms col, KL wr B nb lv mv vs ms col ∧ KE vs ms col ∧ ms.length ≤ 41 * k) := by
          rcases HA.out.kn with ⟨_, lv, mv, vs, ms, col, h1, h2, _, h4⟩ | ⟨e, _⟩
          · exact ⟨lv, mv, vs, ms, col, h1, h2, h4⟩
          · cases e
        obtain ⟨lv, mv, vs, ms, col, h1, h2, h4⟩ := HKN.out
        have HWN : Hid _ := whole_now wr h1 h2 (by omega)
        clear h1 h2 h4
        go_wp2_with fail
        refine Calls.mono HWN.out ?_
        rintro e w5 ⟨rfl, b5⟩
        have HA5 : Hid _ := HA.out.keep hBr b5
        clear b5 HA HWN
        go_wp2_with fail
        refine (whole_any w5 HA5.out.kl (by omega)).mono ?_
        rintro e w6 ⟨rfl, b6⟩
        have HB6 : Hid (Below w.heap.size w w6) := by have := HA5.out.bel.trans b6; rw [HBE.out] at this; exact this
        clear b6
        go_wp2_with fail
        go_ret
        exact ⟨rfl, HB6.out⟩
    · have HKN : Hid (∃ lv mv vs ms col, KL wr B nb lv mv vs ms col ∧ KE vs ms col ∧ ms.length ≤ 41 * k) := by
        rcases HA.out.kn with ⟨_, lv, mv, vs, ms, col, h1, h2, _, h4⟩ | ⟨e, _⟩
        · exact ⟨lv, mv, vs, ms, col, h1, h2, h4⟩
        · cases e
      obtain ⟨lv, mv, vs, ms, col, h1, h2, h4⟩ := HKN.out
      have HWN : Hid _ := whole_now wr h1 h2 (by omega)
      clear h1 h2 h4
      go_wp2_with fail
      refine Calls.mono HWN.out ?_
      rintro e w5 ⟨rfl, b5⟩
      have HA5 : Hid _ := HA.out.keep hBr b5
      clear b5 HA HWN
      go_wp2_with fail
      refine (whole_any w5 HA5.out.kl (by omega)).mono ?_
      rintro e w6 ⟨rfl, b6⟩
      have HB6 : Hid (Below w.heap.size w w6) := by have := HA5.out.bel.trans b6; rw [HBE.out] at this; exact this
      clear b6
      go_wp2_with fail
      go_ret
      exact ⟨rfl, HB6.out⟩
end Go.Proofs.Ytdoiblknbpbhaaa
