import Derived.Test.YtpgbkkllnbahpaaSoQ
set_option linter.unusedVariables false
set_option linter.unusedSimpArgs false
namespace Go.Proofs.Ytpgbkkllnbahpaa
open Go.ChangeShapes Go.WideShapes Go.ChangeAt Go.RowKit Go.Maps
/-- What holds along the three rounds of a call. -/
structure WT (w wr : World) (B i kk r d : Nat) (kv tv : Value) (kvs tvs : List Value) (Rs : List (List Lc)) (g c n : Nat) (L M : List Iv) : Prop where
  e : r = i * 3 + kk
  l : Rs.length = r
  m : d ≤ 2 → M = L
  f : farP M = false
  fit : ∀ x ∈ M, FitV x
  s : WS w wr B kv tv kvs tvs Rs g c n M
theorem WT.keep {w wr w' : World} {B i kk r d kv tv kvs tvs Rs g c n L M} (h : WT w wr B i kk r d kv tv kvs tvs Rs g c n L M) (hb : Below wr.heap.size wr w') : WT w w' B i kk r d kv tv kvs tvs Rs g c n L M := ⟨h.e, h.l, h.m, h.f, h.fit, h.s.keep hb⟩
set_option maxRecDepth 100000 in
set_option maxHeartbeats 16000000 in
theorem scanAll_any (w : World) (ao : Option Addr) (n c : Nat) (Cs : List (List Iv × Int)) (hn : n = Cs.length) (hC : CRow w ao c Cs) :
    Calls Try.prog 8 #[.slice ao n c] w fun e w' => e = .returned (.bool true) ∧ Below w.heap.size w w' := by
  have HAL : Hid (Calls Try.prog 9 #[] w fun e w' => e = .returned (.bool true) ∧ Below w.heap.size w w') := alive_any w
  have hnc : n ≤ c := by have := hC.le; omega
  have hcm : c ≤ 9223372036854775807 := hC.mx
  have HN : Hid (n = Cs.length) := hn
  have HC : Hid (CRow w ao c Cs) := hC
  clear hn hC
  go_enter Try.func8, Try.ntmps8
  go_wp2_with fail
  refine Calls.mono HAL.out ?_
  rintro e w1 ⟨rfl, b1⟩
  have HB1 : Hid (Below w.heap.size w w1) := b1
  clear HAL b1
  by_cases h1 : 60 < n
  · have q1 : decide ((60 : Int) < (n : Int)) = true := by simp; omega
    go_wp2_with fail
    go_ret
    exact ⟨rfl, HB1.out⟩
  have q1 : decide ((60 : Int) < (n : Int)) = false := by simp; omega
  have hn60 : n ≤ 60 := by omega
  clear h1
  have HK0 : Hid (KS w1 w1 w1.heap.size (.slice none 0 0) (.slice none 0 0) [] [] []) := KS.nil w1 _ w1 (Below.refl _ _)
  go_wp2_with fail
  clear q1
  go_loopg [4, 5, 6] n (fun q kv tv iv wr => ∃ (i r : Nat) (a4 : Option Addr) (c4 : Nat) (a5 : Option Addr) (c5 : Nat) (kvs tvs : List Value) (Rs : List (List Lc)), i ≤ n ∧ q = n - i ∧ kv = .slice a4 r c4 ∧ tv = .slice a5 r c5 ∧ iv = .int .i64 (i : Int) ∧ Hid (r = i * 3 ∧ Rs.length = r ∧ KS w1 wr w1.heap.size (.slice a4 r c4) (.slice a5 r c5) kvs tvs Rs))
  case atStart => exact ⟨0, 0, none, 0, none, 0, [], [], [], by omega, by omega, rfl, rfl, rfl, by omega, rfl, HK0.out⟩
  case round =>
    clear HK0
    obtain ⟨i, r, a4, c4, a5, c5, kvs, tvs, Rs, hi, rfl, rfl, rfl, rfl, HH⟩ := hrel
    have HBW : Hid (Below w.heap.size w wr) := HB1.out.trans (HH.out.2.2.bel.mono HB1.out.size)
    have hB : w1.heap.size ≤ wr.heap.size := HH.out.2.2.bel.size
    by_cases hlt : i < n
    · have hiC : i < Cs.length := by have := HN.out; omega
      obtain ⟨ab, aoff, la, lcap, rfl, hab, ka0, kb0, hI0⟩ := HC.out.at hiC
      obtain ⟨L, hL⟩ : ∃ L, L = Cs[i].1 := ⟨_, rfl⟩
      obtain ⟨regs, hregs⟩ : ∃ x, x = Cs[i].2 := ⟨_, rfl⟩
      rw [← hL] at ka0 hI0
      rw [← hregs] at kb0
      obtain ⟨ni, hni⟩ : ∃ ni, ni = L.length := ⟨_, rfl⟩
      rw [← hni] at ka0
      have hnic : ni ≤ lcap := by have := hI0.le; omega
      have hcim : lcap ≤ 9223372036854775807 := hI0.mx
      have HKA : Hid (∀ w' : World, Below w.heap.size w w' → w'.cell? ⟨ab, aoff + i * 2, none⟩ = some (.slice la ni lcap) ∧ w'.cell? ⟨ab, aoff + i * 2 + 1, none⟩ = some (.int .i64 regs)) := fun w' hb => ⟨(hb.cell (p := ⟨ab, aoff + i * 2, none⟩) hab).trans ka0, (hb.cell (p := ⟨ab, aoff + i * 2 + 1, none⟩) hab).trans kb0⟩
      have HNI : Hid (ni = L.length) := hni
      have HI : Hid (Ivs w la lcap L) := hI0
      obtain ⟨ka, kb⟩ := HKA.out wr HBW.out
      clear ka0 kb0 hI0 hL hregs hni
      by_cases h3 : 300 < ni
      · have q1 : decide ((300 : Int) < (ni : Int)) = true := by simp; omega
        go_wp2_with fail
        try rw [Exit.noGoto_ret]
        go_ret
        exact ⟨rfl, HBW.out⟩
      have q1 : decide ((300 : Int) < (ni : Int)) = false := by simp; omega
      have hni3 : ni ≤ 300 := by omega
      clear h3
      go_wp2_with fail
      refine Calls.mono (far_any wr la ni lcap L HNI.out (HI.out.below HBW.out (Nat.le_refl _))) ?_
      rintro e wr2 ⟨rfl, bf⟩
      have HB2 : Hid (Below wr.heap.size wr wr2) := bf
      have HK2 : Hid (r = i * 3 ∧ Rs.length = r ∧ KS w1 wr2 w1.heap.size (.slice a4 r c4) (.slice a5 r c5) kvs tvs Rs) := ⟨HH.out.1, HH.out.2.1, HH.out.2.2.keep hB bf⟩
      have HBW2 : Hid (Below w.heap.size w wr2) := HBW.out.trans (bf.mono HBW.out.size)
      clear bf HH ka kb
      cases hfar : farP L with
      | true =>
        go_wp2_with fail
        try rw [Exit.noGoto_ret]
        go_ret
        exact ⟨rfl, HBW2.out⟩
      | false =>
      have HFR : Hid (farP L = false) := hfar
      clear hfar q1
      go_wp2_with fail
      refine Calls.mono (lent_any wr2 la ni lcap L HNI.out (HI.out.below HBW2.out (Nat.le_refl _)) (by omega)) ?_
      rintro e w3 ⟨g, c9, rfl, R3, b3⟩
      have hr180 : r ≤ 177 := by have := HK2.out.1; omega
      have H0 : Hid (WT w1 w3 w1.heap.size i 0 r 0 (.slice a4 r c4) (.slice a5 r c5) kvs tvs Rs g c9 ni L L) :=
        ⟨HK2.out.1, HK2.out.2.1, fun _ => rfl, HFR.out, HI.out.fit, ⟨HK2.out.2.2.keep (Nat.le_trans hB HB2.out.size) b3, row_base R3 (Nat.le_trans hB HB2.out.size), HNI.out, Nat.le_trans hB (Nat.le_trans HB2.out.size b3.size)⟩⟩
      obtain ⟨_, _, _, e9, _, hc9, hc9m⟩ := row_sl R3
      cases e9
      clear R3 b3 HK2 HB2 HBW HBW2 HFR
      go_wp2_with fail
      go_loopg [4, 5, 9] 3 (fun q kv tv kkv wq => ∃ (kk r : Nat) (a4 : Option Addr) (c4 : Nat) (a5 : Option Addr) (c5 : Nat) (kvs tvs : List Value) (Rs : List (List Lc)) (M : List Iv), kk ≤ 3 ∧ q = 3 - kk ∧ kv = .slice a4 r c4 ∧ tv = .slice a5 r c5 ∧ kkv = .int .i64 (kk : Int) ∧ Hid (WT w1 wq w1.heap.size i kk r kk (.slice a4 r c4) (.slice a5 r c5) kvs tvs Rs g c9 ni L M))
      case atStart => exact ⟨0, r, a4, c4, a5, c5, kvs, tvs, Rs, L, by omega, by omega, rfl, rfl, rfl, H0.out⟩
      case round =>
        clear H0
        obtain ⟨kk, r', a4', c4', a5', c5', kvs', tvs', Rs', M, hkk, rfl, rfl, rfl, rfl, HT⟩ := hrel
        have HBW : Hid (Below w.heap.size w wr) := HB1.out.trans (HT.out.s.k.bel.mono HB1.out.size)
        by_cases hk3 : kk < 3
        · by_cases hk2 : kk = 2
          · have tk : decide ((kk : Int) = 2) = true := by simp; omega
            have hML : L = M := (HT.out.m (by omega)).symm
            subst hML
            have HW0 : Hid (WS w1 wr w1.heap.size (.slice a4' r' c4') (.slice a5' r' c5') kvs' tvs' Rs' g c9 ni (tuL L 0)) := by
              have := HT.out.s
              rw [← tu_zero L] at this
              exact this
            have HTE : Hid (r' = i * 3 + kk ∧ Rs'.length = r' ∧ farP L = false ∧ ∀ x ∈ L, FitV x) := ⟨HT.out.e, HT.out.l, HT.out.f, HT.out.fit⟩
            clear HT HBW
            go_wp2_with fail
            clear tk
            go_loopg [10] ni (fun q jv wq => ∃ j : Nat, j ≤ ni ∧ q = ni - j ∧ jv = .int .i64 (j : Int) ∧ Hid (WS w1 wq w1.heap.size (.slice a4' r' c4') (.slice a5' r' c5') kvs' tvs' Rs' g c9 ni (tuL L j)))
            case atStart => exact ⟨0, by omega, by omega, rfl, HW0.out⟩
            case round =>
              clear HW0
              obtain ⟨j, hj, rfl, rfl, HW⟩ := hrel
              have HBW : Hid (Below w.heap.size w wr) := HB1.out.trans (HW.out.k.bel.mono HB1.out.size)
              by_cases hjl : j < ni
              · obtain ⟨mk, hmk⟩ : ∃ mk : Nat, ni = mk + (j + 1) := ⟨ni - (j + 1), by omega⟩
                have hmkM : mk < L.length := by have := HNI.out; omega
                have hjL : j < L.length := by have := HNI.out; omega
                obtain ⟨lb, lo, rfl, hlb, _, _, k2'⟩ := HI.out.at hmkM
                obtain ⟨t, ht⟩ : ∃ t, t = L[mk].2.2 := ⟨_, rfl⟩
                rw [← ht] at k2'
                have k2 : wr.cell? ⟨lb, lo + mk * 3 + 2, none⟩ = some (.int .i64 t) := (HBW.out.cell (p := ⟨lb, lo + mk * 3 + 2, none⟩) hlb).trans k2'
                have HNX : Hid (WS w1 (wr.setCell ⟨g, j * 3 + 2, none⟩ (.int .i64 t)) w1.heap.size (.slice a4' r' c4') (.slice a5' r' c5') kvs' tvs' Rs' g c9 ni (tuL L (j + 1))) := by
                  have := HW.out.set hjL
                  rw [← HNI.out, show ni - 1 - j = mk by omega, show L.getD mk m71 = L[mk] by simp [hmkM], ← ht] at this
                  exact this
                have hln : (tuL L j ++ [m71, m72]).length = ni + 2 := by simp [tu_len, HNI.out]
                obtain ⟨d0, d1, d2⟩ := row_vc HW.out.x hln.symm (k := j) (by omega)
                have fz := own_fz (g := g) (by have := HW.out.x.out; rw [show (List.map vc (tuL L j ++ [m71, m72])).length = ni + 2 by rw [List.length_map, hln]] at this; exact this) (j * 3 + 2)
                obtain ⟨z, hz⟩ : ∃ z, z = ((tuL L j ++ [m71, m72])[j]'(by omega)).2.2 := ⟨_, rfl⟩
                rw [← hz] at d2
                have hw1 : IntKind.i64.wrap ((ni : Int) - 1) = (ni : Int) - 1 := by rw [IntKind.wrap_i64]; omega
                have hw2 : IntKind.i64.wrap ((ni : Int) - 1 - (j : Int)) = (mk : Int) := by rw [IntKind.wrap_i64]; omega
                have hmm : (mk : Int) < (ni : Int) := by omega
                have hmn : mk < ni := by omega
                clear k2' ht hz d0 d1 hln hmk HW
                go_wp2_with fail
                go_roundg (ni - (j + 1))
                case rel => exact ⟨j + 1, by omega, rfl, by go_num, HNX.out⟩
                case measure => omega
              · obtain rfl : j = ni := by omega
                have HT' : Hid (∃ M d, d ≤ kk + 1 ∧ WT w1 wr w1.heap.size i kk r' d (.slice a4' r' c4') (.slice a5' r' c5') kvs' tvs' Rs' g c9 j L M) := ⟨tuL L j, 3, by omega, ⟨HTE.out.1, HTE.out.2.1, fun h => absurd h (by omega), by rw [tu_far]; exact HTE.out.2.2.1, tu_fit HTE.out.2.2.2 _, HW.out⟩⟩
                clear HTE HW
                obtain ⟨ni, hni⟩ : ∃ ni, ni = j := ⟨_, rfl⟩
                subst hni
                obtain ⟨M, d, hd, HT0⟩ := HT'.out
                have HT : Hid _ := HT0
                clear HT' HT0
                obtain ⟨v5, w5, hr5, R5, G5⟩ := run_append_ivs (A := []) (Row.nil wr wr.heap.size 35 3) HT.out.s.n (HT.out.s.ivs HT.out.fit) (by simp; omega) (Nat.le_refl _)
                have b5 := gi_nil G5
                rw [List.nil_append] at R5
                obtain ⟨so, sc, e5, I5⟩ := row_ivs R5 HT.out.fit
                have hsc : M.length ≤ sc := I5.le
                have hscm : sc ≤ 9223372036854775807 := I5.mx
                have hr177 : r' ≤ 180 := by have := HT.out.e; omega
                rw [← HT.out.s.n] at e5 hsc
                subst e5
                have HT5 : Hid (WT w1 w5 w1.heap.size i kk r' d (.slice a4' r' c4') (.slice a5' r' c5') kvs' tvs' Rs' g c9 ni L M) := HT.out.keep b5
                have HI5 : Hid (Ivs w5 so sc M) := I5
                have HBW5 : Hid (Below w.heap.size w w5) := HB1.out.trans (HT5.out.s.k.bel.mono HB1.out.size)
                obtain ⟨ka5, kb5⟩ := HKA.out w5 HBW5.out
                clear R5 G5 b5 I5 HT HBW
                go_wp2_with (at_builtin; refine wpList_append_run rfl _ _ 22 22 rfl _ _ rfl rfl hr5 ?_; clear hr5)
                refine Calls.mono (scan_any w5 _ ni c9 M HT5.out.s.n (HT5.out.s.ivs HT5.out.fit) regs (by omega)) ?_
                rintro e w6 ⟨va, m1, x1, rfl, A1⟩
                have HT6 : Hid (WT w1 w6 w1.heap.size i kk r' d (.slice a4' r' c4') (.slice a5' r' c5') kvs' tvs' Rs' g c9 ni L M) := HT5.out.keep A1.bel
                have HI6 : Hid (Ivs w6 so sc M) := HI5.out.below A1.bel (Nat.le_refl _)
                have HA1 : Hid (ScAns w5 w6 M regs va m1 x1) := A1
                have HBW6 : Hid (Below w.heap.size w w6) := HB1.out.trans (HT6.out.s.k.bel.mono HB1.out.size)
                obtain ⟨ka6, kb6⟩ := HKA.out w6 HBW6.out
                clear A1 HI5 ka5 kb5 HBW5
                go_wp2_with fail
                refine Calls.mono (refScan_any w6 so ni sc M HT6.out.s.n HI6.out regs (by omega)) ?_
                rintro e w7 ⟨vb, m2, x2, rfl, A2⟩
                obtain ⟨e1, e2, P, hP, RA, RB⟩ := ans_same6 HT6.out.f HA1.out A2
                subst e1 e2
                have hx1 : x1 = 0 ∨ x1 = 180 ∨ x1 = 181 := by
                  by_cases hr : regs < 1 ∨ 8 < regs
                  · exact .inr (.inl (A2.bad hr).2.2)
                  · cases hg : gdB M with
                    | false => exact .inr (.inr (A2.wrong hr hg).2.2)
                    | true => exact .inl (A2.good hr hg).2.2
                have hw1 : IntKind.i64.wrap x1 = x1 := by rw [IntKind.wrap_i64]; omega
                obtain ⟨pl, hpl⟩ : ∃ pl, pl = P.length := ⟨_, rfl⟩
                obtain ⟨pa, pca, ea, LA⟩ := row_lcs (RA.keep A2.bel)
                obtain ⟨pb, pcb, eb, LB⟩ := row_lcs RB
                rw [← hpl] at ea eb
                subst ea eb
                have HSM : Hid (Calls Try.prog 14 #[.slice pa pl pca, .slice pb pl pcb] w7 fun e w' => e = .returned (.bool true) ∧ Below w7.heap.size w7 w') := by
                  refine (sameL_any w7 LA LB hpl hpl).mono ?_
                  rintro e w' ⟨rfl, hb⟩
                  exact ⟨by simp, hb⟩
                have HOA : Hid (OwnP w7 w5.heap.size (.slice pa pl pca) P.length P) := row_ownP (RA.keep A2.bel) rfl
                have HOB : Hid (OwnP w7 w5.heap.size (.slice pb pl pcb) P.length P) := row_ownP (row_base RB HA1.out.bel.size) rfl
                have HB57 : Hid (Below w5.heap.size w5 w7) := HA1.out.bel.trans (A2.bel.mono HA1.out.bel.size)
                have HP : Hid (P.length ≤ 6000) := hP
                have hpl6 : pl ≤ 6000 := by omega
                clear hpl LA LB RA RB A2 HA1 hx1 hP HT6 HI6 HBW6 ka6 kb6
                go_wp2_with fail
                refine Calls.mono HSM.out ?_
                rintro e w8 ⟨rfl, b8⟩
                have HB58 : Hid (Below w5.heap.size w5 w8) := HB57.out.trans (b8.mono HB57.out.size)
                have HOA8 : Hid (OwnP w8 w5.heap.size (.slice pa pl pca) P.length P) := HOA.out.keep b8
                have HOB8 : Hid (OwnP w8 w5.heap.size (.slice pb pl pcb) P.length P) := HOB.out.keep b8
                have HT8 : Hid (WT w1 w8 w1.heap.size i kk r' d (.slice a4' r' c4') (.slice a5' r' c5') kvs' tvs' Rs' g c9 ni L M) := HT5.out.keep HB58.out
                have HKL : Hid (kvs'.length = r') := by show kvs'.length = r'; rw [HT8.out.s.k.kl, HT8.out.l]
                have HTL : Hid (tvs'.length = r') := by show tvs'.length = r'; rw [HT8.out.s.k.tl, HT8.out.l]
                clear b8 HSM HOA HOB HB57
                go_wp2_with (first
                  | (at_builtin; refine wpList_append_slG (w0 := w8) rfl _ _ rfl w1.heap.size (.slice a4' r' c4') kvs' pa pl pca rfl HT8.out.s.k.k rfl (by rw [HKL.out]; omega) HT8.out.s.le ?_; intro v9 w9 o9 g9
                     have HO9 : Hid _ := o9
                     have HG9 : Hid _ := g9
                     obtain ⟨a9, c9', e9, _, _⟩ := own_slice o9.out
                     rw [List.length_append, List.length_singleton, HKL.out] at e9
                     subst e9
                     have HV9 : Hid (OwnV w9 w1.heap.size (.slice a5' r' c5') tvs') := HT8.out.s.k.t.gi g9 fun b hb e => HT8.out.s.k.kt b e hb
                     have hs9 : w1.heap.size ≤ w9.heap.size := Nat.le_trans HT8.out.s.le g9.size
                     clear o9 g9)
                  | (at_builtin; refine wpList_append_slG (w0 := w9) rfl _ _ rfl w1.heap.size (.slice a5' r' c5') tvs' pb pl pcb rfl HV9.out rfl (by rw [HTL.out]; omega) hs9 ?_; intro v10 w10 o10 g10
                     have HO10 : Hid _ := o10
                     have HG10 : Hid _ := g10
                     obtain ⟨a10, c10, e10, _, _⟩ := own_slice o10.out
                     rw [List.length_append, List.length_singleton, HTL.out] at e10
                     subst e10
                     clear o10 g10))
                go_roundg (3 - (kk + 1))
                case rel => exact ⟨kk + 1, r' + 1, a9, c9', a10, c10, _, _, _, M, by omega, rfl, rfl, rfl, by go_num, ⟨by have := HT5.out.e; omega, by simp [HT5.out.l], fun h => HT5.out.m (by omega), HT5.out.f, HT5.out.fit, HT5.out.s.more HB58.out HOA8.out HOB8.out HP.out HO9.out HG9.out HO10.out HG10.out⟩⟩
                case measure => omega
          · have tk : decide ((kk : Int) = 2) = false := by simp; omega
            have HT' : Hid (∃ M d, d ≤ kk + 1 ∧ WT w1 wr w1.heap.size i kk r' d (.slice a4' r' c4') (.slice a5' r' c5') kvs' tvs' Rs' g c9 ni L M) := ⟨M, kk, Nat.le_succ _, HT.out⟩
            clear HT
            obtain ⟨M, d, hd, HT0⟩ := HT'.out
            have HT : Hid _ := HT0
            clear HT' HT0
            obtain ⟨v5, w5, hr5, R5, G5⟩ := run_append_ivs (A := []) (Row.nil wr wr.heap.size 35 3) HT.out.s.n (HT.out.s.ivs HT.out.fit) (by simp; omega) (Nat.le_refl _)
            have b5 := gi_nil G5
            rw [List.nil_append] at R5
            obtain ⟨so, sc, e5, I5⟩ := row_ivs R5 HT.out.fit
            have hsc : M.length ≤ sc := I5.le
            have hscm : sc ≤ 9223372036854775807 := I5.mx
            have hr177 : r' ≤ 180 := by have := HT.out.e; omega
            rw [← HT.out.s.n] at e5 hsc
            subst e5
            have HT5 : Hid (WT w1 w5 w1.heap.size i kk r' d (.slice a4' r' c4') (.slice a5' r' c5') kvs' tvs' Rs' g c9 ni L M) := HT.out.keep b5
            have HI5 : Hid (Ivs w5 so sc M) := I5
            have HBW5 : Hid (Below w.heap.size w w5) := HB1.out.trans (HT5.out.s.k.bel.mono HB1.out.size)
            obtain ⟨ka5, kb5⟩ := HKA.out w5 HBW5.out
            clear R5 G5 b5 I5 HT HBW
            go_wp2_with (at_builtin; refine wpList_append_run rfl _ _ 22 22 rfl _ _ rfl rfl hr5 ?_; clear hr5)
            refine Calls.mono (scan_any w5 _ ni c9 M HT5.out.s.n (HT5.out.s.ivs HT5.out.fit) regs (by omega)) ?_
            rintro e w6 ⟨va, m1, x1, rfl, A1⟩
            have HT6 : Hid (WT w1 w6 w1.heap.size i kk r' d (.slice a4' r' c4') (.slice a5' r' c5') kvs' tvs' Rs' g c9 ni L M) := HT5.out.keep A1.bel
            have HI6 : Hid (Ivs w6 so sc M) := HI5.out.below A1.bel (Nat.le_refl _)
            have HA1 : Hid (ScAns w5 w6 M regs va m1 x1) := A1
            have HBW6 : Hid (Below w.heap.size w w6) := HB1.out.trans (HT6.out.s.k.bel.mono HB1.out.size)
            obtain ⟨ka6, kb6⟩ := HKA.out w6 HBW6.out
            clear A1 HI5 ka5 kb5 HBW5
            go_wp2_with fail
            refine Calls.mono (refScan_any w6 so ni sc M HT6.out.s.n HI6.out regs (by omega)) ?_
            rintro e w7 ⟨vb, m2, x2, rfl, A2⟩
            obtain ⟨e1, e2, P, hP, RA, RB⟩ := ans_same6 HT6.out.f HA1.out A2
            subst e1 e2
            have hx1 : x1 = 0 ∨ x1 = 180 ∨ x1 = 181 := by
              by_cases hr : regs < 1 ∨ 8 < regs
              · exact .inr (.inl (A2.bad hr).2.2)
              · cases hg : gdB M with
                | false => exact .inr (.inr (A2.wrong hr hg).2.2)
                | true => exact .inl (A2.good hr hg).2.2
            have hw1 : IntKind.i64.wrap x1 = x1 := by rw [IntKind.wrap_i64]; omega
            obtain ⟨pl, hpl⟩ : ∃ pl, pl = P.length := ⟨_, rfl⟩
            obtain ⟨pa, pca, ea, LA⟩ := row_lcs (RA.keep A2.bel)
            obtain ⟨pb, pcb, eb, LB⟩ := row_lcs RB
            rw [← hpl] at ea eb
            subst ea eb
            have HSM : Hid (Calls Try.prog 14 #[.slice pa pl pca, .slice pb pl pcb] w7 fun e w' => e = .returned (.bool true) ∧ Below w7.heap.size w7 w') := by
              refine (sameL_any w7 LA LB hpl hpl).mono ?_
              rintro e w' ⟨rfl, hb⟩
              exact ⟨by simp, hb⟩
            have HOA : Hid (OwnP w7 w5.heap.size (.slice pa pl pca) P.length P) := row_ownP (RA.keep A2.bel) rfl
            have HOB : Hid (OwnP w7 w5.heap.size (.slice pb pl pcb) P.length P) := row_ownP (row_base RB HA1.out.bel.size) rfl
            have HB57 : Hid (Below w5.heap.size w5 w7) := HA1.out.bel.trans (A2.bel.mono HA1.out.bel.size)
            have HP : Hid (P.length ≤ 6000) := hP
            have hpl6 : pl ≤ 6000 := by omega
            clear hpl LA LB RA RB A2 HA1 hx1 hP HT6 HI6 HBW6 ka6 kb6
            go_wp2_with fail
            refine Calls.mono HSM.out ?_
            rintro e w8 ⟨rfl, b8⟩
            have HB58 : Hid (Below w5.heap.size w5 w8) := HB57.out.trans (b8.mono HB57.out.size)
            have HOA8 : Hid (OwnP w8 w5.heap.size (.slice pa pl pca) P.length P) := HOA.out.keep b8
            have HOB8 : Hid (OwnP w8 w5.heap.size (.slice pb pl pcb) P.length P) := HOB.out.keep b8
            have HT8 : Hid (WT w1 w8 w1.heap.size i kk r' d (.slice a4' r' c4') (.slice a5' r' c5') kvs' tvs' Rs' g c9 ni L M) := HT5.out.keep HB58.out
            have HKL : Hid (kvs'.length = r') := by show kvs'.length = r'; rw [HT8.out.s.k.kl, HT8.out.l]
            have HTL : Hid (tvs'.length = r') := by show tvs'.length = r'; rw [HT8.out.s.k.tl, HT8.out.l]
            clear b8 HSM HOA HOB HB57
            go_wp2_with (first
              | (at_builtin; refine wpList_append_slG (w0 := w8) rfl _ _ rfl w1.heap.size (.slice a4' r' c4') kvs' pa pl pca rfl HT8.out.s.k.k rfl (by rw [HKL.out]; omega) HT8.out.s.le ?_; intro v9 w9 o9 g9
                 have HO9 : Hid _ := o9
                 have HG9 : Hid _ := g9
                 obtain ⟨a9, c9', e9, _, _⟩ := own_slice o9.out
                 rw [List.length_append, List.length_singleton, HKL.out] at e9
                 subst e9
                 have HV9 : Hid (OwnV w9 w1.heap.size (.slice a5' r' c5') tvs') := HT8.out.s.k.t.gi g9 fun b hb e => HT8.out.s.k.kt b e hb
                 have hs9 : w1.heap.size ≤ w9.heap.size := Nat.le_trans HT8.out.s.le g9.size
                 clear o9 g9)
              | (at_builtin; refine wpList_append_slG (w0 := w9) rfl _ _ rfl w1.heap.size (.slice a5' r' c5') tvs' pb pl pcb rfl HV9.out rfl (by rw [HTL.out]; omega) hs9 ?_; intro v10 w10 o10 g10
                 have HO10 : Hid _ := o10
                 have HG10 : Hid _ := g10
                 obtain ⟨a10, c10, e10, _, _⟩ := own_slice o10.out
                 rw [List.length_append, List.length_singleton, HTL.out] at e10
                 subst e10
                 clear o10 g10))
            go_roundg (3 - (kk + 1))
            case rel => exact ⟨kk + 1, r' + 1, a9, c9', a10, c10, _, _, _, M, by omega, rfl, rfl, rfl, by go_num, ⟨by have := HT5.out.e; omega, by simp [HT5.out.l], fun h => HT5.out.m (by omega), HT5.out.f, HT5.out.fit, HT5.out.s.more HB58.out HOA8.out HOB8.out HP.out HO9.out HG9.out HO10.out HG10.out⟩⟩
            case measure => omega
        · obtain rfl : kk = 3 := by omega
          have HX : Hid (r' = (i + 1) * 3 ∧ Rs'.length = r' ∧ KS w1 wr w1.heap.size (.slice a4' r' c4') (.slice a5' r' c5') kvs' tvs' Rs') := ⟨by have := HT.out.e; omega, HT.out.l, HT.out.s.k⟩
          clear HT
          go_wp2_with fail
          go_roundg (n - (i + 1))
          case rel => exact ⟨i + 1, r', a4', c4', a5', c5', _, _, _, by omega, rfl, rfl, rfl, by go_num, HX.out⟩
          case measure => omega
    · have HKS : Hid (KS w1 wr w1.heap.size (.slice a4 r c4) (.slice a5 r c5) kvs tvs Rs) := HH.out.2.2
      have HRL : Hid (r = Rs.length) := HH.out.2.1.symm
      have hr180 : r ≤ 180 := by have := HH.out.1; omega
      have hkl : kvs.length = r := by rw [HRL.out]; exact HKS.out.kl
      have htl : tvs.length = r := by rw [HRL.out]; exact HKS.out.tl
      have HKL : Hid (kvs.length = r ∧ tvs.length = r) := ⟨hkl, htl⟩
      have HK0 : Hid (KS w1 wr w1.heap.size (.slice a4 r c4) (.slice a5 r c5) kvs tvs Rs ∧ Below wr.heap.size wr wr) := ⟨HKS.out, Below.refl _ _⟩
      obtain ⟨w5, hw5⟩ : ∃ w5, w5 = wr := ⟨_, rfl⟩
      subst hw5
      clear HH hkl htl
      go_wp2_with fail
      go_loopg [18] r (fun q iv wq => ∃ t : Nat, t ≤ r ∧ q = r - t ∧ iv = .int .i64 (t : Int) ∧ Hid (Below w5.heap.size w5 wq))
      case atStart => exact ⟨0, by omega, by omega, rfl, HK0.out.2⟩
      case round =>
        clear HK0
        obtain ⟨t, ht, rfl, rfl, HBq⟩ := hrel
        have hKq := HKS.out.keep hB HBq.out
        by_cases htr : t < r
        · have htR : t < Rs.length := by have := HRL.out; omega
          have kk := hKq.k.out
          have tk := hKq.t.out
          rw [HKL.out.1] at kk
          rw [HKL.out.2] at tk
          obtain ⟨gk, _, e9, hk1, hk2, _, _⟩ := own_some kk (by omega)
          cases e9
          obtain ⟨gt, _, e9, ht1, ht2, _, _⟩ := own_some tk (by omega)
          cases e9
          have ok := hKq.kr t htR
          have ot := hKq.tr t htR
          obtain ⟨ak, ck, ek, Ik⟩ := row_lcs ok.row
          obtain ⟨at', ct, et, It⟩ := row_lcs ot.row
          obtain ⟨P, hP⟩ : ∃ P, P = Rs.getD t [] := ⟨_, rfl⟩
          rw [← hP] at ek et Ik It
          have c1 : wr.cell? ⟨gk, t, none⟩ = some (.slice ak P.length ck) := by
            rw [own_cell kk t (by omega), ← ek]
            simp [show t < kvs.length by have := HKL.out.1; omega]
          have c2 : wr.cell? ⟨gt, t, none⟩ = some (.slice at' P.length ct) := by
            rw [own_cell tk t (by omega), ← et]
            simp [show t < tvs.length by have := HKL.out.2; omega]
          have HCS : Hid (∀ w' : World, Below wr.heap.size wr w' → Calls Try.prog 14 #[.slice ak P.length ck, .slice at' P.length ct] w' fun e w'' => e = .returned (.bool true) ∧ (fun w' : World => Below wr.heap.size wr w' ∧ w'.cell? ⟨gk, t, none⟩ = some (.slice ak P.length ck) ∧ w'.cell? ⟨gt, t, none⟩ = some (.slice at' P.length ct)) w'') := fun w' hb => by
            refine Calls.mono (sameL_any w' (Ik.below hb) (It.below hb) rfl rfl) ?_
            rintro e w'' ⟨rfl, b⟩
            have hb2 := hb.trans (b.mono hb.size)
            exact ⟨by simp, hb2, (hb2.cell (p := ⟨gk, t, none⟩) (block_lt_of_cell c1)).trans c1, (hb2.cell (p := ⟨gt, t, none⟩) (block_lt_of_cell c2)).trans c2⟩
          have S0 : (fun w' : World => Below wr.heap.size wr w' ∧ w'.cell? ⟨gk, t, none⟩ = some (.slice ak P.length ck) ∧ w'.cell? ⟨gt, t, none⟩ = some (.slice at' P.length ct)) wr.drew := ⟨(Below.refl _ _).drew, c1, c2⟩
          obtain ⟨pl, hpl⟩ : ∃ pl, pl = P.length := ⟨_, rfl⟩
          rw [← hpl] at c1 c2 HCS S0
          have hs5r := HBq.out.size
          clear kk tk ok ot ek et Ik It hP hKq hpl
          go_wp2_with fail
          go_region_held (fun w' : World => Below wr.heap.size wr w' ∧ w'.cell? ⟨gk, t, none⟩ = some (.slice ak pl ck) ∧ w'.cell? ⟨gt, t, none⟩ = some (.slice at' pl ct)) (first | exact S0 | exact S1) (first | (go_at_call 14; refine Calls.mono (HCS.out _ S0.1) ?_; rintro e w6 ⟨rfl, S1⟩))
          have HB6 : Hid (Below w5.heap.size w5 w6) := HBq.out.trans (S1.1.mono hs5r)
          clear S0 S1 HCS c1 c2
          go_wp2_with fail
          go_roundg (r - (t + 1))
          case rel => exact ⟨t + 1, by omega, rfl, by go_num, HB6.out⟩
          case measure => omega
        · have HMK : Hid (MK wr wr w1.heap.size r (.slice a4 r c4) (fun q => kvs.getD q (.slice none 0 0)) (fun q => (Rs.getD q []).length) (fun q => Rs.getD q [])) :=
            by have := (KS.mk hKq.k hKq.t hKq.kl hKq.tl hKq.kr hKq.tr hKq.ap hKq.kt hKq.sz (Below.refl w1.heap.size wr)).mk'; rw [← HRL.out] at this; exact this
          have hr300 : r ≤ 300 := by omega
          have hBr : w1.heap.size ≤ wr.heap.size := hKq.bel.size
          have HFB : Hid (Below w.heap.size w wr) := HB1.out.trans (hKq.bel.mono HB1.out.size)
          have HSZ : Hid (∀ q, q < r → (Rs.getD q []).length ≤ 6000) := fun q hq => by
            have hq2 : q < Rs.length := by have := HRL.out; omega
            have := hKq.sz (Rs.getD q []) (by rw [List.getD, List.getElem?_eq_getElem hq2]; exact List.getElem_mem hq2)
            omega
          clear hKq
          go_wp2_with fail
          refine Calls.mono (apart_any wr w1.heap.size hBr (.slice a4 r c4) r _ _ _ HMK.out hr300 HSZ.out) ?_
          rintro e w9 ⟨rfl, b9⟩
          have HB9 : Hid (Below w.heap.size w w9) := HFB.out.trans (b9.mono HB1.out.size)
          clear b9
          go_wp2_with fail
          try rw [Exit.noGoto_ret]
          go_ret
          exact ⟨rfl, HB9.out⟩
end Go.Proofs.Ytpgbkkllnbahpaa
