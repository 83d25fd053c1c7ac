import Derived.Test.YtpgbkkllnbahpaaSoC
import Derived.Test.YtpgbkkllnbahpaaSoE
set_option linter.unusedVariables false
set_option linter.unusedSimpArgs false
namespace Go.Proofs.Ytpgbkkllnbahpaa
open Go.ChangeShapes Go.WideShapes Go.ChangeAt Go.RowKit Go.Maps

def endP (L : List Iv) : Int := L.foldl (fun m x => max m x.2.2) (-9223372036854775808)
theorem endP_step (L : List Iv) (k : Nat) (h : k < L.length) : endP (L.take (k + 1)) = max (endP (L.take k)) L[k].2.2 := by
  unfold endP
  rw [← List.take_append_getElem h, List.foldl_append]
  rfl
theorem endP_mem {L : List Iv} {x : Iv} (h : x ∈ L) : x.2.2 ≤ endP L := by
  have key : ∀ (l : List Iv) (m : Int), m ≤ l.foldl (fun m x => max m x.2.2) m ∧ ∀ x ∈ l, x.2.2 ≤ l.foldl (fun m x => max m x.2.2) m := by
    intro l
    induction l with
    | nil => intro m; exact ⟨Int.le_refl _, by simp⟩
    | cons a l ih =>
      intro m
      obtain ⟨h1, h2⟩ := ih (max m a.2.2)
      refine ⟨by simp only [List.foldl_cons]; omega, fun x hx => ?_⟩
      rcases List.mem_cons.1 hx with rfl | hx
      · simp only [List.foldl_cons]; omega
      · simp only [List.foldl_cons]; exact h2 x hx
  exact (key L _).2 x h
theorem endP_fit {L : List Iv} (h : ∀ x ∈ L, FitV x) : -9223372036854775808 ≤ endP L ∧ endP L ≤ 9223372036854775807 := by
  have key : ∀ (l : List Iv) (m : Int), (-9223372036854775808 ≤ m ∧ m ≤ 9223372036854775807) → (∀ x ∈ l, FitV x) → -9223372036854775808 ≤ l.foldl (fun m x => max m x.2.2) m ∧ l.foldl (fun m x => max m x.2.2) m ≤ 9223372036854775807 := by
    intro l
    induction l with
    | nil => intro m hm _; exact hm
    | cons a l ih => intro m hm hl; simp only [List.foldl_cons]; exact ih _ (by have := (hl a (by simp)).t; omega) fun x hx => hl x (by simp [hx])
  exact key L _ (by omega) h
theorem srt_on {S : List Iv} (h : Srt S) (h1 : endP S < 9223372036854775807) (h2 : grt S < 262143) : Srt (S ++ [(grt S + 1, endP S + 1, 9223372036854775807)]) := by
  have hg := grt_ge S
  have hf := endP_fit h.fit
  refine ⟨fun x hx => ?_, ?_, ?_, fun x hx => ?_⟩
  · rcases List.mem_append.1 hx with q | q
    · exact h.ok x q
    · simp at q
      subst q
      simp [okI]
      omega
  · rw [List.pairwise_append]
    refine ⟨h.up, by simp, fun a ha b hb => ?_⟩
    simp at hb
    subst hb
    rw [up_iff]
    have h3 := endP_mem ha
    have h4 := h.ok a ha
    simp [okI] at h4
    simp only
    omega
  · rw [List.map_append]
    refine List.nodup_append.2 ⟨h.once, by simp, fun a ha b hb => ?_⟩
    simp at hb
    subst hb
    obtain ⟨y, hy, rfl⟩ := List.mem_map.1 ha
    have := grt_mem hy
    omega
  · rcases List.mem_append.1 hx with q | q
    · exact h.fit x q
    · simp at q
      subst q
      exact ⟨by simp only; omega, by simp only; omega, by simp only; omega⟩
theorem lcs_pre {w : World} {B : Nat} {po : Option Addr} {n k : Nat} {P R : List Lc} (h : Row w B 37 2 (.slice po n k) ((P ++ R).map lc)) (hn : n = (P ++ R).length) : Lcs w po k P := by
  obtain ⟨ao, c, e, hL⟩ := row_lcs h
  simp only [Value.slice.injEq] at e
  obtain ⟨rfl, _, rfl⟩ := e
  refine ⟨by have := hL.le; simp at this; omega, hL.mx, fun hne => ?_⟩
  obtain ⟨b, o, e, hl, hc⟩ := hL.out (by simp [hne])
  refine ⟨b, o, e, hl, fun i hi => ?_⟩
  have := hc i (by simp; omega)
  rwa [List.getElem_append_left hi] at this
set_option maxRecDepth 100000 in
set_option maxHeartbeats 8000000 in
theorem scanOn_any (w : World) (ao : Option Addr) (n c : Nat) (L : List Iv) (hn : n = L.length) (h : Ivs w ao c L) (regs : Int) : Calls Try.prog 7 #[.slice ao n c, .int .i64 regs] w fun e w' => e = .returned (.bool true) ∧ Below w.heap.size w w' := by
  have HN : Hid (n = L.length) := hn
  have HH : Hid (Ivs w ao c L) := h
  have HAL : Hid (Calls Try.prog 9 #[] w fun e w' => e = .returned (.bool true) ∧ Below w.heap.size w w') := alive_any w
  by_cases hr : regs < 1
  · clear h hn
    go_enter Try.func7, Try.ntmps7
    go_wp2_with (go_at_call 9; refine Calls.mono HAL.out ?_; rintro e w1 ⟨rfl, hb1⟩; have HB1 : Hid (Below w.heap.size w w1) := hb1; clear hb1)
    go_ret
    exact ⟨rfl, HB1.out⟩
  by_cases hr8 : 8 < regs
  · clear h hn
    go_enter Try.func7, Try.ntmps7
    go_wp2_with (go_at_call 9; refine Calls.mono HAL.out ?_; rintro e w1 ⟨rfl, hb1⟩; have HB1 : Hid (Below w.heap.size w w1) := hb1; clear hb1)
    go_ret
    exact ⟨rfl, HB1.out⟩
  obtain ⟨r, hrr⟩ : ∃ r : Nat, regs = (r : Int) := ⟨regs.toNat, by omega⟩
  subst hrr
  have hr1 : 1 ≤ r := by omega
  have hr9 : r ≤ 8 := by omega
  have t1 : decide ((r : Int) < 1) = false := by simp; omega
  have t2 : decide ((8 : Int) < (r : Int)) = false := by simp; omega
  have HSO : Hid (∀ W, Below w.heap.size w W → Calls Try.prog 15 #[.slice ao n c] W fun e w' => ∃ S v, e = .returned v ∧ Row w' W.heap.size 35 3 v (S.map vc) ∧ Srt S ∧ S.length ≤ 3000 ∧ Below W.heap.size W w') := fun W hW => sorted_any W ao n c L hn (h.below hW (Nat.le_refl _))
  clear h hn hr hr8
  go_enter Try.func7, Try.ntmps7
  go_wp2_with (first
    | (go_at_call 15; refine Calls.mono (HSO.out w1 HB1.out) ?_; rintro e w2 ⟨S, v2, rfl, R2, hS, hS3, hb2⟩; have HB2 : Hid (Below w.heap.size w w2) := HB1.out.trans (hb2.mono HB1.out.size); have HS : Hid (Srt S) := hS; obtain ⟨so, sc, rfl, hI⟩ := row_ivs R2 hS.fit; have HI : Hid (Ivs w2 so sc S) := hI; have hsc : S.length ≤ sc := hI.le; have hscm : sc ≤ 9223372036854775807 := hI.mx; clear R2 hb2 hS hI; obtain ⟨sn, hsn⟩ : ∃ sn, sn = S.length := ⟨_, rfl⟩; have HSN : Hid (sn = S.length) := hsn; rw [← hsn] at hS3 hsc ⊢; clear hsn)
    | (go_at_call 9; refine Calls.mono HAL.out ?_; rintro e w1 ⟨rfl, hb1⟩; have HB1 : Hid (Below w.heap.size w w1) := hb1; clear hb1))
  clear HSO HAL t1 t2 HB1
  go_loopw [7, 8, 9] (fun u1 u2 v wr => ∃ k : Nat, k ≤ sn ∧ v = .int .i64 k ∧ u1 = .int .i64 (endP (S.take k)) ∧ u2 = .int .i64 (grt (S.take k)) ∧ wr = w2) (fun _ _ v _ => sn - (intOf v).toNat)
  case atStart => exact ⟨0, by omega, rfl, rfl, rfl, rfl⟩
  case round =>
    obtain ⟨k, hk, rfl, rfl, rfl, hwr⟩ := hrel
    subst hwr
    by_cases hlt : k < sn
    · have hk2 : k < S.length := by have := HSN.out; omega
      obtain ⟨b, o, rfl, hbw, c0, c1, c2⟩ := HI.out.at hk2
      have HG : Hid (grt (S.take (k + 1)) = max (grt (S.take k)) S[k].1) := grt_step S k hk2
      have HE : Hid (endP (S.take (k + 1)) = max (endP (S.take k)) S[k].2.2) := endP_step S k hk2
      generalize S[k] = y at c0 c1 c2 HG HE
      obtain ⟨g, hg⟩ : ∃ g, g = grt (S.take k) := ⟨_, rfl⟩
      obtain ⟨en, hen⟩ : ∃ en, en = endP (S.take k) := ⟨_, rfl⟩
      rw [← hg] at HG ⊢
      rw [← hen] at HE ⊢
      clear hg hen hk2
      go_wp2_with fail
      go_roundw
      case rel => exact ⟨k + 1, by omega, by go_num, by rw [HE.out]; first | rfl | (congr 1; omega), by rw [HG.out]; first | rfl | (congr 1; omega), by trivial⟩
      case measure => simp [intOf]; omega
    · obtain rfl : k = sn := by omega
      have HT : Hid (S.take k = S) := List.take_of_length_le (by have := HSN.out; omega)
      rw [HT.out]
      have hef := endP_fit HS.out.fit
      have hgg := grt_ge S
      have hgl : grt S < 262144 := grt_lt fun x hx => by have := HS.out.ok x hx; simp [okI] at this; exact this.1.2
      obtain ⟨en, hen⟩ : ∃ en, en = endP S := ⟨_, rfl⟩
      obtain ⟨gr, hgr⟩ : ∃ gr, gr = grt S := ⟨_, rfl⟩
      rw [← hen] at hef ⊢
      rw [← hgr] at hgg hgl ⊢
      by_cases q1 : en = 9223372036854775807
      · rw [q1]
        clear hen hgr q1 hef
        go_wp2_with fail
        go_ret
        exact ⟨rfl, HB2.out⟩
      · by_cases q2 : gr = 262143
        · rw [q2]
          have q3 : (en == 9223372036854775807) = false := by simpa using q1
          clear hen hgr q2 hgg hgl
          go_wp2_with fail
          go_ret
          exact ⟨rfl, HB2.out⟩
        · have q3 : (en == 9223372036854775807) = false := by simpa using q1
          have q4 : (gr == 262143) = false := by simpa using q2
          have HX : Hid (Srt (S ++ [(gr + 1, en + 1, 9223372036854775807)])) := by rw [hen, hgr]; exact srt_on HS.out (by omega) (by omega)
          obtain ⟨o1, o2⟩ := scan_on HS.out hr1 (x := (gr + 1, en + 1, 9223372036854775807)) (by simp [hgr]) (fun y hy => by have := endP_mem hy; simp only; omega)
          have HO : Hid ((scn (S ++ [(gr + 1, en + 1, 9223372036854775807)]) r).pl = (scn S r).pl ++ [(1, 0)] ∧ (scn (S ++ [(gr + 1, en + 1, 9223372036854775807)]) r).sl = (scn S r).sl) := ⟨o1, o2⟩
          have wg : IntKind.i64.wrap (gr + 1) = gr + 1 := by rw [IntKind.wrap_i64]; omega
          have we : IntKind.i64.wrap (en + 1) = en + 1 := by rw [IntKind.wrap_i64]; omega
          obtain ⟨P, hP⟩ : ∃ P, P = (scn S r).pl := ⟨_, rfl⟩
          obtain ⟨sl, hsl⟩ : ∃ sl, sl = (scn S r).sl := ⟨_, rfl⟩
          obtain ⟨m, hm⟩ : ∃ m, m = P.length := ⟨_, rfl⟩
          have HSC : Hid (∀ W ao c, Ivs W ao c S → Calls Try.prog 11 #[.slice ao k c, .int .i64 (r : Int)] W fun e w' => ∃ po pk, e = .returned (.tuple #[.slice po m pk, .int .i64 (sl : Int), .int .i64 0]) ∧ Row w' W.heap.size 37 2 (.slice po m pk) (P.map lc) ∧ Below W.heap.size W w') := fun W ao c hI => by
            have := scanG_any W ao k c S HSN.out hI HS.out r hr1 hr9 (by omega)
            rw [← hP, ← hsl, ← hm] at this
            exact this
          have HSC2 : Hid (∀ W ao c, Ivs W ao c (S ++ [(gr + 1, en + 1, 9223372036854775807)]) → Calls Try.prog 11 #[.slice ao (k + 1) c, .int .i64 (r : Int)] W fun e w' => ∃ po pk, e = .returned (.tuple #[.slice po (m + 1) pk, .int .i64 (sl : Int), .int .i64 0]) ∧ Row w' W.heap.size 37 2 (.slice po (m + 1) pk) ((P ++ [(1, 0)]).map lc) ∧ Below W.heap.size W w') := fun W ao c hI => by
            have := scanG_any W ao (k + 1) c (S ++ [(gr + 1, en + 1, 9223372036854775807)]) (by have := HSN.out; simp; omega) hI HX.out r hr1 hr9 (by omega)
            rw [HO.out.1, HO.out.2, ← hP, ← hsl] at this
            simp only [List.length_append, List.length_cons, List.length_nil, Nat.zero_add, ← hm] at this
            exact this
          have HM : Hid (m = P.length) := hm
          have HBD : Hid (m ≤ 300000) := by
            have := (scan_all HS.out r).2.2.pl
            show m ≤ _
            rw [hm, hP, this]
            omega
          have hmm : m ≤ 300000 := HBD.out
          have HLS : Hid (Calls Try.prog 10 #[.slice so k sc] wr fun e w' => ∃ g q, e = .returned (.slice (some ⟨g, 0, none⟩) k q) ∧ Ivs w' (some ⟨g, 0, none⟩) q S ∧ Below wr.heap.size wr w') := ls_any wr so k sc S HSN.out HI.out HS.out hS3
          have HAP : Hid (∀ W, Below wr.heap.size wr W → ∃ v5 w5 g6 c6 w6, (Builtin.append_ #[22, 22] 22 #[.slice none 0 0, .slice so k sc]).run Try.prog W = .ok v5 w5 ∧ (Builtin.append_ #[22, 22] 22 #[v5, .slice (some ⟨w5.heap.size, 0, none⟩) 1 1]).run Try.prog (w5.alloc (.cells #[.int .i64 (gr + 1), .int .i64 (en + 1), .int .i64 9223372036854775807] 35)) = .ok (.slice g6 (k + 1) c6) w6 ∧ Ivs w6 g6 c6 (S ++ [(gr + 1, en + 1, 9223372036854775807)]) ∧ Below W.heap.size W w6) := fun W hW => by
            obtain ⟨v5, w5, hr5, R5, G5⟩ := run_append_ivs (A := []) (Row.nil W W.heap.size 35 3) HSN.out (HI.out.below hW (Nat.le_refl _)) (by simp; omega) (Nat.le_refl _)
            have hb5 := gi_nil G5
            rw [List.nil_append] at R5
            obtain ⟨v6, w6, hr6, R6, G6⟩ := run_append_iv1 R5 (gr + 1, en + 1, 9223372036854775807) (by have := HSN.out; omega) hb5.size
            obtain ⟨g6, c6, e6, hI6⟩ := row_ivs R6 HX.out.fit
            have hl6 : (S ++ [(gr + 1, en + 1, 9223372036854775807)]).length = k + 1 := by have := HSN.out; simp; omega
            rw [hl6] at e6
            subst e6
            refine ⟨v5, w5, g6, c6, w6, hr5, hr6, hI6, ⟨by rw [G6.bel.os, hb5.os], by rw [G6.bel.tape, hb5.tape], by rw [G6.bel.output, hb5.output], Nat.le_trans hb5.size G6.size, fun q hq => ?_⟩⟩
            rw [G6.blk q (Nat.lt_of_lt_of_le hq hb5.size) (fun e => by rcases G5.own q e with h | h; simp [Value.ownBlock] at h; omega), hb5.block q hq]
          have HSM : Hid (∀ (w7 : World) (b7 c7 : Nat) {B7 : Nat}, Row w7 B7 37 2 (.slice (some ⟨b7, 0, none⟩) (m + 1) c7) ((P ++ [(1, 0)]).map lc) → ∀ {B : Nat} {po : Option Addr} {pk : Nat}, Row w7 B 37 2 (.slice po m pk) (P.map lc) → Calls Try.prog 14 #[.slice po m pk, .slice (some ⟨b7, 0, none⟩) m c7] w7 fun e w' => e = .returned (.bool true) ∧ Below w7.heap.size w7 w') := fun w7 b7 c7 B7 R7 B po pk R4 => by
            obtain ⟨a1, c1, e1, hL1⟩ := row_lcs R4
            rw [← hm] at e1
            simp only [Value.slice.injEq, true_and] at e1
            obtain ⟨rfl, rfl⟩ := e1
            have hL2 := lcs_pre R7 (by simp [hm])
            refine (sameL_any w7 hL1 hL2 hm hm).mono ?_
            rintro e w' ⟨rfl, hb⟩
            exact ⟨by simp, hb⟩
          have HCL : Hid (∀ (w7 w8 : World) (b7 c7 : Nat) {B7 : Nat}, Row w7 B7 37 2 (.slice (some ⟨b7, 0, none⟩) (m + 1) c7) ((P ++ [(1, 0)]).map lc) → Below w7.heap.size w7 w8 → w8.cell? ⟨b7, m * 2, none⟩ = some (.int .i64 1) ∧ w8.cell? ⟨b7, m * 2 + 1, none⟩ = some (.int .i64 0)) := fun w7 w8 b7 c7 B7 R7 hb => by
            have := row_lc (R7.keep hb) (by simp [hm]) (k := m) (by simp [hm])
            rw [List.getElem_append_right (by omega)] at this
            simpa [hm] using this
          clear o1 o2 hen hgr hP hsl hm q1 q2 HBD HT
          go_wp2_with fail
          refine Calls.mono HLS.out ?_
          rintro e w3 ⟨g, q, rfl, hI3, hb3⟩
          have HB3 : Hid (Below wr.heap.size wr w3) := hb3
          have HI3 : Hid (Ivs w3 (some ⟨g, 0, none⟩) q S) := hI3
          clear hb3 hI3 HLS
          go_wp2_with fail
          refine Calls.mono (HSC.out w3 _ _ HI3.out) ?_
          rintro e w4 ⟨po, pk, rfl, R4, hb4⟩
          have HB4 : Hid (Below wr.heap.size wr w4) := HB3.out.trans (hb4.mono HB3.out.size)
          have HR4 : Hid (Row w4 w3.heap.size 37 2 (.slice po m pk) (P.map lc)) := R4
          obtain ⟨v5, w5, g6, c6, w6, hr5, hr6, hI6, hb6⟩ := HAP.out w4 HB4.out
          have HI6 : Hid (Ivs w6 g6 c6 (S ++ [(gr + 1, en + 1, 9223372036854775807)])) := hI6
          have HB6 : Hid (Below w4.heap.size w4 w6) := hb6
          clear R4 hb4 hI6 hb6 HSC HAP
          go_wp2_with (first
            | (at_builtin; refine wpList_append_run rfl _ _ 22 22 rfl (.slice none 0 0) (.slice so k sc) rfl rfl hr5 ?_; clear hr5)
            | (at_builtin; refine wpList_append_run rfl _ _ 22 22 rfl v5 (.slice (some ⟨w5.heap.size, 0, none⟩) 1 1) rfl rfl hr6 ?_; clear hr6))
          refine Calls.mono (HSC2.out w6 _ _ HI6.out) ?_
          rintro e w7 ⟨po7, pk7, rfl, R7, hb7⟩
          have HB7 : Hid (Below w6.heap.size w6 w7) := hb7
          obtain ⟨b7, c7, e7, g7, g8, _, hbl7⟩ := own_some R7.out (by simp)
          have e8 : (List.map lc (P ++ [(1, 0)])).length = m + 1 := by have := HM.out; simp; omega
          rw [e8] at e7 g7
          cases e7
          have HR7 : Hid (Row w7 w6.heap.size 37 2 (.slice (some ⟨b7, 0, none⟩) (m + 1) pk7) ((P ++ [(1, 0)]).map lc)) := R7
          have HR47 : Hid (Row w7 w3.heap.size 37 2 (.slice po m pk) (P.map lc)) := HR4.out.keep (HB6.out.trans (HB7.out.mono HB6.out.size))
          have HB47 : Hid (Below wr.heap.size wr w7) := HB4.out.trans ((HB6.out.trans (HB7.out.mono HB6.out.size)).mono HB4.out.size)
          clear R7 hb7 e8 HSC2 HR4 HI6
          go_wp2_with fail
          refine Calls.mono (HSM.out w7 _ _ HR7.out HR47.out) ?_
          rintro e w8 ⟨rfl, hb8⟩
          obtain ⟨f0, f1⟩ := HCL.out w7 w8 _ _ HR7.out hb8
          have hbl8 : b7 < w8.heap.size := Nat.lt_of_lt_of_le hbl7 hb8.size
          have HB8 : Hid (Below w.heap.size w w8) := HB2.out.trans ((HB47.out.trans (hb8.mono HB47.out.size)).mono HB2.out.size)
          clear hb8 HSM HCL
          go_wp2_with fail
          go_ret
          exact ⟨rfl, HB8.out⟩
end Go.Proofs.Ytpgbkkllnbahpaa
