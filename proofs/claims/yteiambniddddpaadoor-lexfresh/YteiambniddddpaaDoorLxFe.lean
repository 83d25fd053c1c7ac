import Derived.Test.YteiambniddddpaaDoorLxFd
import Derived.Deep.RegionWith
set_option linter.unusedVariables false
namespace Go.Proofs.YteiambniddddpaaDoor
open Go.ChangeShapes Go.WideShapes Go.ChangeAt Go.RowKit

/-- What the lists hold: list 2k and list 2k+1 what text k is cut into. -/
structure Pairs (m : Nat) (L : Nat → List UInt8) (N : Nat → Nat) (X : Nat → List T) : Prop where
  out : ∀ k, k < m → ∃ p e, Lexes 0 (L (k / 2)) (X k) p e
theorem Pairs.snoc {m L N X n} {Y : List T} (h : Pairs m L N X) {p e} (hY : Lexes 0 (L (m / 2)) Y p e) : Pairs (m + 1) L (fun k => if k = m then n else N k) (fun k => if k = m then Y else X k) := ⟨fun k hk => by
  by_cases e : k = m
  · subst e; simp only [if_true]; exact ⟨_, _, hY⟩
  · simp only [e, if_false]; exact h.out k (by omega)⟩

theorem Lexes.len {k l ts p e} (h : Lexes k l ts p e) : ts.length ≤ l.length := by
  induction h with
  | tok h1 h2 h3 h4 ih =>
    have := tk_ok h3
    simp at ih this ⊢
    omega
  | _ => simp

theorem TokV.drewN {w ao ts} (h : TokV w ao ts) (q : Nat) : TokV (w.drewN q) ao ts := h.below (below_drewN (Below.refl w.heap.size w) q) (Nat.le_refl _)
set_option maxHeartbeats 1000000 in
theorem same_quiet (w : World) (a1 a2 : Option Addr) (c1 c2 n : Nat) (ts : List T) (hn : n = ts.length) (hl : n ≤ 9223372036854775807) (h1 : TokV w a1 ts) (h2 : TokV w a2 ts) :
    Calls Tryd.prog 11 #[.slice a1 n c1, .slice a2 n c2] w fun e w' => e = .returned (.bool true) ∧ ∃ m, w' = w.drewN m := by
  have HN : Hid (n = ts.length) := hn
  clear hn
  go_enter Tryd.func11, Tryd.ntmps11
  go_wp2
  go_loopw [5] (fun v wr => ∃ j q : Nat, j ≤ n ∧ v = .int .i64 j ∧ wr = w.drewN q) (fun v _ => n - (intOf v).toNat)
  case atStart => exact ⟨0, 0, by omega, rfl, rfl⟩
  case round =>
    obtain ⟨j, q, hj, rfl, rfl⟩ := hrel
    by_cases hlt : j < n
    · obtain ⟨g1, rfl, hg1, k1⟩ := h1.out (by intro e; have := HN.out; simp [e] at this; omega)
      obtain ⟨g2, rfl, hg2, k2⟩ := h2.out (by intro e; have := HN.out; simp [e] at this; omega)
      obtain ⟨p0, p1, p2, p3⟩ := k1 j (HN.out ▸ hlt)
      obtain ⟨q0, q1, q2, q3⟩ := k2 j (HN.out ▸ hlt)
      obtain ⟨t, ht⟩ : ∃ t, t = ts[j]'(HN.out ▸ hlt) := ⟨_, rfl⟩
      rw [← ht] at p0 p1 p2 p3 q0 q1 q2 q3
      clear ht k1 k2
      obtain ⟨s, hs⟩ : ∃ s, s = bs t.name := ⟨_, rfl⟩
      rw [← hs] at p3 q3
      clear hs
      go_wp2
      go_quiet (fail)
      go_wp2
      go_roundw
      case rel => exact ⟨j + 1, _, by omega, by go_num, by first | rfl | exact World.drewN_drewN _ _ _⟩
      case measure => simp [intOf]; omega
    · go_wp2
      go_ret
      exact ⟨rfl, _, rfl⟩

set_option maxRecDepth 10000 in
set_option maxHeartbeats 4000000 in
theorem lexFresh_any (w : World) (hTab : Tab w) (ao : Option Addr) (m cap : Nat) (hm : m ≤ 9223372036854775807) (A : Nat → Option Addr) (C : Nat → Nat) (L : Nat → List UInt8) (hT : 0 < m → ∃ b o, ao = some ⟨b, o, none⟩ ∧ Txts w b o m A C L) :
    Calls Tryd.prog 3 #[.slice ao m cap] w fun e w' => e = .returned (.bool true) ∧ Below w.heap.size w w' := by
  have HT : Hid (0 < m → ∃ b o, ao = some ⟨b, o, none⟩ ∧ Txts w b o m A C L) := hT
  clear hT
  obtain ⟨i1, hi1, hy0, hy1, hy2⟩ := info_parts info28'
  go_enter Tryd.func3, Tryd.ntmps3
  go_wp2
  go_loop [3, 4] (fun s c => ∃ i n : Nat, i ≤ m ∧ s = .int .i64 n ∧ c = .int .i64 i ∧ n ≤ 65536 + 140737488351232 + 100 ∧ i * 100 ≤ n ∧ Hid (n ≤ 65536 → ∀ j, j < i → (L j).length ≤ n)) (fun _ c => m - (intOf c).toNat)
  case atStart => exact ⟨0, 0, by omega, rfl, rfl, by omega, by omega, fun _ j hj => by omega⟩
  case round =>
    obtain ⟨i, n, hi, rfl, rfl, hn, hin, HJ⟩ := hrel
    by_cases hc : i < m ∧ n ≤ 65536
    · obtain ⟨hlt, hn1⟩ := hc
      obtain ⟨b, o, rfl, hX⟩ := HT.out (by omega)
      have hcell := hX.cell i hlt
      have hr := hX.reach i hlt
      obtain ⟨l, hl⟩ : ∃ l, l = (L i).length := ⟨_, rfl⟩
      rw [← hl] at hcell hr
      have HL : Hid (l = (L i).length) := hl
      clear hl
      go_wp2_with fail
      go_round
      case rel => exact ⟨i + 1, n + l + 100, by omega, by go_num, by go_num, by omega, by omega, fun hb j hj => by
        rcases Nat.lt_succ_iff_lt_or_eq.1 hj with h | rfl
        · have := HJ.out hn1 j h; omega
        · have := HL.out; omega⟩
      case measure => simp [intOf]; omega
    · by_cases hbig : 65536 < n
      · have hf : ¬ (n : Int) ≤ 65536 := by omega
        by_cases him : i < m
        all_goals
          go_wp2_with fail
          go_ret
          exact ⟨rfl, Below.refl _ _⟩
      · have him : m = i := by omega
        subst him
        have HJ2 : Hid (∀ j, j < m → (L j).length ≤ n) := HJ.out (by omega)
        have hm6 : m ≤ 655 := by omega
        clear hc hi HJ
        go_wp2_with fail
        refine (alive_any _ hTab).mono ?_
        rintro e w1 ⟨rfl, hb1⟩
        go_wp2_with fail
        go_loopw [6, 7, 8] (fun v1 v2 c wr => ∃ (i : Nat) (A1 : Nat → Option Addr) (C1 N X A2 C2 : _), i ≤ m ∧ c = .int .i64 i ∧ FS w wr v1 v2 (2 * i) A1 C1 N X (2 * i) A2 C2 N X ∧ Pairs (2 * i) L N X) (fun _ _ c _ => m - (intOf c).toNat)
        case atStart => exact ⟨0, fun _ => none, fun _ => 0, fun _ => 0, fun _ => [], _, _, by omega, rfl, FS.nil _ _ hb1 _ _ _ _, ⟨fun k hk => by omega⟩⟩
        case round =>
          obtain ⟨i, A1, C1, N, X, A2, C2, hi, rfl, HF, HP⟩ := hrel
          by_cases hlt : i < m
          · go_wp2_with fail
            go_loopw [6, 7, 9] (fun v1 v2 c wr => ∃ (j q : Nat) (A1 : Nat → Option Addr) (C1 N X A2 C2 : _), j ≤ 3 ∧ q = 2 * i + min j 2 ∧ c = .int .i64 j ∧ FS w wr v1 v2 q A1 C1 N X q A2 C2 N X ∧ Pairs q L N X) (fun _ _ c _ => 3 - (intOf c).toNat)
            case atStart => exact ⟨0, 2 * i, _, _, _, _, _, _, by omega, by omega, rfl, HF, HP⟩
            case round =>
              obtain ⟨j, q, A1, C1, N, X, A2, C2, hj, hq, rfl, HF, HP⟩ := hrel
              by_cases hj3 : j < 3
              · obtain ⟨b, o, rfl, hX⟩ := HT.out (by omega)
                have hX2 := hX.below HF.bel (Nat.le_refl _)
                have hcell := hX2.cell i hlt
                obtain ⟨l, hl⟩ : ∃ l, l = (L i).length := ⟨_, rfl⟩
                rw [← hl] at hcell
                have HL : Hid (l = (L i).length) := hl
                clear hl
                have hbs := HF.bel.size
                have hln := HJ2.out i hlt
                go_wp2_with fail
                refine (tokens_at _ (hTab.below HF.bel hTab.1) (A i) (C i) l (L i) HL.out (hX2.txt i hlt) (by have := HL.out; omega)).mono ?_
                rintro e w2 ⟨ts, p, ee, v, hLx, rfl, hown, hb⟩
                have htl := hLx.len
                obtain ⟨nt, hnt⟩ : ∃ n, n = ts.length := ⟨_, rfl⟩
                obtain ⟨a, c, e, q1, q2, _⟩ := hown.view
                rw [← hnt] at e q1 htl
                subst e
                have HNT : Hid (nt = ts.length) := hnt
                clear hnt
                have hs2 := hb.size
                have HF2 := HF.keep hb
                have hownB : Own w2 w.heap.size (.slice a nt c) ts := hown.base hbs
                have hApt := HF.apt.snoc HF.f1 (a := a) (fun g hg => (own_block hown.out (by rw [ob]; exact hg)).1)
                by_cases hj2 : j = 2
                · subst hj2
                  clear hcell
                  go_wp2_with fail
                  go_loopw [13] (fun d wr3 => ∃ (k : Nat) (Y : List T), k ≤ nt ∧ d = .int .i64 k ∧ Own wr3 wr.heap.size (.slice a nt c) Y ∧ Y.length = nt ∧ Below wr.heap.size wr wr3) (fun d _ => nt - (intOf d).toNat)
                  case atStart => exact ⟨0, ts, by omega, rfl, hown, HNT.out.symm, hb⟩
                  case round =>
                    obtain ⟨k, Y, hk, rfl, hO, hYl, hb3⟩ := hrel
                    by_cases hkn : k < nt
                    · have ha : ∃ g, a = some ⟨g, 0, none⟩ := by
                        rcases hO.out.2 with ⟨e, e0⟩ | ⟨g, _, _, e, _⟩
                        · omega
                        · simp at e; exact ⟨g, e.1⟩
                      obtain ⟨g, rfl⟩ := ha
                      go_wp2_with (first | (refine wpList_store_in rfl _ _ rfl _ _ Y hO g rfl k (by omega) ⟨-7, 0, 0, []⟩ rfl (by rfl) ?_; intro w4 hO4 hgr4 hs4) | (refine wpList_store_in rfl _ _ rfl _ _ Y hO g rfl k (by omega) ⟨-7, 0, 0, []⟩ rfl (by simp [Act.eval, bs_nil]) ?_; intro w4 hO4 hgr4 hs4) | (refine wpList_store_in rfl _ _ rfl _ _ Y hO g rfl k (by omega) ⟨-7, 0, 0, []⟩ (by simp [Act.eval]) (by simp [Act.eval, bs_nil]) ?_; intro w4 hO4 hgr4 hs4))
                      go_roundw
                      case rel => exact ⟨k + 1, _, by omega, by go_num, hO4, by simp; exact hYl, hb3.grown hgr4 hb3.size (fun k hk => (own_block hO.out hk).1)⟩
                      case measure => simp [intOf]; omega
                    · go_wp2_with fail
                      go_roundw
                      case rel => exact ⟨3, q, _, _, _, _, _, _, by omega, by omega, by go_num, HF.keep hb3, HP⟩
                      case measure => simp [intOf]
                · have hjj : ¬ (j : Int) = 2 := by omega
                  have hLq : Lexes 0 (L (q / 2)) ts p ee := by rw [show q / 2 = i by omega]; exact hLx
                  have HLQ : Hid _ := hLq
                  clear hcell hLq
                  go_wp2_with (first
                    | (at_builtin; refine wpList_append_where rfl _ _ 25 rfl w.heap.size 26 i1 _ 1 24 Tryd.underlying25 hi1 hy0 hy1 hy2 rfl (by decide) u6 q _ rfl (HF2.l1.out.alloc _) ⟨w2.heap.size, 0, none⟩ 1 1 (by omega) [.slice a nt c] rfl rfl (cell_one_new _ _ _) (fun x hx => by simp at hx; subst hx; rfl) (by unfold maxLen; omega) (by omega) (by simp; omega) ?_; intro v3 w3 hown3 hgr3 hG3
                       have HF3 := (HF2.keep ((Below.refl _ _).alloc (Nat.le_refl _) _)).push1 HNT.out (hownB.keep ((Below.refl _ _).alloc (Nat.le_refl _) _)) hApt hgr3 hG3 hown3
                       have hO3 : Own w3 w.heap.size (.slice a nt c) ts := ⟨own_grown (hownB.keep ((Below.refl _ _).alloc (Nat.le_refl _) _)).out hgr3 (own_apart hownB.out HF2.l1.out (by decide))⟩
                       have hs3 := HF3.bel.size
                       clear hown3 hgr3 hG3)
                    | (at_builtin; refine wpList_copy_toks rfl _ _ rfl rfl w.heap.size _ ts rfl hO3 (by have := HNT.out; omega) ?_; intro v4 w4 hO4 hb4
                       have HF4 := HF3.keep hb4
                       have hs4 := hb4.size
                       obtain ⟨a4, c4, e4, _, _, _⟩ := hO4.view
                       rw [← HNT.out] at e4
                       subst e4)
                    | (at_builtin; refine wpList_append_where rfl _ _ 25 rfl w.heap.size 26 i1 _ 1 24 Tryd.underlying25 hi1 hy0 hy1 hy2 rfl (by decide) u7 q _ rfl (HF4.l2.out.alloc _) ⟨w4.heap.size, 0, none⟩ 1 1 (by omega) [.slice a4 nt c4] rfl rfl (cell_one_new _ _ _) (fun x hx => by simp at hx; subst hx; rfl) (by unfold maxLen; omega) (by omega) (by simp; omega) ?_; intro v5 w5 hown5 hgr5 hG5
                       have HF5 := (HF4.keep ((Below.refl _ _).alloc (Nat.le_refl _) _)).push2 HNT.out ((hO4.base hs3).keep ((Below.refl _ _).alloc (Nat.le_refl _) _)) hgr5 hG5 hown5
                       clear hown5 hgr5 hG5)
                    | fail)
                  go_roundw
                  case rel => exact ⟨j + 1, q + 1, _, _, _, _, _, _, by omega, by omega, by go_num, HF5, HP.snoc HLQ.out⟩
                  case measure => simp [intOf]; omega
              · have hj4 : j = 3 := by omega
                subst hj4
                have hq2 : q = 2 * (i + 1) := by omega
                subst hq2
                go_wp2_with fail
                go_roundw
                case rel => exact ⟨i + 1, _, _, _, _, _, _, by omega, by go_num, HF, HP⟩
                case measure => simp [intOf]; omega
          · have him : m = i := by omega
            subst him
            go_wp2_with fail
            go_loopw [14] (fun c wr => ∃ k : Nat, k ≤ 2 * m ∧ c = .int .i64 k ∧ FS w wr u6 u7 (2 * m) A1 C1 N X (2 * m) A2 C2 N X) (fun c _ => 2 * m - (intOf c).toNat)
            case atStart => exact ⟨0, by omega, rfl, HF⟩
            case round =>
              obtain ⟨k, hk, rfl, HF⟩ := hrel
              obtain ⟨l1, d1, rfl, hd1, hd1', HV1⟩ := HF.l1.view
              obtain ⟨l2, d2, rfl, hd2, hd2', HV2⟩ := HF.l2.view
              by_cases hlt : k < 2 * m
              · obtain ⟨b1, rfl, _, hb1', hc1⟩ := HV1 (by omega)
                obtain ⟨b2, rfl, _, hb2', hc2⟩ := HV2 (by omega)
                have p1 := hc1 k hlt
                have p2 := hc2 k hlt
                have HX := HF.f1.len k hlt
                obtain ⟨_, _, e1, _, r1, hv1⟩ := (HF.f1.own k hlt).view
                obtain ⟨_, _, e2, _, _, hv2⟩ := (HF.f2.own k hlt).view
                simp at e1 e2
                rw [← e1.1] at hv1
                rw [← e2.1] at hv2
                obtain ⟨n1, hn1⟩ : ∃ n, n = N k := ⟨_, rfl⟩
                rw [← hn1] at p1 p2 HX
                have hnb : n1 ≤ 9223372036854775807 := by omega
                have HC : Hid (n1 = N k ∧ n1 = (X k).length) := ⟨hn1, HX.symm⟩
                clear e1 e2 hn1 HX
                have hmod : k % 2 = 0 ∨ k % 2 = 1 := by omega
                rcases hmod with h2 | h2
                · have h2i : (k : Int) % 2 = 0 := by omega
                  have h2t : Int.tmod (k : Int) 2 = 0 := by rw [Int.tmod_eq_emod_of_nonneg (by omega)]; exact h2i
                  clear hc1 hc2
                  go_wp2_with fail
                  go_quiet (first | (go_at_call 11; exact Calls.quiet_of (same_quiet _ (A1 k) (A2 k) (C1 k) (C2 k) n1 (X k) HC.out.2 hnb (hv1.drewN _) (hv2.drewN _))))
                  go_wp2_with fail
                  go_roundw
                  case rel => exact ⟨k + 1, by omega, by go_num, HF.keep (below_drewN (Below.refl _ _) _)⟩
                  case measure => simp [intOf]; omega
                · have h2i : (k : Int) % 2 = 1 := by omega
                  have h2t : Int.tmod (k : Int) 2 = 1 := by rw [Int.tmod_eq_emod_of_nonneg (by omega)]; exact h2i
                  have p0 := hc1 (k - 1) (by omega)
                  have hk1 : k - 1 < 2 * m := by omega
                  obtain ⟨_, _, e0, _, _, hv0⟩ := (HF.f1.own (k - 1) hk1).view
                  simp at e0
                  rw [← e0.1] at hv0
                  have hXX : X (k - 1) = X k := by
                    obtain ⟨_, _, q1⟩ := HP.out k hlt
                    obtain ⟨_, _, q2⟩ := HP.out (k - 1) hk1
                    rw [show (k - 1) / 2 = k / 2 by omega] at q2
                    exact (q2.one q1).1
                  rw [hXX] at hv0
                  have hN0 : N (k - 1) = n1 := by rw [HC.out.2, ← hXX]; exact (HF.f1.len (k - 1) hk1).symm
                  rw [hN0] at p0
                  obtain ⟨kk, hkk⟩ : ∃ t, t + 1 = k := ⟨k - 1, by omega⟩
                  rw [show k - 1 = kk by omega] at p0 hv0
                  have hsub : (k : Int) - 1 = (kk : Int) := by omega
                  have hkk2 : kk < 2 * m := by omega
                  clear hc1 hc2 e0 hXX hN0
                  go_wp2_with fail
                  go_quiet (first | (go_at_call_of 11 (A2 k); exact Calls.quiet_of (same_quiet _ (A1 k) (A2 k) (C1 k) (C2 k) n1 (X k) HC.out.2 hnb (hv1.drewN _) (hv2.drewN _))) | (go_at_call_of 11 (A1 kk); exact Calls.quiet_of (same_quiet _ (A1 k) (A1 kk) (C1 k) (C1 kk) n1 (X k) HC.out.2 hnb (hv1.drewN _) (hv0.drewN _))))
                  go_wp2_with fail
                  go_roundw
                  case rel => exact ⟨k + 1, by omega, by go_num, HF.keep (below_drewN (Below.refl _ _) _)⟩
                  case measure => simp [intOf]; omega
              · have HLN : ∀ k, k < 2 * m → N k ≤ 100000 := fun k hk => by
                  obtain ⟨_, _, q1⟩ := HP.out k hk
                  have := q1.len
                  have := HF.f1.len k hk
                  have := HJ2.out (k / 2) (by omega)
                  omega
                have hbs := HF.bel.size
                have HLN' : Hid _ := HLN
                clear HV1 HV2 HLN
                go_wp2_with fail
                refine (apart_any _ w.heap.size hbs _ (2 * m) A1 C1 N X HF.l1 HF.f1 HF.apt (by omega) HLN'.out).mono ?_
                rintro e w9 ⟨rfl, hb9⟩
                go_wp2_with fail
                go_ret
                exact ⟨rfl, HF.bel.trans hb9⟩
end Go.Proofs.YteiambniddddpaaDoor
