import Derived.Test.YthjjdfiaikibaabDmG
import Derived.BigRegion
import Derived.Deep.RegionHeld
set_option linter.unusedVariables false
set_option linter.unusedSimpArgs false
namespace Go.Proofs.Ythjjdfiaikibaab
open Go.ChangeShapes Go.WideShapes Go.ChangeAt Go.RowKit Go.Maps

theorem WKS.fresh (w : World) : WKS ((w.alloc (.map #[] 0)).alloc (.cells #[.slice none 0 0, .map (some w.heap.size), .slice none 0 0] 48)) w.heap.size (w.heap.size + 1) w.heap.size (.slice none 0 0) (.slice none 0 0) [] [] := by
  refine ⟨?_, OwnI.nil _ _, OwnI.nil _ _, fun g hg => by simp [Value.ownBlock] at hg, ⟨_, (World.ownsMap_made w _ _ _).alloc _, fun a _ => ?_⟩, by omega, by omega⟩
  · simpa using heap_alloc_new (w.alloc (.map #[] 0)) _
  · exact ⟨rfl, rfl⟩
theorem drewN_at (w : World) (k g : Nat) (hg : g < w.heap.size) : (w.drewN k).heap[g]? = w.heap[g]? := (below_drewN (Below.refl w.heap.size w) k).block g hg
theorem WKS.drewN {w B wb mb v1 v2 bl mt} (H : WKS w B wb mb v1 v2 bl mt) (k : Nat) : WKS (w.drewN k) B wb mb v1 v2 bl mt := H.move fun g hg => drewN_at w k g (H.lt g hg).2
theorem OwnS.drewN {w B v op} (H : OwnS w B v op) (k : Nat) : OwnS (w.drewN k) B v op := H.move fun g hg => drewN_at w k g (own_block H.out hg).2
/-- In the walk's inner loop: j of what is left of the last block's row were looked at, all of them met. -/
structure IL (w wr : World) (B g c4 : Nat) (st : List (Int × Nat)) (bn t j : Nat) (row bl mt : List Int) (v1 v2 : Value) : Prop where
  st : OwnS wr B (.slice (some ⟨g, 0, none⟩) (st.length + 1) c4) (st ++ [((bn : Int), t + j)])
  wk : WKS wr B (B + 1) B v1 v2 bl mt
  met : ∀ i, i < j → row.getD (t + i) 0 ∈ bl
  bel : Below B w wr
/-- At the head of the walk's loop. -/
structure WH (w wr : World) (B : Nat) (Ls : List (List Int)) (ov : Value) (q : Nat) (s : DS) (v1 v2 : Value) : Prop where
  st : OwnS wr B ov s.op
  wk : WKS wr B (B + 1) B v1 v2 s.bl s.mt
  wi : WI Ls s
  run : wrun Ls q s = walkP Ls
  msr : q = msr Ls.length s
  bel : Below B w wr

set_option maxHeartbeats 4000000 in
theorem walkOf_any (w : World) (ao : Option Addr) (n c : Nat) (Ls : List (List Int)) (hn : n = Ls.length) (h : IRow w ao c Ls) (hg : goodP Ls = true) (hsz : n ≤ 100000000) :
    Calls Try.prog 19 #[.slice ao n c] w fun e w' => e = .returned (.pointer (some ⟨w.heap.size + 1, 0, none⟩)) ∧ (∃ v1 v2, WKS w' w.heap.size (w.heap.size + 1) w.heap.size v1 v2 (walkP Ls).bl (walkP Ls).mt) ∧ Below w.heap.size w w' := by
  have hmm := @run_makeMap Try.prog
  have HN : Hid (n = Ls.length) := hn
  have HI : Hid (IRow w ao c Ls) := h
  have HG : Hid (goodP Ls = true) := hg
  have hpos : 0 < n := by have := goodP_pos hg; omega
  clear hn h hg
  go_enter Try.func19, Try.ntmps19
  go_wp2_with fail
  go_step3
  go_wp2_with fail
  obtain ⟨w0, hw0⟩ : ∃ w0, w0 = (w.alloc (.map #[] 0)).alloc (.cells #[.slice none 0 0, .map (some w.heap.size), .slice none 0 0] 48) := ⟨_, rfl⟩
  have HW0 := WKS.fresh w
  rw [← hw0] at HW0 ⊢
  have hb0 : Below w.heap.size w w0 := by rw [hw0]; exact ((Below.refl _ _).alloc (Nat.le_refl _) _).alloc (by simp) _
  have hs0 : w0.heap.size = w.heap.size + 1 + 1 := by rw [hw0]; simp
  clear hw0
  refine (meet_any w0 HW0 (by omega) 0 (-1) (by unfold Fits; omega) (by unfold Fits; omega) (by simp) (by simp) (by simp)).mono ?_
  rintro e w1 ⟨rfl, v1, v2, HW1, ho1⟩
  have hs1 := ho1.size
  have hb1 : Below w.heap.size w w1 := hb0.trans (ho1.below (by omega) fun k hk => by
    rcases hk with rfl | rfl | hk | hk
    · omega
    · omega
    · simp [Value.ownBlock] at hk
    · simp [Value.ownBlock] at hk)
  clear hb0 ho1 HW0
  go_wp2_with fail
  go_step3
  go_wp2_with fail
  obtain ⟨B, hB⟩ : ∃ B, B = w.heap.size := ⟨_, rfl⟩
  rw [← hB] at HW1 hb1 hs0 ⊢
  have HB : Hid (B = w.heap.size) := hB
  clear hB
  have hstart : WH w (w1.alloc (.cells #[.int .i64 0, .int .i64 0] 55)) B Ls (.slice (some ⟨w1.heap.size, 0, none⟩) 1 1) (msr Ls.length ds0) ds0 v1 v2 := by
    refine ⟨⟨?_⟩, HW1.move fun g hg => heap_alloc_old _ _ (HW1.lt g hg).2, WI.zero HG.out, rfl, rfl, hb1.alloc (by omega) _⟩
    refine ⟨rfl, .inr ⟨w1.heap.size, 1, #[.int .i64 0, .int .i64 0], rfl, by omega, heap_alloc_new _ _, by simp [ds0], by unfold maxLen; omega, rfl, rfl⟩⟩
  have HST : Hid _ := hstart
  clear hstart HW1 hb1
  go_loopg [4] (msr Ls.length ds0) (fun q ov wr => ∃ (s : DS) (v1 v2 : Value) (a4 : Option Addr) (c4 : Nat), ov = .slice a4 s.op.length c4 ∧ Hid (WH w wr B Ls ov q s v1 v2))
  case atStart => exact ⟨ds0, v1, v2, _, _, rfl, HST.out⟩
  case round =>
    clear HST
    obtain ⟨s, v1, v2, a4, c4, rfl, HH⟩ := hrel
    rcases List.eq_nil_or_concat s.op with he | ⟨st, ⟨b, t⟩, he⟩
    · rw [he]
      have hfin : s = walkP Ls := by
        have := HH.out.run
        cases gk with
        | zero => exact this
        | succ k => rw [wrun, if_pos he] at this; exact this
      subst hfin
      obtain rfl := HB.out
      go_wp2_with fail
      try rw [Exit.noGoto_ret]
      go_ret
      exact ⟨rfl, ⟨v1, v2, HH.out.wk⟩, HH.out.bel⟩
    · obtain ⟨bl, mt, op⟩ := s
      simp only at he
      subst he
      rw [List.concat_eq_append] at HH ⊢
      obtain ⟨g, c4', e4, hc4, hc4', hg, k0, k1, kf⟩ := HH.out.st.top
      have hlen : (st ++ [(b, t)]).length = st.length + 1 := by simp
      rw [hlen] at e4 ⊢
      cases e4
      obtain ⟨m, hm⟩ : ∃ m, m = st.length := ⟨_, rfl⟩
      have hbm := HH.out.wi.ops (b, t) (by simp)
      have hbr := HH.out.wi.rng b hbm.1
      obtain ⟨bn, rfl⟩ : ∃ bn : Nat, b = (bn : Int) := ⟨b.toNat, by have := hbr.1; omega⟩
      have hbn : bn < Ls.length := by have := hbr.2; omega
      have hbn2 : bn < n := by have := HN.out; omega
      obtain ⟨ob, oo, ar, cr, rfl, krw, hIr⟩ := HI.out.at hbn
      have kr := (HH.out.bel.cell (p := ⟨ob, oo + bn, none⟩) (by have := block_lt_of_cell krw; have := HB.out; omega)).trans krw
      obtain ⟨G, hG⟩ : ∃ G, gk = G + 1 := ⟨gk - 1, by have := HH.out.msr; simp only [msr, List.length_append, List.length_cons, List.length_nil] at this; omega⟩
      subst hG
      obtain ⟨row, hrow⟩ : ∃ row, row = Ls[bn] := ⟨_, rfl⟩
      rw [← hrow] at kr hIr
      clear krw
      have hro : rowOf Ls (bn : Int) = row := by rw [hrow]; simp [rowOf, hbn]
      have htl : t ≤ row.length := by have := hbm.2; rw [hro] at this; exact this
      obtain ⟨rl, hrl⟩ : ∃ rl, rl = row.length := ⟨_, rfl⟩
      have hcr : rl ≤ cr := by have := hIr.le; omega
      have hcr2 : cr ≤ 9223372036854775807 := hIr.mx
      have hfe := HH.out.wi.few
      have hle := HH.out.wi.le
      simp only [List.length_append, List.length_cons, List.length_nil] at hfe hle
      rw [← hrl] at kr htl
      rw [← hm] at k0 k1 kf hc4 hfe ⊢
      have HM : Hid (m = st.length) := hm
      have HRL : Hid (rl = row.length) := hrl
      have HRO : Hid (rowOf Ls (bn : Int) = row) := hro
      have HIR : Hid (Ints w ar cr row) := hIr
      have hm9 : m ≤ 100000000 := by have := HN.out; omega
      clear hm hrl hro hIr hrow hbm hbr hlen hfe hle
      go_wp2_with fail
      have HPOP : Hid (∀ (wr' : World), OwnS wr' B (.slice (some ⟨g, 0, none⟩) (m + 1) c4) (st ++ [((bn : Int), rl)]) → WKS wr' B (B + 1) B v1 v2 bl mt → (∀ i, t + i < rl → row.getD (t + i) 0 ∈ bl) → Below B w wr' → WH w wr' B Ls (.slice (some ⟨g, 0, none⟩) m c4) G ⟨bl, mt, st⟩ v1 v2) := by
        intro wr' o1 o2 o3 o4
        obtain ⟨p1, p2, p3⟩ := HH.out.wi.pop (fun j hj => by rw [HRO.out]; exact o3 j (by rw [HRO.out, ← HRL.out] at hj; exact hj))
        have hq := HH.out.msr
        rw [p3] at hq
        refine ⟨by have := HM.out; subst this; exact o1.cut, o2, p1, ?_, by omega, o4⟩
        have hr := HH.out.run
        rw [wrun, if_neg (by simp), p2] at hr
        exact hr
      by_cases hend : t = rl
      · have hz : rl - t = 0 := by omega
        have HX : Hid (∀ k, WH w (wr.drewN k) B Ls (.slice (some ⟨g, 0, none⟩) m c4) G ⟨bl, mt, st⟩ v1 v2) := fun k => HPOP.out (wr.drewN k) (by have h1 := HH.out.st.drewN k; have h2 := HM.out; subst h2; rw [← hend]; simpa using h1) (HH.out.wk.drewN k) (fun i hi => absurd hi (by omega)) (below_drewN HH.out.bel k)
        clear HPOP HIR
        rcases ar with _ | ⟨rb, ro, rx⟩
        all_goals
          go_quiet (fail)
          go_wp2_with fail
          all_goals
            go_loopg [4, 38] 0 (fun q ov iv wr' => q = 0 ∧ ov = .slice (some ⟨g, 0, none⟩) (m + 1) c4 ∧ iv = .int .i64 0 ∧ wr' = wr.drewN nq)
            case atStart => exact ⟨rfl, rfl, rfl, rfl⟩
            case round =>
              obtain ⟨rfl, rfl, rfl, rfl⟩ := hrel
              go_wp2_with fail
              go_roundg G
              case rel => exact ⟨⟨bl, mt, st⟩, v1, v2, _, _, by rw [HM.out], HX.out nq⟩
              case measure => omega
      · obtain ⟨rt, rfl⟩ : ∃ rt, rl = t + rt := ⟨rl - t, by omega⟩
        have hrt : 0 < rt := by omega
        obtain ⟨rb, ro, e, _⟩ := HIR.out.at (j := t) (by have := HRL.out; omega)
        subst e
        have htc : t < cr := by omega
        go_quiet (fail)
        have h0 : IL w (wr.drewN nq) B g c4 st bn t 0 row bl mt v1 v2 := ⟨by have h1 := HH.out.st.drewN nq; simpa using h1, HH.out.wk.drewN nq, fun i hi => absurd hi (by omega), below_drewN HH.out.bel nq⟩
        have H0 : Hid _ := h0
        clear h0 k0 k1 kf
        go_wp2_with fail
        go_loopg [4, 38] rt (fun q ov iv wr' => ∃ j : Nat, j ≤ rt ∧ q = rt - j ∧ ov = .slice (some ⟨g, 0, none⟩) (m + 1) c4 ∧ iv = .int .i64 (j : Int) ∧ Hid (IL w wr' B g c4 st bn t j row bl mt v1 v2))
        case atStart => exact ⟨0, by omega, by omega, rfl, rfl, H0.out⟩
        case round =>
          obtain ⟨j, hj, rfl, rfl, rfl, HL⟩ := hrel
          by_cases hlt : j < rt
          · have htj : t + j < row.length := by have := HRL.out; omega
            obtain ⟨x, hx⟩ : ∃ x, x = row[t + j] := ⟨_, rfl⟩
            have hxg : row.getD (t + j) 0 = x := by rw [hx]; simp [htj]
            have kx : wr.cell? ⟨rb, ro + t + j, none⟩ = some (.int .i64 x) := by
              obtain ⟨b', o', e', kc⟩ := HIR.out.at htj
              cases e'
              rw [hx, Nat.add_assoc]
              exact (HL.out.bel.cell (p := ⟨rb, ro + (t + j), none⟩) (by have := block_lt_of_cell kc; have := HB.out; omega)).trans kc
            obtain ⟨g', c', e4, _, _, hg', k0, k1, kf⟩ := HL.out.st.top
            cases e4
            rw [← HM.out] at k0 k1 kf
            have HXG : Hid (row.getD (t + j) 0 = x) := hxg
            have hnw := HL.out.st.none HL.out.wk g rfl
            have hgw : ¬ g = B + 1 := fun e => hnw (.inl e)
            have hgm : ¬ g = B := fun e => hnw (.inr (.inl e))
            have kb : wr.cell? ⟨B + 1, 1, none⟩ = some (.map (some B)) := cell_arr (i := 1) HL.out.wk.box rfl
            have hxr : 0 ≤ x ∧ x < Ls.length := by
              have h1 := goodP_yes HG.out hbn (j := t + j) (by have h2 := HRO.out; simp [rowOf, hbn] at h2; rw [h2]; exact htj)
              have h2 := HRO.out
              simp [rowOf, hbn] at h2
              simp only [h2] at h1
              rw [hx]; exact h1
            have fx : Fits x := by unfold Fits; have := HN.out; omega
            obtain ⟨w4, hw4⟩ : ∃ w4, w4 = wr.setCell ⟨g, m * 2 + 1, none⟩ (.int .i64 ((t : Int) + j + 1)) := ⟨_, rfl⟩
            have hb4 : ∀ k, k ≠ g → w4.heap[k]? = wr.heap[k]? := fun k hk => by rw [hw4]; exact heap_set_other hk
            have hs4 : w4.heap.size = wr.heap.size := by rw [hw4]; simp [World.setCell]
            have WK4 : WKS w4 B (B + 1) B v1 v2 bl mt := HL.out.wk.move fun k hk => hb4 k fun e => hnw (e ▸ hk)
            have ST4 : OwnS w4 B (.slice (some ⟨g, 0, none⟩) (st.length + 1) c4) (st ++ [((bn : Int), t + j + 1)]) := by
              rw [hw4]
              have h1 := HL.out.st.set (t + j + 1)
              rw [← HM.out] at h1 ⊢
              simpa using h1
            have BL4 : Below B w w4 := by
              rw [hw4]
              exact HL.out.bel.setCell (by have := (own_block HL.out.st.out (g := g) rfl).1; exact this) _
            obtain ⟨D, d1, d2⟩ := WK4.map
            obtain ⟨e1, e2⟩ := d2 x fx
            have hkey := keyOf_int_mk Try.underlying3 fx.wf
            rw [hw4] at d1
            have HD2 : Hid _ := d2
            have HW4 : Hid _ := WK4
            have HS4 : Hid _ := ST4
            have HB4 : Hid _ := BL4
            have HE : Hid (w4 = wr.setCell ⟨g, m * 2 + 1, none⟩ (.int .i64 ((t : Int) + j + 1))) := hw4
            have HAT : Hid (D.atKey (.int .i64 x) (.lit (.int .i64 0)) = .lit (.int .i64 (plc bl x))) := e2
            have HHS : Hid (Maps.has D (.int .i64 x) = decide (x ∈ bl)) := e1
            clear hx hxg WK4 ST4 BL4 d2 e1 e2 hw4
            by_cases hxb : x ∈ bl
            · go_wp2_with (first
                | (at_lookup; refine wpList_lookup_own_ok_int _ rfl _ _ 46 rfl 3 3 .i64 law3 Try.underlying46 Try.underlying3 (zero3 _) B bl.length D rfl d1 _ _ rfl hkey ?_; intro y hat hwc; rw [HHS.out, decide_eq_true hxb]; clear hat hwc)
                | go_in)
              go_roundg (rt - (j + 1))
              case rel =>
                refine ⟨j + 1, by omega, rfl, rfl, by go_num, ?_⟩
                rw [← HE.out]
                exact ⟨HS4.out, HW4.out, fun i hi => by
                  by_cases e : i = j
                  · subst e; rw [HXG.out]; exact hxb
                  · exact HL.out.met i (by omega), HB4.out⟩
              case measure => omega
            · have kb4 : w4.cell? ⟨B + 1, 1, none⟩ = some (.map (some B)) := cell_arr (i := 1) HW4.out.box rfl
              obtain ⟨g', c', e4, _, _, hg4, k04, k14, kf4⟩ := HS4.out.top
              cases e4
              rw [← HM.out] at k04 k14 kf4
              have fb : Fits (bn : Int) := by unfold Fits; omega
              have fp : Fits (plc bl (bn : Int)) := by
                unfold Fits plc
                have := List.idxOf_le_length (l := bl) (a := (bn : Int))
                have h2 := HH.out.wi.le
                simp only at h2
                have := HN.out
                split <;> omega
              have hlook : (Instr.lookup 46 (.map (some B)) (.int .i64 (bn : Int)) false).run Try.prog w4.drew = .ok (.int .i64 (plc bl (bn : Int))) w4.drew := by
                have d4 : w4.ownsMap Try.prog 3 (plainElem (H := Unit) Try.prog 3) B bl.length D := by rw [HE.out]; exact d1
                obtain ⟨y, hr, hat, _⟩ := (d4.drew).lookup_int law3 Try.underlying46 Try.underlying3 (zero3 _) (keyOf_int_mk Try.underlying3 fb.wf)
                obtain rfl : y = plc bl (bn : Int) := by (have e := hat.symm.trans (HD2.out (bn : Int) fb).2; cases e; rfl)
                exact hr
              go_wp2_with (first
                | (at_lookup; refine wpList_lookup_own_ok_int _ rfl _ _ 46 rfl 3 3 .i64 law3 Try.underlying46 Try.underlying3 (zero3 _) B bl.length D rfl d1 _ _ rfl hkey ?_; intro y hat hwc; rw [HHS.out, decide_eq_false hxb]; clear hat hwc)
                | go_in)
              rw [← HE.out]
              clear d1 kb k0 k1 kf kx hkey
              have hB4 : B ≤ w4.heap.size := by have := HB4.out.size; have := HB.out; omega
              have hl1 : bl.length ≤ 1000000000 := by have h2 := HH.out.wi.le; simp only at h2; have := HN.out; omega
              have hl2 : mt.length ≤ 1000000000 := by have h2 := HH.out.wi.len; simp only at h2; omega
              have HPUSH : Hid (∀ (w5 : World) (v1' v2' : Value), WKS w5 B (B + 1) B v1' v2' (bl ++ [x]) (mt ++ [plc bl (bn : Int)]) → Only (WF (B + 1) B v1 v2) w4.drew w5 → OwnS w5 B (.slice (some ⟨g, 0, none⟩) (m + 1) c4) (st ++ [((bn : Int), t + j + 1)]) ∧ w4.heap.size ≤ w5.heap.size ∧ ∀ (w6 : World) (v6 : Value), OwnS w6 B v6 (st ++ [((bn : Int), t + j + 1)] ++ [(x, 0)]) → GI B w5 w6 (.slice (some ⟨g, 0, none⟩) (m + 1) c4) v6 → WH w w6 B Ls v6 G ⟨bl ++ [x], mt ++ [plc bl (bn : Int)], st ++ [((bn : Int), t + j + 1), (x, 0)]⟩ v1' v2') := by
                intro w5 v1' v2' a1 a2
                have hgn : ¬ WF (B + 1) B v1 v2 g := HS4.out.none HW4.out g rfl
                have b5 : w5.heap[g]? = w4.heap[g]? := a2.block g hg4 hgn
                have S5 : OwnS w5 B (.slice (some ⟨g, 0, none⟩) (m + 1) c4) (st ++ [((bn : Int), t + j + 1)]) := by
                  have := HS4.out.move (w' := w5) (fun q hq => by cases hq; exact b5)
                  rw [← HM.out] at this; exact this
                refine ⟨S5, a2.size, fun w6 v6 a3 a4 => ?_⟩
                obtain ⟨p1, p2, p3, _⟩ := HH.out.wi.push HG.out (k := j) (by rw [HRO.out]; exact htj) (by rw [HRO.out, HXG.out]; exact hxb) (fun i hi => by rw [HRO.out]; exact HL.out.met i hi)
                rw [HRO.out, HXG.out] at p1 p2 p3
                have hr := HH.out.run
                rw [wrun, if_neg (by simp), p2] at hr
                have hq := HH.out.msr
                rw [p3] at hq
                refine ⟨by simpa using a3, a1.move fun k hk => a4.blk k (a1.lt k hk).2 (fun e => S5.none a1 k e hk), p1, hr, by omega, ?_⟩
                have b1 : Below B w4 w5 := ((Below.refl B w4).drew).trans (Only.below (w := w4.drew) a2 hB4 (fun k hk => (HW4.out.lt k hk).1))
                exact HB4.out.trans (b1.trans a4.bel)
              have S9 : st.length + 1 + 1 ≤ 1759218604441 := by have := HM.out; omega
              have HMT := HM.out
              subst HMT
              go_region_with (go_at_call 28; refine (meet_any w4.drew (HW4.out.drewN 1) hB4 x (plc bl (bn : Int)) fx fp hxb hl1 hl2).mono ?_; rintro e w5 ⟨rfl, v1', v2', HW5, ho5⟩)
              all_goals
                obtain ⟨S5, s5, PU⟩ := HPUSH.out w5 v1' v2' HW5 ho5
                have HPU : Hid _ := PU
                have HS5 : Hid _ := S5
                have hB5 : B ≤ w5.heap.size := by omega
                clear PU S5 HPUSH HW5 ho5
                go_wp2_with (first
                  | (at_builtin; refine wpList_append_brG (w0 := w5) rfl _ _ rfl B (.slice (some ⟨g, 0, none⟩) (st.length + 1) c4) (st ++ [((bn : Int), t + j + 1)]) x rfl HS5.out rfl (by simpa using S9) hB5 ?_; intro v6 w6 h6 hG6
                     have h7 := HPU.out w6 v6 h6 hG6
                     have H7 : Hid _ := h7
                     obtain ⟨a6, c6, e6, _, _⟩ := own_slice h6.out
                     subst e6
                     clear h6 hG6 h7)
                  | go_in)
                go_roundg G
                case rel =>
                  refine ⟨⟨bl ++ [x], mt ++ [plc bl (bn : Int)], st ++ [((bn : Int), t + j + 1), (x, 0)]⟩, v1', v2', a6, c6, by simp, ?_⟩
                  have h8 := H7.out
                  have e8 : (st ++ [((bn : Int), t + j + 1)] ++ [((x, 0) : Int × Nat)]).length = st.length + 2 := by simp
                  rw [e8] at h8
                  exact h8
                case measure => omega
          · have hjr : j = rt := by omega
            subst hjr
            have HX := HPOP.out _ (by have h1 := HL.out.st; rw [← HM.out] at h1; exact h1) HL.out.wk (fun i hi => HL.out.met i (by omega)) HL.out.bel
            have HX2 : Hid _ := HX
            clear HX HPOP
            go_wp2_with fail
            go_roundg G
            case rel => exact ⟨⟨bl, mt, st⟩, v1, v2, _, _, by rw [HM.out], HX2.out⟩
            case measure => omega
end Go.Proofs.Ythjjdfiaikibaab
