import Derived.Test.YtplpgeocidllfaaOrI
set_option linter.unusedVariables false
set_option linter.unusedSimpArgs false
namespace Go.Proofs.Ytplpgeocidllfaa
open Go.ChangeShapes Go.WideShapes Go.ChangeAt Go.RowKit Go.Maps

/-- At the head of the loop of the document's Line. -/
structure RHd (w wr : World) (B n : Nat) (Ls : List (List Int)) (q : Nat) (s : OS) (ov : Value) (sf nf ff : Nat → Int) : Prop where
  sr : IR wr B n sf
  nr : IR wr (B + 1) n nf
  fr : IR wr (B + 1 + 1) n ff
  ou : OwnI wr (B + 1 + 1 + 1) ov s.out.length s.out.reverse
  nz : s.out = [] → ov = .slice none 0 0
  ri : RI Ls s sf nf ff
  oi : OI Ls s
  run : orun Ls q s = orP Ls
  msr : q = msr Ls s
  bel : Below B w wr
theorem OwnI.mono {w : World} {B B' : Nat} {v : Value} {n : Nat} {L : List Int} (h : OwnI w B v n L) (hB : B' ≤ B) : OwnI w B' v n L := by
  refine ⟨h.len, h.out.1, ?_⟩
  rcases h.out.2 with h1 | ⟨g, cap, cur, e1, e2, e3⟩
  · exact .inl h1
  · exact .inr ⟨g, cap, cur, e1, by omega, e3⟩
theorem own_one (w : World) (B : Nat) (hB : B ≤ w.heap.size) (x : Int) : OwnI (w.alloc (.cells #[.int .i64 x] 3)) B (.slice (some ⟨w.heap.size, 0, none⟩) 1 1) 1 [x] :=
  ⟨rfl, rfl, .inr ⟨w.heap.size, 1, #[.int .i64 x], rfl, hB, heap_alloc_new _ _, Nat.le_refl _, by unfold maxLen; omega, rfl, rfl⟩⟩
theorem RHd.keep {w wr w' : World} {B n Ls q s ov sf nf ff} (H : RHd w wr B n Ls q s ov sf nf ff) (hB : B ≤ wr.heap.size) (hb : Below wr.heap.size wr w') : RHd w w' B n Ls q s ov sf nf ff :=
  ⟨H.sr.move (hb.block _ H.sr.lt), H.nr.move (hb.block _ H.nr.lt), H.fr.move (hb.block _ H.fr.lt), H.ou.keep hb, H.nz, H.ri, H.oi, H.run, H.msr, H.bel.trans (hb.mono hB)⟩
theorem RHd.pop {w wr w' : World} {B n Ls G vis st out ov sf nf ff v'} {b : Nat} (H : RHd w wr B n Ls (G + 1) ⟨vis, st ++ [((b : Int), 0)], out⟩ ov sf nf ff) (hg : goodP Ls = true)
    (h1 : OwnI w' (B + 1 + 1 + 1) v' (1 + out.length) ([(b : Int)] ++ out.reverse)) (h2 : GI (B + 1 + 1 + 1) ((wr.setCell ⟨B, b, none⟩ (.int .i64 2)).alloc (.cells #[.int .i64 (b : Int)] 3)) w' (.slice (some ⟨wr.heap.size, 0, none⟩) 1 1) v') :
    RHd w w' B n Ls G ⟨vis, st, out ++ [(b : Int)]⟩ v' (updN sf b 2) nf ff ∧ ff b = topW st := by
  obtain ⟨q1, q2⟩ := H.ri.pop (H.oi.way_vis (p := ((b : Int), 0)) (by simp))
  obtain ⟨p1, p2⟩ := H.oi.step hg (by simp)
  rw [stp_pop] at p1 p2
  have hr := H.run
  rw [orun_more _ _ _ (by simp), stp_pop] at hr
  have hq := H.msr
  have l1 := H.sr.lt
  have l2 := H.nr.lt
  have l3 := H.fr.lt
  have hs : (wr.setCell ⟨B, b, none⟩ (.int .i64 2)).heap.size = wr.heap.size := by simp [World.setCell]
  have kk : ∀ k, k < wr.heap.size → w'.heap[k]? = (wr.setCell ⟨B, b, none⟩ (.int .i64 2)).heap[k]? := fun k hk => by
    rw [h2.blk k (by simp [hs]; omega) (by simp [Value.ownBlock]; omega), heap_alloc_old _ _ (by rw [hs]; exact hk)]
  refine ⟨⟨(H.sr.set b 2).move (kk _ l1), H.nr.move ((kk _ l2).trans (heap_set_other (by omega))), H.fr.move ((kk _ l3).trans (heap_set_other (by omega))), ?_, fun e => by simp at e, q1, p1, hr, by omega, ?_⟩, q2⟩
  · have e1 : (out ++ [(b : Int)]).length = 1 + out.length := by simp; omega
    have e2 : (out ++ [(b : Int)]).reverse = [(b : Int)] ++ out.reverse := by simp
    rw [e1, e2]; exact h1
  · exact ((H.bel.setCell (Nat.le_refl B) _).alloc (by show B ≤ (wr.setCell _ _).heap.size; rw [hs]; omega) _).trans (h2.bel.mono (by omega))
theorem RHd.old {w wr : World} {B n Ls G vis st out ov sf nf ff} {b l : Nat} (H : RHd w wr B n Ls (G + 1) ⟨vis, st ++ [((b : Int), l + 1)], out⟩ ov sf nf ff) (hg : goodP Ls = true) (hx : (rowOf Ls (b : Int)).getD l 0 ∈ vis) :
    RHd w (wr.setCell ⟨B + 1, b, none⟩ (.int .i64 (nf b + 1))) B n Ls G ⟨vis, st ++ [((b : Int), l)], out⟩ ov sf (updN nf b (nf b + 1)) ff := by
  obtain ⟨p1, p2⟩ := H.oi.step hg (by simp)
  rw [stp_go, vst, if_pos hx] at p1 p2
  have hr := H.run
  rw [orun_more _ _ _ (by simp), stp_go, vst, if_pos hx] at hr
  have hq := H.msr
  exact ⟨H.sr.move (heap_set_other (by omega)), H.nr.set b _, H.fr.move (heap_set_other (by omega)), ⟨H.ou.len, own_move H.ou.out fun k hk => heap_set_other (by have := (own_block H.ou.out hk).1; omega)⟩, H.nz, H.ri.old H.oi, p1, hr, by omega, H.bel.setCell (by show B ≤ B + 1; omega) _⟩
theorem RHd.new {w wr : World} {B n Ls G vis st out ov sf nf ff} {b l x : Nat} (H : RHd w wr B n Ls (G + 1) ⟨vis, st ++ [((b : Int), l + 1)], out⟩ ov sf nf ff) (hg : goodP Ls = true) (ex : (rowOf Ls (b : Int)).getD l 0 = (x : Int)) (hx : (x : Int) ∉ vis) (hxn : x < Ls.length) :
    RHd w (((wr.setCell ⟨B + 1, b, none⟩ (.int .i64 (nf b + 1))).setCell ⟨B, x, none⟩ (.int .i64 1)).setCell ⟨B + 1 + 1, x, none⟩ (.int .i64 (b : Int))) B n Ls G ⟨vis ++ [(x : Int)], st ++ [((b : Int), l)] ++ [((x : Int), (rowOf Ls (x : Int)).length)], out⟩ ov (updN sf x 1) (updN nf b (nf b + 1)) (updN ff x b) := by
  obtain ⟨p1, p2⟩ := H.oi.step hg (by simp)
  rw [stp_go, ex, vst, if_neg hx] at p1 p2
  have hr := H.run
  rw [orun_more _ _ _ (by simp), stp_go, ex, vst, if_neg hx] at hr
  have hq := H.msr
  simp only at p2 hq
  refine ⟨?_, ?_, ?_, ⟨H.ou.len, own_move H.ou.out fun k hk => ?_⟩, H.nz, H.ri.new H.oi hx hxn, p1, hr, by omega, ?_⟩
  · exact (((H.sr.move (heap_set_other (by omega))).set x 1).move (heap_set_other (by omega)))
  · exact (((H.nr.set b _).move (heap_set_other (by omega))).move (heap_set_other (by omega)))
  · exact (((H.fr.move (heap_set_other (by omega))).move (heap_set_other (by omega))).set x _)
  · have := (own_block H.ou.out hk).1
    rw [heap_set_other (by omega), heap_set_other (by omega), heap_set_other (by omega)]
  · exact ((H.bel.setCell (by show B ≤ B + 1; omega) _).setCell (Nat.le_refl _) _).setCell (by show B ≤ B + 1 + 1; omega) _
set_option maxRecDepth 100000 in
set_option maxHeartbeats 4000000 in
theorem refLine_any (w : World) (ao : Option Addr) (n c : Nat) (Ls : List (List Int)) (hn : n = Ls.length) (h : IRow w ao c Ls) (hsz : n ≤ 1000000000) :
    Calls Try.prog 15 #[.slice ao n c] w fun e w' => ∃ v, e = .returned v ∧ OwnI w' w.heap.size v (linP Ls).length (linP Ls) ∧ Below w.heap.size w w' := by
  have hmx : n ≤ 9223372036854775807 := by omega
  have hnc : n ≤ c := by have := h.le; omega
  have hcm : c ≤ 9223372036854775807 := h.mx
  have hmk := run_make_row' (P := Try.prog) 27 3 (.int .i64 0) 8 Try.underlying27 info3i rfl .i64 .i64 n (by omega) (by omega)
  have HN : Hid (n = Ls.length) := hn
  have HI : Hid (IRow w ao c Ls) := h
  clear hn h
  go_enter Try.func15, Try.ntmps15
  go_wp2_with fail
  go_loopw [3] (fun v wr => ∃ k : Nat, k ≤ n ∧ v = .int .i64 k ∧ wr = w ∧ Hid (∀ (k' : Nat) (hk : k' < Ls.length), k' < k → ∀ (j : Nat) (hj : j < Ls[k'].length), 0 ≤ Ls[k'][j] ∧ Ls[k'][j] < Ls.length)) (fun v _ => n - (intOf v).toNat)
  case atStart => exact ⟨0, by omega, rfl, rfl, fun k' _ h => absurd h (by omega)⟩
  case round =>
    obtain ⟨k, hk, rfl, rfl, HT⟩ := hrel
    by_cases hlt : k < n
    · have hkL : k < Ls.length := by have := HN.out; omega
      obtain ⟨b, o, a', c', rfl, hc, hI⟩ := HI.out.at hkL
      obtain ⟨l, hl⟩ : ∃ l, l = Ls[k] := ⟨_, rfl⟩
      rw [← hl] at hc hI
      have HL : Hid (l = Ls[k]) := hl
      have hl2 : l.length ≤ 9223372036854775807 := by have := hI.le; have := hI.mx; omega
      have HII : Hid (Ints wr a' c' l) := hI
      obtain ⟨m, hm⟩ : ∃ m, m = l.length := ⟨_, rfl⟩
      rw [← hm] at hc hl2
      have HM : Hid (m = l.length) := hm
      clear hl hI hm
      go_wp2_with fail
      go_loopw [4] (fun v wr' => ∃ j : Nat, j ≤ m ∧ v = .int .i64 j ∧ wr' = wr ∧ Hid (∀ (j' : Nat) (hj : j' < l.length), j' < j → 0 ≤ l[j'] ∧ l[j'] < Ls.length)) (fun v _ => m - (intOf v).toNat)
      case atStart => exact ⟨0, by omega, rfl, rfl, fun j' _ h => absurd h (by omega)⟩
      case round =>
        obtain ⟨j, hj, rfl, rfl, HJ⟩ := hrel
        by_cases hjl : j < m
        · have hjL : j < l.length := by have := HM.out; omega
          obtain ⟨b2, o2, rfl, hc2⟩ := HII.out.at hjL
          obtain ⟨x, hx⟩ : ∃ x, x = l[j] := ⟨_, rfl⟩
          rw [← hx] at hc2
          have HX : Hid (x = l[j]) := hx
          clear hx
          by_cases hx0 : x < 0
          · have hf : goodP Ls = false := by
              refine goodP_no hkL (j := j) (by rw [← HL.out]; exact hjL) ?_
              have : Ls[k][j]'(by rw [← HL.out]; exact hjL) = x := by rw [HX.out]; simp [HL.out]
              rw [this]; omega
            have HF : Hid (linP Ls = []) := by show _ = _; rw [linP, if_neg (by rw [hf]; simp)]
            clear hf
            go_wp2_with fail
            go_ret
            rw [HF.out]
            exact ⟨_, rfl, OwnI.nil _ _, Below.refl _ _⟩
          · by_cases hx1 : (n : Int) ≤ x
            · have hf : goodP Ls = false := by
                refine goodP_no hkL (j := j) (by rw [← HL.out]; exact hjL) ?_
                have : Ls[k][j]'(by rw [← HL.out]; exact hjL) = x := by rw [HX.out]; simp [HL.out]
                rw [this, ← HN.out]; omega
              have HF : Hid (linP Ls = []) := by show _ = _; rw [linP, if_neg (by rw [hf]; simp)]
              clear hf
              go_wp2_with fail
              go_ret
              rw [HF.out]
              exact ⟨_, rfl, OwnI.nil _ _, Below.refl _ _⟩
            · go_wp2_with fail
              go_roundw
              case rel =>
                refine ⟨j + 1, by omega, by go_num, by first | rfl | trivial, fun j' hj' h => ?_⟩
                by_cases e : j' = j
                · subst e
                  rw [← HX.out, ← HN.out]; omega
                · exact HJ.out j' hj' (by omega)
              case measure => simp [intOf]; omega
        · go_wp2_with fail
          go_roundw
          case rel =>
            refine ⟨k + 1, by omega, by go_num, by first | rfl | trivial, fun k' hk' h j' hj' => ?_⟩
            by_cases e : k' = k
            · subst e
              have := HJ.out j' (by rw [HL.out]; exact hj') (by have := HM.out; rw [HL.out] at this; omega)
              simpa [HL.out] using this
            · exact HT.out k' hk' (by omega) j' hj'
          case measure => simp [intOf]; omega
    · by_cases hz : 0 < n
      · have hg : goodP Ls = true := goodP_all (by rw [← HN.out]; exact hz) fun k' hk' j hj => HT.out k' hk' (by have := HN.out; omega) j hj
        have HG : Hid (goodP Ls = true) := hg
        have hz2 : ¬ (n : Int) = 0 := by omega
        obtain rfl : k = n := by omega
        clear hg HT
        go_upto_region 16 with fail
        obtain ⟨W3, hW3⟩ : ∃ W3, W3 = ((wr.alloc (.cells (madeCells #[.int .i64 0] k) 3)).alloc (.cells (madeCells #[.int .i64 0] k) 3)).alloc (.cells (madeCells #[.int .i64 0] k) 3) := ⟨_, rfl⟩
        rw [← hW3]
        obtain ⟨B, hB⟩ : ∃ B, B = wr.heap.size := ⟨_, rfl⟩
        have r1 : IR W3 B k (fun _ => 0) := by
          rw [hW3, hB]
          exact ((IR.made wr k).move (heap_alloc_old _ _ (by simp))).move (heap_alloc_old _ _ (by first | (simp; done) | (simp; omega)))
        have r2 : IR W3 (B + 1) k (fun _ => 0) := by
          rw [hW3, hB]
          have := IR.made (wr.alloc (.cells (madeCells #[.int .i64 0] k) 3)) k
          exact IR.move (by simpa using this) (heap_alloc_old _ _ (by simp))
        have r3 : IR W3 (B + 1 + 1) k (fun _ => 0) := by
          rw [hW3, hB]
          have := IR.made ((wr.alloc (.cells (madeCells #[.int .i64 0] k) 3)).alloc (.cells (madeCells #[.int .i64 0] k) 3)) k
          simpa using this
        have b3 : Below B wr W3 := by
          rw [hW3, hB]
          repeat (first | refine Below.alloc ?_ (by first | omega | (simp; done) | (simp; omega)) _ | exact Below.refl _ _)
        rw [← hB]
        obtain ⟨W5, hW5⟩ : ∃ W5, W5 = (W3.setCell ⟨B, 0, none⟩ (.int .i64 1)).setCell ⟨B + 1 + 1, 0, none⟩ (.int .i64 (-1)) := ⟨_, rfl⟩
        have k1 := r1.cell hz
        have f1 := r1.fz 0
        have s1 := r1.set 0 1
        have s3 := r3.move (w' := W3.setCell ⟨B, 0, none⟩ (.int .i64 1)) (heap_set_other (by omega))
        have k3 := s3.cell hz
        have f3 := s3.fz 0
        have t3 := s3.set 0 (-1)
        have t1 := s1.move (w' := (W3.setCell ⟨B, 0, none⟩ (.int .i64 1)).setCell ⟨B + 1 + 1, 0, none⟩ (.int .i64 (-1))) (heap_set_other (by omega))
        have t2 := (r2.move (w' := W3.setCell ⟨B, 0, none⟩ (.int .i64 1)) (heap_set_other (by omega))).move (w' := (W3.setCell ⟨B, 0, none⟩ (.int .i64 1)).setCell ⟨B + 1 + 1, 0, none⟩ (.int .i64 (-1))) (heap_set_other (by omega))
        rw [← hW5] at t1 t2 t3
        have ST : Hid (RHd wr W5 B k Ls (msr Ls (os0 Ls)) (os0 Ls) (.slice none 0 0) (updN (fun _ => 0) 0 1) (fun _ => 0) (updN (fun _ => 0) 0 (-1))) :=
          ⟨t1, t2, t3, OwnI.nil _ _, fun _ => rfl, RI.zero HG.out, OI.zero HG.out, rfl, rfl, by rw [hW5]; exact (b3.setCell (Nat.le_refl _) _).setCell (by show B ≤ B + 1 + 1; omega) _⟩
        have HW5 : Hid (W5 = (W3.setCell ⟨B, 0, none⟩ (.int .i64 1)).setCell ⟨B + 1 + 1, 0, none⟩ (.int .i64 (-1))) := hW5
        have HB : Hid (B = wr.heap.size) := hB
        clear r1 r2 r3 b3 s1 s3 t1 t2 t3 hW5 hW3 hB hmk
        go_wp2_with fail
        rw [← HW5.out]
        clear k1 f1 k3 f3 HW5
        obtain ⟨w0, hw0⟩ : ∃ w0, w0 = wr := ⟨_, rfl⟩
        subst hw0
        go_loopg [8, 9] (msr Ls (os0 Ls)) (fun q ov bv wq => ∃ (s : OS) (a8 : Option Addr) (c8 : Nat) (sf nf ff : Nat → Int), ov = .slice a8 s.out.length c8 ∧ bv = .int .i64 (topW s.way) ∧ Hid (RHd w0 wq B k Ls q s (.slice a8 s.out.length c8) sf nf ff))
        case atStart => exact ⟨os0 Ls, none, 0, _, _, _, rfl, rfl, ST.out⟩
        case round =>
          clear ST
          obtain ⟨s, a8, c8, sf, nf, ff, rfl, rfl, HH⟩ := hrel
          obtain ⟨vis, way, out⟩ := s
          simp only at HH ⊢
          have hBr : B ≤ wr.heap.size := by have := HH.out.bel.size; have := HB.out; omega
          rcases List.eq_nil_or_concat way with he | ⟨st, ⟨b, l⟩, he⟩
          · subst he
            rw [topW_nil]
            have hfin : orP Ls = ⟨vis, [], out⟩ := by
              have := HH.out.run
              rw [orun_end _ _ _ rfl] at this
              exact this.symm
            have HLN : Hid (linP Ls = out.reverse) := by show _ = _; rw [linP, if_pos HG.out, hfin]
            clear hfin
            go_wp2_with fail
            try rw [Exit.noGoto_ret]
            go_ret
            refine ⟨_, rfl, ?_, ?_⟩
            · rw [HLN.out, List.length_reverse, ← HB.out]; exact HH.out.ou.mono (by omega)
            · rw [← HB.out]; exact HH.out.bel
          · rw [List.concat_eq_append] at he
            subst he
            rw [topW_snoc]
            simp only
            obtain ⟨G, hG⟩ : ∃ G, gk = G + 1 := ⟨gk - 1, by have := HH.out.msr; simp [msr] at this; omega⟩
            subst hG
            have hbv : b ∈ vis := HH.out.oi.perm.mem_iff.2 (by simp)
            have hbr := HH.out.oi.rng b hbv
            have hoi := HH.out.oi.le
            have hpl := HH.out.oi.perm.length_eq
            simp only [List.length_append, List.length_map, List.length_cons, List.length_nil] at hpl hoi
            obtain ⟨bn, rfl⟩ : ∃ bn : Nat, b = (bn : Int) := ⟨b.toNat, by have := hbr.1; omega⟩
            have hbn : bn < k := by have := hbr.2; have := HN.out; omega
            have hol : out.length ≤ 1000000000 := by have := HN.out; omega
            have hbL : bn < Ls.length := by have := HN.out; omega
            obtain ⟨rb, ro, ar, cr, rfl, krw, hIr⟩ := HI.out.at hbL
            have hrow : Ls[bn] = rowOf Ls (bn : Int) := (rowOf_at hbL).symm
            rw [hrow] at krw hIr
            obtain ⟨rl, hrl⟩ : ∃ rl, rl = (rowOf Ls (bn : Int)).length := ⟨_, rfl⟩
            have hll := HH.out.oi.lft ((bn : Int), l) (by simp)
            simp only at hll
            have hnf := HH.out.ri.wy bn l (by simp)
            rw [← hrl] at krw hll hnf
            have hcr : rl ≤ cr := by have := hIr.le; omega
            have hcr2 : cr ≤ 9223372036854775807 := hIr.mx
            have kz : ∀ {w' : World} {p : Addr} {u : Value}, Below B w0 w' → w0.cell? p = some u → w'.cell? p = some u := fun {w' p u} hb h => (hb.cell (p := p) (by have := block_lt_of_cell h; have := HB.out; omega)).trans h
            have kr := kz HH.out.bel krw
            have kn := HH.out.nr.cell hbn
            rw [hnf] at kn
            have HKZ : Hid (∀ {w' : World} {p : Addr} {u : Value}, Below B w0 w' → w0.cell? p = some u → w'.cell? p = some u) := kz
            have HRL : Hid (rl = (rowOf Ls (bn : Int)).length) := hrl
            have HIR : Hid (Ints w0 ar cr (rowOf Ls (bn : Int))) := hIr
            have HKW : Hid (w0.cell? ⟨rb, ro + bn, none⟩ = some (.slice ar rl cr)) := krw
            have HNF : Hid (nf bn = (rl : Int) - l) := hnf
            clear kz hIr krw hrow hrl hbv hbr hoi hpl hnf
            cases l with
            | zero =>
              have q1 : (((rl : Int) == (rl : Int))) = true := by simp
              rw [show (rl : Int) - ((0 : Nat) : Int) = (rl : Int) by omega] at kn
              go_wp2_with fail
              go_quiet (fail)
              obtain ⟨wq, hwq⟩ : ∃ wq, wq = wr.drewN nq := ⟨_, rfl⟩
              have bq : Below wr.heap.size wr wq := by rw [hwq]; exact below_drewN (Below.refl _ _) nq
              rw [← hwq]
              have HQ : Hid _ := HH.out.keep hBr bq
              have hBq : B ≤ wq.heap.size := by have := bq.size; omega
              have k1 := HQ.out.sr.cell hbn
              have f1 := HQ.out.sr.fz bn
              obtain ⟨W2, hW2⟩ : ∃ W2, W2 = wq.setCell ⟨B, bn, none⟩ (.int .i64 2) := ⟨_, rfl⟩
              have hs2 : W2.heap.size = wq.heap.size := by rw [hW2]; simp [World.setCell]
              have l3 := HQ.out.fr.lt
              have o1 : OwnI (W2.alloc (.cells #[.int .i64 (bn : Int)] 3)) (B + 1 + 1 + 1) (.slice (some ⟨W2.heap.size, 0, none⟩) 1 1) 1 [(bn : Int)] := own_one W2 _ (by omega) _
              have hou := HQ.out.ou
              simp only at hou
              have hou2 : OwnI W2 (B + 1 + 1 + 1) (.slice a8 out.length c8) out.length out.reverse := by
                rw [hW2]
                exact ⟨hou.len, own_move hou.out fun k hk => heap_set_other (by have := (own_block hou.out hk).1; omega)⟩
              obtain ⟨_, _, e9, hI8⟩ := hou2.ints
              cases e9
              have HI8 : Hid (Ints (W2.alloc (.cells #[.int .i64 (bn : Int)] 3)) a8 c8 out.reverse) := hI8.below ((Below.refl W2.heap.size _).alloc (Nat.le_refl _) _) (Nat.le_refl _)
              have HZ8 : Hid (out.reverse = [] → a8 = none ∧ c8 = 0) := fun e => by
                have := HQ.out.nz (by simpa using e)
                injection this with e1 e2 e3; exact ⟨e1, e3⟩
              have HO1 : Hid _ := o1
              have FIN : Hid (∀ v' w', OwnI w' (B + 1 + 1 + 1) v' (1 + out.length) ([(bn : Int)] ++ out.reverse) → GI (B + 1 + 1 + 1) (W2.alloc (.cells #[.int .i64 (bn : Int)] 3)) w' (.slice (some ⟨W2.heap.size, 0, none⟩) 1 1) v' → w'.cell? ⟨B + 1 + 1, bn, none⟩ = some (.int .i64 (topW st)) ∧ Hid (RHd w0 w' B k Ls G ⟨vis, st, out ++ [(bn : Int)]⟩ v' (updN sf bn 2) nf ff)) := fun v' w' h1 h2 => by
                rw [hW2, show (wq.setCell ⟨B, bn, none⟩ (.int .i64 2)).heap.size = wq.heap.size by simp [World.setCell]] at h2
                obtain ⟨x1, x2⟩ := HQ.out.pop HG.out h1 h2
                have := x1.fr.cell hbn
                rw [x2] at this
                exact ⟨this, x1⟩
              have HW2 : Hid (W2 = wq.setCell ⟨B, bn, none⟩ (.int .i64 2)) := hW2
              have hB2 : B + 1 + 1 + 1 ≤ (W2.alloc (.cells #[.int .i64 (bn : Int)] 3)).heap.size := by simp; omega
              have hlr : out.length = out.reverse.length := by simp
              have HLR : Hid (out.length = out.reverse.length) := hlr
              have hol2 : 1 + out.length ≤ 17592186044416 := by omega
              clear hwq bq HH HQ o1 hou hou2 hI8 hW2 kr kn hs2 l3 hlr HKZ HIR HKW HNF HRL
              go_upto_region 21 with fail
              rw [← HW2.out]
              clear k1 f1 HW2
              go_wp2_with (first
                | (at_builtin; refine wpList_append_manyI (by rfl) _ _ rfl (B + 1 + 1 + 1) (.slice (some ⟨W2.heap.size, 0, none⟩) 1 1) 1 [(bn : Int)] rfl HO1.out a8 out.length c8 out.reverse HLR.out HI8.out HZ8.out rfl hol2 hB2 ?_; intro v5 w5 o5 g5
                   obtain ⟨P1, P2⟩ := FIN.out v5 w5 o5 g5
                   obtain ⟨a5, c5, e5, _, _⟩ := own_slice o5.out
                   subst e5
                   clear o5 g5 FIN)
                | go_in)
              go_roundg G
              case rel =>
                refine ⟨⟨vis, st, out ++ [(bn : Int)]⟩, a5, c5, updN sf bn 2, nf, ff, by simp; omega, rfl, ?_⟩
                have := P2.out
                rw [show (out ++ [(bn : Int)]).length = 1 + out.length by simp; omega]
                exact this
              case measure => omega
            | succ l =>
              have hlr : l < (rowOf Ls (bn : Int)).length := by rw [← HRL.out]; omega
              obtain ⟨xb, xo, e9, kx0⟩ := HIR.out.at hlr
              subst e9
              have hxm := row_good HG.out (row_mem (Ls := Ls) (b := (bn : Int)) (j := l) hlr)
              obtain ⟨x, hx⟩ : ∃ x, x = (rowOf Ls (bn : Int)).getD l 0 := ⟨_, rfl⟩
              have hx2 : (rowOf Ls (bn : Int))[l] = x := by rw [hx]; simp [hlr]
              rw [hx2] at kx0
              rw [← hx] at hxm
              obtain ⟨xn, rfl⟩ : ∃ xn : Nat, x = (xn : Int) := ⟨x.toNat, by have := hxm.1; omega⟩
              have hxn : xn < k := by have := hxm.2; have := HN.out; omega
              have hxL : xn < Ls.length := by have := HN.out; omega
              obtain ⟨nb, hnb⟩ : ∃ nb : Nat, rl = nb + (l + 1) := ⟨rl - (l + 1), by omega⟩
              have q1 : (((nb : Int) == (rl : Int))) = false := by simp; omega
              have HNB : Hid (nf bn = (nb : Int)) := by have := HNF.out; show _ = _; omega
              rw [show (rl : Int) - ((l + 1 : Nat) : Int) = (nb : Int) by omega] at kn
              have HX : Hid ((xn : Int) = (rowOf Ls (bn : Int)).getD l 0) := hx
              have HXM : Hid (w0.cell? ⟨xb, xo + l, none⟩ = some (.int .i64 (xn : Int))) := kx0
              clear hx hx2 hxm kx0 hlr
              go_wp2_with fail
              go_quiet (fail)
              obtain ⟨wq, hwq⟩ : ∃ wq, wq = wr.drewN nq := ⟨_, rfl⟩
              have bq : Below wr.heap.size wr wq := by rw [hwq]; exact below_drewN (Below.refl _ _) nq
              rw [← hwq]
              have HQ : Hid _ := HH.out.keep hBr bq
              have hBq : B ≤ wq.heap.size := by have := bq.size; omega
              have kr2 := HKZ.out HQ.out.bel HKW.out
              have kx2 := HKZ.out HQ.out.bel HXM.out
              have kn2 := HQ.out.nr.cell hbn
              rw [HNB.out] at kn2
              have he : (rl : Int) - 1 - (nb : Int) = (l : Int) := by omega
              have hl1 : (l : Int) < (rl : Int) := by omega
              clear hwq bq HH kr kn
              go_wp2_with fail
              go_quiet (fail)
              obtain ⟨wz, hwz⟩ : ∃ wz, wz = wq.drewN nq := ⟨_, rfl⟩
              have bz : Below wq.heap.size wq wz := by rw [hwz]; exact below_drewN (Below.refl _ _) nq
              rw [← hwz]
              have HZ : Hid _ := HQ.out.keep hBq bz
              have kn3 := HZ.out.nr.cell hbn
              rw [HNB.out] at kn3
              have fn3 := HZ.out.nr.fz bn
              have hnb2 : nb ≤ 9223372036854775806 := by omega
              clear hwz bz HQ kr2 kx2 kn2 he hl1 q1
              obtain ⟨W4, hW4⟩ : ∃ W4, W4 = wz.setCell ⟨B + 1, bn, none⟩ (.int .i64 ((nb : Int) + 1)) := ⟨_, rfl⟩
              have sr4 : IR W4 B k sf := by rw [hW4]; exact HZ.out.sr.move (heap_set_other (by omega))
              have fr4 : IR W4 (B + 1 + 1) k ff := by rw [hW4]; exact HZ.out.fr.move (heap_set_other (by omega))
              have ks := sr4.cell hxn
              have fs := sr4.fz xn
              by_cases hxv : (xn : Int) ∈ vis
              · have hsx : ¬ sf xn = 0 := fun e => (HZ.out.ri.sv xn hxL).1 e hxv
                obtain ⟨sx, hsx2⟩ : ∃ sx, sx = sf xn := ⟨_, rfl⟩
                rw [← hsx2] at ks hsx
                have q2 : (sx == 0) = false := by simpa using hsx
                have HF : Hid (RHd w0 W4 B k Ls G ⟨vis, st ++ [((bn : Int), l)], out⟩ (.slice a8 out.length c8) sf (updN nf bn (nf bn + 1)) ff) := by
                  have := HZ.out.old HG.out (by rw [← HX.out]; exact hxv)
                  rw [HNB.out] at this ⊢
                  rw [hW4]; exact this
                clear HZ hsx hsx2 sr4 fr4
                go_upto_region 25 with fail
                rw [← hW4]
                clear hW4 kn3 fn3
                go_wp2_with fail
                go_roundg G
                case rel => exact ⟨⟨vis, st ++ [((bn : Int), l)], out⟩, a8, c8, sf, updN nf bn (nf bn + 1), ff, rfl, by rw [topW_snoc], HF.out⟩
                case measure => omega
              · have hsx : sf xn = 0 := (HZ.out.ri.sv xn hxL).2 hxv
                rw [hsx] at ks
                have fr5 := fr4.move (w' := W4.setCell ⟨B, xn, none⟩ (.int .i64 1)) (heap_set_other (by omega))
                have kf := fr5.cell hxn
                have ff5 := fr5.fz xn
                obtain ⟨W6, hW6⟩ : ∃ W6, W6 = (W4.setCell ⟨B, xn, none⟩ (.int .i64 1)).setCell ⟨B + 1 + 1, xn, none⟩ (.int .i64 (bn : Int)) := ⟨_, rfl⟩
                have HF : Hid (RHd w0 W6 B k Ls G ⟨vis ++ [(xn : Int)], st ++ [((bn : Int), l)] ++ [((xn : Int), (rowOf Ls (xn : Int)).length)], out⟩ (.slice a8 out.length c8) (updN sf xn 1) (updN nf bn (nf bn + 1)) (updN ff xn (bn : Int))) := by
                  have := HZ.out.new HG.out HX.out.symm hxv hxL
                  rw [HNB.out] at this ⊢
                  rw [hW6, hW4]; exact this
                have HW6 : Hid (W6 = (W4.setCell ⟨B, xn, none⟩ (.int .i64 1)).setCell ⟨B + 1 + 1, xn, none⟩ (.int .i64 (bn : Int))) := hW6
                obtain ⟨fx, hfx⟩ : ∃ fx, fx = ff xn := ⟨_, rfl⟩
                rw [← hfx] at kf
                clear HZ hsx sr4 fr4 fr5 hW6 hfx
                go_upto_region 25 with fail
                rw [← hW4]
                clear hW4 kn3 fn3
                go_wp2_with fail
                rw [← HW6.out]
                go_roundg G
                case rel => exact ⟨⟨vis ++ [(xn : Int)], st ++ [((bn : Int), l)] ++ [((xn : Int), (rowOf Ls (xn : Int)).length)], out⟩, a8, c8, updN sf xn 1, updN nf bn (nf bn + 1), updN ff xn (bn : Int), rfl, by rw [topW_snoc], HF.out⟩
                case measure => omega
      · have hf : goodP Ls = false := by
          have : Ls = [] := List.length_eq_zero_iff.1 (by have := HN.out; omega)
          rw [this]; rfl
        have HF : Hid (linP Ls = []) := by show _ = _; rw [linP, if_neg (by rw [hf]; simp)]
        obtain rfl : n = 0 := by omega
        clear hf
        go_wp2_with fail
        go_ret
        rw [HF.out]
        exact ⟨_, rfl, OwnI.nil _ _, Below.refl _ _⟩
end Go.Proofs.Ytplpgeocidllfaa
