import Derived.Test.YtplpgeocidllfaaOrF
set_option linter.unusedVariables false
set_option linter.unusedSimpArgs false
namespace Go.Proofs.Ytplpgeocidllfaa
open Go.ChangeShapes Go.WideShapes Go.ChangeAt Go.RowKit Go.Maps

theorem rowOf_at {Ls : List (List Int)} {b : Nat} (h : b < Ls.length) : rowOf Ls (b : Int) = Ls[b] := by simp [rowOf, h]
set_option maxRecDepth 100000 in
set_option maxHeartbeats 4000000 in
theorem line_any (w : World) (ao : Option Addr) (n c : Nat) (Ls : List (List Int)) (hn : n = Ls.length) (hI : IRow w ao c Ls) (hsz : n ≤ 1000000000) :
    Calls Try.prog 12 #[.slice ao n c] w fun e w' => ∃ v, e = .returned v ∧ OwnI w' w.heap.size v (linP Ls).length (linP Ls) ∧ Below w.heap.size w w' := by
  have hb1 : Below w.heap.size w (w.alloc (.cells #[.slice ao n c] 22)) := (Below.refl _ _).alloc (Nat.le_refl _) _
  have hkn := known_any (w.alloc (.cells #[.slice ao n c] 22)) ao n c Ls hn (hI.below hb1 (Nat.le_refl _))
  have hnc : n ≤ c := by have := hI.le; omega
  have hcm : c ≤ 9223372036854775807 := hI.mx
  by_cases hg : goodP Ls = true
  · rw [hg] at hkn
    have hpos : 0 < n := by have := goodP_pos hg; omega
    have hmk := run_make_row' (P := Try.prog) 32 4 (.bool false) 1 Try.underlying32 infoBool rfl .i64 .i64 n (by omega) (by omega)
    obtain ⟨rb, ro, a0, c0, rfl, kr0, hI0⟩ := hI.at (j := 0) (by omega)
    clear hI0
    rw [← rowOf_at (b := 0) (by omega)] at kr0
    have hrb : rb < w.heap.size := block_lt_of_cell kr0
    have HN : Hid (n = Ls.length) := hn
    have HI : Hid (IRow w (some ⟨rb, ro, none⟩) c Ls) := hI
    have HG : Hid (goodP Ls = true) := hg
    obtain ⟨W0, hW0⟩ : ∃ W0, W0 = ((((w.alloc (.cells #[.slice (some ⟨rb, ro, none⟩) n c] 22)).alloc (.cells #[.slice none 0 0] 39)).alloc (.cells (madeCells #[.bool false] n) 4)).alloc (.cells #[.slice (some ⟨w.heap.size + 1 + 1, 0, none⟩) n n] 32)) := ⟨_, rfl⟩
    have hs0 : W0.heap.size = w.heap.size + 1 + 1 + 1 + 1 := by rw [hW0]; simp
    have hbel : Below w.heap.size w W0 := by
      rw [hW0]
      repeat (first | refine Below.alloc ?_ (by first | omega | (simp; done) | (simp; omega)) _ | exact Below.refl _ _)
    have M0 : OM W0 w.heap.size w.heap.size (w.heap.size + 1) (w.heap.size + 1 + 1) (w.heap.size + 1 + 1 + 1) (some ⟨rb, ro, none⟩) n c [] [] (.slice none 0 0) := by
      refine ⟨?_, ?_, ?_, ?_, ⟨World.ownsRow_nil _ _ _ _⟩⟩
      · rw [hW0, heap_alloc_old _ _ (by first | (simp; done) | (simp; omega)), heap_alloc_old _ _ (by first | (simp; done) | (simp; omega)), heap_alloc_old _ _ (by simp)]
        exact heap_alloc_new _ _
      · rw [hW0, heap_alloc_old _ _ (by first | (simp; done) | (simp; omega)), heap_alloc_old _ _ (by simp)]
        simpa using heap_alloc_new (w.alloc (.cells #[.slice (some ⟨rb, ro, none⟩) n c] 22)) (.cells #[.slice none 0 0] 39)
      · unfold MR
        rw [hW0, heap_alloc_old _ _ (by simp)]
        have := heap_alloc_new ((w.alloc (.cells #[.slice (some ⟨rb, ro, none⟩) n c] 22)).alloc (.cells #[.slice none 0 0] 39)) (.cells (madeCells #[.bool false] n) 4)
        rw [rch_nil, List.map_replicate, ← toList_madeCells_one, Array.toArray_toList]
        simpa using this
      · rw [hW0]
        simpa using heap_alloc_new (((w.alloc (.cells #[.slice (some ⟨rb, ro, none⟩) n c] 22)).alloc (.cells #[.slice none 0 0] 39)).alloc (.cells (madeCells #[.bool false] n) 4)) (.cells #[.slice (some ⟨w.heap.size + 1 + 1, 0, none⟩) n n] 32)
    have hv0 := visit_any W0 M0 (by omega) hrb (by omega) hnc hcm 0 hpos ((hbel.cell (p := ⟨rb, ro + 0, none⟩) hrb).trans kr0) (by simp)
    have H0 : Hid (∀ w1, ((((0 : Nat) : Int) ∈ ([] : List Int) ∧ w1 = W0) ∨ ((0 : Nat) : Int) ∉ ([] : List Int) ∧ ∃ vw', OM w1 w.heap.size w.heap.size (w.heap.size + 1) (w.heap.size + 1 + 1) (w.heap.size + 1 + 1 + 1) (some ⟨rb, ro, none⟩) n c ([] ++ [((0 : Nat) : Int)]) ([] ++ [(((0 : Nat) : Int), (rowOf Ls ((0 : Nat) : Int)).length)]) vw' ∧ Only (OV (w.heap.size + 1) (w.heap.size + 1 + 1) (.slice none 0 0)) W0 w1 ∧ (∀ g, vw'.ownBlock = some g → (Value.slice none 0 0).ownBlock = some g ∨ W0.heap.size ≤ g)) → ∃ vw, LHd w w1 w.heap.size w.heap.size (w.heap.size + 1) (w.heap.size + 1 + 1) (w.heap.size + 1 + 1 + 1) (some ⟨rb, ro, none⟩) n c Ls (msr Ls (os0 Ls)) (os0 Ls) vw (.slice none 0 0)) := by
      rintro w1 (⟨h, _⟩ | ⟨_, vw', M1, o1, _⟩)
      · simp at h
      · refine ⟨vw', ⟨?_, OwnI.nil _ _, OI.zero hg, rfl, rfl, hbel.trans (o1.below (by omega) (M0.bot (by omega) (by omega)))⟩⟩
        exact M1
    clear hn hI hg hb1 kr0 M0
    go_enter Try.func12, Try.ntmps12
    go_wp2_with fail
    refine hkn.mono ?_
    rintro e w' ⟨rfl, rfl⟩
    clear hkn
    go_wp2_with fail
    rw [← hW0]
    refine hv0.mono ?_
    rintro e w1 ⟨rfl, h1⟩
    obtain ⟨vw, L1⟩ := H0.out w1 h1
    have HL1 : Hid _ := L1
    obtain ⟨B, hB⟩ : ∃ B, B = w.heap.size := ⟨_, rfl⟩
    rw [← hB] at HL1 hrb ⊢
    have HB : Hid (B = w.heap.size) := hB
    clear h1 H0 hv0 L1 hW0 hs0 hbel hB hmk
    go_wp2_with fail
    go_loopg [3] (msr Ls (os0 Ls)) (fun q lv wr => ∃ (s : OS) (vw : Value) (a3 : Option Addr) (c3 : Nat), lv = .slice a3 s.out.length c3 ∧ Hid (LHd w wr B B (B + 1) (B + 1 + 1) (B + 1 + 1 + 1) (some ⟨rb, ro, none⟩) n c Ls q s vw (.slice a3 s.out.length c3)))
    case atStart => exact ⟨os0 Ls, vw, none, 0, rfl, HL1.out⟩
    case round =>
      clear HL1
      obtain ⟨s, vw, a3, c3, rfl, HH⟩ := hrel
      obtain ⟨vis, way, out⟩ := s
      simp only at HH ⊢
      have ky : wr.cell? ⟨B + 1, 0, none⟩ = some vw := cell_arr HH.out.om.wy rfl
      have hBr : B ≤ wr.heap.size := by have := HH.out.bel.size; have := HB.out; omega
      rcases List.eq_nil_or_concat way with he | ⟨st, ⟨b, l⟩, he⟩
      · subst he
        obtain ⟨wa, wc, rfl, _, _⟩ := own_slice HH.out.om.st.out
        have hfin : orP Ls = ⟨vis, [], out⟩ := by
          have := HH.out.run
          rw [orun_end _ _ _ rfl] at this
          exact this.symm
        have hout : 0 < out.length := by
          rcases HH.out.oi.fst with ⟨l, r, e⟩ | ⟨_, o, e⟩
          · cases e
          · simp only at e; rw [e]; simp
        have hln := HH.out.ln
        simp only at hln
        obtain ⟨g3, _, e3, _, _, hg3, _⟩ := own_some hln.out hout
        cases e3
        have hrv := reverse_any wr B g3 out.length c3 out hln hout
        have HLN : Hid (linP Ls = out.reverse) := by show _ = _; rw [linP, if_pos HG.out, hfin]
        have HBL : Hid (Below B w wr) := HH.out.bel
        clear HH hln hfin
        go_wp2_with fail
        refine hrv.mono ?_
        rintro e w5 ⟨rfl, r1, r2⟩
        have HR1 : Hid _ := r1
        have HB5 : Hid (Below B w w5) := HBL.out.trans (r2.below hBr fun k hk => by omega)
        clear r1 r2 hrv
        go_wp2_with fail
        try rw [Exit.noGoto_ret]
        go_ret
        refine ⟨_, rfl, ?_, ?_⟩
        · rw [HLN.out, List.length_reverse, ← HB.out]; exact HR1.out
        · rw [← HB.out]; exact HB5.out
      · rw [List.concat_eq_append] at he
        subst he
        obtain ⟨G, hG⟩ : ∃ G, gk = G + 1 := ⟨gk - 1, by have := HH.out.msr; simp [msr] at this; omega⟩
        subst hG
        obtain ⟨g, wc, rfl, hc1, hc2, hgs, k0, k1, kf⟩ := HH.out.om.st.top
        have hbv : b ∈ vis := HH.out.oi.perm.mem_iff.2 (by simp)
        have hbr := HH.out.oi.rng b hbv
        have hoi := HH.out.oi.le
        have hpl := HH.out.oi.perm.length_eq
        simp only [List.length_append, List.length_map, List.length_cons, List.length_nil] at hpl hoi
        obtain ⟨bn, rfl⟩ : ∃ bn : Nat, b = (bn : Int) := ⟨b.toNat, by have := hbr.1; omega⟩
        have hbn : bn < n := by have := hbr.2; have := HN.out; omega
        have hol : out.length ≤ 1000000000 := by have := HN.out; omega
        have hml : st.length ≤ 1000000000 := by have := HN.out; omega
        obtain ⟨m, hm⟩ : ∃ m, m = st.length := ⟨_, rfl⟩
        cases l with
        | zero =>
          have HP : Hid (∀ v' w', OwnI w' B v' (out.length + 1) (out ++ [(bn : Int)]) → GI B wr w' (.slice a3 out.length c3) v' → LHd w (w'.setCell ⟨B + 1, 0, none⟩ (.slice (some ⟨g, 0, none⟩) st.length wc)) B B (B + 1) (B + 1 + 1) (B + 1 + 1 + 1) (some ⟨rb, ro, none⟩) n c Ls G ⟨vis, st, out ++ [(bn : Int)]⟩ (.slice (some ⟨g, 0, none⟩) st.length wc) v' ∧ w'.cell? ⟨B + 1, 0, none⟩ = some (.slice (some ⟨g, 0, none⟩) (st.length + 1) wc) ∧ w'.frozen? ⟨B + 1, 0, none⟩ = false) := fun v' w' h1 h2 => by
            obtain ⟨q1, q2⟩ := HH.out.pop HG.out (by omega) h1 h2
            exact ⟨q1, cell_arr (q2.trans HH.out.om.wy) rfl, fz_of (q2.trans HH.out.om.wy)⟩
          have HLN : Hid (OwnI wr B (.slice a3 out.length c3) out.length out) := HH.out.ln
          rw [← hm] at HP ky k0 k1 kf hc1 hml
          replace k1 : wr.cell? ⟨g, m * 2 + 1, none⟩ = some (.int .i64 0) := k1
          have HM : Hid (m = st.length) := hm
          clear HH hbv hbr hoi hpl hm
          go_wp2_with (first
            | (at_builtin; refine wpList_append_intG (w0 := wr) rfl _ _ rfl B (.slice a3 out.length c3) out.length out (bn : Int) rfl HLN.out rfl (by omega) hBr ?_; intro v5 w5 o5 g5
               obtain ⟨P1, P2, P3⟩ := HP.out v5 w5 o5 g5
               have HP1 : Hid _ := P1
               obtain ⟨a5, c5, e5, _, _⟩ := own_slice o5.out
               subst e5
               clear o5 g5 P1 HP)
            | go_in)
          go_roundg G
          case rel =>
            refine ⟨⟨vis, st, out ++ [(bn : Int)]⟩, .slice (some ⟨g, 0, none⟩) m wc, a5, c5, by simp, ?_⟩
            have := HP1.out
            rw [show (out ++ [(bn : Int)]).length = out.length + 1 by simp]
            exact this
          case measure => omega
        | succ l =>
          have hll := HH.out.oi.lft ((bn : Int), l + 1) (by simp)
          simp only at hll
          have hbL : bn < Ls.length := by have := HN.out; omega
          obtain ⟨_, _, ar, cr, e9, krw, hIr⟩ := HI.out.at hbL
          cases e9
          have hro := rowOf_at (Ls := Ls) hbL
          rw [← hro] at krw hIr
          obtain ⟨row, hrow⟩ : ∃ row, row = rowOf Ls (bn : Int) := ⟨_, rfl⟩
          have hlr : l < row.length := by rw [hrow]; omega
          have hxm := row_good HG.out (row_mem (Ls := Ls) (b := (bn : Int)) (j := l) (by omega))
          rw [← hrow] at krw hIr hxm
          obtain ⟨xb, xo, e9, kx⟩ := hIr.at hlr
          subst e9
          obtain ⟨x, hx⟩ : ∃ x, x = row.getD l 0 := ⟨_, rfl⟩
          have hx2 : row[l] = x := by rw [hx]; simp [hlr]
          rw [hx2] at kx
          rw [← hx] at hxm
          obtain ⟨xn, rfl⟩ : ∃ xn : Nat, x = (xn : Int) := ⟨x.toNat, by have := hxm.1; omega⟩
          have hxn : xn < n := by have := hxm.2; have := HN.out; omega
          have hxL : xn < Ls.length := by have := HN.out; omega
          obtain ⟨_, _, ax, cx, e9, kxr, _⟩ := HI.out.at hxL
          cases e9
          rw [← rowOf_at hxL] at kxr
          obtain ⟨rl, hrl⟩ : ∃ rl, rl = row.length := ⟨_, rfl⟩
          have hcr : rl ≤ cr := by have := hIr.le; omega
          have hcr2 : cr ≤ 9223372036854775807 := hIr.mx
          rw [← hrl] at krw hlr
          obtain ⟨W1, hW1⟩ : ∃ W1, W1 = wr.setCell ⟨g, st.length * 2 + 1, none⟩ (.int .i64 (l : Int)) := ⟨_, rfl⟩
          have M1 : OM W1 B B (B + 1) (B + 1 + 1) (B + 1 + 1 + 1) (some ⟨rb, ro, none⟩) n c vis (st ++ [((bn : Int), l)]) (.slice (some ⟨g, 0, none⟩) (st.length + 1) wc) := by rw [hW1]; exact HH.out.om.down
          have hgB : B ≤ g := (own_block HH.out.om.st.out (g := g) rfl).1
          have b1 : Below B w W1 := by rw [hW1]; exact HH.out.bel.setCell hgB _
          have L1 : OwnI W1 B (.slice a3 out.length c3) out.length out := by
            rw [hW1]
            exact ⟨HH.out.ln.len, own_move HH.out.ln.out fun k hk => heap_set_other fun e => HH.out.om.line HH.out.ln g (.inr (.inr (.inr (.inr rfl)))) (by rw [← e]; exact hk)⟩
          obtain ⟨Z1, hZ1⟩ : ∃ Z1, Z1 = W1.drew := ⟨_, rfl⟩
          have MZ : OM Z1 B B (B + 1) (B + 1 + 1) (B + 1 + 1 + 1) (some ⟨rb, ro, none⟩) n c vis (st ++ [((bn : Int), l)]) (.slice (some ⟨g, 0, none⟩) (st.length + 1) wc) := by rw [hZ1]; exact M1.move fun _ _ => rfl
          have LZ : OwnI Z1 B (.slice a3 out.length c3) out.length out := by rw [hZ1]; exact ⟨L1.len, own_move L1.out fun _ _ => rfl⟩
          have bZ : Below B w Z1 := by rw [hZ1]; exact b1.drew
          have kz : ∀ {p : Addr} {u : Value}, w.cell? p = some u → Z1.cell? p = some u := fun {p u} h => (bZ.cell (p := p) (by have := block_lt_of_cell h; have := HB.out; omega)).trans h
          have z1 : Z1.cell? ⟨B, 0, none⟩ = some (.slice (some ⟨rb, ro, none⟩) n c) := cell_arr MZ.tx rfl
          obtain ⟨_, _, e9, _, _, _, z2, z3, _⟩ := MZ.st.top
          cases e9
          have z4 := kz krw
          have z5 := kz kx
          have hBZ : B ≤ Z1.heap.size := by have := bZ.size; have := HB.out; omega
          have hvz := visit_any Z1 MZ hBZ hrb (by omega) hnc hcm xn hxn (kz kxr) (by simp; omega)
          have FIN : Hid (∀ w5, (((xn : Int) ∈ vis ∧ w5 = Z1) ∨ (xn : Int) ∉ vis ∧ ∃ vw', OM w5 B B (B + 1) (B + 1 + 1) (B + 1 + 1 + 1) (some ⟨rb, ro, none⟩) n c (vis ++ [(xn : Int)]) (st ++ [((bn : Int), l)] ++ [((xn : Int), (rowOf Ls (xn : Int)).length)]) vw' ∧ Only (OV (B + 1) (B + 1 + 1) (.slice (some ⟨g, 0, none⟩) (st.length + 1) wc)) Z1 w5 ∧ (∀ k, vw'.ownBlock = some k → (Value.slice (some ⟨g, 0, none⟩) (st.length + 1) wc).ownBlock = some k ∨ Z1.heap.size ≤ k)) → ∃ s vw, s.out = out ∧ LHd w w5 B B (B + 1) (B + 1 + 1) (B + 1 + 1 + 1) (some ⟨rb, ro, none⟩) n c Ls G s vw (.slice a3 out.length c3)) := by
            have ex : (rowOf Ls (bn : Int)).getD l 0 = (xn : Int) := by rw [← hrow, ← hx]
            rintro w5 (⟨h, rfl⟩ | ⟨h, vw', M5, o5, _⟩)
            · exact ⟨_, _, rfl, HH.out.old HG.out (by rw [ex]; exact h) MZ LZ bZ⟩
            · refine ⟨_, _, rfl, HH.out.new HG.out (vw' := vw') (by rw [ex]; exact h) (by rw [ex]; exact M5) ?_ (bZ.trans (o5.below hBZ (MZ.bot (by omega) (by omega))))⟩
              exact ⟨LZ.len, own_move LZ.out fun k hk => o5.block k (own_block LZ.out hk).2 fun hv => MZ.line LZ k (by rcases hv with h | h | h; exact .inr (.inl h); exact .inr (.inr (.inl h)); exact .inr (.inr (.inr (.inr h)))) hk⟩
          rw [← hm] at ky k0 k1 kf hc1 hml z2 z3 hW1 hvz FIN
          replace k1 : wr.cell? ⟨g, m * 2 + 1, none⟩ = some (.int .i64 ((l : Int) + 1)) := k1
          have HVZ : Hid _ := hvz
          have HW1 : Hid (W1 = wr.setCell ⟨g, m * 2 + 1, none⟩ (.int .i64 (l : Int))) := hW1
          have HZ1 : Hid (Z1 = W1.drew) := hZ1
          have hl63 : l ≤ 9223372036854775806 := by omega
          clear HH hbv hbr hoi hpl hm hll krw hIr hro hrow hxm kx hx hx2 kxr hrl M1 b1 L1 hW1 MZ LZ bZ kz hZ1 hvz
          go_wp2_with fail
          rw [← HW1.out]
          rw [HZ1.out] at z1 z2 z3 z4 z5
          have y1 : W1.cell? ⟨B, 0, none⟩ = some (.slice (some ⟨rb, ro, none⟩) n c) := z1
          have y2 : W1.cell? ⟨g, m * 2, none⟩ = some (.int .i64 (bn : Int)) := z2
          have y3 : W1.cell? ⟨g, m * 2 + 1, none⟩ = some (.int .i64 (l : Int)) := z3
          have y4 : W1.cell? ⟨rb, ro + bn, none⟩ = some (.slice (some ⟨xb, xo, none⟩) rl cr) := z4
          have y5 : W1.cell? ⟨xb, xo + l, none⟩ = some (.int .i64 (xn : Int)) := z5
          rw [HZ1.out] at HVZ FIN
          clear z1 z2 z3 z4 z5 k0 k1 kf ky HW1 HZ1
          go_region_with (refine Calls.mono HVZ.out ?_; rintro e w5 ⟨rfl, h5⟩)
          all_goals
            obtain ⟨s5, vw5, eo5, L5⟩ := FIN.out w5 h5
            have HL5 : Hid _ := L5
            have HE5 : Hid (s5.out = out) := eo5
            clear h5 L5 eo5 FIN HVZ
            go_wp2_with fail
            go_roundg G
            case rel => exact ⟨s5, vw5, a3, c3, by rw [HE5.out], by rw [HE5.out]; exact HL5.out⟩
            case measure => omega
  · have hf : goodP Ls = false := by simpa using hg
    have HR : Hid (linP Ls = []) := by show _ = _; rw [linP, if_neg hg]
    rw [hf] at hkn
    have HB1 : Hid _ := hb1
    clear hI hg hf hn hb1
    go_enter Try.func12, Try.ntmps12
    go_wp2_with fail
    refine hkn.mono ?_
    rintro e w' ⟨rfl, rfl⟩
    go_wp2_with fail
    go_ret
    rw [HR.out]
    exact ⟨_, rfl, OwnI.nil _ _, HB1.out⟩
end Go.Proofs.Ytplpgeocidllfaa
