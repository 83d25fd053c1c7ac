import Derived.Test.YtplpgeocidllfaaOrK
set_option linter.unusedVariables false
set_option linter.unusedSimpArgs false
namespace Go.Proofs.Ytplpgeocidllfaa
open Go.ChangeShapes Go.WideShapes Go.ChangeAt Go.RowKit Go.Maps

/-- At the head of the loop of stays: what is lent from the k-th list on. -/
structure SH (w wr : World) (B g4 n k : Nat) (vf : Value) (gs cs : List Nat) (Ls : List (List Int)) : Prop where
  box : ∃ cur, wr.heap[g4]? = some (.cells cur 27 (0, 0)) ∧ ∀ i, k ≤ i → i < n → cur[i]? = some (.slice (some ⟨gs.getD i 0, 0, none⟩) (Ls.getD i []).length (cs.getD i 0))
  ful : OwnV wr B vf (ftv gs cs Ls)
  row : ∀ i, k ≤ i → i < n → OwnI wr B (.slice (some ⟨gs.getD i 0, 0, none⟩) ((Ls.getD i []).length + 3) (cs.getD i 0)) ((Ls.getD i []).length + 3) (Ls.getD i [] ++ [-71, -72, -73])
  bel : Below B w wr
  oth : ∀ b, b < w.heap.size → b ≠ g4 → (∀ i, i < n → b ≠ gs.getD i 0) → wr.heap[b]? = w.heap[b]?
theorem SH.start {w wr : World} {B g4 n c4 : Nat} {vf : Value} {gs cs : List Nat} {Ls : List (List Int)} {r : List Value} (hn : n = Ls.length) (h : w.ownsRow B 27 1 (.slice (some ⟨g4, 0, none⟩) (n + 2) c4) (n + 2) (ltv gs cs Ls ++ r)) (hf : OwnV w B vf (ftv gs cs Ls)) (hl : LT w B gs cs Ls) (hb : Below w.heap.size w wr) (hB : B ≤ w.heap.size) : SH w wr B g4 n 0 vf gs cs Ls := by
  have hlt := (own_block h (g := g4) rfl).2
  refine ⟨?_, hf.keep hb, fun i _ hi => (hl.row i (by omega)).keep hb, hb.mono hB, fun b h1 _ _ => hb.block b h1⟩
  rcases h.2 with ⟨e, _⟩ | ⟨g, cap, cur, e, _, e3, e4, _, e6, e7⟩
  · cases e
  · cases e
    refine ⟨cur, by rw [hb.block _ hlt]; exact e3, fun i _ hi => ?_⟩
    have h1 : (List.take ((n + 2) * 1) cur.toList)[i]? = (ltv gs cs Ls ++ r)[i]? := by rw [e7]
    rw [List.getElem?_take_of_lt (by omega), List.getElem?_append_left (by rw [ltv_len]; omega)] at h1
    rw [← Array.getElem?_toList, h1]
    simp [ltv, hn ▸ hi]
set_option maxRecDepth 100000 in
set_option maxHeartbeats 8000000 in
theorem stays_any (w0 w : World) (ao : Option Addr) (n c : Nat) (Ls : List (List Int)) (hn : n = Ls.length) (hI : IRow w0 ao c Ls) (hz : RZ w0 ao n) (hsz : n ≤ 1000000) (hM : ∀ l ∈ Ls, l.length ≤ 1000000) (B : Nat) (hB0 : B = w0.heap.size) (b0 : Below B w0 w) (g4 c4 g1 g2 : Nat) (af : Option Addr) (cf : Nat) (gs cs : List Nat) (hv : OwnV w B (.slice (some ⟨g4, 0, none⟩) (n + 2) c4) (ltv gs cs Ls ++ [.slice (some ⟨g1, 0, none⟩) 1 1, .slice (some ⟨g2, 0, none⟩) 1 1])) (hf : OwnV w B (.slice af n cf) (ftv gs cs Ls)) (hfg : (Value.slice af n cf).ownBlock ≠ some g4) (hl : LT w B gs cs Ls)
    (r1 : OwnI w B (.slice (some ⟨g1, 0, none⟩) 1 1) 1 [-74]) (r2 : OwnI w B (.slice (some ⟨g2, 0, none⟩) 1 1) 1 [-75]) :
    Calls Try.prog 13 #[.slice ao n c, .slice (some ⟨g4, 0, none⟩) n c4, .slice af n cf] w fun e w' => e = .returned (.bool true) ∧ Below B w w' ∧ ∀ b, b < w.heap.size → b ≠ g4 → (∀ i, i < n → b ≠ gs.getD i 0) → w'.heap[b]? = w.heap[b]? := by
  have hll := ltv_len gs cs Ls
  have hv2 := hv.out
  rw [show (ltv gs cs Ls ++ [Value.slice (some ⟨g1, 0, none⟩) 1 1, .slice (some ⟨g2, 0, none⟩) 1 1]).length = n + 2 by simp [hll, hn]] at hv2
  have k1 : w.cell? ⟨g4, n, none⟩ = some (.slice (some ⟨g1, 0, none⟩) 1 1) := by
    rw [own_cell hv2 n (by omega), List.getElem?_append_right (by omega), hll, ← hn]; simp
  have k2 : w.cell? ⟨g4, n + 1, none⟩ = some (.slice (some ⟨g2, 0, none⟩) 1 1) := by
    rw [own_cell hv2 (n + 1) (by omega), List.getElem?_append_right (by omega), hll, ← hn]; simp
  obtain ⟨_, _, e9, hc4, hc4', hg4, _⟩ := own_some hv2 (by omega)
  cases e9
  have hap : ∀ i, i < Ls.length → g4 ≠ gs.getD i 0 := fun i hi e => hl.ap hv i hi (by rw [← e]; rfl)
  have HN : Hid (n = Ls.length) := hn
  have HI : Hid (IRow w0 ao c Ls) := hI
  have HZ : Hid (RZ w0 ao n) := hz
  have HB0 : Hid (B = w0.heap.size) := hB0
  have HLO : Hid (Below B w0 w) := b0
  have hB : B ≤ w.heap.size := by have := b0.size; omega
  have HM : Hid (∀ l ∈ Ls, l.length ≤ 1000000) := hM
  have HV : Hid _ := hv2
  have HFF : Hid _ := hf
  have HFG : Hid ((Value.slice af n cf).ownBlock ≠ some g4) := hfg
  have HL : Hid _ := hl
  have HAP : Hid (∀ i, i < Ls.length → g4 ≠ gs.getD i 0) := hap
  have HR1 : Hid _ := r1
  have HR2 : Hid _ := r2
  have hc4i : (n : Int) + 2 ≤ (c4 : Int) := by omega
  clear hn hI hz hM hv hv2 hl hap r1 r2 hll hB0 b0 hf hfg
  go_enter Try.func13, Try.ntmps13
  go_wp2_with fail
  have bA : Below w.heap.size w (w.alloc (.cells #[.int .i64 (-74)] 3)) := (Below.refl _ _).alloc (Nat.le_refl _) _
  have i1 : Ints (w.alloc (.cells #[.int .i64 (-74)] 3)) (some ⟨g1, 0, none⟩) 1 [-74] := by
    obtain ⟨_, _, e, h⟩ := HR1.out.ints; cases e; exact h.below bA (Nat.le_refl _)
  have i2 : Ints (w.alloc (.cells #[.int .i64 (-74)] 3)) (some ⟨w.heap.size, 0, none⟩) 1 [-74] := ints_exact (L := [-74]) (heap_alloc_new _ _) (by simp)
  refine (sameO_any _ _ _ _ _ 1 1 [-74] [-74] rfl rfl i1 i2).mono ?_
  rintro e w1 ⟨rfl, b1⟩
  rw [show decide (([-74] : List Int) = [-74]) = true by decide]
  have HB1 : Hid (Below w.heap.size w w1) := bA.trans (b1.mono bA.size)
  clear i1 i2 bA b1
  replace k2 := (HB1.out.cell (p := ⟨g4, n + 1, none⟩) (by assumption)).trans k2
  have hs1 := HB1.out.size
  clear k1
  go_wp2_with fail
  have bA : Below w1.heap.size w1 (w1.alloc (.cells #[.int .i64 (-75)] 3)) := (Below.refl _ _).alloc (Nat.le_refl _) _
  have i1 : Ints (w1.alloc (.cells #[.int .i64 (-75)] 3)) (some ⟨g2, 0, none⟩) 1 [-75] := by
    obtain ⟨_, _, e, h⟩ := HR2.out.ints; cases e; exact (h.below HB1.out (Nat.le_refl _)).below bA (Nat.le_refl _)
  have i2 : Ints (w1.alloc (.cells #[.int .i64 (-75)] 3)) (some ⟨w1.heap.size, 0, none⟩) 1 [-75] := ints_exact (L := [-75]) (heap_alloc_new _ _) (by simp)
  refine (sameO_any _ _ _ _ _ 1 1 [-75] [-75] rfl rfl i1 i2).mono ?_
  rintro e w2 ⟨rfl, b2⟩
  rw [show decide (([-75] : List Int) = [-75]) = true by decide]
  have HB2 : Hid (Below w.heap.size w w2) := HB1.out.trans ((bA.trans (b2.mono bA.size)).mono hs1)
  clear i1 i2 bA b2 HB1 hs1 k2
  go_wp2_with fail
  have ST : Hid (SH w w2 B g4 n 0 (.slice af n cf) gs cs Ls) := SH.start HN.out HV.out HFF.out HL.out HB2.out hB
  clear HV HR1 HR2 HB2
  go_loopg [8, 9] n (fun q ov iv wr => ∃ k : Nat, k ≤ n ∧ q = n - k ∧ ov = .bool true ∧ iv = .int .i64 (k : Int) ∧ Hid (SH w wr B g4 n k (.slice af n cf) gs cs Ls))
  case atStart => exact ⟨0, by omega, by omega, rfl, rfl, ST.out⟩
  case round =>
    clear ST
    obtain ⟨k, hk, rfl, rfl, rfl, HH⟩ := hrel
    by_cases hlt : k < n
    · have hkL : k < Ls.length := by have := HN.out; omega
      have HBW : Hid (Below B w0 wr) := HLO.out.trans HH.out.bel
      obtain ⟨rb, ro, ar, cr, rfl, krw, hIr⟩ := HI.out.at hkL
      have kr := (HBW.out.cell (p := ⟨rb, ro + k, none⟩) (by rw [HB0.out]; exact block_lt_of_cell krw)).trans krw
      have hzr : ar = none → cr = 0 := fun e => by subst e; exact HZ.out rb ro k _ cr rfl hlt krw
      obtain ⟨L, hL⟩ : ∃ L, L = Ls[k] := ⟨_, rfl⟩
      rw [← hL] at kr hIr
      have hLm : L.length ≤ 1000000 := by rw [hL]; exact HM.out _ (List.getElem_mem hkL)
      obtain ⟨m, hm⟩ : ∃ m, m = L.length := ⟨_, rfl⟩
      rw [← hm] at kr hLm
      have hmc : m ≤ cr := by have := hIr.le; omega
      have hmx : cr ≤ 9223372036854775807 := hIr.mx
      have hgd : Ls.getD k [] = L := by rw [hL]; simp [hkL]
      obtain ⟨g, hg⟩ : ∃ g, g = gs.getD k 0 := ⟨_, rfl⟩
      obtain ⟨cg, hcg⟩ : ∃ cg, cg = cs.getD k 0 := ⟨_, rfl⟩
      have RW := HH.out.row k (Nat.le_refl _) hlt
      rw [hgd, ← hg, ← hcg, ← hm] at RW
      obtain ⟨_, _, e9, q1, q2, q3, q4⟩ := own_some RW.out (by omega)
      cases e9
      obtain ⟨cur, hcu, hcs⟩ := HH.out.box
      have kb : wr.cell? ⟨g4, k, none⟩ = some (.slice (some ⟨g, 0, none⟩) m cg) := by
        have := hcs k (Nat.le_refl _) hlt
        rw [hgd, ← hg, ← hcg, ← hm] at this
        exact cell_arr hcu this
      have hfu := HH.out.ful.out
      have hfl : (ftv gs cs Ls).length = n := by rw [ftv_len, HN.out]
      rw [hfl] at hfu
      obtain ⟨gf, _, e9, hcf1, hcf2, _, hgf⟩ := own_some hfu (by omega)
      cases e9
      have kff : wr.cell? ⟨gf, k, none⟩ = some (.slice (some ⟨g, 0, none⟩) (m + 3) cg) := by
        rw [own_cell hfu k (by omega)]
        simp [ftv, hkL]
        rw [show Ls[k].length = m by rw [hm, hL]]
        simp [hg, hcg]
      have hgfg : gf ≠ g := fun e => by
        have := own_apart hfu RW.out (by decide) gf rfl
        exact this (by rw [e]; rfl)
      have HI1 : Hid (Ints wr ar cr L) := hIr.below HBW.out (by rw [HB0.out]; exact Nat.le_refl _)
      have HZR : Hid (ar = none → cr = 0) := hzr
      have HMM : Hid (m = L.length) := hm
      have HRW : Hid _ := RW
      have HG : Hid (g = gs.getD k 0) := hg
      have HCK : Hid (Ls.getD k [] = L ∧ cg = cs.getD k 0) := ⟨hgd, hcg⟩
      have HCU : Hid _ := hcu
      have HCS : Hid _ := hcs
      have HKB : Hid (wr.cell? ⟨g4, k, none⟩ = some (.slice (some ⟨g, 0, none⟩) m cg)) := kb
      have HKF : Hid (wr.cell? ⟨gf, k, none⟩ = some (.slice (some ⟨g, 0, none⟩) (m + 3) cg)) := kff
      have HKR : Hid _ := kr
      clear hIr krw hzr hL hm hgd hg hcg RW hcu hcs hfu hfl kb kff
      go_wp2_with (first
        | (at_builtin; refine wpList_copyW (by rfl) _ _ rfl wr.heap.size rfl ar m cr L HMM.out HI1.out HZR.out rfl (by omega) (Nat.le_refl _) ?_; intro v1 w4 o1 b1
           have hs1 := b1.size
           have HO1 := show Hid _ from o1
           have HB1 := show Hid _ from b1
           obtain ⟨a1, c1, e1, _, _⟩ := own_slice o1.out
           subst e1
           clear o1 b1)
        | (at_builtin; refine wpList_append_three (w0 := w4) rfl _ _ rfl wr.heap.size (.slice a1 m c1) m L (-71) (-72) (-73) rfl HO1.out rfl (by omega) hs1 ?_; intro v2 w5 o2 g2
           have b2 : Below wr.heap.size wr w5 := HB1.out.trans g2.bel
           have HO2 := show Hid _ from o2
           have HB2 := show Hid _ from b2
           have hs2 := b2.size
           obtain ⟨gg, c2, e2, hc2, hc2', hg2, hg2'⟩ := own_some o2.out (by omega)
           subst e2
           clear o2 g2 b2))
      have hlm : m + 3 = (L ++ [-71, -72, -73]).length := by have := HMM.out; simp; omega
      have i1 : Ints w5 (some ⟨g, 0, none⟩) cg (L ++ [-71, -72, -73]) := by
        obtain ⟨_, _, e, h⟩ := HRW.out.ints; cases e; exact h.below HB2.out (Nat.le_refl _)
      have i2 : Ints w5 (some ⟨gg, 0, none⟩) c2 (L ++ [-71, -72, -73]) := by
        obtain ⟨_, _, e, h⟩ := HO2.out.ints; cases e; exact h
      have i3 : Ints w5 (some ⟨g, 0, none⟩) cg L := by
        have h := HRW.out.keep HB2.out
        exact h.prefix HMM.out (by omega) (by omega)
      have i4 : Ints w5 ar cr L := HI1.out.below HB2.out (Nat.le_refl _)
      have kc : ∀ {w' : World} {p : Addr} {u : Value}, Below w5.heap.size w5 w' → wr.cell? p = some u → w'.cell? p = some u := fun {w' p u} hb h => by
        have h5 := (HB2.out.cell (p := p) (block_lt_of_cell h)).trans h
        exact (hb.cell (p := p) (block_lt_of_cell h5)).trans h5
      have SS : ∀ w' : World, Below w5.heap.size w5 w' → Below w5.heap.size w5 w' ∧ w'.cell? ⟨gf, k, none⟩ = some (.slice (some ⟨g, 0, none⟩) (m + 3) cg) ∧ w'.cell? ⟨g4, k, none⟩ = some (.slice (some ⟨g, 0, none⟩) m cg) ∧ w'.cell? ⟨rb, ro + k, none⟩ = some (.slice ar m cr) := fun w' hb => ⟨hb, kc hb HKF.out, kc hb HKB.out, kc hb HKR.out⟩
      have C1 : Hid (∀ w' : World, Below w5.heap.size w5 w' → Calls Try.prog 14 #[.slice (some ⟨g, 0, none⟩) (m + 3 : Nat) cg, .slice (some ⟨gg, 0, none⟩) (m + 3 : Nat) c2] w' fun e w'' => e = .returned (.bool true) ∧ (fun w' : World => Below w5.heap.size w5 w' ∧ w'.cell? ⟨gf, k, none⟩ = some (.slice (some ⟨g, 0, none⟩) (m + 3) cg) ∧ w'.cell? ⟨g4, k, none⟩ = some (.slice (some ⟨g, 0, none⟩) m cg) ∧ w'.cell? ⟨rb, ro + k, none⟩ = some (.slice ar m cr)) w'') := fun w' hb => by
        refine (sameO_any w' _ _ _ _ (m + 3) (m + 3) _ _ hlm hlm (i1.below hb (Nat.le_refl _)) (i2.below hb (Nat.le_refl _))).mono ?_
        rintro e w'' ⟨rfl, b6⟩
        exact ⟨by simp, SS w'' (hb.trans (b6.mono hb.size))⟩
      have C2 : Hid (∀ w' : World, Below w5.heap.size w5 w' → Calls Try.prog 14 #[.slice (some ⟨g, 0, none⟩) m cg, .slice ar m cr] w' fun e w'' => e = .returned (.bool true) ∧ (fun w' : World => Below w5.heap.size w5 w' ∧ w'.cell? ⟨gf, k, none⟩ = some (.slice (some ⟨g, 0, none⟩) (m + 3) cg) ∧ w'.cell? ⟨g4, k, none⟩ = some (.slice (some ⟨g, 0, none⟩) m cg) ∧ w'.cell? ⟨rb, ro + k, none⟩ = some (.slice ar m cr)) w'') := fun w' hb => by
        refine (sameO_any w' _ _ _ _ m m _ _ HMM.out HMM.out (i3.below hb (Nat.le_refl _)) (i4.below hb (Nat.le_refl _))).mono ?_
        rintro e w'' ⟨rfl, b6⟩
        exact ⟨by simp, SS w'' (hb.trans (b6.mono hb.size))⟩
      have S0 := SS w5.drew (Below.refl _ _).drew
      clear i1 i2 i3 i4 kc SS HI1 HZR HO1 HO2 HB1 hs1 hg2 hg2' hlm
      go_wp2_with fail
      have hk2 : (k : Int) < (n : Int) + 2 := by omega
      refine led_start (S := fun w' : World => Below w5.heap.size w5 w' ∧ w'.cell? ⟨gf, k, none⟩ = some (.slice (some ⟨g, 0, none⟩) (m + 3) cg) ∧ w'.cell? ⟨g4, k, none⟩ = some (.slice (some ⟨g, 0, none⟩) m cg) ∧ w'.cell? ⟨rb, ro + k, none⟩ = some (.slice ar m cr)) (z := 20) (by kernel_rfl) ?_
      show led _ _ _ _ _ 21 _ _ _
      try simp only [List.size_toArray, List.length_cons, List.length_nil, Array.replicate]
      refine led_take (i := 0) (v := ?v0) rfl (by kernel_rfl) (by kernel_rfl) (by kernel_rfl) (by kernel_rfl) (fun _ _ _ h => h) (.inl ⟨by rfl, ?hy0⟩) S0 ?rest0
      case hy0 =>
        rintro w' ⟨h1, h2, h3, h4⟩
        go_simp
        all_goals with_reducible rfl
      try simp only [Act.put, List.getElem_toArray, List.getElem_cons_succ, List.getElem_cons_zero, List.setIfInBounds_toArray, List.set_cons_zero, List.set_cons_succ]
      refine led_take (i := 1) (v := ?v1) rfl (by kernel_rfl) (by kernel_rfl) (by kernel_rfl) (by kernel_rfl) (fun _ _ _ h => h) (.inl ⟨by rfl, ?hy1⟩) S0 ?rest1
      case hy1 =>
        rintro w' ⟨h1, h2, h3, h4⟩
        go_simp
        all_goals with_reducible rfl
      try simp only [Act.put, List.getElem_toArray, List.getElem_cons_succ, List.getElem_cons_zero, List.setIfInBounds_toArray, List.set_cons_zero, List.set_cons_succ]
      refine led_take (i := 2) (v := ?v2) rfl (by kernel_rfl) (by kernel_rfl) (by kernel_rfl) (by kernel_rfl) (fun _ _ _ h => h) (.inl ⟨by rfl, ?hy2⟩) S0 ?rest2
      case hy2 =>
        rintro w' ⟨h1, h2, h3, h4⟩
        go_simp
        all_goals with_reducible rfl
      try simp only [Act.put, List.getElem_toArray, List.getElem_cons_succ, List.getElem_cons_zero, List.setIfInBounds_toArray, List.set_cons_zero, List.set_cons_succ]
      refine led_take (i := 3) (v := ?v3) rfl (by kernel_rfl) (by kernel_rfl) (by kernel_rfl) (by kernel_rfl) (fun _ _ _ h => h) (.inl ⟨by rfl, ?hy3⟩) S0 ?rest3
      case hy3 =>
        rintro w' ⟨h1, h2, h3, h4⟩
        go_simp
        all_goals with_reducible rfl
      try simp only [Act.put, List.getElem_toArray, List.getElem_cons_succ, List.getElem_cons_zero, List.setIfInBounds_toArray, List.set_cons_zero, List.set_cons_succ]
      refine led_take (i := 4) (v := ?v4) rfl (by kernel_rfl) (by kernel_rfl) (by kernel_rfl) (by kernel_rfl) (fun _ _ _ h => h) (.inl ⟨by rfl, ?hy4⟩) S0 ?rest4
      case hy4 =>
        rintro w' ⟨h1, h2, h3, h4⟩
        go_simp
        all_goals with_reducible rfl
      try simp only [Act.put, List.getElem_toArray, List.getElem_cons_succ, List.getElem_cons_zero, List.setIfInBounds_toArray, List.set_cons_zero, List.set_cons_succ]
      refine led_take (i := 5) (v := ?v5) rfl (by kernel_rfl) (by kernel_rfl) (by kernel_rfl) (by kernel_rfl) (fun _ _ _ h => h) (.inl ⟨by rfl, ?hy5⟩) S0 ?rest5
      case hy5 =>
        rintro w' ⟨h1, h2, h3, h4⟩
        go_simp
        all_goals with_reducible rfl
      try simp only [Act.put, List.getElem_toArray, List.getElem_cons_succ, List.getElem_cons_zero, List.setIfInBounds_toArray, List.set_cons_zero, List.set_cons_succ]
      refine led_take (i := 6) (v := ?v6) rfl (by kernel_rfl) (by kernel_rfl) (by kernel_rfl) (by kernel_rfl) (fun _ _ _ h => h) (.inl ⟨by rfl, ?hy6⟩) S0 ?rest6
      case hy6 =>
        rintro w' ⟨h1, h2, h3, h4⟩
        go_simp
        all_goals with_reducible rfl
      try simp only [Act.put, List.getElem_toArray, List.getElem_cons_succ, List.getElem_cons_zero, List.setIfInBounds_toArray, List.set_cons_zero, List.set_cons_succ]
      refine led_one (i := 7) rfl (by kernel_rfl) ?_
      intro K7 hK7
      rw [if_pos (by rfl)]
      go_simp
      refine Calls.mono (C1.out _ S0.1) ?_
      rintro e w6 ⟨rfl, S1⟩
      go_simp
      refine hK7 _ _ (fun _ => S1) ?_
      clear hK7
      try simp only [Act.put, List.getElem_toArray, List.getElem_cons_succ, List.getElem_cons_zero, List.setIfInBounds_toArray, List.set_cons_zero, List.set_cons_succ]
      refine led_take (i := 8) (v := ?v8) rfl (by kernel_rfl) (by kernel_rfl) (by kernel_rfl) (by kernel_rfl) (fun _ _ _ h => h) (.inl ⟨by rfl, ?hy8⟩) S1 ?rest8
      case hy8 =>
        rintro w' ⟨h1, h2, h3, h4⟩
        go_simp
        all_goals with_reducible rfl
      try simp only [Act.put, List.getElem_toArray, List.getElem_cons_succ, List.getElem_cons_zero, List.setIfInBounds_toArray, List.set_cons_zero, List.set_cons_succ]
      refine led_take (i := 9) (v := ?v9) rfl (by kernel_rfl) (by kernel_rfl) (by kernel_rfl) (by kernel_rfl) (fun _ _ _ h => h) (.inl ⟨by rfl, ?hy9⟩) S1 ?rest9
      case hy9 =>
        rintro w' ⟨h1, h2, h3, h4⟩
        go_simp
        all_goals with_reducible rfl
      try simp only [Act.put, List.getElem_toArray, List.getElem_cons_succ, List.getElem_cons_zero, List.setIfInBounds_toArray, List.set_cons_zero, List.set_cons_succ]
      refine led_take (i := 10) (v := ?v10) rfl (by kernel_rfl) (by kernel_rfl) (by kernel_rfl) (by kernel_rfl) (fun _ _ _ h => h) (.inl ⟨by rfl, ?hy10⟩) S1 ?rest10
      case hy10 =>
        rintro w' ⟨h1, h2, h3, h4⟩
        go_simp
        all_goals with_reducible rfl
      try simp only [Act.put, List.getElem_toArray, List.getElem_cons_succ, List.getElem_cons_zero, List.setIfInBounds_toArray, List.set_cons_zero, List.set_cons_succ]
      refine led_take (i := 11) (v := ?v11) rfl (by kernel_rfl) (by kernel_rfl) (by kernel_rfl) (by kernel_rfl) (fun _ _ _ h => h) (.inl ⟨by rfl, ?hy11⟩) S1 ?rest11
      case hy11 =>
        rintro w' ⟨h1, h2, h3, h4⟩
        go_simp
        all_goals with_reducible rfl
      try simp only [Act.put, List.getElem_toArray, List.getElem_cons_succ, List.getElem_cons_zero, List.setIfInBounds_toArray, List.set_cons_zero, List.set_cons_succ]
      refine led_take (i := 12) (v := ?v12) rfl (by kernel_rfl) (by kernel_rfl) (by kernel_rfl) (by kernel_rfl) (fun _ _ _ h => h) (.inl ⟨by rfl, ?hy12⟩) S1 ?rest12
      case hy12 =>
        rintro w' ⟨h1, h2, h3, h4⟩
        go_simp
        all_goals with_reducible rfl
      try simp only [Act.put, List.getElem_toArray, List.getElem_cons_succ, List.getElem_cons_zero, List.setIfInBounds_toArray, List.set_cons_zero, List.set_cons_succ]
      refine led_take (i := 13) (v := ?v13) rfl (by kernel_rfl) (by kernel_rfl) (by kernel_rfl) (by kernel_rfl) (fun _ _ _ h => h) (.inl ⟨by rfl, ?hy13⟩) S1 ?rest13
      case hy13 =>
        rintro w' ⟨h1, h2, h3, h4⟩
        go_simp
        all_goals with_reducible rfl
      try simp only [Act.put, List.getElem_toArray, List.getElem_cons_succ, List.getElem_cons_zero, List.setIfInBounds_toArray, List.set_cons_zero, List.set_cons_succ]
      refine led_take (i := 14) (v := ?v14) rfl (by kernel_rfl) (by kernel_rfl) (by kernel_rfl) (by kernel_rfl) (fun _ _ _ h => h) (.inl ⟨by rfl, ?hy14⟩) S1 ?rest14
      case hy14 =>
        rintro w' ⟨h1, h2, h3, h4⟩
        go_simp
        all_goals with_reducible rfl
      try simp only [Act.put, List.getElem_toArray, List.getElem_cons_succ, List.getElem_cons_zero, List.setIfInBounds_toArray, List.set_cons_zero, List.set_cons_succ]
      refine led_take (i := 15) (v := ?v15) rfl (by kernel_rfl) (by kernel_rfl) (by kernel_rfl) (by kernel_rfl) (fun _ _ _ h => h) (.inl ⟨by rfl, ?hy15⟩) S1 ?rest15
      case hy15 =>
        rintro w' ⟨h1, h2, h3, h4⟩
        go_simp
        all_goals with_reducible rfl
      try simp only [Act.put, List.getElem_toArray, List.getElem_cons_succ, List.getElem_cons_zero, List.setIfInBounds_toArray, List.set_cons_zero, List.set_cons_succ]
      refine led_take (i := 16) (v := ?v16) rfl (by kernel_rfl) (by kernel_rfl) (by kernel_rfl) (by kernel_rfl) (fun _ _ _ h => h) (.inl ⟨by rfl, ?hy16⟩) S1 ?rest16
      case hy16 =>
        rintro w' ⟨h1, h2, h3, h4⟩
        go_simp
        all_goals with_reducible rfl
      try simp only [Act.put, List.getElem_toArray, List.getElem_cons_succ, List.getElem_cons_zero, List.setIfInBounds_toArray, List.set_cons_zero, List.set_cons_succ]
      refine led_take (i := 17) (v := ?v17) rfl (by kernel_rfl) (by kernel_rfl) (by kernel_rfl) (by kernel_rfl) (fun _ _ _ h => h) (.inl ⟨by rfl, ?hy17⟩) S1 ?rest17
      case hy17 =>
        rintro w' ⟨h1, h2, h3, h4⟩
        go_simp
        all_goals with_reducible rfl
      try simp only [Act.put, List.getElem_toArray, List.getElem_cons_succ, List.getElem_cons_zero, List.setIfInBounds_toArray, List.set_cons_zero, List.set_cons_succ]
      refine led_one (i := 18) rfl (by kernel_rfl) ?_
      intro K18 hK18
      rw [if_pos (by rfl)]
      go_simp
      refine Calls.mono (C2.out _ S1.1) ?_
      rintro e w7 ⟨rfl, S2⟩
      go_simp
      refine hK18 _ _ (fun _ => S2) ?_
      clear hK18
      try simp only [Act.put, List.getElem_toArray, List.getElem_cons_succ, List.getElem_cons_zero, List.setIfInBounds_toArray, List.set_cons_zero, List.set_cons_succ]
      refine led_take (i := 19) (v := ?v19) rfl (by kernel_rfl) (by kernel_rfl) (by kernel_rfl) (by kernel_rfl) (fun _ _ _ h => h) (.inl ⟨by rfl, ?hy19⟩) S2 ?rest19
      case hy19 =>
        rintro w' ⟨h1, h2, h3, h4⟩
        go_simp
        all_goals with_reducible rfl
      try simp only [Act.put, List.getElem_toArray, List.getElem_cons_succ, List.getElem_cons_zero, List.setIfInBounds_toArray, List.set_cons_zero, List.set_cons_succ]
      refine led_one (i := 20) rfl (by kernel_rfl) ?_
      intro K20 hK20
      rw [if_pos (by rfl)]
      go_simp
      refine hK20 _ _ (fun h => absurd rfl h) ?_
      clear hK20 S0 S1 C1 C2
      refine led_done (by kernel_rfl) ?_
      have HB7 : Hid (Below wr.heap.size wr w7) := HB2.out.trans (S2.1.mono HB2.out.size)
      have hs7 := HB7.out.size
      obtain ⟨cur2, hc6, hz6⟩ : ∃ cur2, w7.heap[g]? = some (.cells cur2 3 (0, 0)) ∧ m + 3 ≤ cur2.size := by
        rcases HRW.out.out.2 with ⟨e, _⟩ | ⟨_, _, cu, e, _, e3, e4, _, e6, _⟩
        · cases e
        · cases e
          exact ⟨cu, (HB7.out.block _ q4).trans e3, by omega⟩
      have H0 : Hid (Only (fun b => b = g) w7 w7 ∧ ∃ cu, w7.heap[g]? = some (.cells cu 3 (0, 0)) ∧ m + 3 ≤ cu.size) := ⟨Only.refl _ _, cur2, hc6, hz6⟩
      have HKF7 : Hid (w7.cell? ⟨gf, k, none⟩ = some (.slice (some ⟨g, 0, none⟩) (m + 3) cg)) := S2.2.1
      clear S2 hc6 hz6 HB2 hs2
      have hg4w : g4 < wr.heap.size := (Array.getElem?_eq_some_iff.1 HCU.out).1
      have hgg4 : g4 ≠ g := by rw [HG.out]; exact HAP.out k hkL
      have hgf7 : gf < w7.heap.size := by omega
      have FIN : Hid (∀ w8, Only (fun b => b = g) w7 w8 → w8.cell? ⟨g4, k, none⟩ = some (.slice (some ⟨g, 0, none⟩) m cg) ∧ w8.frozen? ⟨g4, k, none⟩ = false ∧ SH w (w8.setCell ⟨g4, k, none⟩ (.slice none 0 0)) B g4 n (k + 1) (.slice (some ⟨gf, 0, none⟩) n cf) gs cs Ls) := by
        intro w8 h8
        have e4 : w8.heap[g4]? = some (.cells cur 27 (0, 0)) := by rw [h8.block g4 (by omega) hgg4, HB7.out.block _ hg4w]; exact HCU.out
        refine ⟨?_, fz_of e4, ⟨_, heap_set_at e4, fun i h1 h2 => ?_⟩, ?_, fun i h1 h2 => ?_, ?_, fun b h1 h2 h3 => ?_⟩
        · have := HCS.out k (Nat.le_refl _) hlt
          rw [HCK.out.1, ← HG.out, ← HCK.out.2, ← HMM.out] at this
          exact cell_arr e4 this
        · have h3 := HCS.out i (by omega) h2
          have hne : k ≠ i := by omega
          simpa [hne] using h3
        · refine HH.out.ful.move fun b hb => ?_
          cases hb
          have n4 : gf ≠ g4 := fun e => HFG.out (by rw [← e]; rfl)
          rw [heap_set_other (w := w8) (g := g4) (i := k) (v := .slice none 0 0) n4, h8.block _ hgf7 hgfg, HB7.out.block _ hgf]
        · have h3 := HH.out.row i (by omega) h2
          have hb := own_block h3.out (g := gs.getD i 0) rfl
          have hi2 : i < Ls.length := by have := HN.out; omega
          refine ⟨h3.len, own_move h3.out fun b hb' => ?_⟩
          have e9 : some (gs.getD i 0) = some b := hb'
          obtain rfl := Option.some.inj e9
          have n1 : gs.getD i 0 ≠ g4 := fun e => HAP.out i hi2 e.symm
          have n2 : gs.getD i 0 ≠ g := fun e => by rw [HG.out] at e; have := HL.out.nd i k hi2 hkL e; omega
          rw [heap_set_other (w := w8) (g := g4) (i := k) (v := .slice none 0 0) n1, h8.block _ (by omega) n2, HB7.out.block _ hb.2]
        · have b8 : Below B w7 w8 := h8.below (by omega) fun b e => by omega
          exact (HH.out.bel.trans ((HB7.out.mono (by omega)).trans b8)).setCell (by show B ≤ g4; omega) _
        · have hsw := HH.out.bel.size
          rw [heap_set_other (w := w8) (g := g4) (i := k) (v := .slice none 0 0) h2, h8.block b (by omega) (by rw [HG.out]; exact h3 k hlt), HB7.out.block b (by omega)]
          exact HH.out.oth b h1 h2 h3
      go_wp2_with fail
      go_loopg [11] (m + 3) (fun q iv wr' => ∃ j : Nat, j ≤ m + 3 ∧ q = m + 3 - j ∧ iv = .int .i64 (j : Int) ∧ Hid (Only (fun b => b = g) w7 wr' ∧ ∃ cu, wr'.heap[g]? = some (.cells cu 3 (0, 0)) ∧ m + 3 ≤ cu.size))
      case atStart => exact ⟨0, by omega, by omega, rfl, H0.out⟩
      case round =>
        clear H0
        obtain ⟨j, hj, rfl, rfl, HJ⟩ := hrel
        have kf8 : wr.cell? ⟨gf, k, none⟩ = some (.slice (some ⟨g, 0, none⟩) (m + 3) cg) := (World.cell?_of_block (HJ.out.1.block gf hgf7 hgfg)).trans HKF7.out
        by_cases hjl : j < m + 3
        · obtain ⟨o7, cu, h7, hz7⟩ := HJ.out
          obtain ⟨z, kz⟩ : ∃ z, wr.cell? ⟨g, j, none⟩ = some z := ⟨cu[j], cell_arr h7 (Array.getElem?_eq_getElem (by omega))⟩
          have fz : wr.frozen? ⟨g, j, none⟩ = false := fz_of h7
          have HN7 : Hid (Only (fun b => b = g) w7 (wr.setCell ⟨g, j, none⟩ (.int .i64 (-76))) ∧ ∃ cu, (wr.setCell ⟨g, j, none⟩ (.int .i64 (-76))).heap[g]? = some (.cells cu 3 (0, 0)) ∧ m + 3 ≤ cu.size) :=
            ⟨o7.trans (Only.of_set wr ⟨g, j, none⟩ _) fun i _ e => e, _, heap_set_at h7, by simpa using hz7⟩
          clear o7 h7 hz7
          go_wp2_with fail
          go_roundg (m + 3 - (j + 1))
          case rel => exact ⟨j + 1, by omega, rfl, by go_num, HN7.out⟩
          case measure => omega
        · obtain ⟨f1, f2, f3⟩ := FIN.out _ HJ.out.1
          have HF : Hid _ := f3
          clear f3 FIN
          go_wp2_with fail
          go_roundg (n - (k + 1))
          case rel => exact ⟨k + 1, by omega, rfl, rfl, by go_num, HF.out⟩
          case measure => omega
    · go_wp2_with fail
      try rw [Exit.noGoto_ret]
      go_ret
      exact ⟨rfl, HH.out.bel, HH.out.oth⟩
end Go.Proofs.Ytplpgeocidllfaa
