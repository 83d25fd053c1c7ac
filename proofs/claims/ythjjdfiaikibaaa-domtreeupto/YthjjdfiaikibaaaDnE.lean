import Derived.Test.YthjjdfiaikibaaaDnD
set_option linter.unusedVariables false
set_option linter.unusedSimpArgs false
namespace Go.Proofs.Ythjjdfiaikibaaa
open Go.ChangeShapes Go.WideShapes Go.ChangeAt Go.RowKit Go.Maps

/-- At the head of the loop of stays: what is lent from the k-th list on. -/
structure SH (w wr : World) (B g4 n k : Nat) (gs cs : List Nat) (Ls : List (List Int)) : Prop where
  box : ∃ cur, wr.heap[g4]? = some (.cells cur 31 (0, 0)) ∧ ∀ i, k ≤ i → i < n → cur[i]? = some (.slice (some ⟨gs.getD i 0, 0, none⟩) (Ls.getD i []).length (cs.getD i 0))
  row : ∀ i, k ≤ i → i < n → OwnI wr B (.slice (some ⟨gs.getD i 0, 0, none⟩) ((Ls.getD i []).length + 2) (cs.getD i 0)) ((Ls.getD i []).length + 2) (Ls.getD i [] ++ [-71, -72])
  bel : Below B w wr
  oth : ∀ b, b < w.heap.size → b ≠ g4 → (∀ i, i < n → b ≠ gs.getD i 0) → wr.heap[b]? = w.heap[b]?
theorem SH.start {w wr : World} {B g4 n c4 : Nat} {gs cs : List Nat} {Ls : List (List Int)} {r : List Value} (hn : n = Ls.length) (h : w.ownsRow B 31 1 (.slice (some ⟨g4, 0, none⟩) (n + 2) c4) (n + 2) (ltv gs cs Ls ++ r)) (hl : LT w B gs cs Ls) (hb : Below w.heap.size w wr) (hB : B ≤ w.heap.size) : SH w wr B g4 n 0 gs cs Ls := by
  have hlt := (own_block h (g := g4) rfl).2
  refine ⟨?_, fun i _ hi => (hl.row i (by omega)).keep hb, hb.mono hB, fun b h1 _ _ => hb.block b h1⟩
  rcases h.2 with ⟨e, _⟩ | ⟨g, cap, cur, e, _, e3, e4, _, e6, e7⟩
  · cases e
  · cases e
    refine ⟨cur, by rw [hb.block _ hlt]; exact e3, fun i _ hi => ?_⟩
    have h1 : (List.take ((n + 2) * 1) cur.toList)[i]? = (ltv gs cs Ls ++ r)[i]? := by rw [e7]
    rw [List.getElem?_take_of_lt (by omega), List.getElem?_append_left (by rw [ltv_len]; omega)] at h1
    rw [← Array.getElem?_toList, h1]
    simp [ltv, hn ▸ hi]
set_option maxRecDepth 100000 in
set_option maxHeartbeats 4000000 in
theorem stays_any (w0 w : World) (ao : Option Addr) (n c : Nat) (Ls : List (List Int)) (hn : n = Ls.length) (hI : IRow w0 ao c Ls) (hz : RZ w0 ao n) (hsz : n ≤ 1000000) (hM : ∀ l ∈ Ls, l.length ≤ 1000000) (B : Nat) (hB0 : B = w0.heap.size) (b0 : Below B w0 w) (g4 c4 g1 g2 : Nat) (gs cs : List Nat) (hv : OwnV w B (.slice (some ⟨g4, 0, none⟩) (n + 2) c4) (ltv gs cs Ls ++ [.slice (some ⟨g1, 0, none⟩) 1 1, .slice (some ⟨g2, 0, none⟩) 2 2])) (hl : LT w B gs cs Ls) (hap : ∀ i, i < Ls.length → g4 ≠ gs.getD i 0)
    (r1 : OwnI w B (.slice (some ⟨g1, 0, none⟩) 1 1) 1 [-73]) (r2 : OwnI w B (.slice (some ⟨g2, 0, none⟩) 2 2) 2 [-74, -75]) :
    Calls Try.prog 13 #[.slice ao n c, .slice (some ⟨g4, 0, none⟩) (n + 2) c4] w fun e w' => e = .returned (.bool true) ∧ Below B w w' ∧ ∀ b, b < w.heap.size → b ≠ g4 → (∀ i, i < n → b ≠ gs.getD i 0) → w'.heap[b]? = w.heap[b]? := by
  have hll := ltv_len gs cs Ls
  have hv2 := hv.out
  rw [show (ltv gs cs Ls ++ [Value.slice (some ⟨g1, 0, none⟩) 1 1, .slice (some ⟨g2, 0, none⟩) 2 2]).length = n + 2 by simp [hll, hn]] at hv2
  have k1 : w.cell? ⟨g4, n, none⟩ = some (.slice (some ⟨g1, 0, none⟩) 1 1) := by
    rw [own_cell hv2 n (by omega), List.getElem?_append_right (by omega), hll, ← hn]; simp
  have k2 : w.cell? ⟨g4, n + 1, none⟩ = some (.slice (some ⟨g2, 0, none⟩) 2 2) := by
    rw [own_cell hv2 (n + 1) (by omega), List.getElem?_append_right (by omega), hll, ← hn]; simp
  obtain ⟨_, _, e9, hc4, hc4', hg4, _⟩ := own_some hv2 (by omega)
  cases e9
  have HN : Hid (n = Ls.length) := hn
  have HI : Hid (IRow w0 ao c Ls) := hI
  have HZ : Hid (RZ w0 ao n) := hz
  have HB0 : Hid (B = w0.heap.size) := hB0
  have HLO : Hid (Below B w0 w) := b0
  have hB : B ≤ w.heap.size := by have := b0.size; omega
  have HM : Hid (∀ l ∈ Ls, l.length ≤ 1000000) := hM
  have HV : Hid _ := hv2
  have HL : Hid _ := hl
  have HAP : Hid (∀ i, i < Ls.length → g4 ≠ gs.getD i 0) := hap
  have HR1 : Hid _ := r1
  have HR2 : Hid _ := r2
  have qq : ((n : Int) + 2 == (n : Int) + 2) = true := by simp
  clear hn hI hz hM hv hv2 hl hap r1 r2 hll hB0 b0
  go_enter Try.func13, Try.ntmps13
  go_wp2_with fail
  have bA : Below w.heap.size w (w.alloc (.cells #[.int .i64 (-73)] 3)) := (Below.refl _ _).alloc (Nat.le_refl _) _
  have i1 : Ints (w.alloc (.cells #[.int .i64 (-73)] 3)) (some ⟨g1, 0, none⟩) 1 [-73] := by
    obtain ⟨_, _, e, h⟩ := HR1.out.ints; cases e; exact h.below bA (Nat.le_refl _)
  have i2 : Ints (w.alloc (.cells #[.int .i64 (-73)] 3)) (some ⟨w.heap.size, 0, none⟩) 1 [-73] := ints_exact (L := [-73]) (heap_alloc_new _ _) (by simp)
  refine (same_any _ _ _ _ _ 1 1 [-73] [-73] rfl rfl i1 i2).mono ?_
  rintro e w1 ⟨rfl, b1⟩
  rw [show decide (([-73] : List Int) = [-73]) = true by decide]
  have HB1 : Hid (Below w.heap.size w w1) := bA.trans (b1.mono bA.size)
  clear i1 i2 bA b1
  replace k2 := (HB1.out.cell (p := ⟨g4, n + 1, none⟩) (by assumption)).trans k2
  have hs1 := HB1.out.size
  clear k1
  go_wp2_with fail
  have bA : Below w1.heap.size w1 (w1.alloc (.cells #[.int .i64 (-74), .int .i64 (-75)] 3)) := (Below.refl _ _).alloc (Nat.le_refl _) _
  have i1 : Ints (w1.alloc (.cells #[.int .i64 (-74), .int .i64 (-75)] 3)) (some ⟨g2, 0, none⟩) 2 [-74, -75] := by
    obtain ⟨_, _, e, h⟩ := HR2.out.ints; cases e; exact (h.below HB1.out (Nat.le_refl _)).below bA (Nat.le_refl _)
  have i2 : Ints (w1.alloc (.cells #[.int .i64 (-74), .int .i64 (-75)] 3)) (some ⟨w1.heap.size, 0, none⟩) 2 [-74, -75] := ints_exact (L := [-74, -75]) (heap_alloc_new _ _) (by simp)
  refine (same_any _ _ _ _ _ 2 2 [-74, -75] [-74, -75] rfl rfl i1 i2).mono ?_
  rintro e w2 ⟨rfl, b2⟩
  rw [show decide (([-74, -75] : List Int) = [-74, -75]) = true by decide]
  have HB2 : Hid (Below w.heap.size w w2) := HB1.out.trans ((bA.trans (b2.mono bA.size)).mono hs1)
  clear i1 i2 bA b2 HB1 hs1 k2
  go_wp2_with fail
  have ST : Hid (SH w w2 B g4 n 0 gs cs Ls) := SH.start HN.out HV.out HL.out HB2.out hB
  clear HV HR1 HR2 HB2
  go_loopg [6, 7] n (fun q ov iv wr => ∃ k : Nat, k ≤ n ∧ q = n - k ∧ ov = .bool true ∧ iv = .int .i64 (k : Int) ∧ Hid (SH w wr B g4 n k gs cs Ls))
  case atStart => exact ⟨0, by omega, by omega, rfl, rfl, ST.out⟩
  case round =>
    clear ST
    obtain ⟨k, hk, rfl, rfl, rfl, HH⟩ := hrel
    by_cases hlt : k < n
    · have hkL : k < Ls.length := by have := HN.out; omega
      have HBW : Hid (Below B w0 wr) := HLO.out.trans HH.out.bel
      obtain ⟨rb, ro, ar, cr, rfl, krw, hIr⟩ := HI.out.at hkL
      have kr := (HBW.out.cell (p := ⟨rb, ro + k, none⟩) (by rw [HB0.out]; exact block_lt_of_cell krw)).trans krw
      have hzr : ar = none → cr = 0 := fun e => by subst e; exact HZ.out rb ro k _ cr rfl hlt krw
      obtain ⟨L, hL⟩ : ∃ L, L = Ls[k] := ⟨_, rfl⟩
      rw [← hL] at kr hIr
      have hLm : L.length ≤ 1000000 := by rw [hL]; exact HM.out _ (List.getElem_mem hkL)
      obtain ⟨m, hm⟩ : ∃ m, m = L.length := ⟨_, rfl⟩
      rw [← hm] at kr hLm
      have hmc : m ≤ cr := by have := hIr.le; omega
      have hmx : cr ≤ 9223372036854775807 := hIr.mx
      have hgd : Ls.getD k [] = L := by rw [hL]; simp [hkL]
      obtain ⟨g, hg⟩ : ∃ g, g = gs.getD k 0 := ⟨_, rfl⟩
      obtain ⟨cg, hcg⟩ : ∃ cg, cg = cs.getD k 0 := ⟨_, rfl⟩
      have RW := HH.out.row k (Nat.le_refl _) hlt
      rw [hgd, ← hg, ← hcg, ← hm] at RW
      obtain ⟨_, _, e9, q1, q2, q3, q4⟩ := own_some RW.out (by omega)
      cases e9
      obtain ⟨cur, hcu, hcs⟩ := HH.out.box
      have kb : wr.cell? ⟨g4, k, none⟩ = some (.slice (some ⟨g, 0, none⟩) m cg) := by
        have := hcs k (Nat.le_refl _) hlt
        rw [hgd, ← hg, ← hcg, ← hm] at this
        exact cell_arr hcu this
      have HI1 : Hid (Ints wr ar cr L) := hIr.below HBW.out (by rw [HB0.out]; exact Nat.le_refl _)
      have HZR : Hid (ar = none → cr = 0) := hzr
      have HMM : Hid (m = L.length) := hm
      have HRW : Hid _ := RW
      have HG : Hid (g = gs.getD k 0) := hg
      have HCK : Hid (Ls.getD k [] = L ∧ cg = cs.getD k 0) := ⟨hgd, hcg⟩
      have HCU : Hid _ := hcu
      have HCS : Hid _ := hcs
      clear hIr krw hzr hL hm hgd hg hcg RW hcu hcs
      go_wp2_with fail
      go_quiet (fail)
      obtain ⟨wq, hwq⟩ : ∃ wq, wq = wr.drewN nq := ⟨_, rfl⟩
      have bq : Below wr.heap.size wr wq := by rw [hwq]; exact below_drewN (Below.refl _ _) nq
      rw [← hwq]
      have HBQ : Hid (Below wr.heap.size wr wq) := bq
      have hsq := bq.size
      have HI2 : Hid (Ints wq ar cr L) := HI1.out.below bq (Nat.le_refl _)
      have krr := (bq.cell (p := ⟨rb, ro + k, none⟩) (block_lt_of_cell kr)).trans kr
      have HKR : Hid _ := krr
      clear hwq kr bq kb
      go_wp2_with (first
        | (at_builtin; refine wpList_copyW (by rfl) _ _ rfl wq.heap.size rfl ar m cr L HMM.out HI2.out HZR.out rfl (by omega) (Nat.le_refl _) ?_; intro v1 w4 o1 b1
           have hs1 := b1.size
           have HO1 := show Hid _ from o1
           have HB1 := show Hid _ from b1
           obtain ⟨a1, c1, e1, _, _⟩ := own_slice o1.out
           subst e1
           clear o1 b1)
        | (at_builtin; refine wpList_append_twoW (w0 := w4) (by rfl) _ _ rfl wq.heap.size (.slice a1 m c1) m L (-71) (-72) rfl HO1.out rfl (by omega) hs1 ?_; intro v2 w5 o2 g2
           have b2 : Below wr.heap.size wr w5 := HBQ.out.trans ((HB1.out.trans g2.bel).mono hsq)
           have HO2 := show Hid _ from o2
           have HB2 := show Hid _ from b2
           have hs2 := b2.size
           obtain ⟨gg, c2, e2, hc2, hc2', hg2, hg2'⟩ := own_some o2.out (by omega)
           subst e2
           clear o2 g2 b2))
      have hlm : m + 2 = (L ++ [-71, -72]).length := by have := HMM.out; simp; omega
      have i1 : Ints w5 (some ⟨g, 0, none⟩) cg (L ++ [-71, -72]) := by
        obtain ⟨_, _, e, h⟩ := HRW.out.ints; cases e; exact h.below HB2.out (Nat.le_refl _)
      have i2 : Ints w5 (some ⟨gg, 0, none⟩) c2 (L ++ [-71, -72]) := by
        obtain ⟨_, _, e, h⟩ := HO2.out.ints; cases e; exact h
      refine (same_any w5 _ _ _ _ (m + 2) (m + 2) _ _ hlm hlm i1 i2).mono ?_
      rintro e w6 ⟨rfl, b6⟩
      rw [show decide (L ++ [-71, -72] = L ++ [-71, -72]) = true by simp]
      have HB6 : Hid (Below wr.heap.size wr w6) := HB2.out.trans (b6.mono hs2)
      have hs6 := HB6.out.size
      obtain ⟨cur2, hc6, hz6⟩ : ∃ cur2, w6.heap[g]? = some (.cells cur2 3 (0, 0)) ∧ m + 2 ≤ cur2.size := by
        rcases HRW.out.out.2 with ⟨e, _⟩ | ⟨_, _, cu, e, _, e3, e4, _, e6, _⟩
        · cases e
        · cases e
          exact ⟨cu, (HB6.out.block _ q4).trans e3, by omega⟩
      have H0 : Hid (Only (fun b => b = g) w6 w6 ∧ ∃ cu, w6.heap[g]? = some (.cells cu 3 (0, 0)) ∧ m + 2 ≤ cu.size) := ⟨Only.refl _ _, cur2, hc6, hz6⟩
      clear i1 i2 b6 HO2 HB2 HO1 HB1 HI2 HBQ HKR krr hs2 hs1 hg2' hg2 hlm hc6 hz6
      have hg4w : g4 < wr.heap.size := (Array.getElem?_eq_some_iff.1 HCU.out).1
      have hgg4 : g4 ≠ g := by rw [HG.out]; exact HAP.out k hkL
      have FIN : Hid (∀ w7, Only (fun b => b = g) w6 w7 → w7.cell? ⟨g4, k, none⟩ = some (.slice (some ⟨g, 0, none⟩) m cg) ∧ w7.frozen? ⟨g4, k, none⟩ = false ∧ SH w (w7.setCell ⟨g4, k, none⟩ (.slice none 0 0)) B g4 n (k + 1) gs cs Ls) := by
        intro w7 h7
        have e4 : w7.heap[g4]? = some (.cells cur 31 (0, 0)) := by rw [h7.block g4 (by omega) hgg4, HB6.out.block _ hg4w]; exact HCU.out
        refine ⟨?_, fz_of e4, ⟨_, heap_set_at e4, fun i h1 h2 => ?_⟩, fun i h1 h2 => ?_, ?_, fun b h1 h2 h3 => ?_⟩
        · have := HCS.out k (Nat.le_refl _) hlt
          rw [HCK.out.1, ← HG.out, ← HCK.out.2, ← HMM.out] at this
          exact cell_arr e4 this
        · have h3 := HCS.out i (by omega) h2
          have hne : k ≠ i := by omega
          simpa [hne] using h3
        · have h3 := HH.out.row i (by omega) h2
          have hb := own_block h3.out (g := gs.getD i 0) rfl
          have hi2 : i < Ls.length := by have := HN.out; omega
          refine ⟨h3.len, own_move h3.out fun b hb' => ?_⟩
          have e9 : some (gs.getD i 0) = some b := hb'
          obtain rfl := Option.some.inj e9
          have n1 : gs.getD i 0 ≠ g4 := fun e => HAP.out i hi2 e.symm
          have n2 : gs.getD i 0 ≠ g := fun e => by rw [HG.out] at e; have := HL.out.nd i k hi2 hkL e; omega
          rw [heap_set_other (w := w7) (g := g4) (i := k) (v := .slice none 0 0) n1, h7.block _ (by omega) n2, HB6.out.block _ hb.2]
        · have b7 : Below B w6 w7 := h7.below (by omega) fun b e => by omega
          exact (HH.out.bel.trans ((HB6.out.mono (by omega)).trans b7)).setCell (by show B ≤ g4; omega) _
        · have hsw := HH.out.bel.size
          rw [heap_set_other (w := w7) (g := g4) (i := k) (v := .slice none 0 0) h2, h7.block b (by omega) (by rw [HG.out]; exact h3 k hlt), HB6.out.block b (by omega)]
          exact HH.out.oth b h1 h2 h3
      go_wp2_with fail
      go_loopg [9] (m + 2) (fun q iv wr' => ∃ j : Nat, j ≤ m + 2 ∧ q = m + 2 - j ∧ iv = .int .i64 (j : Int) ∧ Hid (Only (fun b => b = g) w6 wr' ∧ ∃ cu, wr'.heap[g]? = some (.cells cu 3 (0, 0)) ∧ m + 2 ≤ cu.size))
      case atStart => exact ⟨0, by omega, by omega, rfl, H0.out⟩
      case round =>
        obtain ⟨j, hj, rfl, rfl, HJ⟩ := hrel
        by_cases hjl : j < m + 2
        · obtain ⟨o7, cu, h7, hz7⟩ := HJ.out
          obtain ⟨z, kz⟩ : ∃ z, wr.cell? ⟨g, j, none⟩ = some z := ⟨cu[j], cell_arr h7 (Array.getElem?_eq_getElem (by omega))⟩
          have fz : wr.frozen? ⟨g, j, none⟩ = false := fz_of h7
          have HN7 : Hid (Only (fun b => b = g) w6 (wr.setCell ⟨g, j, none⟩ (.int .i64 (-76))) ∧ ∃ cu, (wr.setCell ⟨g, j, none⟩ (.int .i64 (-76))).heap[g]? = some (.cells cu 3 (0, 0)) ∧ m + 2 ≤ cu.size) :=
            ⟨o7.trans (Only.of_set wr ⟨g, j, none⟩ _) fun i _ e => e, _, heap_set_at h7, by simpa using hz7⟩
          clear o7 h7 hz7
          go_wp2_with fail
          go_roundg (m + 2 - (j + 1))
          case rel => exact ⟨j + 1, by omega, rfl, by go_num, HN7.out⟩
          case measure => omega
        · obtain ⟨f1, f2, f3⟩ := FIN.out _ HJ.out.1
          have HF : Hid _ := f3
          clear f3 FIN
          go_wp2_with fail
          go_roundg (n - (k + 1))
          case rel => exact ⟨k + 1, by omega, rfl, rfl, by go_num, HF.out⟩
          case measure => omega
    · go_wp2_with fail
      try rw [Exit.noGoto_ret]
      go_ret
      exact ⟨rfl, HH.out.bel, HH.out.oth⟩
end Go.Proofs.Ythjjdfiaikibaaa
