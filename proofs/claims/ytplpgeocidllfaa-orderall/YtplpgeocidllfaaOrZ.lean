import Derived.Test.YtplpgeocidllfaaOrY
set_option linter.unusedVariables false
set_option linter.unusedSimpArgs false
namespace Go.Proofs.Ytplpgeocidllfaa
open Go.ChangeShapes Go.WideShapes Go.ChangeAt Go.RowKit Go.Maps

/-- The memory that was lent, while its lists are turned. -/
structure TS (w0 w4 wq : World) (n j k : Nat) (L : List (List Int)) (g4 c4 : Nat) (af : Option Addr) (cf : Nat) (gs cs : List Nat) (r : List Value) (Xs : List (List Int)) : Prop where
  v : OwnV wq w0.heap.size (.slice (some ⟨g4, 0, none⟩) (n + 2) c4) (ltv gs cs L ++ r)
  f : OwnV wq w0.heap.size (.slice af n cf) (ftv gs cs L)
  t : LT wq w0.heap.size gs cs Xs
  len : Xs.length = L.length
  lo : ∀ i, i < j → i < L.length → Xs.getD i [] = (L.getD i []).reverse
  hi : ∀ i, j < i → i < L.length → Xs.getD i [] = L.getD i []
  mid : j < L.length → Xs.getD j [] = rvk (L.getD j []) k
  onl : Only (fun b => ∃ i, i < L.length ∧ b = gs.getD i 0) w4 wq
  bel : Below w0.heap.size w0 wq
theorem TS.set {w0 w4 wq : World} {n j k L g4 c4 af cf gs cs r Xs} (h : TS w0 w4 wq n j k L g4 c4 af cf gs cs r Xs) (hj : j < L.length) (hk : k < (L.getD j []).length) : ∃ Xs', TS w0 w4 (wq.setCell ⟨gs.getD j 0, k, none⟩ (.int .i64 ((L.getD j []).getD ((L.getD j []).length - 1 - k) 0))) n j (k + 1) L g4 c4 af cf gs cs r Xs' := by
  have hjX : j < Xs.length := by rw [h.len]; exact hj
  have hm := h.mid hj
  have hlt := h.t.lt hjX
  refine ⟨_, h.v.move fun b hb => heap_set_other fun e => h.t.ap h.v j hjX (by rw [← e]; exact hb), h.f.move fun b hb => heap_set_other fun e => h.t.ap h.f j hjX (by rw [← e]; exact hb), h.t.set hjX (by rw [hm, rvk_len]; exact hk) _, by simpa using h.len, fun i h1 h2 => ?_, fun i h1 h2 => ?_, fun _ => ?_, h.onl.trans (Only.of_set wq ⟨gs.getD j 0, k, none⟩ _) fun b _ e => ⟨j, hj, e⟩, h.bel.setCell hlt.1 _⟩
  · rw [List.getD, List.getElem?_set_ne (by omega), ← List.getD]; exact h.lo i h1 h2
  · rw [List.getD, List.getElem?_set_ne (by omega), ← List.getD]; exact h.hi i h1 h2
  · rw [List.getD, List.getElem?_set_self hjX, hm]
    simp only [Option.getD_some]
    exact rvk_step hk
theorem TS.next {w0 w4 wq : World} {n j L g4 c4 af cf gs cs r Xs} (hj : j < L.length) (h : TS w0 w4 wq n j (L.getD j []).length L g4 c4 af cf gs cs r Xs) : TS w0 w4 wq n (j + 1) 0 L g4 c4 af cf gs cs r Xs := by
  refine ⟨h.v, h.f, h.t, h.len, fun i h1 h2 => ?_, fun i h1 h2 => h.hi i (by omega) h2, fun h1 => ?_, h.onl, h.bel⟩
  · by_cases e : i = j
    · subst e
      rw [h.mid hj, rvk_end]
    · exact h.lo i (by omega) h2
  · rw [rvk_zero]; exact h.hi (j + 1) (by omega) h1
theorem TS.done {w0 w4 wq : World} {n L g4 c4 af cf gs cs r Xs} (h : TS w0 w4 wq n L.length 0 L g4 c4 af cf gs cs r Xs) : Xs = L.map List.reverse := by
  refine List.ext_getElem (by simp [h.len]) fun i h1 h2 => ?_
  have hi : i < L.length := by simpa using h2
  have := h.lo i hi hi
  simpa [h1, hi] using this
theorem getD_atI {l : List Int} {i : Nat} (h : i < l.length) : l.getD i 0 = l[i] := by simp [h]
theorem own_none {w : World} {B n c : Nat} {L : List Int} (h : OwnI w B (.slice none n c) n L) : c = 0 := by
  rcases h.out.2 with ⟨e, _⟩ | ⟨g, cap, cur, e, _⟩
  · cases e; rfl
  · cases e
theorem usV_of {kvs : List Value} {r : Nat} (h : kvs.length = r) : usV (fun i => kvs.getD i (.slice none 0 0)) r = kvs := by
  refine List.ext_getElem (by simp [usV, h]) fun i h1 h2 => ?_
  simp [usV, h2]
set_option maxRecDepth 100000 in
set_option maxHeartbeats 16000000 in
theorem orderAll_any (w : World) (ao : Option Addr) (n c : Nat) (Ms : List (List (List Int))) (hn : n = Ms.length) (hI : III w ao c Ms) :
    Calls Try.prog 8 #[.slice ao n c] w fun e w' => e = .returned (.bool true) ∧ Below w.heap.size w w' := by
  have hal := aliveO_any w
  have hnc : n ≤ c := by have := hI.le; omega
  have hcm : c ≤ 9223372036854775807 := hI.mx
  have HN : Hid (n = Ms.length) := hn
  have HI : Hid (III w ao c Ms) := hI
  clear hn hI
  go_enter Try.func8, Try.ntmps8
  go_wp2_with fail
  refine hal.mono ?_
  rintro e w1 ⟨rfl, b1⟩
  have HB1 : Hid (Below w.heap.size w w1) := b1
  clear hal b1
  by_cases h1 : 100 < n
  · have q1 : decide ((100 : Int) < (n : Int)) = true := by simp; omega
    go_wp2_with fail
    go_ret
    exact ⟨rfl, HB1.out⟩
  have q1 : decide ((100 : Int) < (n : Int)) = false := by simp; omega
  have hn100 : n ≤ 100 := by omega
  clear h1
  have HK0 : Hid (KS w1 w1 w1.heap.size (.slice none 0 0) (.slice none 0 0) [] [] []) := KS.nil w1
  go_wp2_with fail
  clear q1
  go_loopg [4, 5, 6] n (fun q kv tv iv wr => ∃ (i r : Nat) (a4 : Option Addr) (c4 : Nat) (a5 : Option Addr) (c5 : Nat) (kvs tvs : List Value) (Rs : List (List Int)), i ≤ n ∧ q = n - i ∧ kv = .slice a4 r c4 ∧ tv = .slice a5 r c5 ∧ iv = .int .i64 (i : Int) ∧ r ≤ 2 * i ∧ Hid (r = Rs.length ∧ KS w1 wr w1.heap.size (.slice a4 r c4) (.slice a5 r c5) kvs tvs Rs))
  case atStart => exact ⟨0, 0, none, 0, none, 0, [], [], [], by omega, by omega, rfl, rfl, rfl, by omega, rfl, HK0.out⟩
  case round =>
    clear HK0
    obtain ⟨i, r, a4, c4, a5, c5, kvs, tvs, Rs, hi, rfl, rfl, rfl, rfl, hr, HH⟩ := hrel
    have HBW : Hid (Below w.heap.size w wr) := HB1.out.trans (HH.out.2.bel.mono HB1.out.size)
    have hB : w1.heap.size ≤ wr.heap.size := HH.out.2.bel.size
    by_cases hlt : i < n
    · have hiM : i < Ms.length := by have := HN.out; omega
      obtain ⟨ab, aoff, ai, ci, rfl, hab, ka0, hIL, hZL, hlL, hnL⟩ := HI.out.at hiM
      obtain ⟨L, hL⟩ : ∃ L, L = Ms[i] := ⟨_, rfl⟩
      rw [← hL] at ka0 hIL hZL hlL hnL
      obtain ⟨ni, hni⟩ : ∃ ni, ni = L.length := ⟨_, rfl⟩
      rw [← hni] at ka0 hZL hnL
      have hnic : ni ≤ ci := by have := hIL.le; omega
      have hcim : ci ≤ 9223372036854775807 := hIL.mx
      have HKA : Hid (∀ w' : World, Below w.heap.size w w' → w'.cell? ⟨ab, aoff + i, none⟩ = some (.slice ai ni ci)) := fun w' hb => (hb.cell (p := ⟨ab, aoff + i, none⟩) hab).trans ka0
      have HNI : Hid (ni = L.length) := hni
      have HIL : Hid (IRow w ai ci L) := hIL
      have HZL : Hid (RZ w ai ni) := hZL
      have HLL : Hid (∀ l ∈ L, l.length ≤ 17592186043904) := hlL
      have ka := HKA.out wr HBW.out
      clear ka0 hIL hZL hlL hL hni
      by_cases h3 : 300 < ni
      · have q1 : decide ((300 : Int) < (ni : Int)) = true := by simp; omega
        go_wp2_with fail
        try rw [Exit.noGoto_ret]
        go_ret
        exact ⟨rfl, HBW.out⟩
      have q1 : decide ((300 : Int) < (ni : Int)) = false := by simp; omega
      have hni3 : ni ≤ 300 := by omega
      clear h3
      go_wp2_with fail
      refine Calls.mono (heavy_any wr ai ni ci L HNI.out (HIL.out.below HBW.out (Nat.le_refl _)) (fun l hl => by have := HLL.out l hl; omega) (by omega) 3000 (by omega)) ?_
      rintro e wr2 ⟨rfl, rfl⟩
      by_cases h4 : 3000 < bulkP L
      · rw [decide_eq_true h4]
        go_wp2_with fail
        try rw [Exit.noGoto_ret]
        go_ret
        exact ⟨rfl, HBW.out⟩
      rw [decide_eq_false h4]
      have HM : Hid (∀ l ∈ L, l.length ≤ 3000) := fun l hl => by have := bulk_row hl; omega
      clear h4 q1 hnL
      go_wp2_with fail
      refine Calls.mono (lent_any wr2 ai ni ci L HNI.out (HIL.out.below HBW.out (Nat.le_refl _)) (HZL.out.below HIL.out HNI.out HBW.out) (by omega) (fun l hl => by have := HM.out l hl; omega)) ?_
      rintro e w3 ⟨g4, c9, af, cf, gs, cs, g1, g2, rfl, V, F, NE, T, R1, R2, b3⟩
      have HB3 : Hid (Below wr2.heap.size wr2 w3) := b3
      have hln2 : (ltv gs cs L ++ [Value.slice (some ⟨g1, 0, none⟩) 1 1, .slice (some ⟨g2, 0, none⟩) 1 1]).length = ni + 2 := by simp [ltv_len, HNI.out]
      have HIR : Hid (IRow w3 (some ⟨g4, 0, none⟩) c9 L) := lent_irow V T hln2.symm
      obtain ⟨_, _, e9, hc9, hc9', _, _⟩ := own_some (by have := V.out; rw [hln2] at this; exact this) (by omega)
      cases e9
      have HV : Hid _ := V
      have HF : Hid _ := F
      have HT : Hid _ := T
      clear V F NE T R1 R2 b3 ka
      go_wp2_with fail
      refine Calls.mono (line_any w3 (some ⟨g4, 0, none⟩) ni c9 L HNI.out HIR.out (by omega)) ?_
      rintro e w4 ⟨va, rfl, OA, b4⟩
      obtain ⟨aa, ca, rfl, hca, hca'⟩ := own_slice OA.out
      have HOA : Hid (OwnI w4 w3.heap.size (.slice aa (linP L).length ca) (linP L).length (linP L)) := OA
      have hAl : (linP L).length ≤ ni := by rw [HNI.out]; exact lin_len
      obtain ⟨al, hal⟩ : ∃ al, al = (linP L).length := ⟨_, rfl⟩
      rw [← hal] at HOA hca hAl ⊢
      have HAL : Hid (al = (linP L).length) := hal
      have hs34 := b4.size
      have hs23 := HB3.out.size
      have T0 : Hid (∃ Xs, TS wr2 w4 w4 ni 0 0 L g4 c9 af cf gs cs [.slice (some ⟨g1, 0, none⟩) 1 1, .slice (some ⟨g2, 0, none⟩) 1 1] Xs) :=
        ⟨L, HV.out.keep b4, HF.out.keep b4, HT.out.move fun i hi => b4.block _ (HT.out.lt hi).2, rfl, fun i h => absurd h (by omega), fun i _ _ => rfl, fun _ => (rvk_zero _).symm, Only.refl _ _, HB3.out.trans (b4.mono HB3.out.size)⟩
      have HGT : Hid (∀ i, i < L.length → gs.getD i 0 < w3.heap.size) := fun i hi => (HT.out.lt hi).2
      clear OA b4 hal HIR HV HF HT
      go_wp2_with fail
      go_loopg [10] ni (fun q jv wq => ∃ (j : Nat), j ≤ ni ∧ q = ni - j ∧ jv = .int .i64 (j : Int) ∧ Hid (∃ Xs, TS wr2 w4 wq ni j 0 L g4 c9 af cf gs cs [.slice (some ⟨g1, 0, none⟩) 1 1, .slice (some ⟨g2, 0, none⟩) 1 1] Xs))
      case atStart => exact ⟨0, by omega, by omega, rfl, T0.out⟩
      case round =>
        clear T0
        obtain ⟨j, hj, rfl, rfl, HTS⟩ := hrel
        have HBQ : Hid (Below w.heap.size w wr) := by
          obtain ⟨Xs, t⟩ := HTS.out
          exact HBW.out.trans (t.bel.mono HBW.out.size)
        have ka := HKA.out _ HBQ.out
        by_cases hjl : j < ni
        · have hjL : j < L.length := by have := HNI.out; omega
          obtain ⟨rb, ro, ar, cr, rfl, krw, hIr⟩ := HIL.out.at hjL
          have hLj : L.getD j [] = L[j] := by simp [hjL]
          rw [← hLj] at krw hIr
          obtain ⟨m, hm⟩ : ∃ m, m = (L.getD j []).length := ⟨_, rfl⟩
          rw [← hm] at krw
          have hmc : m ≤ cr := by have := hIr.le; omega
          have hmx : cr ≤ 9223372036854775807 := hIr.mx
          have hm3 : m ≤ 3000 := by rw [hm, hLj]; exact HM.out _ (List.getElem_mem hjL)
          have HKR : Hid (∀ w' : World, Below w.heap.size w w' → w'.cell? ⟨rb, ro + j, none⟩ = some (.slice ar m cr)) := fun w' hb => (hb.cell (p := ⟨rb, ro + j, none⟩) (block_lt_of_cell krw)).trans krw
          have HIr : Hid (Ints w ar cr (L.getD j [])) := hIr
          have HMM : Hid (m = (L.getD j []).length) := hm
          clear krw hIr hLj hm
          go_wp2_with fail
          go_loopg [11] m (fun q kv wq => ∃ (k : Nat), k ≤ m ∧ q = m - k ∧ kv = .int .i64 (k : Int) ∧ Hid (∃ Xs, TS wr2 w4 wq ni j k L g4 c9 af cf gs cs [.slice (some ⟨g1, 0, none⟩) 1 1, .slice (some ⟨g2, 0, none⟩) 1 1] Xs))
          case atStart => exact ⟨0, by omega, by omega, rfl, HTS.out⟩
          case round =>
            clear HTS HBQ ka
            obtain ⟨k, hk, rfl, rfl, HTS⟩ := hrel
            have HBQ : Hid (Below w.heap.size w wr) := by
              obtain ⟨Xs, t⟩ := HTS.out
              exact HBW.out.trans (t.bel.mono HBW.out.size)
            have ka := HKA.out _ HBQ.out
            have kr := HKR.out _ HBQ.out
            by_cases hkm : k < m
            · obtain ⟨Xs, t⟩ := HTS.out
              obtain ⟨mk, hmk⟩ : ∃ mk : Nat, m = mk + (k + 1) := ⟨m - (k + 1), by omega⟩
              have hmkL : mk < (L.getD j []).length := by have := HMM.out; omega
              obtain ⟨xb, xo, e9, kx0⟩ := HIr.out.at hmkL
              subst e9
              have kx : wr.cell? ⟨xb, xo + mk, none⟩ = some (.int .i64 ((L.getD j [])[mk])) := (HBQ.out.cell (p := ⟨xb, xo + mk, none⟩) (block_lt_of_cell kx0)).trans kx0
              have hjX : j < Xs.length := by rw [t.len]; exact hjL
              have hfu := t.f.out
              rw [ftv_len, ← HNI.out] at hfu
              obtain ⟨gf, _, e9, hcf1, hcf2, _, hgf⟩ := own_some hfu (by omega)
              cases e9
              obtain ⟨g, hg⟩ : ∃ g, g = gs.getD j 0 := ⟨_, rfl⟩
              obtain ⟨cg, hcg⟩ : ∃ cg, cg = cs.getD j 0 := ⟨_, rfl⟩
              have kff : wr.cell? ⟨gf, j, none⟩ = some (.slice (some ⟨g, 0, none⟩) (m + 3) cg) := by
                rw [own_cell hfu j (by omega), hg, hcg, HMM.out]
                simp [ftv, hjL]
              have hrow := t.t.row j hjX
              have hXl : (Xs.getD j []).length = m := by rw [t.mid hjL, rvk_len, HMM.out]
              rw [hXl, ← hg, ← hcg] at hrow
              obtain ⟨_, _, e9, hcg1, hcg2, _, _⟩ := own_some hrow.out (by omega)
              cases e9
              obtain ⟨z, kz⟩ : ∃ z, wr.cell? ⟨g, k, none⟩ = some z := ⟨_, (own_cell hrow.out k (by omega)).trans (List.getElem?_eq_getElem (by rw [hrow.out.1]; omega))⟩
              have fz := own_fz hrow.out k
              obtain ⟨x, hx⟩ : ∃ x, x = (L.getD j [])[mk] := ⟨_, rfl⟩
              rw [← hx] at kx
              have HNX : Hid (∃ Xs, TS wr2 w4 (wr.setCell ⟨g, k, none⟩ (.int .i64 x)) ni j (k + 1) L g4 c9 (some ⟨gf, 0, none⟩) cf gs cs [.slice (some ⟨g1, 0, none⟩) 1 1, .slice (some ⟨g2, 0, none⟩) 1 1] Xs) := by
                have h9 := t.set hjL (by rw [← HMM.out]; exact hkm)
                rw [← hg, ← HMM.out, show m - 1 - k = mk by omega, (getD_atI hmkL).trans hx.symm] at h9
                exact h9
              have HNXd : Hid (∃ Xs, TS wr2 w4 (wr.setCell ⟨g, k, none⟩ (.int .i64 x)).drew ni j (k + 1) L g4 c9 (some ⟨gf, 0, none⟩) cf gs cs [.slice (some ⟨g1, 0, none⟩) 1 1, .slice (some ⟨g2, 0, none⟩) 1 1] Xs) := by
                obtain ⟨X, t9⟩ := HNX.out
                exact ⟨X, ⟨t9.v.move fun _ _ => rfl, t9.f.move fun _ _ => rfl, t9.t.move fun _ _ => rfl, t9.len, t9.lo, t9.hi, t9.mid, ⟨t9.onl.os, t9.onl.tape, t9.onl.output, t9.onl.size, t9.onl.block⟩, t9.bel.drew⟩⟩
              have S0 : (fun w' : World => w'.cell? ⟨gf, j, none⟩ = some (.slice (some ⟨g, 0, none⟩) (m + 3) cg) ∧ w'.cell? ⟨ab, aoff + i, none⟩ = some (.slice (some ⟨rb, ro, none⟩) ni ci) ∧ w'.cell? ⟨rb, ro + j, none⟩ = some (.slice (some ⟨xb, xo, none⟩) m cr) ∧ w'.cell? ⟨xb, xo + mk, none⟩ = some (.int .i64 x)) wr.drew := ⟨kff, ka, kr, kx⟩
              have hw1 : IntKind.i64.wrap ((m : Int) - 1) = (m : Int) - 1 := by rw [IntKind.wrap_i64]; omega
              have hw2 : IntKind.i64.wrap ((m : Int) - 1 - (k : Int)) = (mk : Int) := by rw [IntKind.wrap_i64]; omega
              have hmm : (mk : Int) < (m : Int) := by omega
              have hkm3 : (k : Int) < (m : Int) + 3 := by omega
              have hjn : j < ni := hjl
              have fz2 : wr.drew.frozen? ⟨g, k, none⟩ = false := fz
              clear HTS t hfu hg hcg hrow hXl hx kx0 hjX hmk
              go_wp2_with fail
              refine led_start (S := fun w' : World => w'.cell? ⟨gf, j, none⟩ = some (.slice (some ⟨g, 0, none⟩) (m + 3) cg) ∧ w'.cell? ⟨ab, aoff + i, none⟩ = some (.slice (some ⟨rb, ro, none⟩) ni ci) ∧ w'.cell? ⟨rb, ro + j, none⟩ = some (.slice (some ⟨xb, xo, none⟩) m cr) ∧ w'.cell? ⟨xb, xo + mk, none⟩ = some (.int .i64 x)) (z := 26) (by kernel_rfl) ?_
              show led _ _ _ _ _ 27 _ _ _
              try simp only [List.size_toArray, List.length_cons, List.length_nil, Array.replicate]
              refine led_take (i := 0) (v := ?v0) rfl (by kernel_rfl) (by kernel_rfl) (by kernel_rfl) (by kernel_rfl) (fun _ _ _ h => h) (.inl ⟨by rfl, ?hy0⟩) S0 ?rest0
              case hy0 =>
                rintro w' ⟨h1, h2, h3, h4⟩
                go_simp
                all_goals with_reducible rfl
              try simp only [Act.put, List.getElem_toArray, List.getElem_cons_succ, List.getElem_cons_zero, List.setIfInBounds_toArray, List.set_cons_zero, List.set_cons_succ]
              refine led_take (i := 1) (v := ?v1) rfl (by kernel_rfl) (by kernel_rfl) (by kernel_rfl) (by kernel_rfl) (fun _ _ _ h => h) (.inl ⟨by rfl, ?hy1⟩) S0 ?rest1
              case hy1 =>
                rintro w' ⟨h1, h2, h3, h4⟩
                go_simp
                all_goals with_reducible rfl
              try simp only [Act.put, List.getElem_toArray, List.getElem_cons_succ, List.getElem_cons_zero, List.setIfInBounds_toArray, List.set_cons_zero, List.set_cons_succ]
              refine led_take (i := 2) (v := ?v2) rfl (by kernel_rfl) (by kernel_rfl) (by kernel_rfl) (by kernel_rfl) (fun _ _ _ h => h) (.inl ⟨by rfl, ?hy2⟩) S0 ?rest2
              case hy2 =>
                rintro w' ⟨h1, h2, h3, h4⟩
                go_simp
                all_goals with_reducible rfl
              try simp only [Act.put, List.getElem_toArray, List.getElem_cons_succ, List.getElem_cons_zero, List.setIfInBounds_toArray, List.set_cons_zero, List.set_cons_succ]
              refine led_take (i := 3) (v := ?v3) rfl (by kernel_rfl) (by kernel_rfl) (by kernel_rfl) (by kernel_rfl) (fun _ _ _ h => h) (.inl ⟨by rfl, ?hy3⟩) S0 ?rest3
              case hy3 =>
                rintro w' ⟨h1, h2, h3, h4⟩
                go_simp
                all_goals with_reducible rfl
              try simp only [Act.put, List.getElem_toArray, List.getElem_cons_succ, List.getElem_cons_zero, List.setIfInBounds_toArray, List.set_cons_zero, List.set_cons_succ]
              refine led_take (i := 4) (v := ?v4) rfl (by kernel_rfl) (by kernel_rfl) (by kernel_rfl) (by kernel_rfl) (fun _ _ _ h => h) (.inl ⟨by rfl, ?hy4⟩) S0 ?rest4
              case hy4 =>
                rintro w' ⟨h1, h2, h3, h4⟩
                go_simp
                all_goals with_reducible rfl
              try simp only [Act.put, List.getElem_toArray, List.getElem_cons_succ, List.getElem_cons_zero, List.setIfInBounds_toArray, List.set_cons_zero, List.set_cons_succ]
              refine led_take (i := 5) (v := ?v5) rfl (by kernel_rfl) (by kernel_rfl) (by kernel_rfl) (by kernel_rfl) (fun _ _ _ h => h) (.inl ⟨by rfl, ?hy5⟩) S0 ?rest5
              case hy5 =>
                rintro w' ⟨h1, h2, h3, h4⟩
                go_simp
                all_goals with_reducible rfl
              try simp only [Act.put, List.getElem_toArray, List.getElem_cons_succ, List.getElem_cons_zero, List.setIfInBounds_toArray, List.set_cons_zero, List.set_cons_succ]
              refine led_take (i := 6) (v := ?v6) rfl (by kernel_rfl) (by kernel_rfl) (by kernel_rfl) (by kernel_rfl) (fun _ _ _ h => h) (.inl ⟨by rfl, ?hy6⟩) S0 ?rest6
              case hy6 =>
                rintro w' ⟨h1, h2, h3, h4⟩
                go_simp
                all_goals with_reducible rfl
              try simp only [Act.put, List.getElem_toArray, List.getElem_cons_succ, List.getElem_cons_zero, List.setIfInBounds_toArray, List.set_cons_zero, List.set_cons_succ]
              refine led_take (i := 7) (v := ?v7) rfl (by kernel_rfl) (by kernel_rfl) (by kernel_rfl) (by kernel_rfl) (fun _ _ _ h => h) (.inl ⟨by rfl, ?hy7⟩) S0 ?rest7
              case hy7 =>
                rintro w' ⟨h1, h2, h3, h4⟩
                go_simp
                all_goals with_reducible rfl
              try simp only [Act.put, List.getElem_toArray, List.getElem_cons_succ, List.getElem_cons_zero, List.setIfInBounds_toArray, List.set_cons_zero, List.set_cons_succ]
              refine led_take (i := 8) (v := ?v8) rfl (by kernel_rfl) (by kernel_rfl) (by kernel_rfl) (by kernel_rfl) (fun _ _ _ h => h) (.inl ⟨by rfl, ?hy8⟩) S0 ?rest8
              case hy8 =>
                rintro w' ⟨h1, h2, h3, h4⟩
                go_simp
                all_goals with_reducible rfl
              try simp only [Act.put, List.getElem_toArray, List.getElem_cons_succ, List.getElem_cons_zero, List.setIfInBounds_toArray, List.set_cons_zero, List.set_cons_succ]
              refine led_take (i := 9) (v := ?v9) rfl (by kernel_rfl) (by kernel_rfl) (by kernel_rfl) (by kernel_rfl) (fun _ _ _ h => h) (.inl ⟨by rfl, ?hy9⟩) S0 ?rest9
              case hy9 =>
                rintro w' ⟨h1, h2, h3, h4⟩
                go_simp
                all_goals with_reducible rfl
              try simp only [Act.put, List.getElem_toArray, List.getElem_cons_succ, List.getElem_cons_zero, List.setIfInBounds_toArray, List.set_cons_zero, List.set_cons_succ]
              refine led_take (i := 10) (v := ?v10) rfl (by kernel_rfl) (by kernel_rfl) (by kernel_rfl) (by kernel_rfl) (fun _ _ _ h => h) (.inl ⟨by rfl, ?hy10⟩) S0 ?rest10
              case hy10 =>
                rintro w' ⟨h1, h2, h3, h4⟩
                go_simp
                all_goals with_reducible rfl
              try simp only [Act.put, List.getElem_toArray, List.getElem_cons_succ, List.getElem_cons_zero, List.setIfInBounds_toArray, List.set_cons_zero, List.set_cons_succ]
              refine led_take (i := 11) (v := ?v11) rfl (by kernel_rfl) (by kernel_rfl) (by kernel_rfl) (by kernel_rfl) (fun _ _ _ h => h) (.inl ⟨by rfl, ?hy11⟩) S0 ?rest11
              case hy11 =>
                rintro w' ⟨h1, h2, h3, h4⟩
                go_simp
                all_goals with_reducible rfl
              try simp only [Act.put, List.getElem_toArray, List.getElem_cons_succ, List.getElem_cons_zero, List.setIfInBounds_toArray, List.set_cons_zero, List.set_cons_succ]
              refine led_take (i := 12) (v := ?v12) rfl (by kernel_rfl) (by kernel_rfl) (by kernel_rfl) (by kernel_rfl) (fun _ _ _ h => h) (.inl ⟨by rfl, ?hy12⟩) S0 ?rest12
              case hy12 =>
                rintro w' ⟨h1, h2, h3, h4⟩
                go_simp
                all_goals with_reducible rfl
              try simp only [Act.put, List.getElem_toArray, List.getElem_cons_succ, List.getElem_cons_zero, List.setIfInBounds_toArray, List.set_cons_zero, List.set_cons_succ]
              refine led_take (i := 13) (v := ?v13) rfl (by kernel_rfl) (by kernel_rfl) (by kernel_rfl) (by kernel_rfl) (fun _ _ _ h => h) (.inl ⟨by rfl, ?hy13⟩) S0 ?rest13
              case hy13 =>
                rintro w' ⟨h1, h2, h3, h4⟩
                go_simp
                all_goals with_reducible rfl
              try simp only [Act.put, List.getElem_toArray, List.getElem_cons_succ, List.getElem_cons_zero, List.setIfInBounds_toArray, List.set_cons_zero, List.set_cons_succ]
              refine led_take (i := 14) (v := ?v14) rfl (by kernel_rfl) (by kernel_rfl) (by kernel_rfl) (by kernel_rfl) (fun _ _ _ h => h) (.inl ⟨by rfl, ?hy14⟩) S0 ?rest14
              case hy14 =>
                rintro w' ⟨h1, h2, h3, h4⟩
                go_simp
                all_goals with_reducible rfl
              try simp only [Act.put, List.getElem_toArray, List.getElem_cons_succ, List.getElem_cons_zero, List.setIfInBounds_toArray, List.set_cons_zero, List.set_cons_succ]
              refine led_take (i := 15) (v := ?v15) rfl (by kernel_rfl) (by kernel_rfl) (by kernel_rfl) (by kernel_rfl) (fun _ _ _ h => h) (.inl ⟨by rfl, ?hy15⟩) S0 ?rest15
              case hy15 =>
                rintro w' ⟨h1, h2, h3, h4⟩
                go_simp
                all_goals with_reducible rfl
              try simp only [Act.put, List.getElem_toArray, List.getElem_cons_succ, List.getElem_cons_zero, List.setIfInBounds_toArray, List.set_cons_zero, List.set_cons_succ]
              refine led_take (i := 16) (v := ?v16) rfl (by kernel_rfl) (by kernel_rfl) (by kernel_rfl) (by kernel_rfl) (fun _ _ _ h => h) (.inl ⟨by rfl, ?hy16⟩) S0 ?rest16
              case hy16 =>
                rintro w' ⟨h1, h2, h3, h4⟩
                go_simp
                all_goals with_reducible rfl
              try simp only [Act.put, List.getElem_toArray, List.getElem_cons_succ, List.getElem_cons_zero, List.setIfInBounds_toArray, List.set_cons_zero, List.set_cons_succ]
              refine led_take (i := 17) (v := ?v17) rfl (by kernel_rfl) (by kernel_rfl) (by kernel_rfl) (by kernel_rfl) (fun _ _ _ h => h) (.inl ⟨by rfl, ?hy17⟩) S0 ?rest17
              case hy17 =>
                rintro w' ⟨h1, h2, h3, h4⟩
                go_simp
                all_goals with_reducible rfl
              try simp only [Act.put, List.getElem_toArray, List.getElem_cons_succ, List.getElem_cons_zero, List.setIfInBounds_toArray, List.set_cons_zero, List.set_cons_succ]
              refine led_take (i := 18) (v := ?v18) rfl (by kernel_rfl) (by kernel_rfl) (by kernel_rfl) (by kernel_rfl) (fun _ _ _ h => h) (.inl ⟨by rfl, ?hy18⟩) S0 ?rest18
              case hy18 =>
                rintro w' ⟨h1, h2, h3, h4⟩
                go_simp
                all_goals with_reducible rfl
              try simp only [Act.put, List.getElem_toArray, List.getElem_cons_succ, List.getElem_cons_zero, List.setIfInBounds_toArray, List.set_cons_zero, List.set_cons_succ]
              refine led_take (i := 19) (v := ?v19) rfl (by kernel_rfl) (by kernel_rfl) (by kernel_rfl) (by kernel_rfl) (fun _ _ _ h => h) (.inl ⟨by rfl, ?hy19⟩) S0 ?rest19
              case hy19 =>
                rintro w' ⟨h1, h2, h3, h4⟩
                go_simp
                all_goals with_reducible rfl
              try simp only [Act.put, List.getElem_toArray, List.getElem_cons_succ, List.getElem_cons_zero, List.setIfInBounds_toArray, List.set_cons_zero, List.set_cons_succ]
              refine led_take (i := 20) (v := ?v20) rfl (by kernel_rfl) (by kernel_rfl) (by kernel_rfl) (by kernel_rfl) (fun _ _ _ h => h) (.inl ⟨by rfl, ?hy20⟩) S0 ?rest20
              case hy20 =>
                rintro w' ⟨h1, h2, h3, h4⟩
                go_simp
                all_goals with_reducible rfl
              try simp only [Act.put, List.getElem_toArray, List.getElem_cons_succ, List.getElem_cons_zero, List.setIfInBounds_toArray, List.set_cons_zero, List.set_cons_succ]
              refine led_take (i := 21) (v := ?v21) rfl (by kernel_rfl) (by kernel_rfl) (by kernel_rfl) (by kernel_rfl) (fun _ _ _ h => h) (.inl ⟨by rfl, ?hy21⟩) S0 ?rest21
              case hy21 =>
                rintro w' ⟨h1, h2, h3, h4⟩
                go_simp
                all_goals with_reducible rfl
              try simp only [Act.put, List.getElem_toArray, List.getElem_cons_succ, List.getElem_cons_zero, List.setIfInBounds_toArray, List.set_cons_zero, List.set_cons_succ]
              refine led_take (i := 22) (v := ?v22) rfl (by kernel_rfl) (by kernel_rfl) (by kernel_rfl) (by kernel_rfl) (fun _ _ _ h => h) (.inl ⟨by rfl, ?hy22⟩) S0 ?rest22
              case hy22 =>
                rintro w' ⟨h1, h2, h3, h4⟩
                go_simp
                all_goals with_reducible rfl
              try simp only [Act.put, List.getElem_toArray, List.getElem_cons_succ, List.getElem_cons_zero, List.setIfInBounds_toArray, List.set_cons_zero, List.set_cons_succ]
              refine led_take (i := 23) (v := ?v23) rfl (by kernel_rfl) (by kernel_rfl) (by kernel_rfl) (by kernel_rfl) (fun _ _ _ h => h) (.inl ⟨by rfl, ?hy23⟩) S0 ?rest23
              case hy23 =>
                rintro w' ⟨h1, h2, h3, h4⟩
                go_simp
                all_goals with_reducible rfl
              try simp only [Act.put, List.getElem_toArray, List.getElem_cons_succ, List.getElem_cons_zero, List.setIfInBounds_toArray, List.set_cons_zero, List.set_cons_succ]
              refine led_take (i := 24) (v := ?v24) rfl (by kernel_rfl) (by kernel_rfl) (by kernel_rfl) (by kernel_rfl) (fun _ _ _ h => h) (.inl ⟨by rfl, ?hy24⟩) S0 ?rest24
              case hy24 =>
                rintro w' ⟨h1, h2, h3, h4⟩
                go_simp
                all_goals with_reducible rfl
              try simp only [Act.put, List.getElem_toArray, List.getElem_cons_succ, List.getElem_cons_zero, List.setIfInBounds_toArray, List.set_cons_zero, List.set_cons_succ]
              refine led_take (i := 25) (v := ?v25) rfl (by kernel_rfl) (by kernel_rfl) (by kernel_rfl) (by kernel_rfl) (fun _ _ _ h => h) (.inl ⟨by rfl, ?hy25⟩) S0 ?rest25
              case hy25 =>
                rintro w' ⟨h1, h2, h3, h4⟩
                go_simp
                all_goals with_reducible rfl
              try simp only [Act.put, List.getElem_toArray, List.getElem_cons_succ, List.getElem_cons_zero, List.setIfInBounds_toArray, List.set_cons_zero, List.set_cons_succ]
              refine led_one (i := 26) rfl (by kernel_rfl) ?_
              intro K26 hK26
              rw [if_pos (by rfl)]
              go_simp
              refine hK26 _ _ (fun h => absurd rfl h) ?_
              clear hK26 S0
              refine led_done (by kernel_rfl) ?_
              go_wp2_with fail
              go_roundg (m - (k + 1))
              case rel => exact ⟨k + 1, by omega, rfl, by go_num, HNXd.out⟩
              case measure => omega
            · have hkm2 : k = m := by omega
              have HNX : Hid (∃ Xs, TS wr2 w4 wr ni (j + 1) 0 L g4 c9 af cf gs cs [.slice (some ⟨g1, 0, none⟩) 1 1, .slice (some ⟨g2, 0, none⟩) 1 1] Xs) := by
                obtain ⟨X, t9⟩ := HTS.out
                rw [hkm2, HMM.out] at t9
                exact ⟨X, t9.next hjL⟩
              clear HTS hkm2
              go_wp2_with fail
              go_roundg (ni - (j + 1))
              case rel => exact ⟨j + 1, by omega, rfl, by go_num, HNX.out⟩
              case measure => omega
        · obtain rfl : j = ni := by omega
          obtain ⟨Xs, t⟩ := HTS.out
          have hX : Xs = L.map List.reverse := by
            have := t
            rw [HNI.out] at this
            exact this.done
          obtain ⟨Ys, hYs⟩ : ∃ Ys, Ys = L.map List.reverse := ⟨_, rfl⟩
          rw [← hYs] at hX
          subst hX
          have hYl : j = Xs.length := by rw [t.len]; exact HNI.out
          have hIY : IRow wr (some ⟨g4, 0, none⟩) c9 Xs := by
            refine lent_irow (r := [.slice (some ⟨g1, 0, none⟩) 1 1, .slice (some ⟨g2, 0, none⟩) 1 1]) ?_ t.t (by rw [List.length_append, ltv_len, ← hYl]; first | done | rfl)
            rw [ltv_same t.len fun i hi => by rw [hYs]; simp [hi]]
            exact t.v
          have OA5 : OwnI wr w3.heap.size (.slice aa al ca) al (linP L) := ⟨HOA.out.len, own_move HOA.out.out fun b hb => t.onl.block b (own_block HOA.out.out hb).2 (by
            rintro ⟨q, hq, e⟩
            have h1 := (own_block HOA.out.out hb).1
            have h2 := HGT.out q hq
            omega)⟩
          have HOA5 : Hid _ := OA5
          have HVA5 : Hid (∀ g, (Value.slice aa al ca).ownBlock = some g → g < wr.heap.size) := fun g hg => (own_block OA5.out hg).2
          have HIY : Hid (IRow wr (some ⟨g4, 0, none⟩) c9 Xs) := hIY
          have HNC0 : Hid (∀ p cr m, p < j → wr.cell? ⟨g4, p, none⟩ = some (.slice none m cr) → cr = 0) := fun p cr m hp hc => by
            have h2 := t.v.out
            rw [hln2] at h2
            rw [own_cell h2 p (by omega), List.getElem?_append_left (by rw [ltv_len, ← HNI.out]; exact hp)] at hc
            simp [ltv, ← HNI.out, hp] at hc
          have HYL : Hid (j = Xs.length) := hYl
          have HY3 : Hid (∀ l ∈ Xs, l.length ≤ 3000) := fun l hl => by
            rw [hYs] at hl
            obtain ⟨l', h1, rfl⟩ := List.mem_map.1 hl
            simpa using HM.out l' h1
          have hs5 : w3.heap.size ≤ wr.heap.size := by have := t.onl.size; omega
          have HB5 : Hid (Below wr2.heap.size wr2 wr) := t.bel
          clear HTS t hYs hYl hIY OA5 HOA HGT
          obtain ⟨w5, hw5⟩ : ∃ w5, w5 = wr := ⟨_, rfl⟩
          subst hw5
          go_wp2_with fail
          clear ka
          refine Calls.mono (line_any w5 (some ⟨g4, 0, none⟩) j c9 Xs HYL.out HIY.out (by omega)) ?_
          rintro e w6 ⟨vb, rfl, OB, b6⟩
          obtain ⟨ba, cb, rfl, hcb, hcb'⟩ := own_slice OB.out
          have hBl : (linP Xs).length ≤ j := by rw [HYL.out]; exact lin_len
          obtain ⟨bl, hbl⟩ : ∃ bl, bl = (linP Xs).length := ⟨_, rfl⟩
          rw [← hbl] at OB hcb hBl ⊢
          have HBLn : Hid (bl = (linP Xs).length) := hbl
          have HOB : Hid (OwnI w6 w5.heap.size (.slice ba bl cb) bl (linP Xs)) := OB
          have HOA6 : Hid (OwnI w6 w3.heap.size (.slice aa al ca) al (linP L)) := HOA5.out.keep b6
          have HB6 : Hid (Below wr2.heap.size wr2 w6) := HB5.out.trans (b6.mono HB5.out.size)
          have HIY6 : Hid (IRow w6 (some ⟨g4, 0, none⟩) c9 Xs) := HIY.out.below b6 (Nat.le_refl _)
          have hs56 := b6.size
          have HNC : Hid (∀ p cr m, p < j → w6.cell? ⟨g4, p, none⟩ = some (.slice none m cr) → cr = 0) := fun p cr m hp hc => by
            refine HNC0.out p cr m hp ?_
            obtain ⟨_, _, _, _, e9, krw, _⟩ := HIY.out.at (j := p) (by have := HYL.out; omega)
            cases e9
            rw [Nat.zero_add] at krw
            rw [← hc, b6.cell (p := ⟨g4, p, none⟩) (block_lt_of_cell krw)]
          clear OB b6 hbl HOA5 HIY HB5
          have R0 : Hid (Rws w6 w6.heap.size (.slice none 0 0) (Xs.take 0) ∧ Below w6.heap.size w6 w6) := ⟨⟨[], rfl, OwnV.nil _ _, fun i hi => by simp at hi⟩, Below.refl _ _⟩
          have ka6 := HKA.out w6 (HBW.out.trans (HB6.out.mono HBW.out.size))
          go_wp2_with fail
          go_loopg [13, 14] j (fun q tv jv wq => ∃ (p : Nat) (a13 : Option Addr) (c13 : Nat), p ≤ j ∧ q = j - p ∧ tv = .slice a13 p c13 ∧ jv = .int .i64 (p : Int) ∧ Hid (Rws wq w6.heap.size (.slice a13 p c13) (Xs.take p) ∧ Below w6.heap.size w6 wq))
          case atStart => exact ⟨0, none, 0, by omega, by omega, rfl, rfl, R0.out⟩
          case round =>
            clear R0 ka6
            obtain ⟨p, a13, c13, hp, rfl, rfl, rfl, HRW⟩ := hrel
            have HB7 : Hid (Below wr2.heap.size wr2 wr) := HB6.out.trans (HRW.out.2.mono HB6.out.size)
            have HBQ : Hid (Below w.heap.size w wr) := HBW.out.trans (HB7.out.mono HBW.out.size)
            have ka7 := HKA.out wr HBQ.out
            by_cases hpl : p < j
            · have hpX : p < Xs.length := by have := HYL.out; omega
              obtain ⟨_, _, ar, cr, e9, krw, hIr⟩ := HIY6.out.at hpX
              cases e9
              rw [Nat.zero_add] at krw
              have kr : wr.cell? ⟨g4, p, none⟩ = some (.slice ar Xs[p].length cr) := (HRW.out.2.cell (p := ⟨g4, p, none⟩) (block_lt_of_cell krw)).trans krw
              obtain ⟨Z, hZ⟩ : ∃ Z, Z = Xs[p] := ⟨_, rfl⟩
              rw [← hZ] at kr hIr
              have hZm : Z.length ≤ 3000 := by rw [hZ]; exact HY3.out _ (List.getElem_mem hpX)
              obtain ⟨m, hm⟩ : ∃ m, m = Z.length := ⟨_, rfl⟩
              rw [← hm] at kr hZm
              have hmc : m ≤ cr := by have := hIr.le; omega
              have hmx : cr ≤ 9223372036854775807 := hIr.mx
              obtain ⟨vs, hvl, hv, hr'⟩ := HRW.out.1.out
              have hvs : vs.length = p := by rw [hvl]; simp; omega
              have hsr := HRW.out.2.size
              have HIr : Hid (Ints wr ar cr Z) := hIr.below HRW.out.2 (Nat.le_refl _)
              have FIN : Hid (∀ u wA, OwnI wA wr.heap.size u m Z → Below wr.heap.size wr wA → OwnV wA w6.heap.size (.slice a13 p c13) vs ∧ w6.heap.size ≤ wA.heap.size ∧ ∀ v' wB, OwnV wB w6.heap.size v' (vs ++ [u]) → GI w6.heap.size wA wB (.slice a13 p c13) v' → Rws wB w6.heap.size v' (Xs.take (p + 1)) ∧ Below w6.heap.size w6 wB) := fun u wA o2 b2 => by
                refine ⟨hv.keep b2, Nat.le_trans hsr b2.size, fun v' wB h3 g3 => ⟨?_, (HRW.out.2.trans (b2.mono hsr)).trans g3.bel⟩⟩
                rw [← List.take_append_getElem hpX, ← hZ]
                exact Rws.more hvl hv hr' hsr b2 (by rw [← hm]; exact o2) h3 g3
              have HMZ : Hid (m = Z.length) := hm
              have HVS : Hid (vs.length = p) := hvs
              have HZ2 : Hid (ar = none → cr = 0) := fun e => by rw [e] at krw; exact HNC.out p cr _ (by omega) krw
              clear HRW hvl hv hr' hvs hm krw hIr hZ
              go_wp2_with (first
                | (at_builtin; refine wpList_copyW (by rfl) _ _ rfl wr.heap.size rfl ar m cr Z HMZ.out HIr.out HZ2.out rfl (by omega) (Nat.le_refl _) ?_; intro u wA o2 b2
                   obtain ⟨V2, B2, F3⟩ := FIN.out u wA o2 b2
                   have HV2 : Hid _ := V2
                   have HF3 : Hid _ := F3
                   obtain ⟨au, cu, eu, _, _⟩ := own_slice o2.out
                   subst eu
                   clear V2 F3 FIN o2 b2)
                | (at_builtin; refine wpList_append_slG (w0 := wA) rfl _ _ rfl w6.heap.size (.slice a13 p c13) vs au m cu rfl HV2.out rfl (by rw [HVS.out]; omega) B2 ?_; intro v3 wB o3 g3
                   have P3 := HF3.out v3 wB o3 g3
                   have HP3 : Hid _ := P3
                   obtain ⟨a14, c14, e14, _, _⟩ := own_slice o3.out
                   rw [List.length_append, List.length_singleton, HVS.out] at e14
                   subst e14
                   clear o3 g3 P3 HF3)
                | go_in)
              go_roundg (j - (p + 1))
              case rel => exact ⟨p + 1, a14, c14, by omega, rfl, rfl, by go_num, HP3.out⟩
              case measure => omega
            · obtain rfl : p = j := by omega
              have HR7 : Hid (Rws wr w6.heap.size (.slice a13 p c13) Xs) := by
                have := HRW.out.1
                rw [List.take_of_length_le (by have := HYL.out; omega)] at this
                exact this
              have HB67 : Hid (Below w6.heap.size w6 wr) := HRW.out.2
              obtain ⟨w7, hw7⟩ : ∃ w7, w7 = wr := ⟨_, rfl⟩
              subst hw7
              have HIT : Hid (IRow w7 a13 c13 Xs) := HR7.out.irow HYL.out
              have HOA7 : Hid (OwnI w7 w3.heap.size (.slice aa al ca) al (linP L)) := HOA6.out.keep HB67.out
              have HOB7 : Hid (OwnI w7 w5.heap.size (.slice ba bl cb) bl (linP Xs)) := HOB.out.keep HB67.out
              clear HRW HIY6 HOA6 HOB HR7 HNC HNC0
              go_wp2_with fail
              refine Calls.mono (refLine_any w7 ai p ci L HNI.out (HIL.out.below HBQ.out (Nat.le_refl _)) (by omega)) ?_
              rintro e w8 ⟨vr, rfl, OR, b8⟩
              obtain ⟨ra, rc, rfl, IR⟩ := OR.ints
              have HIR8 : Hid _ := IR
              have HOA8 : Hid (OwnI w8 w3.heap.size (.slice aa al ca) al (linP L)) := HOA7.out.keep b8
              have HB78 : Hid (Below w7.heap.size w7 w8) := b8
              clear OR IR b8 ka7
              go_wp2_with fail
              obtain ⟨_, _, e7, IA⟩ := HOA8.out.ints
              cases e7
              refine Calls.mono (sameO_any w8 _ _ _ _ _ _ (linP L) (linP L) HAL.out rfl IA HIR8.out) ?_
              rintro e w9 ⟨rfl, b9⟩
              rw [show decide (linP L = linP L) = true by simp]
              have HB79 : Hid (Below w7.heap.size w7 w9) := HB78.out.trans (b9.mono HB78.out.size)
              clear IA b9 HIR8 HOA8
              go_wp2_with fail
              refine Calls.mono (refLine_any w9 a13 p c13 Xs HYL.out (HIT.out.below HB79.out (Nat.le_refl _)) (by omega)) ?_
              rintro e w10 ⟨vr2, rfl, OR, b10⟩
              obtain ⟨ra2, rc2, rfl, IR⟩ := OR.ints
              have HIR10 : Hid _ := IR
              have HB710 : Hid (Below w7.heap.size w7 w10) := HB79.out.trans (b10.mono HB79.out.size)
              have HOB10 : Hid (OwnI w10 w5.heap.size (.slice ba bl cb) bl (linP Xs)) := HOB7.out.keep HB710.out
              clear OR IR b10
              go_wp2_with fail
              obtain ⟨_, _, e7, IB⟩ := HOB10.out.ints
              cases e7
              refine Calls.mono (sameO_any w10 _ _ _ _ _ _ (linP Xs) (linP Xs) HBLn.out rfl IB HIR10.out) ?_
              rintro e w11 ⟨rfl, b11⟩
              rw [show decide (linP Xs = linP Xs) = true by simp]
              have HB11 : Hid (Below w7.heap.size w7 w11) := HB710.out.trans (b11.mono HB710.out.size)
              clear IB b11 HIR10 HOB10 HB710 HB79 HB78
              have BB : Below wr2.heap.size wr2 w11 := HB7.out.trans (HB11.out.mono HB7.out.size)
              have K11 := HH.out.2.keep hB BB
              have hs211 := BB.size
              have oa11 : OwnI w11 wr2.heap.size (.slice aa al ca) al (linP L) := (HOA7.out.keep HB11.out).mono hs23
              have ob11 : OwnI w11 wr2.heap.size (.slice ba bl cb) bl (linP Xs) := (HOB7.out.keep HB11.out).mono (by omega)
              have hap : ∀ g, (Value.slice aa al ca).ownBlock = some g → (Value.slice ba bl cb).ownBlock ≠ some g := fun g h1 h2 => by
                have q1 := HVA5.out g h1
                have q2 := (own_block HOB7.out.out h2).1
                omega
              have HK11 : Hid (OwnV w11 w1.heap.size (.slice a4 r c4) kvs) := K11.k
              have HLK : Hid (kvs.length = r ∧ tvs.length = r) := ⟨by rw [HH.out.1]; exact HH.out.2.kl, by rw [HH.out.1]; exact HH.out.2.tl⟩
              have HI11a : Hid (Ints w11 aa ca (linP L)) := by obtain ⟨_, _, e, h⟩ := oa11.ints; cases e; exact h
              have HI11b : Hid (Ints w11 ba cb (linP Xs)) := by obtain ⟨_, _, e, h⟩ := ob11.ints; cases e; exact h
              have HZa : Hid (aa = none → ca = 0) := fun e => by rw [e] at oa11; exact own_none oa11
              have HZb : Hid (ba = none → cb = 0) := fun e => by rw [e] at ob11; exact own_none ob11
              have hB11 : w1.heap.size ≤ w11.heap.size := by omega
              have FIN : Hid (∀ v12 w12, OwnV w12 w1.heap.size v12 (kvs ++ [.slice aa al ca, .slice ba bl cb]) → GI w1.heap.size w11 w12 (.slice a4 r c4) v12 → Ints w12 aa ca (linP L) ∧ w1.heap.size ≤ w12.heap.size ∧ ∀ u1 w13, OwnI w13 w12.heap.size u1 al (linP L) → Below w12.heap.size w12 w13 → Ints w13 ba cb (linP Xs) ∧ ∀ u2 w14, OwnI w14 w13.heap.size u2 bl (linP Xs) → Below w13.heap.size w13 w14 → OwnV w14 w1.heap.size (.slice a5 r c5) tvs ∧ w1.heap.size ≤ w14.heap.size ∧ ∀ v15 w15, OwnV w15 w1.heap.size v15 (tvs ++ [u1, u2]) → GI w1.heap.size w14 w15 (.slice a5 r c5) v15 → KS w1 w15 w1.heap.size v12 v15 (kvs ++ [.slice aa al ca, .slice ba bl cb]) (tvs ++ [u1, u2]) (Rs ++ [linP L, linP Xs])) := fun v12 w12 o12 g12 => by
                have a12 := oa11.gi g12 (oa11.apV K11.k)
                have b12 := ob11.gi g12 (ob11.apV K11.k)
                have t12 : OwnV w12 w1.heap.size (.slice a5 r c5) tvs := K11.t.gi g12 fun b hb e => K11.kt b e hb
                have s12 := g12.size
                refine ⟨by obtain ⟨_, _, e, h⟩ := a12.ints; cases e; exact h, by omega, fun u1 w13 o13 b13 => ?_⟩
                have s13 := b13.size
                refine ⟨by obtain ⟨_, _, e, h⟩ := (b12.keep b13).ints; cases e; exact h, fun u2 w14 o14 b14 => ?_⟩
                have s14 := b14.size
                refine ⟨(t12.keep b13).keep b14, by omega, fun v15 w15 o15 g15 => ?_⟩
                exact HH.out.2.more hB BB (by rw [← HAL.out]; exact oa11) (by rw [← HBLn.out]; exact ob11) hap (by rw [← HAL.out]; omega) (by rw [← HBLn.out]; omega) o12 g12 b13 (by rw [← HAL.out]; exact o13) b14 (by rw [← HBLn.out]; exact o14) o15 g15
              have HRL : Hid (r = Rs.length) := HH.out.1
              clear HH K11 oa11 ob11 hap BB HB11 HOA7 HOB7 HIT HB67 HB7 HBQ HB6 HVA5 HB3
              go_wp2_with (first
                | (at_builtin; refine wpList_append_slG2 (w0 := w14) rfl _ _ rfl w1.heap.size (.slice a5 r c5) tvs au1 au2 al cu1 bl cu2 rfl HT14.out rfl (by have := HLK.out; omega) hB14 ?_; intro v15 w15 o15 g15
                   have P15 := HF15.out v15 w15 o15 g15
                   have HP15 : Hid _ := P15
                   obtain ⟨a17, c17, e17, _, _⟩ := own_slice o15.out
                   rw [show (tvs ++ [Value.slice au1 al cu1, .slice au2 bl cu2]).length = r + 2 by rw [List.length_append, HLK.out.2]; rfl] at e17
                   subst e17
                   clear o15 g15 P15 HF15)
                | (at_builtin; refine wpList_copyW (by rfl) _ _ rfl w13.heap.size rfl ba bl cb (linP Xs) HBLn.out HI13.out HZb.out rfl (by omega) (Nat.le_refl _) ?_; intro u2 w14 o14 b14
                   obtain ⟨T14, hB14, F15⟩ := HF14.out u2 w14 o14 b14
                   have HT14 : Hid _ := T14
                   have HF15 : Hid _ := F15
                   obtain ⟨au2, cu2, eu2, _, _⟩ := own_slice o14.out
                   subst eu2
                   clear o14 b14 T14 F15 HF14)
                | (at_builtin; refine wpList_copyW (by rfl) _ _ rfl w12.heap.size rfl aa al ca (linP L) HAL.out HI12.out HZa.out rfl (by omega) (Nat.le_refl _) ?_; intro u1 w13 o13 b13
                   obtain ⟨I13, F14⟩ := HF13.out u1 w13 o13 b13
                   have HI13 : Hid _ := I13
                   have HF14 : Hid _ := F14
                   obtain ⟨au1, cu1, eu1, _, _⟩ := own_slice o13.out
                   subst eu1
                   clear o13 b13 I13 F14 HF13)
                | (at_builtin; refine wpList_append_slG2 (w0 := w11) rfl _ _ rfl w1.heap.size (.slice a4 r c4) kvs aa ba al ca bl cb rfl HK11.out rfl (by have := HLK.out; omega) hB11 ?_; intro v12 w12 o12 g12
                   obtain ⟨I12, hB12, F13⟩ := FIN.out v12 w12 o12 g12
                   have HI12 : Hid _ := I12
                   have HF13 : Hid _ := F13
                   obtain ⟨a16, c16, e16, _, _⟩ := own_slice o12.out
                   rw [show (kvs ++ [Value.slice aa al ca, .slice ba bl cb]).length = r + 2 by rw [List.length_append, HLK.out.1]; rfl] at e16
                   subst e16
                   clear o12 g12 I12 F13 FIN)
                | go_in)
              go_roundg (n - (i + 1))
              case rel =>
                refine ⟨i + 1, r + 2, a16, c16, a17, c17, _, _, _, by omega, rfl, rfl, rfl, by go_num, by omega, ?_, HP15.out⟩
                rw [List.length_append, ← HRL.out]; rfl
              case measure => omega
    · have HKS : Hid (KS w1 wr w1.heap.size (.slice a4 r c4) (.slice a5 r c5) kvs tvs Rs) := HH.out.2
      have HRL : Hid (r = Rs.length) := HH.out.1
      have hkl : kvs.length = r := by rw [HRL.out]; exact HKS.out.kl
      have htl : tvs.length = r := by rw [HRL.out]; exact HKS.out.tl
      have HKL : Hid (kvs.length = r ∧ tvs.length = r) := ⟨hkl, htl⟩
      have HK0 : Hid (KS w1 wr w1.heap.size (.slice a4 r c4) (.slice a5 r c5) kvs tvs Rs ∧ Below wr.heap.size wr wr) := ⟨HKS.out, Below.refl _ _⟩
      obtain ⟨w5, hw5⟩ : ∃ w5, w5 = wr := ⟨_, rfl⟩
      subst hw5
      clear HH hkl htl
      go_wp2_with fail
      go_loopg [15] r (fun q iv wq => ∃ t : Nat, t ≤ r ∧ q = r - t ∧ iv = .int .i64 (t : Int) ∧ Hid (Below w5.heap.size w5 wq))
      case atStart => exact ⟨0, by omega, by omega, rfl, HK0.out.2⟩
      case round =>
        clear HK0
        obtain ⟨t, ht, rfl, rfl, HBq⟩ := hrel
        have hKq := HKS.out.keep hB HBq.out
        by_cases htr : t < r
        · have htR : t < Rs.length := by have := HRL.out; omega
          have kk := hKq.k.out
          have tk := hKq.t.out
          rw [HKL.out.1] at kk
          rw [HKL.out.2] at tk
          obtain ⟨gk, _, e9, hk1, hk2, _, _⟩ := own_some kk (by omega)
          cases e9
          obtain ⟨gt, _, e9, ht1, ht2, _, _⟩ := own_some tk (by omega)
          cases e9
          have ok := hKq.kr t htR
          have ot := hKq.tr t htR
          obtain ⟨ak, ck, ek, Ik⟩ := ok.ints
          obtain ⟨at', ct, et, It⟩ := ot.ints
          obtain ⟨P, hP⟩ : ∃ P, P = Rs.getD t [] := ⟨_, rfl⟩
          rw [← hP] at ek et Ik It
          have c1 : wr.cell? ⟨gk, t, none⟩ = some (.slice ak P.length ck) := by
            rw [own_cell kk t (by omega), ← ek]
            simp [show t < kvs.length by have := HKL.out.1; omega]
          have c2 : wr.cell? ⟨gt, t, none⟩ = some (.slice at' P.length ct) := by
            rw [own_cell tk t (by omega), ← et]
            simp [show t < tvs.length by have := HKL.out.2; omega]
          have HCS : Hid (∀ w' : World, Below wr.heap.size wr w' → Calls Try.prog 14 #[.slice ak P.length ck, .slice at' P.length ct] w' fun e w'' => e = .returned (.bool true) ∧ (fun w' : World => Below wr.heap.size wr w' ∧ w'.cell? ⟨gk, t, none⟩ = some (.slice ak P.length ck) ∧ w'.cell? ⟨gt, t, none⟩ = some (.slice at' P.length ct)) w'') := fun w' hb => by
            refine Calls.mono (sameO_any w' _ _ _ _ _ _ P P rfl rfl (Ik.below hb (Nat.le_refl _)) (It.below hb (Nat.le_refl _))) ?_
            rintro e w'' ⟨rfl, b⟩
            have hb2 := hb.trans (b.mono hb.size)
            exact ⟨by simp, hb2, (hb2.cell (p := ⟨gk, t, none⟩) (block_lt_of_cell c1)).trans c1, (hb2.cell (p := ⟨gt, t, none⟩) (block_lt_of_cell c2)).trans c2⟩
          have S0 : (fun w' : World => Below wr.heap.size wr w' ∧ w'.cell? ⟨gk, t, none⟩ = some (.slice ak P.length ck) ∧ w'.cell? ⟨gt, t, none⟩ = some (.slice at' P.length ct)) wr.drew := ⟨(Below.refl _ _).drew, c1, c2⟩
          obtain ⟨pl, hpl⟩ : ∃ pl, pl = P.length := ⟨_, rfl⟩
          rw [← hpl] at c1 c2 HCS S0
          have hs5r := HBq.out.size
          clear kk tk ok ot ek et Ik It hP hKq hpl
          go_wp2_with fail
          go_region_held (fun w' : World => Below wr.heap.size wr w' ∧ w'.cell? ⟨gk, t, none⟩ = some (.slice ak pl ck) ∧ w'.cell? ⟨gt, t, none⟩ = some (.slice at' pl ct)) (first | exact S0 | exact S1) (first | (go_at_call 14; refine Calls.mono (HCS.out _ S0.1) ?_; rintro e w6 ⟨rfl, S1⟩))
          have HB6 : Hid (Below w5.heap.size w5 w6) := HBq.out.trans (S1.1.mono hs5r)
          clear S0 S1 HCS c1 c2
          go_wp2_with fail
          go_roundg (r - (t + 1))
          case rel => exact ⟨t + 1, by omega, rfl, by go_num, HB6.out⟩
          case measure => omega
        · have HMK : Hid (MK wr wr w1.heap.size r (.slice a4 r c4) (fun q => kvs.getD q (.slice none 0 0)) (fun q => (Rs.getD q []).length) (fun q => Rs.getD q [])) :=
            ⟨by rw [usV_of HKL.out.1]; exact hKq.k, fun q hq => hKq.kr q (by have := HRL.out; omega), fun q q' h1 h2 hne => hKq.ap q q' (by have := HRL.out; omega) (by have := HRL.out; omega) hne, Below.refl _ _⟩
          have hr300 : r ≤ 300 := by omega
          have hBr : w1.heap.size ≤ wr.heap.size := hKq.bel.size
          have HFB : Hid (Below w.heap.size w wr) := HB1.out.trans (hKq.bel.mono HB1.out.size)
          have HSZ : Hid (∀ q, q < r → (Rs.getD q []).length ≤ 1000) := fun q hq => by
            have hq2 : q < Rs.length := by have := HRL.out; omega
            have := hKq.sz (Rs.getD q []) (by rw [List.getD, List.getElem?_eq_getElem hq2]; exact List.getElem_mem hq2)
            omega
          clear hKq
          go_wp2_with fail
          refine Calls.mono (apart_any wr w1.heap.size hBr (.slice a4 r c4) r _ _ _ HMK.out hr300 HSZ.out) ?_
          rintro e w9 ⟨rfl, b9⟩
          have HB9 : Hid (Below w.heap.size w w9) := HFB.out.trans (b9.mono HB1.out.size)
          clear b9
          go_wp2_with fail
          try rw [Exit.noGoto_ret]
          go_ret
          exact ⟨rfl, HB9.out⟩
end Go.Proofs.Ytplpgeocidllfaa
