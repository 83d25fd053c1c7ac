import Derived.Test.YthjjdfiaikibaaaDnB
set_option linter.unusedVariables false
set_option linter.unusedSimpArgs false
namespace Go.Proofs.Ythjjdfiaikibaaa
open Go.ChangeShapes Go.WideShapes Go.ChangeAt Go.RowKit Go.Maps

/-- The rows' slices: where one has no place it has no room. -/
def RZ (w : World) (ao : Option Addr) (n : Nat) : Prop := ∀ b o i m c, ao = some ⟨b, o, none⟩ → i < n → w.cell? ⟨b, o + i, none⟩ = some (.slice none m c) → c = 0
set_option maxRecDepth 100000 in
set_option maxHeartbeats 4000000 in
theorem lent_any (w : World) (ao : Option Addr) (n c : Nat) (Ls : List (List Int)) (hn : n = Ls.length) (hI : IRow w ao c Ls) (hz : RZ w ao n) (hsz : n ≤ 2000000) (hM : ∀ l ∈ Ls, l.length ≤ 1000000) :
    Calls Try.prog 11 #[.slice ao n c] w fun e w' => ∃ v gs cs g1 g2, e = .returned v ∧ OwnV w' w.heap.size v (ltv gs cs Ls ++ [.slice (some ⟨g1, 0, none⟩) 1 1, .slice (some ⟨g2, 0, none⟩) 2 2]) ∧ LT w' w.heap.size gs cs Ls ∧ (∀ i, i < Ls.length → v.ownBlock ≠ some (gs.getD i 0)) ∧
      OwnI w' w.heap.size (.slice (some ⟨g1, 0, none⟩) 1 1) 1 [-73] ∧ OwnI w' w.heap.size (.slice (some ⟨g2, 0, none⟩) 2 2) 2 [-74, -75] ∧ v.ownBlock ≠ some g1 ∧ v.ownBlock ≠ some g2 ∧ (∀ i, i < Ls.length → gs.getD i 0 ≠ g1 ∧ gs.getD i 0 ≠ g2) ∧ Below w.heap.size w w' := by
  have HN : Hid (n = Ls.length) := hn
  have HI : Hid (IRow w ao c Ls) := hI
  have HZ : Hid (RZ w ao n) := hz
  have HM : Hid (∀ l ∈ Ls, l.length ≤ 1000000) := hM
  clear hn hI hz hM
  go_enter Try.func11, Try.ntmps11
  go_wp2_with fail
  go_loopg [3, 4] n (fun q lv iv wr => ∃ (k : Nat) (gs cs : List Nat) (a3 : Option Addr) (c3 : Nat), k ≤ n ∧ q = n - k ∧ lv = .slice a3 k c3 ∧ iv = .int .i64 (k : Int) ∧ Hid (LH w wr w.heap.size (.slice a3 k c3) gs cs (Ls.take k)))
  case atStart => exact ⟨0, [], [], none, 0, by omega, by omega, rfl, rfl, ⟨OwnV.nil _ _, LT.nil _ _, fun i hi => by simp at hi, Below.refl _ _⟩⟩
  case round =>
    obtain ⟨k, gs, cs, a3, c3, hk, rfl, rfl, rfl, HH⟩ := hrel
    have hlk : (Ls.take k).length = k := by have := HN.out; simp; omega
    have HLK : Hid ((Ls.take k).length = k) := hlk
    clear hlk
    have hBr : w.heap.size ≤ wr.heap.size := HH.out.bel.size
    by_cases hlt : k < n
    · have hkL : k < Ls.length := by have := HN.out; omega
      obtain ⟨rb, ro, ar, cr, rfl, krw, hIr⟩ := HI.out.at hkL
      have kr := (HH.out.bel.cell (p := ⟨rb, ro + k, none⟩) (block_lt_of_cell krw)).trans krw
      have hzr : ar = none → cr = 0 := fun e => by subst e; exact HZ.out rb ro k _ cr rfl hlt krw
      obtain ⟨L, hL⟩ : ∃ L, L = Ls[k] := ⟨_, rfl⟩
      rw [← hL] at kr hIr
      have hLm : L.length ≤ 1000000 := by rw [hL]; exact HM.out _ (List.getElem_mem hkL)
      obtain ⟨m, hm⟩ : ∃ m, m = L.length := ⟨_, rfl⟩
      rw [← hm] at kr hLm
      have hmc : m ≤ cr := by have := hIr.le; omega
      have hmx : cr ≤ 9223372036854775807 := hIr.mx
      have HI1 : Hid (Ints wr ar cr L) := hIr.below HH.out.bel (Nat.le_refl _)
      have HZR : Hid (ar = none → cr = 0) := hzr
      have HL : Hid (L = Ls[k]) := hL
      have HMM : Hid (m = L.length) := hm
      have HVL : Hid ((ltv gs cs (Ls.take k)).length = k) := by show _ = _; rw [ltv_len, HLK.out]
      clear hIr krw hzr hL hm
      go_wp2_with (first
        | (at_builtin; refine wpList_copyG rfl _ _ rfl wr.heap.size rfl ar m cr L HMM.out HI1.out HZR.out rfl (by omega) (Nat.le_refl _) ?_; intro v1 w1 o1 b1
           have hs1 := b1.size
           have HO1 := show Hid _ from o1
           have HB1 := show Hid _ from b1
           have kr1 := (b1.cell (p := ⟨rb, ro + k, none⟩) (block_lt_of_cell kr)).trans kr
           obtain ⟨a1, c1, e1, _, _⟩ := own_slice o1.out
           subst e1
           clear o1 b1)
        | (at_builtin; refine wpList_append_two (w0 := w1) rfl _ _ rfl wr.heap.size (.slice a1 m c1) m L (-71) (-72) rfl HO1.out rfl (by omega) hs1 ?_; intro v2 w2 o2 g2
           have b2 : Below wr.heap.size wr w2 := HB1.out.trans g2.bel
           have HO2 := show Hid _ from o2
           have HB2 := show Hid _ from b2
           have hs2 := b2.size
           have kr2 := (b2.cell (p := ⟨rb, ro + k, none⟩) (block_lt_of_cell kr)).trans kr
           obtain ⟨g, c2, e2, hc2, hc2', hg2, hg2'⟩ := own_some o2.out (by omega)
           subst e2
           have HV2 := show Hid (OwnV w2 w.heap.size (.slice a3 k c3) (ltv gs cs (Ls.take k))) from HH.out.out.move fun b hb => HB2.out.block b (own_block HH.out.out.out hb).2
           clear o2 g2 b2)
        | (at_builtin; refine wpList_append_slG (w0 := w2) rfl _ _ rfl w.heap.size (.slice a3 k c3) (ltv gs cs (Ls.take k)) (some ⟨g, 0, none⟩) m c2 rfl HV2.out rfl (by rw [HVL.out]; omega) (by omega) ?_; intro v3 w3 o3 g3
           have H3 := show Hid (LH w w3 w.heap.size v3 (gs ++ [g]) (cs ++ [c2]) (Ls.take k ++ [L])) from HH.out.more hBr HB2.out (by rw [← HMM.out]; exact HO2.out) (by rw [← HMM.out]; exact o3) g3
           obtain ⟨a4, c4, e4, _, _⟩ := own_slice o3.out
           rw [List.length_append, List.length_singleton, HVL.out] at e4
           subst e4
           clear o3 g3)
        | go_in)
      go_roundg (n - (k + 1))
      case rel =>
        refine ⟨k + 1, gs ++ [g], cs ++ [c2], a4, c4, by omega, rfl, rfl, by go_num, ?_⟩
        have h3 := H3.out
        rw [HL.out, List.take_append_getElem hkL] at h3
        exact h3
      case measure => omega
    · obtain rfl : k = n := by omega
      have HT : Hid (LH w wr w.heap.size (.slice a3 k c3) gs cs Ls) := by
        have := HH.out
        rw [List.take_of_length_le (by have := HN.out; omega)] at this
        exact this
      have HVL : Hid ((ltv gs cs Ls).length = k) := by show _ = _; rw [ltv_len, HN.out]
      obtain ⟨wA, hwA⟩ : ∃ wA, wA = (wr.alloc (.cells #[.int .i64 (-73)] 3)).alloc (.cells #[.int .i64 (-74), .int .i64 (-75)] 3) := ⟨_, rfl⟩
      have sA : wA.heap.size = wr.heap.size + 2 := by rw [hwA]; simp
      have bA : Below wr.heap.size wr wA := by rw [hwA]; exact ((Below.refl _ _).alloc (Nat.le_refl _) _).alloc (by simp) _
      have r1 : OwnI wA wr.heap.size (.slice (some ⟨wr.heap.size, 0, none⟩) 1 1) 1 [-73] := by
        refine own_of_exact rfl (by omega) (Nat.le_refl _) ?_
        rw [hwA, heap_alloc_old _ _ (by simp)]
        exact heap_alloc_new _ _
      have r2 : OwnI wA wr.heap.size (.slice (some ⟨wr.heap.size + 1, 0, none⟩) 2 2) 2 [-74, -75] := by
        refine own_of_exact rfl (by omega) (by omega) ?_
        rw [hwA]
        have := heap_alloc_new (wr.alloc (.cells #[.int .i64 (-73)] 3)) (.cells #[.int .i64 (-74), .int .i64 (-75)] 3)
        simpa [ivs] using this
      have vA : OwnV wA w.heap.size (.slice a3 k c3) (ltv gs cs Ls) := HT.out.out.move fun b hb => bA.block b (own_block HT.out.out.out hb).2
      have hvb : ∀ b, (Value.slice a3 k c3).ownBlock = some b → b < wr.heap.size := fun b hb => (own_block HT.out.out.out hb).2
      have FIN : Hid (∀ v' w', OwnV w' w.heap.size v' (ltv gs cs Ls ++ [.slice (some ⟨wr.heap.size, 0, none⟩) 1 1, .slice (some ⟨wr.heap.size + 1, 0, none⟩) 2 2]) → GI w.heap.size wA w' (.slice a3 k c3) v' →
          LT w' w.heap.size gs cs Ls ∧ (∀ i, i < Ls.length → v'.ownBlock ≠ some (gs.getD i 0)) ∧
      OwnI w' w.heap.size (.slice (some ⟨wr.heap.size, 0, none⟩) 1 1) 1 [-73] ∧ OwnI w' w.heap.size (.slice (some ⟨wr.heap.size + 1, 0, none⟩) 2 2) 2 [-74, -75] ∧ v'.ownBlock ≠ some wr.heap.size ∧ v'.ownBlock ≠ some (wr.heap.size + 1) ∧ (∀ i, i < Ls.length → gs.getD i 0 ≠ wr.heap.size ∧ gs.getD i 0 ≠ wr.heap.size + 1) ∧ Below w.heap.size w w') := by
        intro v' w' h1 h2
        refine ⟨HT.out.lt.move fun i hi => ?_, fun i hi e => ?_, (r1.mono hBr).gi h2 fun b hb e => ?_, (r2.mono hBr).gi h2 fun b hb e => ?_, fun e => ?_, fun e => ?_, fun i hi => ?_, HT.out.bel.trans ((bA.mono hBr).trans h2.bel)⟩
        · have hl := HT.out.lt.lt hi
          rw [h2.blk _ (by omega) (HT.out.ap i hi), bA.block _ hl.2]
        · have hl := HT.out.lt.lt hi
          rcases h2.own _ e with e1 | e1
          · exact HT.out.ap i hi e1
          · omega
        · simp [Value.ownBlock] at hb; subst hb; have := hvb _ e; omega
        · simp [Value.ownBlock] at hb; subst hb; have := hvb _ e; omega
        · rcases h2.own _ e with e1 | e1
          · have := hvb _ e1; omega
          · omega
        · rcases h2.own _ e with e1 | e1
          · have := hvb _ e1; omega
          · omega
        · have hl := HT.out.lt.lt hi
          omega
      have HVA : Hid _ := vA
      have HA : Hid (wA = (wr.alloc (.cells #[.int .i64 (-73)] 3)).alloc (.cells #[.int .i64 (-74), .int .i64 (-75)] 3)) := hwA
      have HSA : Hid (wA.heap.size = wr.heap.size + 2) := sA
      have hBA : w.heap.size ≤ wA.heap.size := by omega
      clear r1 r2 vA hwA bA sA hvb
      go_wp2_with (first
        | (at_builtin; rw [← HA.out]; refine wpList_append_slG2 (w0 := wA) rfl _ _ rfl w.heap.size (.slice a3 k c3) (ltv gs cs Ls) (some ⟨wr.heap.size, 0, none⟩) (some ⟨wr.heap.size + 1, 0, none⟩) 1 1 2 2 rfl HVA.out (by rw [HSA.out]; rfl) (by rw [HVL.out]; omega) hBA ?_; intro v3 w3 o3 g3
           have H3 := show Hid _ from FIN.out v3 w3 o3 g3
           have HO3 := show Hid _ from o3
           obtain ⟨a4, c4, e4, _, _⟩ := own_slice o3.out
           rw [List.length_append, HVL.out] at e4
           subst e4
           clear o3 g3)
        | go_in)
      try rw [Exit.noGoto_ret]
      go_ret
      exact ⟨_, gs, cs, _, _, rfl, HO3.out, H3.out⟩
end Go.Proofs.Ythjjdfiaikibaaa
