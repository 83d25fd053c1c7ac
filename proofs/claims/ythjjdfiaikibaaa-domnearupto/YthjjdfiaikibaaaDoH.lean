import Derived.Test.YthjjdfiaikibaaaDnF
import Derived.Test.YthjjdfiaikibaaaDoG
set_option linter.unusedVariables false
set_option linter.unusedSimpArgs false
namespace Go.Proofs.Ythjjdfiaikibaaa
open Go.ChangeShapes Go.WideShapes Go.ChangeAt Go.RowKit Go.Maps

set_option maxRecDepth 100000 in
set_option maxHeartbeats 4000000 in
theorem domTree_any (w : World) (ao : Option Addr) (n c : Nat) (Ls : List (List Int)) (hn : n = Ls.length) (hI : IRow w ao c Ls) (hz : RZ w ao n) (hs : n + (Ls.map List.length).sum ≤ 9223372036854775807) :
    Calls Try.prog 4 #[.slice ao n c] w fun e w' => e = .returned (.bool true) ∧ Below w.heap.size w w' := by
  obtain ⟨S, hS⟩ : ∃ S, S = (Ls.map List.length).sum := ⟨_, rfl⟩
  have hed := edges_any w ao n c Ls hn hI (by omega)
  rw [← hS] at hed hs
  have hnc : n ≤ c := by have := hI.le; omega
  have hcm : c ≤ 9223372036854775807 := hI.mx
  by_cases hmost : n ≤ 300
  · by_cases hbig : S ≤ 20000
    · have hM : ∀ l ∈ Ls, l.length ≤ 1000000 := fun l hl => by
        have := le_sum (List.mem_map_of_mem (f := List.length) hl)
        omega
      have hle := lent_any w ao n c Ls hn hI hz (by omega) hM
      have HN : Hid (n = Ls.length) := hn
      have HI : Hid (IRow w ao c Ls) := hI
      have HZ : Hid (RZ w ao n) := hz
      have HM : Hid (∀ l ∈ Ls, l.length ≤ 1000000) := hM
      clear hn hI hz hM hS
      go_enter Try.func4, Try.ntmps4
      go_wp2_with fail
      refine hed.mono ?_
      rintro e w' ⟨rfl, rfl⟩
      clear hed
      go_wp2_with fail
      refine hle.mono ?_
      rintro e w2 ⟨v, gs, cs, g1, g2, rfl, V, T, AP, R1, R2, A1, A2, A3, b2⟩
      clear hle
      have hll := ltv_len gs cs Ls
      have hlen : (ltv gs cs Ls ++ [Value.slice (some ⟨g1, 0, none⟩) 1 1, .slice (some ⟨g2, 0, none⟩) 2 2]).length = n + 2 := by have := HN.out; simp [hll, this]
      have V2 := V.out
      rw [hlen] at V2
      obtain ⟨g4, c4, e4, hc4, hc4', hg4, hg4'⟩ := own_some V2 (by omega)
      subst e4
      have HV : Hid _ := V
      have HT : Hid _ := T
      have HAP : Hid (∀ i, i < Ls.length → g4 ≠ gs.getD i 0) := fun i hi e => AP i hi (by rw [← e]; rfl)
      have HR1 : Hid _ := R1
      have HR2 : Hid _ := R2
      have HB2 : Hid _ := b2
      have HIR : Hid (IRow w2 (some ⟨g4, 0, none⟩) c4 Ls) := lent_irow V T hlen.symm
      clear V T AP R1 R2 A1 A2 A3 b2 V2 hll
      go_wp2_with fail
      refine (tree_any w2 (some ⟨g4, 0, none⟩) n c4 Ls HN.out HIR.out (by omega) HM.out).mono ?_
      rintro e w3 ⟨va, rfl, OA, b3⟩
      have HOA : Hid _ := OA
      have HB3 : Hid _ := b3
      obtain ⟨aa, ca, ea, _⟩ := OA.ints
      subst ea
      clear OA b3
      go_wp2_with fail
      refine (alive_any w3).mono ?_
      rintro e w4 ⟨rfl, b4⟩
      have HB4 : Hid (Below w2.heap.size w2 w4) := HB3.out.trans (b4.mono HB3.out.size)
      have HOA4 := show Hid _ from HOA.out.keep b4
      clear b4 HOA HB3
      go_wp2_with fail
      have hs4 := HB4.out.size
      have V4 : OwnV w4 w'.heap.size (.slice (some ⟨g4, 0, none⟩) (n + 2) c4) (ltv gs cs Ls ++ [.slice (some ⟨g1, 0, none⟩) 1 1, .slice (some ⟨g2, 0, none⟩) 2 2]) := HV.out.move fun b hb => HB4.out.block b (own_block HV.out.out hb).2
      have T4 : LT w4 w'.heap.size gs cs Ls := HT.out.move fun i hi => HB4.out.block _ (HT.out.lt hi).2
      have b04 : Below w'.heap.size w' w4 := HB2.out.trans (HB4.out.mono HB2.out.size)
      refine (stays_any w' w4 ao n c Ls HN.out HI.out HZ.out (by omega) HM.out w'.heap.size rfl b04 g4 c4 g1 g2 gs cs V4 T4 HAP.out (HR1.out.keep HB4.out) (HR2.out.keep HB4.out)).mono ?_
      rintro e w5 ⟨rfl, b5, oth⟩
      have HB5 : Hid (Below w'.heap.size w' w5) := b04.trans b5
      have HOA5 : Hid (OwnI w5 w2.heap.size (.slice aa (treeP Ls).length ca) (treeP Ls).length (treeP Ls)) := ⟨HOA4.out.len, own_move HOA4.out.out fun b hb => by
        have h1 := own_block HOA4.out.out hb
        refine oth b h1.2 (by omega) fun i hi => ?_
        have h2 := HT.out.lt (i := i) (by have := HN.out; omega)
        omega⟩
      clear V4 T4 b04 b5 oth HB4 HV HT HR1 HR2 HIR HOA4 hs4 hlen
      go_wp2_with fail
      refine (refTree_any w5 ao n c Ls HN.out (HI.out.below HB5.out (Nat.le_refl _)) (by omega)).mono ?_
      rintro e w6 ⟨vb, rfl, OB, b6⟩
      obtain ⟨ab, cb, eb, IB⟩ := OB.ints
      subst eb
      have HB6 : Hid (Below w'.heap.size w' w6) := HB5.out.trans (b6.mono HB5.out.size)
      have HIB : Hid _ := IB
      have HOA6 := show Hid _ from HOA5.out.keep b6
      clear OB IB b6 HOA5
      go_wp2_with fail
      obtain ⟨_, _, e7, IA⟩ := HOA6.out.ints
      cases e7
      refine (same_any w6 _ _ _ _ _ _ (treeP Ls) (treeP Ls) rfl rfl IA HIB.out).mono ?_
      rintro e w7 ⟨rfl, b7⟩
      rw [show decide (treeP Ls = treeP Ls) = true by simp]
      have HB7 : Hid (Below w'.heap.size w' w7) := HB6.out.trans (b7.mono HB6.out.size)
      clear b7 IA
      go_wp2_with fail
      go_ret
      exact ⟨rfl, HB7.out⟩
    · have hS2 : ¬ (S : Int) ≤ 20000 := by omega
      clear hI hz hn hS
      go_enter Try.func4, Try.ntmps4
      go_wp2_with fail
      refine hed.mono ?_
      rintro e w' ⟨rfl, rfl⟩
      clear hed
      go_wp2_with fail
      refine (alive_any w').mono ?_
      rintro e w4 ⟨rfl, b4⟩
      have HB4 : Hid _ := b4
      clear b4
      go_wp2_with fail
      go_ret
      exact ⟨rfl, HB4.out⟩
  · clear hI hz hn hS hed
    go_enter Try.func4, Try.ntmps4
    go_wp2_with fail
    refine (alive_any w).mono ?_
    rintro e w4 ⟨rfl, b4⟩
    have HB4 : Hid _ := b4
    clear b4
    go_wp2_with fail
    go_ret
    exact ⟨rfl, HB4.out⟩
end Go.Proofs.Ythjjdfiaikibaaa
