import Derived.Test.YtplpgeocidllfaaOrL
set_option linter.unusedVariables false
set_option linter.unusedSimpArgs false
namespace Go.Proofs.Ytplpgeocidllfaa
open Go.ChangeShapes Go.WideShapes Go.ChangeAt Go.RowKit Go.Maps

theorem le_sum {l : List Nat} {x : Nat} (h : x ∈ l) : x ≤ l.sum := by
  induction l with
  | nil => simp at h
  | cons a l ih =>
    rcases List.mem_cons.1 h with rfl | h
    · simp
    · have := ih h; simp; omega
theorem bulk_row {Ls : List (List Int)} {l : List Int} (h : l ∈ Ls) : l.length ≤ bulkP Ls := by
  have := le_sum (List.mem_map_of_mem (f := List.length) h)
  unfold bulkP
  omega
/-- What was lent, in a world further on. -/
structure Lnt (w w' : World) (n : Nat) (Ls : List (List Int)) (g4 c4 : Nat) (af : Option Addr) (cf : Nat) (gs cs : List Nat) (g1 g2 : Nat) : Prop where
  v : OwnV w' w.heap.size (.slice (some ⟨g4, 0, none⟩) (n + 2) c4) (ltv gs cs Ls ++ [.slice (some ⟨g1, 0, none⟩) 1 1, .slice (some ⟨g2, 0, none⟩) 1 1])
  f : OwnV w' w.heap.size (.slice af n cf) (ftv gs cs Ls)
  ne : (Value.slice af n cf).ownBlock ≠ some g4
  t : LT w' w.heap.size gs cs Ls
  r1 : OwnI w' w.heap.size (.slice (some ⟨g1, 0, none⟩) 1 1) 1 [-74]
  r2 : OwnI w' w.heap.size (.slice (some ⟨g2, 0, none⟩) 1 1) 1 [-75]
theorem Lnt.keep {w w' w'' : World} {n Ls g4 c4 af cf gs cs g1 g2} (h : Lnt w w' n Ls g4 c4 af cf gs cs g1 g2) (hb : Below w'.heap.size w' w'') : Lnt w w'' n Ls g4 c4 af cf gs cs g1 g2 :=
  ⟨h.v.keep hb, h.f.keep hb, h.ne, h.t.move fun i hi => hb.block _ (h.t.lt hi).2, h.r1.keep hb, h.r2.keep hb⟩
theorem Lnt.irow {w w' : World} {n Ls g4 c4 af cf gs cs g1 g2} (h : Lnt w w' n Ls g4 c4 af cf gs cs g1 g2) (hn : n = Ls.length) : IRow w' (some ⟨g4, 0, none⟩) c4 Ls := lent_irow h.v h.t (by simp [ltv_len, hn])
set_option maxRecDepth 100000 in
set_option maxHeartbeats 4000000 in
theorem orderLine_any (w : World) (ao : Option Addr) (n c : Nat) (Ls : List (List Int)) (hn : n = Ls.length) (hI : IRow w ao c Ls) (hz : RZ w ao n) (hl : ∀ l ∈ Ls, l.length ≤ 17592186043904) (hnn : n ≤ 17592186043904) :
    Calls Try.prog 3 #[.slice ao n c] w fun e w' => e = .returned (.bool true) ∧ Below w.heap.size w w' := by
  have hal := aliveO_any w
  have hnc : n ≤ c := by have := hI.le; omega
  have hcm : c ≤ 9223372036854775807 := hI.mx
  have HN : Hid (n = Ls.length) := hn
  have HI : Hid (IRow w ao c Ls) := hI
  have HZ : Hid (RZ w ao n) := hz
  have HL : Hid (∀ l ∈ Ls, l.length ≤ 17592186043904) := hl
  clear hn hI hz hl
  go_enter Try.func3, Try.ntmps3
  go_wp2_with fail
  refine hal.mono ?_
  rintro e w1 ⟨rfl, b1⟩
  have HB1 : Hid (Below w.heap.size w w1) := b1
  clear hal b1
  by_cases h1 : 2000 < n
  · have q1 : decide ((2000 : Int) < (n : Int)) = true := by simp; omega
    go_wp2_with fail
    go_ret
    exact ⟨rfl, HB1.out⟩
  have q1 : decide ((2000 : Int) < (n : Int)) = false := by simp; omega
  go_wp2_with fail
  have hhv := heavy_any w1 ao n c Ls HN.out (HI.out.below HB1.out (Nat.le_refl _)) (fun l hl => by have := HL.out l hl; omega) (by omega) 20000 (by omega)
  refine Calls.mono hhv ?_
  rintro e w2 ⟨rfl, rfl⟩
  clear hhv
  by_cases h2 : 20000 < bulkP Ls
  · rw [decide_eq_true h2]
    go_wp2_with fail
    go_ret
    exact ⟨rfl, HB1.out⟩
  rw [decide_eq_false h2]
  have HM : Hid (∀ l ∈ Ls, l.length ≤ 1000000) := fun l hl => by have := bulk_row hl; omega
  clear h2
  go_wp2_with fail
  refine Calls.mono (lent_any w2 ao n c Ls HN.out (HI.out.below HB1.out (Nat.le_refl _)) (fun b o i m c' e hi hc => HZ.out b o i m c' e hi (by
    obtain ⟨_, _, _, _, e2, hc2, _⟩ := HI.out.at (j := i) (by have := HN.out; omega)
    rw [e] at e2
    cases e2
    rw [← hc, HB1.out.cell (p := ⟨b, o + i, none⟩) (block_lt_of_cell hc2)])) (by omega) HM.out) ?_
  rintro e w3 ⟨g4, c4, af, cf, gs, cs, g1, g2, rfl, V, F, NE, T, R1, R2, b3⟩
  have HT : Hid (Lnt w2 w3 n Ls g4 c4 af cf gs cs g1 g2) := ⟨V, F, NE, T, R1, R2⟩
  have HB3 : Hid (Below w2.heap.size w2 w3) := b3
  obtain ⟨_, _, e9, hc4, hc4', _, _⟩ := own_some (by have := V.out; rw [show (ltv gs cs Ls ++ [Value.slice (some ⟨g1, 0, none⟩) 1 1, .slice (some ⟨g2, 0, none⟩) 1 1]).length = n + 2 by simp [ltv_len, HN.out]] at this; exact this) (by omega)
  cases e9
  clear V F NE T R1 R2 b3
  go_wp2_with fail
  refine Calls.mono (line_any w3 (some ⟨g4, 0, none⟩) n c4 Ls HN.out (HT.out.irow HN.out) (by omega)) ?_
  rintro e w4 ⟨va, rfl, OA, b4⟩
  have HOA : Hid _ := OA
  have HB4 : Hid (Below w3.heap.size w3 w4) := b4
  obtain ⟨aa, ca, ea, _⟩ := OA.ints
  subst ea
  clear OA b4
  go_wp2_with fail
  have T4 := HT.out.keep HB4.out
  have b04 : Below w2.heap.size w2 w4 := HB3.out.trans (HB4.out.mono HB3.out.size)
  have hs4 := HB4.out.size
  refine Calls.mono (stays_any w2 w4 ao n c Ls HN.out (HI.out.below HB1.out (Nat.le_refl _)) (fun b o i m c' e hi hc => HZ.out b o i m c' e hi (by
    obtain ⟨_, _, _, _, e2, hc2, _⟩ := HI.out.at (j := i) (by have := HN.out; omega)
    rw [e] at e2
    cases e2
    rw [← hc, HB1.out.cell (p := ⟨b, o + i, none⟩) (block_lt_of_cell hc2)])) (by omega) HM.out w2.heap.size rfl b04 g4 c4 g1 g2 af cf gs cs T4.v T4.f T4.ne T4.t T4.r1 T4.r2) ?_
  rintro e w5 ⟨rfl, b5, oth⟩
  have HB5 : Hid (Below w.heap.size w w5) := HB1.out.trans ((b04.trans b5).mono HB1.out.size)
  have hg4 := own_block T4.v.out (g := g4) rfl
  have hg43 := (own_block HT.out.v.out (g := g4) rfl).2
  have HOA5 : Hid (OwnI w5 w3.heap.size (.slice aa (linP Ls).length ca) (linP Ls).length (linP Ls)) := ⟨HOA.out.len, own_move HOA.out.out fun b hb => by
    have h1 := own_block HOA.out.out hb
    refine oth b h1.2 (by omega) fun i hi => ?_
    have h2 := HT.out.t.lt (i := i) (by have := HN.out; omega)
    omega⟩
  clear T4 b04 b5 oth hg4 hg43 HT HB3 HB4 HOA hs4
  go_wp2_with fail
  refine Calls.mono (refLine_any w5 ao n c Ls HN.out (HI.out.below HB5.out (Nat.le_refl _)) (by omega)) ?_
  rintro e w6 ⟨vb, rfl, OB, b6⟩
  obtain ⟨ab, cb, eb, IB⟩ := OB.ints
  subst eb
  have HB6 : Hid (Below w.heap.size w w6) := HB5.out.trans (b6.mono HB5.out.size)
  have HIB : Hid _ := IB
  have HOA6 := show Hid _ from HOA5.out.keep b6
  clear OB IB b6 HOA5
  go_wp2_with fail
  obtain ⟨_, _, e7, IA⟩ := HOA6.out.ints
  cases e7
  refine Calls.mono (sameO_any w6 _ _ _ _ _ _ (linP Ls) (linP Ls) rfl rfl IA HIB.out) ?_
  rintro e w7 ⟨rfl, b7⟩
  rw [show decide (linP Ls = linP Ls) = true by simp]
  have HB7 : Hid (Below w.heap.size w w7) := HB6.out.trans (b7.mono HB6.out.size)
  clear b7 IA
  go_wp2_with fail
  go_ret
  exact ⟨rfl, HB7.out⟩
end Go.Proofs.Ytplpgeocidllfaa
