import Derived.Test.YtplpgeocidllfaaOrP
import Derived.Test.YtplpgeocidllfaaOrM
set_option linter.unusedVariables false
set_option linter.unusedSimpArgs false
namespace Go.Proofs.Ytplpgeocidllfaa
open Go.ChangeShapes Go.WideShapes Go.ChangeAt Go.RowKit Go.Maps

theorem MR.unset {w : World} {g n b : Nat} {ml : List Int} (h : MR w g n ml) : MR (w.setCell ⟨g, b, none⟩ (.bool false)) g n (ml.filter fun x => decide (x ≠ (b : Int))) := by
  unfold MR at h ⊢
  rw [heap_set_at h]
  congr 2
  refine Array.ext (by simp [rch]) fun j h1 h2 => ?_
  simp only [List.setIfInBounds_toArray, List.getElem_toArray, List.getElem_set, List.getElem_map, rch, List.getElem_range, List.mem_filter, decide_eq_true_eq]
  by_cases e : b = j
  · subst e; simp
  · rw [if_neg e]
    have : ((j : Int) ≠ (b : Int)) := by omega
    simp [this]
theorem MR.fz {w : World} {g n : Nat} {ml : List Int} (h : MR w g n ml) (i : Nat) : w.frozen? ⟨g, i, none⟩ = false := by unfold MR at h; exact fz_of h
theorem MR.move {w w' : World} {g n : Nat} {ml : List Int} (h : MR w g n ml) (hk : w'.heap[g]? = w.heap[g]?) : MR w' g n ml := hk.trans h
theorem MR.lt {w : World} {g n : Nat} {ml : List Int} (h : MR w g n ml) : g < w.heap.size := by unfold MR at h; exact (Array.getElem?_eq_some_iff.1 h).1
theorem MR.ne {w : World} {g n : Nat} {ml : List Int} (h : MR w g n ml) {B v m L} (o : OwnI w B v m L) : v.ownBlock ≠ some g := by unfold MR at h; exact own_not o.out h (by decide)
theorem OwnI.set_other {w : World} {B v n L} (h : OwnI w B v n L) {g i : Nat} {u : Value} (hne : v.ownBlock ≠ some g) : OwnI (w.setCell ⟨g, i, none⟩ u) B v n L := ⟨h.len, own_move h.out fun k hk => heap_set_other fun e => hne (by rw [← e]; exact hk)⟩
theorem RZ.below {w w' : World} {ao n c Ls} (h : RZ w ao n) (hI : IRow w ao c Ls) (hn : n = Ls.length) (hb : Below w.heap.size w w') : RZ w' ao n := fun b o i m c' e hi hc => h b o i m c' e hi (by
    obtain ⟨_, _, _, _, e2, hc2, _⟩ := hI.at (j := i) (by omega)
    rw [e] at e2
    cases e2
    rw [← hc, hb.cell (p := ⟨b, o + i, none⟩) (block_lt_of_cell hc2)])
set_option maxRecDepth 100000 in
set_option maxHeartbeats 4000000 in
theorem orderOnce_any (w : World) (ao : Option Addr) (n c : Nat) (Ls : List (List Int)) (hn : n = Ls.length) (hI : IRow w ao c Ls) (hz : RZ w ao n) (hl : ∀ l ∈ Ls, l.length ≤ 17592186043904) (hnn : n ≤ 17592186043904) :
    Calls Try.prog 4 #[.slice ao n c] w fun e w' => e = .returned (.bool true) ∧ Below w.heap.size w w' := by
  have hal := aliveO_any w
  have hnc : n ≤ c := by have := hI.le; omega
  have hcm : c ≤ 9223372036854775807 := hI.mx
  have HN : Hid (n = Ls.length) := hn
  have HI : Hid (IRow w ao c Ls) := hI
  have HZ : Hid (RZ w ao n) := hz
  have HL : Hid (∀ l ∈ Ls, l.length ≤ 17592186043904) := hl
  clear hn hI hz hl
  go_enter Try.func4, Try.ntmps4
  go_wp2_with fail
  refine hal.mono ?_
  rintro e w1 ⟨rfl, b1⟩
  have HB1 : Hid (Below w.heap.size w w1) := b1
  clear hal b1
  go_wp2_with fail
  have hhv := heavy_any w1 ao n c Ls HN.out (HI.out.below HB1.out (Nat.le_refl _)) (fun l hl => by have := HL.out l hl; omega) (by omega) 200000 (by omega)
  refine Calls.mono hhv ?_
  rintro e w2 ⟨rfl, rfl⟩
  clear hhv
  by_cases h2 : 200000 < bulkP Ls
  · rw [decide_eq_true h2]
    go_wp2_with fail
    go_ret
    exact ⟨rfl, HB1.out⟩
  rw [decide_eq_false h2]
  have hnb : n ≤ 200000 := by have := HN.out; unfold bulkP at h2; omega
  have HM : Hid (∀ l ∈ Ls, l.length ≤ 1000000) := fun l hl => by have := bulk_row hl; omega
  clear h2 hnn
  go_wp2_with fail
  refine Calls.mono (lent_any w2 ao n c Ls HN.out (HI.out.below HB1.out (Nat.le_refl _)) (HZ.out.below HI.out HN.out HB1.out) (by omega) HM.out) ?_
  rintro e w3 ⟨g4, c4, af, cf, gs, cs, g1, g2, rfl, V, F, NE, T, R1, R2, b3⟩
  have HT : Hid (IRow w3 (some ⟨g4, 0, none⟩) c4 Ls) := lent_irow V T (by simp [ltv_len, HN.out])
  have HB3 : Hid (Below w.heap.size w w3) := HB1.out.trans (b3.mono HB1.out.size)
  clear V F NE T R1 R2 b3 HB1 HM
  go_wp2_with fail
  refine Calls.mono (line_any w3 (some ⟨g4, 0, none⟩) n c4 Ls HN.out HT.out (by omega)) ?_
  rintro e w4 ⟨va, rfl, OA, b4⟩
  obtain ⟨aa, ca, ea, hca, hca'⟩ := own_slice OA.out
  subst ea
  have HOA : Hid (OwnI w4 w3.heap.size (.slice aa (linP Ls).length ca) (linP Ls).length (linP Ls)) := OA
  have HB4 : Hid (Below w.heap.size w w4) := HB3.out.trans (b4.mono HB3.out.size)
  obtain ⟨A, hA⟩ : ∃ A, A = linP Ls := ⟨_, rfl⟩
  rw [← hA] at HOA hca ⊢
  have HA : Hid (A = linP Ls) := hA
  have hAl : A.length ≤ n := by rw [hA, HN.out]; exact lin_len
  clear OA b4 HT HB3 hA
  go_wp2_with fail
  refine Calls.mono (right_any w4 ao n c Ls HN.out (HI.out.below HB4.out (Nat.le_refl _))) ?_
  rintro e w5 ⟨rfl, rfl⟩
  by_cases hg : goodP Ls = true
  · rw [hg]
    have HG : Hid (goodP Ls = true) := hg
    have hpos : 0 < n := by have := goodP_pos hg; have := HN.out; omega
    clear hg
    go_wp2_with fail
    refine Calls.mono (reached_any w5 ao n c Ls HN.out (HI.out.below HB4.out (Nat.le_refl _)) HG.out (by omega) 0 hpos) ?_
    rintro e w6 ⟨rfl, ⟨ml, M6, hml⟩, b6⟩
    obtain ⟨r0, hr0⟩ := lin_first HG.out
    rw [← HA.out] at hr0
    have hAp : 0 < A.length := by rw [hr0]; simp
    obtain ⟨ga, _, e9, _, _, _, _⟩ := own_some HOA.out.out hAp
    cases e9
    obtain ⟨g, hgd⟩ : ∃ g, g = w5.heap.size := ⟨_, rfl⟩
    rw [← hgd] at M6 ⊢
    have HB6 : Hid (Below w.heap.size w w6) := HB4.out.trans (b6.mono HB4.out.size)
    have HST : Hid (∃ ml, MR w6 g n ml ∧ (∀ x, x ∈ ml ↔ Rc Ls 0 x ∧ x ∉ A.take 0) ∧ OwnI w6 w3.heap.size (.slice (some ⟨ga, 0, none⟩) A.length ca) A.length A ∧ Below w.heap.size w w6) := ⟨ml, M6, fun x => by rw [hml x]; simp, HOA.out.keep b6, HB6.out⟩
    have hgB : w.heap.size ≤ g := by rw [hgd]; exact HB4.out.size
    have HF : Hid (A.getD 0 0 = 0) := by show _ = _; rw [hr0]; rfl
    clear M6 hml b6 HOA HB6 hgd hr0 HB4
    go_wp2_with fail
    go_loopg [9] A.length (fun q iv wr => ∃ i : Nat, i ≤ A.length ∧ q = A.length - i ∧ iv = .int .i64 (i : Int) ∧ Hid (∃ ml, MR wr g n ml ∧ (∀ x, x ∈ ml ↔ Rc Ls 0 x ∧ x ∉ A.take i) ∧ OwnI wr w3.heap.size (.slice (some ⟨ga, 0, none⟩) A.length ca) A.length A ∧ Below w.heap.size w wr))
    case atStart => exact ⟨0, by omega, by omega, rfl, HST.out⟩
    case round =>
      clear HST
      obtain ⟨i, hi, rfl, rfl, HS⟩ := hrel
      obtain ⟨ml, M, hml, O, bel⟩ := HS.out
      by_cases hlt : i < A.length
      · have hmem : A[i] ∈ linP Ls := by rw [← HA.out]; exact List.getElem_mem hlt
        have hrng := lin_rng HG.out hmem
        have hrc := (lin_mem HG.out A[i]).1 hmem
        have kx : wr.cell? ⟨ga, i, none⟩ = some (.int .i64 A[i]) := by rw [own_cell O.out i (by omega)]; simp [ivs, hlt]
        have hnd := lin_nodup HG.out
        rw [← HA.out] at hnd
        have hnt : A[i] ∉ A.take i := fun h => by
          obtain ⟨j, hj, e⟩ := List.mem_iff_getElem.1 h
          simp at hj
          rw [List.getElem_take] at e
          have := (List.getElem_inj (h₀ := by omega) (h₁ := hlt) hnd).1 e
          omega
        have hin : A[i] ∈ ml := (hml _).2 ⟨hrc, hnt⟩
        obtain ⟨x, hx⟩ : ∃ x, x = A[i] := ⟨_, rfl⟩
        rw [← hx] at kx hrng hin hnt
        obtain ⟨xn, rfl⟩ : ∃ xn : Nat, x = (xn : Int) := ⟨x.toNat, by omega⟩
        have hxn : xn < n := by have := HN.out; omega
        have ks := M.cell hxn
        rw [decide_eq_true hin] at ks
        have fs := M.fz xn
        have HNX : Hid (∃ ml, MR (wr.setCell ⟨g, xn, none⟩ (.bool false)) g n ml ∧ (∀ x, x ∈ ml ↔ Rc Ls 0 x ∧ x ∉ A.take (i + 1)) ∧ OwnI (wr.setCell ⟨g, xn, none⟩ (.bool false)) w3.heap.size (.slice (some ⟨ga, 0, none⟩) A.length ca) A.length A ∧ Below w.heap.size w (wr.setCell ⟨g, xn, none⟩ (.bool false))) := by
          refine ⟨_, M.unset, fun y => ?_, O.set_other (M.ne O), bel.setCell hgB _⟩
          rw [List.mem_filter, hml y, ← List.take_append_getElem hlt, ← hx]
          simp only [decide_eq_true_eq, List.mem_append, List.mem_singleton]
          constructor
          · rintro ⟨⟨h1, h2⟩, h3⟩
            exact ⟨h1, fun h => h.elim h2 h3⟩
          · rintro ⟨h1, h2⟩
            exact ⟨⟨h1, fun h => h2 (.inl h)⟩, fun h => h2 (.inr h)⟩
        have q1 : decide ((xn : Int) < 0) = false := by simp
        have q2 : decide ((n : Int) ≤ (xn : Int)) = false := by simp; omega
        clear HS M hml O bel hmem hrng hrc hnd hnt hin hx
        go_wp2_with fail
        go_roundg (A.length - (i + 1))
        case rel => exact ⟨i + 1, by omega, rfl, by go_num, HNX.out⟩
        case measure => omega
      · have hie : i = A.length := by omega
        have HE : Hid (∀ x, x ∉ ml) := fun x hx => by
          have h1 := (hml x).1 hx
          rw [hie, List.take_of_length_le (Nat.le_refl _), HA.out] at h1
          exact h1.2 ((lin_mem HG.out x).2 h1.1)
        have HM : Hid (MR wr g n ml) := M
        have k0 : wr.cell? ⟨ga, 0, none⟩ = some (.int .i64 0) := by
          rw [own_cell O.out 0 (by omega)]
          have := HF.out
          simp [ivs, hAp] at this ⊢
          exact this
        have HBL : Hid (Below w.heap.size w wr) := bel
        obtain ⟨w7, hw7⟩ : ∃ w7, w7 = wr := ⟨_, rfl⟩
        subst hw7
        clear HS M hml O bel hie
        go_wp2_with fail
        go_loopg [10] n (fun q iv wr => ∃ k : Nat, k ≤ n ∧ q = n - k ∧ iv = .int .i64 (k : Int) ∧ wr = w7)
        case atStart => exact ⟨0, by omega, by omega, rfl, rfl⟩
        case round =>
          obtain ⟨k, hk, rfl, rfl, rfl⟩ := hrel
          by_cases hlt2 : k < n
          · have ks := HM.out.cell hlt2
            rw [decide_eq_false (HE.out _)] at ks
            go_wp2_with fail
            go_roundg (n - (k + 1))
            case rel => exact ⟨k + 1, by omega, rfl, by go_num, rfl⟩
            case measure => omega
          · have q1 : decide ((0 : Int) < (A.length : Int)) = true := by simp; omega
            go_wp2_with fail
            try rw [Exit.noGoto_ret]
            go_ret
            exact ⟨rfl, HBL.out⟩
  · have hf : goodP Ls = false := by simpa using hg
    rw [hf]
    have hA0 : A = [] := by rw [HA.out, linP, if_neg hg]
    have hA1 : A.length = 0 := by rw [hA0]; rfl
    rw [hA1]
    clear hg hf hA0 hA1 HA HOA
    go_wp2_with fail
    go_ret
    exact ⟨rfl, HB4.out⟩
end Go.Proofs.Ytplpgeocidllfaa
