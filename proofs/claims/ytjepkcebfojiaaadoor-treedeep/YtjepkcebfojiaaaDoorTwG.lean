import Derived.Test.YtjepkcebfojiaaaDoorTwF
import Derived.Test.YtjepkcebfojiaaaDoorLzG
import Derived.Test.YtjepkcebfojiaaaDoorLyN
import Derived.Deep.RegionHeldLaw
set_option linter.unusedVariables false
set_option linter.unusedSimpArgs false
namespace Go.Proofs.YtjepkcebfojiaaaDoor
open Go.ChangeShapes Go.WideShapes Go.ChangeAt Go.RowKit

theorem NL.nil (w : World) : NL w.heap.size w w (.slice none 0 0) 0 [] := ⟨⟨[], ⟨rfl, World.ownsRow_nil _ _ _ _, by simp⟩, rfl⟩, Below.refl _ _⟩
/-- Check of a tree that was built. -/
theorem check_nl {B : Nat} {w wr : World} (hA : AllTab wr) {ao : Option Addr} {cap k g : Nat} {L : List Nd} {f : Nat} (H : NL B w wr (.slice ao k cap) k L) (hk : k ≤ 1000000) (hF : OwnI wr B (.slice (some ⟨g, 0, none⟩) 1 1) 1 [(f : Int)]) (hc : chk ⟨L, [(f : Int)]⟩ = true) :
    Calls Tryd.prog 15 #[.agg #[.slice ao k cap, .slice (some ⟨g, 0, none⟩) 1 1]] wr fun e w' => e = .returned (.int .i64 0) ∧ Below wr.heap.size wr w' := by
  obtain ⟨fa, fc, eF, _, _, hI, _⟩ := hF.view
  cases eF
  refine (check_any wr hA.tab ao cap k (some ⟨g, 0, none⟩) 1 1 ⟨L, [(f : Int)]⟩ H.le rfl H.nodes hI (by omega)).mono ?_
  rintro e w' ⟨rfl, hb⟩
  rw [hc]
  exact ⟨rfl, hb⟩
theorem print_nl {B : Nat} {w wr : World} (hA : AllTab wr) {ao : Option Addr} {cap k g : Nat} {L : List Nd} {f : Nat} (H : NL B w wr (.slice ao k cap) k L) (hk : k ≤ 1000000) (hF : OwnI wr B (.slice (some ⟨g, 0, none⟩) 1 1) 1 [(f : Int)]) (hc : chk ⟨L, [(f : Int)]⟩ = true) {X : List UInt8} (hP : PrintsOKx L [(f : Int)] ⟨[], [], 0⟩ ⟨X, [], 0⟩) :
    Calls Tryd.prog 8 #[.agg #[.slice ao k cap, .slice (some ⟨g, 0, none⟩) 1 1]] wr fun e w' => (∃ v n, e = .returned (.tuple #[v, .int .i64 0]) ∧ OwnB w' wr.heap.size v n X) ∧ Below wr.heap.size wr w' := by
  obtain ⟨fa, fc, eF, _, _, hI, _⟩ := hF.view
  cases eF
  exact print_all wr hA.tab hA.lo hA.t1 hA.t2 hA.tp ao cap k (some ⟨g, 0, none⟩) 1 1 ⟨L, [(f : Int)]⟩ H.le rfl H.nodes hI (by omega) hc ⟨X, [], 0⟩ hP
-- walk
set_option maxRecDepth 10000 in
set_option maxHeartbeats 400000 in
theorem deep_blocks (w : World) (hA : AllTab w) (hw nn : Int) (hq : bits BinOp.and IntKind.i64 hw 7 = 0) (m : Nat) (hm : bits BinOp.and IntKind.i64 nn 16383 = (m : Int)) (m2 : Nat) (hm2 : bits BinOp.and IntKind.i64 (m : Int) 1023 = (m2 : Int)) (hmm : m2 ≤ 1023) :
    Calls Tryd.prog 5 #[.int .i64 hw, .int .i64 nn] w fun e w' => e = .returned (.bool true) ∧ Below w.heap.size w w' := by
  have HA : Hid (AllTab w) := hA
  clear hA
  go_enter Tryd.func5, Tryd.ntmps5
  go_wp2_with (first | (at_builtin; refine wpList_append_nl (w := w) (wr := w) rfl _ _ rfl w.heap.size (.slice none 0 0) 0 1 w.heap.size [] [(nBk [], .slice none 0 0)] ?_ (NL.nil w) (Below.refl _ _) ?_ rfl rfl (by omega) rfl (by simp; exact OwnI.nil _ _) (by omega) (Nat.le_refl _) ?_; (next => rfl); (next => rfl); intro v1 w1 H1; obtain ⟨a1, c1, rfl⟩ := H1.slice))
  go_loopw [5, 7] (fun lv iv wr => ∃ (i : Nat) (ao : Option Addr) (c : Nat), i ≤ m2 ∧ iv = .int .i64 i ∧ lv = .slice ao (i + 1) c ∧ NL w.heap.size w wr (.slice ao (i + 1) c) (i + 1) (bld [nBk []] bkS i)) (fun _ iv _ => m2 - (intOf iv).toNat)
  case atStart => exact ⟨0, a1, c1, by omega, rfl, rfl, H1⟩
  case round =>
    clear H1
    obtain ⟨i, ao, c, hi, rfl, rfl, HN⟩ := hrel
    have hBs := HN.bel.size
    by_cases hlt : i < m2
    · go_wp2_with (first | (at_builtin; refine wpList_append_nl (w := w) (wr := wr) (w0 := wr.alloc (.cells #[.int .i64 i] 3)) rfl _ _ rfl w.heap.size (.slice ao (i + 1) c) (i + 1) 1 (wr.heap.size + 1) (bld [nBk []] bkS i) [(nBk [(i : Int)], .slice (some ⟨wr.heap.size, 0, none⟩) 1 1)] ?_ HN ((Below.refl _ _).alloc (Nat.le_refl _) _) ?_ (by simp) rfl (by omega) rfl (by simp; exact OwnI.lit wr _ hBs [(i : Int)] _ rfl (by simp)) (by omega) hBs ?_; (next => rfl); (next => rfl); intro v1 w1 H1; obtain ⟨a1, c1, rfl⟩ := H1.slice))
      go_roundw
      case rel => exact ⟨i + 1, a1, c1, by omega, by go_num, rfl, H1⟩
      case measure => simp [intOf]; omega
    · have him : i = m2 := by omega
      subst him
      clear hlt hi
      go_wp2_with (first
        | (at_builtin; refine wpList_append_nl (w := w) (wr := wr) (w0 := wr.alloc (.cells #[.int .i64 i] 3)) rfl _ _ rfl w.heap.size (.slice ao (i + 1) c) (i + 1) 1 (wr.heap.size + 1) (bld [nBk []] bkS i) [(nBk [(i : Int)], .slice (some ⟨wr.heap.size, 0, none⟩) 1 1)] ?_ HN ((Below.refl _ _).alloc (Nat.le_refl _) _) ?_ (by simp) rfl (by omega) rfl (by simp; exact OwnI.lit wr _ hBs [(i : Int)] _ rfl (by simp)) (by omega) hBs ?_; (next => rfl); (next => rfl); intro v2 w2 H2; obtain ⟨a2, c2, rfl⟩ := H2.slice; have hBs2 := H2.bel.size)
        | (at_builtin; refine wpList_append_nl (w := w) (wr := w2) (w0 := w2.alloc (.cells #[.int .i64 ((i + 1 : Nat) : Int)] 3)) rfl _ _ rfl w.heap.size (.slice a2 (i + 1 + 1) c2) (i + 1 + 1) 1 (w2.heap.size + 1) (bld [nBk []] bkS (i + 1)) [(nFn [102] [((i + 1 : Nat) : Int)], .slice (some ⟨w2.heap.size, 0, none⟩) 1 1)] ?_ H2 ((Below.refl _ _).alloc (Nat.le_refl _) _) ?_ (by simp) rfl (by omega) rfl (by simp; exact OwnI.lit w2 _ hBs2 [((i + 1 : Nat) : Int)] _ rfl (by simp)) (by omega) hBs2 ?_; (next => rfl); (next => rfl); intro v3 w3 H3; obtain ⟨a3, c3, rfl⟩ := H3.slice; have hBs3 := H3.bel.size))
      obtain ⟨X, hPX, hFX⟩ := bkN_prints hmm
      have HC : Hid (chk ⟨(bkN i), [((i + 2 : Nat) : Int)]⟩ = true) := bkN_chk i
      have HP : Hid (PrintsOKx (bkN i) [((i + 2 : Nat) : Int)] ⟨[], [], 0⟩ ⟨X, [], 0⟩) := hPX
      have HX : Hid (Fx i X) := hFX
      have H3' : NL w.heap.size w w3 (.slice a3 (i + 1 + 1 + 1) c3) (i + 1 + 1 + 1) (bkN i) := H3
      have hF3 := OwnI.lit w3 _ hBs3 [((i + 2 : Nat) : Int)] #[.int .i64 ((i : Int) + 1 + 1)] rfl (by simp)
      clear H3 H2 hPX hFX
      obtain ⟨w4, hw4⟩ : ∃ w4, w4 = (w3.alloc (.cells #[.int .i64 ((i : Int) + 1 + 1)] 3)).alloc (.cells #[.slice a3 ((i + 1 + 1 + 1)) c3, .slice (some ⟨w3.heap.size, 0, none⟩) 1 1] 25) := ⟨_, rfl⟩
      rw [← hw4]
      have hb4 : Below w3.heap.size w3 w4 := by rw [hw4]; exact ((Below.refl _ _).alloc (Nat.le_refl _) _).alloc (by simp) _
      have H4 := H3'.keep hb4 hBs3
      have hF4 : OwnI w4 w.heap.size (.slice (some ⟨w3.heap.size, 0, none⟩) 1 1) 1 [((i + 2 : Nat) : Int)] := by rw [hw4]; exact hF3.keep ((Below.refl _ _).alloc (Nat.le_refl _) _)
      have q0 : w4.cell? ⟨w3.heap.size + 1, 0, none⟩ = some (.slice a3 ((i + 1 + 1 + 1)) c3) := by rw [hw4]; exact cell_arr (by have := heap_alloc_last (w3.alloc (.cells #[.int .i64 ((i : Int) + 1 + 1)] 3)) (.cells #[.slice a3 ((i + 1 + 1 + 1)) c3, .slice (some ⟨w3.heap.size, 0, none⟩) 1 1] 25); simpa using this) rfl
      have q1 : w4.cell? ⟨w3.heap.size + 1, 1, none⟩ = some (.slice (some ⟨w3.heap.size, 0, none⟩) 1 1) := by rw [hw4]; exact cell_arr (by have := heap_alloc_last (w3.alloc (.cells #[.int .i64 ((i : Int) + 1 + 1)] 3)) (.cells #[.slice a3 ((i + 1 + 1 + 1)) c3, .slice (some ⟨w3.heap.size, 0, none⟩) 1 1] 25); simpa using this) rfl
      have hs4 : w3.heap.size + 1 < w4.heap.size := by rw [hw4]; simp
      clear hw4 H3' hF3 hb4
      have hbs4 : w.heap.size ≤ w4.heap.size := H4.bel.size
      refine (check_nl (HA.out.below H4.bel) H4 (by omega) hF4 HC.out).mono ?_
      rintro e w5 ⟨rfl, hb5⟩
      have H5 := H4.keep hb5 hbs4
      have hF5 := hF4.keep hb5
      have v0 : w5.cell? ⟨w3.heap.size + 1, 0, none⟩ = some (.slice a3 ((i + 1 + 1 + 1)) c3) := cell_below hb5 hs4 q0
      have v1 : w5.cell? ⟨w3.heap.size + 1, 1, none⟩ = some (.slice (some ⟨w3.heap.size, 0, none⟩) 1 1) := cell_below hb5 hs4 q1
      clear q0 q1 H4 hF4 hs4 hb5
      go_wp2_with fail
      refine (print_nl (HA.out.below H5.bel) H5 (by omega) hF5 HC.out HP.out).mono ?_
      rintro e w6 ⟨⟨bv, bn, rfl, HB⟩, hb6⟩
      have hbw6 : Below w.heap.size w w6 := H5.bel.trans (hb6.mono H5.bel.size)
      obtain ⟨ba, bc, rfl, _, hT⟩ := HB.view
      have HBL : Hid (bn = X.length) := HB.len
      obtain ⟨p, hp⟩ : ∃ p, bn = p + 3 := ⟨bn - 3, by have := HX.out.len; have := HBL.out; omega⟩
      subst hp
      have hp9 : 9 ≤ p := by have := HX.out.len; have := HBL.out; omega
      have hp12 : 12 ≤ (p : Int) + 3 := by omega
      have hlen1 : X.length ≤ bc := hT.1
      have hbc1 : p + 3 ≤ bc := by have := HBL.out; omega
      have hbc2 : bc ≤ 9223372036854775807 := hT.2.1
      obtain ⟨b, o, rfl, hAt⟩ := hT.2.2 (by intro e; have := HX.out.len; simp [e] at this)
      clear v0 v1 H5 hF5 HB hT hb6 hlen1
      go_wp2_with (first | (go_at_call 7; refine (alive3_any _ (HA.out.below hbw6)).mono ?_; rintro e w7 ⟨rfl, hb7⟩) | (go_at_call 9; refine (num3_any _ _).mono ?_; rintro e w' ⟨rfl, rfl⟩))
      have hAt7 : At w7 b o X := hAt.below hb7 hAt.1
      have hbw7 : Below w.heap.size w w7 := hbw6.trans (hb7.mono hbw6.size)
      have hcv1 : (convert 28 9 (.slice (some ⟨b, o, none⟩) 10 bc)).run Tryd.prog w7 = .ok (.string ⟨#[102, 117, 110, 99, 32, 102, 40, 41, 32, 123]⟩) w7 := by
        have h := hAt7.conv' 10 bc (by have := HBL.out; omega)
        rw [HX.out.fst] at h
        exact h
      have hcv2 : (convert 28 9 (.slice (some ⟨b, o + p, none⟩) 3 (bc - p))).run Tryd.prog w7 = .ok (.string ⟨#[10, 125, 10]⟩) w7 := by
        have h := (hAt7.drop p).conv (bc - p)
        rw [List.length_drop, ← HBL.out, show p + 3 - p = 3 by omega, show p = X.length - 3 by have := HBL.out; omega, HX.out.lst] at h
        rw [show p = X.length - 3 by have := HBL.out; omega]
        exact h
      have HCV : Hid _ := hcv1
      have HCW : Hid _ := hcv2
      clear hb7 hAt hcv1 hcv2
      go_loopw [6, 15] (fun ov iv wr => ∃ (j z : Nat), j ≤ p + 3 ∧ iv = .int .i64 j ∧ ov = .int .i64 z ∧ Hid (z = (X.take j).count 123) ∧ z ≤ j ∧ wr = w7) (fun _ iv _ => p + 3 - (intOf iv).toNat)
      case atStart => exact ⟨0, 0, by omega, rfl, rfl, by simp [Hid], by omega, rfl⟩
      case round =>
        obtain ⟨j, z, hj, rfl, rfl, HZ, hz, rfl⟩ := hrel
        by_cases hlt : j < p + 3
        · have hjX : j < X.length := by have := HBL.out; omega
          have hc := hAt7.2 j hjX
          obtain ⟨ch, hch⟩ : ∃ ch, ch = X[j] := ⟨_, rfl⟩
          rw [← hch] at hc
          have HT : (X.take (j + 1)).count 123 = (X.take j).count 123 + if ch = 123 then 1 else 0 := by
            rw [← List.take_append_getElem hjX, List.count_append, ← hch]
            simp [List.count_cons]
          have HT2 : Hid _ := HT
          by_cases h123 : ch = 123
          · subst h123
            clear hch HT
            go_wp2_with fail
            go_roundw
            case rel => exact ⟨j + 1, z + 1, by omega, by go_num, by go_num, (by show z + 1 = _; rw [HT2.out, ← HZ.out]; rfl), by omega, by first | rfl | trivial⟩
            case measure => simp [intOf]; omega
          · have hne : ¬ (ch.toNat : Int) = 123 := by
              intro e
              exact h123 (UInt8.toNat.inj (by have : ch.toNat = 123 := by omega
                                              simpa using this))
            clear hch HT
            go_wp2_with fail
            go_roundw
            case rel => exact ⟨j + 1, z, by omega, by go_num, rfl, (by show z = _; rw [HT2.out, ← HZ.out, if_neg h123]; rfl), by omega, by first | rfl | trivial⟩
            case measure => simp [intOf]; omega
        · have hjp : j = p + 3 := by omega
          subst hjp
          have hzn : z = i + 2 := by
            rw [HZ.out, List.take_of_length_le (by have := HBL.out; omega)]
            exact HX.out.opn
          subst hzn
          have hcv1 := HCV.out
          have hcv2 := HCW.out
          go_wp2_with fail
          go_ret
          exact ⟨rfl, hbw7⟩
theorem ifN_eq {K i : Nat} (h : K = 2 * (i + 1)) : bld [] iaS (i + 1) ++ bld (if0 (K : Int)) (ifS (K : Int)) i ++ [nBk [((K + i : Nat) : Int)]] ++ [nFn [102] [((K + i + 1 : Nat) : Int)]] = ifN i := by
  obtain rfl : K = 2 * i + 2 := by omega
  rw [show 2 * i + 2 + i + 1 = 3 * i + 3 by omega, show 2 * i + 2 + i = 3 * i + 2 by omega]
  simp [ifN, List.append_assoc]

set_option maxRecDepth 10000 in
set_option maxHeartbeats 1000000 in
theorem deep_ifs (w : World) (hA : AllTab w) (hw nn : Int) (hq : bits BinOp.and IntKind.i64 hw 7 = 1) (m : Nat) (hm : bits BinOp.and IntKind.i64 nn 16383 = (m : Int)) (hmm : m ≤ 16383) :
    Calls Tryd.prog 5 #[.int .i64 hw, .int .i64 nn] w fun e w' => e = .returned (.bool true) ∧ Below w.heap.size w w' := by
  have HA : Hid (AllTab w) := hA
  clear hA
  go_enter Tryd.func5, Tryd.ntmps5
  go_wp2_with fail
  go_loopw [5, 8] (fun lv iv wr => ∃ (i : Nat) (ao : Option Addr) (c : Nat), i ≤ m + 1 ∧ iv = .int .i64 i ∧ lv = .slice ao (2 * i) c ∧ NL w.heap.size w wr (.slice ao (2 * i) c) (2 * i) (bld [] iaS i)) (fun _ iv _ => m + 1 - (intOf iv).toNat)
  case atStart => exact ⟨0, none, 0, by omega, rfl, rfl, NL.nil w⟩
  case round =>
    obtain ⟨i, ao, c, hi, rfl, rfl, HN⟩ := hrel
    have hBs := HN.bel.size
    by_cases hlt : i < m + 1
    · go_wp2_with (first | (at_builtin; refine wpList_append_nl (w := w) (wr := wr) (w0 := wr) rfl _ _ rfl w.heap.size (.slice ao (2 * i) c) (2 * i) 2 wr.heap.size (bld [] iaS i) [(nTrue, .slice none 0 0), (nBk [], .slice none 0 0)] ?_ HN (Below.refl _ _) ?_ rfl rfl (by omega) rfl (by simp; exact ⟨OwnI.nil _ _, OwnI.nil _ _⟩) (by omega) hBs ?_; (next => rfl); (next => rfl); intro v1 w1 H1; obtain ⟨a1, c1, rfl⟩ := H1.slice))
      go_roundw
      case rel => exact ⟨i + 1, a1, c1, by omega, by go_num, rfl, H1⟩
      case measure => simp [intOf]; omega
    · have him : i = m + 1 := by omega
      subst him
      clear hlt hi
      obtain ⟨K, hK⟩ : ∃ K, K = 2 * (m + 1) := ⟨_, rfl⟩
      rw [← hK] at HN ⊢
      have HK : Hid (K = 2 * (m + 1)) := hK
      have hK1 : 2 ≤ K := by omega
      have hK2 : K ≤ 32768 := by omega
      have hK3 : K ≤ 2 * m + 2 := by omega
      have hK4 : 2 * m + 2 ≤ K := by omega
      clear hK
      go_wp2_with (first | (at_builtin; refine wpList_append_nl (w := w) (wr := wr) (w0 := wr.alloc (.cells #[.int .i64 ((K : Int) - 2), .int .i64 ((K : Int) - 1)] 3)) rfl _ _ rfl w.heap.size (.slice ao K c) K 1 (wr.heap.size + 1) (bld [] iaS (m + 1)) [(nIf [(K : Int) - 2, (K : Int) - 1], .slice (some ⟨wr.heap.size, 0, none⟩) 2 2)] ?_ HN ((Below.refl _ _).alloc (Nat.le_refl _) _) ?_ (by simp) rfl (by omega) rfl (by simp; exact OwnI.lit wr _ hBs [(K : Int) - 2, (K : Int) - 1] _ rfl (by simp)) (by omega) hBs ?_; (next => rfl); (next => rfl); intro v1 w1 H1; obtain ⟨a1, c1, rfl⟩ := H1.slice))
      clear HN hBs
      go_loopw [5, 10] (fun lv iv wr => ∃ (i : Nat) (ao : Option Addr) (c : Nat), i ≤ m ∧ iv = .int .i64 ((i + 1 : Nat) : Int) ∧ lv = .slice ao (K + 1 + i) c ∧ NL w.heap.size w wr (.slice ao (K + 1 + i) c) (K + 1 + i) (bld [] iaS (m + 1) ++ bld (if0 (K : Int)) (ifS (K : Int)) i)) (fun _ iv _ => m + 1 - (intOf iv).toNat)
      case atStart => exact ⟨0, a1, c1, by omega, rfl, rfl, H1⟩
      case round =>
        clear H1
        obtain ⟨i, ao, c, hi, rfl, rfl, HN⟩ := hrel
        have hBs := HN.bel.size
        by_cases hlt : i < m
        · go_wp2_with (first | (at_builtin; refine wpList_append_nl (w := w) (wr := wr) (w0 := wr.alloc (.cells #[.int .i64 ((K : Int) - 2 * ((i : Int) + 1) - 2), .int .i64 ((K : Int) - 2 * ((i : Int) + 1) - 1), .int .i64 ((K : Int) + 1 + (i : Int) - 1)] 3)) rfl _ _ rfl w.heap.size (.slice ao (K + 1 + i) c) (K + 1 + i) 1 (wr.heap.size + 1) (bld [] iaS (m + 1) ++ bld (if0 (K : Int)) (ifS (K : Int)) i) [(nIf [(K : Int) - 2 * ((i : Int) + 1) - 2, (K : Int) - 2 * ((i : Int) + 1) - 1, (K : Int) + (i : Int)], .slice (some ⟨wr.heap.size, 0, none⟩) 3 3)] ?_ HN ((Below.refl _ _).alloc (Nat.le_refl _) _) ?_ (by simp) rfl (by omega) rfl (by simp; exact OwnI.lit wr _ hBs [(K : Int) - 2 * ((i : Int) + 1) - 2, (K : Int) - 2 * ((i : Int) + 1) - 1, (K : Int) + (i : Int)] _ (by simp [ivs]; omega) (by simp)) (by omega) hBs ?_; (next => rfl); (next => rfl); intro v1 w1 H1; obtain ⟨a1, c1, rfl⟩ := H1.slice))
          go_roundw
          case rel => exact ⟨i + 1, a1, c1, by omega, by go_num, rfl, by rw [List.append_assoc] at H1; exact H1⟩
          case measure => simp [intOf]; omega
        · have him : i = m := by omega
          subst him
          clear hlt hi
          go_wp2_with (first
            | (at_builtin; refine wpList_append_nl (w := w) (wr := wr) (w0 := wr.alloc (.cells #[.int .i64 ((K : Int) + 1 + (i : Int) - 1)] 3)) rfl _ _ rfl w.heap.size (.slice ao (K + 1 + i) c) (K + 1 + i) 1 (wr.heap.size + 1) (bld [] iaS (i + 1) ++ bld (if0 (K : Int)) (ifS (K : Int)) i) [(nBk [((K + i : Nat) : Int)], .slice (some ⟨wr.heap.size, 0, none⟩) 1 1)] ?_ HN ((Below.refl _ _).alloc (Nat.le_refl _) _) ?_ (by simp) rfl (by omega) rfl (by simp; exact OwnI.lit wr _ hBs [((K + i : Nat) : Int)] _ (by simp [ivs]; omega) (by simp)) (by omega) hBs ?_; (next => rfl); (next => rfl); intro v2 w2 H2; obtain ⟨a2, c2, rfl⟩ := H2.slice; have hBs2 := H2.bel.size)
            | (at_builtin; refine wpList_append_nl (w := w) (wr := w2) (w0 := w2.alloc (.cells #[.int .i64 ((K : Int) + 1 + (i : Int))] 3)) rfl _ _ rfl w.heap.size (.slice a2 (K + 1 + i + 1) c2) (K + 1 + i + 1) 1 (w2.heap.size + 1) _ [(nFn [102] [((K + i + 1 : Nat) : Int)], .slice (some ⟨w2.heap.size, 0, none⟩) 1 1)] ?_ H2 ((Below.refl _ _).alloc (Nat.le_refl _) _) ?_ (by simp) rfl (by omega) rfl (by simp; exact OwnI.lit w2 _ hBs2 [((K + i + 1 : Nat) : Int)] _ (by simp [ivs]; omega) (by simp)) (by omega) hBs2 ?_; (next => rfl); (next => rfl); intro v3 w3 H3; obtain ⟨a3, c3, rfl⟩ := H3.slice; have hBs3 := H3.bel.size))
          obtain ⟨X, hPX, hFX⟩ := ifN_prints hmm
          have HC : Hid (chk ⟨(ifN i), [((3 * i + 4 : Nat) : Int)]⟩ = true) := ifN_chk i
          have HP : Hid (PrintsOKx (ifN i) [((3 * i + 4 : Nat) : Int)] ⟨[], [], 0⟩ ⟨X, [], 0⟩) := hPX
          have HX : Hid (Fx i X) := hFX
          have H3' : NL w.heap.size w w3 (.slice a3 (K + 1 + i + 1 + 1) c3) (K + 1 + i + 1 + 1) (ifN i) := by rw [← ifN_eq HK.out]; exact H3
          have hF3 := OwnI.lit w3 _ hBs3 [((3 * i + 4 : Nat) : Int)] #[.int .i64 ((K : Int) + 1 + (i : Int) + 1)] (by simp [ivs]; omega) (by simp)
          clear H3 H2 hPX hFX
          obtain ⟨w4, hw4⟩ : ∃ w4, w4 = (w3.alloc (.cells #[.int .i64 ((K : Int) + 1 + (i : Int) + 1)] 3)).alloc (.cells #[.slice a3 ((K + 1 + i + 1 + 1)) c3, .slice (some ⟨w3.heap.size, 0, none⟩) 1 1] 25) := ⟨_, rfl⟩
          rw [← hw4]
          have hb4 : Below w3.heap.size w3 w4 := by rw [hw4]; exact ((Below.refl _ _).alloc (Nat.le_refl _) _).alloc (by simp) _
          have H4 := H3'.keep hb4 hBs3
          have hF4 : OwnI w4 w.heap.size (.slice (some ⟨w3.heap.size, 0, none⟩) 1 1) 1 [((3 * i + 4 : Nat) : Int)] := by rw [hw4]; exact hF3.keep ((Below.refl _ _).alloc (Nat.le_refl _) _)
          have q0 : w4.cell? ⟨w3.heap.size + 1, 0, none⟩ = some (.slice a3 ((K + 1 + i + 1 + 1)) c3) := by rw [hw4]; exact cell_arr (by have := heap_alloc_last (w3.alloc (.cells #[.int .i64 ((K : Int) + 1 + (i : Int) + 1)] 3)) (.cells #[.slice a3 ((K + 1 + i + 1 + 1)) c3, .slice (some ⟨w3.heap.size, 0, none⟩) 1 1] 25); simpa using this) rfl
          have q1 : w4.cell? ⟨w3.heap.size + 1, 1, none⟩ = some (.slice (some ⟨w3.heap.size, 0, none⟩) 1 1) := by rw [hw4]; exact cell_arr (by have := heap_alloc_last (w3.alloc (.cells #[.int .i64 ((K : Int) + 1 + (i : Int) + 1)] 3)) (.cells #[.slice a3 ((K + 1 + i + 1 + 1)) c3, .slice (some ⟨w3.heap.size, 0, none⟩) 1 1] 25); simpa using this) rfl
          have hs4 : w3.heap.size + 1 < w4.heap.size := by rw [hw4]; simp
          clear hw4 H3' hF3 hb4
          have hbs4 : w.heap.size ≤ w4.heap.size := H4.bel.size
          refine (check_nl (HA.out.below H4.bel) H4 (by omega) hF4 HC.out).mono ?_
          rintro e w5 ⟨rfl, hb5⟩
          have H5 := H4.keep hb5 hbs4
          have hF5 := hF4.keep hb5
          have v0 : w5.cell? ⟨w3.heap.size + 1, 0, none⟩ = some (.slice a3 ((K + 1 + i + 1 + 1)) c3) := cell_below hb5 hs4 q0
          have v1 : w5.cell? ⟨w3.heap.size + 1, 1, none⟩ = some (.slice (some ⟨w3.heap.size, 0, none⟩) 1 1) := cell_below hb5 hs4 q1
          clear q0 q1 H4 hF4 hs4 hb5
          go_wp2_with fail
          refine (print_nl (HA.out.below H5.bel) H5 (by omega) hF5 HC.out HP.out).mono ?_
          rintro e w6 ⟨⟨bv, bn, rfl, HB⟩, hb6⟩
          have hbw6 : Below w.heap.size w w6 := H5.bel.trans (hb6.mono H5.bel.size)
          obtain ⟨ba, bc, rfl, _, hT⟩ := HB.view
          have HBL : Hid (bn = X.length) := HB.len
          obtain ⟨p, hp⟩ : ∃ p, bn = p + 3 := ⟨bn - 3, by have := HX.out.len; have := HBL.out; omega⟩
          subst hp
          have hp9 : 9 ≤ p := by have := HX.out.len; have := HBL.out; omega
          have hp12 : 12 ≤ (p : Int) + 3 := by omega
          have hlen1 : X.length ≤ bc := hT.1
          have hbc1 : p + 3 ≤ bc := by have := HBL.out; omega
          have hbc2 : bc ≤ 9223372036854775807 := hT.2.1
          obtain ⟨b, o, rfl, hAt⟩ := hT.2.2 (by intro e; have := HX.out.len; simp [e] at this)
          clear v0 v1 H5 hF5 HB hT hb6 hlen1
          go_wp2_with (first | (go_at_call 7; refine (alive3_any _ (HA.out.below hbw6)).mono ?_; rintro e w7 ⟨rfl, hb7⟩) | (go_at_call 9; refine (num3_any _ _).mono ?_; rintro e w' ⟨rfl, rfl⟩))
          have hAt7 : At w7 b o X := hAt.below hb7 hAt.1
          have hbw7 : Below w.heap.size w w7 := hbw6.trans (hb7.mono hbw6.size)
          have hcv1 : (convert 28 9 (.slice (some ⟨b, o, none⟩) 10 bc)).run Tryd.prog w7 = .ok (.string ⟨#[102, 117, 110, 99, 32, 102, 40, 41, 32, 123]⟩) w7 := by
            have h := hAt7.conv' 10 bc (by have := HBL.out; omega)
            rw [HX.out.fst] at h
            exact h
          have hcv2 : (convert 28 9 (.slice (some ⟨b, o + p, none⟩) 3 (bc - p))).run Tryd.prog w7 = .ok (.string ⟨#[10, 125, 10]⟩) w7 := by
            have h := (hAt7.drop p).conv (bc - p)
            rw [List.length_drop, ← HBL.out, show p + 3 - p = 3 by omega, show p = X.length - 3 by have := HBL.out; omega, HX.out.lst] at h
            rw [show p = X.length - 3 by have := HBL.out; omega]
            exact h
          have HCV : Hid _ := hcv1
          have HCW : Hid _ := hcv2
          clear hb7 hAt hcv1 hcv2
          go_loopw [6, 15] (fun ov iv wr => ∃ (j z : Nat), j ≤ p + 3 ∧ iv = .int .i64 j ∧ ov = .int .i64 z ∧ Hid (z = (X.take j).count 123) ∧ z ≤ j ∧ wr = w7) (fun _ iv _ => p + 3 - (intOf iv).toNat)
          case atStart => exact ⟨0, 0, by omega, rfl, rfl, by simp [Hid], by omega, rfl⟩
          case round =>
            obtain ⟨j, z, hj, rfl, rfl, HZ, hz, rfl⟩ := hrel
            by_cases hlt : j < p + 3
            · have hjX : j < X.length := by have := HBL.out; omega
              have hc := hAt7.2 j hjX
              obtain ⟨ch, hch⟩ : ∃ ch, ch = X[j] := ⟨_, rfl⟩
              rw [← hch] at hc
              have HT : (X.take (j + 1)).count 123 = (X.take j).count 123 + if ch = 123 then 1 else 0 := by
                rw [← List.take_append_getElem hjX, List.count_append, ← hch]
                simp [List.count_cons]
              have HT2 : Hid _ := HT
              by_cases h123 : ch = 123
              · subst h123
                clear hch HT
                go_wp2_with fail
                go_roundw
                case rel => exact ⟨j + 1, z + 1, by omega, by go_num, by go_num, (by show z + 1 = _; rw [HT2.out, ← HZ.out]; rfl), by omega, by first | rfl | trivial⟩
                case measure => simp [intOf]; omega
              · have hne : ¬ (ch.toNat : Int) = 123 := by
                  intro e
                  exact h123 (UInt8.toNat.inj (by have : ch.toNat = 123 := by omega
                                                  simpa using this))
                clear hch HT
                go_wp2_with fail
                go_roundw
                case rel => exact ⟨j + 1, z, by omega, by go_num, rfl, (by show z = _; rw [HT2.out, ← HZ.out, if_neg h123]; rfl), by omega, by first | rfl | trivial⟩
                case measure => simp [intOf]; omega
            · have hjp : j = p + 3 := by omega
              subst hjp
              have hzn : z = i + 2 := by
                rw [HZ.out, List.take_of_length_le (by have := HBL.out; omega)]
                exact HX.out.opn
              subst hzn
              have hcv1 := HCV.out
              have hcv2 := HCW.out
              go_wp2_with fail
              go_ret
              exact ⟨rfl, hbw7⟩
end Go.Proofs.YtjepkcebfojiaaaDoor
