import Derived.Test.YtmddjfofedpggaaDoorLxL
import Derived.Test.YtmddjfofedpggaaDoorLxQ
set_option linter.unusedVariables false
namespace Go.Proofs.YtmddjfofedpggaaDoor
open Go.ChangeShapes Go.WideShapes Go.ChangeAt Go.RowKit

theorem TokV.take {w ao ts} (h : TokV w ao ts) (k : Nat) : TokV w ao (ts.take k) := ⟨fun hn => by
  obtain ⟨g, e, hg, hc⟩ := h.out (by intro e; apply hn; rw [e]; simp)
  refine ⟨g, e, hg, fun i hi => ?_⟩
  have hi' : i < ts.length := by simp at hi; omega
  have := hc i hi'
  simpa [List.getElem_take] using this⟩

set_option maxRecDepth 10000 in
set_option maxHeartbeats 2000000 in
theorem ahead_any (w : World) (hTab : Tab w) (b o cap n : Nat) (L : List UInt8) (hn : n = L.length) (hA : At w b o L) (hc1 : n ≤ cap) (hc2 : cap ≤ 9223372036854775807) (mo : Option Addr) (mc mn : Nat) (X : List UInt8) (hmn : mn = X.length) (hX : Txt w mo mc X) (hmnil : mo = none → mc = 0) (hsum : n + mn ≤ 1048576)
    (a1 : Option Addr) (c1 : Nat) (ts : List T) (hv : TokV w a1 ts) (htl : ts.length ≤ 9223372036854775807) (p e : Nat) (hL : Lexes 0 L ts p e) (he : e ≠ 0) (hp : p < n) :
    Calls Tryd.prog 18 #[.slice (some ⟨b, o, none⟩) n cap, .slice a1 ts.length c1, .int .i64 p, .int .i64 e, .slice mo mn mc] w fun e w' => e = .returned (.bool true) ∧ Below w.heap.size w w' := by
  have HN : Hid (n = L.length) := hn
  clear hn
  have HM : Hid (mn = X.length) := hmn
  clear hmn
  have h1 : Lexes 0 (L.take p) ts 0 0 := hL.ahead he
  have h2 : Lexes 0 (L ++ 10 :: X) ts p e := hL.behind he X
  have HE : Hid (e ≠ 0) := he
  clear he
  go_enter Tryd.func18, Tryd.ntmps18
  go_wp2_with fail
  refine (tokens_at _ hTab _ cap p (L.take p) (by have := HN.out; simp; omega) (Txt.of_at (hA.take p) (by simp; omega) hc2) (by omega)).mono ?_
  rintro r w1 ⟨ts1, p1, e1, v1, hL1, rfl, hown1, hb1⟩
  obtain ⟨rfl, rfl, rfl⟩ := h1.one hL1
  obtain ⟨a2, c2, rfl, q1, q2, hv2⟩ := hown1.view
  have hs1 := hb1.size
  have hv1 := hv.below hb1 (Nat.le_refl _)
  go_wp2_with fail
  refine (num_any _ _).mono ?_
  rintro r w' ⟨rfl, rfl⟩
  go_wp2_with fail
  refine (same_any _ a1 a2 c1 c2 _ ts rfl (by omega) hv1 hv2).mono ?_
  rintro r w2 ⟨rfl, hb2⟩
  have hs2 := hb2.size
  have hb2w : Below w.heap.size w w2 := hb1.trans (hb2.mono hs1)
  have hT2 : Txt w2 (some ⟨b, o, none⟩) cap L := Txt.of_at (hA.below hb2w hA.1) (by have := HN.out; omega) hc2
  have hX2 : Txt w2 mo mc X := hX.below hb2w (Nat.le_refl _)
  have hv2' := hv1.below hb2 (Nat.le_refl _)
  go_wp2_with (first
    | (at_builtin; refine wpList_append_bytes rfl _ _ rfl w2.heap.size _ (n + 1) _ rfl hownB mo mn mc X rfl HM.out (hX2.below hbB (Nat.le_refl _)) hmnil (by omega) hbB.size ?_; intro v5 w5 hownC hbC _)
    | (at_builtin; refine wpList_append_bytes rfl _ _ rfl w2.heap.size _ n L rfl (hownA.keep ((Below.refl _ _).alloc (Nat.le_refl _) _)) (some ⟨w3.heap.size, 0, none⟩) 1 1 [10] rfl rfl (Txt.of_at (alloc_at w3 #[.int .u8 10] 5 _ [10] rfl) (by decide) (by omega)) (fun h => by cases h) (by omega) (by have := hbA.size; simp; omega) ?_; intro v4 w4 hownB hb4 _; have hbB : Below w2.heap.size w2 w4 := (hbA.alloc hbA.size _).trans hb4)
    | (at_builtin; refine wpList_append_bytes rfl _ _ rfl w2.heap.size _ 0 [] rfl (OwnB.nil _ _) (some ⟨b, o, none⟩) n cap L rfl HN.out hT2 (fun h => by cases h) (by omega) (Nat.le_refl _) ?_; intro v3 w3 hownA hbA _; simp only [Nat.zero_add, List.nil_append] at hownA)
    | fail)
  have hbC2 : Below w2.heap.size w2 w5 := hbB.trans hbC
  have hb5w : Below w.heap.size w w5 := hb2w.trans (hbC2.mono (by omega))
  have hs5 := hbC2.size
  obtain ⟨a3, c3, rfl, hn3, hT3⟩ := hownC.view
  have e5 : L ++ [10] ++ X = L ++ 10 :: X := by simp
  rw [e5] at hT3
  refine (tokens_at _ (hTab.below hb5w hTab.1) a3 c3 _ (L ++ 10 :: X) (by have := HN.out; have := HM.out; simp; omega) hT3 (by omega)).mono ?_
  rintro r w6 ⟨ts6, p6, e6, v6, hL6, rfl, hown6, hb6⟩
  obtain ⟨rfl, rfl, rfl⟩ := h2.one hL6
  obtain ⟨a4, c4, rfl, q3, q4, hv4⟩ := hown6.view
  have hs6 := hb6.size
  have hv6 := (hv2'.below hbC2 (Nat.le_refl _)).below hb6 (Nat.le_refl _)
  go_wp2_with fail
  refine (same_any _ a4 a1 c4 c1 _ ts rfl (by omega) hv4 hv6).mono ?_
  rintro r w7 ⟨rfl, hb7⟩
  go_wp2_with fail
  go_ret
  exact ⟨rfl, (hb5w.trans (hb6.mono (by omega))).trans (hb7.mono (by omega))⟩

theorem lexAhead_long (a1 : Option Addr) (n1 c1 : Nat) (a2 : Option Addr) (n2 c2 : Nat) (h : 1048576 < n1 + n2) (hl : n1 + n2 ≤ 9223372036854775807) (w : World) : Calls Tryd.prog 8 #[.slice a1 n1 c1, .slice a2 n2 c2] w fun e w' => e = .returned (.bool true) ∧ Below w.heap.size w w' := by
  go_enter Tryd.func8, Tryd.ntmps8
  go_wp2
  go_ret
  exact ⟨rfl, Below.refl _ _⟩

set_option maxRecDepth 10000 in
set_option maxHeartbeats 2000000 in
theorem lexAhead_any (w : World) (hTab : Tab w) (ao : Option Addr) (cap n : Nat) (L : List UInt8) (hn : n = L.length) (hT : Txt w ao cap L) (hnil : ao = none → cap = 0) (mo : Option Addr) (mc mn : Nat) (X : List UInt8) (hmn : mn = X.length) (hX : Txt w mo mc X) (hmnil : mo = none → mc = 0) (hsum : n + mn ≤ 1048576) :
    Calls Tryd.prog 8 #[.slice ao n cap, .slice mo mn mc] w fun e w' => e = .returned (.bool true) ∧ Below w.heap.size w w' := by
  have HN : Hid (n = L.length) := hn
  clear hn
  have HM : Hid (mn = X.length) := hmn
  clear hmn
  have hc1 : n ≤ cap := by have := hT.1; have := HN.out; omega
  have hc2 := hT.2.1
  go_enter Tryd.func8, Tryd.ntmps8
  go_wp2_with fail
  refine (alive_any _ hTab).mono ?_
  rintro r w1 ⟨rfl, hb1⟩
  have hs1 := hb1.size
  go_wp2_with fail
  refine (tokens_at _ (hTab.below hb1 hTab.1) ao cap n L HN.out (hT.below hb1 (Nat.le_refl _)) (by omega)).mono ?_
  rintro r w2 ⟨ts, p, e, v, hL, rfl, hown, hb2⟩
  have hs2 := hb2.size
  have hb2w : Below w.heap.size w w2 := hb1.trans (hb2.mono hs1)
  have hT2 := hT.below hb2w (Nat.le_refl _)
  have hX2 := hX.below hb2w (Nat.le_refl _)
  obtain ⟨a1, c1, rfl, q1, q2, hv⟩ := hown.view
  rcases hL.range with ⟨rfl, rfl⟩ | ⟨he, _, hp⟩
  · go_wp2_with fail
    refine (num_any _ _).mono ?_
    rintro r w' ⟨rfl, rfl⟩
    obtain ⟨ts', p', e', hL'⟩ := hL.more rfl X
    go_wp2_with (first
      | (at_builtin; refine wpList_append_bytes rfl _ _ rfl w2.heap.size _ (n + 1) _ rfl hownB mo mn mc X rfl HM.out (hX2.below hbB (Nat.le_refl _)) hmnil (by omega) hbB.size ?_; intro v5 w5 hownC hbC _)
      | (at_builtin; refine wpList_append_bytes rfl _ _ rfl w2.heap.size _ n L rfl (hownA.keep ((Below.refl _ _).alloc (Nat.le_refl _) _)) (some ⟨w3.heap.size, 0, none⟩) 1 1 [10] rfl rfl (Txt.of_at (alloc_at w3 #[.int .u8 10] 5 _ [10] rfl) (by decide) (by omega)) (fun h => by cases h) (by omega) (by have := hbA.size; simp; omega) ?_; intro v4 w4 hownB hb4 _; have hbB : Below w2.heap.size w2 w4 := (hbA.alloc hbA.size _).trans hb4)
      | (at_builtin; refine wpList_append_bytes rfl _ _ rfl w2.heap.size _ 0 [] rfl (OwnB.nil _ _) ao n cap L rfl HN.out hT2 hnil (by omega) (Nat.le_refl _) ?_; intro v3 w3 hownA hbA _; simp only [Nat.zero_add, List.nil_append] at hownA)
      | fail)
    have hbC2 : Below w2.heap.size w2 w5 := hbB.trans hbC
    have hb5w : Below w.heap.size w w5 := hb2w.trans (hbC2.mono (by omega))
    have hs5 := hbC2.size
    obtain ⟨a3, c3, rfl, hn3, hT3⟩ := hownC.view
    have e5 : L ++ [10] ++ X = L ++ 10 :: X := by simp
    rw [e5] at hT3
    refine (tokens_at _ (hTab.below hb5w hTab.1) a3 c3 _ (L ++ 10 :: X) (by have := HN.out; have := HM.out; simp; omega) hT3 (by omega)).mono ?_
    rintro r w6 ⟨ts6, p6, e6, v6, hL6, rfl, hown6, hb6⟩
    obtain ⟨rfl, rfl, rfl⟩ := hL'.one hL6
    obtain ⟨a4, c4, rfl, q3, q4, hv4⟩ := hown6.view
    have hs6 := hb6.size
    have hv6 := (hv.below hbC2 (Nat.le_refl _)).below hb6 (Nat.le_refl _)
    have hv5 := hv4.take ts.length
    rw [List.take_left] at hv5
    obtain ⟨M, hM⟩ : ∃ M, M = (ts ++ ts').length := ⟨_, rfl⟩
    rw [← hM] at q3 ⊢
    have hMl : ts.length ≤ M := by rw [hM]; simp
    clear hM
    go_wp2_with fail
    refine (same_any _ a4 a1 c4 c1 _ ts rfl (by omega) hv5 hv6).mono ?_
    rintro r w7 ⟨rfl, hb7⟩
    go_wp2_with fail
    go_ret
    exact ⟨rfl, (hb5w.trans (hb6.mono (by omega))).trans (hb7.mono (by omega))⟩
  · have hpn : p < n := by have := HN.out; omega
    obtain ⟨b, o, rfl, hA⟩ := hT2.at (HN.out ▸ hpn)
    have he0 : e ≠ 0 := by omega
    rcases he with rfl | rfl | rfl
    all_goals
      go_wp2_with (first
        | (go_at_call 16; refine (num_any _ _).mono ?_; rintro r w' ⟨rfl, rfl⟩)
        | (go_at_call 18; refine (ahead_any _ (hTab.below hb2w hTab.1) b o cap n L HN.out hA hc1 hc2 mo mc mn X HM.out hX2 hmnil hsum a1 c1 ts hv (by omega) p _ hL he0 hpn).mono ?_; rintro r w3 ⟨rfl, hb3⟩))
      go_ret
      exact ⟨rfl, hb2w.trans (hb3.mono (by omega))⟩
end Go.Proofs.YtmddjfofedpggaaDoor
