import Derived.Test.YtmddjfofedpggaaDoorRxE
set_option linter.unusedVariables false
namespace Go.Proofs.YtmddjfofedpggaaDoor
open Go.ChangeShapes Go.WideShapes Go.ChangeAt Go.RowKit

theorem SK.m {L j R b} (h : SK L j R b) : SKm L false j R b := ⟨h.out⟩

set_option maxHeartbeats 2000000 in
theorem refTokens_any (w : World) (ao : Option Addr) (cap : Nat) (L : List UInt8) (hT : Txt w ao cap L) (hl : L.length ≤ 4194304) :
    Calls Tryd.prog 20 #[.slice ao L.length cap] w fun e w' => Said w L e w' := by
  obtain ⟨n, hn⟩ : ∃ n, n = L.length := ⟨_, rfl⟩
  rw [← hn] at hl ⊢
  have HN : Hid (n = L.length) := hn
  clear hn
  have hc1 : n ≤ cap := by have := hT.1; have := HN.out; omega
  have hc2 := hT.2.1
  obtain ⟨i0, hi, hz0, hz1, hz2⟩ := info_parts info33'
  go_enter Tryd.func20, Tryd.ntmps20
  go_wp2
  go_loopw [5, 6] (fun v c wr => ∃ (j : Nat) (ts : List T), j ≤ n ∧ ts.length ≤ j ∧ c = .int .i64 j ∧ Own wr w.heap.size v ts ∧ LR L j ts ∧ Below w.heap.size w wr) (fun _ c _ => n - (intOf c).toNat)
  case atStart => exact ⟨0, [], by omega, by simp, rfl, ⟨World.ownsRow_nil _ _ _ _⟩, LR.zero L, Below.refl _ _⟩
  case round =>
    obtain ⟨j, ts, hj, hts, rfl, hown, hLR, hbl⟩ := hrel
    have hT2 : Txt wr ao cap L := hT.below hbl (Nat.le_refl _)
    obtain ⟨R, b, HSK⟩ : ∃ R b, SK L j R b := ⟨_, _, rfl, rfl⟩
    have hRn : j ≤ R ∧ R ≤ n := by
      have := sk_le false (L.drop j); have := HSK.out.1; have := HN.out; simp at *; omega
    obtain ⟨hR1, hR2⟩ := hRn
    cases b
    · go_wp2_with (first | (go_at_call 27; refine (refBlank_any _ ao cap n L hT2 HN.out j hj R false HSK.m).mono ?_; rintro e w' ⟨rfl, rfl⟩) | fail)
      go_ret3
      exact ⟨ts, R, 20, _, hLR.bad HSK, rfl, hown, hbl⟩
    · by_cases hRe : R = n
      · subst hRe
        go_wp2_with (first | (go_at_call 27; refine (refBlank_any _ ao cap _ L hT2 HN.out j hj _ true HSK.m).mono ?_; rintro e w' ⟨rfl, rfl⟩) | fail)
        go_ret3
        exact ⟨ts, 0, 0, _, hLR.fin (by have := HN.out; omega) (by have := HN.out; subst this; exact HSK), rfl, hown, hbl⟩
      · have hRl : R < n := by omega
        obtain ⟨b, o, rfl, hA⟩ := hT2.at (HN.out ▸ hRl)
        obtain ⟨r, HTR⟩ : ∃ r, TR (L.drop R) r := ⟨_, ⟨rfl⟩⟩
        cases r with
        | error er =>
          have her := tk_err HTR.out
          have her0 : ¬ (er : Int) = 0 := by omega
          have her1 : ((er : Int) == 0) = false := by simp; omega
          go_wp2_with (first
            | (go_at_call 27; refine (refBlank_any _ _ cap n L hT2 HN.out j hj R true HSK.m).mono ?_; rintro e w' ⟨rfl, rfl⟩)
            | (go_at_call 28; refine (refToken_any _ b o cap n L hA HN.out hc1 hc2 hl R hRl _ HTR).mono ?_; rintro e u ⟨⟨z, rfl⟩, hb2⟩)
            | (refine wpList_store_tok rfl _ _ rfl u.heap.size 0 0 0 .empty rfl rfl _ (heap_alloc_last _ _) rfl ?_; rw [World.setRow_alloc_new]))
          go_ret3
          have hb3 := hb2.alloc hb2.size (.cells #[.int .i64 0, .int .i64 0, .int .i64 0, .string .empty] 33)
          exact ⟨ts, R, er, _, hLR.err HSK (HN.out ▸ hRl) HTR, rfl, ⟨own_keep hown.out hb3.block⟩, hbl.trans (hb3.mono hbl.size)⟩
        | ok p =>
          obtain ⟨t, m⟩ := p
          have hm := tk_ok HTR.out
          have hm1 := hm.1
          have hm2 : R + m ≤ n := by have := hm.2; simp at this; have := HN.out; omega
          clear hm
          go_wp2_with (first
            | (go_at_call 27; refine (refBlank_any _ _ cap n L hT2 HN.out j hj R true HSK.m).mono ?_; rintro e w' ⟨rfl, rfl⟩)
            | (go_at_call 28; refine (refToken_any _ b o cap n L hA HN.out hc1 hc2 hl R hRl _ HTR).mono ?_; rintro e u ⟨hR, hb2⟩; obtain rfl := (hR : e = .returned (.tuple #[.agg #[.int .i64 t.kind, .int .i64 R, .int .i64 t.val, .string (bs t.name)], .int .i64 ((R + m : Nat) : Int), .int .i64 0]))
               have hb3 := hb2.alloc hb2.size (.cells #[.int .i64 t.kind, .int .i64 R, .int .i64 t.val, .string (bs t.name)] 33))
            | (refine wpList_store_tok rfl _ _ rfl u.heap.size t.kind R t.val (bs t.name) rfl rfl _ (heap_alloc_last _ _) rfl ?_; rw [World.setRow_alloc_new]
               have hg2 : (u.alloc (.cells #[.int .i64 t.kind, .int .i64 R, .int .i64 t.val, .string (bs t.name)] 33)).heap[u.heap.size]? = some (.cells #[.int .i64 t.kind, .int .i64 R, .int .i64 t.val, .string (bs t.name)] 33 (0, 0)) := heap_alloc_last _ _
               obtain ⟨u2, hu2⟩ : ∃ u2, u2 = u.alloc (.cells #[.int .i64 t.kind, .int .i64 R, .int .i64 t.val, .string (bs t.name)] 33) := ⟨_, rfl⟩
               rw [← hu2] at hg2 hb3 ⊢
               clear hu2)
            | (refine wpList_load_row rfl 33 _ rfl u.heap.size rfl 33 _ (0, 0) _ hg2 Tryd.underlying33 rfl info33 ?_)
            | (at_builtin; refine wpList_append_own _ rfl _ _ 28 rfl w.heap.size 33 i0 _ 4 40 Tryd.underlying28 hi hz0 hz1 hz2 rfl (by decide) _ ts.length (tcs ts) rfl ((own_keep hown.out hb3.block).alloc _) ⟨u2.heap.size, 0, none⟩ 1 1 [.int .i64 t.kind, .int .i64 R, .int .i64 t.val, .string (bs t.name)] rfl rfl (cell_four_new _ _ _ _ _ _) (fun x hx => by simp at hx; rcases hx with rfl | rfl | rfl | rfl <;> rfl) (by unfold maxLen; omega) (by omega) (by have := hbl.size; have := hb3.size; simp; omega) ?_; intro v' w3 hown' hgrow3 hnil3))
          have hb4 : Below w.heap.size w w3 := Below.grown ((hbl.trans (hb3.mono hbl.size)).alloc (by have := hbl.size; have := hb3.size; omega) _) hgrow3 (by have := hbl.size; have := hb3.size; simp; omega) (fun k hk => (own_block hown.out hk).1)
          have hown4 : Own w3 w.heap.size v' (ts ++ [⟨t.kind, R, t.val, t.name⟩]) := ⟨by rw [tcs_snoc, List.length_append]; exact hown'⟩
          clear hown' hgrow3 hnil3
          go_roundw
          case rel => exact ⟨R + m, ts ++ [⟨t.kind, R, t.val, t.name⟩], hm2, by simp; omega, by go_num, hown4, hLR.tok HSK (HN.out ▸ hRl) HTR, hb4⟩
          case measure => simp [intOf]; omega
end Go.Proofs.YtmddjfofedpggaaDoor
