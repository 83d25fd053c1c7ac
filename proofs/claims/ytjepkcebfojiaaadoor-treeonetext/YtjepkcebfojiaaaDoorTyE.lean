import Derived.Test.YtjepkcebfojiaaaDoorLyB
set_option linter.unusedVariables false
set_option linter.unusedSimpArgs false
namespace Go.Proofs.YtjepkcebfojiaaaDoor
open Go.ChangeShapes Go.WideShapes Go.ChangeAt Go.RowKit

set_option maxRecDepth 10000 in
set_option maxHeartbeats 2000000 in
theorem tokens_big (w : World) (hTab : Tab w) (ao : Option Addr) (cap : Nat) (L : List UInt8) (hT : Txt w ao cap L) (hl : L.length ≤ 1000000000) :
    Calls Tryd.prog 11 #[.slice ao L.length cap] w fun e w' => Said w L e w' := by
  obtain ⟨n, hn⟩ : ∃ n, n = L.length := ⟨_, rfl⟩
  rw [← hn] at hl ⊢
  have HN : Hid (n = L.length) := hn
  clear hn
  have hc1 : n ≤ cap := by have := hT.1; have := HN.out; omega
  have hc2 := hT.2.1
  obtain ⟨i0, hi, hz0, hz1, hz2⟩ := info_parts info33'
  go_enter Tryd.func11, Tryd.ntmps11
  go_wp2
  go_loopw [5, 6] (fun v c wr => ∃ (j : Nat) (ts : List T), j ≤ n ∧ ts.length ≤ j ∧ c = .int .i64 j ∧ Own wr w.heap.size v ts ∧ LR L j ts ∧ Below w.heap.size w wr) (fun _ c _ => n - (intOf c).toNat)
  case atStart => exact ⟨0, [], by omega, by simp, rfl, ⟨World.ownsRow_nil _ _ _ _⟩, LR.zero L, Below.refl _ _⟩
  case round =>
    obtain ⟨j, ts, hj, hts, rfl, hown, hLR, hbl⟩ := hrel
    have hT2 : Txt wr ao cap L := hT.below hbl (Nat.le_refl _)
    have hTab2 : Tab wr := hTab.below hbl hTab.1
    obtain ⟨R, b, HSK⟩ : ∃ R b, SK L j R b := ⟨_, _, rfl, rfl⟩
    have hRn : j ≤ R ∧ R ≤ n := by
      have := sk_le false (L.drop j); have := HSK.out.1; have := HN.out; simp at *; omega
    obtain ⟨hR1, hR2⟩ := hRn
    cases b
    · go_wp2_with (first | (go_at_call 20; refine (blank_at hT2 HN.out hj HSK).mono ?_; rintro e w' ⟨rfl, rfl⟩) | fail)
      go_ret3
      exact ⟨ts, R, 20, _, hLR.bad HSK, rfl, hown, hbl⟩
    · by_cases hRe : R = n
      · subst hRe
        go_wp2_with (first | (go_at_call 20; refine (blank_at hT2 HN.out hj HSK).mono ?_; rintro e w' ⟨rfl, rfl⟩) | fail)
        go_ret3
        exact ⟨ts, 0, 0, _, hLR.fin (by have := HN.out; omega) (by have := HN.out; subst this; exact HSK), rfl, hown, hbl⟩
      · have hRl : R < n := by omega
        obtain ⟨b, o, rfl, hA⟩ := hT2.at (HN.out ▸ hRl)
        obtain ⟨r, HTR⟩ : ∃ r, TR (L.drop R) r := ⟨_, ⟨rfl⟩⟩
        cases r with
        | error er =>
          have her := tk_err HTR.out
          have her0 : ¬ (er : Int) = 0 := by omega
          have her1 : ((er : Int) == 0) = false := by simp; omega
          go_wp2_with (first
            | (go_at_call 20; refine (blank_at hT2 HN.out hj HSK).mono ?_; rintro e w' ⟨rfl, rfl⟩)
            | (go_at_call 21; refine (token_any _ (hTab2.alloc _) b o cap n L (hA.alloc _) HN.out hc1 hc2 R hRl _ HTR).mono ?_; rintro e u ⟨⟨z, rfl⟩, hb2⟩; have hg := (hb2.block wr.heap.size (by simp)).trans (heap_alloc_last _ _))
            | (refine wpList_store_tok rfl _ _ rfl wr.heap.size 0 0 0 .empty rfl rfl _ hg rfl ?_))
          go_ret3
          have hb3 : Below wr.heap.size wr (u.setRow wr.heap.size #[.int .i64 0, .int .i64 0, .int .i64 0, .string .empty]) := below_setRow (((Below.refl _ _).alloc (Nat.le_refl _) _).trans (hb2.mono (by simp))) (Nat.le_refl _) _
          exact ⟨ts, R, er, _, hLR.err HSK (HN.out ▸ hRl) HTR, rfl, ⟨own_keep hown.out hb3.block⟩, hbl.trans (hb3.mono hbl.size)⟩
        | ok p =>
          obtain ⟨t, m⟩ := p
          have hm := tk_ok HTR.out
          have hm1 := hm.1
          have hm2 : R + m ≤ n := by have := hm.2; simp at this; have := HN.out; omega
          clear hm
          go_wp2_with (first
            | (go_at_call 20; refine (blank_at hT2 HN.out hj HSK).mono ?_; rintro e w' ⟨rfl, rfl⟩)
            | (go_at_call 21; refine (token_any _ (hTab2.alloc _) b o cap n L (hA.alloc _) HN.out hc1 hc2 R hRl _ HTR).mono ?_; rintro e u ⟨hR, hb2⟩; obtain rfl := (hR : e = .returned (.tuple #[.agg #[.int .i64 t.kind, .int .i64 R, .int .i64 t.val, .string (bs t.name)], .int .i64 ((R + m : Nat) : Int), .int .i64 0])); have hg := (hb2.block wr.heap.size (by simp)).trans (heap_alloc_last _ _))
            | (refine wpList_store_tok rfl _ _ rfl wr.heap.size t.kind R t.val (bs t.name) rfl rfl _ hg rfl ?_
               have hg2 := setRow_heap _ _ _ #[.int .i64 t.kind, .int .i64 R, .int .i64 t.val, .string (bs t.name)] _ _ hg
               have hb3 : Below wr.heap.size wr (u.setRow wr.heap.size #[.int .i64 t.kind, .int .i64 R, .int .i64 t.val, .string (bs t.name)]) := below_setRow (((Below.refl _ _).alloc (Nat.le_refl _) _).trans (hb2.mono (by simp))) (Nat.le_refl _) _
               obtain ⟨u2, hu2⟩ : ∃ u2, u2 = u.setRow wr.heap.size #[.int .i64 t.kind, .int .i64 R, .int .i64 t.val, .string (bs t.name)] := ⟨_, rfl⟩
               rw [← hu2] at hg2 hb3 ⊢
               clear hu2 hg hb2)
            | (refine wpList_load_row rfl 43 _ rfl wr.heap.size rfl 43 _ (0, 0) _ hg2 Tryd.underlying43 rfl info33 ?_)
            | (at_builtin; refine wpList_append_own _ rfl _ _ 34 rfl w.heap.size 43 i0 _ 4 40 Tryd.underlying34 hi hz0 hz1 hz2 rfl (by decide) _ ts.length (tcs ts) rfl ((own_keep hown.out hb3.block).alloc _) ⟨u2.heap.size, 0, none⟩ 1 1 [.int .i64 t.kind, .int .i64 R, .int .i64 t.val, .string (bs t.name)] rfl rfl (cell_four_new _ _ _ _ _ _) (fun x hx => by simp at hx; rcases hx with rfl | rfl | rfl | rfl <;> rfl) (by unfold maxLen; omega) (by omega) (by have := hbl.size; have := hb3.size; simp; omega) ?_; intro v' w3 hown' hgrow3 hnil3))
          have hb4 : Below w.heap.size w w3 := Below.grown ((hbl.trans (hb3.mono hbl.size)).alloc (by have := hbl.size; have := hb3.size; omega) _) hgrow3 (by have := hbl.size; have := hb3.size; simp; omega) (fun k hk => (own_block hown.out hk).1)
          have hown4 : Own w3 w.heap.size v' (ts ++ [⟨t.kind, R, t.val, t.name⟩]) := ⟨by rw [tcs_snoc, List.length_append]; exact hown'⟩
          clear hown' hgrow3 hnil3
          go_roundw
          case rel => exact ⟨R + m, ts ++ [⟨t.kind, R, t.val, t.name⟩], hm2, by simp; omega, by go_num, hown4, hLR.tok HSK (HN.out ▸ hRl) HTR, hb4⟩
          case measure => simp [intOf]; omega
end Go.Proofs.YtjepkcebfojiaaaDoor
