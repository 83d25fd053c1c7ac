import Derived.Test.YtmddjfofedpggaaDoorLxBl
set_option linter.unusedVariables false
namespace Go.Proofs.YtmddjfofedpggaaDoor
open Go.ChangeShapes Go.WideShapes Go.ChangeAt Go.RowKit

theorem strCells_bs (S : List UInt8) : Lib.strCells (bs S) = bvs S := by
  unfold Lib.strCells bvs bs
  simp

/-- append(c, s...) of a string. -/
theorem wpList_append_str {w : World} {ops : Array Oper} {rest : List Oper} {op : Oper} {a : Act} {Q : Exit → Act → World → Prop} (hgd : op.guard = none) (s x : Operand)
    (ho : op.op = .call { callee := .builtin .append, args := #[s, x], argTypes := #[22, 9] })
    (B : Nat) (v : Value) (n : Nat) (M : List UInt8) (hs : a.eval s = v) (hown : OwnB w B v n M) (u : ByteArray) (X : List UInt8) (hx : a.eval x = .string u) (hu : u = bs X)
    (hl : n + X.length ≤ 100000000) (hB : B ≤ w.heap.size)
    (h : ∀ v' w', OwnB w' B v' (n + X.length) (M ++ X) → w.grownBy w' v.ownBlock → wpList Tryd.prog ops Q rest (a.put op.dst v') w') : wpList Tryd.prog ops Q (op :: rest) a w := by
  subst hu
  obtain ⟨i0, hi, hz0, hz1, hz2⟩ := info_parts info5
  refine Lib.wpList_append_own_string _ hgd s x 22 9 ho B 5 i0 Tryd.underlying22 Tryd.underlying9 hi hz0 hz1 hz2 v n (bvs M) hs hown.out (bs X) hx (by rw [bs_size]; unfold maxLen; omega) (by rw [bs_size]; omega) hB ?_
  intro v' w' h1 h2 _
  rw [bs_size, strCells_bs] at h1
  exact h v' w' ⟨by simp; exact hown.len, by rw [bvs_append]; exact h1⟩ h2

/-- Two rows of the call's own: one is grown, the other stays. -/
theorem own_grown {w w' : World} {B e s n xs} {v : Value} {row : Option Nat} (h : w.ownsRow B e s v n xs) (hg : w.grownBy w' row) (hne : ∀ g, v.ownBlock = some g → row ≠ some g) : w'.ownsRow B e s v n xs := by
  refine ⟨h.1, h.2.imp id ?_⟩
  rintro ⟨g, cap, cur, e1, e2, e3, e4⟩
  have hlt : g < w.heap.size := (Array.getElem?_eq_some_iff.1 e3).1
  exact ⟨g, cap, cur, e1, e2, (hg.block g hlt (fun e => hne g (by rw [e1]; rfl) e.symm)).trans e3, e4⟩
/-- Rows of two element types are two rows. -/
theorem own_apart {w : World} {B1 B2 e1 e2 s1 s2 n1 n2 x1 x2} {v1 v2 : Value} (h1 : w.ownsRow B1 e1 s1 v1 n1 x1) (h2 : w.ownsRow B2 e2 s2 v2 n2 x2) (hne : e1 ≠ e2) : ∀ g, v1.ownBlock = some g → v2.ownBlock ≠ some g := by
  intro g hg1 hg2
  rcases h1.2 with ⟨rfl, _⟩ | ⟨g1, _, _, rfl, _, e3, _⟩
  · simp [Value.ownBlock] at hg1
  · rcases h2.2 with ⟨rfl, _⟩ | ⟨g2, _, _, rfl, _, e4, _⟩
    · simp [Value.ownBlock] at hg2
    · simp [Value.ownBlock] at hg1 hg2
      subst hg1 hg2
      rw [e3] at e4
      simp at e4
      exact hne e4.2

theorem gap_at (w : World) (z : Int) : Calls Tryd.prog 14 #[.int .i64 z] w fun e w' => (∃ (g : List UInt8) (s : ByteArray), e = .returned (.string s) ∧ s = bs g ∧ Gap g ∧ g.length ≤ 16) ∧ Below w.heap.size w w' := by
  refine (gap_any w z).mono fun e w' h => ⟨?_, h.2⟩
  obtain ⟨i, hi, rfl⟩ := h.1
  exact ⟨_, _, rfl, rfl, gap_ok i hi, gaps_len i hi⟩

/-- Pieces that came in. -/
structure Pcs (w : World) (b o m : Nat) (K N G : Nat → Int) : Prop where
  lt : b < w.heap.size
  cell : ∀ i, i < m → w.cell? ⟨b, o + i * 3, none⟩ = some (.int .i64 (K i)) ∧ w.cell? ⟨b, o + i * 3 + 1, none⟩ = some (.int .i64 (N i)) ∧ w.cell? ⟨b, o + i * 3 + 2, none⟩ = some (.int .i64 (G i))
  fit : ∀ i, i < m → -9223372036854775808 ≤ N i ∧ N i ≤ 9223372036854775807
theorem Pcs.below {w w' b o m K N G B} (h : Pcs w b o m K N G) (hb : Below B w w') (hB : w.heap.size ≤ B) : Pcs w' b o m K N G := by
  have hlt : b < B := by have := h.lt; omega
  refine ⟨by have := h.lt; have := hb.size; omega, fun i hi => ?_, h.fit⟩
  rw [hb.cell (p := ⟨b, _, none⟩) hlt, hb.cell (p := ⟨b, _, none⟩) hlt, hb.cell (p := ⟨b, _, none⟩) hlt]
  exact h.cell i hi

theorem lexBack_long (a : Option Addr) (m cap : Nat) (z : Int) (h : 10000 < m) (hl : m ≤ 9223372036854775807) (w : World) : Calls Tryd.prog 6 #[.slice a m cap, .int .i64 z] w fun e w' => e = .returned (.bool true) ∧ Below w.heap.size w w' := by
  go_enter Tryd.func6, Tryd.ntmps6
  go_wp2
  go_ret
  exact ⟨rfl, Below.refl _ _⟩

/-- The state of the text and of the list that is wanted. -/
structure Two (w wr : World) (v1 v2 : Value) (n : Nat) (X : List UInt8) (ts : List T) : Prop where
  txt : OwnB wr w.heap.size v1 n X
  tok : Own wr w.heap.size v2 ts
  br : BR X ts
  bel : Below w.heap.size w wr

set_option maxRecDepth 10000 in
set_option maxHeartbeats 4000000 in
theorem lexBack_any (w : World) (hTab : Tab w) (ao : Option Addr) (m cap : Nat) (z : Int) (hm : m ≤ 10000) (K N G : Nat → Int) (hT : 0 < m → ∃ b o, ao = some ⟨b, o, none⟩ ∧ Pcs w b o m K N G) :
    Calls Tryd.prog 6 #[.slice ao m cap, .int .i64 z] w fun e w' => e = .returned (.bool true) ∧ Below w.heap.size w w' := by
  have HT : Hid (0 < m → ∃ b o, ao = some ⟨b, o, none⟩ ∧ Pcs w b o m K N G) := hT
  clear hT
  obtain ⟨i0, hi0, hz0, hz1, hz2⟩ := info_parts info33'
  go_enter Tryd.func6, Tryd.ntmps6
  go_wp2_with fail
  refine (alive_any _ hTab).mono ?_
  rintro e w1 ⟨rfl, hb1⟩
  go_wp2_with fail
  go_loopw [6, 7, 8] (fun v1 v2 c wr => ∃ (i n : Nat) (X : List UInt8) (ts : List T), i ≤ m ∧ c = .int .i64 i ∧ n ≤ i * 64 ∧ ts.length = i ∧ Two w wr v1 v2 n X ts) (fun _ _ c _ => m - (intOf c).toNat)
  case atStart => exact ⟨0, 0, [], [], by omega, rfl, by omega, rfl, ⟨OwnB.nil _ _, ⟨World.ownsRow_nil _ _ _ _⟩, BR.nil, hb1⟩⟩
  case round =>
    obtain ⟨i, n, X, ts, hi, rfl, hn, hts, HTW⟩ := hrel
    by_cases hlt : i < m
    · obtain ⟨b, o, rfl, hP⟩ := HT.out (by omega)
      have hP2 := hP.below HTW.bel (Nat.le_refl _)
      obtain ⟨p0, p1, p2⟩ := hP2.cell i hlt
      have hfit := hP2.fit i hlt
      obtain ⟨k, hk⟩ : ∃ k, k = K i := ⟨_, rfl⟩
      obtain ⟨nn, hnn⟩ : ∃ nn, nn = N i := ⟨_, rfl⟩
      obtain ⟨gg, hgg⟩ : ∃ gg, gg = G i := ⟨_, rfl⟩
      rw [← hk] at p0
      rw [← hnn] at p1 hfit
      rw [← hgg] at p2
      have HKN : Hid (k = K i ∧ nn = N i ∧ gg = G i) := ⟨hk, hnn, hgg⟩
      clear hk hnn hgg
      have hbs := HTW.bel.size
      have HFIT : Hid _ := hfit
      clear hfit
      go_wp2_with fail
      refine (gap_at _ gg).mono ?_
      rintro e w2 ⟨⟨g, gs, rfl, hgs, hG, hgl⟩, hb2⟩
      have hs2 := hb2.size
      have HGS : Hid (gs = bs g) := hgs
      clear hgs
      have hb2w : Below w.heap.size w w2 := HTW.bel.trans (hb2.mono hbs)
      have hX2 := HTW.txt.keep hb2
      have hK2 := HTW.tok.keep hb2
      clear p0 p1 p2
      go_wp2_with (first
        | (at_builtin; refine wpList_append_str rfl _ _ rfl w.heap.size _ n X rfl hX2 gs g rfl HGS.out (by omega) (by omega) ?_; intro v3 w3 hX3 hgr3
           have hb3w : Below w.heap.size w w3 := hb2w.grown hgr3 (by omega) (fun k hk => (own_block hX2.out hk).1)
           have hs3 := hgr3.size
           have hK3 : Own w3 w.heap.size u7 ts := ⟨own_grown hK2.out hgr3 (fun q hq e => own_apart hK2.out hX2.out (by decide) q hq e)⟩
           have hc3 := (hP.below hb3w (Nat.le_refl _)).cell i hlt
           rw [← HKN.out.1, ← HKN.out.2.1, ← HKN.out.2.2] at hc3
           obtain ⟨p0, p1, p2⟩ := hc3
           clear hgr3)
        | fail)
      refine (tokenB_any _ k nn gg HFIT.out).mono ?_
      rintro e w4 ⟨⟨t, S, ss, uu, rfl, hss, huu, hSp, hSl⟩, hb4⟩
      have hs4 := hb4.size
      have hb4w : Below w.heap.size w w4 := hb3w.trans (hb4.mono (by omega))
      have HSS : Hid (ss = bs S ∧ uu = bs t.name) := ⟨hss, huu⟩
      clear hss huu
      have hX4 := hX3.keep hb4
      have hK4 := hK3.keep hb4
      obtain ⟨a3, c3, rfl, _, hT3⟩ := hX4.view
      clear p0 p1 p2
      go_wp2_with (first
        | (at_builtin; refine wpList_append_str rfl _ _ rfl w.heap.size _ (n + g.length) (X ++ g) rfl (hX4.keep ((Below.refl _ _).alloc (Nat.le_refl _) _)) ss S rfl HSS.out.1 (by omega) (by simp; omega) ?_; intro v6 w6 hX6 hgr6
           have hg6 := (hgr6.block w4.heap.size (by simp) (fun e => by have := (own_block hX4.out e.symm).2; omega)).trans (heap_alloc_last _ _)
           have hs6 := hgr6.size
           have hb6w : Below w.heap.size w w6 := (hb4w.alloc (by omega) _).grown hgr6 (by simp; omega) (fun k hk => (own_block hX4.out hk).1)
           have hK6 : Own w6 w.heap.size u7 ts := ⟨own_grown (own_keep hK4.out ((Below.refl _ _).alloc (Nat.le_refl _) _).block) hgr6 (fun q hq e => own_apart hK4.out hX4.out (by decide) q hq e)⟩
           have hs6' : w4.heap.size + 1 ≤ w6.heap.size := by simpa using hs6
           clear hgr6)
        | (refine wpList_load_row rfl 33 _ rfl w4.heap.size rfl 33 _ (0, 0) _ hg6 Tryd.underlying33 rfl info33 ?_)
        | (at_builtin; refine wpList_append_own _ rfl _ _ 28 rfl w.heap.size 33 i0 _ 4 40 Tryd.underlying28 hi0 hz0 hz1 hz2 rfl (by decide) _ ts.length (tcs ts) rfl (hK6.out.alloc _) ⟨w6.heap.size, 0, none⟩ 1 1 [.int .i64 t.kind, .int .i64 ((n : Int) + (g.length : Int)), .int .i64 t.val, .string uu] rfl rfl (cell_four_new _ _ _ _ _ _) (fun x hx => by simp at hx; rcases hx with rfl | rfl | rfl | rfl <;> rfl) (by unfold maxLen; omega) (by omega) (by simp; omega) ?_; intro v7 w7 hown7 hgr7 hnil7)
        | fail)
      have hb7 : Below w.heap.size w w7 := Below.grown (hb6w.alloc (by omega) _) hgr7 (by simp; omega) (fun k hk => (own_block hK6.out hk).1)
      have hX6' : OwnB (w6.alloc _) w.heap.size v6 (n + g.length + S.length) (X ++ g ++ S) := hX6.keep ((Below.refl _ _).alloc (Nat.le_refl _) (.cells #[.int .i64 t.kind, .int .i64 ((n : Int) + (g.length : Int)), .int .i64 t.val, .string uu] 33))
      have hX7 : OwnB w7 w.heap.size v6 (n + g.length + S.length) (X ++ g ++ S) := ⟨hX6'.len, own_grown hX6'.out hgr7 (fun q hq e => own_apart hX6.out hK6.out (by decide) q hq e)⟩
      have hK7 : Own w7 w.heap.size v7 (ts ++ [⟨t.kind, X.length + g.length, t.val, t.name⟩]) := ⟨by
        rw [tcs_snoc, List.length_append]
        rw [HSS.out.2, show (n : Int) + (g.length : Int) = ((X.length + g.length : Nat) : Int) by have := HTW.txt.len; omega] at hown7
        exact hown7⟩
      have HT7 : Two w w7 v6 v7 (n + g.length + S.length) (X ++ g ++ S) (ts ++ [⟨t.kind, X.length + g.length, t.val, t.name⟩]) := ⟨hX7, hK7, HTW.br.next hG hSp, hb7⟩
      clear hown7 hgr7 hnil7 hX7 hK7 hX6'
      go_roundw
      case rel => exact ⟨i + 1, _, _, _, by omega, by go_num, by omega, by simp; omega, HT7⟩
      case measure => simp [intOf]; omega
    · have him : i = m := by omega
      have HX := HTW.txt
      obtain ⟨a1, c1, rfl, _, hT1⟩ := HX.view
      have hn1 := HX.len
      have HN1 : Hid (n = X.length) := hn1
      clear hn1
      have hbs := HTW.bel.size
      obtain ⟨e1, he1, hz⟩ := and_small z 1 (by omega)
      have hz' : bits BinOp.and IntKind.i64 z 1 = (e1 : Int) := hz
      clear hz
      have he : e1 = 0 ∨ e1 = 1 := by omega
      rcases he with rfl | rfl
      · have hD := HTW.br.done
        go_wp2_with fail
        refine (tokens_at _ (hTab.below HTW.bel hTab.1) a1 c1 n X HN1.out hT1 (by omega)).mono ?_
        rintro e w2 ⟨ts2, p2, e2, v2, hL2, rfl, hown2, hb2⟩
        obtain ⟨rfl, rfl, rfl⟩ := hD.one hL2
        have hs2 := hb2.size
        have hK2 := HTW.tok.keep hb2
        obtain ⟨a2, c2, rfl, q1, q2, hv2⟩ := hown2.view
        obtain ⟨a3, c3, rfl, q3, q4, hv3⟩ := hK2.view
        go_wp2_with fail
        refine (num_any _ _).mono ?_
        rintro r w' ⟨rfl, rfl⟩
        go_wp2_with fail
        refine (same_any _ a2 a3 c2 c3 m ts (by omega) (by omega) hv2 hv3).mono ?_
        rintro r w3 ⟨rfl, hb3⟩
        go_wp2_with fail
        go_ret
        exact ⟨rfl, (HTW.bel.trans (hb2.mono hbs)).trans (hb3.mono (by omega))⟩
      · have hD := HTW.br.tail
        have htl : TAIL.length = 29 := rfl
        go_wp2_with (first
          | (at_builtin; refine wpList_append_str rfl _ _ rfl w.heap.size _ n X rfl HX _ TAIL rfl rfl (by rw [htl]; omega) (by omega) ?_; intro v3 w3 hX3 hgr3)
          | fail)
        have hb3w : Below w.heap.size w w3 := HTW.bel.grown hgr3 hbs (fun k hk => (own_block HX.out hk).1)
        have hs3 := hgr3.size
        have hK3 : Own w3 w.heap.size u7 ts := ⟨own_grown HTW.tok.out hgr3 (fun q hq e => own_apart HTW.tok.out HX.out (by decide) q hq e)⟩
        obtain ⟨a4, c4, rfl, _, hT4⟩ := hX3.view
        refine (tokens_at _ (hTab.below hb3w hTab.1) a4 c4 _ (X ++ TAIL) hX3.len hT4 (by rw [htl]; omega)).mono ?_
        rintro e w2 ⟨ts2, p2, e2, v2, hL2, rfl, hown2, hb2⟩
        obtain ⟨rfl, rfl, rfl⟩ := hD.one hL2
        have hs2 := hb2.size
        have hK2 := hK3.keep hb2
        obtain ⟨a2, c2, rfl, q1, q2, hv2⟩ := hown2.view
        obtain ⟨a3, c3, rfl, q3, q4, hv3⟩ := hK2.view
        go_wp2_with fail
        refine (num_any _ _).mono ?_
        rintro r w' ⟨rfl, rfl⟩
        go_wp2_with fail
        refine (same_any _ a2 a3 c2 c3 m ts (by omega) (by omega) hv2 hv3).mono ?_
        rintro r w5 ⟨rfl, hb5⟩
        go_wp2_with fail
        go_ret
        exact ⟨rfl, (hb3w.trans (hb2.mono (by omega))).trans (hb5.mono (by omega))⟩
end Go.Proofs.YtmddjfofedpggaaDoor
