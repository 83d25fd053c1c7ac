import Derived.Test.YtjepkcebfojiaaaDoorTwF
import Derived.Test.YtjepkcebfojiaaaDoorTrL
import Derived.Lib.AppendStr
set_option linter.unusedVariables false
set_option linter.unusedSimpArgs false
namespace Go.Proofs.YtjepkcebfojiaaaDoor
open Go.ChangeShapes Go.WideShapes Go.ChangeAt Go.RowKit

theorem run_append_str_where {P : Program} (w : World) (base : Nat) (t u ty e : TypeId) (i : TypeInfo) (ht : P.underlying t = some (.slice e)) (hu : P.underlying u = some .string) (hi : P.info? e = some i) (hz : i.zero = some (.int .u8 0))
    (hsize : i.size = 1) (hby : i.bytes = 1) (v : Value) (n : Nat) (xs : List Value) (hown : w.ownsRow base e 1 v n xs) (s : ByteArray) (hs0 : 0 < s.size)
    (h63 : n + s.size ≤ maxLen) (hbytes : n + s.size ≤ 140737488355328) (hbase : base ≤ w.heap.size) :
    ∃ v' w', (Builtin.append_ #[t, u] ty #[v, .string s]).run P w = .ok v' w' ∧ w'.ownsRow base e 1 v' (n + s.size) (xs ++ Lib.strCells s) ∧ w.grownBy w' v.ownBlock ∧ ∀ g, v'.ownBlock = some g → v.ownBlock = some g ∨ w.heap.size ≤ g := by
  obtain ⟨v', w', hr, h2, h3, h4⟩ := Lib.run_append_own_string (P := P) w base t u ty e i ht hu hi hz hsize hby v n xs hown s h63 hbytes hbase
  refine ⟨v', w', hr, h2, h3, ?_⟩
  have hsmall : n + s.size ≤ 9223372036854775807 := by simp only [maxLen] at h63; omega
  have hxl : xs.length = n := by simpa using hown.1
  rcases hown.2 with ⟨rfl, rfl⟩ | ⟨g, cap, cur, rfl, hbg, hg, hnc, hcm, hcs, htake⟩
  · have hr2 := run_append_nil_string (P := P) w t u ty e i (.int .u8 0) ht hu hi hz s (by omega) (by omega) (by rw [hby]; omega)
    rw [hr2] at hr
    cases hr
    intro g hg
    simp [Value.ownBlock] at hg
    right; omega
  · by_cases hroom : n + s.size ≤ cap
    · have hcs' : cur.size = cap := by simpa using hcs
      have hr2 := Lib.run_append_room_string (P := P) w t u ty e i ht hu hi hsize g n cap cur hg s hroom (by omega)
      rw [hr2] at hr
      cases hr
      exact fun b hb => .inl hb
    · have holds : ∀ j u, xs[j]? = some u → w.cell? ((⟨g, 0, none⟩ : Addr).add j) = some u := hown.cells (g := g) rfl
      have hr2 := Lib.run_append_grow_string (P := P) w t u ty e i (.int .u8 0) ht hu hi hz ⟨g, 0, none⟩ n cap xs (by rw [hsize]; simpa using hxl) holds s (by omega) (by omega) (by rw [hby]; exact growslice_fits (by omega) (by omega))
      rw [hr2] at hr
      cases hr
      intro b hb
      simp [Value.ownBlock] at hb
      right; omega
theorem gj_str {w0 w' : World} {B : Nat} {v v' : Value} {n : Nat} {e s xs} (hown : w0.ownsRow B e s v n xs) (hB : B ≤ w0.heap.size) (h2 : w0.grownBy w' v.ownBlock) (h3 : ∀ g, v'.ownBlock = some g → v.ownBlock = some g ∨ w0.heap.size ≤ g) : GJ B w0 w' v v' :=
  ⟨(Below.refl _ _).grown h2 hB (fun k hk => (own_block hown hk).1), fun g h4 h5 => grown_at h2 h4 h5, h3⟩
/-- append(c, s...) of a string. -/
theorem wpList_append_strJ {w : World} {ops : Array Oper} {rest : List Oper} {op : Oper} {a : Act} {Q : Exit → Act → World → Prop} (hgd : op.guard = none) (s x : Operand)
    (ho : op.op = .call { callee := .builtin .append, args := #[s, x], argTypes := #[28, 9] })
    (B : Nat) (v : Value) (n : Nat) (M : List UInt8) (hs : a.eval s = v) (hown : OwnB w B v n M) (u : ByteArray) (X : List UInt8) (hx : a.eval x = .string u) (hu : u = bs X) (hX : 0 < X.length)
    (hl : n + X.length ≤ 1000000000) (hB : B ≤ w.heap.size)
    (h : ∀ v' w', OwnB w' B v' (n + X.length) (M ++ X) → GJ B w w' v v' → wpList Tryd.prog ops Q rest (a.put op.dst v') w') : wpList Tryd.prog ops Q (op :: rest) a w := by
  subst hu
  obtain ⟨i0, hi, hz0, hz1, hz2⟩ := info_parts infoB
  refine wpList_plain hgd fun K hK => ?_
  obtain ⟨v', w', hr, h1, h2, h3⟩ := run_append_str_where (P := Tryd.prog) w B 28 9 op.type 5 i0 Tryd.underlying28 Tryd.underlying9 hi hz0 hz1 hz2 v n (bvs M) hown.out (bs X) (by rw [bs_size]; exact hX) (by rw [bs_size]; unfold maxLen; omega) (by rw [bs_size]; omega) hB
  unfold Oper.wp execOp
  simp only [ho, resolve, invoke, builtin, Sem.run_bind, Sem.run_pure, Result.andThen_ok, List.map_toArray, List.map_cons, List.map_nil, hs, hx, hr]
  rw [bs_size, strCells_bs] at h1
  exact hK _ _ (h v' w' ⟨by simp; exact hown.len, by rw [bvs_append]; exact h1⟩ (gj_str hown.out hB h2 h3))
/-- append(text, c): the one byte in a new row behind all others. -/
theorem wpList_append_byteJ {w0 : World} {ops : Array Oper} {rest : List Oper} {op : Oper} {a : Act} {Q : Exit → Act → World → Prop} (hgd : op.guard = none) (s x : Operand)
    (ho : op.op = .call { callee := .builtin .append, args := #[s, x], argTypes := #[28, 28] })
    (B : Nat) (v : Value) (n : Nat) (M : List UInt8) (c : UInt8) (z : Int) (hz : z = (c.toNat : Int)) (g : Nat) (hg : g = w0.heap.size) (hs : a.eval s = v) (hown : OwnB w0 B v n M) (hx : a.eval x = .slice (some ⟨g, 0, none⟩) 1 1)
    (hl : n + 1 ≤ 1000000000) (hB : B ≤ w0.heap.size)
    (h : ∀ v' w', OwnB w' B v' (n + 1) (M ++ [c]) → GJ B w0 w' v v' → wpList Tryd.prog ops Q rest (a.put op.dst v') w') : wpList Tryd.prog ops Q (op :: rest) a (w0.alloc (.cells #[.int .u8 z] 5)) := by
  subst hz hg
  obtain ⟨i0, hi, hz0, hz1, hz2⟩ := info_parts infoB
  have hba : Below w0.heap.size w0 (w0.alloc (.cells #[.int .u8 (c.toNat : Int)] 5)) := (Below.refl _ _).alloc (Nat.le_refl _) _
  refine wpList_append_where hgd s x 28 ho B 5 i0 (.int .u8 0) 1 1 Tryd.underlying28 hi hz0 hz1 hz2 rfl (by decide) v n (bvs M) hs (hown.out.alloc _) ⟨w0.heap.size, 0, none⟩ 1 1 (by omega) [.int .u8 (c.toNat : Int)] hx rfl (cell_one_newI _ _ _) (fun u hu => by simp at hu; subst hu; rfl) (by unfold maxLen; omega) (by omega) (by simp; omega) ?_
  intro v' w' h1 h2 h3
  have hG := gj_of (hown.out.alloc _) (by simp; omega) h2 h3
  exact h v' w' ⟨by simp; exact hown.len, by simpa [bvs] using h1⟩ ⟨(hba.mono hB).trans hG.bel, fun b h4 h5 => (hG.blk b (by simp; omega) h5).trans (hba.block b h4), fun b hb => by
      rcases hG.own b hb with h | h
      · exact .inl h
      · right; simp at h; omega⟩

/-- The tree, what stands ahead and what stands behind, so far. -/
structure DV (w wr : World) (h : Nat) (nv av bv : Value) (k na nb : Nat) (L : List Nd) (A Bh : List UInt8) : Prop where
  cm : ∃ P, CM wr (h + 1) nv k P ∧ P.map Prod.fst = L
  oa : OwnB wr (h + 1) av na A
  ob : OwnB wr (h + 1) bv nb Bh
  apt : ∀ g, av.ownBlock = some g → bv.ownBlock ≠ some g
  box : wr.heap[h]? = some (.cells #[nv, .slice none 0 0] 25 (0, 0))
  bel : Below h w wr
theorem DV.lt {w wr h nv av bv k na nb L A Bh} (H : DV w wr h nv av bv k na nb L A Bh) : h < wr.heap.size := (Array.getElem?_eq_some_iff.1 H.box).1
theorem DV.keep {w wr w' h nv av bv k na nb L A Bh} (H : DV w wr h nv av bv k na nb L A Bh) (hb : Below wr.heap.size wr w') : DV w w' h nv av bv k na nb L A Bh := by
  obtain ⟨P, hP, hL⟩ := H.cm
  have := H.lt
  exact ⟨⟨P, hP.keep hb, hL⟩, H.oa.keep hb, H.ob.keep hb, H.apt, (hb.block _ H.lt).trans H.box, H.bel.trans (hb.mono (by omega))⟩
/-- More nodes, and the variable set. -/
theorem DV.nodes {w w0 w' h nv av bv k na nb L A Bh v' m P Q} (H : DV w w0 h nv av bv k na nb L A Bh) (hL : P.map Prod.fst = L) (hC0 : CM w0 (h + 1) nv k P) (hC : CM w' (h + 1) v' (k + m) (P ++ Q)) (hG : GJ (h + 1) w0 w' nv v') :
    w'.heap[h]? = some (.cells #[nv, .slice none 0 0] 25 (0, 0)) ∧ DV w (w'.setCell ⟨h, 0, none⟩ v') h v' av bv (k + m) na nb (L ++ Q.map Prod.fst) A Bh := by
  have hbox : w'.heap[h]? = some (.cells #[nv, .slice none 0 0] 25 (0, 0)) := (hG.blk h H.lt (own_not hC0.own H.box (by decide))).trans H.box
  refine ⟨hbox, ⟨⟨P ++ Q, ⟨hC.len, own_move hC.own fun g hg => heap_set_other (fun e => by have := (own_block hC.own hg).1; omega), fun p hp => ⟨(hC.kid p hp).len, own_move (hC.kid p hp).out fun g hg => heap_set_other (fun e => by have := (own_block (hC.kid p hp).out hg).1; omega)⟩⟩, by rw [List.map_append, hL]⟩, ⟨H.oa.len, own_move H.oa.out fun g hg => ?_⟩, ⟨H.ob.len, own_move H.ob.out fun g hg => ?_⟩, H.apt, heap_set_at hbox, ?_⟩⟩
  · have := own_block H.oa.out hg
    rw [heap_set_other (by omega)]
    exact hG.blk g this.2 (own_apart H.oa.out hC0.own (by decide) g hg)
  · have := own_block H.ob.out hg
    rw [heap_set_other (by omega)]
    exact hG.blk g this.2 (own_apart H.ob.out hC0.own (by decide) g hg)
  · exact (H.bel.trans (hG.bel.mono (by omega))).setCell (p := ⟨h, 0, none⟩) (Nat.le_refl _) _
theorem DV.ahead {w w0 w' h nv av bv k na nb L A Bh v' n' A'} (H : DV w w0 h nv av bv k na nb L A Bh) (hO : OwnB w' (h + 1) v' n' A') (hG : GJ (h + 1) w0 w' av v') : DV w w' h nv v' bv k n' nb L A' Bh := by
  obtain ⟨P, hP, hL⟩ := H.cm
  refine ⟨⟨P, hP.gj hG (own_apart hP.own H.oa.out (by decide)) (fun p hp => own_apart (hP.kid p hp).out H.oa.out (by decide)), hL⟩, hO, ⟨H.ob.len, own_move H.ob.out fun g hg => hG.blk g (own_block H.ob.out hg).2 (fun e => H.apt g e hg)⟩, fun g hg hb => ?_, (hG.blk h H.lt (own_not H.oa.out H.box (by decide))).trans H.box, H.bel.trans (hG.bel.mono (by omega))⟩
  rcases hG.own g hg with h1 | h1
  · exact H.apt g h1 hb
  · have := (own_block H.ob.out hb).2; omega
theorem DV.behind {w w0 w' h nv av bv k na nb L A Bh v' n' B'} (H : DV w w0 h nv av bv k na nb L A Bh) (hO : OwnB w' (h + 1) v' n' B') (hG : GJ (h + 1) w0 w' bv v') : DV w w' h nv av v' k na n' L A B' := by
  obtain ⟨P, hP, hL⟩ := H.cm
  refine ⟨⟨P, hP.gj hG (own_apart hP.own H.ob.out (by decide)) (fun p hp => own_apart (hP.kid p hp).out H.ob.out (by decide)), hL⟩, ⟨H.oa.len, own_move H.oa.out fun g hg => hG.blk g (own_block H.oa.out hg).2 (fun e => H.apt g hg e)⟩, hO, fun g hg hb => ?_, (hG.blk h H.lt (own_not H.ob.out H.box (by decide))).trans H.box, H.bel.trans (hG.bel.mono (by omega))⟩
  rcases hG.own g hb with h1 | h1
  · exact H.apt g hg h1
  · have := (own_block H.oa.out hg).2; omega
theorem DV.slices {w wr h nv av bv k na nb L A Bh} (H : DV w wr h nv av bv k na nb L A Bh) : (∃ a c, nv = .slice a k c) ∧ (∃ a c, av = .slice a na c) ∧ ∃ a c, bv = .slice a nb c := by
  obtain ⟨P, hP, _⟩ := H.cm
  exact ⟨own_slice hP.own, own_slice H.oa.out, own_slice H.ob.out⟩
/-- append(t.Nodes, ..). -/
theorem wpList_append_dv {w wr w0 : World} {ops : Array Oper} {rest : List Oper} {op : Oper} {a : Act} {Z : Exit → Act → World → Prop} {C : Array Value} (hgd : op.guard = none) (s x : Operand)
    (ho : op.op = .call { callee := .builtin .append, args := #[s, x], argTypes := #[22, 22] })
    (h : Nat) (nv av bv : Value) (k na nb m g : Nat) (L : List Nd) (A Bh : List UInt8) (Q : List (Nd × Value)) (hs : a.eval s = nv) (H : DV w wr h nv av bv k na nb L A Bh) (hb : Below wr.heap.size wr w0) (hx : a.eval x = .slice (some ⟨g, 0, none⟩) m m) (hg : g = w0.heap.size) (hm : m = Q.length) (hm0 : 0 < m) (hC : C.toList = ncs Q)
    (hQ : ∀ q ∈ Q, OwnI w0 (h + 1) q.2 q.1.kids.length q.1.kids) (hl : k + m ≤ 1000000000)
    (hh : ∀ v' w', w'.heap[h]? = some (.cells #[nv, .slice none 0 0] 25 (0, 0)) → DV w (w'.setCell ⟨h, 0, none⟩ v') h v' av bv (k + m) na nb (L ++ Q.map Prod.fst) A Bh → wpList Tryd.prog ops Z rest (a.put op.dst v') w') : wpList Tryd.prog ops Z (op :: rest) a (w0.alloc (.cells C 39)) := by
  have H0 := H.keep hb
  obtain ⟨P, hP, hL⟩ := H0.cm
  have := H0.lt
  refine wpList_append_nodes hgd s x ho (h + 1) nv k m g P Q hs hP hx hg hm hm0 hC hQ hl (by omega) fun v' w' h1 h2 => ?_
  obtain ⟨h3, h4⟩ := H0.nodes hL hP h1 h2
  exact hh v' w' h3 h4
end Go.Proofs.YtjepkcebfojiaaaDoor
