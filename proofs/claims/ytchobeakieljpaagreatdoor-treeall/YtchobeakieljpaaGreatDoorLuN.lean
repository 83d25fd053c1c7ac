import Derived.Test.YtchobeakieljpaaGreatDoorLuF
import Derived.Test.YtchobeakieljpaaGreatDoorLzO
import Derived.Deep.LoopGhost
import Derived.Test.YtchobeakieljpaaGreatDoorLuB
import Derived.Test.YtchobeakieljpaaGreatDoorLuE
import Derived.Deep.RegionHeld
import Derived.Deep.RegionLaw
set_option linter.unusedVariables false
set_option linter.unusedSimpArgs false
namespace Go.Proofs.YtchobeakieljpaaGreatDoor
open Go.ChangeShapes Go.WideShapes Go.ChangeAt Go.RowKit

theorem OwnI.one (w : World) (B : Nat) (x : Int) (hB : B ≤ w.heap.size) : OwnI (w.alloc (.cells #[.int .i64 x] 3)) B (.slice (some ⟨w.heap.size, 0, none⟩) 1 1) 1 [x] := by
  refine ⟨rfl, rfl, .inr ⟨w.heap.size, 1, #[.int .i64 x], rfl, hB, heap_alloc_last w _, by omega, ?_, rfl, rfl⟩⟩
  decide
theorem OwnI.cellAt {w B g n c L} (h : OwnI w B (.slice (some ⟨g, 0, none⟩) n c) n L) (i : Nat) (hi : i < L.length) : w.cell? ⟨g, i, none⟩ = some (.int .i64 L[i]) := by
  have e : (⟨g, 0, none⟩ : Addr).add i = ⟨g, i, none⟩ := by unfold Addr.add; split <;> simp_all
  have := h.out.cells (g := g) rfl i (.int .i64 L[i]) (by simp [ivs, hi])
  rwa [e] at this
theorem OwnI.setAt {w B g n c L} (h : OwnI w B (.slice (some ⟨g, 0, none⟩) n c) n L) (j : Nat) (y : Int) : OwnI (w.setCell ⟨g, j, none⟩ (.int .i64 y)) B (.slice (some ⟨g, 0, none⟩) n c) n (L.set j y) := by
  refine ⟨by simpa using h.len, ?_⟩
  have h1 := own_set h.out j (.int .i64 y)
  rw [ivs, List.map_set]
  exact h1
theorem OwnI.setNe {w B v n L} (h : OwnI w B v n L) {g j : Nat} {u : Value} (hne : v.ownBlock ≠ some g) : OwnI (w.setCell ⟨g, j, none⟩ u) B v n L :=
  ⟨h.len, own_move h.out fun b hb => heap_set_other fun e => hne (by rw [← e]; exact hb)⟩
theorem own_len (a : Option Addr) (n m c : Nat) : (Value.slice a n c).ownBlock = (Value.slice a m c).ownBlock := by
  rcases a with _ | ⟨b, o, p⟩ <;> rfl
structure WkR (w w' : World) (L : List Int) (e : Ending) : Prop where
  out : ∃ v m, e = .returned v ∧ OwnI w' (w.heap.size + 1) v m L
  bel : Below w.heap.size w w'
/-- The walk's state, in the words of its uppermost frame. -/
theorem WK.top {wr B K n D f0 vo vn vx m k S O} (h : WK wr B K n D f0 vo vn vx m k S O) (hk : 0 < k) : ∃ f j S', S = (f, j) :: S' ∧ k = S'.length + 1 := by
  have := h.on.len
  simp at this
  cases S with
  | nil => simp at this; omega
  | cons p S' => exact ⟨p.1, p.2, S', rfl, by simpa using this⟩
theorem rev_take {α : Type} (l : List α) (x : α) (r : Nat) (h : r = l.length) : (l.reverse ++ [x]).take r = l.reverse := by
  rw [h, List.take_left' (by simp)]
theorem rev_set {l : List Int} {x y : Int} {r : Nat} (h : r = l.length) : (l.reverse ++ [x]).set r y = l.reverse ++ [y] := by
  rw [List.set_append_right _ _ (by simp [h]), show r - l.reverse.length = 0 by simp [h]]
  rfl
/-- The uppermost frame is left. -/
theorem WK.pop {wr w1 : World} {na xa : Option Addr} {nc2 xc r : Nat} {K : List (List Int)} {f0 f : Int} {B n D m j : Nat} {vo vo' : Value} {S : List (Int × Nat)} {O : List Int}
    (h : WK wr B K n D f0 vo (.slice na (r + 1) nc2) (.slice xa (r + 1) xc) m (r + 1) ((f, j) :: S) O) (hj : (ks K f).length ≤ j) (hr : r = S.length)
    (ho : OwnI w1 B vo' (m + 1) (O ++ [f])) (hG : GI B wr w1 vo vo') (hm : m + 1 ≤ n) : WK w1 B K n D f0 vo' (.slice na r nc2) (.slice xa r xc) (m + 1) r S (O ++ [f]) := by
  have n1 := h.on.gi hG (fun b hb e => h.a1 b e hb)
  have n2 := h.on.giA hG (fun b hb e => h.a1 b e hb)
  have x1 := h.ox.gi hG (fun b hb e => h.a2 b e hb)
  have x2 := h.ox.giA hG (fun b hb e => h.a2 b e hb)
  have n3 := n1.take r (by omega)
  have x3 := x1.take r (by omega)
  simp only [List.map_cons, List.reverse_cons] at n3 x3
  rw [rev_take _ _ r (by simpa using hr)] at n3 x3
  refine ⟨ho, n3, x3, fun g h1 h2 => n2 g ((own_len na (r + 1) r nc2).trans h2) h1, fun g h1 h2 => x2 g ((own_len xa (r + 1) r xc).trans h2) h1, fun g h1 h2 => h.a3 g ((own_len na (r + 1) r nc2).trans h1) ((own_len xa (r + 1) r xc).trans h2), h.frs.2.2.2.2, ?_, hm, h.low⟩
  have := h.eq
  rw [RR, rest_end hj] at this
  rw [← this]
  simp
/-- The same, the new row's block told. -/
theorem wpList_append_intH {w0 : World} {ops : Array Oper} {rest : List Oper} {op : Oper} {a : Act} {Q : Exit → Act → World → Prop} (hgd : op.guard = none) (s x : Operand)
    (ho : op.op = .call { callee := .builtin .append, args := #[s, x], argTypes := #[25, 25] })
    (B : Nat) (v : Value) (n : Nat) (L : List Int) (y : Int) (g : Nat) (hs : a.eval s = v) (hown : OwnI w0 B v n L) (hx : a.eval x = .slice (some ⟨g, 0, none⟩) 1 1) (hg : g = w0.heap.size)
    (hl : n + 1 ≤ 17592186044416) (hB : B ≤ w0.heap.size)
    (h : ∀ v' w', OwnI w' B v' (n + 1) (L ++ [y]) → GI B w0 w' v v' → wpList Tryz.prog ops Q rest (a.put op.dst v') w') : wpList Tryz.prog ops Q (op :: rest) a (w0.alloc (.cells #[.int .i64 y] 3)) := by
  subst hg
  exact wpList_append_intG hgd s x ho B v n L y hs hown hx hl hB h
theorem GI.pre {B : Nat} {w w0 w' : World} {v v' : Value} (h : GI B w0 w' v v') (hb : Below w.heap.size w w0) (hB : B ≤ w.heap.size) : GI B w w' v v' :=
  ⟨(hb.mono hB).trans h.bel, fun g h1 h2 => (h.blk g (by have := hb.size; omega) h2).trans (hb.block g h1), fun g hg => (h.own g hg).imp id (fun h1 => by have := hb.size; omega)⟩
theorem WK.keep {wr w1 : World} {B K n D f0 vo vn vx m k S O} (h : WK wr B K n D f0 vo vn vx m k S O) (hb : Below wr.heap.size wr w1) : WK w1 B K n D f0 vo vn vx m k S O :=
  ⟨h.oo.keep hb, h.on.keep hb, h.ox.keep hb, h.a1, h.a2, h.a3, h.frs, h.eq, h.ln, h.low⟩
/-- The row of numbers that say which kid is next, when a kid was taken. -/
theorem WK.turn {wr w1 : World} {K : List (List Int)} {f0 f : Int} {B n D m j xg xc r : Nat} {vo vn vn' : Value} {S : List (Int × Nat)} {O : List Int}
    (h : WK wr B K n D f0 vo vn (.slice (some ⟨xg, 0, none⟩) (r + 1) xc) m (r + 1) ((f, j) :: S) O) (hr : r = S.length) (hG : GI B wr w1 vn vn') :
    OwnI (w1.setCell ⟨xg, r, none⟩ (.int .i64 ((j : Int) + 1))) B (.slice (some ⟨xg, 0, none⟩) (r + 1) xc) (r + 1) ((S.map fun p => (p.2 : Int)).reverse ++ [(j : Int) + 1]) := by
  have x1 := h.ox.gi hG (fun b hb e => h.a3 b e hb)
  have x2 := x1.setAt r ((j : Int) + 1)
  simp only [List.map_cons, List.reverse_cons] at x2
  rw [rev_set (by simpa using hr)] at x2
  exact x2
/-- A kid is walked. -/
theorem WK.push {wr w1 w3 : World} {K : List (List Int)} {f0 f x : Int} {B n D m j xg xc r : Nat} {vo vn vn' vx' : Value} {S : List (Int × Nat)} {O : List Int}
    (h : WK wr B K n D f0 vo vn (.slice (some ⟨xg, 0, none⟩) (r + 1) xc) m (r + 1) ((f, j) :: S) O) (hj : j < (ks K f).length) (hx : x = (ks K f)[j]) (hr : r = S.length)
    (hn : OwnI w1 B vn' (r + 1 + 1) ((((f, j) :: S).map Prod.fst).reverse ++ [x])) (hG1 : GI B wr w1 vn vn')
    (hxx : OwnI w3 B vx' (r + 1 + 1) (((S.map fun p => (p.2 : Int)).reverse ++ [(j : Int) + 1]) ++ [0])) (hG3 : GI B (w1.setCell ⟨xg, r, none⟩ (.int .i64 ((j : Int) + 1))) w3 (.slice (some ⟨xg, 0, none⟩) (r + 1) xc) vx') :
    WK w3 B K n D f0 vo vn' vx' m (r + 1 + 1) ((x, 0) :: (f, j + 1) :: S) O := by
  have o1 := h.oo.gi hG1 h.a1
  have o2 := h.oo.giA hG1 h.a1
  have ox : vo.ownBlock ≠ some xg := fun e => h.a2 xg e rfl
  have nx : vn'.ownBlock ≠ some xg := fun e => by
    rcases hG1.own xg e with h1 | h1
    · exact h.a3 xg h1 rfl
    · have := (own_block h.ox.out (g := xg) rfl).2
      omega
  have o3 : OwnI (w1.setCell ⟨xg, r, none⟩ (.int .i64 ((j : Int) + 1))) B vo m O := o1.setNe ox
  have n3 : OwnI (w1.setCell ⟨xg, r, none⟩ (.int .i64 ((j : Int) + 1))) B vn' (r + 1 + 1) ((((f, j) :: S).map Prod.fst).reverse ++ [x]) := hn.setNe nx
  have ne1 : ∀ b, vo.ownBlock = some b → (Value.slice (some ⟨xg, 0, none⟩) (r + 1) xc).ownBlock ≠ some b := h.a2
  have ne2 : ∀ b, vn'.ownBlock = some b → (Value.slice (some ⟨xg, 0, none⟩) (r + 1) xc).ownBlock ≠ some b := fun b hb e => nx (by cases e; exact hb)
  refine ⟨o3.gi hG3 ne1, ?_, ?_, o2, o3.giA hG3 ne1, n3.giA hG3 ne2, ?_, ?_, h.ln, h.low⟩
  · have := n3.gi hG3 ne2
    simpa using this
  · simpa using hxx
  · rw [hx]; exact Frs_push h.low hj h.frs
  · rw [hx, RR_push h.low hj]; exact h.eq
/-- What a walk reads behind the append to its row of nodes. -/
theorem WK.cells {wq w1 : World} {ob : Obj} {K : List (List Int)} {f0 f : Int} {h n D m j xg xc r b p q kb : Nat} {vo vn vn' : Value} {S : List (Int × Nat)} {O : List Int} {V1 V2 V3 V4 : Value}
    (H : WK wq (h + 1) K n D f0 vo vn (.slice (some ⟨xg, 0, none⟩) (r + 1) xc) m (r + 1) ((f, j) :: S) O) (hG : GI (h + 1) (wq.alloc ob).drew w1 vn vn') (hb : b < h + 1) (hkb : kb < h + 1)
    (c0 : wq.cell? ⟨h, 0, none⟩ = some V1) (c1 : wq.cell? ⟨b, p, none⟩ = some V2) (c2 : wq.cell? ⟨xg, r, none⟩ = some V3) (c3 : wq.cell? ⟨kb, q, none⟩ = some V4) :
    w1.cell? ⟨h, 0, none⟩ = some V1 ∧ w1.cell? ⟨b, p, none⟩ = some V2 ∧ w1.cell? ⟨xg, r, none⟩ = some V3 ∧ w1.cell? ⟨kb, q, none⟩ = some V4 ∧ w1.frozen? ⟨xg, r, none⟩ = false := by
  have hx := own_block H.ox.out (g := xg) rfl
  have e : w1.heap[xg]? = wq.heap[xg]? := by
    rw [hG.blk xg (by simp; omega) (fun e => H.a3 xg e rfl), drew_heap, heap_alloc_old _ _ hx.2]
  refine ⟨cell_below hG.bel (by omega) (cellD (cellA c0)), cell_below hG.bel hb (cellD (cellA c1)), (World.cell?_of_block e).trans c2, cell_below hG.bel hkb (cellD (cellA c3)), (World.frozen?_of_block e).trans (row_fz H.ox.out r)⟩
theorem ks_nd {N : List Nd} (i : Nat) (h : i < N.length) : ks (N.map Nd.kids) (i : Int) = (N[i]).kids := by
  rw [ks_at i (by simpa using h)]
  simp

set_option maxRecDepth 10000 in
set_option maxHeartbeats 8000000 in
theorem walk_any (w : World) (no : Option Addr) (nc nn : Nat) (fo : Option Addr) (fc fn : Nat) (N : List Nd) (hnn : nn = N.length) (hN : Nodes w no nc N) (hlow : Lwr (N.map Nd.kids)) (f : Nat) (hf : f < nn) (hnb : nn ≤ 1000000000) :
    Calls Tryz.prog 34 #[.agg #[.slice no nn nc, .slice fo fn fc], .int .i64 f] w fun e w' => WkR w w' ((po (N.map Nd.kids) f).take (nn + 1)) e := by
  have HNN : Hid (nn = N.length) := hnn
  have hl : nn ≤ nc := by have := hN.le; omega
  have HLW : Hid (Lwr (N.map Nd.kids)) := hlow
  clear hnn hlow
  go_enter Tryz.func34, Tryz.ntmps34
  go_wp2_with fail
  obtain ⟨w0, hw0⟩ : ∃ w0, w0 = ((w.alloc (.cells #[.slice no nn nc, .slice fo fn fc] 27)).alloc (.cells #[.int .i64 f] 3)).alloc (.cells #[.int .i64 0] 3) := ⟨_, rfl⟩
  have hb0 : Below w.heap.size w w0 := by
    rw [hw0]
    repeat (first | refine Below.alloc ?_ (by first | omega | (simp; done) | (simp; omega)) _ | exact Below.refl _ _)
  have t0 : w0.cell? ⟨w.heap.size, 0, none⟩ = some (.slice no nn nc) := by rw [hw0]; exact cellA (cellA (cell_arr (heap_alloc_last w _) rfl))
  have hs0 : w0.heap.size = w.heap.size + 1 + 1 + 1 := by rw [hw0]; simp
  have HW0 : WK w0 (w.heap.size + 1) (N.map Nd.kids) nn f f (.slice none 0 0) (.slice (some ⟨w.heap.size + 1, 0, none⟩) 1 1) (.slice (some ⟨w.heap.size + 1 + 1, 0, none⟩) 1 1) 0 1 [((f : Int), 0)] [] := by
    have n1 := OwnI.one (w.alloc (.cells #[.slice no nn nc, .slice fo fn fc] 27)) (w.heap.size + 1) f (by simp)
    have n2 := n1.alloc0 (.cells #[.int .i64 0] 3)
    have x1 := OwnI.one ((w.alloc (.cells #[.slice no nn nc, .slice fo fn fc] 27)).alloc (.cells #[.int .i64 f] 3)) (w.heap.size + 1) 0 (by simp)
    rw [← hw0] at n2 x1
    refine ⟨OwnI.nil _ _, by simpa using n2, by simpa using x1, fun g hg => by simp [Value.ownBlock] at hg, fun g hg => by simp [Value.ownBlock] at hg, fun g h1 h2 => ?_, ?_, ?_, by omega, HLW.out⟩
    · simp [Value.ownBlock] at h1 h2
      omega
    · exact ⟨by omega, by omega, by omega, by show 0 + (f : Int).toNat ≤ f; omega, trivial⟩
    · rw [List.nil_append]; exact po_rest HLW.out f
  rw [← hw0]
  go_loopg [5, 6, 7] (MM (N.map Nd.kids) [((f : Int), 0)]) (fun k a b c wr => ∃ (m d : Nat) (S : List (Int × Nat)) (O : List Int), WK wr (w.heap.size + 1) (N.map Nd.kids) nn f f a b c m d S O ∧ MM (N.map Nd.kids) S = k ∧ Below (w.heap.size + 1) w0 wr)
  case atStart => exact ⟨0, 1, _, _, HW0, rfl, Below.refl _ _⟩
  case round =>
    obtain ⟨m, d, S, O, HW, hMM, hbr⟩ := hrel
    have hsr := hbr.size
    have hbw : Below w.heap.size w wr := hb0.trans (hbr.mono (by omega))
    have t0r : wr.cell? ⟨w.heap.size, 0, none⟩ = some (.slice no nn nc) := cell_below hbr (by omega) t0
    obtain ⟨oa, oc, rfl⟩ := own_slice HW.oo.out
    have hmn := HW.ln
    have HMM : Hid _ := hMM
    clear hMM HW0 hw0
    by_cases hd : 0 < d
    · obtain ⟨f1, j, S', rfl, hdr⟩ := HW.top hd
      obtain ⟨r, hr⟩ : ∃ r, r = S'.length := ⟨_, rfl⟩
      rw [← hr] at hdr
      subst hdr
      obtain ⟨ng, nc2, rfl⟩ := HW.on.blkOf (by omega)
      obtain ⟨xg, xc, rfl⟩ := HW.ox.blkOf (by omega)
      obtain ⟨q1, q2, q3, q4, q5⟩ := HW.frs
      obtain ⟨i, rfl⟩ : ∃ i : Nat, f1 = (i : Int) := ⟨f1.toNat, by omega⟩
      have hin : i < nn := by omega
      have hrf : r + i ≤ f := by have := q4; rw [← hr] at this; omega
      have hni : i < N.length := by have := HNN.out; omega
      obtain ⟨b, o, rfl, hbl, hAt⟩ := hN.out (by intro e; rw [e] at hni; simp at hni)
      obtain ⟨ka, kc, c0, c1, c2, c3, c4, c5, c6, c7, c8, c9w, hK⟩ := (hAt i hni).out
      have c9 := cell_below hbw hbl c9w
      obtain ⟨kl, hkl⟩ : ∃ kl, kl = (N[i]).kids.length := ⟨_, rfl⟩
      rw [← hkl] at c9
      have hks := ks_nd (N := N) i hni
      have hjk : j ≤ kl := by rw [hkl, ← hks]; exact q3
      have HKS : Hid (ks (N.map Nd.kids) (i : Int) = (N[i]).kids ∧ kl = (N[i]).kids.length) := ⟨hks, hkl⟩
      have nqc : wr.cell? ⟨ng, r, none⟩ = some (.int .i64 i) := by
        have := HW.on.cellAt r (by simp [hr])
        rw [this]
        simp [hr]
      have xq : wr.cell? ⟨xg, r, none⟩ = some (.int .i64 j) := by
        have := HW.ox.cellAt r (by simp [hr])
        rw [this]
        simp [hr]
      have hsub : ((r + 1 : Nat) : Int) - 1 = (r : Int) := by omega
      have hon := HW.on.view
      obtain ⟨_, _, en, hn1, hn2, _, _⟩ := hon
      cases en
      obtain ⟨_, _, ex, hx1, hx2, _, _⟩ := HW.ox.view
      cases ex
      have HR : Hid (r = S'.length) := hr
      have hngl := own_block HW.on.out (g := ng) rfl
      have hxgl := own_block HW.ox.out (g := xg) rfl
      have hkll : kl ≤ kc := by have := hK.le; omega
      clear c9w hks hkl hr hAt c0 c1 c2 c3 c4 c5 c6 c7 c8 q1 q2 q3 q4 q5 hd
      by_cases hjl : j = kl
      · obtain rfl : kl = j := hjl.symm
        have HEQ : Hid ((O ++ [(i : Int)]) ++ RR (N.map Nd.kids) S' = po (N.map Nd.kids) f) := by
          show _ = _
          have h1 := HW.eq
          rw [RR, rest_end (by rw [HKS.out.1, HKS.out.2]; exact Nat.le_refl _)] at h1
          rw [← h1]
          simp
        have HOD : ∀ q, OwnI (wr.drewN q) (w.heap.size + 1) (.slice oa m oc) m O := fun q => HW.oo.keep (Below.drewN' (Below.refl _ _) q)
        have hA1 : m + 1 ≤ 17592186044416 := by omega
        by_cases hfull : m = nn
        · obtain rfl : nn = m := hfull.symm
          go_wp2_with fail
          go_quiet (fail)
          go_wp2_with (first | (at_builtin; refine wpList_append_intG rfl _ _ rfl (w.heap.size + 1) _ nn O i ?_ (HOD _) ?_ hA1 (by first | omega | (simp; done) | (simp; omega)) ?_; (next => rfl); (next => rfl); intro v1 w1 HO1 hG1; obtain ⟨a1, c1, rfl⟩ := own_slice HO1.out; have t01 : w1.cell? ⟨w.heap.size, 0, none⟩ = some (.slice (some ⟨b, o, none⟩) nn nc) := cell_below hG1.bel (by omega) (by simpa using t0r)))
          go_ret
          refine ⟨⟨.slice a1 (nn + 1) c1, nn + 1, rfl, ?_⟩, (Below.drewN' hbw nq).trans (hG1.bel.mono (by omega))⟩
          rw [← HEQ.out, List.take_left' (by have := HW.oo.len; simp; omega)]
          exact HO1
        · have hgt : ¬ (nn : Int) < (m : Int) + 1 := by omega
          go_wp2_with fail
          go_quiet (fail)
          go_wp2_with (first | (at_builtin; refine wpList_append_intG rfl _ _ rfl (w.heap.size + 1) _ m O i ?_ (HOD _) ?_ hA1 (by first | omega | (simp; done) | (simp; omega)) ?_; (next => rfl); (next => rfl); intro v1 w1 HO1 hG1; obtain ⟨a1, c1, rfl⟩ := own_slice HO1.out; have t01 : w1.cell? ⟨w.heap.size, 0, none⟩ = some (.slice (some ⟨b, o, none⟩) nn nc) := cell_below hG1.bel (by omega) (by simpa using t0r)))
          have HP := HW.pop (by rw [HKS.out.1, HKS.out.2]; exact Nat.le_refl _) HR.out HO1 (hG1.pre (Below.drewN' (Below.refl _ _) _) (by omega)) (by omega)
          go_roundg (MM (N.map Nd.kids) S')
          case rel => exact ⟨m + 1, r, S', _, HP, rfl, hbr.trans ((Below.drewN' (Below.refl _ _) _).trans hG1.bel)⟩
          case measure =>
            have := HMM.out
            rw [← this]
            simp [MM]
      · have hjlt : j < kl := by omega
        have hjne : ¬ (j : Int) = (kl : Int) := by omega
        obtain ⟨kb, ko, rfl, hKA⟩ := hK.out (by intro e; have := HKS.out.2; rw [e] at this; simp at this; omega)
        have kqw := hKA.cell j (by have := HKS.out.2; omega)
        have hkbl : kb < w.heap.size + 1 := by have := hKA.lt; omega
        have kq := cell_below hbw hKA.lt kqw
        clear kqw
        obtain ⟨x, hx⟩ : ∃ x, x = (N[i]).kids[j]'(by have := HKS.out.2; omega) := ⟨_, rfl⟩
        rw [← hx] at kq
        have hjks : j < (ks (N.map Nd.kids) (i : Int)).length := by rw [HKS.out.1, ← HKS.out.2]; exact hjlt
        have HX : Hid (x = (ks (N.map Nd.kids) (i : Int))[j]) := by
          show x = _
          rw [hx]
          exact (List.getElem_of_eq HKS.out.1 hjks).symm
        have hkmx : kc ≤ 9223372036854775807 := hK.mx
        clear hx hKA hK
        go_wp2_with fail
        go_quiet (fail)
        go_wp2_with fail
        obtain ⟨wq, hwq⟩ : ∃ wq, wq = wr.drewN nq := ⟨_, rfl⟩
        have hbq : Below wr.heap.size wr wq := by rw [hwq]; exact Below.drewN' (Below.refl _ _) _
        have hsq : wq.heap.size = wr.heap.size := by rw [hwq]; simp
        have HWq := HW.keep hbq
        have t0q : wq.cell? ⟨w.heap.size, 0, none⟩ = some (.slice (some ⟨b, o, none⟩) nn nc) := by rw [hwq]; simpa using t0r
        have c9q : wq.cell? ⟨b, o + i * 10 + 9, none⟩ = some (.slice (some ⟨kb, ko, none⟩) kl kc) := by rw [hwq]; simpa using c9
        have xqq : wq.cell? ⟨xg, r, none⟩ = some (.int .i64 j) := by rw [hwq]; simpa using xq
        have kqq : wq.cell? ⟨kb, ko + j, none⟩ = some (.int .i64 x) := by rw [hwq]; simpa using kq
        rw [← hwq]
        clear hwq t0r c9 xq kq nqc
        have hA1 : r + 1 + 1 ≤ 17592186044416 := by omega
        have hbl1 : b < w.heap.size + 1 := by omega
        have hAB : w.heap.size + 1 ≤ ((wq.alloc (.cells #[.int .i64 x] 3)).drew).heap.size := by simp; omega
        have HOK : OwnI ((wq.alloc (.cells #[.int .i64 x] 3)).drew) (w.heap.size + 1) (.slice (some ⟨ng, 0, none⟩) (r + 1) nc2) (r + 1) ((((i : Int), j) :: S').map Prod.fst).reverse := HWq.on.keep (((Below.refl _ _).alloc (Nat.le_refl _) _).drew)
        go_region_held_law (fun w' => w'.cell? ⟨w.heap.size, 0, none⟩ = some (.slice (some ⟨b, o, none⟩) nn nc) ∧ w'.cell? ⟨b, o + i * 10 + 9, none⟩ = some (.slice (some ⟨kb, ko, none⟩) kl kc) ∧ w'.cell? ⟨xg, r, none⟩ = some (.int .i64 j) ∧ w'.cell? ⟨kb, ko + j, none⟩ = some (.int .i64 x))
         (refine ⟨?_, ?_, ?_, ?_⟩ <;> repeat (first | with_reducible exact t0q | with_reducible exact c9q | with_reducible exact xqq | with_reducible exact kqq | with_reducible exact d0 | with_reducible exact d1 | with_reducible exact d2 | with_reducible exact d3 | with_reducible refine cellD ?_ | with_reducible refine cellA ?_))
         (first
          | (refine step_append_intG rfl _ _ rfl (w.heap.size + 1) _ (r + 1) _ x (by simp [Act.eval]) HOK wq.heap.size (by simp [Act.eval]) (by simp) hA1 hAB ?_; intro v1 w1 HO1 hG1
             obtain ⟨d0, d1, d2, d3, d4⟩ := WK.cells HWq hG1 hbl1 hkbl t0q c9q xqq kqq
             obtain ⟨a1, c1, rfl⟩ := own_slice HO1.out))
        have hG2 : GI (w.heap.size + 1) wq w1 (.slice (some ⟨ng, 0, none⟩) (r + 1) nc2) (.slice a1 (r + 1 + 1) c1) := hG1.pre (((Below.refl _ _).alloc (Nat.le_refl _) _).drew) (by omega)
        have HT := HWq.turn HR.out hG2
        have hs1 := hG2.size
        have hAC : w.heap.size + 1 ≤ (w1.setCell ⟨xg, r, none⟩ (.int .i64 ((j : Int) + 1))).heap.size := by simp [World.setCell]; omega
        clear HOK hAB
        go_wp2_with (first | (at_builtin; refine wpList_append_intH rfl _ _ rfl (w.heap.size + 1) _ (r + 1) _ 0 w1.heap.size ?_ HT ?_ (by simp [World.setCell]) hA1 hAC ?_; (next => rfl); (next => rfl); intro v3 w3 HO3 hG3))
        have HP := HWq.push hjks HX.out HR.out HO1 hG2 HO3 hG3
        go_roundg (MM (N.map Nd.kids) ((x, 0) :: ((i : Int), j + 1) :: S'))
        case rel => exact ⟨m, r + 1 + 1, _, O, HP, rfl, ((hbr.trans (hbq.mono (by omega))).trans hG2.bel).setCell (p := ⟨xg, r, none⟩) (by show w.heap.size + 1 ≤ xg; omega) _ |>.trans hG3.bel⟩
        case measure =>
          have := HMM.out
          rw [← this, HX.out]
          exact MM_push HLW.out hjks
    · obtain rfl : d = 0 := by omega
      have hS : S = [] := by have := HW.on.len; simp at this; exact List.length_eq_zero_iff.1 this.symm
      subst hS
      have hE : Hid (O = (po (N.map Nd.kids) f).take (nn + 1)) := by
        show O = _
        have h1 := HW.eq
        simp [RR] at h1
        rw [← h1, List.take_of_length_le (by have := HW.oo.len; omega)]
      obtain ⟨na, nc2, rfl⟩ := own_slice HW.on.out
      go_wp2_with fail
      go_ret
      exact ⟨⟨_, _, rfl, by rw [← hE.out]; exact HW.oo⟩, hbw⟩
end Go.Proofs.YtchobeakieljpaaGreatDoor
namespace Go.Proofs.YtchobeakieljpaaGreatDoor
open Go.ChangeShapes Go.WideShapes Go.ChangeAt Go.RowKit

/-- The first j kids are below their node. -/
structure KRg (nd : Nd) (i j : Nat) : Prop where
  out : ∀ x ∈ nd.kids.take j, 0 ≤ x ∧ x < (i : Int)
theorem KRg.next {nd i j} (h : KRg nd i j) (hj : j < nd.kids.length) {x : Int} (hx : x = nd.kids[j]) (h0 : ¬ x < 0) (h1 : ¬ (i : Int) ≤ x) : KRg nd i (j + 1) := ⟨fun y hy => by
  rw [List.take_succ_eq_append_getElem hj] at hy
  rcases List.mem_append.1 hy with hy | hy
  · exact h.out y hy
  · simp at hy
    omega⟩
theorem KRg.fin {nd i j} (h : KRg nd i j) (hj : nd.kids.length ≤ j) : ∀ x ∈ nd.kids, 0 ≤ x ∧ x < (i : Int) := fun x hx => h.out x (by rw [List.take_of_length_le hj]; exact hx)
/-- The first j numbers of a walk are the next ones. -/
structure WNx (l : List Int) (a j : Nat) : Prop where
  out : ∀ i, i < j → l[i]? = some ((a : Int) + i)
theorem WNx.next {l a j} (h : WNx l a j) (hl : l[j]? = some ((a : Int) + j)) : WNx l a (j + 1) := ⟨fun i hi => by
  rcases Nat.lt_succ_iff_lt_or_eq.1 hi with h1 | rfl
  · exact h.out i h1
  · exact hl⟩
set_option maxRecDepth 10000 in
set_option maxHeartbeats 8000000 in
theorem rCheck_any (w : World) (no : Option Addr) (nc nn : Nat) (fo : Option Addr) (fc fn : Nat) (T : Tr) (hnn : nn = T.nodes.length) (hfn : fn = T.funcs.length) (hN : Nodes w no nc T.nodes) (hF : Ints w fo fc T.funcs) (hm : nn ≤ 1000000000) (hfm : fn ≤ 1000000000) (hkb : ∀ n ∈ T.nodes, n.kids.length ≤ 1000000000) (hsb : ∀ n ∈ T.nodes, n.name.length ≤ 1000000000000000) :
    Calls Tryz.prog 15 #[.agg #[.slice no nn nc, .slice fo fn fc]] w fun e w' => e = .returned (.int .i64 (if chk T = true then 0 else 30)) ∧ Below w.heap.size w w' := by
  obtain ⟨r, hr⟩ : ∃ r : Int, r = if chk T = true then 0 else 30 := ⟨_, rfl⟩
  rw [← hr]
  have BAD : chk T = false → (30 : Int) = r := fun h => by rw [hr, h]; rfl
  have HR : Hid (r = if chk T = true then 0 else 30) := hr
  have HNN : Hid (nn = T.nodes.length) := hnn
  have HFN : Hid (fn = T.funcs.length) := hfn
  have HKB : Hid _ := hkb
  have HSB : Hid _ := hsb
  have hnc : nn ≤ nc := by have := hN.le; omega
  have hnx := hN.mx
  have hfc : fn ≤ fc := by have := hF.le; omega
  have hfx := hF.mx
  clear hr hnn hfn hkb hsb
  go_enter Tryz.func15, Tryz.ntmps15
  go_wp2_with fail
  obtain ⟨w1, hw1⟩ : ∃ w1, w1 = w.alloc (.cells #[.slice no nn nc, .slice fo fn fc] 27) := ⟨_, rfl⟩
  have hb1 : Below w.heap.size w w1 := by rw [hw1]; exact (Below.refl _ _).alloc (Nat.le_refl _) _
  have hs1 : w1.heap.size = w.heap.size + 1 := by rw [hw1]; simp
  have e0 : w1.cell? ⟨w.heap.size, 0, none⟩ = some (.slice no nn nc) := by rw [hw1]; simp
  have e1 : w1.cell? ⟨w.heap.size, 1, none⟩ = some (.slice fo fn fc) := by rw [hw1]; simp
  rw [← hw1]
  have HS1 : Hid (w1.heap.size = w.heap.size + 1) := hs1
  clear hw1 hs1
  go_loopw [3, 4] (fun tv iv wr => ∃ i tot : Nat, i ≤ nn ∧ iv = .int .i64 i ∧ tv = .int .i64 tot ∧ RP1 T i tot ∧ Below (w.heap.size + 1) w1 wr) (fun _ iv _ => nn - (intOf iv).toNat)
  case atStart => exact ⟨0, 0, by omega, rfl, rfl, RP1.zero T, Below.refl _ _⟩
  case round =>
    obtain ⟨i, tot, hi, rfl, rfl, HP, hbr⟩ := hrel
    have hbw : Below w.heap.size w wr := hb1.trans (hbr.mono (by omega))
    have hsr := hbr.size
    have f0 : wr.cell? ⟨w.heap.size, 0, none⟩ = some (.slice no nn nc) := cell_below hbr (by omega) e0
    have f1 : wr.cell? ⟨w.heap.size, 1, none⟩ = some (.slice fo fn fc) := cell_below hbr (by omega) e1
    have htn : tot ≤ nn := by have := HP.le; have := HNN.out; omega
    by_cases hlt : i < nn
    · have hiT : i < T.nodes.length := by have := HNN.out; omega
      obtain ⟨b, o, rfl, hbl, hAt⟩ := (hN.below hbw (Nat.le_refl _)).out (by intro e; rw [e] at hiT; simp at hiT)
      obtain ⟨ka, kc, c0, c1, c2, c3, c4, c5, c6, c7, c8, c9, hK⟩ := (hAt i hiT).out
      have hkb := HKB.out _ (List.getElem_mem hiT)
      have hsb := HSB.out _ (List.getElem_mem hiT)
      obtain ⟨nd, hnd⟩ : ∃ nd, nd = T.nodes[i] := ⟨_, rfl⟩
      rw [← hnd] at c0 c1 c2 c3 c4 c5 c6 c7 c8 c9 hK hkb hsb
      have HND : Hid (nd = T.nodes[i]) := hnd
      clear hnd hAt
      obtain ⟨s, hs⟩ : ∃ s, s = bs nd.name := ⟨_, rfl⟩
      have HS : Hid (s = bs nd.name) := hs
      rw [← hs] at c8
      clear hs
      obtain ⟨kl, hkl⟩ : ∃ kl, kl = nd.kids.length := ⟨_, rfl⟩
      rw [← hkl] at c9 hkb
      have HKL : Hid (kl = nd.kids.length) := hkl
      have hkc : kl ≤ kc := by have := hK.le; omega
      have hkx := hK.mx
      have HSN : Hid (nd.name.length ≤ 1000000000000000) := hsb
      clear hkl hsb
      by_cases hbig : nn < tot + kl
      · have hbigI : (nn : Int) < (tot : Int) + (kl : Int) := by omega
        go_wp2_with fail
        go_ret
        exact ⟨ret_i (BAD (HP.many (kl := kl) hiT (by rw [← HND.out]; exact HKL.out) (by have := HNN.out; omega))), hbw⟩
      · have hbigI : ¬ (nn : Int) < (tot : Int) + (kl : Int) := by omega
        go_wp2_with fail
        go_loop [5] (fun jv => ∃ j : Nat, j ≤ kl ∧ jv = .int .i64 j ∧ KRg nd i j) (fun jv => kl - (intOf jv).toNat)
        case atStart => exact ⟨0, by omega, rfl, ⟨by simp⟩⟩
        case round =>
          obtain ⟨j, hj, rfl, HJ⟩ := hrel
          by_cases hjk : j < kl
          · have hjn : j < nd.kids.length := by have := HKL.out; omega
            obtain ⟨kb, ko, rfl, hKA⟩ := hK.out (by intro e; rw [e] at hjn; simp at hjn)
            have kj := hKA.cell j hjn
            obtain ⟨x, hx⟩ : ∃ x, x = nd.kids[j] := ⟨_, rfl⟩
            rw [← hx] at kj
            have HX : Hid (x = nd.kids[j]) := hx
            have hxm : x ∈ nd.kids := by rw [hx]; exact List.getElem_mem hjn
            have HXM : Hid (x ∈ nd.kids) := hxm
            clear hx hxm hKA
            by_cases hx0 : x < 0
            · go_wp2_with fail
              go_ret
              exact ⟨ret_i (BAD (RP1.range hiT (by rw [← HND.out]; exact HXM.out) (.inl hx0))), hbw⟩
            by_cases hx1 : (i : Int) ≤ x
            · go_wp2_with fail
              go_ret
              exact ⟨ret_i (BAD (RP1.range hiT (by rw [← HND.out]; exact HXM.out) (.inr hx1))), hbw⟩
            go_wp2_with fail
            go_round
            case rel => exact ⟨j + 1, by omega, by go_num, HJ.next hjn HX.out hx0 hx1⟩
            case measure => simp [intOf]; omega
          · have hjl : kl = j := by omega
            subst hjl
            have HRG : Hid (∀ x ∈ nd.kids, 0 ≤ x ∧ x < (i : Int)) := HJ.fin (by have := HKL.out; omega)
            go_wp2_with fail
            obtain ⟨RK, hRK⟩ : ∃ R, rKidsB T.nodes nd = R := ⟨_, rfl⟩
            have KIDS : ∀ wx, Below wr.heap.size wr wx → Calls Tryz.prog 32 #[.agg #[.slice (some ⟨b, o, none⟩) nn nc, .slice fo fn fc], .agg #[.int .i64 nd.kind, .int .i64 nd.at_, .int .i64 nd.wh, .int .i64 nd.close, .int .i64 nd.decl, .int .i64 nd.typ, .int .i64 nd.op, .int .i64 nd.val, .string s, .slice ka kl kc]] wx fun e w' => e = .returned (.bool RK) ∧ Below wx.heap.size wx w' := fun wx hx => rKids_any wx _ nc nn fo fc fn T.nodes HNN.out (hN.below (hbw.trans (hx.mono hbw.size)) (Nat.le_refl _)) nd ka kc s kl (hK.below hx (Nat.le_refl _)) (fun x hx => by have := HRG.out x hx; omega) HKL.out hkb hm RK hRK
            have HRK : Hid (rKidsB T.nodes nd = RK) := hRK
            clear hRK
            have hq2 : w.heap.size < wr.drew.heap.size := by simp; have := HS1.out; omega
            have hq3 : b < wr.drew.heap.size := by simp; omega
            cases RK
            · first
              | (go_region_with (first | (go_at_call 32; refine (KIDS _ (Below.refl _ _).drew).mono ?_; rintro e w2 ⟨rfl, hb2⟩)))
              | fail
              all_goals
                go_wp2_with fail
                go_ret
                exact ⟨ret_i (BAD (RP1.bad hiT (.inl (by rw [← HND.out]; exact HRK.out)))), hbw.trans (((Below.refl _ _).drew.trans hb2).mono hbw.size)⟩
            · obtain ⟨RF, hRF⟩ : ∃ R, ffit nd = R := ⟨_, rfl⟩
              have FLDS : ∀ wx, Calls Tryz.prog 33 #[.agg #[.int .i64 nd.kind, .int .i64 nd.at_, .int .i64 nd.wh, .int .i64 nd.close, .int .i64 nd.decl, .int .i64 nd.typ, .int .i64 nd.op, .int .i64 nd.val, .string s, .slice ka kl kc]] wx fun e w' => e = .returned (.bool RF) ∧ Below wx.heap.size wx w' := fun wx => rFields_any wx nd ka kl kc s HS.out HSN.out RF hRF
              have HRF : Hid (ffit nd = RF) := hRF
              clear hRF
              go_region_held (fun w' => w'.cell? ⟨w.heap.size, 0, none⟩ = some (.slice (some ⟨b, o, none⟩) nn nc) ∧ w'.cell? ⟨w.heap.size, 1, none⟩ = some (.slice fo fn fc) ∧ w'.cell? ⟨b, o + i * 10, none⟩ = some (.int .i64 nd.kind) ∧ w'.cell? ⟨b, o + i * 10 + 1, none⟩ = some (.int .i64 nd.at_) ∧ w'.cell? ⟨b, o + i * 10 + 2, none⟩ = some (.int .i64 nd.wh) ∧ w'.cell? ⟨b, o + i * 10 + 3, none⟩ = some (.int .i64 nd.close) ∧ w'.cell? ⟨b, o + i * 10 + 4, none⟩ = some (.int .i64 nd.decl) ∧ w'.cell? ⟨b, o + i * 10 + 5, none⟩ = some (.int .i64 nd.typ) ∧ w'.cell? ⟨b, o + i * 10 + 6, none⟩ = some (.int .i64 nd.op) ∧ w'.cell? ⟨b, o + i * 10 + 7, none⟩ = some (.int .i64 nd.val) ∧ w'.cell? ⟨b, o + i * 10 + 8, none⟩ = some (.string s) ∧ w'.cell? ⟨b, o + i * 10 + 9, none⟩ = some (.slice ka kl kc))
               (refine ⟨?_, ?_, ?_, ?_, ?_, ?_, ?_, ?_, ?_, ?_, ?_, ?_⟩ <;> first | with_reducible exact cellD f0 | with_reducible exact cellD f1 | with_reducible exact cellD c0 | with_reducible exact cellD c1 | with_reducible exact cellD c2 | with_reducible exact cellD c3 | with_reducible exact cellD c4 | with_reducible exact cellD c5 | with_reducible exact cellD c6 | with_reducible exact cellD c7 | with_reducible exact cellD c8 | with_reducible exact cellD c9 | with_reducible exact cell_below hb2 hq2 (cellD f0) | with_reducible exact cell_below hb2 hq2 (cellD f1) | with_reducible exact cell_below hb2 hq3 (cellD c0) | with_reducible exact cell_below hb2 hq3 (cellD c1) | with_reducible exact cell_below hb2 hq3 (cellD c2) | with_reducible exact cell_below hb2 hq3 (cellD c3) | with_reducible exact cell_below hb2 hq3 (cellD c4) | with_reducible exact cell_below hb2 hq3 (cellD c5) | with_reducible exact cell_below hb2 hq3 (cellD c6) | with_reducible exact cell_below hb2 hq3 (cellD c7) | with_reducible exact cell_below hb2 hq3 (cellD c8) | with_reducible exact cell_below hb2 hq3 (cellD c9) | with_reducible exact cell_below hb3 hq4 (cell_below hb2 hq2 (cellD f0)) | with_reducible exact cell_below hb3 hq4 (cell_below hb2 hq2 (cellD f1)) | with_reducible exact cell_below hb3 hq5 (cell_below hb2 hq3 (cellD c0)) | with_reducible exact cell_below hb3 hq5 (cell_below hb2 hq3 (cellD c1)) | with_reducible exact cell_below hb3 hq5 (cell_below hb2 hq3 (cellD c2)) | with_reducible exact cell_below hb3 hq5 (cell_below hb2 hq3 (cellD c3)) | with_reducible exact cell_below hb3 hq5 (cell_below hb2 hq3 (cellD c4)) | with_reducible exact cell_below hb3 hq5 (cell_below hb2 hq3 (cellD c5)) | with_reducible exact cell_below hb3 hq5 (cell_below hb2 hq3 (cellD c6)) | with_reducible exact cell_below hb3 hq5 (cell_below hb2 hq3 (cellD c7)) | with_reducible exact cell_below hb3 hq5 (cell_below hb2 hq3 (cellD c8)) | with_reducible exact cell_below hb3 hq5 (cell_below hb2 hq3 (cellD c9)))
               (first
                | (go_at_call 32; refine (KIDS _ (Below.refl _ _).drew).mono ?_; rintro e w2 ⟨rfl, hb2⟩; have hq4 : w.heap.size < w2.heap.size := (by have := hb2.size; omega); have hq5 : b < w2.heap.size := (by have := hb2.size; omega))
                | (go_at_call 33; refine (FLDS _).mono ?_; rintro e w3 ⟨rfl, hb3⟩))
              have hb3r : Below wr.heap.size wr w3 := (Below.refl _ _).drew.trans ((hb2.mono (by simp)).trans (hb3.mono (by have := hb2.size; simp at this; omega)))
              cases RF
              · go_wp2_with fail
                go_ret
                exact ⟨ret_i (BAD (RP1.bad hiT (.inr (by rw [← HND.out]; exact HRF.out)))), hbw.trans (hb3r.mono hbw.size)⟩
              · go_wp2_with fail
                go_roundw
                case rel => exact ⟨i + 1, tot + kl, by omega, by go_num, by go_num, HP.next hiT (by rw [← HND.out]; exact HKL.out) (by have := HNN.out; omega) (by rw [← HND.out]; exact HRG.out) (by rw [← HND.out]; exact HRK.out) (by rw [← HND.out]; exact HRF.out), hbr.trans (hb3r.mono (by have := HS1.out; omega))⟩
                case measure => simp [intOf]; omega
    · have hin : nn = i := by omega
      subst hin
      have HP2 : RP2 T 0 0 := HP.fin (by have := HNN.out; omega)
      clear HP htn hlt hi
      go_wp2_with fail
      go_loopw [8, 9] (fun av qv wx => ∃ q a : Nat, q ≤ fn ∧ qv = .int .i64 q ∧ av = .int .i64 a ∧ RP2 T q a ∧ Below (w.heap.size + 1) w1 wx) (fun _ qv _ => fn - (intOf qv).toNat)
      case atStart => exact ⟨0, 0, by omega, rfl, rfl, HP2, hbr⟩
      case round =>
        clear f0 f1 HP2 hbw hsr hbr
        obtain ⟨q, a, hq, rfl, rfl, HQ, hbx⟩ := hrel
        have hbW : Below w.heap.size w wr := hb1.trans (hbx.mono (by omega))
        have hsx := hbx.size
        have g0 : wr.cell? ⟨w.heap.size, 0, none⟩ = some (.slice no nn nc) := cell_below hbx (by omega) e0
        have g1 : wr.cell? ⟨w.heap.size, 1, none⟩ = some (.slice fo fn fc) := cell_below hbx (by omega) e1
        have han : a ≤ nn := by have := HQ.le; have := HNN.out; omega
        by_cases hqf : q < fn
        · have hqT : q < T.funcs.length := by have := HFN.out; omega
          obtain ⟨fb, fo', rfl, hFA⟩ := (hF.below hbW (Nat.le_refl _)).out (by intro e; rw [e] at hqT; simp at hqT)
          have fcell := hFA.cell q hqT
          obtain ⟨f, hf⟩ : ∃ f, f = T.funcs[q] := ⟨_, rfl⟩
          rw [← hf] at fcell
          have HF : Hid (f = T.funcs[q]) := hf
          clear hf hFA
          by_cases hf0 : f < 0
          · go_wp2_with fail
            go_ret
            exact ⟨ret_i (BAD (RP2.func hqT (fun h => by rw [← HF.out] at h; omega))), hbW⟩
          by_cases hf1 : (nn : Int) ≤ f
          · go_wp2_with fail
            go_ret
            exact ⟨ret_i (BAD (RP2.func hqT (fun h => by rw [← HF.out] at h; have := HNN.out; omega))), hbW⟩
          obtain ⟨m, rfl⟩ : ∃ m : Nat, f = (m : Int) := ⟨f.toNat, by omega⟩
          have hmn : m < nn := by omega
          have hmT : m < T.nodes.length := by have := HNN.out; omega
          obtain ⟨b, o, rfl, hkc⟩ := (hN.below hbW (Nat.le_refl _)).kind m hmT
          obtain ⟨k, hk⟩ : ∃ k, k = kd T.nodes (m : Int) := ⟨_, rfl⟩
          rw [← hk] at hkc
          have HKD : Hid (k = kd T.nodes (m : Int)) := hk
          clear hk
          by_cases hk1 : k = 1
          · subst hk1
            have HFT : Hid (0 ≤ T.funcs[q] ∧ T.funcs[q] < T.nodes.length ∧ kd T.nodes T.funcs[q] = 1) := by
              show _ ∧ _ ∧ _
              rw [← HF.out]
              exact ⟨by omega, by omega, HKD.out.symm⟩
            obtain ⟨L, hL⟩ : ∃ L, L = (po (T.nodes.map Nd.kids) (m : Int)).take (nn + 1) := ⟨_, rfl⟩
            have WALK := walk_any wr _ nc nn (some ⟨fb, fo', none⟩) fc fn T.nodes HNN.out (hN.below hbW (Nat.le_refl _)) HQ.low m hmn hm
            rw [← hL] at WALK
            have HL : Hid (L = (po (T.nodes.map Nd.kids) (m : Int)).take (nn + 1)) := hL
            clear hL
            go_wp2_with (first | (go_at_call 34; refine WALK.mono ?_; rintro e w2 ⟨⟨v, ml, rfl, HO⟩, hb2⟩))
            clear WALK
            have hs2 := hb2.size
            have k0 : w2.cell? ⟨w.heap.size, 0, none⟩ = some (.slice (some ⟨b, o, none⟩) nn nc) := cell_below hb2 (by have := HS1.out; omega) g0
            have k1 : w2.cell? ⟨w.heap.size, 1, none⟩ = some (.slice (some ⟨fb, fo', none⟩) fn fc) := cell_below hb2 (by have := HS1.out; omega) g1
            obtain ⟨la, lc, rfl, hv1, hv2, hI, hla⟩ := HO.view
            have HLL : Hid (ml = L.length) := HO.len
            have hml : ml ≤ nn + 1 := by have := HLL.out; rw [this, HL.out, List.length_take]; omega
            clear g0 g1 fcell hkc
            go_loop [8, 12] (fun av jv => ∃ j : Nat, j ≤ ml ∧ jv = .int .i64 j ∧ av = .int .i64 ((a : Int) + j) ∧ WNx L a j) (fun _ jv => ml - (intOf jv).toNat)
            case atStart => exact ⟨0, by omega, rfl, by go_num, ⟨fun i hi => by omega⟩⟩
            case round =>
              obtain ⟨j, hj, rfl, rfl, HJ⟩ := hrel
              by_cases hjm : j < ml
              · have hjL : j < L.length := by have := HLL.out; omega
                obtain ⟨lb, lo, rfl, hLA⟩ := hI.out (by intro e; rw [e] at hjL; simp at hjL)
                have lj := hLA.cell j hjL
                obtain ⟨x, hx⟩ : ∃ x, x = L[j] := ⟨_, rfl⟩
                rw [← hx] at lj
                have HX : Hid (L[j]? = some x) := by rw [hx]; exact List.getElem?_eq_getElem hjL
                clear hx hLA
                by_cases hxe : x = (a : Int) + j
                · have HX2 : WNx L a (j + 1) := HJ.next (by rw [HX.out, hxe])
                  subst hxe
                  go_wp2_with fail
                  go_round
                  case rel => exact ⟨j + 1, by omega, by go_num, by go_num, HX2⟩
                  case measure => simp [intOf]; omega
                · go_wp2_with fail
                  go_ret
                  exact ⟨ret_i (BAD (HQ.bad (j := j) (x := x) hqT (by
                    rw [← HF.out]
                    have h1 := HX.out
                    rw [HL.out, List.getElem?_take] at h1
                    split at h1
                    · exact h1
                    · cases h1) hxe)), hbW.trans (hb2.mono hbW.size)⟩
              · have hjl : ml = j := by omega
                subst hjl
                go_wp2_with fail
                go_roundw
                case rel => exact ⟨q + 1, a + ml, by omega, by go_num, by go_num, HQ.next hqT HFT.out (l := L) (m := ml) (by rw [← HF.out, HL.out, HNN.out]) HLL.out HJ.out, hbx.trans (hb2.mono (by have := HS1.out; omega))⟩
                case measure => simp [intOf]; omega
          · go_wp2_with fail
            go_ret
            exact ⟨ret_i (BAD (RP2.func hqT (fun h => by rw [← HF.out] at h; exact hk1 (HKD.out.trans h.2.2)))), hbW⟩
        · have hql : fn = q := by omega
          subst hql
          have hfin := HQ.fin (by have := HFN.out; omega)
          have HFIN : Hid (chk T = decide (a = T.nodes.length)) := hfin
          clear hfin
          by_cases ha : a = nn
          · subst ha
            go_wp2_with fail
            go_ret
            exact ⟨ret_i (by rw [HR.out, HFIN.out, if_pos (by have := HNN.out; simpa using this)]), hbW⟩
          · go_wp2_with fail
            go_ret
            exact ⟨ret_i (BAD (by rw [HFIN.out]; have := HNN.out; simp; omega)), hbW⟩
end Go.Proofs.YtchobeakieljpaaGreatDoor
namespace Go.Proofs.YtchobeakieljpaaGreatDoor
open Go.ChangeShapes Go.WideShapes Go.ChangeAt Go.RowKit

/-- What fill leaves. -/
structure FillR (w w' : World) (s : Sh) (C : List Kd) (U : List Nd) (F : List Int) : Prop where
  out : ∃ M' C' FC', Lnt w' s M' C' FC' ∧ Shp C C' ∧ FI M' C' U s.n ∧ FC'.take s.fn = F
  tch : Tch s.B s.E w w'
theorem Lnt.cells {w s M C FC} (h : Lnt w s M C FC) : w.cell? ⟨s.xb, 0, none⟩ = some (.slice (some ⟨s.nb, 0, none⟩) s.n s.nc) ∧ w.cell? ⟨s.xb, 1, none⟩ = some (.slice (some ⟨s.fb, 0, none⟩) s.fn s.fc) ∧ w.cell? ⟨s.xb, 2, none⟩ = some (.slice (some ⟨s.nb, 0, none⟩) (s.n + 2) s.nc) ∧ w.cell? ⟨s.xb, 3, none⟩ = some (.slice (some ⟨s.fb, 0, none⟩) (s.fn + 5) s.fc) ∧ w.cell? ⟨s.xb, 4, none⟩ = some s.kv :=
  ⟨cell_arr h.box rfl, cell_arr h.box rfl, cell_arr h.box rfl, cell_arr h.box rfl, cell_arr h.box rfl⟩
/-- The row of kids at i. -/
theorem Lnt.kidAt {w s M C FC} (h : Lnt w s M C FC) (i : Nat) (hi : i < C.length) : ∃ kg kc, s.kv = .slice (some ⟨kg, 0, none⟩) s.n kc ∧ s.n ≤ kc ∧ kc ≤ 9223372036854775807 ∧ w.cell? ⟨kg, i, none⟩ = some (.slice (some ⟨(C[i]).g, 0, none⟩) (C[i]).l.length (C[i]).c) ∧ kg < s.E := by
  have hk := h.lk
  obtain ⟨kg, kc, e, h1, h2, h3, h4⟩ := own_blkOf h.rk (by omega)
  have hr := h.rk
  rw [e] at hr
  exact ⟨kg, kc, e, h1, h2, own1_cell hr i (by omega) _ (by rw [List.getElem?_map, List.getElem?_eq_getElem hi]; rfl), h.top.2.2.2.2.1 kg (by rw [e]; rfl)⟩
theorem Tch.box {B E w w' h} (ht : Tch B E w w') (hE : E ≤ h) {ob : Obj} (hb : w.heap[h]? = some ob) : w'.heap[h]? = some ob := (ht.blk h hE (Array.getElem?_eq_some_iff.1 hb).1).trans hb
/-- The first j kids of the i-th row are written. -/
structure FJ (C : List Kd) (i j g c L : Nat) (nd : Nd) : Prop where
  out : ∃ h : i < C.length, (C[i]).g = g ∧ (C[i]).c = c ∧ (C[i]).l.length = L ∧ (C[i]).l.take j = nd.kids.take j
theorem FJ.put {w s M C FC i j g c L nd} (h : FJ C i j g c L nd) (H : Lnt w s M C FC) (hj : j < nd.kids.length) (hL : j < L) {x : Int} (hx : x = nd.kids[j]) {C0 U} (hS : Shp C0 C) (hF : FI M C U i) :
    ∃ C', Lnt (w.setCell ⟨g, j, none⟩ (.int .i64 x)) s M C' FC ∧ Shp C0 C' ∧ FI M C' U i ∧ FJ C' i (j + 1) g c L nd := by
  obtain ⟨hi, h1, h2, h3, h4⟩ := h.out
  refine ⟨C.set i { C[i] with l := (C[i]).l.set j x }, by have := H.putKid i hi j x; rw [h1] at this; exact this, hS.set i hi j x, hF.setC _, ⟨by simpa using hi, ?_⟩⟩
  simp only [List.getElem_set_self, List.length_set]
  refine ⟨h1, h2, h3, ?_⟩
  rw [hx]
  exact take_set_succ h4 (by omega) hj
theorem FJ.cell {w s M C FC i j g c L nd} (h : FJ C i j g c L nd) (H : Lnt w s M C FC) (q : Nat) (hq : q < L) : ∃ y, w.cell? ⟨g, q, none⟩ = some (.int .i64 y) ∧ w.frozen? ⟨g, q, none⟩ = false := by
  obtain ⟨hi, h1, h2, h3, h4⟩ := h.out
  have hk := H.kid C[i] (List.getElem_mem hi)
  have hk' : OwnI w s.B (.slice (some ⟨g, 0, none⟩) (C[i]).l.length (C[i]).c) (C[i]).l.length (C[i]).l := by rw [← h1]; exact hk
  exact ⟨_, hk'.cellAt q (by omega), row_fz hk'.out q⟩
theorem FJ.row {w s M C FC i j g c L nd} (h : FJ C i j g c L nd) (H : Lnt w s M C FC) : ∃ kg kc, s.kv = .slice (some ⟨kg, 0, none⟩) s.n kc ∧ s.n ≤ kc ∧ kc ≤ 9223372036854775807 ∧ w.cell? ⟨kg, i, none⟩ = some (.slice (some ⟨g, 0, none⟩) L c) ∧ L ≤ c ∧ c ≤ 9223372036854775807 ∧ s.B ≤ g ∧ g < s.E := by
  obtain ⟨hi, h1, h2, h3, h4⟩ := h.out
  obtain ⟨kg, kc, e1, e2, e3, e4, e5⟩ := H.kidAt i hi
  have hm := List.getElem_mem hi
  have b1 := (H.kb hm).1
  have b2 := H.top.2.2.2.2.2 _ hm
  rw [h1] at b1 b2
  rw [h1, h2, h3] at e4
  obtain ⟨_, _, ev, a1, a2, _, _⟩ := (H.kid C[i] (List.getElem_mem hi)).view
  simp only [Kd.v] at ev
  cases ev
  exact ⟨kg, kc, e1, e2, e3, e4, by omega, by omega, b1, b2⟩
theorem Tch.setNew {B E a b} (h : Tch B E a b) {g j : Nat} (h1 : a.heap.size ≤ g) (h2 : B ≤ g) (u : Value) : Tch B E a (b.setCell ⟨g, j, none⟩ u) :=
  ⟨h.bel.setCell (p := ⟨g, j, none⟩) h2 u, fun k h3 h4 => (heap_set_other (by omega)).trans (h.blk k h3 h4)⟩
theorem own_lt {w : World} {s M C FC} (h : Lnt w s M C FC) {B e z n : Nat} {v : Value} {L : List Value} (ho : w.ownsRow B e z v n L) (hv : ∀ g, v.ownBlock = some g → g < s.E) {g j : Nat} (hg : s.E ≤ g) (u : Value) : (w.setCell ⟨g, j, none⟩ u).ownsRow B e z v n L := own_move ho fun b hb => heap_set_other (by have := hv b hb; omega)
/-- What is written elsewhere. -/
theorem Lnt.setFar {w s M C FC} (h : Lnt w s M C FC) {g j : Nat} (hg : s.E ≤ g) (u : Value) : Lnt (w.setCell ⟨g, j, none⟩ u) s M C FC := by
  obtain ⟨t1, t2, t3, t4, t5, t6⟩ := h.top
  exact ⟨h.ln, h.lk, h.lf, own_lt h h.rn (fun b hb => by cases hb; exact t1) hg u, own_lt h h.rk t5 hg u, fun k hk => ⟨rfl, own_lt h (h.kid k hk).out (fun b hb => by rw [Kd.own] at hb; cases hb; exact t6 k hk) hg u⟩, h.apt, ⟨h.fun_.len, own_lt h h.fun_.out (fun b hb => by cases hb; exact t2) hg u⟩, h.fap, (heap_set_other (by omega)).trans h.box, h.bot, ⟨t1, t2, t3, by simpa [World.setCell] using t4, t5, t6⟩⟩
theorem Lnt.putNode1 {w w' s M C FC} (h : Lnt w s M C FC) (i : Nat) (p : Nd × Value) (hr : w'.ownsRow s.B 39 10 (.slice (some ⟨s.nb, 0, none⟩) (s.n + 2) s.nc) (s.n + 2) (ncs (M.set i p))) (hb : ∀ g, g ≠ s.nb → w'.heap[g]? = w.heap[g]?) (hs : w'.heap.size = w.heap.size) : Lnt w' s (M.set i p) C FC := by
  obtain ⟨n1, n2⟩ := h.nne
  refine ⟨by simpa using h.ln, h.lk, h.lf, hr, own_move h.rk fun g hg => ?_, fun k hk => ⟨rfl, own_move (h.kid k hk).out fun g hg => ?_⟩, h.apt, ⟨h.fun_.len, own_move h.fun_.out fun g hg => ?_⟩, h.fap, ?_, h.bot, by rw [hs]; exact h.top⟩
  · exact hb g (fun e => n1 (by rw [← e]; exact hg))
  · exact hb g (fun e => (h.kne hk).1 (by rw [Kd.own] at hg; cases hg; exact e))
  · exact hb g (fun e => h.fne.1 (by cases hg; exact e))
  · rw [hb _ (Ne.symm n2)]; exact h.box
theorem Lnt.nb_in {w s M C FC} (h : Lnt w s M C FC) : s.B ≤ s.nb ∧ s.nb < s.E := ⟨(own_block h.rn rfl).1, h.top.1⟩
theorem Lnt.fb_in {w s M C FC} (h : Lnt w s M C FC) : s.B ≤ s.fb ∧ s.fb < s.E := ⟨(own_block h.fun_.out rfl).1, h.top.2.1⟩
theorem Tch.put10 {B E a b} (h : Tch B E a b) {g i : Nat} (h1 : B ≤ g) (h2 : g < E) (k c d e f q r v : Int) (sn : ByteArray) (kv : Value) : Tch B E a (put10 b g i k c d e f q r v sn kv) :=
  ⟨put10_below h.bel h1, fun x h3 h4 => (put10_other (by omega)).trans (h.blk x h3 h4)⟩
theorem Lnt.nodeSome {w s M C FC} (h : Lnt w s M C FC) (i : Nat) (hi : i < M.length) (k : Nat) (hk : k < 10) : ∃ v, w.cell? ⟨s.nb, i * 10 + k, none⟩ = some v := ⟨_, (row_cell h.rn h.ln i hi k hk).trans (List.getElem?_eq_getElem (by simp [nc]; omega))⟩
/-- The first j functions are written. -/
structure FJF (FC F : List Int) (j : Nat) : Prop where
  out : FC.take j = F.take j
set_option maxRecDepth 10000 in
set_option maxHeartbeats 8000000 in
theorem fill_any (w : World) (s : Sh) (M : List (Nd × Value)) (C : List Kd) (FC : List Int) (H : Lnt w s M C FC) (no : Option Addr) (nc nn : Nat) (fo : Option Addr) (fc fn : Nat) (U : List Nd) (F : List Int) (hA : Ap s.B s.E w no nc U fo fc F) (hnn : nn = U.length) (hfn : fn = F.length) (hsn : s.n = nn) (hsf : s.fn = fn) (hm : nn ≤ 1000000000) (hfm : fn ≤ 1000000000)
    (hk : ∀ q (h : q < U.length) (hc : q < C.length), (U[q]).kids.length ≤ (C[q]).l.length ∧ (U[q]).kids.length ≤ 1000000000) :
    Calls Tryz.prog 18 #[.pointer (some ⟨s.xb, 0, none⟩), .agg #[.slice no nn nc, .slice fo fn fc]] w fun e w' => e = .returned (.tuple #[]) ∧ FillR w w' s C U F := by
  have HNN : Hid (nn = U.length ∧ fn = F.length ∧ s.n = nn ∧ s.fn = fn) := ⟨hnn, hfn, hsn, hsf⟩
  have HK : Hid _ := hk
  have hnc : nn ≤ nc := by have := (hA.nod w (Tch.refl _ _ _)).le; omega
  have hnx := (hA.nod w (Tch.refl _ _ _)).mx
  have hfc : fn ≤ fc := by have := (hA.fun_ w (Tch.refl _ _ _)).le; omega
  have hfx := (hA.fun_ w (Tch.refl _ _ _)).mx
  clear hnn hfn hsn hsf hk
  go_enter Tryz.func18, Tryz.ntmps18
  go_wp2_with fail
  obtain ⟨w1, hw1⟩ : ∃ w1, w1 = w.alloc (.cells #[.slice no nn nc, .slice fo fn fc] 27) := ⟨_, rfl⟩
  have hEw : s.E ≤ w.heap.size := H.top.2.2.2.1
  have hBw : s.B ≤ w.heap.size := by have := H.bot; have := H.top.2.2.1; omega
  have ht1 : Tch s.B s.E w w1 := by rw [hw1]; exact (Tch.refl _ _ _).below ((Below.refl _ _).alloc (Nat.le_refl _) _) hBw
  have hbox : w1.heap[w.heap.size]? = some (.cells #[.slice no nn nc, .slice fo fn fc] 27 (0, 0)) := by rw [hw1]; exact heap_alloc_last _ _
  have H1 : Lnt w1 s M C FC := by rw [hw1]; exact H.keep ((Below.refl _ _).alloc (Nat.le_refl _) _)
  rw [← hw1]
  have HB1 : Hid (Tch s.B s.E w w1 ∧ w1.heap[w.heap.size]? = some (.cells #[.slice no nn nc, .slice fo fn fc] 27 (0, 0)) ∧ s.E ≤ w.heap.size ∧ s.B ≤ w.heap.size) := ⟨ht1, hbox, hEw, hBw⟩
  have hA1 := hA.move ht1
  clear hw1 ht1 hbox hEw hBw hA H
  go_loopw [4] (fun iv wr => ∃ (i : Nat) (M' : List (Nd × Value)) (C' : List Kd), i ≤ nn ∧ iv = .int .i64 i ∧ Lnt wr s M' C' FC ∧ Shp C C' ∧ FI M' C' U i ∧ Tch s.B s.E w1 wr) (fun iv _ => nn - (intOf iv).toNat)
  case atStart => exact ⟨0, M, C, by omega, rfl, H1, Shp.refl _, FI.zero _ _ _, Tch.refl _ _ _⟩
  case round =>
    obtain ⟨i, M', C', hi, rfl, HL, HS, HFI, HT⟩ := hrel
    have hboxr := HT.box HB1.out.2.2.1 HB1.out.2.1
    have f0 : wr.cell? ⟨w.heap.size, 0, none⟩ = some (.slice no nn nc) := cell_arr hboxr rfl
    have f1 : wr.cell? ⟨w.heap.size, 1, none⟩ = some (.slice fo fn fc) := cell_arr hboxr rfl
    by_cases hlt : i < nn
    · have hiU : i < U.length := by have := HNN.out; omega
      have hiC : i < C'.length := by have := HL.lk; have := HNN.out; omega
      obtain ⟨b, o, rfl, hbl, hAt⟩ := (hA1.nod wr HT).out (by intro e; rw [e] at hiU; simp at hiU)
      obtain ⟨ka, kc, c0, c1, c2, c3, c4, c5, c6, c7, c8, c9, hK⟩ := (hAt i hiU).out
      obtain ⟨nd, hnd⟩ : ∃ nd, nd = U[i] := ⟨_, rfl⟩
      rw [← hnd] at c0 c1 c2 c3 c4 c5 c6 c7 c8 c9 hK
      have HND : Hid (nd = U[i]) := hnd
      clear hnd hAt
      obtain ⟨sn, hs⟩ : ∃ s, s = bs nd.name := ⟨_, rfl⟩
      have HSN : Hid (sn = bs nd.name) := hs
      rw [← hs] at c8
      clear hs
      obtain ⟨kl, hkl⟩ : ∃ kl, kl = nd.kids.length := ⟨_, rfl⟩
      rw [← hkl] at c9
      have HKL : Hid (kl = nd.kids.length) := hkl
      have hkc : kl ≤ kc := by have := hK.le; omega
      have hkx := hK.mx
      clear hkl
      have hck : (C[i]'(by rw [HS.len]; exact hiC)).l.length = (C'[i]).l.length := (HS.out i _ hiC).2.2
      have hkq := HK.out i hiU (by rw [HS.len]; exact hiC)
      rw [← HND.out, ← HKL.out, hck] at hkq
      obtain ⟨hkq1, hkq2⟩ := hkq
      clear hck
      go_wp2_with fail
      obtain ⟨w2, hw2⟩ : ∃ w2, w2 = wr.alloc (.cells #[.int .i64 nd.kind, .int .i64 nd.at_, .int .i64 nd.wh, .int .i64 nd.close, .int .i64 nd.decl, .int .i64 nd.typ, .int .i64 nd.op, .int .i64 nd.val, .string sn, .slice ka kl kc] 39) := ⟨_, rfl⟩
      have hob : w2.heap[wr.heap.size]? = some (.cells #[.int .i64 nd.kind, .int .i64 nd.at_, .int .i64 nd.wh, .int .i64 nd.close, .int .i64 nd.decl, .int .i64 nd.typ, .int .i64 nd.op, .int .i64 nd.val, .string sn, .slice ka kl kc] 39 (0, 0)) := by rw [hw2]; exact heap_alloc_last _ _
      have HL2 : Lnt w2 s M' C' FC := by rw [hw2]; exact HL.keep ((Below.refl _ _).alloc (Nat.le_refl _) _)
      have hrE : s.E ≤ wr.heap.size := HL.top.2.2.2.1
      have hrB : s.B ≤ wr.heap.size := by have := HL.bot; have := HL.top.2.2.1; omega
      have HT2 : Tch s.B s.E w1 w2 := by rw [hw2]; exact HT.below ((Below.refl _ _).alloc (Nat.le_refl _) _) hrB
      have hK2 : ∀ wx, Tch s.B s.E w2 wx → Ints wx ka kc nd.kids := fun wx hx => by
        rw [HND.out]
        exact ((hA1.move HT).kids (((Tch.refl _ _ _).below ((Below.refl _ _).alloc (Nat.le_refl _) _) hrB).trans (hw2 ▸ hx)) hiU rfl c9).2
      rw [← hw2]
      obtain ⟨g, hg⟩ : ∃ g, g = (C'[i]).g := ⟨_, rfl⟩
      obtain ⟨c, hc⟩ : ∃ c, c = (C'[i]).c := ⟨_, rfl⟩
      obtain ⟨L, hLL⟩ : ∃ L, L = (C'[i]).l.length := ⟨_, rfl⟩
      rw [← hLL] at hkq1
      have HJ0 : FJ C' i 0 g c L nd := ⟨hiC, hg.symm, hc.symm, hLL.symm, by simp⟩
      have hisn : i < s.n := by have := HNN.out; omega
      clear hw2 hg hc hLL hiC f0 f1 c0 c1 c2 c3 c4 c5 c6 c7 c8 c9 hboxr hK hbl H1 
      generalize hobE : wr.heap.size = ob at *
      have HOE : Hid (w1.heap.size ≤ ob) := by show _ ≤ _; rw [← hobE]; exact HT.bel.size
      clear hobE
      go_loopw [6] (fun jv wx => ∃ (j : Nat) (C2 : List Kd), j ≤ kl ∧ jv = .int .i64 j ∧ Lnt wx s M' C2 FC ∧ Shp C C2 ∧ FI M' C2 U i ∧ FJ C2 i j g c L nd ∧ Tch s.B s.E w2 wx) (fun jv _ => kl - (intOf jv).toNat)
      case atStart => exact ⟨0, C', by omega, rfl, HL2, HS, HFI, HJ0, Tch.refl _ _ _⟩
      case round =>
        obtain ⟨j, C2, hj, rfl, HLx, HSx, HFx, HJ, HTx⟩ := hrel
        have hobx := HTx.box hrE hob
        have n9 : wr.cell? ⟨ob, 9, none⟩ = some (.slice ka kl kc) := cell_arr hobx rfl
        obtain ⟨kg, kgc, ekv, q1, q2, q3, q4, q5, q8, q9⟩ := HJ.row HLx
        have x4 := HLx.cells.2.2.2.2
        rw [ekv] at x4
        clear HJ0 HL2
        by_cases hjk : j < kl
        · obtain ⟨y, q6, q7⟩ := HJ.cell HLx j (by omega)
          have hjn : j < nd.kids.length := by have := HKL.out; omega
          obtain ⟨kb, ko, rfl, hKA⟩ := (hK2 wr HTx).out (by intro e; rw [e] at hjn; simp at hjn)
          have kj := hKA.cell j hjn
          obtain ⟨x, hx⟩ : ∃ x, x = nd.kids[j] := ⟨_, rfl⟩
          rw [← hx] at kj
          have HX : Hid (x = nd.kids[j]) := hx
          have hjL : j < L := by omega
          clear hx hKA
          go_wp2_with fail
          go_region
          go_wp2_with fail
          obtain ⟨C3, HL3, HS3, HF3, HJ3⟩ := HJ.put HLx hjn hjL HX.out HSx HFx
          go_roundw
          case rel => exact ⟨j + 1, C3, by omega, by go_num, HL3.drew, HS3, HF3, HJ3, (HTx.setCell q8 q9 _).drew⟩
          case measure => simp [intOf]; omega
        · have hjl : kl = j := by omega
          subst hjl
          have hf9 : wr.frozen? ⟨ob, 9, none⟩ = false := fz_of hobx
          have hklc : kl ≤ c := by omega
          go_wp2_with fail
          go_region
          obtain ⟨w3, hw3⟩ : ∃ w3, w3 = (wr.setCell ⟨ob, 9, none⟩ (.slice (some ⟨g, 0, none⟩) kl c)).drew := ⟨_, rfl⟩
          have hob3 : w3.heap[ob]? = some (.cells #[.int .i64 nd.kind, .int .i64 nd.at_, .int .i64 nd.wh, .int .i64 nd.close, .int .i64 nd.decl, .int .i64 nd.typ, .int .i64 nd.op, .int .i64 nd.val, .string sn, .slice (some ⟨g, 0, none⟩) kl c] 39 (0, 0)) := by rw [hw3]; exact heap_set_at hobx
          have HL3 : Lnt w3 s M' C2 FC := by rw [hw3]; exact (HLx.setFar hrE _).drew
          have HT3 : Tch s.B s.E w1 w3 := by rw [hw3]; exact ((HT2.trans HTx).setNew HOE.out hrB _).drew
          rw [← hw3]
          clear hw3 n9 q3 x4 hf9
          have x2 := HL3.cells.2.2.1
          have hiM : i < M'.length := by have := HL3.ln; omega
          have hi2 : i < s.n + 2 := by omega
          have hnb := HL3.nb_in
          have hnx2 : s.n + 2 ≤ s.nc ∧ s.nc ≤ 9223372036854775807 := by
            obtain ⟨_, _, e, a1, a2, _, _⟩ := own_blkOf HL3.rn (by omega)
            cases e
            exact ⟨a1, a2⟩
          obtain ⟨hnx3, hnx4⟩ := hnx2
          obtain ⟨v0, n0⟩ : ∃ v, w3.cell? ⟨s.nb, i * 10, none⟩ = some v := HL3.nodeSome i hiM 0 (by omega)
          have z0 : w3.frozen? ⟨s.nb, i * 10, none⟩ = false := row_fz HL3.rn _
          have o0 : w3.cell? ⟨ob, 0, none⟩ = some (.int .i64 nd.kind) := cell_arr hob3 rfl
          obtain ⟨v1, n1⟩ : ∃ v, w3.cell? ⟨s.nb, i * 10 + 1, none⟩ = some v := HL3.nodeSome i hiM 1 (by omega)
          have z1 : w3.frozen? ⟨s.nb, i * 10 + 1, none⟩ = false := row_fz HL3.rn _
          have o1 : w3.cell? ⟨ob, 1, none⟩ = some (.int .i64 nd.at_) := cell_arr hob3 rfl
          obtain ⟨v2, n2⟩ : ∃ v, w3.cell? ⟨s.nb, i * 10 + 2, none⟩ = some v := HL3.nodeSome i hiM 2 (by omega)
          have z2 : w3.frozen? ⟨s.nb, i * 10 + 2, none⟩ = false := row_fz HL3.rn _
          have o2 : w3.cell? ⟨ob, 2, none⟩ = some (.int .i64 nd.wh) := cell_arr hob3 rfl
          obtain ⟨v3, n3⟩ : ∃ v, w3.cell? ⟨s.nb, i * 10 + 3, none⟩ = some v := HL3.nodeSome i hiM 3 (by omega)
          have z3 : w3.frozen? ⟨s.nb, i * 10 + 3, none⟩ = false := row_fz HL3.rn _
          have o3 : w3.cell? ⟨ob, 3, none⟩ = some (.int .i64 nd.close) := cell_arr hob3 rfl
          obtain ⟨v4, n4⟩ : ∃ v, w3.cell? ⟨s.nb, i * 10 + 4, none⟩ = some v := HL3.nodeSome i hiM 4 (by omega)
          have z4 : w3.frozen? ⟨s.nb, i * 10 + 4, none⟩ = false := row_fz HL3.rn _
          have o4 : w3.cell? ⟨ob, 4, none⟩ = some (.int .i64 nd.decl) := cell_arr hob3 rfl
          obtain ⟨v5, n5⟩ : ∃ v, w3.cell? ⟨s.nb, i * 10 + 5, none⟩ = some v := HL3.nodeSome i hiM 5 (by omega)
          have z5 : w3.frozen? ⟨s.nb, i * 10 + 5, none⟩ = false := row_fz HL3.rn _
          have o5 : w3.cell? ⟨ob, 5, none⟩ = some (.int .i64 nd.typ) := cell_arr hob3 rfl
          obtain ⟨v6, n6⟩ : ∃ v, w3.cell? ⟨s.nb, i * 10 + 6, none⟩ = some v := HL3.nodeSome i hiM 6 (by omega)
          have z6 : w3.frozen? ⟨s.nb, i * 10 + 6, none⟩ = false := row_fz HL3.rn _
          have o6 : w3.cell? ⟨ob, 6, none⟩ = some (.int .i64 nd.op) := cell_arr hob3 rfl
          obtain ⟨v7, n7⟩ : ∃ v, w3.cell? ⟨s.nb, i * 10 + 7, none⟩ = some v := HL3.nodeSome i hiM 7 (by omega)
          have z7 : w3.frozen? ⟨s.nb, i * 10 + 7, none⟩ = false := row_fz HL3.rn _
          have o7 : w3.cell? ⟨ob, 7, none⟩ = some (.int .i64 nd.val) := cell_arr hob3 rfl
          obtain ⟨v8, n8⟩ : ∃ v, w3.cell? ⟨s.nb, i * 10 + 8, none⟩ = some v := HL3.nodeSome i hiM 8 (by omega)
          have z8 : w3.frozen? ⟨s.nb, i * 10 + 8, none⟩ = false := row_fz HL3.rn _
          have o8 : w3.cell? ⟨ob, 8, none⟩ = some (.string sn) := cell_arr hob3 rfl
          obtain ⟨v9, n9⟩ : ∃ v, w3.cell? ⟨s.nb, i * 10 + 9, none⟩ = some v := HL3.nodeSome i hiM 9 (by omega)
          have z9 : w3.frozen? ⟨s.nb, i * 10 + 9, none⟩ = false := row_fz HL3.rn _
          have o9 : w3.cell? ⟨ob, 9, none⟩ = some (.slice (some ⟨g, 0, none⟩) kl c) := cell_arr hob3 rfl
          go_wp2_with fail
          go_region
          obtain ⟨w4, hw4⟩ : ∃ w4, w4 = (put10 w3 s.nb i nd.kind nd.at_ nd.wh nd.close nd.decl nd.typ nd.op nd.val sn (.slice (some ⟨g, 0, none⟩) kl c)).drew := ⟨_, rfl⟩
          have HL4 : Lnt w4 s (M'.set i (nd, .slice (some ⟨g, 0, none⟩) kl c)) C2 FC := by
            rw [hw4]
            exact (HL3.putNode1 i _ (own_put10 HL3.rn i hiM nd sn HSN.out _) (fun g hg => put10_other hg) put10_size).drew
          have HT4 : Tch s.B s.E w1 w4 := by rw [hw4]; exact (HT3.put10 hnb.1 hnb.2 _ _ _ _ _ _ _ _ _ _).drew
          unfold put10 at hw4
          rw [← hw4]
          clear hw4
          have HF4 : FI (M'.set i (nd, .slice (some ⟨g, 0, none⟩) kl c)) C2 U (i + 1) := by
            obtain ⟨hi2, a1, a2, a3, a4⟩ := HJ.out
            have := HFx.next hiU hi2 (.slice (some ⟨g, 0, none⟩) kl c) (by rw [← HND.out, ← HKL.out, a1, a2]) (by rw [← HND.out, ← HKL.out]; omega) (by rw [← HND.out, ← HKL.out, a4, HKL.out, List.take_length])
            rw [← HND.out] at this
            exact this
          go_wp2_with fail
          go_roundw
          case rel => exact ⟨i + 1, _, C2, by omega, by go_num, HL4, HSx, HF4, HT4⟩
          case measure => simp [intOf]; omega
    · have hin : nn = i := by omega
      subst hin
      clear hlt hi
      go_wp2_with fail
      clear f0 f1 hboxr
      go_loopw [7] (fun jv wx => ∃ (j : Nat) (FC2 : List Int), j ≤ fn ∧ jv = .int .i64 j ∧ Lnt wx s M' C' FC2 ∧ FJF FC2 F j ∧ Tch s.B s.E w1 wx) (fun jv _ => fn - (intOf jv).toNat)
      case atStart => exact ⟨0, FC, by omega, rfl, HL, ⟨by simp⟩, HT⟩
      case round =>
        clear HT HL H1
        obtain ⟨j, FC2, hj, rfl, HL, HJ, HT⟩ := hrel
        have hboxr := HT.box HB1.out.2.2.1 HB1.out.2.1
        have f1 : wr.cell? ⟨w.heap.size, 1, none⟩ = some (.slice fo fn fc) := cell_arr hboxr rfl
        have x3 := HL.cells.2.2.2.1
        have hfb := HL.fb_in
        by_cases hjf : j < fn
        · have hjF : j < F.length := by have := HNN.out; omega
          have hj5 : j < s.fn + 5 := by have := HNN.out; omega
          have hjC : j < FC2.length := by have := HL.lf; omega
          obtain ⟨fb, fo', rfl, hFA⟩ := (hA1.fun_ wr HT).out (by intro e; rw [e] at hjF; simp at hjF)
          have fj := hFA.cell j hjF
          obtain ⟨x, hx⟩ : ∃ x, x = F[j] := ⟨_, rfl⟩
          rw [← hx] at fj
          have HX : Hid (x = F[j]) := hx
          have tj := HL.fun_.cellAt j hjC
          have tz : wr.frozen? ⟨s.fb, j, none⟩ = false := row_fz HL.fun_.out j
          obtain ⟨_, _, ev, a1, a2, _, _⟩ := HL.fun_.view
          cases ev
          clear hx hFA
          go_wp2_with fail
          go_region
          go_wp2_with fail
          go_roundw
          case rel => exact ⟨j + 1, _, by omega, by go_num, (HL.putFun j x).drew, ⟨by rw [HX.out]; exact take_set_succ HJ.out hjC hjF⟩, (HT.setCell hfb.1 hfb.2 _).drew⟩
          case measure => simp [intOf]; omega
        · have hjl : fn = j := by omega
          subst hjl
          go_wp2_with fail
          exact bodyPost_end (v := .tuple #[]) (by simp [results, Tryz.results18, go_sem]) rfl ⟨rfl, ⟨M', C', FC2, HL, HS, by have := HNN.out; rw [this.2.2.1]; exact HFI, by have := HNN.out; rw [this.2.2.2, HJ.out, this.2.1, List.take_length]⟩, HB1.out.1.trans HT⟩
end Go.Proofs.YtchobeakieljpaaGreatDoor
namespace Go.Proofs.YtchobeakieljpaaGreatDoor
open Go.ChangeShapes Go.WideShapes Go.ChangeAt Go.RowKit

/-- What kept leaves. -/
structure KeptR (w w' : World) (s : Sh) (C : List Kd) (FC : List Int) : Prop where
  out : ∃ M' C', Lnt w' s M' C' FC ∧ Shp C C'
  tch : Tch s.B s.E w w'
theorem FJ.put0 {w s M C FC i g c L nd} (h : FJ C i 0 g c L nd) (H : Lnt w s M C FC) (j : Nat) (x : Int) {C0} (hS : Shp C0 C) :
    ∃ C', Lnt (w.setCell ⟨g, j, none⟩ (.int .i64 x)) s M C' FC ∧ Shp C0 C' ∧ FJ C' i 0 g c L nd := by
  obtain ⟨hi, h1, h2, h3, h4⟩ := h.out
  refine ⟨C.set i { C[i] with l := (C[i]).l.set j x }, by have := H.putKid i hi j x; rw [h1] at this; exact this, hS.set i hi j x, ⟨by simpa using hi, ?_⟩⟩
  simp only [List.getElem_set_self, List.length_set]
  exact ⟨h1, h2, h3, by simp⟩
theorem FJ.of {C : List Kd} {i : Nat} (h : i < C.length) (nd : Nd) : FJ C i 0 (C[i]).g (C[i]).c (C[i]).l.length nd := ⟨h, rfl, rfl, rfl, by simp⟩
set_option maxRecDepth 10000 in
set_option maxHeartbeats 8000000 in
theorem kept_any (w : World) (s : Sh) (M : List (Nd × Value)) (C : List Kd) (FC : List Int) (H : Lnt w s M C FC) (no : Option Addr) (nc nn : Nat) (fo : Option Addr) (fc fn : Nat) (T : Tr) (hN : Nodes w no nc T.nodes) (hF : Ints w fo fc T.funcs) (hT : LT M C FC T) (hnn : nn = T.nodes.length) (hfn : fn = T.funcs.length) (hsn : s.n = nn) (hsf : s.fn = fn) (hm : nn ≤ 1000000000) (hfm : fn ≤ 1000000000)
    (hk : ∀ n ∈ T.nodes, n.kids.length ≤ 1000000000) :
    Calls Tryz.prog 16 #[.pointer (some ⟨s.xb, 0, none⟩), .agg #[.slice no nn nc, .slice fo fn fc]] w fun e w' => e = .returned (.bool true) ∧ KeptR w w' s C FC := by
  have HNN : Hid (nn = T.nodes.length ∧ fn = T.funcs.length ∧ s.n = nn ∧ s.fn = fn) := ⟨hnn, hfn, hsn, hsf⟩
  have HK : Hid _ := hk
  have hnc : nn ≤ nc := by have := hN.le; omega
  have hnx := hN.mx
  have hfc : fn ≤ fc := by have := hF.le; omega
  have hfx := hF.mx
  have hEw : s.E ≤ w.heap.size := H.top.2.2.2.1
  have hBw : s.B ≤ w.heap.size := by have := H.bot; have := H.top.2.2.1; omega
  have hn2 : nn < s.n + 2 := by omega
  have hn3 : nn + 1 < s.n + 2 := by omega
  have hnM : nn < M.length := by have := H.ln; omega
  have hnM1 : nn + 1 < M.length := by have := H.ln; omega
  have hm1 := hT.m1
  have hm2 := hT.m2
  rw [← hnn] at hm1 hm2
  rw [List.getElem?_eq_getElem hnM] at hm1
  rw [List.getElem?_eq_getElem hnM1] at hm2
  have k1 : w.cell? ⟨s.nb, nn * 10, none⟩ = some (.int .i64 (-71)) := by
    refine (row_cell H.rn H.ln nn hnM 0 (by omega)).trans ?_
    simp only [Option.map_some, Option.some.injEq] at hm1
    rw [← hm1]
    rfl
  have k2 : w.cell? ⟨s.nb, (nn + 1) * 10, none⟩ = some (.int .i64 (-72)) := by
    refine (row_cell H.rn H.ln (nn + 1) hnM1 0 (by omega)).trans ?_
    simp only [Option.map_some, Option.some.injEq] at hm2
    rw [← hm2]
    rfl
  have hx1 : s.n + 2 ≤ s.nc ∧ s.nc ≤ 9223372036854775807 := by
    obtain ⟨_, _, e, a1, a2, _, _⟩ := own_blkOf H.rn (by omega)
    cases e
    exact ⟨a1, a2⟩
  obtain ⟨hx1, hx2⟩ := hx1
  have hx3 : s.fn + 5 ≤ s.fc ∧ s.fc ≤ 9223372036854775807 := by
    obtain ⟨_, _, e, a1, a2, _, _⟩ := H.fun_.view
    cases e
    exact ⟨a1, a2⟩
  obtain ⟨hx3, hx4⟩ := hx3
  have hnbw : s.nb < w.heap.size := (own_block H.rn rfl).2
  have hxbw : s.xb < w.heap.size := by have := H.top; omega
  clear hnn hfn hsn hsf hk hm1 hm2
  go_enter Tryz.func16, Tryz.ntmps16
  go_wp2_with fail
  obtain ⟨w1, hw1⟩ : ∃ w1, w1 = w.alloc (.cells #[.slice no nn nc, .slice fo fn fc] 27) := ⟨_, rfl⟩
  have hb1 : Below w.heap.size w w1 := by rw [hw1]; exact (Below.refl _ _).alloc (Nat.le_refl _) _
  have ht1 : Tch s.B s.E w w1 := by rw [hw1]; exact (Tch.refl _ _ _).below ((Below.refl _ _).alloc (Nat.le_refl _) _) hBw
  have hbox : w1.heap[w.heap.size]? = some (.cells #[.slice no nn nc, .slice fo fn fc] 27 (0, 0)) := by rw [hw1]; exact heap_alloc_last _ _
  have H1 : Lnt w1 s M C FC := by rw [hw1]; exact H.keep ((Below.refl _ _).alloc (Nat.le_refl _) _)
  have hs1 : w.heap.size < w1.heap.size := (Array.getElem?_eq_some_iff.1 hbox).1
  rw [← hw1]
  have HT1 : Hid (Tch s.B s.E w w1) := ht1
  have e0 : w1.cell? ⟨w.heap.size, 0, none⟩ = some (.slice no nn nc) := cell_arr hbox rfl
  have e1 : w1.cell? ⟨w.heap.size, 1, none⟩ = some (.slice fo fn fc) := cell_arr hbox rfl
  have k1' := cell_below hb1 hnbw k1
  have k2' := cell_below hb1 hnbw k2
  have x2 := H1.cells.2.2.1
  have x3 := H1.cells.2.2.2.1
  have MARK : ∀ q, Calls Tryz.prog 35 #[.slice (some ⟨s.fb, 0, none⟩) (s.fn + 5) s.fc, .slice fo fn fc] (w1.drewN q) fun e w' => e = .returned (.bool true) ∧ ∃ m, w' = (w1.drewN q).drewN m := fun q => by
    have hH := H1.drewN q
    refine marked_any (w1.drewN q) _ _ _ _ fn (s.fn + 5) T.funcs HNN.out.2.1 (by have := HNN.out; omega) ?_ (hF.below (Below.drewN' hb1 q) (Nat.le_refl _)) hfm
    rw [← hT.fc]
    obtain ⟨_, _, e, _, _, hI, _⟩ := hH.fun_.view
    cases e
    exact hI
  clear hw1 ht1 k1 k2 H
  go_quiet (first | (go_at_call 35; exact Calls.quiet_of (MARK _)))
  go_wp2_with fail
  clear k1' k2' x2 x3 MARK
  have hb2 : Below w1.heap.size w1 (w1.drewN nq) := Below.drewN' (Below.refl _ _) nq
  generalize w1.drewN nq = w2 at *
  go_loopw [6, 7] (fun okv iv wr => ∃ i : Nat, i ≤ nn ∧ iv = .int .i64 i ∧ okv = .bool true ∧ Below w1.heap.size w1 wr) (fun _ iv _ => nn - (intOf iv).toNat)
  case atStart => exact ⟨0, by omega, rfl, rfl, hb2⟩
  case round =>
    clear hb2
    obtain ⟨i, hi, rfl, rfl, hbr⟩ := hrel
    have HLr := H1.keep hbr
    have hsr := hbr.size
    have f0 : wr.cell? ⟨w.heap.size, 0, none⟩ = some (.slice no nn nc) := cell_below hbr hs1 e0
    have x2 := HLr.cells.2.2.1
    have x4 := HLr.cells.2.2.2.2
    by_cases hlt : i < nn
    · have hiT : i < T.nodes.length := by have := HNN.out; omega
      have hiM : i < M.length := by have := HLr.ln; have := HNN.out; omega
      have hiC : i < C.length := by have := HLr.lk; have := HNN.out; omega
      have hisn : i < s.n := by have := HNN.out; omega
      have hisn2 : i < s.n + 2 := by omega
      have hbW : Below w.heap.size w wr := hb1.trans (hbr.mono (by omega))
      obtain ⟨b, o, rfl, hbl, hAt⟩ := (hN.below hbW (Nat.le_refl _)).out (by intro e; rw [e] at hiT; simp at hiT)
      obtain ⟨ka, kc, c0, c1, c2, c3, c4, c5, c6, c7, c8, c9, hK⟩ := (hAt i hiT).out
      obtain ⟨a1, a2, a3, a4⟩ := hT.fi.out i hiT hiM hiC hiT
      have a5 := hT.kl i hiT hiC
      have hkb := HK.out _ (List.getElem_mem hiT)
      obtain ⟨nd, hnd⟩ : ∃ nd, nd = T.nodes[i] := ⟨_, rfl⟩
      rw [← hnd] at c0 c1 c2 c3 c4 c5 c6 c7 c8 c9 hK a1 a2 a5 hkb
      have hC := FJ.of hiC nd
      obtain ⟨g, hg⟩ : ∃ g, g = (C[i]).g := ⟨_, rfl⟩
      obtain ⟨c, hc⟩ : ∃ c, c = (C[i]).c := ⟨_, rfl⟩
      obtain ⟨kl, hkl⟩ : ∃ kl, kl = nd.kids.length := ⟨_, rfl⟩
      obtain ⟨sn, hs⟩ : ∃ s, s = bs nd.name := ⟨_, rfl⟩
      have hL5 : (C[i]).l.length = kl + 5 := by rw [a5, hkl]; simp [MK]
      rw [← hg, ← hc, hL5] at hC
      rw [← hkl] at c9 hkb
      rw [← hs] at c8
      rw [← hg, ← hc, ← hkl] at a2
      have HMC : ∀ k, k < 10 → wr.cell? ⟨s.nb, i * 10 + k, none⟩ = [Value.int .i64 nd.kind, Value.int .i64 nd.at_, Value.int .i64 nd.wh, Value.int .i64 nd.close, Value.int .i64 nd.decl, Value.int .i64 nd.typ, Value.int .i64 nd.op, Value.int .i64 nd.val, Value.string sn, .slice (some ⟨g, 0, none⟩) kl c][k]? := fun k hk => by
        rw [row_cell HLr.rn HLr.ln i hiM k hk, a1, a2, hs]
        rfl
      have m0 : wr.cell? ⟨s.nb, i * 10, none⟩ = some (.int .i64 nd.kind) := HMC 0 (by omega)
      have m1 : wr.cell? ⟨s.nb, i * 10 + 1, none⟩ = some (.int .i64 nd.at_) := HMC 1 (by omega)
      have m2 : wr.cell? ⟨s.nb, i * 10 + 2, none⟩ = some (.int .i64 nd.wh) := HMC 2 (by omega)
      have m3 : wr.cell? ⟨s.nb, i * 10 + 3, none⟩ = some (.int .i64 nd.close) := HMC 3 (by omega)
      have m4 : wr.cell? ⟨s.nb, i * 10 + 4, none⟩ = some (.int .i64 nd.decl) := HMC 4 (by omega)
      have m5 : wr.cell? ⟨s.nb, i * 10 + 5, none⟩ = some (.int .i64 nd.typ) := HMC 5 (by omega)
      have m6 : wr.cell? ⟨s.nb, i * 10 + 6, none⟩ = some (.int .i64 nd.op) := HMC 6 (by omega)
      have m7 : wr.cell? ⟨s.nb, i * 10 + 7, none⟩ = some (.int .i64 nd.val) := HMC 7 (by omega)
      have m8 : wr.cell? ⟨s.nb, i * 10 + 8, none⟩ = some (.string sn) := HMC 8 (by omega)
      have m9 : wr.cell? ⟨s.nb, i * 10 + 9, none⟩ = some (.slice (some ⟨g, 0, none⟩) kl c) := HMC 9 (by omega)
      obtain ⟨kg, kgc, ekv, q1, q2, q3, q4, q5, q8, q9⟩ := hC.row HLr
      rw [ekv] at x4
      have HSN : Hid (sn = sn) := rfl
      have hkc : kl ≤ kc := by have := hK.le; omega
      have hkx := hK.mx
      have hkgl : kg < wr.heap.size := by
        have h1 := HLr.top.2.2.2.2.1 kg (by rw [ekv]; rfl)
        have h2 := HLr.top.2.2.2.1
        omega
      have MARK : ∀ wx, Below wr.heap.size wr wx → Calls Tryz.prog 35 #[.slice (some ⟨g, 0, none⟩) (kl + 5) c, .slice ka kl kc] wx fun e w' => e = .returned (.bool true) ∧ ∃ m, w' = wx.drewN m := fun wx hx => by
        refine marked_any wx _ _ _ _ kl (kl + 5) nd.kids hkl rfl ?_ (hK.below hx (Nat.le_refl _)) hkb
        have h1 := (HLr.keep hx).kid C[i] (List.getElem_mem hiC)
        obtain ⟨_, _, e, _, _, hI, _⟩ := h1.view
        simp only [Kd.v] at e
        rw [← hg, ← hc] at e
        cases e
        rw [← a5]
        exact hI
      clear hnd hg hc hkl hs hL5 a1 a2 a3 a4 a5 hAt hK HMC
      have hq1 : s.xb < wr.drew.heap.size := by simp; omega
      have hq2 : w.heap.size < wr.drew.heap.size := by simp; omega
      have hq3 : s.nb < wr.drew.heap.size := by simp; omega
      have hq4 : b < wr.drew.heap.size := by simp; omega
      have hq5 : kg < wr.drew.heap.size := by simp; omega
      go_wp2_with fail
      go_region_held (fun w' => w'.cell? ⟨s.xb, 2, none⟩ = some (.slice (some ⟨s.nb, 0, none⟩) (s.n + 2) s.nc) ∧ w'.cell? ⟨w.heap.size, 0, none⟩ = some (.slice (some ⟨b, o, none⟩) nn nc) ∧ w'.cell? ⟨s.nb, i * 10, none⟩ = some (.int .i64 nd.kind) ∧ w'.cell? ⟨b, o + i * 10, none⟩ = some (.int .i64 nd.kind) ∧ w'.cell? ⟨s.nb, i * 10 + 1, none⟩ = some (.int .i64 nd.at_) ∧ w'.cell? ⟨b, o + i * 10 + 1, none⟩ = some (.int .i64 nd.at_) ∧ w'.cell? ⟨s.nb, i * 10 + 2, none⟩ = some (.int .i64 nd.wh) ∧ w'.cell? ⟨b, o + i * 10 + 2, none⟩ = some (.int .i64 nd.wh) ∧ w'.cell? ⟨s.nb, i * 10 + 3, none⟩ = some (.int .i64 nd.close) ∧ w'.cell? ⟨b, o + i * 10 + 3, none⟩ = some (.int .i64 nd.close) ∧ w'.cell? ⟨s.nb, i * 10 + 4, none⟩ = some (.int .i64 nd.decl) ∧ w'.cell? ⟨b, o + i * 10 + 4, none⟩ = some (.int .i64 nd.decl) ∧ w'.cell? ⟨s.nb, i * 10 + 5, none⟩ = some (.int .i64 nd.typ) ∧ w'.cell? ⟨b, o + i * 10 + 5, none⟩ = some (.int .i64 nd.typ) ∧ w'.cell? ⟨s.nb, i * 10 + 6, none⟩ = some (.int .i64 nd.op) ∧ w'.cell? ⟨b, o + i * 10 + 6, none⟩ = some (.int .i64 nd.op) ∧ w'.cell? ⟨s.nb, i * 10 + 7, none⟩ = some (.int .i64 nd.val) ∧ w'.cell? ⟨b, o + i * 10 + 7, none⟩ = some (.int .i64 nd.val) ∧ w'.cell? ⟨s.nb, i * 10 + 8, none⟩ = some (.string sn) ∧ w'.cell? ⟨b, o + i * 10 + 8, none⟩ = some (.string sn) ∧ w'.cell? ⟨s.nb, i * 10 + 9, none⟩ = some (.slice (some ⟨g, 0, none⟩) kl c) ∧ w'.cell? ⟨b, o + i * 10 + 9, none⟩ = some (.slice ka kl kc))
       (refine ⟨?_, ?_, ?_, ?_, ?_, ?_, ?_, ?_, ?_, ?_, ?_, ?_, ?_, ?_, ?_, ?_, ?_, ?_, ?_, ?_, ?_, ?_⟩ <;> first | with_reducible exact cellD x2 | with_reducible exact cellD f0 | with_reducible exact cellD m0 | with_reducible exact cellD c0 | with_reducible exact cellD m1 | with_reducible exact cellD c1 | with_reducible exact cellD m2 | with_reducible exact cellD c2 | with_reducible exact cellD m3 | with_reducible exact cellD c3 | with_reducible exact cellD m4 | with_reducible exact cellD c4 | with_reducible exact cellD m5 | with_reducible exact cellD c5 | with_reducible exact cellD m6 | with_reducible exact cellD c6 | with_reducible exact cellD m7 | with_reducible exact cellD c7 | with_reducible exact cellD m8 | with_reducible exact cellD c8 | with_reducible exact cellD m9 | with_reducible exact cellD c9 | with_reducible exact cell_below hb2 hq1 (cellD x2) | with_reducible exact cell_below hb2 hq2 (cellD f0) | with_reducible exact cell_below hb2 hq3 (cellD m0) | with_reducible exact cell_below hb2 hq4 (cellD c0) | with_reducible exact cell_below hb2 hq3 (cellD m1) | with_reducible exact cell_below hb2 hq4 (cellD c1) | with_reducible exact cell_below hb2 hq3 (cellD m2) | with_reducible exact cell_below hb2 hq4 (cellD c2) | with_reducible exact cell_below hb2 hq3 (cellD m3) | with_reducible exact cell_below hb2 hq4 (cellD c3) | with_reducible exact cell_below hb2 hq3 (cellD m4) | with_reducible exact cell_below hb2 hq4 (cellD c4) | with_reducible exact cell_below hb2 hq3 (cellD m5) | with_reducible exact cell_below hb2 hq4 (cellD c5) | with_reducible exact cell_below hb2 hq3 (cellD m6) | with_reducible exact cell_below hb2 hq4 (cellD c6) | with_reducible exact cell_below hb2 hq3 (cellD m7) | with_reducible exact cell_below hb2 hq4 (cellD c7) | with_reducible exact cell_below hb2 hq3 (cellD m8) | with_reducible exact cell_below hb2 hq4 (cellD c8) | with_reducible exact cell_below hb2 hq3 (cellD m9) | with_reducible exact cell_below hb2 hq4 (cellD c9))
       (first | (go_at_call 36; refine (lnode_any _ nd sn sn rfl (some ⟨g, 0, none⟩) ka kl kl c kc).mono ?_; rintro e w3 ⟨rfl, hb2⟩))
      have hb3 : Below wr.heap.size wr w3 := (Below.refl _ _).drew.trans (hb2.mono (by simp))
      have y0 : w3.cell? ⟨w.heap.size, 0, none⟩ = some (.slice (some ⟨b, o, none⟩) nn nc) := cell_below hb3 (by omega) f0
      have y4 : w3.cell? ⟨s.xb, 4, none⟩ = some (.slice (some ⟨kg, 0, none⟩) s.n kgc) := cell_below hb3 (by omega) x4
      have y5 : w3.cell? ⟨kg, i, none⟩ = some (.slice (some ⟨g, 0, none⟩) (kl + 5) c) := cell_below hb3 hkgl q3
      have y9 : w3.cell? ⟨b, o + i * 10 + 9, none⟩ = some (.slice ka kl kc) := cell_below hb3 hbl c9
      have MARK2 : ∀ q, Calls Tryz.prog 35 #[.slice (some ⟨g, 0, none⟩) (kl + 5) c, .slice ka kl kc] (w3.drewN q) fun e w' => e = .returned (.bool true) ∧ ∃ m, w' = (w3.drewN q).drewN m := fun q => MARK _ (Below.drewN' hb3 q)
      clear MARK f0 x2 x4 q3 hb2 hq1 hq2 hq3 hq4 hq5 m0 c0 m1 c1 m2 c2 m3 c3 m4 c4 m5 c5 m6 c6 m7 c7 m8 c8 m9 c9
      go_wp2_with fail
      go_quiet (first | (go_at_call 35; exact Calls.quiet_of (MARK2 _)))
      go_wp2_with fail
      go_roundw
      case rel => exact ⟨i + 1, by omega, by go_num, rfl, Below.drewN' (hbr.trans (hb3.mono hsr)) _⟩
      case measure => simp [intOf]; omega
    · have hin : nn = i := by omega
      subst hin
      have HTr : Tch s.B s.E w1 wr := (Tch.refl _ _ _).below hbr (by omega)
      have HSN : Hid (s.n = nn) := HNN.out.2.2.1
      have hsn1 : s.n ≤ 1000000000 := by have := HSN.out; omega
      clear hlt hi
      go_wp2_with fail
      clear f0 x2 x4 hbr hsr
      go_loopw [9] (fun iv wx => ∃ (i : Nat) (C' : List Kd), i ≤ s.n ∧ iv = .int .i64 i ∧ Lnt wx s M C' FC ∧ Shp C C' ∧ Tch s.B s.E w1 wx) (fun iv _ => s.n - (intOf iv).toNat)
      case atStart => exact ⟨0, C, by omega, rfl, HLr, Shp.refl _, HTr⟩
      case round =>
        clear HLr HTr
        obtain ⟨i, C', hi, rfl, HL, HS, HT⟩ := hrel
        by_cases hlt : i < s.n
        · have hiC : i < C'.length := by have := HL.lk; omega
          have HJ0 := FJ.of hiC ⟨0, 0, 0, 0, 0, 0, 0, 0, [], []⟩
          generalize (C'[i]).g = g at *
          generalize (C'[i]).c = c at *
          obtain ⟨L, hLL⟩ : ∃ L, L = (C'[i]).l.length := ⟨_, rfl⟩
          rw [← hLL] at HJ0
          clear hLL
          obtain ⟨kg, kgc, ekv, q1, q2, q3, q4, q5, q8, q9⟩ := HJ0.row HL
          have x4 := HL.cells.2.2.2.2
          rw [ekv] at x4
          go_wp2_with fail
          clear x4 q3
          go_loopw [10] (fun jv wx => ∃ (j : Nat) (C2 : List Kd), j ≤ L ∧ jv = .int .i64 j ∧ Lnt wx s M C2 FC ∧ Shp C C2 ∧ FJ C2 i 0 g c L ⟨0, 0, 0, 0, 0, 0, 0, 0, [], []⟩ ∧ Tch s.B s.E w1 wx) (fun jv _ => L - (intOf jv).toNat)
          case atStart => exact ⟨0, C', by omega, rfl, HL, HS, HJ0, HT⟩
          case round =>
            clear HJ0 HL HS HT
            obtain ⟨j, C2, hj, rfl, HL, HS, HJ, HT⟩ := hrel
            obtain ⟨kg', kgc', ekv', _, _, q3, _, _, _, _⟩ := HJ.row HL
            rw [ekv] at ekv'
            cases ekv'
            have x4 := HL.cells.2.2.2.2
            rw [ekv] at x4
            by_cases hjL : j < L
            · obtain ⟨y, q6, q7⟩ := HJ.cell HL j hjL
              obtain ⟨C3, HL3, HS3, HJ3⟩ := HJ.put0 HL j 99 HS
              go_wp2_with fail
              go_roundw
              case rel => exact ⟨j + 1, C3, by omega, by go_num, HL3, HS3, HJ3, HT.setCell q8 q9 _⟩
              case measure => simp [intOf]; omega
            · have hjl : L = j := by omega
              subst hjl
              go_wp2_with fail
              go_roundw
              case rel => exact ⟨i + 1, C2, by omega, by go_num, HL, HS, HT⟩
              case measure => simp [intOf]; omega
        · obtain ⟨ka0, kc0, ekv⟩ := own_slice HL.rk
          have x4 := HL.cells.2.2.2.2
          rw [ekv] at x4
          have his : s.n = i := by omega
          rw [← his]
          have HIS : Hid (s.n = i) := his
          clear his hlt hi
          go_wp2_with fail
          clear x4
          go_loopw [11] (fun iv wx => ∃ (i : Nat) (M2 : List (Nd × Value)), i ≤ s.n + 2 ∧ iv = .int .i64 i ∧ Lnt wx s M2 C' FC ∧ Tch s.B s.E w1 wx) (fun iv _ => s.n + 2 - (intOf iv).toNat)
          case atStart => exact ⟨0, M, by omega, rfl, HL, HT⟩
          case round =>
            clear HL HT
            obtain ⟨m, M2, hm2, rfl, HL, HT⟩ := hrel
            have x2 := HL.cells.2.2.1
            have hnb := HL.nb_in
            have hsz : s.B ≤ wr.heap.size := by have := HL.bot; have := HL.top.2.2.1; have := HL.top.2.2.2.1; omega
            by_cases hlt : m < s.n + 2
            · have hmM : m < M2.length := by have := HL.ln; omega
              go_wp2_with (refine wpList_store_node rfl _ _ rfl s.B s.nb s.nc (s.n + 2) M2 HL.rn HL.ln m hmM ⟨20, 0, 0, 0, 0, 0, 0, 5, [], []⟩ ⟨#[]⟩ rfl none 0 0 ?_ ?_ ?_; (next => rfl); (next => rfl); intro w8 R8 hG8 hz8)
              have HL8 := HL.putNode m _ R8 hG8 hz8
              have HT8 := HT.grown hG8 hnb.1 hnb.2 hsz
              clear hz8
              go_roundw
              case rel => exact ⟨m + 1, _, by omega, by go_num, HL8, HT8⟩
              case measure => simp [intOf]; omega
            · have hjl : m = s.n + 2 := by omega
              subst hjl
              go_wp2_with fail
              go_ret
              exact ⟨rfl, ⟨M2, C', HL, HS⟩, HT1.out.trans HT⟩
end Go.Proofs.YtchobeakieljpaaGreatDoor
namespace Go.Proofs.YtchobeakieljpaaGreatDoor
open Go.ChangeShapes Go.WideShapes Go.ChangeAt Go.RowKit

/-- append(nodes, n) in a statement that draws its order. -/
theorem step_append_nodeG {w : World} {ops : Array Oper} {op : Oper} {a : Act} {K : Act → World → Prop} {Q : Exit → Act → World → Prop} {E : Prop} (hgd : op.guard = none) (s x : Operand)
    (ho : op.op = .call { callee := .builtin .append, args := #[s, x], argTypes := #[24, 24] })
    (B : Nat) (v : Value) (n : Nat) (P : List (Nd × Value)) (nd : Nd) (ka : Option Addr) (kl kc : Nat) (hs : a.eval s = v) (hown : w.ownsRow B 39 10 v n (ncs P)) (g : Nat) (hx : a.eval x = .slice (some ⟨g, 0, none⟩) 1 1) (hc : ∀ k u, (nc nd (.slice ka kl kc))[k]? = some u → w.cell? ⟨g, k, none⟩ = some u)
    (hl : n + 1 ≤ 1000000000) (hB : B ≤ w.heap.size)
    (h : ∀ v' w', w'.ownsRow B 39 10 v' (n + 1) (ncs (P ++ [(nd, .slice ka kl kc)])) → GI B w w' v v' → K (a.put op.dst v') w') : if Region.wanted op (yielded ops a.tmps) = true then Oper.wp Tryz.prog op a w K Q else E := by
  have hw : Region.wanted op (yielded ops a.tmps) = true := by simp [Region.wanted, hgd]
  rw [if_pos hw]
  obtain ⟨i0, hi, hz0, hz1, hz2⟩ := info_parts infoN
  obtain ⟨v', w', hr, h2, h3, h4⟩ := run_append_where (P := Tryz.prog) (w := w) B 24 op.type 39 i0 _ 10 104 Tryz.underlying24 hi hz0 hz1 hz2 rfl (by decide) v n (ncs P) hown ⟨g, 0, none⟩ 1 1 (by omega) (nc nd (.slice ka kl kc)) rfl (fun j u hj => by
    have e : (⟨g, 0, none⟩ : Addr).add j = ⟨g, j, none⟩ := by unfold Addr.add; split <;> simp_all
    rw [e]
    exact hc j u hj) (nc_one nd ka kl kc) (by unfold maxLen; omega) (by omega) hB
  unfold Oper.wp execOp
  simp only [ho, resolve, invoke, builtin, Sem.run_bind, Sem.run_pure, Result.andThen_ok, List.map_toArray, List.map_cons, List.map_nil, hs, hx, hr]
  refine h v' w' (by rw [ncs_app]; simpa [ncs] using h2) ⟨?_, fun b h5 h6 => grown_at h3 h5 h6, fun b hb => ?_⟩
  · exact (Below.refl _ _).grown h3 hB (fun k hk => (own_block hown hk).1)
  · cases h4 with
    | room g' cap e1 e2 => subst e1 e2; exact .inl hb
    | new e1 _ => rw [e1] at hb; cases hb; right; exact Nat.le_refl _
/-- The first i nodes, as lend writes them. -/
structure LP (M : List (Nd × Value)) (C : List Kd) (N : List Nd) (i : Nat) : Prop where
  out : ∀ q (h : q < N.length) (hm : q < M.length) (hc : q < C.length), q < i → (M[q]).1 = N[q] ∧ (M[q]).2 = .slice (some ⟨(C[q]).g, 0, none⟩) (N[q]).kids.length (C[q]).c ∧ (C[q]).l = (N[q]).kids ++ MK
theorem LP.next {M C N i} (h : LP M C N i) (hM : M.length = i) (hC : C.length = i) (hi : i < N.length) (k : Kd) (v : Value) (hv : v = .slice (some ⟨k.g, 0, none⟩) (N[i]).kids.length k.c) (hl : k.l = (N[i]).kids ++ MK) : LP (M ++ [(N[i], v)]) (C ++ [k]) N (i + 1) := ⟨fun q h1 h2 h3 h4 => by
  by_cases e : q = i
  · subst e
    rw [List.getElem_append_right (by omega), List.getElem_append_right (by omega)]
    simp [hM, hC]
    exact ⟨hv, hl⟩
  · rw [List.getElem_append_left (by omega), List.getElem_append_left (by omega)]
    exact h.out q h1 (by omega) (by omega) (by omega)⟩
theorem LP.lt {M C N n1 n2 FC F} (h : LP M C N N.length) (hM : M.length = N.length) (hC : C.length = N.length) (h1 : n1.1.kind = -71) (h2 : n2.1.kind = -72) (hF : FC = F ++ MK) : LT (M ++ [n1, n2]) C FC ⟨N, F⟩ := by
  refine ⟨⟨fun q a b c d => ?_⟩, fun q a b => (h.out q a (by omega) b a).2.2, ?_, ?_, hF⟩
  · have a' : q < N.length := a
    rw [List.getElem_append_left (by omega)]
    obtain ⟨e1, e2, e3⟩ := h.out q a' (by omega) c a'
    exact ⟨e1, e2, by rw [e3]; simp, by rw [e3]; simp⟩
  · show ((M ++ [n1, n2])[N.length]?).map _ = _
    rw [List.getElem?_append_right (by omega)]
    simp [hM, h1]
  · show ((M ++ [n1, n2])[N.length + 1]?).map _ = _
    rw [List.getElem?_append_right (by omega)]
    simp [hM, h2]
/-- A cell of a node that is no part of the rows is written. -/
theorem LI.setOb {w wr h tc M C m c nv kv} (H : LI w wr h tc M C m c nv kv) {ob j : Nat} {oc : Array Value} (hob : wr.heap[ob]? = some (.cells oc 39 (0, 0))) (hh : h + 1 < ob) (hn : ∀ g, nv.ownBlock = some g → g ≠ ob) (u : Value) : LI w (wr.setCell ⟨ob, j, none⟩ u) h tc M C m c nv kv :=
  ⟨H.lm, H.lc, own_move H.rn fun g hg => heap_set_other (hn g hg), own_move H.rk fun g hg => heap_set_other (fun e => own_not H.rk hob (by decide) (by rw [← e]; exact hg)), fun k hk => ⟨rfl, own_move (H.kid k hk).out fun g hg => heap_set_other (fun e => own_not (H.kid k hk).out hob (by decide) (by rw [← e]; exact hg))⟩, H.apt, (heap_set_other (by omega)).trans H.box, (heap_set_other (by omega)).trans H.var, H.bel.setCell (p := ⟨ob, j, none⟩) (by show h ≤ ob; omega) u⟩
/-- What lend leaves. -/
theorem LI.fin {w w5 w6 h tc M C n nb nc kv fb fc fn FC} (H : LI w w5 h tc M C (n + 2) n (.slice (some ⟨nb, 0, none⟩) (n + 2) nc) kv) (hF : OwnI w5 (h + 1) (.slice (some ⟨fb, 0, none⟩) (fn + 5) fc) (fn + 5) FC) (hfap : ∀ k ∈ C, k.g ≠ fb) (hw : ∀ g, g ≠ h + 1 → w6.heap[g]? = w5.heap[g]?)
    (hbox : w6.heap[h + 1]? = some (.cells #[.slice (some ⟨nb, 0, none⟩) n nc, .slice (some ⟨fb, 0, none⟩) fn fc, .slice (some ⟨nb, 0, none⟩) (n + 2) nc, .slice (some ⟨fb, 0, none⟩) (fn + 5) fc, kv] 48 (0, 0))) (hs : w6.heap.size = w5.heap.size) : Lnt w6 ⟨h + 1, w6.heap.size, h + 1, nb, nc, fb, fc, n, fn, kv⟩ M C FC := by
  have mv : ∀ {B e z n xs} {v : Value}, e ≠ 48 → w5.ownsRow B e z v n xs → w6.ownsRow B e z v n xs := fun he ho => own_move ho fun g hg => hw g (fun e => own_not ho H.var he (by rw [← e]; exact hg))
  refine ⟨H.lm, H.lc, hF.len, mv (by decide) H.rn, mv (by decide) H.rk, fun k hk => ⟨rfl, mv (by decide) (H.kid k hk).out⟩, H.apt, ⟨hF.len, mv (by decide) hF.out⟩, hfap, hbox, Nat.le_refl _, ?_⟩
  have hv : h + 1 < w5.heap.size := (Array.getElem?_eq_some_iff.1 H.var).1
  refine ⟨?_, ?_, by show h + 1 < w6.heap.size; omega, Nat.le_refl _, fun g hg => ?_, fun k hk => ?_⟩
  · show nb < w6.heap.size
    have := (own_block H.rn (g := nb) rfl).2
    omega
  · show fb < w6.heap.size
    have := (own_block hF.out (g := fb) rfl).2
    omega
  · show g < w6.heap.size
    have := (own_block H.rk hg).2
    omega
  · show k.g < w6.heap.size
    have := (own_block (H.kid k hk).out k.own).2
    omega
structure LendR (w w' : World) (T : Tr) (e : Ending) : Prop where
  out : ∃ (s : Sh) (M : List (Nd × Value)) (C : List Kd) (FC : List Int), e = .returned (.pointer (some ⟨s.xb, 0, none⟩)) ∧ s.B = w.heap.size + 1 ∧ s.E = w'.heap.size ∧ s.n = T.nodes.length ∧ s.fn = T.funcs.length ∧ Lnt w' s M C FC ∧ LT M C FC T
  bel : Below w.heap.size w w'
set_option maxRecDepth 10000 in
set_option maxHeartbeats 8000000 in
theorem lend_any (w : World) (no : Option Addr) (nc nn : Nat) (fo : Option Addr) (fc fn : Nat) (T : Tr) (hnn : nn = T.nodes.length) (hfn : fn = T.funcs.length) (hN : Nodes w no nc T.nodes) (hF : Ints w fo fc T.funcs) (hKN : KNil w no T.nodes) (hfz : fo = none → fc = 0) (hm : nn ≤ 120000) (hfm : fn ≤ 120000) (hkl : ∀ n ∈ T.nodes, n.kids.length ≤ 120000) :
    Calls Tryz.prog 14 #[.agg #[.slice no nn nc, .slice fo fn fc]] w fun e w' => LendR w w' T e := by
  have HH : Hid (nn = T.nodes.length ∧ fn = T.funcs.length) := ⟨hnn, hfn⟩
  have HKL : Hid _ := hkl
  have hl : nn ≤ nc := by have := hN.le; omega
  have hnx := hN.mx
  clear hnn hfn hkl
  go_enter Tryz.func14, Tryz.ntmps14
  go_wp2_with fail
  obtain ⟨h, hh⟩ : ∃ h, h = w.heap.size := ⟨_, rfl⟩
  rw [← hh]
  have HHH : Hid (h = w.heap.size) := hh
  go_loopw [4] (fun c wr => ∃ (i : Nat) (nv kv : Value) (M : List (Nd × Value)) (C : List Kd), i ≤ nn ∧ c = .int .i64 i ∧ LI w wr h #[.slice no nn nc, .slice fo fn fc] M C i i nv kv ∧ LP M C T.nodes i) (fun c _ => nn - (intOf c).toNat)
  case atStart =>
    have al : ∀ (X : World) (ob : Obj) (k : Nat), k = X.heap.size → (X.alloc ob).heap[k]? = some ob := fun X ob k e => by rw [e]; exact heap_alloc_last X ob
    have ol : ∀ (X : World) (ob : Obj) (k : Nat) (c : Obj), X.heap[k]? = some c → (X.alloc ob).heap[k]? = some c := fun X ob k c e => by rw [heap_alloc_old X ob (Array.getElem?_eq_some_iff.1 e).1]; exact e
    exact ⟨0, .slice none 0 0, .slice none 0 0, [], [], by omega, rfl, ⟨rfl, rfl, World.ownsRow_nil _ _ _ _, World.ownsRow_nil _ _ _ _, by simp, .nil, ol _ _ _ _ (al _ _ _ hh), al _ _ _ (by rw [hh]; simp), by rw [hh]; exact ((Below.refl _ _).alloc (Nat.le_refl _) _).alloc (by simp) _⟩, ⟨fun q _ _ _ h => by omega⟩⟩
  case round =>
    obtain ⟨i, nv, kv, M, C, hi, rfl, HI, HP⟩ := hrel
    have hbs := HI.bel.size
    have hvl : h + 1 < wr.heap.size := (Array.getElem?_eq_some_iff.1 HI.var).1
    obtain ⟨va, vc, rfl⟩ := own_slice HI.rn
    obtain ⟨ua, uc, rfl⟩ := own_slice HI.rk
    have x0 : wr.cell? ⟨h, 0, none⟩ = some (.slice no nn nc) := cell_arr HI.box rfl
    have x1 : wr.cell? ⟨h, 1, none⟩ = some (.slice fo fn fc) := cell_arr HI.box rfl
    have y2 : wr.cell? ⟨h + 1, 2, none⟩ = some (.slice va i vc) := cell_arr HI.var rfl
    have y3 : wr.cell? ⟨h + 1, 3, none⟩ = some (.slice none 0 0) := cell_arr HI.var rfl
    have y4 : wr.cell? ⟨h + 1, 4, none⟩ = some (.slice ua i uc) := cell_arr HI.var rfl
    have hbw : Below w.heap.size w wr := by rw [← HHH.out]; exact HI.bel
    by_cases hlt : i < nn
    · have hiT : i < T.nodes.length := by have := HH.out; omega
      obtain ⟨b, o, rfl, hbl, hAt⟩ := (hN.below hbw (Nat.le_refl _)).out (by intro e; rw [e] at hiT; simp at hiT)
      obtain ⟨ka, kc, c0, c1, c2, c3, c4, c5, c6, c7, c8, c9, hK⟩ := (hAt i hiT).out
      have hknil : ka = none → kc = 0 := by
        intro e
        subst e
        refine hKN.out i hiT b o kc rfl ?_
        have hb0 : b < w.heap.size := by
          obtain ⟨b', o', e', hl', _⟩ := hN.out (by intro e; rw [e] at hiT; simp at hiT)
          cases e'
          exact hl'
        have := hbw.cell (p := ⟨b, o + i * 10 + 9, none⟩) hb0
        rw [← this]; exact c9
      obtain ⟨nd, hnd⟩ : ∃ nd, nd = T.nodes[i] := ⟨_, rfl⟩
      rw [← hnd] at c0 c1 c2 c3 c4 c5 c6 c7 c8 c9 hK
      have hkl2 : nd.kids.length ≤ 120000 := by rw [hnd]; exact HKL.out _ (List.getElem_mem _)
      have HND : Hid (nd = T.nodes[i]) := hnd
      obtain ⟨kl, hkl⟩ : ∃ kl, kl = nd.kids.length := ⟨_, rfl⟩
      rw [← hkl] at c9 hkl2
      obtain ⟨sn, hsn⟩ : ∃ sn, sn = bs nd.name := ⟨_, rfl⟩
      rw [← hsn] at c8
      have HKN : Hid (kl = nd.kids.length ∧ sn = bs nd.name) := ⟨hkl, hsn⟩
      have hlb0 : b < wr.heap.size + 1 := by omega
      have hkc : kl ≤ kc := by have := hK.le; omega
      clear hnd hAt hkl hsn hh
      obtain ⟨ob, hobE⟩ : ∃ ob, ob = wr.heap.size := ⟨_, rfl⟩
      have hCL : ∀ q ∈ C, q.g < ob := fun q hq => by rw [hobE]; exact (own_block (HI.kid q hq).out q.own).2
      have hNL : ∀ g, (Value.slice va i vc).ownBlock = some g → g < ob := fun g hg => by rw [hobE]; exact (own_block HI.rn hg).2
      have HOE : Hid (ob = wr.heap.size) := hobE
      clear hobE
      go_wp2_with (first
        | (go_at_call 31; refine (numbers_any _ ka kc kl nd.kids HKN.out.1 (hK.below ((Below.refl _ _).alloc (Nat.le_refl _) _) (Nat.le_refl _)) hknil (by omega)).mono ?_; rintro e w3 ⟨⟨g, cp, rfl, HO⟩, hb3⟩
           have hob3 : w3.heap[wr.heap.size]? = some (.cells #[.int .i64 nd.kind, .int .i64 nd.at_, .int .i64 nd.wh, .int .i64 nd.close, .int .i64 nd.decl, .int .i64 nd.typ, .int .i64 nd.op, .int .i64 nd.val, .string sn, .slice ka kl kc] 39 (0, 0)) := (hb3.block _ (by simp)).trans (heap_alloc_last wr _)
           have hbr3 : Below wr.heap.size wr w3 := ((Below.refl _ _).alloc (Nat.le_refl _) _).trans (hb3.mono (by simp))
           have HI3 := HI.keep hbr3
           have hs3 := hb3.size
           simp at hs3
           have hgl : ob + 1 ≤ g ∧ g < w3.heap.size := (by have := own_block HO.out (g := g) rfl; simp at this; have := HOE.out; omega)
           have z4 : w3.cell? ⟨h + 1, 4, none⟩ = some (.slice ua i uc) := cell_arr HI3.var rfl
           have z9 : w3.cell? ⟨wr.heap.size, 9, none⟩ = some (.slice ka kl kc) := cell_arr hob3 rfl
           have hcp : kl + 5 ≤ cp ∧ cp ≤ 9223372036854775807 := (by obtain ⟨_, _, e, a1, a2, _, _⟩ := HO.view; cases e; exact ⟨a1, a2⟩)
           obtain ⟨hcp1, hcp2⟩ := hcp
           have hcp3 : kl ≤ cp := (by omega)
           have HKO : OwnI w3 (h + 1) (Kd.v ⟨g, cp, nd.kids ++ MK⟩) (nd.kids ++ MK).length (nd.kids ++ MK) := (by
             have e : (nd.kids ++ MK).length = kl + 5 := (by have := HKN.out.1; simp [MK]; omega)
             refine ⟨rfl, ?_⟩
             show w3.ownsRow (h + 1) _ 1 (.slice (some ⟨g, 0, none⟩) (nd.kids ++ MK).length cp) (nd.kids ++ MK).length _
             rw [e]
             exact own_base HO.out (by simp; omega))
           have HY : Hid (Value.slice (some ⟨g, 0, none⟩) (kl + 5) cp = Kd.v ⟨g, cp, nd.kids ++ MK⟩) := (by
             have e : (nd.kids ++ MK).length = kl + 5 := (by have := HKN.out.1; simp [MK]; omega)
             show _ = Value.slice (some ⟨g, 0, none⟩) (nd.kids ++ MK).length cp
             rw [e])
           clear hb3)
        | (at_builtin; refine wpList_append_kv rfl _ _ rfl (h + 1) _ i w3.heap.size C ⟨g, cp, nd.kids ++ MK⟩ _ HY.out ?_ HI3.rk ?_ rfl (by omega) (by omega) ?_; (next => rfl); (next => rfl); intro v4 w4 h4 hG4
           obtain ⟨hvar4, HI4⟩ := HI3.addKid ⟨g, cp, nd.kids ++ MK⟩ HKO (fun q hq e => by have := hCL q hq; simp at e; omega) h4 hG4
           have hob4 : w4.heap[wr.heap.size]? = some (.cells #[.int .i64 nd.kind, .int .i64 nd.at_, .int .i64 nd.wh, .int .i64 nd.close, .int .i64 nd.decl, .int .i64 nd.typ, .int .i64 nd.op, .int .i64 nd.val, .string sn, .slice ka kl kc] 39 (0, 0)) := (hG4.blk _ (by omega) (own_not HI3.rk hob3 (by decide))).trans hob3
           obtain ⟨v4a, v4c, rfl⟩ := own_slice h4
           have u4 : w4.cell? ⟨h + 1, 4, none⟩ = some (.slice ua i uc) := cell_arr hvar4 rfl
           have uf : w4.frozen? ⟨h + 1, 4, none⟩ = false := fz_of hvar4
           have u9 : w4.cell? ⟨wr.heap.size, 9, none⟩ = some (.slice ka kl kc) := cell_arr hob4 rfl
           have uf9 : w4.frozen? ⟨wr.heap.size, 9, none⟩ = false := fz_of hob4
           have hne1 : ¬ wr.heap.size = h + 1 := (by omega)
           have hne2 : ¬ h + 1 = wr.heap.size := (by omega)))
      obtain ⟨w6, hw6⟩ : ∃ w6, w6 = (w4.setCell ⟨h + 1, 4, none⟩ (.slice v4a (i + 1) v4c)).setCell ⟨wr.heap.size, 9, none⟩ (.slice (some ⟨g, 0, none⟩) kl cp) := ⟨_, rfl⟩
      have hob5 : (w4.setCell ⟨h + 1, 4, none⟩ (.slice v4a (i + 1) v4c)).heap[wr.heap.size]? = some (.cells #[.int .i64 nd.kind, .int .i64 nd.at_, .int .i64 nd.wh, .int .i64 nd.close, .int .i64 nd.decl, .int .i64 nd.typ, .int .i64 nd.op, .int .i64 nd.val, .string sn, .slice ka kl kc] 39 (0, 0)) := (heap_set_other hne1).trans hob4
      have hob6 : w6.heap[wr.heap.size]? = some (.cells #[.int .i64 nd.kind, .int .i64 nd.at_, .int .i64 nd.wh, .int .i64 nd.close, .int .i64 nd.decl, .int .i64 nd.typ, .int .i64 nd.op, .int .i64 nd.val, .string sn, .slice (some ⟨g, 0, none⟩) kl cp] 39 (0, 0)) := by rw [hw6]; exact heap_set_at hob5
      have HI6 : LI w w6 h #[.slice (some ⟨b, o, none⟩) nn nc, .slice fo fn fc] M (C ++ [⟨g, cp, nd.kids ++ MK⟩]) i (i + 1) (.slice va i vc) (.slice v4a (i + 1) v4c) := by rw [hw6]; exact HI4.setOb hob5 (by omega) (fun g hg e => by have := hNL g hg; have := HOE.out; omega) _
      rw [← hw6]
      rw [← HOE.out] at hob6 ⊢
      clear hw6 hob5 HI4 hob4 hob3 HI3 HKO HI hbr3 u4 uf u9 uf9 z4 z9 hvar4 hG4 h4 x0 x1 y2 y3 y4 c0 c1 c2 c3 c4 c5 c6 c7 c8 c9 hne1 hne2
      have y2 : w6.cell? ⟨h + 1, 2, none⟩ = some (.slice va i vc) := cell_arr HI6.var rfl
      have hs6 : h + 1 < w6.heap.size := (Array.getElem?_eq_some_iff.1 HI6.var).1
      have hs7 : ob < w6.heap.size := (Array.getElem?_eq_some_iff.1 hob6).1
      have o0 : w6.cell? ⟨ob, 0, none⟩ = some (.int .i64 nd.kind) := cell_arr hob6 rfl
      have o1 : w6.cell? ⟨ob, 1, none⟩ = some (.int .i64 nd.at_) := cell_arr hob6 rfl
      have o2 : w6.cell? ⟨ob, 2, none⟩ = some (.int .i64 nd.wh) := cell_arr hob6 rfl
      have o3 : w6.cell? ⟨ob, 3, none⟩ = some (.int .i64 nd.close) := cell_arr hob6 rfl
      have o4 : w6.cell? ⟨ob, 4, none⟩ = some (.int .i64 nd.decl) := cell_arr hob6 rfl
      have o5 : w6.cell? ⟨ob, 5, none⟩ = some (.int .i64 nd.typ) := cell_arr hob6 rfl
      have o6 : w6.cell? ⟨ob, 6, none⟩ = some (.int .i64 nd.op) := cell_arr hob6 rfl
      have o7 : w6.cell? ⟨ob, 7, none⟩ = some (.int .i64 nd.val) := cell_arr hob6 rfl
      have o8 : w6.cell? ⟨ob, 8, none⟩ = some (.string sn) := cell_arr hob6 rfl
      have o9 : w6.cell? ⟨ob, 9, none⟩ = some (.slice (some ⟨g, 0, none⟩) kl cp) := cell_arr hob6 rfl
      have HCL : ∀ k u, (Go.Proofs.YtchobeakieljpaaGreatDoor.nc nd (.slice (some ⟨g, 0, none⟩) kl cp))[k]? = some u → ((w6.alloc (.cells #[.int .i64 nd.kind, .int .i64 nd.at_, .int .i64 nd.wh, .int .i64 nd.close, .int .i64 nd.decl, .int .i64 nd.typ, .int .i64 nd.op, .int .i64 nd.val, .string sn, .slice (some ⟨g, 0, none⟩) kl cp] 39)).drew).cell? ⟨w6.heap.size, k, none⟩ = some u := fun k u hk => by
        have hh : ((w6.alloc (.cells #[.int .i64 nd.kind, .int .i64 nd.at_, .int .i64 nd.wh, .int .i64 nd.close, .int .i64 nd.decl, .int .i64 nd.typ, .int .i64 nd.op, .int .i64 nd.val, .string sn, .slice (some ⟨g, 0, none⟩) kl cp] 39)).drew).heap[w6.heap.size]? = some (.cells #[.int .i64 nd.kind, .int .i64 nd.at_, .int .i64 nd.wh, .int .i64 nd.close, .int .i64 nd.decl, .int .i64 nd.typ, .int .i64 nd.op, .int .i64 nd.val, .string sn, .slice (some ⟨g, 0, none⟩) kl cp] 39 (0, 0)) := heap_alloc_last _ _
        refine cell_arr hh ?_
        rw [HKN.out.2]
        simpa [Go.Proofs.YtchobeakieljpaaGreatDoor.nc] using hk
      go_region_law
       (refine step_append_nodeG rfl _ _ rfl (h + 1) _ i M nd (some ⟨g, 0, none⟩) kl cp (by simp [Act.eval]) (own_keep HI6.rn (((Below.refl _ _).alloc (Nat.le_refl _) _).drew).block) w6.heap.size (by simp [Act.eval]) HCL (by omega) (by simp; omega) ?_; intro v7 w7 h7 hG7
        obtain ⟨hvar7, HI7⟩ := HI6.addNode (m' := i + 1) (M' := M ++ [(nd, .slice (some ⟨g, 0, none⟩) kl cp)]) (by have := HI6.lm; simp; omega) h7 (hG7.pre (((Below.refl _ _).alloc (Nat.le_refl _) _).drew) (by omega))
        obtain ⟨v7a, v7c, rfl⟩ := own_slice h7
        have t2 : w7.cell? ⟨h + 1, 2, none⟩ = some (.slice va i vc) := cell_arr hvar7 rfl
        have tf : w7.frozen? ⟨h + 1, 2, none⟩ = false := fz_of hvar7)
      all_goals
        have HP7 : LP (M ++ [(nd, .slice (some ⟨g, 0, none⟩) kl cp)]) (C ++ [⟨g, cp, nd.kids ++ MK⟩]) T.nodes (i + 1) := by
          have hl1 : M.length = i := HI6.lm.symm
          have hl2 : C.length = i := by have := HI6.lc; simp at this; omega
          have := HP.next hl1 hl2 hiT ⟨g, cp, nd.kids ++ MK⟩ (.slice (some ⟨g, 0, none⟩) kl cp) (by rw [← HND.out, ← HKN.out.1]) (by rw [← HND.out])
          rw [← HND.out] at this
          exact this
        go_wp2_with fail
        go_roundw
        case rel => exact ⟨i + 1, _, _, _, _, by omega, by go_num, HI7, HP7⟩
        case measure => simp [intOf]; omega
    · have hin : nn = i := by omega
      subst hin
      have hlen : M.length = T.nodes.length ∧ C.length = T.nodes.length := ⟨by have := HI.lm; have := HH.out; omega, by have := HI.lc; have := HH.out; omega⟩
      have HLL : Hid (M.length = T.nodes.length ∧ C.length = T.nodes.length) := hlen
      have hne1 : ¬ h = h + 1 := by omega
      have hne2 : ¬ h + 1 = h := by omega
      clear hlen hlt hi hh
      go_wp2_with (first
        | (at_builtin; refine wpList_append_node2 rfl _ _ rfl (h + 1) _ nn wr.heap.size M ⟨-71, 0, 0, 0, 0, 0, 0, 0, [], []⟩ ⟨-72, 0, 0, 0, 0, 0, 0, 0, [], []⟩ ?_ HI.rn ?_ rfl rfl (by omega) (by omega) ?_; (next => rfl); (next => rfl); intro v3 w3 h3 hG3
           obtain ⟨hvar3, HI3⟩ := HI.addNode (m' := nn + 2) (by have := HI.lm; simp; omega) h3 hG3
           obtain ⟨nb, nc3, e3, hq1, hq2, _, _⟩ := own_blkOf h3 (by omega)
           subst e3
           have t2 : w3.cell? ⟨h + 1, 2, none⟩ = some (.slice va nn vc) := cell_arr hvar3 rfl
           have tf : w3.frozen? ⟨h + 1, 2, none⟩ = false := fz_of hvar3
           have hbx3 : w3.heap[h]? = some (.cells #[.slice no nn nc, .slice fo fn fc] 27 (0, 0)) := (hG3.blk h (by omega) (own_not HI.rn HI.box (by decide))).trans HI.box
           have t0 : w3.cell? ⟨h, 0, none⟩ = some (.slice no nn nc) := cell_arr hbx3 rfl
           have t1 : w3.cell? ⟨h, 1, none⟩ = some (.slice fo fn fc) := cell_arr hbx3 rfl)
        | (go_at_call 31; refine (numbers_any _ fo fc fn T.funcs HH.out.2 (hF.below (HHH.out ▸ HI3.bel) (Nat.le_refl _)) hfz (by omega)).mono ?_; rintro e w4 ⟨⟨fb, fcp, rfl, HFO⟩, hb4⟩
           have HI4 := HI3.keep hb4
           have s3 : w4.cell? ⟨h + 1, 3, none⟩ = some (.slice none 0 0) := cell_arr HI4.var rfl
           have sf : w4.frozen? ⟨h + 1, 3, none⟩ = false := fz_of HI4.var))
      have HFO1 : OwnI w4 (h + 1) (.slice (some ⟨fb, 0, none⟩) (fn + 5) fcp) (fn + 5) (T.funcs ++ MK) := ⟨HFO.len, own_base HFO.out (by have := (Array.getElem?_eq_some_iff.1 HI3.var).1; omega)⟩
      have HFAP : Hid (∀ k ∈ C, k.g ≠ fb) := fun k hk e => by
        have h1 := (own_block (HI3.kid k hk).out k.own).2
        have h2 := (own_block HFO.out (g := fb) rfl).1
        omega
      have hfq : fn + 5 ≤ fcp ∧ fcp ≤ 9223372036854775807 := by
        obtain ⟨_, _, e, a1, a2, _, _⟩ := HFO1.view
        cases e
        exact ⟨a1, a2⟩
      obtain ⟨hfq1, hfq2⟩ := hfq
      have hfq3 : fn ≤ fcp := by omega
      have hq3 : nn ≤ nc3 := by omega
      obtain ⟨w5, hw5⟩ : ∃ w5, w5 = w4.setCell ⟨h + 1, 3, none⟩ (.slice (some ⟨fb, 0, none⟩) (fn + 5) fcp) := ⟨_, rfl⟩
      have hvar5 : w5.heap[h + 1]? = some (.cells #[.slice none 0 0, .slice none 0 0, .slice (some ⟨nb, 0, none⟩) (nn + 2) nc3, .slice (some ⟨fb, 0, none⟩) (fn + 5) fcp, .slice ua nn uc] 48 (0, 0)) := by rw [hw5]; exact heap_set_at HI4.var
      have hoth5 : ∀ g, g ≠ h + 1 → w5.heap[g]? = w4.heap[g]? := fun g hg => by rw [hw5]; exact heap_set_other hg
      have hsz5 : w5.heap.size = w4.heap.size := by rw [hw5]; simp [World.setCell]
      have hbl5 : Below h w w5 := by rw [hw5]; exact HI4.bel.setCell (p := ⟨h + 1, 3, none⟩) (by show h ≤ h + 1; omega) _
      have hbx5 := (hoth5 h (by omega)).trans HI4.box
      rw [← hw5]
      have HSZ : Hid (w5.heap.size = w4.heap.size) := hsz5
      have HOT : Hid (∀ g, g ≠ h + 1 → w5.heap[g]? = w4.heap[g]?) := hoth5
      clear hw5 hsz5 hoth5 t0 t1 t2 tf s3 sf x0 x1 y2 y3 y4 hbx3
      have p0 : w5.cell? ⟨h, 0, none⟩ = some (.slice no nn nc) := cell_arr hbx5 rfl
      have p1 : w5.cell? ⟨h, 1, none⟩ = some (.slice fo fn fc) := cell_arr hbx5 rfl
      have a0 : w5.cell? ⟨h + 1, 0, none⟩ = some (.slice none 0 0) := cell_arr hvar5 rfl
      have a1 : w5.cell? ⟨h + 1, 1, none⟩ = some (.slice none 0 0) := cell_arr hvar5 rfl
      have a2 : w5.cell? ⟨h + 1, 2, none⟩ = some (.slice (some ⟨nb, 0, none⟩) (nn + 2) nc3) := cell_arr hvar5 rfl
      have a3 : w5.cell? ⟨h + 1, 3, none⟩ = some (.slice (some ⟨fb, 0, none⟩) (fn + 5) fcp) := cell_arr hvar5 rfl
      have z0 : w5.frozen? ⟨h + 1, 0, none⟩ = false := fz_of hvar5
      have z1 : w5.frozen? ⟨h + 1, 1, none⟩ = false := fz_of hvar5
      go_region
      obtain ⟨w6, hw6⟩ : ∃ w6, w6 = ((w5.setCell ⟨h + 1, 0, none⟩ (.slice (some ⟨nb, 0, none⟩) nn nc3)).setCell ⟨h + 1, 1, none⟩ (.slice (some ⟨fb, 0, none⟩) fn fcp)).drew := ⟨_, rfl⟩
      rw [← hw6]
      go_wp2_with fail
      go_ret
      have hvar6 : w6.heap[h + 1]? = some (.cells #[.slice (some ⟨nb, 0, none⟩) nn nc3, .slice (some ⟨fb, 0, none⟩) fn fcp, .slice (some ⟨nb, 0, none⟩) (nn + 2) nc3, .slice (some ⟨fb, 0, none⟩) (fn + 5) fcp, .slice ua nn uc] 48 (0, 0)) := by
        rw [hw6]
        exact heap_set_at (heap_set_at hvar5)
      have hsz6 : w6.heap.size = w4.heap.size := by rw [hw6, ← HSZ.out]; simp [World.setCell]
      have hoth6 : ∀ g, g ≠ h + 1 → w6.heap[g]? = w4.heap[g]? := fun g hg => by
        rw [hw6, drew_heap, heap_set_other hg, heap_set_other hg]
        exact HOT.out g hg
      have hbl6 : Below h w w6 := by rw [hw6]; exact ((hbl5.setCell (p := ⟨h + 1, 0, none⟩) (by show h ≤ h + 1; omega) _).setCell (p := ⟨h + 1, 1, none⟩) (by show h ≤ h + 1; omega) _).drew
      have HPL : LP M C T.nodes T.nodes.length := by rw [← HH.out.1]; exact HP
      exact ⟨⟨⟨h + 1, w6.heap.size, h + 1, nb, nc3, fb, fcp, nn, fn, .slice ua nn uc⟩, _, _, _, rfl, by rw [← HHH.out], rfl, HH.out.1, HH.out.2, HI4.fin HFO1 HFAP.out hoth6 hvar6 hsz6, HPL.lt HLL.out.1 HLL.out.2 rfl rfl rfl⟩, by rw [← HHH.out]; exact hbl6⟩
end Go.Proofs.YtchobeakieljpaaGreatDoor
