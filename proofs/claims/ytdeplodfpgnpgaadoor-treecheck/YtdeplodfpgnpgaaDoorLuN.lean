import Derived.Test.YtdeplodfpgnpgaaDoorLuF
import Derived.Test.YtdeplodfpgnpgaaDoorLzO
import Derived.Deep.LoopGhost
import Derived.Test.YtdeplodfpgnpgaaDoorTuF
import Derived.Test.YtdeplodfpgnpgaaDoorLuB
import Derived.Test.YtdeplodfpgnpgaaDoorLuE
import Derived.Deep.RegionHeld
set_option linter.unusedVariables false
set_option linter.unusedSimpArgs false
namespace Go.Proofs.YtdeplodfpgnpgaaDoor
open Go.ChangeShapes Go.WideShapes Go.ChangeAt Go.RowKit

theorem OwnI.one (w : World) (B : Nat) (x : Int) (hB : B ≤ w.heap.size) : OwnI (w.alloc (.cells #[.int .i64 x] 3)) B (.slice (some ⟨w.heap.size, 0, none⟩) 1 1) 1 [x] := by
  refine ⟨rfl, rfl, .inr ⟨w.heap.size, 1, #[.int .i64 x], rfl, hB, heap_alloc_last w _, by omega, ?_, rfl, rfl⟩⟩
  decide
theorem OwnI.cellAt {w B g n c L} (h : OwnI w B (.slice (some ⟨g, 0, none⟩) n c) n L) (i : Nat) (hi : i < L.length) : w.cell? ⟨g, i, none⟩ = some (.int .i64 L[i]) := by
  have e : (⟨g, 0, none⟩ : Addr).add i = ⟨g, i, none⟩ := by unfold Addr.add; split <;> simp_all
  have := h.out.cells (g := g) rfl i (.int .i64 L[i]) (by simp [ivs, hi])
  rwa [e] at this
theorem OwnI.setAt {w B g n c L} (h : OwnI w B (.slice (some ⟨g, 0, none⟩) n c) n L) (j : Nat) (y : Int) : OwnI (w.setCell ⟨g, j, none⟩ (.int .i64 y)) B (.slice (some ⟨g, 0, none⟩) n c) n (L.set j y) := by
  refine ⟨by simpa using h.len, ?_⟩
  have h1 := own_set h.out j (.int .i64 y)
  rw [ivs, List.map_set]
  exact h1
theorem OwnI.setNe {w B v n L} (h : OwnI w B v n L) {g j : Nat} {u : Value} (hne : v.ownBlock ≠ some g) : OwnI (w.setCell ⟨g, j, none⟩ u) B v n L :=
  ⟨h.len, own_move h.out fun b hb => heap_set_other fun e => hne (by rw [← e]; exact hb)⟩
theorem own_len (a : Option Addr) (n m c : Nat) : (Value.slice a n c).ownBlock = (Value.slice a m c).ownBlock := by
  rcases a with _ | ⟨b, o, p⟩ <;> rfl
structure WkR (w w' : World) (L : List Int) (e : Ending) : Prop where
  out : ∃ v m, e = .returned v ∧ OwnI w' (w.heap.size + 1) v m L
  bel : Below w.heap.size w w'
/-- The walk's state, in the words of its uppermost frame. -/
theorem WK.top {wr B K n D f0 vo vn vx m k S O} (h : WK wr B K n D f0 vo vn vx m k S O) (hk : 0 < k) : ∃ f j S', S = (f, j) :: S' ∧ k = S'.length + 1 := by
  have := h.on.len
  simp at this
  cases S with
  | nil => simp at this; omega
  | cons p S' => exact ⟨p.1, p.2, S', rfl, by simpa using this⟩
theorem rev_take {α : Type} (l : List α) (x : α) (r : Nat) (h : r = l.length) : (l.reverse ++ [x]).take r = l.reverse := by
  rw [h, List.take_left' (by simp)]
theorem rev_set {l : List Int} {x y : Int} {r : Nat} (h : r = l.length) : (l.reverse ++ [x]).set r y = l.reverse ++ [y] := by
  rw [List.set_append_right _ _ (by simp [h]), show r - l.reverse.length = 0 by simp [h]]
  rfl
/-- The uppermost frame is left. -/
theorem WK.pop {wr w1 : World} {na xa : Option Addr} {nc2 xc r : Nat} {K : List (List Int)} {f0 f : Int} {B n D m j : Nat} {vo vo' : Value} {S : List (Int × Nat)} {O : List Int}
    (h : WK wr B K n D f0 vo (.slice na (r + 1) nc2) (.slice xa (r + 1) xc) m (r + 1) ((f, j) :: S) O) (hj : (ks K f).length ≤ j) (hr : r = S.length)
    (ho : OwnI w1 B vo' (m + 1) (O ++ [f])) (hG : GI B wr w1 vo vo') (hm : m + 1 ≤ n) : WK w1 B K n D f0 vo' (.slice na r nc2) (.slice xa r xc) (m + 1) r S (O ++ [f]) := by
  have n1 := h.on.gi hG (fun b hb e => h.a1 b e hb)
  have n2 := h.on.giA hG (fun b hb e => h.a1 b e hb)
  have x1 := h.ox.gi hG (fun b hb e => h.a2 b e hb)
  have x2 := h.ox.giA hG (fun b hb e => h.a2 b e hb)
  have n3 := n1.take r (by omega)
  have x3 := x1.take r (by omega)
  simp only [List.map_cons, List.reverse_cons] at n3 x3
  rw [rev_take _ _ r (by simpa using hr)] at n3 x3
  refine ⟨ho, n3, x3, fun g h1 h2 => n2 g ((own_len na (r + 1) r nc2).trans h2) h1, fun g h1 h2 => x2 g ((own_len xa (r + 1) r xc).trans h2) h1, fun g h1 h2 => h.a3 g ((own_len na (r + 1) r nc2).trans h1) ((own_len xa (r + 1) r xc).trans h2), h.frs.2.2.2.2, ?_, hm, h.low⟩
  have := h.eq
  rw [RR, rest_end hj] at this
  rw [← this]
  simp
/-- The same, the new row's block told. -/
theorem wpList_append_intH {w0 : World} {ops : Array Oper} {rest : List Oper} {op : Oper} {a : Act} {Q : Exit → Act → World → Prop} (hgd : op.guard = none) (s x : Operand)
    (ho : op.op = .call { callee := .builtin .append, args := #[s, x], argTypes := #[23, 23] })
    (B : Nat) (v : Value) (n : Nat) (L : List Int) (y : Int) (g : Nat) (hs : a.eval s = v) (hown : OwnI w0 B v n L) (hx : a.eval x = .slice (some ⟨g, 0, none⟩) 1 1) (hg : g = w0.heap.size)
    (hl : n + 1 ≤ 17592186044416) (hB : B ≤ w0.heap.size)
    (h : ∀ v' w', OwnI w' B v' (n + 1) (L ++ [y]) → GI B w0 w' v v' → wpList Tryd.prog ops Q rest (a.put op.dst v') w') : wpList Tryd.prog ops Q (op :: rest) a (w0.alloc (.cells #[.int .i64 y] 3)) := by
  subst hg
  exact wpList_append_intG hgd s x ho B v n L y hs hown hx hl hB h
theorem GI.pre {B : Nat} {w w0 w' : World} {v v' : Value} (h : GI B w0 w' v v') (hb : Below w.heap.size w w0) (hB : B ≤ w.heap.size) : GI B w w' v v' :=
  ⟨(hb.mono hB).trans h.bel, fun g h1 h2 => (h.blk g (by have := hb.size; omega) h2).trans (hb.block g h1), fun g hg => (h.own g hg).imp id (fun h1 => by have := hb.size; omega)⟩
theorem WK.keep {wr w1 : World} {B K n D f0 vo vn vx m k S O} (h : WK wr B K n D f0 vo vn vx m k S O) (hb : Below wr.heap.size wr w1) : WK w1 B K n D f0 vo vn vx m k S O :=
  ⟨h.oo.keep hb, h.on.keep hb, h.ox.keep hb, h.a1, h.a2, h.a3, h.frs, h.eq, h.ln, h.low⟩
/-- The row of numbers that say which kid is next, when a kid was taken. -/
theorem WK.turn {wr w1 : World} {K : List (List Int)} {f0 f : Int} {B n D m j xg xc r : Nat} {vo vn vn' : Value} {S : List (Int × Nat)} {O : List Int}
    (h : WK wr B K n D f0 vo vn (.slice (some ⟨xg, 0, none⟩) (r + 1) xc) m (r + 1) ((f, j) :: S) O) (hr : r = S.length) (hG : GI B wr w1 vn vn') :
    OwnI (w1.setCell ⟨xg, r, none⟩ (.int .i64 ((j : Int) + 1))) B (.slice (some ⟨xg, 0, none⟩) (r + 1) xc) (r + 1) ((S.map fun p => (p.2 : Int)).reverse ++ [(j : Int) + 1]) := by
  have x1 := h.ox.gi hG (fun b hb e => h.a3 b e hb)
  have x2 := x1.setAt r ((j : Int) + 1)
  simp only [List.map_cons, List.reverse_cons] at x2
  rw [rev_set (by simpa using hr)] at x2
  exact x2
/-- A kid is walked. -/
theorem WK.push {wr w1 w3 : World} {K : List (List Int)} {f0 f x : Int} {B n D m j xg xc r : Nat} {vo vn vn' vx' : Value} {S : List (Int × Nat)} {O : List Int}
    (h : WK wr B K n D f0 vo vn (.slice (some ⟨xg, 0, none⟩) (r + 1) xc) m (r + 1) ((f, j) :: S) O) (hj : j < (ks K f).length) (hx : x = (ks K f)[j]) (hr : r = S.length)
    (hn : OwnI w1 B vn' (r + 1 + 1) ((((f, j) :: S).map Prod.fst).reverse ++ [x])) (hG1 : GI B wr w1 vn vn')
    (hxx : OwnI w3 B vx' (r + 1 + 1) (((S.map fun p => (p.2 : Int)).reverse ++ [(j : Int) + 1]) ++ [0])) (hG3 : GI B (w1.setCell ⟨xg, r, none⟩ (.int .i64 ((j : Int) + 1))) w3 (.slice (some ⟨xg, 0, none⟩) (r + 1) xc) vx') :
    WK w3 B K n D f0 vo vn' vx' m (r + 1 + 1) ((x, 0) :: (f, j + 1) :: S) O := by
  have o1 := h.oo.gi hG1 h.a1
  have o2 := h.oo.giA hG1 h.a1
  have ox : vo.ownBlock ≠ some xg := fun e => h.a2 xg e rfl
  have nx : vn'.ownBlock ≠ some xg := fun e => by
    rcases hG1.own xg e with h1 | h1
    · exact h.a3 xg h1 rfl
    · have := (own_block h.ox.out (g := xg) rfl).2
      omega
  have o3 : OwnI (w1.setCell ⟨xg, r, none⟩ (.int .i64 ((j : Int) + 1))) B vo m O := o1.setNe ox
  have n3 : OwnI (w1.setCell ⟨xg, r, none⟩ (.int .i64 ((j : Int) + 1))) B vn' (r + 1 + 1) ((((f, j) :: S).map Prod.fst).reverse ++ [x]) := hn.setNe nx
  have ne1 : ∀ b, vo.ownBlock = some b → (Value.slice (some ⟨xg, 0, none⟩) (r + 1) xc).ownBlock ≠ some b := h.a2
  have ne2 : ∀ b, vn'.ownBlock = some b → (Value.slice (some ⟨xg, 0, none⟩) (r + 1) xc).ownBlock ≠ some b := fun b hb e => nx (by cases e; exact hb)
  refine ⟨o3.gi hG3 ne1, ?_, ?_, o2, o3.giA hG3 ne1, n3.giA hG3 ne2, ?_, ?_, h.ln, h.low⟩
  · have := n3.gi hG3 ne2
    simpa using this
  · simpa using hxx
  · rw [hx]; exact Frs_push h.low hj h.frs
  · rw [hx, RR_push h.low hj]; exact h.eq
/-- What a walk reads behind the append to its row of nodes. -/
theorem WK.cells {wq w1 : World} {ob : Obj} {K : List (List Int)} {f0 f : Int} {h n D m j xg xc r b p q kb : Nat} {vo vn vn' : Value} {S : List (Int × Nat)} {O : List Int} {V1 V2 V3 V4 : Value}
    (H : WK wq (h + 1) K n D f0 vo vn (.slice (some ⟨xg, 0, none⟩) (r + 1) xc) m (r + 1) ((f, j) :: S) O) (hG : GI (h + 1) (wq.alloc ob).drew w1 vn vn') (hb : b < h + 1) (hkb : kb < h + 1)
    (c0 : wq.cell? ⟨h, 0, none⟩ = some V1) (c1 : wq.cell? ⟨b, p, none⟩ = some V2) (c2 : wq.cell? ⟨xg, r, none⟩ = some V3) (c3 : wq.cell? ⟨kb, q, none⟩ = some V4) :
    w1.cell? ⟨h, 0, none⟩ = some V1 ∧ w1.cell? ⟨b, p, none⟩ = some V2 ∧ w1.cell? ⟨xg, r, none⟩ = some V3 ∧ w1.cell? ⟨kb, q, none⟩ = some V4 ∧ w1.frozen? ⟨xg, r, none⟩ = false := by
  have hx := own_block H.ox.out (g := xg) rfl
  have e : w1.heap[xg]? = wq.heap[xg]? := by
    rw [hG.blk xg (by simp; omega) (fun e => H.a3 xg e rfl), drew_heap, heap_alloc_old _ _ hx.2]
  refine ⟨cell_below hG.bel (by omega) (cellD (cellA c0)), cell_below hG.bel hb (cellD (cellA c1)), (World.cell?_of_block e).trans c2, cell_below hG.bel hkb (cellD (cellA c3)), (World.frozen?_of_block e).trans (row_fz H.ox.out r)⟩
theorem ks_nd {N : List Nd} (i : Nat) (h : i < N.length) : ks (N.map Nd.kids) (i : Int) = (N[i]).kids := by
  rw [ks_at i (by simpa using h)]
  simp

set_option maxRecDepth 10000 in
set_option maxHeartbeats 8000000 in
theorem walk_any (w : World) (no : Option Addr) (nc nn : Nat) (fo : Option Addr) (fc fn : Nat) (N : List Nd) (hnn : nn = N.length) (hN : Nodes w no nc N) (hlow : Lwr (N.map Nd.kids)) (f : Nat) (hf : f < nn) (hnb : nn ≤ 1000000000) :
    Calls Tryd.prog 33 #[.agg #[.slice no nn nc, .slice fo fn fc], .int .i64 f] w fun e w' => WkR w w' ((po (N.map Nd.kids) f).take (nn + 1)) e := by
  have HNN : Hid (nn = N.length) := hnn
  have hl : nn ≤ nc := by have := hN.le; omega
  have HLW : Hid (Lwr (N.map Nd.kids)) := hlow
  clear hnn hlow
  go_enter Tryd.func33, Tryd.ntmps33
  go_wp2_with fail
  obtain ⟨w0, hw0⟩ : ∃ w0, w0 = ((w.alloc (.cells #[.slice no nn nc, .slice fo fn fc] 25)).alloc (.cells #[.int .i64 f] 3)).alloc (.cells #[.int .i64 0] 3) := ⟨_, rfl⟩
  have hb0 : Below w.heap.size w w0 := by
    rw [hw0]
    repeat (first | refine Below.alloc ?_ (by first | omega | (simp; done) | (simp; omega)) _ | exact Below.refl _ _)
  have t0 : w0.cell? ⟨w.heap.size, 0, none⟩ = some (.slice no nn nc) := by rw [hw0]; exact cellA (cellA (cell_arr (heap_alloc_last w _) rfl))
  have hs0 : w0.heap.size = w.heap.size + 1 + 1 + 1 := by rw [hw0]; simp
  have HW0 : WK w0 (w.heap.size + 1) (N.map Nd.kids) nn f f (.slice none 0 0) (.slice (some ⟨w.heap.size + 1, 0, none⟩) 1 1) (.slice (some ⟨w.heap.size + 1 + 1, 0, none⟩) 1 1) 0 1 [((f : Int), 0)] [] := by
    have n1 := OwnI.one (w.alloc (.cells #[.slice no nn nc, .slice fo fn fc] 25)) (w.heap.size + 1) f (by simp)
    have n2 := n1.alloc0 (.cells #[.int .i64 0] 3)
    have x1 := OwnI.one ((w.alloc (.cells #[.slice no nn nc, .slice fo fn fc] 25)).alloc (.cells #[.int .i64 f] 3)) (w.heap.size + 1) 0 (by simp)
    rw [← hw0] at n2 x1
    refine ⟨OwnI.nil _ _, by simpa using n2, by simpa using x1, fun g hg => by simp [Value.ownBlock] at hg, fun g hg => by simp [Value.ownBlock] at hg, fun g h1 h2 => ?_, ?_, ?_, by omega, HLW.out⟩
    · simp [Value.ownBlock] at h1 h2
      omega
    · exact ⟨by omega, by omega, by omega, by show 0 + (f : Int).toNat ≤ f; omega, trivial⟩
    · rw [List.nil_append]; exact po_rest HLW.out f
  rw [← hw0]
  go_loopg [5, 6, 7] (MM (N.map Nd.kids) [((f : Int), 0)]) (fun k a b c wr => ∃ (m d : Nat) (S : List (Int × Nat)) (O : List Int), WK wr (w.heap.size + 1) (N.map Nd.kids) nn f f a b c m d S O ∧ MM (N.map Nd.kids) S = k ∧ Below (w.heap.size + 1) w0 wr)
  case atStart => exact ⟨0, 1, _, _, HW0, rfl, Below.refl _ _⟩
  case round =>
    obtain ⟨m, d, S, O, HW, hMM, hbr⟩ := hrel
    have hsr := hbr.size
    have hbw : Below w.heap.size w wr := hb0.trans (hbr.mono (by omega))
    have t0r : wr.cell? ⟨w.heap.size, 0, none⟩ = some (.slice no nn nc) := cell_below hbr (by omega) t0
    obtain ⟨oa, oc, rfl⟩ := own_slice HW.oo.out
    have hmn := HW.ln
    have HMM : Hid _ := hMM
    clear hMM HW0 hw0
    by_cases hd : 0 < d
    · obtain ⟨f1, j, S', rfl, hdr⟩ := HW.top hd
      obtain ⟨r, hr⟩ : ∃ r, r = S'.length := ⟨_, rfl⟩
      rw [← hr] at hdr
      subst hdr
      obtain ⟨ng, nc2, rfl⟩ := HW.on.blkOf (by omega)
      obtain ⟨xg, xc, rfl⟩ := HW.ox.blkOf (by omega)
      obtain ⟨q1, q2, q3, q4, q5⟩ := HW.frs
      obtain ⟨i, rfl⟩ : ∃ i : Nat, f1 = (i : Int) := ⟨f1.toNat, by omega⟩
      have hin : i < nn := by omega
      have hrf : r + i ≤ f := by have := q4; rw [← hr] at this; omega
      have hni : i < N.length := by have := HNN.out; omega
      obtain ⟨b, o, rfl, hbl, hAt⟩ := hN.out (by intro e; rw [e] at hni; simp at hni)
      obtain ⟨ka, kc, c0, c1, c2, c3, c4, c5, c6, c7, c8, c9w, hK⟩ := (hAt i hni).out
      have c9 := cell_below hbw hbl c9w
      obtain ⟨kl, hkl⟩ : ∃ kl, kl = (N[i]).kids.length := ⟨_, rfl⟩
      rw [← hkl] at c9
      have hks := ks_nd (N := N) i hni
      have hjk : j ≤ kl := by rw [hkl, ← hks]; exact q3
      have HKS : Hid (ks (N.map Nd.kids) (i : Int) = (N[i]).kids ∧ kl = (N[i]).kids.length) := ⟨hks, hkl⟩
      have nqc : wr.cell? ⟨ng, r, none⟩ = some (.int .i64 i) := by
        have := HW.on.cellAt r (by simp [hr])
        rw [this]
        simp [hr]
      have xq : wr.cell? ⟨xg, r, none⟩ = some (.int .i64 j) := by
        have := HW.ox.cellAt r (by simp [hr])
        rw [this]
        simp [hr]
      have hsub : ((r + 1 : Nat) : Int) - 1 = (r : Int) := by omega
      have hon := HW.on.view
      obtain ⟨_, _, en, hn1, hn2, _, _⟩ := hon
      cases en
      obtain ⟨_, _, ex, hx1, hx2, _, _⟩ := HW.ox.view
      cases ex
      have HR : Hid (r = S'.length) := hr
      have hngl := own_block HW.on.out (g := ng) rfl
      have hxgl := own_block HW.ox.out (g := xg) rfl
      have hkll : kl ≤ kc := by have := hK.le; omega
      clear c9w hks hkl hr hAt c0 c1 c2 c3 c4 c5 c6 c7 c8 q1 q2 q3 q4 q5 hd
      by_cases hjl : j = kl
      · obtain rfl : kl = j := hjl.symm
        have HEQ : Hid ((O ++ [(i : Int)]) ++ RR (N.map Nd.kids) S' = po (N.map Nd.kids) f) := by
          show _ = _
          have h1 := HW.eq
          rw [RR, rest_end (by rw [HKS.out.1, HKS.out.2]; exact Nat.le_refl _)] at h1
          rw [← h1]
          simp
        have HOD : ∀ q, OwnI (wr.drewN q) (w.heap.size + 1) (.slice oa m oc) m O := fun q => HW.oo.keep (Below.drewN' (Below.refl _ _) q)
        have hA1 : m + 1 ≤ 17592186044416 := by omega
        by_cases hfull : m = nn
        · obtain rfl : nn = m := hfull.symm
          go_wp2_with fail
          go_quiet (fail)
          go_wp2_with (first | (at_builtin; refine wpList_append_intG rfl _ _ rfl (w.heap.size + 1) _ nn O i ?_ (HOD _) ?_ hA1 (by first | omega | (simp; done) | (simp; omega)) ?_; (next => rfl); (next => rfl); intro v1 w1 HO1 hG1; obtain ⟨a1, c1, rfl⟩ := own_slice HO1.out; have t01 : w1.cell? ⟨w.heap.size, 0, none⟩ = some (.slice (some ⟨b, o, none⟩) nn nc) := cell_below hG1.bel (by omega) (by simpa using t0r)))
          go_ret
          refine ⟨⟨.slice a1 (nn + 1) c1, nn + 1, rfl, ?_⟩, (Below.drewN' hbw nq).trans (hG1.bel.mono (by omega))⟩
          rw [← HEQ.out, List.take_left' (by have := HW.oo.len; simp; omega)]
          exact HO1
        · have hgt : ¬ (nn : Int) < (m : Int) + 1 := by omega
          go_wp2_with fail
          go_quiet (fail)
          go_wp2_with (first | (at_builtin; refine wpList_append_intG rfl _ _ rfl (w.heap.size + 1) _ m O i ?_ (HOD _) ?_ hA1 (by first | omega | (simp; done) | (simp; omega)) ?_; (next => rfl); (next => rfl); intro v1 w1 HO1 hG1; obtain ⟨a1, c1, rfl⟩ := own_slice HO1.out; have t01 : w1.cell? ⟨w.heap.size, 0, none⟩ = some (.slice (some ⟨b, o, none⟩) nn nc) := cell_below hG1.bel (by omega) (by simpa using t0r)))
          have HP := HW.pop (by rw [HKS.out.1, HKS.out.2]; exact Nat.le_refl _) HR.out HO1 (hG1.pre (Below.drewN' (Below.refl _ _) _) (by omega)) (by omega)
          go_roundg (MM (N.map Nd.kids) S')
          case rel => exact ⟨m + 1, r, S', _, HP, rfl, hbr.trans ((Below.drewN' (Below.refl _ _) _).trans hG1.bel)⟩
          case measure =>
            have := HMM.out
            rw [← this]
            simp [MM]
      · have hjlt : j < kl := by omega
        have hjne : ¬ (j : Int) = (kl : Int) := by omega
        obtain ⟨kb, ko, rfl, hKA⟩ := hK.out (by intro e; have := HKS.out.2; rw [e] at this; simp at this; omega)
        have kqw := hKA.cell j (by have := HKS.out.2; omega)
        have hkbl : kb < w.heap.size + 1 := by have := hKA.lt; omega
        have kq := cell_below hbw hKA.lt kqw
        clear kqw
        obtain ⟨x, hx⟩ : ∃ x, x = (N[i]).kids[j]'(by have := HKS.out.2; omega) := ⟨_, rfl⟩
        rw [← hx] at kq
        have hjks : j < (ks (N.map Nd.kids) (i : Int)).length := by rw [HKS.out.1, ← HKS.out.2]; exact hjlt
        have HX : Hid (x = (ks (N.map Nd.kids) (i : Int))[j]) := by
          show x = _
          rw [hx]
          exact (List.getElem_of_eq HKS.out.1 hjks).symm
        have hkmx : kc ≤ 9223372036854775807 := hK.mx
        clear hx hKA hK
        go_wp2_with fail
        go_quiet (fail)
        go_wp2_with fail
        obtain ⟨wq, hwq⟩ : ∃ wq, wq = wr.drewN nq := ⟨_, rfl⟩
        have hbq : Below wr.heap.size wr wq := by rw [hwq]; exact Below.drewN' (Below.refl _ _) _
        have hsq : wq.heap.size = wr.heap.size := by rw [hwq]; simp
        have HWq := HW.keep hbq
        have t0q : wq.cell? ⟨w.heap.size, 0, none⟩ = some (.slice (some ⟨b, o, none⟩) nn nc) := by rw [hwq]; simpa using t0r
        have c9q : wq.cell? ⟨b, o + i * 10 + 9, none⟩ = some (.slice (some ⟨kb, ko, none⟩) kl kc) := by rw [hwq]; simpa using c9
        have xqq : wq.cell? ⟨xg, r, none⟩ = some (.int .i64 j) := by rw [hwq]; simpa using xq
        have kqq : wq.cell? ⟨kb, ko + j, none⟩ = some (.int .i64 x) := by rw [hwq]; simpa using kq
        rw [← hwq]
        clear hwq t0r c9 xq kq nqc
        have hA1 : r + 1 + 1 ≤ 17592186044416 := by omega
        have hbl1 : b < w.heap.size + 1 := by omega
        have hAB : w.heap.size + 1 ≤ ((wq.alloc (.cells #[.int .i64 x] 3)).drew).heap.size := by simp; omega
        have HOK : OwnI ((wq.alloc (.cells #[.int .i64 x] 3)).drew) (w.heap.size + 1) (.slice (some ⟨ng, 0, none⟩) (r + 1) nc2) (r + 1) ((((i : Int), j) :: S').map Prod.fst).reverse := HWq.on.keep (((Below.refl _ _).alloc (Nat.le_refl _) _).drew)
        go_region_held_law (fun w' => w'.cell? ⟨w.heap.size, 0, none⟩ = some (.slice (some ⟨b, o, none⟩) nn nc) ∧ w'.cell? ⟨b, o + i * 10 + 9, none⟩ = some (.slice (some ⟨kb, ko, none⟩) kl kc) ∧ w'.cell? ⟨xg, r, none⟩ = some (.int .i64 j) ∧ w'.cell? ⟨kb, ko + j, none⟩ = some (.int .i64 x))
         (refine ⟨?_, ?_, ?_, ?_⟩ <;> repeat (first | with_reducible exact t0q | with_reducible exact c9q | with_reducible exact xqq | with_reducible exact kqq | with_reducible exact d0 | with_reducible exact d1 | with_reducible exact d2 | with_reducible exact d3 | with_reducible refine cellD ?_ | with_reducible refine cellA ?_))
         (first
          | (refine step_append_intG rfl _ _ rfl (w.heap.size + 1) _ (r + 1) _ x (by simp [Act.eval]) HOK wq.heap.size (by simp [Act.eval]) (by simp) hA1 hAB ?_; intro v1 w1 HO1 hG1
             obtain ⟨d0, d1, d2, d3, d4⟩ := WK.cells HWq hG1 hbl1 hkbl t0q c9q xqq kqq
             obtain ⟨a1, c1, rfl⟩ := own_slice HO1.out))
        have hG2 : GI (w.heap.size + 1) wq w1 (.slice (some ⟨ng, 0, none⟩) (r + 1) nc2) (.slice a1 (r + 1 + 1) c1) := hG1.pre (((Below.refl _ _).alloc (Nat.le_refl _) _).drew) (by omega)
        have HT := HWq.turn HR.out hG2
        have hs1 := hG2.size
        have hAC : w.heap.size + 1 ≤ (w1.setCell ⟨xg, r, none⟩ (.int .i64 ((j : Int) + 1))).heap.size := by simp [World.setCell]; omega
        clear HOK hAB
        go_wp2_with (first | (at_builtin; refine wpList_append_intH rfl _ _ rfl (w.heap.size + 1) _ (r + 1) _ 0 w1.heap.size ?_ HT ?_ (by simp [World.setCell]) hA1 hAC ?_; (next => rfl); (next => rfl); intro v3 w3 HO3 hG3))
        have HP := HWq.push hjks HX.out HR.out HO1 hG2 HO3 hG3
        go_roundg (MM (N.map Nd.kids) ((x, 0) :: ((i : Int), j + 1) :: S'))
        case rel => exact ⟨m, r + 1 + 1, _, O, HP, rfl, ((hbr.trans (hbq.mono (by omega))).trans hG2.bel).setCell (p := ⟨xg, r, none⟩) (by show w.heap.size + 1 ≤ xg; omega) _ |>.trans hG3.bel⟩
        case measure =>
          have := HMM.out
          rw [← this, HX.out]
          exact MM_push HLW.out hjks
    · obtain rfl : d = 0 := by omega
      have hS : S = [] := by have := HW.on.len; simp at this; exact List.length_eq_zero_iff.1 this.symm
      subst hS
      have hE : Hid (O = (po (N.map Nd.kids) f).take (nn + 1)) := by
        show O = _
        have h1 := HW.eq
        simp [RR] at h1
        rw [← h1, List.take_of_length_le (by have := HW.oo.len; omega)]
      obtain ⟨na, nc2, rfl⟩ := own_slice HW.on.out
      go_wp2_with fail
      go_ret
      exact ⟨⟨_, _, rfl, by rw [← hE.out]; exact HW.oo⟩, hbw⟩
end Go.Proofs.YtdeplodfpgnpgaaDoor
namespace Go.Proofs.YtdeplodfpgnpgaaDoor
open Go.ChangeShapes Go.WideShapes Go.ChangeAt Go.RowKit

/-- The first j kids are below their node. -/
structure KRg (nd : Nd) (i j : Nat) : Prop where
  out : ∀ x ∈ nd.kids.take j, 0 ≤ x ∧ x < (i : Int)
theorem KRg.next {nd i j} (h : KRg nd i j) (hj : j < nd.kids.length) {x : Int} (hx : x = nd.kids[j]) (h0 : ¬ x < 0) (h1 : ¬ (i : Int) ≤ x) : KRg nd i (j + 1) := ⟨fun y hy => by
  rw [List.take_succ_eq_append_getElem hj] at hy
  rcases List.mem_append.1 hy with hy | hy
  · exact h.out y hy
  · simp at hy
    omega⟩
theorem KRg.fin {nd i j} (h : KRg nd i j) (hj : nd.kids.length ≤ j) : ∀ x ∈ nd.kids, 0 ≤ x ∧ x < (i : Int) := fun x hx => h.out x (by rw [List.take_of_length_le hj]; exact hx)
/-- The first j numbers of a walk are the next ones. -/
structure WNx (l : List Int) (a j : Nat) : Prop where
  out : ∀ i, i < j → l[i]? = some ((a : Int) + i)
theorem WNx.next {l a j} (h : WNx l a j) (hl : l[j]? = some ((a : Int) + j)) : WNx l a (j + 1) := ⟨fun i hi => by
  rcases Nat.lt_succ_iff_lt_or_eq.1 hi with h1 | rfl
  · exact h.out i h1
  · exact hl⟩
set_option maxRecDepth 10000 in
set_option maxHeartbeats 8000000 in
theorem rCheck_any (w : World) (no : Option Addr) (nc nn : Nat) (fo : Option Addr) (fc fn : Nat) (T : Tr) (hnn : nn = T.nodes.length) (hfn : fn = T.funcs.length) (hN : Nodes w no nc T.nodes) (hF : Ints w fo fc T.funcs) (hm : nn ≤ 1000000000) (hfm : fn ≤ 1000000000) (hkb : ∀ n ∈ T.nodes, n.kids.length ≤ 1000000000) (hsb : ∀ n ∈ T.nodes, n.name.length ≤ 1000000000000000) :
    Calls Tryd.prog 16 #[.agg #[.slice no nn nc, .slice fo fn fc]] w fun e w' => e = .returned (.int .i64 (if chk T = true then 0 else 30)) ∧ Below w.heap.size w w' := by
  obtain ⟨r, hr⟩ : ∃ r : Int, r = if chk T = true then 0 else 30 := ⟨_, rfl⟩
  rw [← hr]
  have BAD : chk T = false → (30 : Int) = r := fun h => by rw [hr, h]; rfl
  have HR : Hid (r = if chk T = true then 0 else 30) := hr
  have HNN : Hid (nn = T.nodes.length) := hnn
  have HFN : Hid (fn = T.funcs.length) := hfn
  have HKB : Hid _ := hkb
  have HSB : Hid _ := hsb
  have hnc : nn ≤ nc := by have := hN.le; omega
  have hnx := hN.mx
  have hfc : fn ≤ fc := by have := hF.le; omega
  have hfx := hF.mx
  clear hr hnn hfn hkb hsb
  go_enter Tryd.func16, Tryd.ntmps16
  go_wp2_with fail
  obtain ⟨w1, hw1⟩ : ∃ w1, w1 = w.alloc (.cells #[.slice no nn nc, .slice fo fn fc] 25) := ⟨_, rfl⟩
  have hb1 : Below w.heap.size w w1 := by rw [hw1]; exact (Below.refl _ _).alloc (Nat.le_refl _) _
  have hs1 : w1.heap.size = w.heap.size + 1 := by rw [hw1]; simp
  have e0 : w1.cell? ⟨w.heap.size, 0, none⟩ = some (.slice no nn nc) := by rw [hw1]; simp
  have e1 : w1.cell? ⟨w.heap.size, 1, none⟩ = some (.slice fo fn fc) := by rw [hw1]; simp
  rw [← hw1]
  have HS1 : Hid (w1.heap.size = w.heap.size + 1) := hs1
  clear hw1 hs1
  go_loopw [3, 4] (fun tv iv wr => ∃ i tot : Nat, i ≤ nn ∧ iv = .int .i64 i ∧ tv = .int .i64 tot ∧ RP1 T i tot ∧ Below (w.heap.size + 1) w1 wr) (fun _ iv _ => nn - (intOf iv).toNat)
  case atStart => exact ⟨0, 0, by omega, rfl, rfl, RP1.zero T, Below.refl _ _⟩
  case round =>
    obtain ⟨i, tot, hi, rfl, rfl, HP, hbr⟩ := hrel
    have hbw : Below w.heap.size w wr := hb1.trans (hbr.mono (by omega))
    have hsr := hbr.size
    have f0 : wr.cell? ⟨w.heap.size, 0, none⟩ = some (.slice no nn nc) := cell_below hbr (by omega) e0
    have f1 : wr.cell? ⟨w.heap.size, 1, none⟩ = some (.slice fo fn fc) := cell_below hbr (by omega) e1
    have htn : tot ≤ nn := by have := HP.le; have := HNN.out; omega
    by_cases hlt : i < nn
    · have hiT : i < T.nodes.length := by have := HNN.out; omega
      obtain ⟨b, o, rfl, hbl, hAt⟩ := (hN.below hbw (Nat.le_refl _)).out (by intro e; rw [e] at hiT; simp at hiT)
      obtain ⟨ka, kc, c0, c1, c2, c3, c4, c5, c6, c7, c8, c9, hK⟩ := (hAt i hiT).out
      have hkb := HKB.out _ (List.getElem_mem hiT)
      have hsb := HSB.out _ (List.getElem_mem hiT)
      obtain ⟨nd, hnd⟩ : ∃ nd, nd = T.nodes[i] := ⟨_, rfl⟩
      rw [← hnd] at c0 c1 c2 c3 c4 c5 c6 c7 c8 c9 hK hkb hsb
      have HND : Hid (nd = T.nodes[i]) := hnd
      clear hnd hAt
      obtain ⟨s, hs⟩ : ∃ s, s = bs nd.name := ⟨_, rfl⟩
      have HS : Hid (s = bs nd.name) := hs
      rw [← hs] at c8
      clear hs
      obtain ⟨kl, hkl⟩ : ∃ kl, kl = nd.kids.length := ⟨_, rfl⟩
      rw [← hkl] at c9 hkb
      have HKL : Hid (kl = nd.kids.length) := hkl
      have hkc : kl ≤ kc := by have := hK.le; omega
      have hkx := hK.mx
      have HSN : Hid (nd.name.length ≤ 1000000000000000) := hsb
      clear hkl hsb
      by_cases hbig : nn < tot + kl
      · have hbigI : (nn : Int) < (tot : Int) + (kl : Int) := by omega
        go_wp2_with fail
        go_ret
        exact ⟨ret_i (BAD (HP.many (kl := kl) hiT (by rw [← HND.out]; exact HKL.out) (by have := HNN.out; omega))), hbw⟩
      · have hbigI : ¬ (nn : Int) < (tot : Int) + (kl : Int) := by omega
        go_wp2_with fail
        go_loop [5] (fun jv => ∃ j : Nat, j ≤ kl ∧ jv = .int .i64 j ∧ KRg nd i j) (fun jv => kl - (intOf jv).toNat)
        case atStart => exact ⟨0, by omega, rfl, ⟨by simp⟩⟩
        case round =>
          obtain ⟨j, hj, rfl, HJ⟩ := hrel
          by_cases hjk : j < kl
          · have hjn : j < nd.kids.length := by have := HKL.out; omega
            obtain ⟨kb, ko, rfl, hKA⟩ := hK.out (by intro e; rw [e] at hjn; simp at hjn)
            have kj := hKA.cell j hjn
            obtain ⟨x, hx⟩ : ∃ x, x = nd.kids[j] := ⟨_, rfl⟩
            rw [← hx] at kj
            have HX : Hid (x = nd.kids[j]) := hx
            have hxm : x ∈ nd.kids := by rw [hx]; exact List.getElem_mem hjn
            have HXM : Hid (x ∈ nd.kids) := hxm
            clear hx hxm hKA
            by_cases hx0 : x < 0
            · go_wp2_with fail
              go_ret
              exact ⟨ret_i (BAD (RP1.range hiT (by rw [← HND.out]; exact HXM.out) (.inl hx0))), hbw⟩
            by_cases hx1 : (i : Int) ≤ x
            · go_wp2_with fail
              go_ret
              exact ⟨ret_i (BAD (RP1.range hiT (by rw [← HND.out]; exact HXM.out) (.inr hx1))), hbw⟩
            go_wp2_with fail
            go_round
            case rel => exact ⟨j + 1, by omega, by go_num, HJ.next hjn HX.out hx0 hx1⟩
            case measure => simp [intOf]; omega
          · have hjl : kl = j := by omega
            subst hjl
            have HRG : Hid (∀ x ∈ nd.kids, 0 ≤ x ∧ x < (i : Int)) := HJ.fin (by have := HKL.out; omega)
            go_wp2_with fail
            obtain ⟨RK, hRK⟩ : ∃ R, rKidsB T.nodes nd = R := ⟨_, rfl⟩
            have KIDS : ∀ wx, Below wr.heap.size wr wx → Calls Tryd.prog 31 #[.agg #[.slice (some ⟨b, o, none⟩) nn nc, .slice fo fn fc], .agg #[.int .i64 nd.kind, .int .i64 nd.at_, .int .i64 nd.wh, .int .i64 nd.close, .int .i64 nd.decl, .int .i64 nd.typ, .int .i64 nd.op, .int .i64 nd.val, .string s, .slice ka kl kc]] wx fun e w' => e = .returned (.bool RK) ∧ Below wx.heap.size wx w' := fun wx hx => rKids_any wx _ nc nn fo fc fn T.nodes HNN.out (hN.below (hbw.trans (hx.mono hbw.size)) (Nat.le_refl _)) nd ka kc s kl (hK.below hx (Nat.le_refl _)) (fun x hx => by have := HRG.out x hx; omega) HKL.out hkb hm RK hRK
            have HRK : Hid (rKidsB T.nodes nd = RK) := hRK
            clear hRK
            have hq2 : w.heap.size < wr.drew.heap.size := by simp; have := HS1.out; omega
            have hq3 : b < wr.drew.heap.size := by simp; omega
            cases RK
            · first
              | (go_region_with (first | (go_at_call 31; refine (KIDS _ (Below.refl _ _).drew).mono ?_; rintro e w2 ⟨rfl, hb2⟩)))
              | fail
              all_goals
                go_wp2_with fail
                go_ret
                exact ⟨ret_i (BAD (RP1.bad hiT (.inl (by rw [← HND.out]; exact HRK.out)))), hbw.trans (((Below.refl _ _).drew.trans hb2).mono hbw.size)⟩
            · obtain ⟨RF, hRF⟩ : ∃ R, ffit nd = R := ⟨_, rfl⟩
              have FLDS : ∀ wx, Calls Tryd.prog 32 #[.agg #[.int .i64 nd.kind, .int .i64 nd.at_, .int .i64 nd.wh, .int .i64 nd.close, .int .i64 nd.decl, .int .i64 nd.typ, .int .i64 nd.op, .int .i64 nd.val, .string s, .slice ka kl kc]] wx fun e w' => e = .returned (.bool RF) ∧ Below wx.heap.size wx w' := fun wx => rFields_any wx nd ka kl kc s HS.out HSN.out RF hRF
              have HRF : Hid (ffit nd = RF) := hRF
              clear hRF
              go_region_held (fun w' => w'.cell? ⟨w.heap.size, 0, none⟩ = some (.slice (some ⟨b, o, none⟩) nn nc) ∧ w'.cell? ⟨w.heap.size, 1, none⟩ = some (.slice fo fn fc) ∧ w'.cell? ⟨b, o + i * 10, none⟩ = some (.int .i64 nd.kind) ∧ w'.cell? ⟨b, o + i * 10 + 1, none⟩ = some (.int .i64 nd.at_) ∧ w'.cell? ⟨b, o + i * 10 + 2, none⟩ = some (.int .i64 nd.wh) ∧ w'.cell? ⟨b, o + i * 10 + 3, none⟩ = some (.int .i64 nd.close) ∧ w'.cell? ⟨b, o + i * 10 + 4, none⟩ = some (.int .i64 nd.decl) ∧ w'.cell? ⟨b, o + i * 10 + 5, none⟩ = some (.int .i64 nd.typ) ∧ w'.cell? ⟨b, o + i * 10 + 6, none⟩ = some (.int .i64 nd.op) ∧ w'.cell? ⟨b, o + i * 10 + 7, none⟩ = some (.int .i64 nd.val) ∧ w'.cell? ⟨b, o + i * 10 + 8, none⟩ = some (.string s) ∧ w'.cell? ⟨b, o + i * 10 + 9, none⟩ = some (.slice ka kl kc))
               (refine ⟨?_, ?_, ?_, ?_, ?_, ?_, ?_, ?_, ?_, ?_, ?_, ?_⟩ <;> first | with_reducible exact cellD f0 | with_reducible exact cellD f1 | with_reducible exact cellD c0 | with_reducible exact cellD c1 | with_reducible exact cellD c2 | with_reducible exact cellD c3 | with_reducible exact cellD c4 | with_reducible exact cellD c5 | with_reducible exact cellD c6 | with_reducible exact cellD c7 | with_reducible exact cellD c8 | with_reducible exact cellD c9 | with_reducible exact cell_below hb2 hq2 (cellD f0) | with_reducible exact cell_below hb2 hq2 (cellD f1) | with_reducible exact cell_below hb2 hq3 (cellD c0) | with_reducible exact cell_below hb2 hq3 (cellD c1) | with_reducible exact cell_below hb2 hq3 (cellD c2) | with_reducible exact cell_below hb2 hq3 (cellD c3) | with_reducible exact cell_below hb2 hq3 (cellD c4) | with_reducible exact cell_below hb2 hq3 (cellD c5) | with_reducible exact cell_below hb2 hq3 (cellD c6) | with_reducible exact cell_below hb2 hq3 (cellD c7) | with_reducible exact cell_below hb2 hq3 (cellD c8) | with_reducible exact cell_below hb2 hq3 (cellD c9) | with_reducible exact cell_below hb3 hq4 (cell_below hb2 hq2 (cellD f0)) | with_reducible exact cell_below hb3 hq4 (cell_below hb2 hq2 (cellD f1)) | with_reducible exact cell_below hb3 hq5 (cell_below hb2 hq3 (cellD c0)) | with_reducible exact cell_below hb3 hq5 (cell_below hb2 hq3 (cellD c1)) | with_reducible exact cell_below hb3 hq5 (cell_below hb2 hq3 (cellD c2)) | with_reducible exact cell_below hb3 hq5 (cell_below hb2 hq3 (cellD c3)) | with_reducible exact cell_below hb3 hq5 (cell_below hb2 hq3 (cellD c4)) | with_reducible exact cell_below hb3 hq5 (cell_below hb2 hq3 (cellD c5)) | with_reducible exact cell_below hb3 hq5 (cell_below hb2 hq3 (cellD c6)) | with_reducible exact cell_below hb3 hq5 (cell_below hb2 hq3 (cellD c7)) | with_reducible exact cell_below hb3 hq5 (cell_below hb2 hq3 (cellD c8)) | with_reducible exact cell_below hb3 hq5 (cell_below hb2 hq3 (cellD c9)))
               (first
                | (go_at_call 31; refine (KIDS _ (Below.refl _ _).drew).mono ?_; rintro e w2 ⟨rfl, hb2⟩; have hq4 : w.heap.size < w2.heap.size := (by have := hb2.size; omega); have hq5 : b < w2.heap.size := (by have := hb2.size; omega))
                | (go_at_call 32; refine (FLDS _).mono ?_; rintro e w3 ⟨rfl, hb3⟩))
              have hb3r : Below wr.heap.size wr w3 := (Below.refl _ _).drew.trans ((hb2.mono (by simp)).trans (hb3.mono (by have := hb2.size; simp at this; omega)))
              cases RF
              · go_wp2_with fail
                go_ret
                exact ⟨ret_i (BAD (RP1.bad hiT (.inr (by rw [← HND.out]; exact HRF.out)))), hbw.trans (hb3r.mono hbw.size)⟩
              · go_wp2_with fail
                go_roundw
                case rel => exact ⟨i + 1, tot + kl, by omega, by go_num, by go_num, HP.next hiT (by rw [← HND.out]; exact HKL.out) (by have := HNN.out; omega) (by rw [← HND.out]; exact HRG.out) (by rw [← HND.out]; exact HRK.out) (by rw [← HND.out]; exact HRF.out), hbr.trans (hb3r.mono (by have := HS1.out; omega))⟩
                case measure => simp [intOf]; omega
    · have hin : nn = i := by omega
      subst hin
      have HP2 : RP2 T 0 0 := HP.fin (by have := HNN.out; omega)
      clear HP htn hlt hi
      go_wp2_with fail
      go_loopw [8, 9] (fun av qv wx => ∃ q a : Nat, q ≤ fn ∧ qv = .int .i64 q ∧ av = .int .i64 a ∧ RP2 T q a ∧ Below (w.heap.size + 1) w1 wx) (fun _ qv _ => fn - (intOf qv).toNat)
      case atStart => exact ⟨0, 0, by omega, rfl, rfl, HP2, hbr⟩
      case round =>
        clear f0 f1 HP2 hbw hsr hbr
        obtain ⟨q, a, hq, rfl, rfl, HQ, hbx⟩ := hrel
        have hbW : Below w.heap.size w wr := hb1.trans (hbx.mono (by omega))
        have hsx := hbx.size
        have g0 : wr.cell? ⟨w.heap.size, 0, none⟩ = some (.slice no nn nc) := cell_below hbx (by omega) e0
        have g1 : wr.cell? ⟨w.heap.size, 1, none⟩ = some (.slice fo fn fc) := cell_below hbx (by omega) e1
        have han : a ≤ nn := by have := HQ.le; have := HNN.out; omega
        by_cases hqf : q < fn
        · have hqT : q < T.funcs.length := by have := HFN.out; omega
          obtain ⟨fb, fo', rfl, hFA⟩ := (hF.below hbW (Nat.le_refl _)).out (by intro e; rw [e] at hqT; simp at hqT)
          have fcell := hFA.cell q hqT
          obtain ⟨f, hf⟩ : ∃ f, f = T.funcs[q] := ⟨_, rfl⟩
          rw [← hf] at fcell
          have HF : Hid (f = T.funcs[q]) := hf
          clear hf hFA
          by_cases hf0 : f < 0
          · go_wp2_with fail
            go_ret
            exact ⟨ret_i (BAD (RP2.func hqT (fun h => by rw [← HF.out] at h; omega))), hbW⟩
          by_cases hf1 : (nn : Int) ≤ f
          · go_wp2_with fail
            go_ret
            exact ⟨ret_i (BAD (RP2.func hqT (fun h => by rw [← HF.out] at h; have := HNN.out; omega))), hbW⟩
          obtain ⟨m, rfl⟩ : ∃ m : Nat, f = (m : Int) := ⟨f.toNat, by omega⟩
          have hmn : m < nn := by omega
          have hmT : m < T.nodes.length := by have := HNN.out; omega
          obtain ⟨b, o, rfl, hkc⟩ := (hN.below hbW (Nat.le_refl _)).kind m hmT
          obtain ⟨k, hk⟩ : ∃ k, k = kd T.nodes (m : Int) := ⟨_, rfl⟩
          rw [← hk] at hkc
          have HKD : Hid (k = kd T.nodes (m : Int)) := hk
          clear hk
          by_cases hk1 : k = 1
          · subst hk1
            have HFT : Hid (0 ≤ T.funcs[q] ∧ T.funcs[q] < T.nodes.length ∧ kd T.nodes T.funcs[q] = 1) := by
              show _ ∧ _ ∧ _
              rw [← HF.out]
              exact ⟨by omega, by omega, HKD.out.symm⟩
            obtain ⟨L, hL⟩ : ∃ L, L = (po (T.nodes.map Nd.kids) (m : Int)).take (nn + 1) := ⟨_, rfl⟩
            have WALK := walk_any wr _ nc nn (some ⟨fb, fo', none⟩) fc fn T.nodes HNN.out (hN.below hbW (Nat.le_refl _)) HQ.low m hmn hm
            rw [← hL] at WALK
            have HL : Hid (L = (po (T.nodes.map Nd.kids) (m : Int)).take (nn + 1)) := hL
            clear hL
            go_wp2_with (first | (go_at_call 33; refine WALK.mono ?_; rintro e w2 ⟨⟨v, ml, rfl, HO⟩, hb2⟩))
            clear WALK
            have hs2 := hb2.size
            have k0 : w2.cell? ⟨w.heap.size, 0, none⟩ = some (.slice (some ⟨b, o, none⟩) nn nc) := cell_below hb2 (by have := HS1.out; omega) g0
            have k1 : w2.cell? ⟨w.heap.size, 1, none⟩ = some (.slice (some ⟨fb, fo', none⟩) fn fc) := cell_below hb2 (by have := HS1.out; omega) g1
            obtain ⟨la, lc, rfl, hv1, hv2, hI, hla⟩ := HO.view
            have HLL : Hid (ml = L.length) := HO.len
            have hml : ml ≤ nn + 1 := by have := HLL.out; rw [this, HL.out, List.length_take]; omega
            clear g0 g1 fcell hkc
            go_loop [8, 12] (fun av jv => ∃ j : Nat, j ≤ ml ∧ jv = .int .i64 j ∧ av = .int .i64 ((a : Int) + j) ∧ WNx L a j) (fun _ jv => ml - (intOf jv).toNat)
            case atStart => exact ⟨0, by omega, rfl, by go_num, ⟨fun i hi => by omega⟩⟩
            case round =>
              obtain ⟨j, hj, rfl, rfl, HJ⟩ := hrel
              by_cases hjm : j < ml
              · have hjL : j < L.length := by have := HLL.out; omega
                obtain ⟨lb, lo, rfl, hLA⟩ := hI.out (by intro e; rw [e] at hjL; simp at hjL)
                have lj := hLA.cell j hjL
                obtain ⟨x, hx⟩ : ∃ x, x = L[j] := ⟨_, rfl⟩
                rw [← hx] at lj
                have HX : Hid (L[j]? = some x) := by rw [hx]; exact List.getElem?_eq_getElem hjL
                clear hx hLA
                by_cases hxe : x = (a : Int) + j
                · have HX2 : WNx L a (j + 1) := HJ.next (by rw [HX.out, hxe])
                  subst hxe
                  go_wp2_with fail
                  go_round
                  case rel => exact ⟨j + 1, by omega, by go_num, by go_num, HX2⟩
                  case measure => simp [intOf]; omega
                · go_wp2_with fail
                  go_ret
                  exact ⟨ret_i (BAD (HQ.bad (j := j) (x := x) hqT (by
                    rw [← HF.out]
                    have h1 := HX.out
                    rw [HL.out, List.getElem?_take] at h1
                    split at h1
                    · exact h1
                    · cases h1) hxe)), hbW.trans (hb2.mono hbW.size)⟩
              · have hjl : ml = j := by omega
                subst hjl
                go_wp2_with fail
                go_roundw
                case rel => exact ⟨q + 1, a + ml, by omega, by go_num, by go_num, HQ.next hqT HFT.out (l := L) (m := ml) (by rw [← HF.out, HL.out, HNN.out]) HLL.out HJ.out, hbx.trans (hb2.mono (by have := HS1.out; omega))⟩
                case measure => simp [intOf]; omega
          · go_wp2_with fail
            go_ret
            exact ⟨ret_i (BAD (RP2.func hqT (fun h => by rw [← HF.out] at h; exact hk1 (HKD.out.trans h.2.2)))), hbW⟩
        · have hql : fn = q := by omega
          subst hql
          have hfin := HQ.fin (by have := HFN.out; omega)
          have HFIN : Hid (chk T = decide (a = T.nodes.length)) := hfin
          clear hfin
          by_cases ha : a = nn
          · subst ha
            go_wp2_with fail
            go_ret
            exact ⟨ret_i (by rw [HR.out, HFIN.out, if_pos (by have := HNN.out; simpa using this)]), hbW⟩
          · go_wp2_with fail
            go_ret
            exact ⟨ret_i (BAD (by rw [HFIN.out]; have := HNN.out; simp; omega)), hbW⟩
end Go.Proofs.YtdeplodfpgnpgaaDoor
