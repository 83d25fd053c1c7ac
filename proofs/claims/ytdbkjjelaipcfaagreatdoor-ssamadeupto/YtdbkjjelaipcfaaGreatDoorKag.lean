import Derived.ArgAppend
import Derived.Test.YtdbkjjelaipcfaaGreatDoorKaf
set_option linter.unusedVariables false
set_option linter.unusedSimpArgs false
namespace Go.Proofs.YtdbkjjelaipcfaaGreatDoor
open Go.ChangeShapes Go.WideShapes Go.ChangeAt Go.RowKit Go.Maps
structure OwnQ (w : World) (B g o len cap : Nat) (L : List Int) : Prop where
 lo : B <= g
 ln : len = L.length
 lc : len <= cap
 row : ∃ cur, w.heap[g]? = some (.cells cur 3 (0, 0)) /\ (0 < cap -> o + cap <= cur.size) /\ ∀ i (h : i < L.length), cur[o + i]? = some (.int .i64 L[i])
theorem OwnQ.lt {w B g o len cap L} (h : OwnQ w B g o len cap L) : g < w.heap.size := by
 obtain ⟨cur, h1, _⟩ := h.row
 exact (gl h1)
theorem OwnQ.move {w w' : World} {B g o len cap L} (h : OwnQ w B g o len cap L) (hk : w'.heap[g]? = w.heap[g]?) : OwnQ w' B g o len cap L := by
 obtain ⟨cur, h1, h2⟩ := h.row
 exact ⟨h.lo, h.ln, h.lc, cur, hk.trans h1, h2⟩
theorem OwnQ.cell {w B g o len cap L} (h : OwnQ w B g o len cap L) {i : Nat} (hi : i < L.length) : w.cell? ⟨g, o + i, none⟩ = some (.int .i64 L[i]) := by
 obtain ⟨cur, h1, _, h3⟩ := h.row
 exact cell_arr h1 (h3 i hi)
theorem OwnQ.pop {w B g o len cap y} {L : List Int} (h : OwnQ w B g o (len + 1) cap (y :: L)) : OwnQ w B g (o + 1) len (cap - 1) L := by
 obtain ⟨cur, h1, h2, h3⟩ := h.row
 have hl := h.ln
 have hc := h.lc
 simp at hl
 refine ⟨h.lo, hl, by omega, cur, h1, fun _ => by have := h2 (by omega); omega, fun i hi => ?_⟩
 have := h3 (i + 1) (by simp; omega)
 rw [show o + 1 + i = o + (i + 1) by omega, this]
 simp
theorem OwnQ.zero {w B g o cap} (h : OwnQ w B g o 0 cap []) (o' : Nat) : OwnQ w B g o' 0 0 [] := by
 obtain ⟨cur, h1, h2, h3⟩ := h.row
 exact ⟨h.lo, rfl, Nat.le_refl _, cur, h1, fun h => absurd h (by omega), fun i hi => by simp at hi⟩
theorem run_append_q {w0 : World} (B g o len cap : Nat) (L : List Int) (ty : TypeId) (y : Int) (h : OwnQ w0 B g o len cap L) (hl : len + 1 <= 17592186044416) (hB : B <= w0.heap.size) :
 ∃ g' o' cap' w', (Builtin.append_ #[34, 34] ty #[.slice (some ⟨g, o, none⟩) len cap, .slice (some ⟨w0.heap.size, 0, none⟩) 1 1]).run Tryz.prog (w0.alloc (.cells #[.int .i64 y] 3)) = .ok (.slice (some ⟨g', o', none⟩) (len + 1) cap') w' /\ OwnQ w' B g' o' (len + 1) cap' (L ++ [y]) /\ Only (fun k => k = g) w0 w' /\ (g' = g \/ w0.heap.size <= g') := by
 obtain ⟨i0, hi, hz0, hz1, hz2⟩ := info_parts info3i
 obtain ⟨cur, h1, h2, h3⟩ := h.row
 have hgl := h.lt
 have ha : (w0.alloc (.cells #[.int .i64 y] 3)).heap[g]? = some (.cells cur 3 (0, 0)) := (heap_alloc_old _ _ hgl).trans h1
 by_cases hroom : len + 1 <= cap
 ·have hsz := h2 (by omega)
  have hr := run_append_room_cells (P := Tryz.prog) (w := w0.alloc (.cells #[.int .i64 y] 3)) 34 ty 3 i0 Tryz.underlying34 hi g o len cap ⟨w0.heap.size, 0, none⟩ 1 1 [.int .i64 y] (by rw [hz1]; rfl) (cell_one_newI _ _ _) (fun u hu => by simp at hu; subst hu; rfl) hroom (fun j hj => by
   simp at hj
   subst hj
   rw [hz1, Nat.mul_one, Nat.add_zero]
   have hlt : o + len < cur.size := by omega
   rw [cell_arr ha (Array.getElem?_eq_getElem hlt)]; rfl) (fun j hj => fz_of ha)
  rw [hz1, Nat.mul_one] at hr
  refine ⟨g, o, cap, _, hr, ?_, ?_, .inl rfl⟩
  ·have e : (w0.alloc (.cells #[.int .i64 y] 3)).setCells g (o + len) [.int .i64 y] = (w0.alloc (.cells #[.int .i64 y] 3)).setCell ⟨g, o + len, none⟩ (.int .i64 y) := by rfl
   rw [e]
   refine ⟨h.lo, by simp [h.ln], hroom, _, heap_set_at ha, fun _ => by simpa using hsz, fun i hi' => ?_⟩
   have hln := h.ln
   by_cases hil : i < L.length
   ·rw [Array.getElem?_setIfInBounds_ne (by omega), h3 i hil]
    simp [List.getElem_append_left hil]
   ·have hie : i = L.length := by simp at hi'; omega
    subst hie
    rw [hln, Array.getElem?_setIfInBounds_self_of_lt (by omega)]
    simp
  ·have e : (w0.alloc (.cells #[.int .i64 y] 3)).setCells g (o + len) [.int .i64 y] = (w0.alloc (.cells #[.int .i64 y] 3)).setCell ⟨g, o + len, none⟩ (.int .i64 y) := by rfl
   rw [e]
   exact only_set (Only.of_below ((Below.refl _ _).alloc (Nat.le_refl _) _) _) g (o + len) _ rfl
 ·have hr := run_append_grow (P := Tryz.prog) (w0.alloc (.cells #[.int .i64 y] 3)) 34 ty 3 i0 (.int .i64 0) Tryz.underlying34 hi hz0 ⟨g, o, none⟩ len cap (ivs L) (by rw [hz1]; simp [ivs, h.ln]) (fun j u hj => by
   have hjl : j < L.length := by have := (List.getElem?_eq_some_iff.1 hj).1; simpa [ivs] using this
   rw [add_none, cell_arr ha (h3 j hjl)]
   simp [ivs, hjl] at hj
   rw [hj]) ⟨w0.heap.size, 0, none⟩ 1 1 [.int .i64 y] (by rw [hz1]; rfl) (cell_one_newI _ _ _) (by omega) (by omega) (by rw [hz2]; exact growslice_fits (by omega) (by omega))
  have hge := grownCap_ge (w0.alloc (.cells #[.int .i64 y] 3)) (len + 1) cap 3
  refine ⟨_, _, _, _, hr, ⟨by simp; omega, by simp [h.ln], hge, _, heap_alloc_new (w0.alloc (.cells #[.int .i64 y] 3)).drew _, fun _ => ?_, fun i hi' => ?_⟩, ?_, .inr (by simp)⟩
  ·simp only [Array.size_append, List.size_toArray, size_zeroCells]
   simp [ivs, <- h.ln, Value.cells]
   omega
  ·rw [Nat.zero_add, Array.getElem?_append_left (by simp [ivs]; simp at hi'; omega)]
   have e : (ivs L).toArray ++ #[Value.int .i64 y] = (ivs (L ++ [y])).toArray := by simp [ivs]
   rw [e, ivs_at hi', gn_at hi']
  ·exact Only.of_below ((((Below.refl _ _).alloc (Nat.le_refl _) _).drew).alloc (by show w0.heap.size <= (w0.alloc (.cells #[.int .i64 y] 3)).heap.size; simp) _) _
def woIn (out : Int) (ml : List Int) (row : List Int) : List Int := row.foldl (fun m c => if c ≠ out /\ c ∉ m then m ++ [c] else m) ml
def woRun (Ls : List (List Int)) (out : Int) : Nat -> List Int -> Nat -> List Int
 | 0, ml, _ => ml
 | q + 1, ml, h => if h < ml.length then woRun Ls out q (woIn out ml (rowOf Ls (gn ml h))) (h + 1) else ml
def woP (Ls : List (List Int)) (out : Int) : List Int := if out = 0 then [] else woRun Ls out Ls.length [0] 0
theorem woIn_take (out : Int) (ml row : List Int) {j : Nat} (hj : j < row.length) : woIn out ml (row.take (j + 1)) = if row[j] ≠ out /\ row[j] ∉ woIn out ml (row.take j) then woIn out ml (row.take j) ++ [row[j]] else woIn out ml (row.take j) := by
 rw [<- List.take_append_getElem hj, woIn, List.foldl_append]
 rfl
structure WQ (n : Nat) (ml : List Int) : Prop where
 nd : ml.Nodup
 rng : ∀ x ∈ ml, 0 <= x /\ x < n
theorem WQ.le {n ml} (h : WQ n ml) : ml.length <= n := nodup_le n ml h.nd h.rng
theorem WQ.more {n ml x} (h : WQ n ml) (hx : x ∉ ml) (h0 : 0 <= x /\ x < (n : Int)) : WQ n (ml ++ [x]) := by
 refine ⟨List.nodup_append.2 ⟨h.nd, by simp, fun a ha c hc e => ?_⟩, fun y hy => ?_⟩
 ·simp at hc
  subst hc
  subst e
  exact hx ha
 ·rcases List.mem_append.1 hy with hy | hy
  ·exact h.rng y hy
  ·simp at hy; subst hy; exact h0
theorem wpList_append_q {w0 : World} {ops : Array Oper} {rest : List Oper} {op : Oper} {a : Act} {Q : Exit -> Act -> World -> Prop} (hgd : op.guard = none) (s x : Operand)
 (ho : op.op = .call { callee := .builtin .append, args := #[s, x], argTypes := #[34, 34] })
 (B g o len cap : Nat) (L : List Int) (y : Int) (hs : a.eval s = .slice (some ⟨g, o, none⟩) len cap) (hq : OwnQ w0 B g o len cap L) (hx : a.eval x = .slice (some ⟨w0.heap.size, 0, none⟩) 1 1)
 (hl : len + 1 <= 17592186044416) (hB : B <= w0.heap.size)
 (h : ∀ g' o' cap' w', OwnQ w' B g' o' (len + 1) cap' (L ++ [y]) -> Only (fun k => k = g) w0 w' -> (g' = g \/ w0.heap.size <= g') -> wpList Tryz.prog ops Q rest (a.put op.dst (.slice (some ⟨g', o', none⟩) (len + 1) cap')) w') : wpList Tryz.prog ops Q (op :: rest) a (w0.alloc (.cells #[.int .i64 y] 3)) := by
 obtain ⟨g', o', cap', w', hr, h1, h2, h3⟩ := run_append_q B g o len cap L op.type y hq hl hB
 refine wpList_plain hgd fun K hK => ?_
 unfold Oper.wp execOp
 simp only [ho, resolve, invoke, builtin, Sem.run_bind, Sem.run_pure, Result.andThen_ok, List.map_toArray, List.map_cons, List.map_nil, hs, hx, hr]
 exact hK _ _ (h g' o' cap' w' h1 h2 h3)
def MR (w : World) (gm n : Nat) (ml : List Int) : Prop := w.heap[gm]? = some (.cells ((rch n ml).map Value.bool).toArray 4 (0, 0))
theorem MR.set {w : World} {gm n b : Nat} {ml : List Int} (h : MR w gm n ml) : MR (w.setCell ⟨gm, b, none⟩ (.bool true)) gm n (ml ++ [(b : Int)]) := by
 have := heap_set_at (i := b) (v := .bool true) h
 unfold MR
 rw [this, <- rch_set]
 simp [List.map_set]
theorem MR.cell {w : World} {gm n b : Nat} {ml : List Int} (h : MR w gm n ml) (hb : b < n) : w.cell? ⟨gm, b, none⟩ = some (.bool (decide ((b : Int) ∈ ml))) := by
 refine cell_arr h ?_
 simp [rch, hb]
theorem wrun_least {Ls : List (List Int)} (hg : goodP Ls = true) (S : Int -> Prop) (hS : ∀ x, S x -> ∀ y ∈ rowOf Ls x, S y) : ∀ (k : Nat) (s : DS), WI Ls s -> (∀ x ∈ s.bl, S x) -> ∀ x ∈ (wrun Ls k s).bl, S x
 | 0, s, _, j => j
 | k + 1, s, h, j => by
   rw [wrun]
   split
   ·exact j
   ·next hne =>
    have hw : WI Ls (wstep Ls s) := by
     have := wrun_wi hg 1 s h
     rw [wrun, if_neg hne, wrun] at this
     exact this
    refine wrun_least hg S hS k _ hw ?_
    obtain ⟨bl, mt, op⟩ := s
    rcases List.eq_nil_or_concat op with he | ⟨st, ⟨b, t⟩, he⟩
    ·subst he; exact j
    ·rw [List.concat_eq_append] at he
     subst he
     cases e : fst0 bl ((rowOf Ls b).drop t) with
     | none =>
       have e2 : wstep Ls ⟨bl, mt, st ++ [(b, t)]⟩ = ⟨bl, mt, st⟩ := by simp [wstep, e]
       rw [e2]; exact j
     | some k =>
       have e2 : wstep Ls ⟨bl, mt, st ++ [(b, t)]⟩ = ⟨bl ++ [((rowOf Ls b).drop t).getD k 0], mt ++ [plc bl b], st ++ [(b, t + k + 1), (((rowOf Ls b).drop t).getD k 0, 0)]⟩ := by simp [wstep, e]
       rw [e2]
       intro x hx
       rcases List.mem_append.1 hx with hx | hx
       ·exact j x hx
       ·simp only [List.mem_singleton] at hx
        obtain ⟨h1, _, _⟩ := fst0_some e
        refine hS b (j b (h.ops (b, t) (by simp)).1) x ?_
        rw [hx, List.getD_eq_getElem?_getD, List.getElem?_eq_getElem h1]
        exact List.mem_of_mem_drop (List.getElem_mem h1)
theorem walkP_least {Ls : List (List Int)} (hg : goodP Ls = true) (S : Int -> Prop) (h0 : S 0) (hS : ∀ x, S x -> ∀ y ∈ rowOf Ls x, S y) : ∀ x ∈ (walkP Ls).bl, S x :=
 wrun_least hg S hS _ _ (WI.zero hg) fun x hx => by simp [ds0] at hx; subst hx; exact h0
theorem wrun_sub {Ls : List (List Int)} : ∀ (k : Nat) (s : DS), ∀ x ∈ s.bl, x ∈ (wrun Ls k s).bl
 | 0, s, x, hx => hx
 | k + 1, s, x, hx => by
   rw [wrun]
   split
   ·exact hx
   ·refine wrun_sub k _ x ?_
    obtain ⟨bl, mt, op⟩ := s
    rcases List.eq_nil_or_concat op with he | ⟨st, ⟨b, t⟩, he⟩
    ·subst he; exact hx
    ·rw [List.concat_eq_append] at he
     subst he
     cases e : fst0 bl ((rowOf Ls b).drop t) with
     | none => simpa [wstep, e] using hx
     | some k => simp only at hx; simp [wstep, e, hx]
theorem walkP_zero {Ls : List (List Int)} : (0 : Int) ∈ (walkP Ls).bl := wrun_sub _ _ 0 (by simp [ds0])
theorem woIn_spec {n : Nat} (out : Int) : ∀ (row ml : List Int), WQ n ml -> (∀ x ∈ row, 0 <= x /\ x < (n : Int)) ->
 (∃ e, woIn out ml row = ml ++ e /\ ∀ x ∈ e, x ∈ row /\ x ≠ out) /\ WQ n (woIn out ml row) /\ ∀ x ∈ row, x ≠ out -> x ∈ woIn out ml row
 | [], ml, h, _ => ⟨⟨[], by simp [woIn], by simp⟩, h, by simp⟩
 | c :: row, ml, h, hr => by
   have e0 : woIn out ml (c :: row) = woIn out (if c ≠ out /\ c ∉ ml then ml ++ [c] else ml) row := rfl
   rw [e0]
   by_cases hc : c ≠ out /\ c ∉ ml
   ·rw [if_pos hc]
    obtain ⟨⟨e, h1, h2⟩, h3, h4⟩ := woIn_spec out row (ml ++ [c]) (h.more hc.2 (hr c (by simp))) fun x hx => hr x (by simp [hx])
    refine ⟨⟨c :: e, by rw [h1]; simp, fun x hx => ?_⟩, h3, fun x hx hne => ?_⟩
    ·rcases List.mem_cons.1 hx with rfl | hx
     ·exact ⟨by simp, hc.1⟩
     ·exact ⟨by simp [(h2 x hx).1], (h2 x hx).2⟩
    ·rcases List.mem_cons.1 hx with rfl | hx
     ·rw [h1]; simp
     ·exact h4 x hx hne
   ·rw [if_neg hc]
    obtain ⟨⟨e, h1, h2⟩, h3, h4⟩ := woIn_spec out row ml h fun x hx => hr x (by simp [hx])
    refine ⟨⟨e, h1, fun x hx => ⟨by simp [(h2 x hx).1], (h2 x hx).2⟩⟩, h3, fun x hx hne => ?_⟩
    rcases List.mem_cons.1 hx with rfl | hx
    ·have : x ∈ ml := by by_cases hm : x ∈ ml; exact hm; exact absurd ⟨hne, hm⟩ hc
     rw [h1]; simp [this]
    ·exact h4 x hx hne
theorem goodP_rows {Ls : List (List Int)} (hg : goodP Ls = true) (b : Int) : ∀ x ∈ rowOf Ls b, 0 <= x /\ x < ((Ls.length : Nat) : Int) := by
 intro x hx
 by_cases hb : b.toNat < Ls.length
 ·have e : rowOf Ls b = Ls[b.toNat] := by simp [rowOf, hb]
  rw [e] at hx
  obtain ⟨j, hj, rfl⟩ := List.getElem_of_mem hx
  exact goodP_yes hg hb hj
 ·have e : rowOf Ls b = [] := by simp [rowOf, hb]
  rw [e] at hx; simp at hx
theorem woRun_spec {Ls : List (List Int)} (hg : goodP Ls = true) (out : Int) : ∀ (q : Nat) (ml : List Int) (h : Nat), WQ Ls.length ml -> h <= ml.length -> q = Ls.length - h ->
 (∀ i, i < h -> ∀ y ∈ rowOf Ls (gn ml i), y ≠ out -> y ∈ ml) ->
 (∀ x ∈ ml, x ∈ woRun Ls out q ml h) /\ WQ Ls.length (woRun Ls out q ml h) /\ (∀ x ∈ woRun Ls out q ml h, ∀ y ∈ rowOf Ls x, y ≠ out -> y ∈ woRun Ls out q ml h) /\
 ∀ S : Int -> Prop, (∀ x ∈ ml, S x) -> (∀ x, S x -> ∀ y ∈ rowOf Ls x, y ≠ out -> S y) -> ∀ x ∈ woRun Ls out q ml h, S x
 | q, ml, h, hw, hh, hq, hc => by
   by_cases he : h < ml.length
   ·obtain ⟨k, rfl⟩ : ∃ k, q = k + 1 := ⟨q - 1, by have := hw.le; omega⟩
    rw [woRun, if_pos he]
    obtain ⟨⟨e, h1, h2⟩, h3, h4⟩ := woIn_spec out (rowOf Ls (gn ml h)) ml hw (goodP_rows hg _)
    have hgn : ∀ i, i <= h -> gn (woIn out ml (rowOf Ls (gn ml h))) i = gn ml i := fun i hi => by rw [h1]; exact gn_app (by omega)
    obtain ⟨g1, g2, g3, g4⟩ := woRun_spec hg out k (woIn out ml (rowOf Ls (gn ml h))) (h + 1) h3 (by rw [h1]; simp; omega) (by omega) (fun i hi y hy hne => by
     rw [hgn i (by omega)] at hy
     by_cases e1 : i = h
     ·subst e1; exact h4 y hy hne
     ·rw [h1]; exact List.mem_append_left _ (hc i (by omega) y hy hne))
    refine ⟨fun x hx => g1 x (by rw [h1]; exact List.mem_append_left _ hx), g2, g3, fun S a b => g4 S (fun x hx => ?_) b⟩
    rw [h1] at hx
    rcases List.mem_append.1 hx with hx | hx
    ·exact a x hx
    ·refine b (gn ml h) (a _ ?_) x (h2 x hx).1 (h2 x hx).2
     have : gn ml h = ml[h] := by simp [gn, he]
     rw [this]; exact List.getElem_mem he
   ·have e : woRun Ls out q ml h = ml := by
     cases q with
     | zero => rfl
     | succ k => rw [woRun, if_neg he]
    rw [e]
    refine ⟨fun x hx => hx, hw, fun x hx y hy hne => ?_, fun S a _ => a⟩
    obtain ⟨i, hi, rfl⟩ := List.getElem_of_mem hx
    refine hc i (by omega) y ?_ hne
    have : gn ml i = ml[i] := by simp [gn, hi]
    rw [this]; exact hy
 termination_by q => q
theorem woP_spec {Ls : List (List Int)} (hg : goodP Ls = true) {out : Int} (ho : out ≠ 0) : (0 : Int) ∈ woP Ls out /\ WQ Ls.length (woP Ls out) /\ (∀ x ∈ woP Ls out, ∀ y ∈ rowOf Ls x, y ≠ out -> y ∈ woP Ls out) /\
 ∀ S : Int -> Prop, S 0 -> (∀ x, S x -> ∀ y ∈ rowOf Ls x, y ≠ out -> S y) -> ∀ x ∈ woP Ls out, S x := by
 have hp := goodP_pos hg
 obtain ⟨h1, h2, h3, h4⟩ := woRun_spec hg out Ls.length [0] 0 ⟨by simp, fun x hx => by simp at hx; subst hx; omega⟩ (by simp) (by omega) (fun i hi => by omega)
 unfold woP
 rw [if_neg ho]
 exact ⟨h1 0 (by simp), h2, h3, fun S a b => h4 S (fun x hx => by simp at hx; subst hx; exact a) b⟩
theorem woP_reach {Ls : List (List Int)} (hg : goodP Ls = true) (x : Int) : x ∈ woP Ls (-1) ↔ x ∈ (walkP Ls).bl := by
 obtain ⟨h1, h2, h3, h4⟩ := woP_spec hg (out := -1) (by omega)
 constructor
 ·exact h4 (· ∈ (walkP Ls).bl) walkP_zero (fun x hx y hy _ => walkP_closed hg x hx y hy) x
 ·exact walkP_least hg (· ∈ woP Ls (-1)) h1 (fun x hx y hy => h3 x hx y hy (by have := goodP_rows hg x y hy; omega)) x
end Go.Proofs.YtdbkjjelaipcfaaGreatDoor
