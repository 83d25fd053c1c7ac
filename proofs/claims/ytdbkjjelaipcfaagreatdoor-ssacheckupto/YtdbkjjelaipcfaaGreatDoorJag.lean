import Derived.ArgAppend
import Derived.Test.YtdbkjjelaipcfaaGreatDoorJaf
set_option linter.unusedVariables false
set_option linter.unusedSimpArgs false
namespace Go.Proofs.YtdbkjjelaipcfaaGreatDoor
open Go.ChangeShapes Go.WideShapes Go.ChangeAt Go.RowKit Go.Maps
structure OwnQ (w : World) (B g o len cap : Nat) (L : List Int) : Prop where
 lo : B <= g
 ln : len = L.length
 lc : len <= cap
 row : ∃ cur, w.heap[g]? = some (.cells cur 3 (0, 0)) /\ (0 < cap -> o + cap <= cur.size) /\ ∀ i (h : i < L.length), cur[o + i]? = some (.int .i64 L[i])
theorem OwnQ.lt {w B g o len cap L} (h : OwnQ w B g o len cap L) : g < w.heap.size := by
 obtain ⟨cur, h1, _⟩ := h.row
 exact (gl h1)
theorem OwnQ.move {w w' : World} {B g o len cap L} (h : OwnQ w B g o len cap L) (hk : w'.heap[g]? = w.heap[g]?) : OwnQ w' B g o len cap L := by
 obtain ⟨cur, h1, h2⟩ := h.row
 exact ⟨h.lo, h.ln, h.lc, cur, hk.trans h1, h2⟩
theorem OwnQ.cell {w B g o len cap L} (h : OwnQ w B g o len cap L) {i : Nat} (hi : i < L.length) : w.cell? ⟨g, o + i, none⟩ = some (.int .i64 L[i]) := by
 obtain ⟨cur, h1, _, h3⟩ := h.row
 exact cell_arr h1 (h3 i hi)
theorem OwnQ.pop {w B g o len cap y} {L : List Int} (h : OwnQ w B g o (len + 1) cap (y :: L)) : OwnQ w B g (o + 1) len (cap - 1) L := by
 obtain ⟨cur, h1, h2, h3⟩ := h.row
 have hl := h.ln
 have hc := h.lc
 simp at hl
 refine ⟨h.lo, hl, by omega, cur, h1, fun _ => by have := h2 (by omega); omega, fun i hi => ?_⟩
 have := h3 (i + 1) (by simp; omega)
 rw [show o + 1 + i = o + (i + 1) by omega, this]
 simp
theorem OwnQ.zero {w B g o cap} (h : OwnQ w B g o 0 cap []) (o' : Nat) : OwnQ w B g o' 0 0 [] := by
 obtain ⟨cur, h1, h2, h3⟩ := h.row
 exact ⟨h.lo, rfl, Nat.le_refl _, cur, h1, fun h => absurd h (by omega), fun i hi => by simp at hi⟩
theorem run_append_q {w0 : World} (B g o len cap : Nat) (L : List Int) (ty : TypeId) (y : Int) (h : OwnQ w0 B g o len cap L) (hl : len + 1 <= 17592186044416) (hB : B <= w0.heap.size) :
 ∃ g' o' cap' w', (Builtin.append_ #[34, 34] ty #[.slice (some ⟨g, o, none⟩) len cap, .slice (some ⟨w0.heap.size, 0, none⟩) 1 1]).run Tryz.prog (w0.alloc (.cells #[.int .i64 y] 3)) = .ok (.slice (some ⟨g', o', none⟩) (len + 1) cap') w' /\ OwnQ w' B g' o' (len + 1) cap' (L ++ [y]) /\ Only (fun k => k = g) w0 w' /\ (g' = g \/ w0.heap.size <= g') := by
 obtain ⟨i0, hi, hz0, hz1, hz2⟩ := info_parts info3i
 obtain ⟨cur, h1, h2, h3⟩ := h.row
 have hgl := h.lt
 have ha : (w0.alloc (.cells #[.int .i64 y] 3)).heap[g]? = some (.cells cur 3 (0, 0)) := (heap_alloc_old _ _ hgl).trans h1
 by_cases hroom : len + 1 <= cap
 ·have hsz := h2 (by omega)
  have hr := run_append_room_cells (P := Tryz.prog) (w := w0.alloc (.cells #[.int .i64 y] 3)) 34 ty 3 i0 Tryz.underlying34 hi g o len cap ⟨w0.heap.size, 0, none⟩ 1 1 [.int .i64 y] (by rw [hz1]; rfl) (cell_one_newI _ _ _) (fun u hu => by simp at hu; subst hu; rfl) hroom (fun j hj => by
   simp at hj
   subst hj
   rw [hz1, Nat.mul_one, Nat.add_zero]
   have hlt : o + len < cur.size := by omega
   rw [cell_arr ha (Array.getElem?_eq_getElem hlt)]; rfl) (fun j hj => fz_of ha)
  rw [hz1, Nat.mul_one] at hr
  refine ⟨g, o, cap, _, hr, ?_, ?_, .inl rfl⟩
  ·have e : (w0.alloc (.cells #[.int .i64 y] 3)).setCells g (o + len) [.int .i64 y] = (w0.alloc (.cells #[.int .i64 y] 3)).setCell ⟨g, o + len, none⟩ (.int .i64 y) := by rfl
   rw [e]
   refine ⟨h.lo, by simp [h.ln], hroom, _, heap_set_at ha, fun _ => by simpa using hsz, fun i hi' => ?_⟩
   have hln := h.ln
   by_cases hil : i < L.length
   ·rw [Array.getElem?_setIfInBounds_ne (by omega), h3 i hil]
    simp [List.getElem_append_left hil]
   ·have hie : i = L.length := by simp at hi'; omega
    subst hie
    rw [hln, Array.getElem?_setIfInBounds_self_of_lt (by omega)]
    simp
  ·have e : (w0.alloc (.cells #[.int .i64 y] 3)).setCells g (o + len) [.int .i64 y] = (w0.alloc (.cells #[.int .i64 y] 3)).setCell ⟨g, o + len, none⟩ (.int .i64 y) := by rfl
   rw [e]
   exact only_set (Only.of_below ((Below.refl _ _).alloc (Nat.le_refl _) _) _) g (o + len) _ rfl
 ·have hr := run_append_grow (P := Tryz.prog) (w0.alloc (.cells #[.int .i64 y] 3)) 34 ty 3 i0 (.int .i64 0) Tryz.underlying34 hi hz0 ⟨g, o, none⟩ len cap (ivs L) (by rw [hz1]; simp [ivs, h.ln]) (fun j u hj => by
   have hjl : j < L.length := by have := (List.getElem?_eq_some_iff.1 hj).1; simpa [ivs] using this
   rw [add_none, cell_arr ha (h3 j hjl)]
   simp [ivs, hjl] at hj
   rw [hj]) ⟨w0.heap.size, 0, none⟩ 1 1 [.int .i64 y] (by rw [hz1]; rfl) (cell_one_newI _ _ _) (by omega) (by omega) (by rw [hz2]; exact growslice_fits (by omega) (by omega))
  have hge := grownCap_ge (w0.alloc (.cells #[.int .i64 y] 3)) (len + 1) cap 3
  refine ⟨_, _, _, _, hr, ⟨by simp; omega, by simp [h.ln], hge, _, heap_alloc_new (w0.alloc (.cells #[.int .i64 y] 3)).drew _, fun _ => ?_, fun i hi' => ?_⟩, ?_, .inr (by simp)⟩
  ·simp only [Array.size_append, List.size_toArray, size_zeroCells]
   simp [ivs, <- h.ln, Value.cells]
   omega
  ·rw [Nat.zero_add, Array.getElem?_append_left (by simp [ivs]; simp at hi'; omega)]
   have e : (ivs L).toArray ++ #[Value.int .i64 y] = (ivs (L ++ [y])).toArray := by simp [ivs]
   rw [e, ivs_at hi', gn_at hi']
  ·exact Only.of_below ((((Below.refl _ _).alloc (Nat.le_refl _) _).drew).alloc (by show w0.heap.size <= (w0.alloc (.cells #[.int .i64 y] 3)).heap.size; simp) _) _
def woIn (out : Int) (ml : List Int) (row : List Int) : List Int := row.foldl (fun m c => if c ≠ out /\ c ∉ m then m ++ [c] else m) ml
def woRun (Ls : List (List Int)) (out : Int) : Nat -> List Int -> Nat -> List Int
 | 0, ml, _ => ml
 | q + 1, ml, h => if h < ml.length then woRun Ls out q (woIn out ml (rowOf Ls (gn ml h))) (h + 1) else ml
def woP (Ls : List (List Int)) (out : Int) : List Int := if out = 0 then [] else woRun Ls out Ls.length [0] 0
theorem woIn_take (out : Int) (ml row : List Int) {j : Nat} (hj : j < row.length) : woIn out ml (row.take (j + 1)) = if row[j] ≠ out /\ row[j] ∉ woIn out ml (row.take j) then woIn out ml (row.take j) ++ [row[j]] else woIn out ml (row.take j) := by
 rw [<- List.take_append_getElem hj, woIn, List.foldl_append]
 rfl
structure WQ (n : Nat) (ml : List Int) : Prop where
 nd : ml.Nodup
 rng : ∀ x ∈ ml, 0 <= x /\ x < n
theorem WQ.le {n ml} (h : WQ n ml) : ml.length <= n := nodup_le n ml h.nd h.rng
theorem WQ.more {n ml x} (h : WQ n ml) (hx : x ∉ ml) (h0 : 0 <= x /\ x < (n : Int)) : WQ n (ml ++ [x]) := by
 refine ⟨List.nodup_append.2 ⟨h.nd, by simp, fun a ha c hc e => ?_⟩, fun y hy => ?_⟩
 ·simp at hc
  subst hc
  subst e
  exact hx ha
 ·rcases List.mem_append.1 hy with hy | hy
  ·exact h.rng y hy
  ·simp at hy; subst hy; exact h0
theorem wpList_append_q {w0 : World} {ops : Array Oper} {rest : List Oper} {op : Oper} {a : Act} {Q : Exit -> Act -> World -> Prop} (hgd : op.guard = none) (s x : Operand)
 (ho : op.op = .call { callee := .builtin .append, args := #[s, x], argTypes := #[34, 34] })
 (B g o len cap : Nat) (L : List Int) (y : Int) (hs : a.eval s = .slice (some ⟨g, o, none⟩) len cap) (hq : OwnQ w0 B g o len cap L) (hx : a.eval x = .slice (some ⟨w0.heap.size, 0, none⟩) 1 1)
 (hl : len + 1 <= 17592186044416) (hB : B <= w0.heap.size)
 (h : ∀ g' o' cap' w', OwnQ w' B g' o' (len + 1) cap' (L ++ [y]) -> Only (fun k => k = g) w0 w' -> (g' = g \/ w0.heap.size <= g') -> wpList Tryz.prog ops Q rest (a.put op.dst (.slice (some ⟨g', o', none⟩) (len + 1) cap')) w') : wpList Tryz.prog ops Q (op :: rest) a (w0.alloc (.cells #[.int .i64 y] 3)) := by
 obtain ⟨g', o', cap', w', hr, h1, h2, h3⟩ := run_append_q B g o len cap L op.type y hq hl hB
 refine wpList_plain hgd fun K hK => ?_
 unfold Oper.wp execOp
 simp only [ho, resolve, invoke, builtin, Sem.run_bind, Sem.run_pure, Result.andThen_ok, List.map_toArray, List.map_cons, List.map_nil, hs, hx, hr]
 exact hK _ _ (h g' o' cap' w' h1 h2 h3)
def MR (w : World) (gm n : Nat) (ml : List Int) : Prop := w.heap[gm]? = some (.cells ((rch n ml).map Value.bool).toArray 4 (0, 0))
theorem MR.set {w : World} {gm n b : Nat} {ml : List Int} (h : MR w gm n ml) : MR (w.setCell ⟨gm, b, none⟩ (.bool true)) gm n (ml ++ [(b : Int)]) := by
 have := heap_set_at (i := b) (v := .bool true) h
 unfold MR
 rw [this, <- rch_set]
 simp [List.map_set]
theorem MR.cell {w : World} {gm n b : Nat} {ml : List Int} (h : MR w gm n ml) (hb : b < n) : w.cell? ⟨gm, b, none⟩ = some (.bool (decide ((b : Int) ∈ ml))) := by
 refine cell_arr h ?_
 simp [rch, hb]
structure QH (w wr : World) (B gm n : Nat) (Ls : List (List Int)) (out : Int) (q : Nat) (ml : List Int) (h g o l cap : Nat) (R : List Int) : Prop where
 que : OwnQ wr (B + 1) g o l cap (ml.drop h)
 met : MR wr gm n ml
 wq : WQ n ml
 run : woRun Ls out q ml h = R
 hq : q = n - h
 hh : h <= ml.length
 bel : Below B w wr
 lo : B <= gm
structure QI (w wr : World) (B gm n : Nat) (out : Int) (ml0 row : List Int) (h j : Nat) (ml : List Int) (g o l cap : Nat) : Prop where
 que : OwnQ wr (B + 1) g o l cap (ml.drop (h + 1))
 met : MR wr gm n ml
 wq : WQ n ml
 run : ml = woIn out ml0 (row.take j)
 hh : h + 1 <= ml.length
 bel : Below B w wr
set_option maxRecDepth 100000 in
set_option maxHeartbeats 4000000 in
theorem without_any (w : World) (ao : Option Addr) (n c : Nat) (Ls : List (List Int)) (hn : n = Ls.length) (hI : IRow w ao c Ls) (hg : goodP Ls = true) (hsz : n <= 100000000) (out : Int) :
 Calls Tryz.prog 89 #[.slice ao n c, .int .i64 out] w fun e w' => ∃ v, e = .returned v /\ OwnBl w' w.heap.size v n (rch n (woP Ls out)) /\ Below w.heap.size w w' := by
 have hmk := run_make_row' (P := Tryz.prog) 70 4 (.bool false) 1 Tryz.underlying70 infoBool rfl .i64 .i64 n (by omega) (by omega)
 have hpos : 0 < n := by have := goodP_pos hg; omega
 obtain ⟨w1, hw1⟩ : ∃ w1, w1 = w.alloc (.cells (madeCells #[.bool false] n) 4) := ⟨_, rfl⟩
 replace hmk := hmk w
 rw [<- hw1] at hmk
 have M1 : MR w1 w.heap.size n [] := by
  unfold MR
  have e : madeCells #[.bool false] n = ((rch n []).map Value.bool).toArray := by
   apply Array.toList_inj.1
   rw [toList_madeCells_one, rch_nil]
   simp
  rw [hw1, e]; exact heap_alloc_new _ _
 have b1 : Below w.heap.size w w1 := by rw [hw1]; exact (Below.refl _ _).alloc (Nat.le_refl _) _
 have hs1 : w1.heap.size = w.heap.size + 1 := by rw [hw1]; simp
 have HN : Hid (n = Ls.length) := hn
 have HI : Hid _ := hI
 have HG : Hid (goodP Ls = true) := hg
 have OB : ∀ (w' : World) (ml : List Int), MR w' w.heap.size n ml -> OwnBl w' w.heap.size (.slice (some ⟨w.heap.size, 0, none⟩) n n) n (rch n ml) := fun w' ml h =>
  ⟨(rch_len n ml).symm, by simp [rch_len], .inr ⟨w.heap.size, n, _, rfl, Nat.le_refl _, h, Nat.le_refl _, by unfold maxLen; omega, by simp [rch_len], List.take_of_length_le (by simp [rch_len])⟩⟩
 have HOB : Hid _ := OB
 have HM1 : Hid _ := M1
 have HB1 : Hid _ := b1
 clear hn hI hg OB M1 b1 hw1
 by_cases ho : out = 0
 ·have HW : Hid (woP Ls out = []) := by show _ = _; unfold woP; rw [if_pos ho]
  go_enter Tryz.func89, Tryz.ntmps89
  go_wp2_with fail
  go_ret
  rw [HW.out]
  exact ⟨_, rfl, HOB.out w1 [] HM1.out, HB1.out⟩
 ·have HW : Hid (woP Ls out = woRun Ls out n [0] 0) := by show _ = _; unfold woP; rw [if_neg ho, HN.out]
  obtain ⟨z0, k0⟩ : ∃ z, w1.cell? ⟨w.heap.size, 0, none⟩ = some z := ⟨_, MR.cell HM1.out hpos⟩
  have f0 : w1.frozen? ⟨w.heap.size, 0, none⟩ = false := fz_of HM1.out
  obtain ⟨gm, hgm⟩ : ∃ gm, gm = w.heap.size := ⟨_, rfl⟩
  obtain ⟨R, hR⟩ : ∃ R, R = woRun Ls out n [0] 0 := ⟨_, rfl⟩
  have hst : QH w ((w1.setCell ⟨gm, 0, none⟩ (.bool true)).alloc (.cells #[.int .i64 0] 3)) w.heap.size gm n Ls out n [0] 0 w1.heap.size 0 1 1 R := by
   have hgl : gm < w1.heap.size := by omega
   have hs2 : (w1.setCell ⟨gm, 0, none⟩ (.bool true)).heap.size = w1.heap.size := by simp [World.setCell]
   refine ⟨⟨by omega, rfl, Nat.le_refl _, #[.int .i64 0], ?_, fun _ => by simp, fun i hi => ?_⟩, ?_, ⟨by simp, fun x hx => by simp at hx; subst hx; omega⟩, hR.symm, by omega, by simp, ?_, by omega⟩
   ·rw [<- hs2]; exact heap_alloc_new _ _
   ·simp at hi; subst hi; rfl
   ·unfold MR
    rw [heap_alloc_old _ _ (by rw [hs2]; exact hgl)]
    have := MR.set (b := 0) HM1.out
    rw [hgm]; exact this
   ·exact (HB1.out.setCell (by show w.heap.size <= gm; omega) _).alloc (by rw [hs2]; omega) _
  have HST : Hid _ := hst
  rw [<- hgm] at k0 f0 hmk
  have HR : Hid (R = woRun Ls out n [0] 0) := hR
  have HGM : Hid (gm = w.heap.size) := hgm
  have HS1 : Hid (w1.heap.size = w.heap.size + 1) := hs1
  clear hst hR hgm hs1
  go_enter Tryz.func89, Tryz.ntmps89
  go_wp2_with fail
  rw [show (out == 0) = false by simp [ho]]
  go_loopg [6] n (fun q ov wr => ∃ (ml : List Int) (h g o l cap : Nat), ov = .slice (some ⟨g, o, none⟩) l cap /\ Hid (QH w wr w.heap.size gm n Ls out q ml h g o l cap R))
  case atStart => exact ⟨[0], 0, _, _, _, _, rfl, HST.out⟩
  case round =>
   clear HST
   obtain ⟨ml, hd, g, o, l, cap, rfl, HH⟩ := hrel
   by_cases he : hd < ml.length
   ·obtain ⟨x, hx⟩ : ∃ x, x = ml[hd] := ⟨_, rfl⟩
    obtain ⟨L, hL⟩ : ∃ L, L = ml.drop (hd + 1) := ⟨_, rfl⟩
    have hdr : ml.drop hd = x :: L := by rw [hx, hL]; exact List.drop_eq_getElem_cons he
    have HQ := HH.out.que
    rw [hdr] at HQ
    obtain ⟨k, rfl⟩ : ∃ k, l = k + 1 := ⟨L.length, by have := HQ.ln; simpa using this⟩
    have hxr := HH.out.wq.rng x (hx ▸ List.getElem_mem he)
    obtain ⟨bn, rfl⟩ : ∃ bn : Nat, x = (bn : Int) := ⟨x.toNat, by have := hxr.1; omega⟩
    have hbn2 : bn < n := by have := hxr.2; omega
    have hbn : bn < Ls.length := by have := HN.out; omega
    have kq : wr.cell? ⟨g, o, none⟩ = some (.int .i64 (bn : Int)) := HQ.cell (i := 0) (by simp)
    have fq : wr.frozen? ⟨g, o, none⟩ = false := by obtain ⟨cur, h1, _⟩ := HQ.row; exact fz_of h1
    have hkc : k + 1 <= cap := HQ.lc
    obtain ⟨rb, ro, ar, cr, rfl, krw, hIr⟩ := HI.out.at hbn
    have kr := (HH.out.bel.cell (p := ⟨rb, ro + bn, none⟩) (block_lt_of_cell krw)).trans krw
    obtain ⟨G, rfl⟩ : ∃ G, gk = G + 1 := ⟨gk - 1, by have := HH.out.hq; have := HH.out.wq.le; omega⟩
    obtain ⟨row, hrow⟩ : ∃ row, row = Ls[bn] := ⟨_, rfl⟩
    rw [<- hrow] at kr hIr
    have HXE : Hid ((bn : Int) = ml[hd]) := hx
    have HLE : Hid (L = ml.drop (hd + 1)) := hL
    have HIR : Hid _ := hIr
    have HRO : Hid (row = Ls[bn]) := hrow
    have HP : Hid (OwnQ wr (w.heap.size + 1) g (o + 1) k (cap - 1) L) := HQ.pop
    have HKR : Hid (w.cell? ⟨rb, ro + bn, none⟩ = some (.slice ar row.length cr)) := hrow ▸ krw
    have HP0 : Hid (cap = 1 -> OwnQ wr (w.heap.size + 1) g o k 0 L) := fun e => by
     have h1 := HQ.pop
     obtain rfl : k = 0 := by omega
     have h2 : L = [] := List.eq_nil_of_length_eq_zero h1.ln.symm
     rw [h2] at h1 ⊢
     exact h1.zero o
    obtain ⟨rl, hrl⟩ : ∃ rl, rl = row.length := ⟨_, rfl⟩
    rw [<- hrl] at kr HKR
    have HRL : Hid (rl = row.length) := hrl
    have QI0 : Hid (∀ o' c', OwnQ wr (w.heap.size + 1) g o' k c' L -> QI w wr w.heap.size gm n out ml row hd 0 ml g o' k c') := fun o' c' h1 =>
     ⟨by rw [<- hL]; exact h1, HH.out.met, HH.out.wq, by simp [woIn], he, HH.out.bel⟩
    have hcr : rl <= cr := by have := hIr.le; omega
    have hcr2 : cr <= 9223372036854775807 := hIr.mx
    clear hx hL hdr HQ hIr krw hrow hxr hrl
    go_wp2_with fail
    all_goals
     go_loopg [6, 8] rl (fun q ov iv wr' => ∃ (j : Nat) (ml' : List Int) (g' o' l' cap' : Nat), j <= rl /\ q = rl - j /\ ov = .slice (some ⟨g', o', none⟩) l' cap' /\ iv = .int .i64 (j : Int) /\ Hid (QI w wr' w.heap.size gm n out ml row hd j ml' g' o' l' cap'))
     case atStart => first | exact ⟨0, ml, _, _, _, _, by omega, by omega, rfl, rfl, QI0.out _ _ HP.out⟩ | exact ⟨0, ml, _, _, _, _, by omega, by omega, rfl, rfl, QI0.out _ _ (HP0.out (by assumption))⟩
     case round =>
      obtain ⟨j, ml', g', o', l', cap', hj, rfl, rfl, rfl, HL⟩ := hrel
      clear kq fq
      replace kr := (HL.out.bel.cell (p := ⟨rb, ro + bn, none⟩) (by obtain ⟨_, _, _, _, e, k2, _⟩ := HI.out.at hbn; cases e; exact block_lt_of_cell k2)).trans (HKR.out)
      by_cases hlt : j < rl
      ·have hjr : j < row.length := by have := HRL.out; omega
       obtain ⟨x, hx⟩ : ∃ x, x = row[j] := ⟨_, rfl⟩
       obtain ⟨xb, xo, rfl, kc⟩ := HIR.out.at hjr
       have kx : wr.cell? ⟨xb, xo + j, none⟩ = some (.int .i64 x) := by
        rw [hx]
        exact (HL.out.bel.cell (p := ⟨xb, xo + j, none⟩) (block_lt_of_cell kc)).trans kc
       have hxr : 0 <= x /\ x < Ls.length := by
        have h1 := goodP_yes HG.out hbn (j := j) (by rw [<- HRO.out]; exact hjr)
        simp only [<- HRO.out] at h1
        rw [hx]; exact h1
       obtain ⟨xn, rfl⟩ : ∃ xn : Nat, x = (xn : Int) := ⟨x.toNat, by have := hxr.1; omega⟩
       have hxn : xn < n := by have := hxr.2; have := HN.out; omega
       have km := MR.cell HL.out.met hxn
       have fm : wr.frozen? ⟨gm, xn, none⟩ = false := fz_of HL.out.met
       have HX : Hid ((xn : Int) = row[j]) := hx
       clear hx kc hxr
       have STAY : ¬ ((xn : Int) ≠ out /\ (xn : Int) ∉ ml') -> QI w wr w.heap.size gm n out ml row hd (j + 1) ml' g' o' l' cap' := fun hno => by
        refine ⟨HL.out.que, HL.out.met, HL.out.wq, ?_, HL.out.hh, HL.out.bel⟩
        rw [woIn_take _ _ _ hjr, <- HL.out.run, <- HX.out, if_neg hno]
       have HSTAY : Hid _ := STAY
       clear STAY
       by_cases hxo : (xn : Int) = out
       ·have hq : ((xn : Int) == out) = true := by simp [hxo]
        go_wp2_with fail
        go_roundg (rl - (j + 1))
        case rel => exact ⟨j + 1, ml', _, _, _, _, by omega, rfl, rfl, by go_num, HSTAY.out fun e => e.1 hxo⟩
        case measure => omega
       ·have hq : ((xn : Int) == out) = false := by simp [hxo]
        by_cases hxm : (xn : Int) ∈ ml'
        ·rw [decide_eq_true hxm] at km
         go_wp2_with fail
         go_roundg (rl - (j + 1))
         case rel => exact ⟨j + 1, ml', _, _, _, _, by omega, rfl, rfl, by go_num, HSTAY.out fun e => e.2 hxm⟩
         case measure => omega
        ·rw [decide_eq_false hxm] at km
         clear HSTAY
         obtain ⟨w2, hw2⟩ : ∃ w2, w2 = wr.setCell ⟨gm, xn, none⟩ (.bool true) := ⟨_, rfl⟩
         have hgg : g' ≠ gm := by have := HL.out.que.lo; have := HGM.out; omega
         have Q2 : OwnQ w2 (w.heap.size + 1) g' o' l' cap' (ml'.drop (hd + 1)) := HL.out.que.move (by rw [hw2]; exact heap_set_other hgg)
         have M2 : MR w2 gm n (ml' ++ [(xn : Int)]) := by rw [hw2]; exact MR.set HL.out.met
         have B2 : Below w.heap.size w w2 := by rw [hw2]; exact HL.out.bel.setCell (by have := HGM.out; show w.heap.size <= gm; omega) _
         have hB2 : w.heap.size + 1 <= w2.heap.size := by have := Q2.lt; have := Q2.lo; omega
         have HS2 : Hid (w2.heap.size = wr.heap.size) := by show w2.heap.size = _; rw [hw2]; simp [World.setCell]
         have hl2 : l' + 1 <= 17592186044416 := by have := Q2.ln; simp at this; have := HL.out.wq.le; omega
         have NEXT : ∀ g2 o2 c2 w3, OwnQ w3 (w.heap.size + 1) g2 o2 (l' + 1) c2 (ml'.drop (hd + 1) ++ [(xn : Int)]) -> Only (fun k => k = g') w2 w3 -> QI w w3 w.heap.size gm n out ml row hd (j + 1) (ml' ++ [(xn : Int)]) g2 o2 (l' + 1) c2 := by
          intro g2 o2 c2 w3 h1 h2
          refine ⟨?_, ?_, HL.out.wq.more hxm (by omega), ?_, by have := HL.out.hh; simp; omega, B2.trans (h2.below (by omega) fun k e => by have := Q2.lo; omega)⟩
          ·rw [List.drop_append_of_le_length HL.out.hh]; exact h1
          ·unfold MR at M2 ⊢
           rw [h2.block gm (by have := HGM.out; omega) fun e => hgg e.symm]
           exact M2
          ·rw [woIn_take _ _ _ hjr, <- HL.out.run, <- HX.out, if_pos ⟨hxo, hxm⟩]
         have HNX : Hid _ := NEXT
         have HQ2 : Hid _ := Q2
         have HE2 : Hid (w2 = wr.setCell ⟨gm, xn, none⟩ (.bool true)) := hw2
         clear NEXT Q2 M2 B2 hw2
         go_wp2_with (first
          | (at_builtin; rw [<- HE2.out]; refine wpList_append_q (w0 := w2) rfl _ _ rfl (w.heap.size + 1) g' o' l' cap' (ml'.drop (hd + 1)) (xn : Int) rfl HQ2.out (by rw [HS2.out]; rfl) hl2 hB2 ?_; intro g2 o2 c2 w3 h1 h2 _
             have H7 : Hid _ := HNX.out g2 o2 c2 w3 h1 h2
             clear h1 h2 HNX)
          | go_in)
         go_roundg (rl - (j + 1))
         case rel => exact ⟨j + 1, ml' ++ [(xn : Int)], _, _, _, _, by omega, rfl, rfl, by go_num, H7.out⟩
         case measure => omega
      ·have hjr : j = rl := by omega
       subst hjr
       have HNX : Hid (QH w wr w.heap.size gm n Ls out G ml' (hd + 1) g' o' l' cap' R) := by
        have hr := HH.out.run
        rw [woRun, if_pos he] at hr
        have e1 : rowOf Ls (gn ml hd) = row := by
         rw [HRO.out]
         have e2 : gn ml hd = (bn : Int) := by rw [HXE.out]; simp [gn, he]
         rw [e2]
         simp [rowOf, hbn]
        have e3 := HL.out.run
        rw [List.take_of_length_le (by have := HRL.out; omega)] at e3
        rw [e1, <- e3] at hr
        exact ⟨HL.out.que, HL.out.met, HL.out.wq, hr, by have := HH.out.hq; omega, HL.out.hh, HL.out.bel, HH.out.lo⟩
       go_wp2_with fail
       go_roundg G
       case rel => exact ⟨ml', hd + 1, _, _, _, _, rfl, HNX.out⟩
       case measure => omega
   ·have e0 : l = 0 := by have := HH.out.que.ln; simp at this; omega
    subst e0
    have eR : R = ml := by
     rw [<- HH.out.run]
     cases gk with
     | zero => rfl
     | succ k => rw [woRun, if_neg he]
    have HER : Hid (R = ml) := eR
    clear eR
    go_wp2_with fail
    try rw [Exit.noGoto_ret]
    go_ret
    rw [HW.out, <- HR.out, HER.out]
    have hb := HH.out.met
    have hv := HOB.out wr ml (by rw [<- HGM.out]; exact hb)
    rw [<- HGM.out] at hv
    exact ⟨_, rfl, by rw [<- HGM.out]; exact hv, HH.out.bel⟩
theorem wrun_least {Ls : List (List Int)} (hg : goodP Ls = true) (S : Int -> Prop) (hS : ∀ x, S x -> ∀ y ∈ rowOf Ls x, S y) : ∀ (k : Nat) (s : DS), WI Ls s -> (∀ x ∈ s.bl, S x) -> ∀ x ∈ (wrun Ls k s).bl, S x
 | 0, s, _, j => j
 | k + 1, s, h, j => by
   rw [wrun]
   split
   ·exact j
   ·next hne =>
    have hw : WI Ls (wstep Ls s) := by
     have := wrun_wi hg 1 s h
     rw [wrun, if_neg hne, wrun] at this
     exact this
    refine wrun_least hg S hS k _ hw ?_
    obtain ⟨bl, mt, op⟩ := s
    rcases List.eq_nil_or_concat op with he | ⟨st, ⟨b, t⟩, he⟩
    ·subst he; exact j
    ·rw [List.concat_eq_append] at he
     subst he
     cases e : fst0 bl ((rowOf Ls b).drop t) with
     | none =>
       have e2 : wstep Ls ⟨bl, mt, st ++ [(b, t)]⟩ = ⟨bl, mt, st⟩ := by simp [wstep, e]
       rw [e2]; exact j
     | some k =>
       have e2 : wstep Ls ⟨bl, mt, st ++ [(b, t)]⟩ = ⟨bl ++ [((rowOf Ls b).drop t).getD k 0], mt ++ [plc bl b], st ++ [(b, t + k + 1), (((rowOf Ls b).drop t).getD k 0, 0)]⟩ := by simp [wstep, e]
       rw [e2]
       intro x hx
       rcases List.mem_append.1 hx with hx | hx
       ·exact j x hx
       ·simp only [List.mem_singleton] at hx
        obtain ⟨h1, _, _⟩ := fst0_some e
        refine hS b (j b (h.ops (b, t) (by simp)).1) x ?_
        rw [hx, List.getD_eq_getElem?_getD, List.getElem?_eq_getElem h1]
        exact List.mem_of_mem_drop (List.getElem_mem h1)
theorem walkP_least {Ls : List (List Int)} (hg : goodP Ls = true) (S : Int -> Prop) (h0 : S 0) (hS : ∀ x, S x -> ∀ y ∈ rowOf Ls x, S y) : ∀ x ∈ (walkP Ls).bl, S x :=
 wrun_least hg S hS _ _ (WI.zero hg) fun x hx => by simp [ds0] at hx; subst hx; exact h0
theorem wrun_sub {Ls : List (List Int)} : ∀ (k : Nat) (s : DS), ∀ x ∈ s.bl, x ∈ (wrun Ls k s).bl
 | 0, s, x, hx => hx
 | k + 1, s, x, hx => by
   rw [wrun]
   split
   ·exact hx
   ·refine wrun_sub k _ x ?_
    obtain ⟨bl, mt, op⟩ := s
    rcases List.eq_nil_or_concat op with he | ⟨st, ⟨b, t⟩, he⟩
    ·subst he; exact hx
    ·rw [List.concat_eq_append] at he
     subst he
     cases e : fst0 bl ((rowOf Ls b).drop t) with
     | none => simpa [wstep, e] using hx
     | some k => simp only at hx; simp [wstep, e, hx]
theorem walkP_zero {Ls : List (List Int)} : (0 : Int) ∈ (walkP Ls).bl := wrun_sub _ _ 0 (by simp [ds0])
theorem woIn_spec {n : Nat} (out : Int) : ∀ (row ml : List Int), WQ n ml -> (∀ x ∈ row, 0 <= x /\ x < (n : Int)) ->
 (∃ e, woIn out ml row = ml ++ e /\ ∀ x ∈ e, x ∈ row /\ x ≠ out) /\ WQ n (woIn out ml row) /\ ∀ x ∈ row, x ≠ out -> x ∈ woIn out ml row
 | [], ml, h, _ => ⟨⟨[], by simp [woIn], by simp⟩, h, by simp⟩
 | c :: row, ml, h, hr => by
   have e0 : woIn out ml (c :: row) = woIn out (if c ≠ out /\ c ∉ ml then ml ++ [c] else ml) row := rfl
   rw [e0]
   by_cases hc : c ≠ out /\ c ∉ ml
   ·rw [if_pos hc]
    obtain ⟨⟨e, h1, h2⟩, h3, h4⟩ := woIn_spec out row (ml ++ [c]) (h.more hc.2 (hr c (by simp))) fun x hx => hr x (by simp [hx])
    refine ⟨⟨c :: e, by rw [h1]; simp, fun x hx => ?_⟩, h3, fun x hx hne => ?_⟩
    ·rcases List.mem_cons.1 hx with rfl | hx
     ·exact ⟨by simp, hc.1⟩
     ·exact ⟨by simp [(h2 x hx).1], (h2 x hx).2⟩
    ·rcases List.mem_cons.1 hx with rfl | hx
     ·rw [h1]; simp
     ·exact h4 x hx hne
   ·rw [if_neg hc]
    obtain ⟨⟨e, h1, h2⟩, h3, h4⟩ := woIn_spec out row ml h fun x hx => hr x (by simp [hx])
    refine ⟨⟨e, h1, fun x hx => ⟨by simp [(h2 x hx).1], (h2 x hx).2⟩⟩, h3, fun x hx hne => ?_⟩
    rcases List.mem_cons.1 hx with rfl | hx
    ·have : x ∈ ml := by by_cases hm : x ∈ ml; exact hm; exact absurd ⟨hne, hm⟩ hc
     rw [h1]; simp [this]
    ·exact h4 x hx hne
theorem goodP_rows {Ls : List (List Int)} (hg : goodP Ls = true) (b : Int) : ∀ x ∈ rowOf Ls b, 0 <= x /\ x < ((Ls.length : Nat) : Int) := by
 intro x hx
 by_cases hb : b.toNat < Ls.length
 ·have e : rowOf Ls b = Ls[b.toNat] := by simp [rowOf, hb]
  rw [e] at hx
  obtain ⟨j, hj, rfl⟩ := List.getElem_of_mem hx
  exact goodP_yes hg hb hj
 ·have e : rowOf Ls b = [] := by simp [rowOf, hb]
  rw [e] at hx; simp at hx
theorem woRun_spec {Ls : List (List Int)} (hg : goodP Ls = true) (out : Int) : ∀ (q : Nat) (ml : List Int) (h : Nat), WQ Ls.length ml -> h <= ml.length -> q = Ls.length - h ->
 (∀ i, i < h -> ∀ y ∈ rowOf Ls (gn ml i), y ≠ out -> y ∈ ml) ->
 (∀ x ∈ ml, x ∈ woRun Ls out q ml h) /\ WQ Ls.length (woRun Ls out q ml h) /\ (∀ x ∈ woRun Ls out q ml h, ∀ y ∈ rowOf Ls x, y ≠ out -> y ∈ woRun Ls out q ml h) /\
 ∀ S : Int -> Prop, (∀ x ∈ ml, S x) -> (∀ x, S x -> ∀ y ∈ rowOf Ls x, y ≠ out -> S y) -> ∀ x ∈ woRun Ls out q ml h, S x
 | q, ml, h, hw, hh, hq, hc => by
   by_cases he : h < ml.length
   ·obtain ⟨k, rfl⟩ : ∃ k, q = k + 1 := ⟨q - 1, by have := hw.le; omega⟩
    rw [woRun, if_pos he]
    obtain ⟨⟨e, h1, h2⟩, h3, h4⟩ := woIn_spec out (rowOf Ls (gn ml h)) ml hw (goodP_rows hg _)
    have hgn : ∀ i, i <= h -> gn (woIn out ml (rowOf Ls (gn ml h))) i = gn ml i := fun i hi => by rw [h1]; exact gn_app (by omega)
    obtain ⟨g1, g2, g3, g4⟩ := woRun_spec hg out k (woIn out ml (rowOf Ls (gn ml h))) (h + 1) h3 (by rw [h1]; simp; omega) (by omega) (fun i hi y hy hne => by
     rw [hgn i (by omega)] at hy
     by_cases e1 : i = h
     ·subst e1; exact h4 y hy hne
     ·rw [h1]; exact List.mem_append_left _ (hc i (by omega) y hy hne))
    refine ⟨fun x hx => g1 x (by rw [h1]; exact List.mem_append_left _ hx), g2, g3, fun S a b => g4 S (fun x hx => ?_) b⟩
    rw [h1] at hx
    rcases List.mem_append.1 hx with hx | hx
    ·exact a x hx
    ·refine b (gn ml h) (a _ ?_) x (h2 x hx).1 (h2 x hx).2
     have : gn ml h = ml[h] := by simp [gn, he]
     rw [this]; exact List.getElem_mem he
   ·have e : woRun Ls out q ml h = ml := by
     cases q with
     | zero => rfl
     | succ k => rw [woRun, if_neg he]
    rw [e]
    refine ⟨fun x hx => hx, hw, fun x hx y hy hne => ?_, fun S a _ => a⟩
    obtain ⟨i, hi, rfl⟩ := List.getElem_of_mem hx
    refine hc i (by omega) y ?_ hne
    have : gn ml i = ml[i] := by simp [gn, hi]
    rw [this]; exact hy
 termination_by q => q
theorem woP_spec {Ls : List (List Int)} (hg : goodP Ls = true) {out : Int} (ho : out ≠ 0) : (0 : Int) ∈ woP Ls out /\ WQ Ls.length (woP Ls out) /\ (∀ x ∈ woP Ls out, ∀ y ∈ rowOf Ls x, y ≠ out -> y ∈ woP Ls out) /\
 ∀ S : Int -> Prop, S 0 -> (∀ x, S x -> ∀ y ∈ rowOf Ls x, y ≠ out -> S y) -> ∀ x ∈ woP Ls out, S x := by
 have hp := goodP_pos hg
 obtain ⟨h1, h2, h3, h4⟩ := woRun_spec hg out Ls.length [0] 0 ⟨by simp, fun x hx => by simp at hx; subst hx; omega⟩ (by simp) (by omega) (fun i hi => by omega)
 unfold woP
 rw [if_neg ho]
 exact ⟨h1 0 (by simp), h2, h3, fun S a b => h4 S (fun x hx => by simp at hx; subst hx; exact a) b⟩
theorem woP_reach {Ls : List (List Int)} (hg : goodP Ls = true) (x : Int) : x ∈ woP Ls (-1) ↔ x ∈ (walkP Ls).bl := by
 obtain ⟨h1, h2, h3, h4⟩ := woP_spec hg (out := -1) (by omega)
 constructor
 ·exact h4 (· ∈ (walkP Ls).bl) walkP_zero (fun x hx y hy _ => walkP_closed hg x hx y hy) x
 ·exact walkP_least hg (· ∈ woP Ls (-1)) h1 (fun x hx y hy => h3 x hx y hy (by have := goodP_rows hg x y hy; omega)) x
theorem rch_reach {Ls : List (List Int)} (hg : goodP Ls = true) (n : Nat) : rch n (woP Ls (-1)) = rch n (walkP Ls).bl := by
 unfold rch
 simp only [woP_reach hg]
end Go.Proofs.YtdbkjjelaipcfaaGreatDoor
