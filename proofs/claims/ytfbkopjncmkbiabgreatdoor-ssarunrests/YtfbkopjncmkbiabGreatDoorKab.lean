import Derived.Maps.Own
import Derived.BigRegion
import Derived.Deep.RegionHeld
import Derived.Test.YtfbkopjncmkbiabGreatDoorKaa
set_option linter.unusedVariables false
set_option linter.unusedSimpArgs false
namespace Go.Proofs.YtfbkopjncmkbiabGreatDoor
open Go.ChangeShapes Go.WideShapes Go.ChangeAt Go.RowKit Go.Maps
def plc (bl : List Int) (a : Int) : Int := if a ∈ bl then (bl.idxOf a : Int) else 0
theorem plc_app {bl : List Int} {x : Int} (hx : x ∉ bl) (a : Int) : plc (bl ++ [x]) a = if a = x then (bl.length : Int) else plc bl a := by
 unfold plc
 by_cases h : a = x
 ·subst h
  simp [List.idxOf_append, hx]
 ·rw [if_neg h]
  by_cases h2 : a ∈ bl
  ·simp [h2, List.idxOf_append]
  ·simp [h2, h]
structure WKS (w : World) (B wb mb : Nat) (v1 v2 : Value) (bl mt : List Int) : Prop where
 box : w.heap[wb]? = some (.cells #[v1, .map (some mb), v2] 152 (0, 0))
 o1 : OwnI w B v1 bl.length bl
 o2 : OwnI w B v2 mt.length mt
 ne : ∀ g, v1.ownBlock = some g -> v2.ownBlock ≠ some g
 map : ∃ D, w.ownsMap Tryz.prog 3 (plainElem (H := Unit) Tryz.prog 3) mb bl.length D /\ ∀ a, Fits a -> Maps.has D (.int .i64 a) = decide (a ∈ bl) /\ D.atKey (.int .i64 a) (.lit (.int .i64 0)) = .lit (.int .i64 (plc bl a))
 lo : B <= wb /\ B <= mb
def WF (wb mb : Nat) (v1 v2 : Value) (k : Nat) : Prop := k = wb \/ k = mb \/ v1.ownBlock = some k \/ v2.ownBlock = some k
theorem WKS.wm {w B wb mb v1 v2 bl mt} (H : WKS w B wb mb v1 v2 bl mt) : wb ≠ mb := by
 rintro rfl
 obtain ⟨D, ⟨es, cl, h1, _⟩, _⟩ := H.map
 rw [H.box] at h1
 cases h1
theorem WKS.lt {w B wb mb v1 v2 bl mt} (H : WKS w B wb mb v1 v2 bl mt) : ∀ g, WF wb mb v1 v2 g -> B <= g /\ g < w.heap.size := by
 obtain ⟨D, d1, d2⟩ := H.map
 rintro g (rfl | rfl | h | h)
 ·exact ⟨H.lo.1, (gl H.box)⟩
 ·exact ⟨H.lo.2, d1.lt⟩
 ·exact own_block H.o1.out h
 ·exact own_block H.o2.out h
theorem WKS.move {w w' B wb mb v1 v2 bl mt} (H : WKS w B wb mb v1 v2 bl mt) (hk : ∀ g, WF wb mb v1 v2 g -> w'.heap[g]? = w.heap[g]?) : WKS w' B wb mb v1 v2 bl mt := by
 obtain ⟨D, d1, d2⟩ := H.map
 exact ⟨(hk wb (.inl rfl)).trans H.box, ⟨H.o1.len, own_move H.o1.out fun g hg => hk g (.inr (.inr (.inl hg)))⟩, ⟨H.o2.len, own_move H.o2.out fun g hg => hk g (.inr (.inr (.inr hg)))⟩, H.ne, ⟨D, own_map_move d1 (hk mb (.inr (.inl rfl))), d2⟩, H.lo⟩
theorem WKS.rows {w B wb mb v1 v2 bl mt} (H : WKS w B wb mb v1 v2 bl mt) : (v1.ownBlock ≠ some wb /\ v1.ownBlock ≠ some mb) /\ (v2.ownBlock ≠ some wb /\ v2.ownBlock ≠ some mb) := by
 obtain ⟨D, ⟨es, cl, h1, _⟩, _⟩ := H.map
 have hm : ∀ {v : Value} {n : Nat} {L : List Int}, OwnI w B v n L -> v.ownBlock ≠ some mb := fun {v n L} ho e => by
  rcases ho.out.2 with ⟨rfl, _⟩ | ⟨g, cap, cur, rfl, _, e3, _⟩
  ·simp [Value.ownBlock] at e
  ·simp [Value.ownBlock] at e
   subst e
   rw [h1] at e3
   cases e3
 exact ⟨⟨own_not H.o1.out H.box (by decide), hm H.o1⟩, ⟨own_not H.o2.out H.box (by decide), hm H.o2⟩⟩
set_option maxHeartbeats 2000000 in
theorem meet_any (w : World) {B wb mb v1 v2 bl mt} (H : WKS w B wb mb v1 v2 bl mt) (hB : B <= w.heap.size) (x fr : Int) (hx : Fits x) (hfr : Fits fr) (hnew : x ∉ bl) (hl1 : bl.length <= 1000000000) (hl2 : mt.length <= 1000000000) :
 Calls Tryz.prog 168 #[.pointer (some ⟨wb, 0, none⟩), .int .i64 x, .int .i64 fr] w fun e w' => e = .returned (.tuple #[]) /\ ∃ v1' v2', WKS w' B wb mb v1' v2' (bl ++ [x]) (mt ++ [fr]) /\ Only (WF wb mb v1 v2) w w' := by
 have c0 := cell_arr (i := 0) H.box rfl
 have c1 := cell_arr (i := 1) H.box rfl
 have c2 := cell_arr (i := 2) H.box rfl
 have fz := fz_of (i := 0) H.box
 have fz2 := fz_of (i := 2) H.box
 obtain ⟨D, d1, d2⟩ := H.map
 have hkey := keyOf_int_mk Tryz.underlying3 hx.wf
 obtain ⟨a1, k1, e1, n1, n1'⟩ := own_slice H.o1.out
 obtain ⟨a2, k2, e2, n2, n2'⟩ := own_slice H.o2.out
 have hwf : (Lit.int .i64 (bl.length : Int)).wf = true := WalkArith.wf_i64 (by omega)
 obtain ⟨w1, hrun, own1, gr1⟩ := (d1.drew).update law3 Tryz.underlying82 (by unfold maxLen; omega) hkey (plainElem_int Tryz.underlying3 hwf)
 subst e1 e2
 have hwb := (H.lt wb (.inl rfl)).2
 have hmb := (H.lt mb (.inr (.inl rfl))).2
 have g1wb : w1.heap[wb]? = w.heap[wb]? := gr1.block wb hwb (fun e => H.wm (by cases e; rfl))
 have hs1 : w.heap.size <= w1.heap.size := gr1.size
 have q0 : w1.cell? ⟨wb, 0, none⟩ = some (.slice a1 bl.length k1) := (World.cell?_of_block (w := w) (a := ⟨wb, 0, none⟩) g1wb).trans c0
 have O1 : OwnI w1 B (.slice a1 bl.length k1) bl.length bl := ⟨rfl, own_grown (w := w.drew) H.o1.out gr1 fun g hg e => H.rows.1.2 (by rw [hg, <- e])⟩
 have O2 : OwnI w1 B (.slice a2 mt.length k2) mt.length mt := ⟨rfl, own_grown (w := w.drew) H.o2.out gr1 fun g hg e => H.rows.2.2 (by rw [hg, <- e])⟩
 have HO1 : Hid _ := O1
 have HO2 : Hid _ := O2
 have HH : Hid _ := H
 have HW1 : Hid (w1.heap[wb]? = w.heap[wb]?) := g1wb
 have hB1 : B <= w1.heap.size := by omega
 have hwb1 : wb < w1.heap.size := by omega
 have hmb1 : mb < w1.heap.size := by omega
 have HG1 : Hid _ := gr1
 have HWN : Hid _ := own1
 have HD2 : Hid _ := d2
 have HND : Hid _ := d1
 have HNW : Hid (x ∉ bl) := hnew
 have b1 := HW1.out.trans H.box
 have HB1 : Hid _ := b1
 clear O1 O2 H g1wb gr1 own1 d2 d1 hnew b1 fz fz2 hwb hmb
 go_enter Tryz.func168, Tryz.ntmps168
 go_wp2_with fail
 go_region
 clear c0 c1 c2
 go_wp2_with (first
  | (at_builtin; refine wpList_append_intG (w0 := w1) rfl _ _ rfl B (.slice a1 bl.length k1) bl.length bl x rfl HO1.out rfl (by omega) hB1 ?_; intro u6 w6 h6 hG6
     have b6 : w6.heap[wb]? = some (.cells #[.slice a1 bl.length k1, .map (some mb), .slice a2 mt.length k2] 152 (0, 0)) := (hG6.blk wb hwb1 HH.out.rows.1.1).trans HB1.out
     have O26 := HO2.out.gi hG6 (fun b hb e => HH.out.ne b e hb)
     have A26 := HO2.out.giA hG6 (fun b hb e => HH.out.ne b e hb)
     have q6 : w6.cell? ⟨wb, 0, none⟩ = some (.slice a1 bl.length k1) := cell_arr (i := 0) b6 rfl
     have p6 := fz_of (i := 0) b6
     have q62 : w6.cell? ⟨wb, 2, none⟩ = some (.slice a2 mt.length k2) := cell_arr (i := 2) b6 rfl
     have n6 := own_not h6.out b6 (by decide)
     obtain ⟨a6, k6, rfl, _, _⟩ := own_slice h6.out
     obtain ⟨w7, hw7⟩ : ∃ w7, w7 = w6.setCell ⟨wb, 0, none⟩ (.slice a6 (bl.length + 1) k6) := ⟨_, rfl⟩
     have b7 : w7.heap[wb]? = some (.cells #[.slice a6 (bl.length + 1) k6, .map (some mb), .slice a2 mt.length k2] 152 (0, 0)) := by rw [hw7]; exact heap_set_at b6
     have H67 : Hid (∀ k, k ≠ wb -> w7.heap[k]? = w6.heap[k]?) := fun k hk => by rw [hw7]; exact heap_set_other hk
     have s7 : w7.heap.size = w6.heap.size := by rw [hw7]; simp [World.setCell]
     have s6 := hG6.size
     have HG6 : Hid _ := hG6
     have HO6 : Hid _ := h6
     have HO26 : Hid _ := O26
     have HA26 : Hid _ := A26
     have HN6 : Hid _ := n6
     have HW7 : Hid _ := hw7
     clear hG6 h6 O26 A26 n6 hw7)
  | (at_builtin; refine wpList_append_intG (w0 := w6.setCell ⟨wb, 0, none⟩ (.slice a6 (bl.length + 1) k6)) rfl _ _ rfl B (.slice a2 mt.length k2) mt.length mt fr rfl (by rw [<- HW7.out]; exact ⟨rfl, own_move HO26.out.out fun b hb => H67.out b (fun e => HH.out.rows.2.1 (by rw [hb, e]))⟩) (by simp [Act.eval, World.setCell]) (by omega) (by rw [<- HW7.out]; omega) ?_; intro u8 w8 h8 hG8
     rw [<- HW7.out] at hG8
     have b8 : w8.heap[wb]? = some (.cells #[.slice a6 (bl.length + 1) k6, .map (some mb), .slice a2 mt.length k2] 152 (0, 0)) := (hG8.blk wb (by omega) HH.out.rows.2.1).trans b7
     have q8 : w8.cell? ⟨wb, 2, none⟩ = some (.slice a2 mt.length k2) := cell_arr (i := 2) b8 rfl
     have p8 := fz_of (i := 2) b8
     obtain ⟨a8, k8, rfl, _, _⟩ := own_slice h8.out
     have s8 := hG8.size
     have HG8 : Hid _ := hG8
     have HO8 : Hid _ := h8
     clear hG8 h8)
  | go_in)
 refine bodyPost_end (v := .tuple #[]) (by simp [results, Tryz.results168, go_sem]) rfl ?_
 refine ⟨rfl, .slice a6 (bl.length + 1) k6, .slice a8 (mt.length + 1) k8, ?_⟩
 obtain ⟨W, hW⟩ : ∃ W, W = w8.setCell ⟨wb, 2, none⟩ (.slice a8 (mt.length + 1) k8) := ⟨_, rfl⟩
 rw [<- hW]
 have bW : W.heap[wb]? = some (.cells #[.slice a6 (bl.length + 1) k6, .map (some mb), .slice a8 (mt.length + 1) k8] 152 (0, 0)) := by rw [hW]; exact heap_set_at b8
 have H8W : ∀ k, k ≠ wb -> W.heap[k]? = w8.heap[k]? := fun k hk => by rw [hW]; exact heap_set_other hk
 have sW : W.heap.size = w8.heap.size := by rw [hW]; simp [World.setCell]
 have tW : W.os = w8.os /\ W.tape = w8.tape /\ W.output = w8.output := by rw [hW]; exact ⟨rfl, rfl, rfl⟩
 have t7 : w7.os = w6.os /\ w7.tape = w6.tape /\ w7.output = w6.output := by rw [HW7.out]; exact ⟨rfl, rfl, rfl⟩
 have R := HH.out.rows
 have n8 := own_not HO8.out.out b8 (by decide)
 have hmw := HH.out.wm
 have blk : ∀ k, k < w.heap.size -> ¬ WF wb mb (.slice a1 bl.length k1) (.slice a2 mt.length k2) k -> W.heap[k]? = w.heap[k]? := fun k hk hn => by
  have e1 : k ≠ wb := fun e => hn (.inl e)
  have e2 : k ≠ mb := fun e => hn (.inr (.inl e))
  rw [H8W k e1, HG8.out.blk k (by omega) (fun e => hn (.inr (.inr (.inr e)))), H67.out k e1, HG6.out.blk k (by omega) (fun e => hn (.inr (.inr (.inl e))))]
  exact HG1.out.block k hk (fun e => e2 (by cases e; rfl))
 have mblk : W.heap[mb]? = w1.heap[mb]? := by
  rw [H8W mb hmw.symm, HG8.out.blk mb (by omega) R.2.2, H67.out mb hmw.symm, HG6.out.blk mb hmb1 R.1.2]
 have d1 : w.ownsMap Tryz.prog 3 (plainElem (H := Unit) Tryz.prog 3) mb bl.length D := HND.out
 have own' : w1.ownsMap Tryz.prog 3 (plainElem (H := Unit) Tryz.prog 3) mb (bl.length + 1) (D.put (.int .i64 x) (.lit (.int .i64 bl.length))) := HWN.out
 refine ⟨⟨bW, ⟨by simp, ?_⟩, ⟨by simp, ?_⟩, ?_, ⟨_, own_map_move (by rw [show (bl ++ [x]).length = bl.length + 1 by simp]; exact own') mblk, ?_⟩, HH.out.lo⟩, ?_⟩
 ·have : (bl ++ [x]).length = bl.length + 1 := by simp
  rw [this]
  refine own_move HO6.out.out fun g hg => ?_
  have hlt := (own_block HO6.out.out hg).2
  have e1 : g ≠ wb := fun e => HN6.out (by rw [hg, e])
  rw [H8W g e1, HG8.out.blk g (by omega) (fun e => HA26.out g e hg), H67.out g e1]
 ·have : (mt ++ [fr]).length = mt.length + 1 := by simp
  rw [this]
  refine own_move HO8.out.out fun g hg => ?_
  exact H8W g fun e => n8 (by rw [hg, e])
 ·intro g hg1 hg2
  rcases HG8.out.own g hg2 with h | h
  ·exact HA26.out g h hg1
  ·have := (own_block HO6.out.out hg1).2; omega
 ·intro a ha
  obtain ⟨e1, e2⟩ := HD2.out a ha
  constructor
  ·by_cases e : a = x
   ·subst e
    rw [has_put_same d1.isMap (show WideAt.IsKeyLit (Lit.int .i64 _) from trivial)]
    simp
   ·rw [has_put_other (key_ne e), e1]
    simp [e]
  ·rw [plc_app HNW.out]
   by_cases e : a = x
   ·subst e
    rw [if_pos rfl]
    exact atKey_put_same d1.isMap (show WideAt.IsKeyLit (Lit.int .i64 _) from trivial) _ _
   ·rw [atKey_put_other (key_ne e), e2, if_neg e]
 ·refine ⟨?_, ?_, ?_, by omega, blk⟩
  ·rw [tW.1, HG8.out.bel.os, t7.1, HG6.out.bel.os, HG1.out.os]; rfl
  ·rw [tW.2.1, HG8.out.bel.tape, t7.2.1, HG6.out.bel.tape, HG1.out.tape]; rfl
  ·rw [tW.2.2, HG8.out.bel.output, t7.2.2, HG6.out.bel.output, HG1.out.output]; rfl
structure DS where
 bl : List Int
 mt : List Int
 op : List (Int × Nat)
def fst0 (bl : List Int) : List Int -> Option Nat
 | [] => none
 | x :: l => if x ∈ bl then (fst0 bl l).map (· + 1) else some 0
def rowOf (Ls : List (List Int)) (b : Int) : List Int := Ls.getD b.toNat []
def wstep (Ls : List (List Int)) (s : DS) : DS :=
 match s.op.getLast? with
 | none => s
 | some (b, t) => match fst0 s.bl ((rowOf Ls b).drop t) with
   | none => ⟨s.bl, s.mt, s.op.dropLast⟩
   | some k => ⟨s.bl ++ [((rowOf Ls b).drop t).getD k 0], s.mt ++ [plc s.bl b], s.op.dropLast ++ [(b, t + k + 1), (((rowOf Ls b).drop t).getD k 0, 0)]⟩
def wrun (Ls : List (List Int)) : Nat -> DS -> DS
 | 0, s => s
 | k + 1, s => if s.op = [] then s else wrun Ls k (wstep Ls s)
def ds0 : DS := ⟨[0], [-1], [(0, 0)]⟩
def msr (n : Nat) (s : DS) : Nat := 2 * (n - s.bl.length) + s.op.length
def walkP (Ls : List (List Int)) : DS := wrun Ls (msr Ls.length ds0) ds0
structure WI (Ls : List (List Int)) (s : DS) : Prop where
 nd : s.bl.Nodup
 rng : ∀ x ∈ s.bl, 0 <= x /\ x < Ls.length
 len : s.mt.length = s.bl.length
 ops : ∀ p ∈ s.op, p.1 ∈ s.bl /\ p.2 <= (rowOf Ls p.1).length
 few : s.op.length <= s.bl.length
theorem nodup_le : ∀ (n : Nat) (l : List Int), l.Nodup -> (∀ x ∈ l, 0 <= x /\ x < n) -> l.length <= n
 | 0, l, _, h => by
   cases l with
   | nil => simp
   | cons x l => have := h x (by simp); omega
 | n + 1, l, hd, h => by
   by_cases hm : (n : Int) ∈ l
   ·have h1 := nodup_le n (l.erase (n : Int)) (hd.erase _) fun x hx => by
     have h2 := h x (List.mem_of_mem_erase hx)
     have h3 : x ≠ n := ((hd.mem_erase_iff).1 hx).1
     omega
    rw [List.length_erase_of_mem hm] at h1
    have : 0 < l.length := List.length_pos_of_mem hm
    omega
   ·have := nodup_le n l hd fun x hx => by
     have h2 := h x hx
     have h3 : x ≠ n := fun e => hm (e ▸ hx)
     omega
    omega
theorem WI.le {Ls s} (h : WI Ls s) : s.bl.length <= Ls.length := nodup_le _ _ h.nd h.rng
theorem fst0_some {bl : List Int} : ∀ {l : List Int} {k : Nat}, fst0 bl l = some k -> k < l.length /\ l.getD k 0 ∉ bl /\ ∀ j, j < k -> l.getD j 0 ∈ bl
 | [], _, h => by cases h
 | x :: l, k, h => by
   simp only [fst0] at h
   split at h
   ·next hx =>
    cases e : fst0 bl l with
    | none => rw [e] at h; cases h
    | some k' =>
      rw [e] at h
      have hk : k' + 1 = k := by simpa using h
      subst hk
      obtain ⟨h1, h2, h3⟩ := fst0_some e
      refine ⟨by simp; omega, by simpa using h2, fun j hj => ?_⟩
      cases j with
      | zero => simpa using hx
      | succ j => simpa using h3 j (by omega)
   ·next hx => cases h; exact ⟨by simp, by simpa using hx, fun j hj => by omega⟩
theorem fst0_at {bl : List Int} : ∀ {l : List Int} {k : Nat}, k < l.length -> l.getD k 0 ∉ bl -> (∀ j, j < k -> l.getD j 0 ∈ bl) -> fst0 bl l = some k
 | [], _, h, _, _ => by simp at h
 | x :: l, 0, _, h2, _ => by simp at h2; simp [fst0, h2]
 | x :: l, k + 1, h1, h2, h3 => by
   have hx : x ∈ bl := by simpa using h3 0 (by omega)
   have := fst0_at (bl := bl) (l := l) (k := k) (by simpa using h1) (by simpa using h2) fun j hj => by simpa using h3 (j + 1) (by omega)
   simp [fst0, hx, this]
theorem fst0_none {bl : List Int} : ∀ {l : List Int}, (∀ j, j < l.length -> l.getD j 0 ∈ bl) -> fst0 bl l = none
 | [], _ => rfl
 | x :: l, h => by
   have hx : x ∈ bl := by simpa using h 0 (by simp)
   have := fst0_none (bl := bl) (l := l) fun j hj => by simpa using h (j + 1) (by simpa using hj)
   simp [fst0, hx, this]
theorem WI.push {Ls st b t k bl mt} (hg : goodP Ls = true) (h : WI Ls ⟨bl, mt, st ++ [(b, t)]⟩) (hk : t + k < (rowOf Ls b).length) (hx : (rowOf Ls b).getD (t + k) 0 ∉ bl) (hb : ∀ j, j < k -> (rowOf Ls b).getD (t + j) 0 ∈ bl) :
 WI Ls ⟨bl ++ [(rowOf Ls b).getD (t + k) 0], mt ++ [plc bl b], st ++ [(b, t + k + 1), ((rowOf Ls b).getD (t + k) 0, 0)]⟩ /\ wstep Ls ⟨bl, mt, st ++ [(b, t)]⟩ = ⟨bl ++ [(rowOf Ls b).getD (t + k) 0], mt ++ [plc bl b], st ++ [(b, t + k + 1), ((rowOf Ls b).getD (t + k) 0, 0)]⟩
  /\ msr Ls.length ⟨bl, mt, st ++ [(b, t)]⟩ = msr Ls.length ⟨bl ++ [(rowOf Ls b).getD (t + k) 0], mt ++ [plc bl b], st ++ [(b, t + k + 1), ((rowOf Ls b).getD (t + k) 0, 0)]⟩ + 1 /\ 0 <= (rowOf Ls b).getD (t + k) 0 /\ (rowOf Ls b).getD (t + k) 0 < Ls.length := by
 obtain ⟨hbm, htl⟩ := h.ops (b, t) (by simp)
 have hbr := h.rng b hbm
 have hr : 0 <= (rowOf Ls b).getD (t + k) 0 /\ (rowOf Ls b).getD (t + k) 0 < Ls.length := by
  have hbl : b.toNat < Ls.length := by omega
  have e : rowOf Ls b = Ls[b.toNat] := by simp [rowOf, hbl]
  rw [e] at hk ⊢
  have := goodP_yes hg hbl hk
  simpa [List.getD, hk] using this
 have hW : WI Ls ⟨bl ++ [(rowOf Ls b).getD (t + k) 0], mt ++ [plc bl b], st ++ [(b, t + k + 1), ((rowOf Ls b).getD (t + k) 0, 0)]⟩ := by
  refine ⟨?_, ?_, ?_, ?_, ?_⟩
  ·refine List.nodup_append.2 ⟨h.nd, by simp, fun a ha c hc e => ?_⟩
   simp at hc
   subst hc
   subst e
   exact hx ha
  ·intro x hx'
   simp only [List.mem_append, List.mem_singleton] at hx'
   rcases hx' with hx' | rfl
   ·exact h.rng x hx'
   ·exact hr
  ·have := h.len
   simp at this ⊢
   exact this
  ·intro p hp
   simp only [List.mem_append, List.mem_cons, List.not_mem_nil, or_false] at hp
   rcases hp with hp | rfl | rfl
   ·obtain ⟨h1, h2⟩ := h.ops p (by simp [hp])
    exact ⟨by simp; exact .inl h1, h2⟩
   ·exact ⟨by simp; exact .inl hbm, by show t + k + 1 <= (rowOf Ls b).length; omega⟩
   ·exact ⟨by simp, Nat.zero_le _⟩
  ·have := h.few
   simp at this ⊢
   omega
 refine ⟨hW, ?_, ?_, hr⟩
 ·have e : fst0 bl ((rowOf Ls b).drop t) = some k := fst0_at (by simp; omega) (by simpa [List.getD] using hx) fun j hj => by simpa [List.getD] using hb j hj
  simp only [wstep]
  simp [e, List.getD]
 ·have := hW.le
  simp only [msr, List.length_append, List.length_cons, List.length_nil] at this ⊢
  omega
theorem WI.pop {Ls st b t bl mt} (h : WI Ls ⟨bl, mt, st ++ [(b, t)]⟩) (hb : ∀ j, t + j < (rowOf Ls b).length -> (rowOf Ls b).getD (t + j) 0 ∈ bl) :
 WI Ls ⟨bl, mt, st⟩ /\ wstep Ls ⟨bl, mt, st ++ [(b, t)]⟩ = ⟨bl, mt, st⟩ /\ msr Ls.length ⟨bl, mt, st ++ [(b, t)]⟩ = msr Ls.length ⟨bl, mt, st⟩ + 1 := by
 refine ⟨⟨h.nd, h.rng, h.len, fun p hp => h.ops p (by simp; exact .inl hp), by have := h.few; simp at this ⊢; omega⟩, ?_, by simp [msr]; omega⟩
 have e : fst0 bl ((rowOf Ls b).drop t) = none := fst0_none fun j hj => by
  have := hb j (by simp at hj; omega)
  simpa [List.getD] using this
 simp [wstep, e]
theorem WI.zero {Ls} (hg : goodP Ls = true) : WI Ls ds0 := by
 have := goodP_pos hg
 refine ⟨by simp [ds0], fun x hx => ?_, rfl, fun p hp => ?_, by simp [ds0]⟩
 ·simp [ds0] at hx; subst hx; omega
 ·simp [ds0] at hp; subst hp; exact ⟨by simp [ds0], Nat.zero_le _⟩
def brs (op : List (Int × Nat)) : List Value := op.flatMap fun p => [.int .i64 p.1, .int .i64 (p.2 : Int)]
theorem brs_len (op : List (Int × Nat)) : (brs op).length = op.length * 2 := by
 induction op with
 | nil => rfl
 | cons p op ih => simp [brs] at ih ⊢; omega
theorem brs_app (a b : List (Int × Nat)) : brs (a ++ b) = brs a ++ brs b := by simp [brs]
structure OwnS (w : World) (B : Nat) (v : Value) (op : List (Int × Nat)) : Prop where
 out : w.ownsRow B 174 2 v op.length (brs op)
theorem OwnS.top {w : World} {B : Nat} {v : Value} {st : List (Int × Nat)} {b : Int} {t : Nat} (h : OwnS w B v (st ++ [(b, t)])) : ∃ g c, v = .slice (some ⟨g, 0, none⟩) (st.length + 1) c /\ st.length + 1 <= c /\ c <= 9223372036854775807 /\ g < w.heap.size /\ w.cell? ⟨g, st.length * 2, none⟩ = some (.int .i64 b) /\ w.cell? ⟨g, st.length * 2 + 1, none⟩ = some (.int .i64 (t : Int)) /\ w.frozen? ⟨g, st.length * 2 + 1, none⟩ = false := by
 have hl : (st ++ [(b, t)]).length = st.length + 1 := by simp
 obtain ⟨g, c, e, h1, h2, h3, h4⟩ := own_some h.out (by simp)
 have ho := h.out
 rw [e, hl] at ho
 rw [hl] at e h1
 refine ⟨g, c, e, h1, h2, h4, ?_, ?_, own_fz ho _⟩
 ·rw [own_cell ho _ (by omega), brs_app, List.getElem?_append_right (by rw [brs_len]; omega), brs_len]
  simp [brs]
 ·rw [own_cell ho _ (by omega), brs_app, List.getElem?_append_right (by rw [brs_len]; omega), brs_len]
  simp [brs]
theorem OwnS.set {w : World} {B g c : Nat} {st : List (Int × Nat)} {b : Int} {t : Nat} (h : OwnS w B (.slice (some ⟨g, 0, none⟩) (st.length + 1) c) (st ++ [(b, t)])) (t' : Nat) : OwnS (w.setCell ⟨g, st.length * 2 + 1, none⟩ (.int .i64 (t' : Int))) B (.slice (some ⟨g, 0, none⟩) (st.length + 1) c) (st ++ [(b, t')]) := by
 have hl : ∀ t : Nat, (st ++ [(b, t)]).length = st.length + 1 := fun t => by simp
 have ho := h.out
 rw [hl] at ho
 have := own_set ho (st.length * 2 + 1) (by omega) (.int .i64 (t' : Int))
 refine ⟨?_⟩
 rw [hl]
 have e : (brs (st ++ [(b, t)])).set (st.length * 2 + 1) (.int .i64 (t' : Int)) = brs (st ++ [(b, t')]) := by
  rw [brs_app, brs_app, List.set_append_right _ _ (by rw [brs_len]; omega), brs_len, show st.length * 2 + 1 - st.length * 2 = 1 by omega]
  simp [brs]
 rw [e] at this
 exact this
theorem OwnS.cut {w : World} {B g c : Nat} {st : List (Int × Nat)} {b : Int} {t : Nat} (h : OwnS w B (.slice (some ⟨g, 0, none⟩) (st.length + 1) c) (st ++ [(b, t)])) : OwnS w B (.slice (some ⟨g, 0, none⟩) st.length c) st := by
 have ho := h.out
 rw [show (st ++ [(b, t)]).length = st.length + 1 by simp] at ho
 rcases ho.2 with ⟨e, _⟩ | ⟨g', cap, cur, e, e2, e3, e4, e5, e6, e7⟩
 ·cases e
 ·cases e
  refine ⟨⟨brs_len _, .inr ⟨g, c, cur, rfl, e2, e3, by omega, e5, e6, ?_⟩⟩⟩
  have := congrArg (List.take (st.length * 2)) e7
  rw [List.take_take, Nat.min_eq_left (by omega), brs_app, List.take_append_of_le_length (by rw [brs_len]; omega), List.take_of_length_le (l := brs st) (by rw [brs_len]; omega)] at this
  exact this
theorem OwnS.move {w w' : World} {B v op} (h : OwnS w B v op) (hk : ∀ g, v.ownBlock = some g -> w'.heap[g]? = w.heap[g]?) : OwnS w' B v op := ⟨own_move h.out hk⟩
theorem info49 : (Tryz.prog.info? 174).map (fun i => (i.zero, i.size, i.bytes)) = some (some (.agg #[.int .i64 0, .int .i64 0]), 2, 16) := by kernel_rfl
theorem cell_two_newI (w : World) (a b : Value) (t : TypeId) : ∀ j u, [a, b][j]? = some u -> (w.alloc (.cells #[a, b] t)).cell? ((⟨w.heap.size, 0, none⟩ : Addr).add j) = some u := by
 intro j u hj
 match j, hj with
 | 0, hj => simp at hj; subst hj; simp [Addr.add]
 | 1, hj => simp at hj; subst hj; simp [Addr.add]
 | j + 2, hj => simp at hj
theorem wpList_append_brG {w0 : World} {ops : Array Oper} {rest : List Oper} {op : Oper} {a : Act} {Q : Exit -> Act -> World -> Prop} (hgd : op.guard = none) (s x : Operand)
 (ho : op.op = .call { callee := .builtin .append, args := #[s, x], argTypes := #[175, 175] })
 (B : Nat) (v : Value) (L : List (Int × Nat)) (y : Int) (hs : a.eval s = v) (hown : OwnS w0 B v L) (hx : a.eval x = .slice (some ⟨w0.heap.size, 0, none⟩) 1 1)
 (hl : L.length + 1 <= 1759218604441) (hB : B <= w0.heap.size)
 (h : ∀ v' w', OwnS w' B v' (L ++ [(y, 0)]) -> GI B w0 w' v v' -> wpList Tryz.prog ops Q rest (a.put op.dst v') w') : wpList Tryz.prog ops Q (op :: rest) a (w0.alloc (.cells #[.int .i64 y, .int .i64 0] 174)) := by
 obtain ⟨i0, hi, hz0, hz1, hz2⟩ := info_parts info49
 refine wpList_append_where hgd s x 175 ho B 174 i0 (.agg #[.int .i64 0, .int .i64 0]) 2 16 Tryz.underlying175 hi hz0 hz1 hz2 rfl (by decide) v L.length (brs L) hs (hown.out.alloc _) ⟨w0.heap.size, 0, none⟩ 1 1 (by omega) [.int .i64 y, .int .i64 0] hx rfl (cell_two_newI _ _ _ _) (fun u hu => by simp at hu; rcases hu with rfl | rfl <;> rfl) (by unfold maxLen; omega) (by omega) (by simp; omega) ?_
 intro v' w' h1 h2 h3
 refine h v' w' ⟨?_⟩ (gi_of hown.out hB h2 h3)
 have e : (L ++ [((y, 0) : Int × Nat)]).length = L.length + 1 := by simp
 rw [e, brs_app]
 exact h1
theorem OwnS.none {w B wb mb v1 v2 bl mt v op} (h : OwnS w B v op) (H : WKS w B wb mb v1 v2 bl mt) : ∀ g, v.ownBlock = some g -> ¬ WF wb mb v1 v2 g := by
 obtain ⟨D, ⟨es, cl, h1, _⟩, _⟩ := H.map
 rcases h.out.2 with ⟨rfl, _⟩ | ⟨g', cap, cur, rfl, _, e3, _⟩
 ·intro g hg; simp [Value.ownBlock] at hg
 ·intro g hg
  simp [Value.ownBlock] at hg
  subst hg
  rintro (rfl | rfl | e | e)
  ·rw [H.box] at e3; cases e3
  ·rw [h1] at e3; cases e3
  ·exact own_not H.o1.out e3 (by decide) e
  ·exact own_not H.o2.out e3 (by decide) e
theorem WKS.fresh (w : World) : WKS ((w.alloc (.map #[] 0)).alloc (.cells #[.slice none 0 0, .map (some w.heap.size), .slice none 0 0] 152)) w.heap.size (w.heap.size + 1) w.heap.size (.slice none 0 0) (.slice none 0 0) [] [] := by
 refine ⟨?_, OwnI.nil _ _, OwnI.nil _ _, fun g hg => by simp [Value.ownBlock] at hg, ⟨_, (World.ownsMap_made w _ _ _).alloc _, fun a _ => ?_⟩, by omega, by omega⟩
 ·simpa using heap_alloc_new (w.alloc (.map #[] 0)) _
 ·exact ⟨rfl, rfl⟩
theorem drewN_at (w : World) (k g : Nat) (hg : g < w.heap.size) : (w.drewN k).heap[g]? = w.heap[g]? := (below_drewN (Below.refl w.heap.size w) k).block g hg
theorem WKS.drewN {w B wb mb v1 v2 bl mt} (H : WKS w B wb mb v1 v2 bl mt) (k : Nat) : WKS (w.drewN k) B wb mb v1 v2 bl mt := H.move fun g hg => drewN_at w k g (H.lt g hg).2
theorem OwnS.drewN {w B v op} (H : OwnS w B v op) (k : Nat) : OwnS (w.drewN k) B v op := H.move fun g hg => drewN_at w k g (own_block H.out hg).2
structure IL (w wr : World) (B g c4 : Nat) (st : List (Int × Nat)) (bn t j : Nat) (row bl mt : List Int) (v1 v2 : Value) : Prop where
 st : OwnS wr B (.slice (some ⟨g, 0, none⟩) (st.length + 1) c4) (st ++ [((bn : Int), t + j)])
 wk : WKS wr B (B + 1) B v1 v2 bl mt
 met : ∀ i, i < j -> row.getD (t + i) 0 ∈ bl
 bel : Below B w wr
structure WH (w wr : World) (B : Nat) (Ls : List (List Int)) (ov : Value) (q : Nat) (s : DS) (v1 v2 : Value) : Prop where
 st : OwnS wr B ov s.op
 wk : WKS wr B (B + 1) B v1 v2 s.bl s.mt
 wi : WI Ls s
 run : wrun Ls q s = walkP Ls
 msr : q = msr Ls.length s
 bel : Below B w wr
set_option maxHeartbeats 4000000 in
theorem walkOf_any (w : World) (ao : Option Addr) (n c : Nat) (Ls : List (List Int)) (hn : n = Ls.length) (h : IRow w ao c Ls) (hg : goodP Ls = true) (hsz : n <= 100000000) :
 Calls Tryz.prog 128 #[.slice ao n c] w fun e w' => e = .returned (.pointer (some ⟨w.heap.size + 1, 0, none⟩)) /\ (∃ v1 v2, WKS w' w.heap.size (w.heap.size + 1) w.heap.size v1 v2 (walkP Ls).bl (walkP Ls).mt) /\ Below w.heap.size w w' := by
 have hmm := @run_makeMap Tryz.prog
 have HN : Hid (n = Ls.length) := hn
 have HI : Hid (IRow w ao c Ls) := h
 have HG : Hid (goodP Ls = true) := hg
 have hpos : 0 < n := by have := goodP_pos hg; omega
 clear hn h hg
 go_enter Tryz.func128, Tryz.ntmps128
 go_wp2_with fail
 go_step3
 go_wp2_with fail
 obtain ⟨w0, hw0⟩ : ∃ w0, w0 = (w.alloc (.map #[] 0)).alloc (.cells #[.slice none 0 0, .map (some w.heap.size), .slice none 0 0] 152) := ⟨_, rfl⟩
 have HW0 := WKS.fresh w
 rw [<- hw0] at HW0 ⊢
 have hb0 : Below w.heap.size w w0 := by rw [hw0]; exact ((Below.refl _ _).alloc (Nat.le_refl _) _).alloc (by simp) _
 have hs0 : w0.heap.size = w.heap.size + 1 + 1 := by rw [hw0]; simp
 clear hw0
 refine (meet_any w0 HW0 (by omega) 0 (-1) (by unfold Fits; omega) (by unfold Fits; omega) (by simp) (by simp) (by simp)).mono ?_
 rintro e w1 ⟨rfl, v1, v2, HW1, ho1⟩
 have hs1 := ho1.size
 have hb1 : Below w.heap.size w w1 := hb0.trans (ho1.below (by omega) fun k hk => by
  rcases hk with rfl | rfl | hk | hk
  ·omega
  ·omega
  ·simp [Value.ownBlock] at hk
  ·simp [Value.ownBlock] at hk)
 clear hb0 ho1 HW0
 go_wp2_with fail
 go_step3
 go_wp2_with fail
 obtain ⟨B, hB⟩ : ∃ B, B = w.heap.size := ⟨_, rfl⟩
 rw [<- hB] at HW1 hb1 hs0 ⊢
 have HB : Hid (B = w.heap.size) := hB
 clear hB
 have hstart : WH w (w1.alloc (.cells #[.int .i64 0, .int .i64 0] 174)) B Ls (.slice (some ⟨w1.heap.size, 0, none⟩) 1 1) (msr Ls.length ds0) ds0 v1 v2 := by
  refine ⟨⟨?_⟩, HW1.move fun g hg => heap_alloc_old _ _ (HW1.lt g hg).2, WI.zero HG.out, rfl, rfl, hb1.alloc (by omega) _⟩
  refine ⟨rfl, .inr ⟨w1.heap.size, 1, #[.int .i64 0, .int .i64 0], rfl, by omega, heap_alloc_new _ _, by simp [ds0], by unfold maxLen; omega, rfl, rfl⟩⟩
 have HST : Hid _ := hstart
 clear hstart HW1 hb1
 go_loopg [4] (msr Ls.length ds0) (fun q ov wr => ∃ (s : DS) (v1 v2 : Value) (a4 : Option Addr) (c4 : Nat), ov = .slice a4 s.op.length c4 /\ Hid (WH w wr B Ls ov q s v1 v2))
 case atStart => exact ⟨ds0, v1, v2, _, _, rfl, HST.out⟩
 case round =>
  clear HST
  obtain ⟨s, v1, v2, a4, c4, rfl, HH⟩ := hrel
  rcases List.eq_nil_or_concat s.op with he | ⟨st, ⟨b, t⟩, he⟩
  ·rw [he]
   have hfin : s = walkP Ls := by
    have := HH.out.run
    cases gk with
    | zero => exact this
    | succ k => rw [wrun, if_pos he] at this; exact this
   subst hfin
   obtain rfl := HB.out
   go_wp2_with fail
   try rw [Exit.noGoto_ret]
   go_ret
   exact ⟨rfl, ⟨v1, v2, HH.out.wk⟩, HH.out.bel⟩
  ·obtain ⟨bl, mt, op⟩ := s
   simp only at he
   subst he
   rw [List.concat_eq_append] at HH ⊢
   obtain ⟨g, c4', e4, hc4, hc4', hg, k0, k1, kf⟩ := HH.out.st.top
   have hlen : (st ++ [(b, t)]).length = st.length + 1 := by simp
   rw [hlen] at e4 ⊢
   cases e4
   obtain ⟨m, hm⟩ : ∃ m, m = st.length := ⟨_, rfl⟩
   have hbm := HH.out.wi.ops (b, t) (by simp)
   have hbr := HH.out.wi.rng b hbm.1
   obtain ⟨bn, rfl⟩ : ∃ bn : Nat, b = (bn : Int) := ⟨b.toNat, by have := hbr.1; omega⟩
   have hbn : bn < Ls.length := by have := hbr.2; omega
   have hbn2 : bn < n := by have := HN.out; omega
   obtain ⟨ob, oo, ar, cr, rfl, krw, hIr⟩ := HI.out.at hbn
   have kr := (HH.out.bel.cell (p := ⟨ob, oo + bn, none⟩) (by have := block_lt_of_cell krw; have := HB.out; omega)).trans krw
   obtain ⟨G, hG⟩ : ∃ G, gk = G + 1 := ⟨gk - 1, by have := HH.out.msr; simp only [msr, List.length_append, List.length_cons, List.length_nil] at this; omega⟩
   subst hG
   obtain ⟨row, hrow⟩ : ∃ row, row = Ls[bn] := ⟨_, rfl⟩
   rw [<- hrow] at kr hIr
   clear krw
   have hro : rowOf Ls (bn : Int) = row := by rw [hrow]; simp [rowOf, hbn]
   have htl : t <= row.length := by have := hbm.2; rw [hro] at this; exact this
   obtain ⟨rl, hrl⟩ : ∃ rl, rl = row.length := ⟨_, rfl⟩
   have hcr : rl <= cr := by have := hIr.le; omega
   have hcr2 : cr <= 9223372036854775807 := hIr.mx
   have hfe := HH.out.wi.few
   have hle := HH.out.wi.le
   simp only [List.length_append, List.length_cons, List.length_nil] at hfe hle
   rw [<- hrl] at kr htl
   rw [<- hm] at k0 k1 kf hc4 hfe ⊢
   have HM : Hid (m = st.length) := hm
   have HRL : Hid (rl = row.length) := hrl
   have HRO : Hid (rowOf Ls (bn : Int) = row) := hro
   have HIR : Hid (Ints w ar cr row) := hIr
   have hm9 : m <= 100000000 := by have := HN.out; omega
   clear hm hrl hro hIr hrow hbm hbr hlen hfe hle
   go_wp2_with fail
   have HPOP : Hid (∀ (wr' : World), OwnS wr' B (.slice (some ⟨g, 0, none⟩) (m + 1) c4) (st ++ [((bn : Int), rl)]) -> WKS wr' B (B + 1) B v1 v2 bl mt -> (∀ i, t + i < rl -> row.getD (t + i) 0 ∈ bl) -> Below B w wr' -> WH w wr' B Ls (.slice (some ⟨g, 0, none⟩) m c4) G ⟨bl, mt, st⟩ v1 v2) := by
    intro wr' o1 o2 o3 o4
    obtain ⟨p1, p2, p3⟩ := HH.out.wi.pop (fun j hj => by rw [HRO.out]; exact o3 j (by rw [HRO.out, <- HRL.out] at hj; exact hj))
    have hq := HH.out.msr
    rw [p3] at hq
    refine ⟨by have := HM.out; subst this; exact o1.cut, o2, p1, ?_, by omega, o4⟩
    have hr := HH.out.run
    rw [wrun, if_neg (by simp), p2] at hr
    exact hr
   by_cases hend : t = rl
   ·have hz : rl - t = 0 := by omega
    have HX : Hid (∀ k, WH w (wr.drewN k) B Ls (.slice (some ⟨g, 0, none⟩) m c4) G ⟨bl, mt, st⟩ v1 v2) := fun k => HPOP.out (wr.drewN k) (by have h1 := HH.out.st.drewN k; have h2 := HM.out; subst h2; rw [<- hend]; simpa using h1) (HH.out.wk.drewN k) (fun i hi => absurd hi (by omega)) (below_drewN HH.out.bel k)
    clear HPOP HIR
    rcases ar with _ | ⟨rb, ro, rx⟩
    all_goals
     go_quiet (fail)
     go_wp2_with fail
     all_goals
      go_loopg [4, 38] 0 (fun q ov iv wr' => q = 0 /\ ov = .slice (some ⟨g, 0, none⟩) (m + 1) c4 /\ iv = .int .i64 0 /\ wr' = wr.drewN nq)
      case atStart => exact ⟨rfl, rfl, rfl, rfl⟩
      case round =>
       obtain ⟨rfl, rfl, rfl, rfl⟩ := hrel
       go_wp2_with fail
       go_roundg G
       case rel => exact ⟨⟨bl, mt, st⟩, v1, v2, _, _, by rw [HM.out], HX.out nq⟩
       case measure => omega
   ·obtain ⟨rt, rfl⟩ : ∃ rt, rl = t + rt := ⟨rl - t, by omega⟩
    have hrt : 0 < rt := by omega
    obtain ⟨rb, ro, e, _⟩ := HIR.out.at (j := t) (by have := HRL.out; omega)
    subst e
    have htc : t < cr := by omega
    go_quiet (fail)
    have h0 : IL w (wr.drewN nq) B g c4 st bn t 0 row bl mt v1 v2 := ⟨by have h1 := HH.out.st.drewN nq; simpa using h1, HH.out.wk.drewN nq, fun i hi => absurd hi (by omega), below_drewN HH.out.bel nq⟩
    have H0 : Hid _ := h0
    clear h0 k0 k1 kf
    go_wp2_with fail
    go_loopg [4, 38] rt (fun q ov iv wr' => ∃ j : Nat, j <= rt /\ q = rt - j /\ ov = .slice (some ⟨g, 0, none⟩) (m + 1) c4 /\ iv = .int .i64 (j : Int) /\ Hid (IL w wr' B g c4 st bn t j row bl mt v1 v2))
    case atStart => exact ⟨0, by omega, by omega, rfl, rfl, H0.out⟩
    case round =>
     obtain ⟨j, hj, rfl, rfl, rfl, HL⟩ := hrel
     by_cases hlt : j < rt
     ·have htj : t + j < row.length := by have := HRL.out; omega
      obtain ⟨x, hx⟩ : ∃ x, x = row[t + j] := ⟨_, rfl⟩
      have hxg : row.getD (t + j) 0 = x := by rw [hx]; simp [htj]
      have kx : wr.cell? ⟨rb, ro + t + j, none⟩ = some (.int .i64 x) := by
       obtain ⟨b', o', e', kc⟩ := HIR.out.at htj
       cases e'
       rw [hx, Nat.add_assoc]
       exact (HL.out.bel.cell (p := ⟨rb, ro + (t + j), none⟩) (by have := block_lt_of_cell kc; have := HB.out; omega)).trans kc
      obtain ⟨g', c', e4, _, _, hg', k0, k1, kf⟩ := HL.out.st.top
      cases e4
      rw [<- HM.out] at k0 k1 kf
      have HXG : Hid (row.getD (t + j) 0 = x) := hxg
      have hnw := HL.out.st.none HL.out.wk g rfl
      have hgw : ¬ g = B + 1 := fun e => hnw (.inl e)
      have hgm : ¬ g = B := fun e => hnw (.inr (.inl e))
      have kb : wr.cell? ⟨B + 1, 1, none⟩ = some (.map (some B)) := cell_arr (i := 1) HL.out.wk.box rfl
      have hxr : 0 <= x /\ x < Ls.length := by
       have h1 := goodP_yes HG.out hbn (j := t + j) (by have h2 := HRO.out; simp [rowOf, hbn] at h2; rw [h2]; exact htj)
       have h2 := HRO.out
       simp [rowOf, hbn] at h2
       simp only [h2] at h1
       rw [hx]; exact h1
      have fx : Fits x := by unfold Fits; have := HN.out; omega
      obtain ⟨w4, hw4⟩ : ∃ w4, w4 = wr.setCell ⟨g, m * 2 + 1, none⟩ (.int .i64 ((t : Int) + j + 1)) := ⟨_, rfl⟩
      have hb4 : ∀ k, k ≠ g -> w4.heap[k]? = wr.heap[k]? := fun k hk => by rw [hw4]; exact heap_set_other hk
      have hs4 : w4.heap.size = wr.heap.size := by rw [hw4]; simp [World.setCell]
      have WK4 : WKS w4 B (B + 1) B v1 v2 bl mt := HL.out.wk.move fun k hk => hb4 k fun e => hnw (e ▸ hk)
      have ST4 : OwnS w4 B (.slice (some ⟨g, 0, none⟩) (st.length + 1) c4) (st ++ [((bn : Int), t + j + 1)]) := by
       rw [hw4]
       have h1 := HL.out.st.set (t + j + 1)
       rw [<- HM.out] at h1 ⊢
       simpa using h1
      have BL4 : Below B w w4 := by
       rw [hw4]
       exact HL.out.bel.setCell (by have := (own_block HL.out.st.out (g := g) rfl).1; exact this) _
      obtain ⟨D, d1, d2⟩ := WK4.map
      obtain ⟨e1, e2⟩ := d2 x fx
      have hkey := keyOf_int_mk Tryz.underlying3 fx.wf
      rw [hw4] at d1
      have HD2 : Hid _ := d2
      have HW4 : Hid _ := WK4
      have HS4 : Hid _ := ST4
      have HB4 : Hid _ := BL4
      have HE : Hid (w4 = wr.setCell ⟨g, m * 2 + 1, none⟩ (.int .i64 ((t : Int) + j + 1))) := hw4
      have HAT : Hid (D.atKey (.int .i64 x) (.lit (.int .i64 0)) = .lit (.int .i64 (plc bl x))) := e2
      have HHS : Hid (Maps.has D (.int .i64 x) = decide (x ∈ bl)) := e1
      clear hx hxg WK4 ST4 BL4 d2 e1 e2 hw4
      by_cases hxb : x ∈ bl
      ·go_wp2_with (first
        | (at_lookup; refine wpList_lookup_own_ok_int _ rfl _ _ 82 rfl 3 3 .i64 law3 Tryz.underlying82 Tryz.underlying3 (zero3 _) B bl.length D rfl d1 _ _ rfl hkey ?_; intro y hat hwc; rw [HHS.out, decide_eq_true hxb]; clear hat hwc)
        | go_in)
       go_roundg (rt - (j + 1))
       case rel =>
        refine ⟨j + 1, by omega, rfl, rfl, by go_num, ?_⟩
        rw [<- HE.out]
        exact ⟨HS4.out, HW4.out, fun i hi => by
         by_cases e : i = j
         ·subst e; rw [HXG.out]; exact hxb
         ·exact HL.out.met i (by omega), HB4.out⟩
       case measure => omega
      ·have kb4 : w4.cell? ⟨B + 1, 1, none⟩ = some (.map (some B)) := cell_arr (i := 1) HW4.out.box rfl
       obtain ⟨g', c', e4, _, _, hg4, k04, k14, kf4⟩ := HS4.out.top
       cases e4
       rw [<- HM.out] at k04 k14 kf4
       have fb : Fits (bn : Int) := by unfold Fits; omega
       have fp : Fits (plc bl (bn : Int)) := by
        unfold Fits plc
        have := List.idxOf_le_length (l := bl) (a := (bn : Int))
        have h2 := HH.out.wi.le
        simp only at h2
        have := HN.out
        split <;> omega
       have hlook : (Instr.lookup 82 (.map (some B)) (.int .i64 (bn : Int)) false).run Tryz.prog w4.drew = .ok (.int .i64 (plc bl (bn : Int))) w4.drew := by
        have d4 : w4.ownsMap Tryz.prog 3 (plainElem (H := Unit) Tryz.prog 3) B bl.length D := by rw [HE.out]; exact d1
        obtain ⟨y, hr, hat, _⟩ := (d4.drew).lookup_int law3 Tryz.underlying82 Tryz.underlying3 (zero3 _) (keyOf_int_mk Tryz.underlying3 fb.wf)
        obtain rfl : y = plc bl (bn : Int) := by (have e := hat.symm.trans (HD2.out (bn : Int) fb).2; cases e; rfl)
        exact hr
       go_wp2_with (first
        | (at_lookup; refine wpList_lookup_own_ok_int _ rfl _ _ 82 rfl 3 3 .i64 law3 Tryz.underlying82 Tryz.underlying3 (zero3 _) B bl.length D rfl d1 _ _ rfl hkey ?_; intro y hat hwc; rw [HHS.out, decide_eq_false hxb]; clear hat hwc)
        | go_in)
       rw [<- HE.out]
       clear d1 kb k0 k1 kf kx hkey
       have hB4 : B <= w4.heap.size := by have := HB4.out.size; have := HB.out; omega
       have hl1 : bl.length <= 1000000000 := by have h2 := HH.out.wi.le; simp only at h2; have := HN.out; omega
       have hl2 : mt.length <= 1000000000 := by have h2 := HH.out.wi.len; simp only at h2; omega
       have HPUSH : Hid (∀ (w5 : World) (v1' v2' : Value), WKS w5 B (B + 1) B v1' v2' (bl ++ [x]) (mt ++ [plc bl (bn : Int)]) -> Only (WF (B + 1) B v1 v2) w4.drew w5 -> OwnS w5 B (.slice (some ⟨g, 0, none⟩) (m + 1) c4) (st ++ [((bn : Int), t + j + 1)]) /\ w4.heap.size <= w5.heap.size /\ ∀ (w6 : World) (v6 : Value), OwnS w6 B v6 (st ++ [((bn : Int), t + j + 1)] ++ [(x, 0)]) -> GI B w5 w6 (.slice (some ⟨g, 0, none⟩) (m + 1) c4) v6 -> WH w w6 B Ls v6 G ⟨bl ++ [x], mt ++ [plc bl (bn : Int)], st ++ [((bn : Int), t + j + 1), (x, 0)]⟩ v1' v2') := by
        intro w5 v1' v2' a1 a2
        have hgn : ¬ WF (B + 1) B v1 v2 g := HS4.out.none HW4.out g rfl
        have b5 : w5.heap[g]? = w4.heap[g]? := a2.block g hg4 hgn
        have S5 : OwnS w5 B (.slice (some ⟨g, 0, none⟩) (m + 1) c4) (st ++ [((bn : Int), t + j + 1)]) := by
         have := HS4.out.move (w' := w5) (fun q hq => by cases hq; exact b5)
         rw [<- HM.out] at this; exact this
        refine ⟨S5, a2.size, fun w6 v6 a3 a4 => ?_⟩
        obtain ⟨p1, p2, p3, _⟩ := HH.out.wi.push HG.out (k := j) (by rw [HRO.out]; exact htj) (by rw [HRO.out, HXG.out]; exact hxb) (fun i hi => by rw [HRO.out]; exact HL.out.met i hi)
        rw [HRO.out, HXG.out] at p1 p2 p3
        have hr := HH.out.run
        rw [wrun, if_neg (by simp), p2] at hr
        have hq := HH.out.msr
        rw [p3] at hq
        refine ⟨by simpa using a3, a1.move fun k hk => a4.blk k (a1.lt k hk).2 (fun e => S5.none a1 k e hk), p1, hr, by omega, ?_⟩
        have b1 : Below B w4 w5 := ((Below.refl B w4).drew).trans (Only.below (w := w4.drew) a2 hB4 (fun k hk => (HW4.out.lt k hk).1))
        exact HB4.out.trans (b1.trans a4.bel)
       have S9 : st.length + 1 + 1 <= 1759218604441 := by have := HM.out; omega
       have HMT := HM.out
       subst HMT
       go_region_with (go_at_call 168; refine (meet_any w4.drew (HW4.out.drewN 1) hB4 x (plc bl (bn : Int)) fx fp hxb hl1 hl2).mono ?_; rintro e w5 ⟨rfl, v1', v2', HW5, ho5⟩)
       all_goals
        obtain ⟨S5, s5, PU⟩ := HPUSH.out w5 v1' v2' HW5 ho5
        have HPU : Hid _ := PU
        have HS5 : Hid _ := S5
        have hB5 : B <= w5.heap.size := by omega
        clear PU S5 HPUSH HW5 ho5
        go_wp2_with (first
         | (at_builtin; refine wpList_append_brG (w0 := w5) rfl _ _ rfl B (.slice (some ⟨g, 0, none⟩) (st.length + 1) c4) (st ++ [((bn : Int), t + j + 1)]) x rfl HS5.out rfl (by simpa using S9) hB5 ?_; intro v6 w6 h6 hG6
            have h7 := HPU.out w6 v6 h6 hG6
            have H7 : Hid _ := h7
            obtain ⟨a6, c6, e6, _, _⟩ := own_slice h6.out
            subst e6
            clear h6 hG6 h7)
         | go_in)
        go_roundg G
        case rel =>
         refine ⟨⟨bl ++ [x], mt ++ [plc bl (bn : Int)], st ++ [((bn : Int), t + j + 1), (x, 0)]⟩, v1', v2', a6, c6, by simp, ?_⟩
         have h8 := H7.out
         have e8 : (st ++ [((bn : Int), t + j + 1)] ++ [((x, 0) : Int × Nat)]).length = st.length + 2 := by simp
         rw [e8] at h8
         exact h8
        case measure => omega
     ·have hjr : j = rt := by omega
      subst hjr
      have HX := HPOP.out _ (by have h1 := HL.out.st; rw [<- HM.out] at h1; exact h1) HL.out.wk (fun i hi => HL.out.met i (by omega)) HL.out.bel
      have HX2 : Hid _ := HX
      clear HX HPOP
      go_wp2_with fail
      go_roundg G
      case rel => exact ⟨⟨bl, mt, st⟩, v1, v2, _, _, by rw [HM.out], HX2.out⟩
      case measure => omega
end Go.Proofs.YtfbkopjncmkbiabGreatDoor
