import Derived.Test.YthjjdfiaikibaabDmD
import Derived.Maps.Own
set_option linter.unusedVariables false
set_option linter.unusedSimpArgs false
namespace Go.Proofs.Ythjjdfiaikibaab
open Go.ChangeShapes Go.WideShapes Go.ChangeAt Go.RowKit Go.Maps

/-- A block's place among those that were met. -/
def plc (bl : List Int) (a : Int) : Int := if a ∈ bl then (bl.idxOf a : Int) else 0
theorem plc_app {bl : List Int} {x : Int} (hx : x ∉ bl) (a : Int) : plc (bl ++ [x]) a = if a = x then (bl.length : Int) else plc bl a := by
  unfold plc
  by_cases h : a = x
  · subst h
    simp [List.idxOf_append, hx]
  · rw [if_neg h]
    by_cases h2 : a ∈ bl
    · simp [h2, List.idxOf_append]
    · simp [h2, h]
/-- The walk at block wb, its map at mb: bl the blocks that were met, mt from where. -/
structure WKS (w : World) (B wb mb : Nat) (v1 v2 : Value) (bl mt : List Int) : Prop where
  box : w.heap[wb]? = some (.cells #[v1, .map (some mb), v2] 48 (0, 0))
  o1 : OwnI w B v1 bl.length bl
  o2 : OwnI w B v2 mt.length mt
  ne : ∀ g, v1.ownBlock = some g → v2.ownBlock ≠ some g
  map : ∃ D, w.ownsMap Try.prog 3 (plainElem (H := Unit) Try.prog 3) mb bl.length D ∧ ∀ a, Fits a → Maps.has D (.int .i64 a) = decide (a ∈ bl) ∧ D.atKey (.int .i64 a) (.lit (.int .i64 0)) = .lit (.int .i64 (plc bl a))
  lo : B ≤ wb ∧ B ≤ mb
def WF (wb mb : Nat) (v1 v2 : Value) (k : Nat) : Prop := k = wb ∨ k = mb ∨ v1.ownBlock = some k ∨ v2.ownBlock = some k
theorem WKS.wm {w B wb mb v1 v2 bl mt} (H : WKS w B wb mb v1 v2 bl mt) : wb ≠ mb := by
  rintro rfl
  obtain ⟨D, ⟨es, cl, h1, _⟩, _⟩ := H.map
  rw [H.box] at h1
  cases h1
theorem WKS.lt {w B wb mb v1 v2 bl mt} (H : WKS w B wb mb v1 v2 bl mt) : ∀ g, WF wb mb v1 v2 g → B ≤ g ∧ g < w.heap.size := by
  obtain ⟨D, d1, d2⟩ := H.map
  rintro g (rfl | rfl | h | h)
  · exact ⟨H.lo.1, (Array.getElem?_eq_some_iff.1 H.box).1⟩
  · exact ⟨H.lo.2, d1.lt⟩
  · exact own_block H.o1.out h
  · exact own_block H.o2.out h
theorem WKS.move {w w' B wb mb v1 v2 bl mt} (H : WKS w B wb mb v1 v2 bl mt) (hk : ∀ g, WF wb mb v1 v2 g → w'.heap[g]? = w.heap[g]?) : WKS w' B wb mb v1 v2 bl mt := by
  obtain ⟨D, d1, d2⟩ := H.map
  exact ⟨(hk wb (.inl rfl)).trans H.box, ⟨H.o1.len, own_move H.o1.out fun g hg => hk g (.inr (.inr (.inl hg)))⟩, ⟨H.o2.len, own_move H.o2.out fun g hg => hk g (.inr (.inr (.inr hg)))⟩, H.ne, ⟨D, own_map_move d1 (hk mb (.inr (.inl rfl))), d2⟩, H.lo⟩
/-- No row of the walk's own is its box or its map. -/
theorem WKS.rows {w B wb mb v1 v2 bl mt} (H : WKS w B wb mb v1 v2 bl mt) : (v1.ownBlock ≠ some wb ∧ v1.ownBlock ≠ some mb) ∧ (v2.ownBlock ≠ some wb ∧ v2.ownBlock ≠ some mb) := by
  obtain ⟨D, ⟨es, cl, h1, _⟩, _⟩ := H.map
  have hm : ∀ {v : Value} {n : Nat} {L : List Int}, OwnI w B v n L → v.ownBlock ≠ some mb := fun {v n L} ho e => by
    rcases ho.out.2 with ⟨rfl, _⟩ | ⟨g, cap, cur, rfl, _, e3, _⟩
    · simp [Value.ownBlock] at e
    · simp [Value.ownBlock] at e
      subst e
      rw [h1] at e3
      cases e3
  exact ⟨⟨own_not H.o1.out H.box (by decide), hm H.o1⟩, ⟨own_not H.o2.out H.box (by decide), hm H.o2⟩⟩

set_option maxHeartbeats 2000000 in
theorem meet_any (w : World) {B wb mb v1 v2 bl mt} (H : WKS w B wb mb v1 v2 bl mt) (hB : B ≤ w.heap.size) (x fr : Int) (hx : Fits x) (hfr : Fits fr) (hnew : x ∉ bl) (hl1 : bl.length ≤ 1000000000) (hl2 : mt.length ≤ 1000000000) :
    Calls Try.prog 28 #[.pointer (some ⟨wb, 0, none⟩), .int .i64 x, .int .i64 fr] w fun e w' => e = .returned (.tuple #[]) ∧ ∃ v1' v2', WKS w' B wb mb v1' v2' (bl ++ [x]) (mt ++ [fr]) ∧ Only (WF wb mb v1 v2) w w' := by
  have c0 := cell_arr (i := 0) H.box rfl
  have c1 := cell_arr (i := 1) H.box rfl
  have c2 := cell_arr (i := 2) H.box rfl
  have fz := fz_of (i := 0) H.box
  have fz2 := fz_of (i := 2) H.box
  obtain ⟨D, d1, d2⟩ := H.map
  have hkey := keyOf_int_mk Try.underlying3 hx.wf
  obtain ⟨a1, k1, e1, n1, n1'⟩ := own_slice H.o1.out
  obtain ⟨a2, k2, e2, n2, n2'⟩ := own_slice H.o2.out
  have hwf : (Lit.int .i64 (bl.length : Int)).wf = true := WalkArith.wf_i64 (by omega)
  obtain ⟨w1, hrun, own1, gr1⟩ := (d1.drew).update law3 Try.underlying46 (by unfold maxLen; omega) hkey (plainElem_int Try.underlying3 hwf)
  subst e1 e2
  have hwb := (H.lt wb (.inl rfl)).2
  have hmb := (H.lt mb (.inr (.inl rfl))).2
  have g1wb : w1.heap[wb]? = w.heap[wb]? := gr1.block wb hwb (fun e => H.wm (by cases e; rfl))
  have hs1 : w.heap.size ≤ w1.heap.size := gr1.size
  have q0 : w1.cell? ⟨wb, 0, none⟩ = some (.slice a1 bl.length k1) := (World.cell?_of_block (w := w) (a := ⟨wb, 0, none⟩) g1wb).trans c0
  have O1 : OwnI w1 B (.slice a1 bl.length k1) bl.length bl := ⟨rfl, own_grown (w := w.drew) H.o1.out gr1 fun g hg e => H.rows.1.2 (by rw [hg, ← e])⟩
  have O2 : OwnI w1 B (.slice a2 mt.length k2) mt.length mt := ⟨rfl, own_grown (w := w.drew) H.o2.out gr1 fun g hg e => H.rows.2.2 (by rw [hg, ← e])⟩
  have HO1 : Hid _ := O1
  have HO2 : Hid _ := O2
  have HH : Hid _ := H
  have HW1 : Hid (w1.heap[wb]? = w.heap[wb]?) := g1wb
  have hB1 : B ≤ w1.heap.size := by omega
  have hwb1 : wb < w1.heap.size := by omega
  have hmb1 : mb < w1.heap.size := by omega
  have HG1 : Hid _ := gr1
  have HWN : Hid _ := own1
  have HD2 : Hid _ := d2
  have HND : Hid _ := d1
  have HNW : Hid (x ∉ bl) := hnew
  have b1 := HW1.out.trans H.box
  have HB1 : Hid _ := b1
  clear O1 O2 H g1wb gr1 own1 d2 d1 hnew b1 fz fz2 hwb hmb
  go_enter Try.func28, Try.ntmps28
  go_wp2_with fail
  go_region
  clear c0 c1 c2
  go_wp2_with (first
    | (at_builtin; refine wpList_append_intG (w0 := w1) rfl _ _ rfl B (.slice a1 bl.length k1) bl.length bl x rfl HO1.out rfl (by omega) hB1 ?_; intro u6 w6 h6 hG6
       have b6 : w6.heap[wb]? = some (.cells #[.slice a1 bl.length k1, .map (some mb), .slice a2 mt.length k2] 48 (0, 0)) := (hG6.blk wb hwb1 HH.out.rows.1.1).trans HB1.out
       have O26 := HO2.out.gi hG6 (fun b hb e => HH.out.ne b e hb)
       have A26 := HO2.out.giA hG6 (fun b hb e => HH.out.ne b e hb)
       have q6 : w6.cell? ⟨wb, 0, none⟩ = some (.slice a1 bl.length k1) := cell_arr (i := 0) b6 rfl
       have p6 := fz_of (i := 0) b6
       have q62 : w6.cell? ⟨wb, 2, none⟩ = some (.slice a2 mt.length k2) := cell_arr (i := 2) b6 rfl
       have n6 := own_not h6.out b6 (by decide)
       obtain ⟨a6, k6, rfl, _, _⟩ := own_slice h6.out
       obtain ⟨w7, hw7⟩ : ∃ w7, w7 = w6.setCell ⟨wb, 0, none⟩ (.slice a6 (bl.length + 1) k6) := ⟨_, rfl⟩
       have b7 : w7.heap[wb]? = some (.cells #[.slice a6 (bl.length + 1) k6, .map (some mb), .slice a2 mt.length k2] 48 (0, 0)) := by rw [hw7]; exact heap_set_at b6
       have H67 : Hid (∀ k, k ≠ wb → w7.heap[k]? = w6.heap[k]?) := fun k hk => by rw [hw7]; exact heap_set_other hk
       have s7 : w7.heap.size = w6.heap.size := by rw [hw7]; simp [World.setCell]
       have s6 := hG6.size
       have HG6 : Hid _ := hG6
       have HO6 : Hid _ := h6
       have HO26 : Hid _ := O26
       have HA26 : Hid _ := A26
       have HN6 : Hid _ := n6
       have HW7 : Hid _ := hw7
       clear hG6 h6 O26 A26 n6 hw7)
    | (at_builtin; refine wpList_append_intG (w0 := w6.setCell ⟨wb, 0, none⟩ (.slice a6 (bl.length + 1) k6)) rfl _ _ rfl B (.slice a2 mt.length k2) mt.length mt fr rfl (by rw [← HW7.out]; exact ⟨rfl, own_move HO26.out.out fun b hb => H67.out b (fun e => HH.out.rows.2.1 (by rw [hb, e]))⟩) (by simp [Act.eval, World.setCell]) (by omega) (by rw [← HW7.out]; omega) ?_; intro u8 w8 h8 hG8
       rw [← HW7.out] at hG8
       have b8 : w8.heap[wb]? = some (.cells #[.slice a6 (bl.length + 1) k6, .map (some mb), .slice a2 mt.length k2] 48 (0, 0)) := (hG8.blk wb (by omega) HH.out.rows.2.1).trans b7
       have q8 : w8.cell? ⟨wb, 2, none⟩ = some (.slice a2 mt.length k2) := cell_arr (i := 2) b8 rfl
       have p8 := fz_of (i := 2) b8
       obtain ⟨a8, k8, rfl, _, _⟩ := own_slice h8.out
       have s8 := hG8.size
       have HG8 : Hid _ := hG8
       have HO8 : Hid _ := h8
       clear hG8 h8)
    | go_in)
  refine bodyPost_end (v := .tuple #[]) (by simp [results, Try.results28, go_sem]) rfl ?_
  refine ⟨rfl, .slice a6 (bl.length + 1) k6, .slice a8 (mt.length + 1) k8, ?_⟩
  obtain ⟨W, hW⟩ : ∃ W, W = w8.setCell ⟨wb, 2, none⟩ (.slice a8 (mt.length + 1) k8) := ⟨_, rfl⟩
  rw [← hW]
  have bW : W.heap[wb]? = some (.cells #[.slice a6 (bl.length + 1) k6, .map (some mb), .slice a8 (mt.length + 1) k8] 48 (0, 0)) := by rw [hW]; exact heap_set_at b8
  have H8W : ∀ k, k ≠ wb → W.heap[k]? = w8.heap[k]? := fun k hk => by rw [hW]; exact heap_set_other hk
  have sW : W.heap.size = w8.heap.size := by rw [hW]; simp [World.setCell]
  have tW : W.os = w8.os ∧ W.tape = w8.tape ∧ W.output = w8.output := by rw [hW]; exact ⟨rfl, rfl, rfl⟩
  have t7 : w7.os = w6.os ∧ w7.tape = w6.tape ∧ w7.output = w6.output := by rw [HW7.out]; exact ⟨rfl, rfl, rfl⟩
  have R := HH.out.rows
  have n8 := own_not HO8.out.out b8 (by decide)
  have hmw := HH.out.wm
  have blk : ∀ k, k < w.heap.size → ¬ WF wb mb (.slice a1 bl.length k1) (.slice a2 mt.length k2) k → W.heap[k]? = w.heap[k]? := fun k hk hn => by
    have e1 : k ≠ wb := fun e => hn (.inl e)
    have e2 : k ≠ mb := fun e => hn (.inr (.inl e))
    rw [H8W k e1, HG8.out.blk k (by omega) (fun e => hn (.inr (.inr (.inr e)))), H67.out k e1, HG6.out.blk k (by omega) (fun e => hn (.inr (.inr (.inl e))))]
    exact HG1.out.block k hk (fun e => e2 (by cases e; rfl))
  have mblk : W.heap[mb]? = w1.heap[mb]? := by
    rw [H8W mb hmw.symm, HG8.out.blk mb (by omega) R.2.2, H67.out mb hmw.symm, HG6.out.blk mb hmb1 R.1.2]
  have d1 : w.ownsMap Try.prog 3 (plainElem (H := Unit) Try.prog 3) mb bl.length D := HND.out
  have own' : w1.ownsMap Try.prog 3 (plainElem (H := Unit) Try.prog 3) mb (bl.length + 1) (D.put (.int .i64 x) (.lit (.int .i64 bl.length))) := HWN.out
  refine ⟨⟨bW, ⟨by simp, ?_⟩, ⟨by simp, ?_⟩, ?_, ⟨_, own_map_move (by rw [show (bl ++ [x]).length = bl.length + 1 by simp]; exact own') mblk, ?_⟩, HH.out.lo⟩, ?_⟩
  · have : (bl ++ [x]).length = bl.length + 1 := by simp
    rw [this]
    refine own_move HO6.out.out fun g hg => ?_
    have hlt := (own_block HO6.out.out hg).2
    have e1 : g ≠ wb := fun e => HN6.out (by rw [hg, e])
    rw [H8W g e1, HG8.out.blk g (by omega) (fun e => HA26.out g e hg), H67.out g e1]
  · have : (mt ++ [fr]).length = mt.length + 1 := by simp
    rw [this]
    refine own_move HO8.out.out fun g hg => ?_
    exact H8W g fun e => n8 (by rw [hg, e])
  · intro g hg1 hg2
    rcases HG8.out.own g hg2 with h | h
    · exact HA26.out g h hg1
    · have := (own_block HO6.out.out hg1).2; omega
  · intro a ha
    obtain ⟨e1, e2⟩ := HD2.out a ha
    constructor
    · by_cases e : a = x
      · subst e
        rw [has_put_same d1.isMap (show WideAt.IsKeyLit (Lit.int .i64 _) from trivial)]
        simp
      · rw [has_put_other (key_ne e), e1]
        simp [e]
    · rw [plc_app HNW.out]
      by_cases e : a = x
      · subst e
        rw [if_pos rfl]
        exact atKey_put_same d1.isMap (show WideAt.IsKeyLit (Lit.int .i64 _) from trivial) _ _
      · rw [atKey_put_other (key_ne e), e2, if_neg e]
  · refine ⟨?_, ?_, ?_, by omega, blk⟩
    · rw [tW.1, HG8.out.bel.os, t7.1, HG6.out.bel.os, HG1.out.os]; rfl
    · rw [tW.2.1, HG8.out.bel.tape, t7.2.1, HG6.out.bel.tape, HG1.out.tape]; rfl
    · rw [tW.2.2, HG8.out.bel.output, t7.2.2, HG6.out.bel.output, HG1.out.output]; rfl
end Go.Proofs.Ythjjdfiaikibaab
