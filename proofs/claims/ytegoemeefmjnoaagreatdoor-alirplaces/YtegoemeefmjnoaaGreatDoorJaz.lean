import Derived.Test.YtegoemeefmjnoaaGreatDoorJay
set_option linter.unusedVariables false
set_option linter.unusedSimpArgs false
namespace Go.Proofs.YtegoemeefmjnoaaGreatDoor
open Go.ChangeShapes Go.WideShapes Go.ChangeAt Go.RowKit Go.Maps
theorem Kp.lower {T B B' w w'} (h : Kp T B' w w') (hB : B <= B') : Kp T B w w' := ⟨h.size, fun g h1 h2 => h.old g h1 (by
 rcases h2 with q | q
 ·exact .inl (by omega)
 ·exact .inr q)⟩
theorem info_lblock : (Tryz.prog.info? 134).map (fun i => (i.zero, i.size, i.bytes)) = some (some (.agg #[.slice none 0 0, .int .i64 0, .int .i64 0, .slice none 0 0]), 4, 64) := by kernel_rfl
theorem info_lfunc : (Tryz.prog.info? 125).map (fun i => (i.zero, i.size, i.bytes)) = some (some (.agg #[.string ByteArray.empty, .slice none 0 0, .int .i64 0, .int .i64 0, .slice none 0 0]), 5, 80) := by kernel_rfl
structure NgS (B : Nat) (f : Af) (wq : World) (ab fb g : Nat) (A : Array Value) (v : Value) (j : Nat) (wr : World) : Prop where
 low : Below wq.heap.size wq wr
 abx : wr.heap[ab]? = some (.cells A 37 (0, 0))
 fbx : wr.heap[fb]? = some (.cells #[.string f.name, .slice (some ⟨g, 0, none⟩) f.params.length f.params.length, .int .i64 (8 + f.slots), .int .i64 f.result, v] 125 (0, 0))
 num : Num wr g (f.params.map (numP f.slots))
 row : RowE (LbE B) 134 4 wr wq.heap.size v ((f.blks.take j).map (nuB f.slots))
 ge : wq.heap.size <= fb
theorem NgS.below {B f wq ab fb g A v j wr wr'} (h : NgS B f wq ab fb g A v j wr) (hB : B <= wq.heap.size) (hb : Below wr.heap.size wr wr') : NgS B f wq ab fb g A v j wr' :=
 have k : Kp [] wq.heap.size wr wr' := Kp.of_below hb
 ⟨h.low.trans (hb.mono h.low.size), (hb.block _ (gl h.abx)).trans h.abx, (hb.block _ (gl h.fbx)).trans h.fbx, h.num.below hb, h.row.kp k (by simp) (LbE.kp (k.lower hB) (Nat.le_trans hB h.low.size) (by simp) (by simp)), h.ge⟩
theorem NgS.next {B f wq ab fb g A v j wr} (h : NgS B f wq ab fb g A v j wr) (hB : B <= wq.heap.size) (hj : j < f.blks.length) {xs : List (List Value)} (hxl : xs.length = j) (hxs : ∀ i (hi : i < ((f.blks.take j).map (nuB f.slots)).length), LbE B wr (xs.getD i []) ((f.blks.take j).map (nuB f.slots))[i]) {wB WB w7 : World} {cs : List Value} (bB : Below wr.heap.size wr wB) (hc : LbE B wB cs (nuB f.slots f.blks[j])) (bW : Below wB.heap.size wB WB) {v7 : Value} (hR : Row WB wq.heap.size 134 4 v xs) (hr : Row w7 wq.heap.size 134 4 v7 (xs ++ [cs])) (hG : GI wq.heap.size WB w7 v v7) :
 w7.cell? ⟨fb, 4, none⟩ = some v /\ w7.frozen? ⟨fb, 4, none⟩ = false /\ fb < w7.heap.size /\ NgS B f wq ab fb g A v7 (j + 1) (w7.setCell ⟨fb, 4, none⟩ v7) := by
 have hW := (h.below hB bB).below hB bW
 have k7 : Kp [134] wq.heap.size WB w7 := Kp.gi hG hR (by simp)
 have kB : Kp [] B wB WB := Kp.of_below bW
 have k0 : Kp [] B wr WB := Kp.of_below (bB.trans (bW.mono bB.size))
 have sWB : B <= WB.heap.size := Nat.le_trans hB hW.low.size
 have swB : B <= wB.heap.size := Nat.le_trans hB (h.below hB bB).low.size
 have swr : B <= wr.heap.size := Nat.le_trans hB h.low.size
 have c7 := (k7.old fb (gl hW.fbx) (.inr ⟨_, _, hW.fbx, by simp⟩)).trans hW.fbx
 have a7 := (k7.old ab (gl hW.abx) (.inr ⟨_, _, hW.abx, by simp⟩)).trans hW.abx
 have k8 : Kp [125] wq.heap.size w7 (w7.setCell ⟨fb, 4, none⟩ v7) := Kp.set c7 (by simp) h.ge _
 have s7 : B <= w7.heap.size := Nat.le_trans sWB hG.size
 have hE : ∀ i (hi : i < ((f.blks.take j).map (nuB f.slots)).length), LbE B w7 (xs.getD i []) ((f.blks.take j).map (nuB f.slots))[i] := fun i hi => LbE.kp (k7.lower hB) sWB (by simp) (by simp) _ _ (LbE.kp k0 swr (by simp) (by simp) _ _ (hxs i hi))
 have hc7 : LbE B w7 cs (nuB f.slots f.blks[j]) := LbE.kp (k7.lower hB) sWB (by simp) (by simp) _ _ (LbE.kp kB swB (by simp) (by simp) _ _ hc)
 have hp := RowE.push (x := nuB f.slots f.blks[j]) hr (N := (f.blks.take j).map (nuB f.slots)) (by simp; omega) hE hc7
 have e : (f.blks.take j).map (nuB f.slots) ++ [nuB f.slots f.blks[j]] = (f.blks.take (j + 1)).map (nuB f.slots) := by rw [List.take_succ_eq_append_getElem hj, List.map_append]; rfl
 rw [e] at hp
 have hne : ab ≠ fb := by
  rintro rfl
  rw [c7] at a7
  simp at a7
 refine ⟨cell_arr c7 rfl, fz_of c7, (gl c7), ?_, ?_, ?_, ?_, ?_, h.ge⟩
 ·exact (hW.low.trans (hG.bel.mono (Nat.le_refl _))).setCell h.ge _
 ·rw [heap_set_other hne]; exact a7
 ·exact box_set (A := [.string f.name, .slice (some ⟨g, 0, none⟩) f.params.length f.params.length, .int .i64 (8 + f.slots), .int .i64 f.result, v]) c7 rfl
 ·exact k8.num (by simp) (k7.num (by simp) hW.num)
 ·exact hp.kp k8 (by simp) (LbE.kp (k8.lower hB) s7 (by simp) (by simp))
structure NfS (FS : List Af) (m : Int) (w : World) (rb lb : Nat) (v : Value) (k : Nat) (wr : World) : Prop where
 low : Below w.heap.size w wr
 rbx : wr.heap[rb]? = some (.cells #[.slice none 0 0, .int .i64 0] 110 (0, 0))
 lbx : wr.heap[lb]? = some (.cells #[v, .int .i64 m] 110 (0, 0))
 row : RowE (LfE w.heap.size) 125 5 wr w.heap.size v ((FS.take k).map nuF)
 ne : rb ≠ lb /\ w.heap.size <= lb
theorem NfS.below {FS m w rb lb v k wr wr'} (h : NfS FS m w rb lb v k wr) (hb : Below wr.heap.size wr wr') : NfS FS m w rb lb v k wr' :=
 have q : Kp [] w.heap.size wr wr' := Kp.of_below hb
 ⟨h.low.trans (hb.mono h.low.size), (hb.block _ (gl h.rbx)).trans h.rbx, (hb.block _ (gl h.lbx)).trans h.lbx, h.row.kp q (by simp) (LfE.kp q h.low.size (by simp) (by simp) (by simp)), h.ne⟩
theorem NfS.next {FS m w rb lb v k wr} (h : NfS FS m w rb lb v k wr) (hk : k < FS.length) {xs : List (List Value)} (hxl : xs.length = k) (hxs : ∀ i (hi : i < ((FS.take k).map nuF).length), LfE w.heap.size wr (xs.getD i []) ((FS.take k).map nuF)[i]) {wB WB w7 : World} {cs : List Value} (bB : Below wr.heap.size wr wB) (hc : LfE w.heap.size wB cs (nuF FS[k])) (bW : Below wB.heap.size wB WB) {v7 : Value} (hR : Row WB w.heap.size 125 5 v xs) (hr : Row w7 w.heap.size 125 5 v7 (xs ++ [cs])) (hG : GI w.heap.size WB w7 v v7) :
 w7.cell? ⟨lb, 0, none⟩ = some v /\ w7.frozen? ⟨lb, 0, none⟩ = false /\ lb < w7.heap.size /\ NfS FS m w rb lb v7 (k + 1) (w7.setCell ⟨lb, 0, none⟩ v7) := by
 have hW := (h.below bB).below bW
 have k7 : Kp [125] w.heap.size WB w7 := Kp.gi hG hR (by simp)
 have kB : Kp [] w.heap.size wB WB := Kp.of_below bW
 have k0 : Kp [] w.heap.size wr WB := Kp.of_below (bB.trans (bW.mono bB.size))
 have c7 := (k7.old lb (gl hW.lbx) (.inr ⟨_, _, hW.lbx, by simp⟩)).trans hW.lbx
 have r7 := (k7.old rb (gl hW.rbx) (.inr ⟨_, _, hW.rbx, by simp⟩)).trans hW.rbx
 have k8 : Kp [110] w.heap.size w7 (w7.setCell ⟨lb, 0, none⟩ v7) := Kp.set c7 (by simp) h.ne.2 _
 have s7 : w.heap.size <= w7.heap.size := Nat.le_trans hW.low.size hG.size
 have hE : ∀ i (hi : i < ((FS.take k).map nuF).length), LfE w.heap.size w7 (xs.getD i []) ((FS.take k).map nuF)[i] := fun i hi => LfE.kp k7 hW.low.size (by simp) (by simp) (by simp) _ _ (LfE.kp k0 h.low.size (by simp) (by simp) (by simp) _ _ (hxs i hi))
 have hc7 : LfE w.heap.size w7 cs (nuF FS[k]) := LfE.kp k7 hW.low.size (by simp) (by simp) (by simp) _ _ (LfE.kp kB (h.below bB).low.size (by simp) (by simp) (by simp) _ _ hc)
 have hp := RowE.push (x := nuF FS[k]) hr (N := (FS.take k).map nuF) (by simp; omega) hE hc7
 have e : (FS.take k).map nuF ++ [nuF FS[k]] = (FS.take (k + 1)).map nuF := by rw [List.take_succ_eq_append_getElem hk, List.map_append]; rfl
 rw [e] at hp
 refine ⟨cell_arr c7 rfl, fz_of c7, (gl c7), ?_, ?_, ?_, ?_, h.ne⟩
 ·exact (hW.low.trans (hG.bel.mono (Nat.le_refl _))).setCell h.ne.2 _
 ·rw [heap_set_other h.ne.1]; exact r7
 ·exact box_set (A := [v, .int .i64 m]) c7 rfl
 ·exact hp.kp k8 (by simp) (LfE.kp k8 s7 (by simp) (by simp) (by simp))
theorem NgS.done {B f wq ab fb g A v wr} (h : NgS B f wq ab fb g A v f.blks.length wr) (hB : B <= wq.heap.size) (hp : f.params.length <= 100000000) : LfE B wr [.string f.name, .slice (some ⟨g, 0, none⟩) f.params.length f.params.length, .int .i64 (8 + f.slots), .int .i64 f.result, v] (nuF f) := by
 have hr := h.row
 rw [List.take_of_length_le (Nat.le_refl _)] at hr
 exact ⟨g, v, by simp [nuF], by simpa [nuF] using hp, h.num, hr.lower hB⟩
end Go.Proofs.YtegoemeefmjnoaaGreatDoor
