import Derived.Test.YtfbkopjncmkbiabGreatDoorKbh
set_option linter.unusedVariables false
set_option linter.unusedSimpArgs false
namespace Go.Proofs.YtfbkopjncmkbiabGreatDoor
open Go.ChangeShapes Go.WideShapes Go.ChangeAt Go.RowKit Go.Maps
structure FewC (f : Fu) : Prop where
 p : f.params.length <= 10000000
 v : f.vals.length <= 10000000
 a : ∀ v ∈ f.vals, v.args.length <= 10000000
 b : f.blks.length <= 10000000
 l : ∀ b ∈ f.blks, b.phis.length <= 10000000 /\ b.body.length <= 10000000 /\ b.ways.length <= 10000000 /\ b.preds.length <= 10000000
structure Exc (ao : Option Addr) (wc w : World) : Prop where
 size : wc.heap.size <= w.heap.size
 blk : ∀ b, b < wc.heap.size -> ao ≠ some ⟨b, 0, none⟩ -> w.heap[b]? = wc.heap[b]?
theorem Exc.refl (ao : Option Addr) (w : World) : Exc ao w w := ⟨Nat.le_refl _, fun _ _ _ => rfl⟩
theorem Exc.put {ao : Option Addr} {wc w w1 : World} (h : Exc ao wc w) (hb : Below w.heap.size w w1) {V i : Nat} (ha : ao = some ⟨V, 0, none⟩) (v : Value) : Exc ao wc (w1.setCell ⟨V, i, none⟩ v) :=
 ⟨by have := h.size; have := hb.size; simp [World.setCell]; omega, fun b h1 h2 => by
  rw [heap_set_other (fun e => h2 (by rw [ha, e])), hb.block b (by have := h.size; omega)]
  exact h.blk b h1 h2⟩
structure VSt (w0 wc w : World) (B L : Nat) (ao : Option Addr) (c k : Nat) (N : List Vl) : Prop where
 out : ∃ xs, VLo w0 w B (fun b => b = L \/ ao = some ⟨b, 0, none⟩) ao c k N xs /\ Exc ao wc w
theorem VSt.next {w0 wc w B L ao c k N} (h : VSt w0 wc w B L ao c k N) (hk : k < N.length) (hN : N[k].args.length <= 10000000) (hL : L < wc.heap.size) (hAL : ao ≠ some ⟨L, 0, none⟩) (hw0 : w0.heap.size = B) : ∃ V xa xc, ao = some ⟨V, 0, none⟩ /\ V < w.heap.size /\ V ≠ L /\ w.cell? ⟨V, k * 4 + 3, none⟩ = some (.slice xa N[k].args.length xc) /\ w.heap[L]? = wc.heap[L]?
 /\ Hid (Calls Tryz.prog 14 #[.slice xa N[k].args.length xc] w.drew fun e w' => ∃ v, e = .returned v /\ OwnI w' w.heap.size v N[k].args.length N[k].args /\ Below w.heap.size w w')
 /\ Hid (∀ w5 a5 c5, OwnI w5 w.heap.size (.slice a5 N[k].args.length c5) N[k].args.length N[k].args -> Below w.heap.size w w5 -> w5.heap[L]? = wc.heap[L]? /\ w5.cell? ⟨V, k * 4 + 3, none⟩ = some (.slice xa N[k].args.length xc) /\ w5.frozen? ⟨V, k * 4 + 3, none⟩ = false /\ V < w5.heap.size /\ VSt w0 wc (w5.setCell ⟨V, k * 4 + 3, none⟩ (.slice a5 N[k].args.length c5)) B L ao c (k + 1) N) := by
 obtain ⟨xs, hV, hE⟩ := h.out
 have hkx : k < xs.length := by rw [hV.len]; exact hk
 obtain ⟨V, c2, cs2, e, h1, h2, h3, h4⟩ := hV.row.some (by omega)
 simp only [Value.slice.injEq] at e
 obtain ⟨rfl, _, rfl⟩ := e
 have eg : xs.getD k [] = xs[k] := by simp [List.getD, hkx]
 obtain ⟨xa, xc, ex, q1, _⟩ := (hV.ent k hk).out
 rw [eg] at ex
 have hI := q1 (by simp)
 have hVL : V ≠ L := fun e => hAL (by rw [e])
 have cV : ∀ W, Below w.heap.size w W -> W.cell? ⟨V, k * 4 + 3, none⟩ = some (.slice xa N[k].args.length xc) /\ W.frozen? ⟨V, k * 4 + 3, none⟩ = false /\ V < W.heap.size := fun W hW => by
  have hr := hV.row.keep hW
  have hb := own_block hr.out rfl
  refine ⟨hr.cell hV.len.symm hkx (by omega) (by rw [ex]; rfl), ?_, hb.2⟩
  have o := hr.out
  rw [<- hV.len] at o
  exact own_fz o _
 have cL : ∀ W, Below w.heap.size w W -> W.heap[L]? = wc.heap[L]? := fun W hW => by
  rw [hW.block L (by have := hE.size; omega)]
  exact hE.blk L hL hAL
 have bd : Below w.heap.size w w.drew := (Below.refl _ _).drew
 refine ⟨V, xa, xc, rfl, (cV w (Below.refl _ _)).2.2, hVL, (cV w (Below.refl _ _)).1, cL w (Below.refl _ _), ?_, ?_⟩
 ·have hIw : Ints w.drew xa xc N[k].args := hI.below (hV.low.trans (bd.mono hV.xv.2)) (by omega)
  exact (cloneI_any w.drew hIw rfl (by omega)).mono fun e w' ⟨v, q1, q2, q3⟩ => ⟨v, q1, q2, bd.trans q3⟩
 ·intro w5 a5 c5 hO b5
  obtain ⟨r1, r2, r3⟩ := cV w5 b5
  refine ⟨cL w5 b5, r1, r2, r3, _, hV.put rfl b5 hk (fun b q => ?_) hO, hE.put b5 rfl _⟩
  rcases q with rfl | q
  ·have := hE.size; omega
  ·cases q; exact (cV w (Below.refl _ _)).2.2
structure BSt (w0 wc w : World) (B L : Nat) (ao : Option Addr) (c k t : Nat) (N : List Bk) : Prop where
 out : ∃ xs, BLo w0 w B (fun b => b = L \/ ao = some ⟨b, 0, none⟩) ao c k t N xs /\ Exc ao wc w
theorem BSt.next {w0 wc w B L ao c k t N} (h : BSt w0 wc w B L ao c k t N) (hk : k < N.length) (ht : t < 4) (hN : (fld N[k] t).length <= 10000000) (hL : L < wc.heap.size) (hAL : ao ≠ some ⟨L, 0, none⟩) (hw0 : w0.heap.size = B) : ∃ K xa xc, ao = some ⟨K, 0, none⟩ /\ K < w.heap.size /\ K ≠ L /\ w.cell? ⟨K, k * 6 + fix t, none⟩ = some (.slice xa (fld N[k] t).length xc) /\ w.heap[L]? = wc.heap[L]?
 /\ Hid (Calls Tryz.prog 14 #[.slice xa (fld N[k] t).length xc] w fun e w' => ∃ v, e = .returned v /\ OwnI w' w.heap.size v (fld N[k] t).length (fld N[k] t) /\ Below w.heap.size w w')
 /\ Hid (∀ w5 a5 c5, OwnI w5 w.heap.size (.slice a5 (fld N[k] t).length c5) (fld N[k] t).length (fld N[k] t) -> Below w.heap.size w w5 -> w5.cell? ⟨K, k * 6 + fix t, none⟩ = some (.slice xa (fld N[k] t).length xc) /\ w5.frozen? ⟨K, k * 6 + fix t, none⟩ = false /\ K < w5.heap.size /\ BSt w0 wc (w5.setCell ⟨K, k * 6 + fix t, none⟩ (.slice a5 (fld N[k] t).length c5)) B L ao c k (t + 1) N) := by
 obtain ⟨xs, hV, hE⟩ := h.out
 have hkx : k < xs.length := by rw [hV.len]; exact hk
 obtain ⟨V, c2, cs2, e, h1, h2, h3, h4⟩ := hV.row.some (by omega)
 simp only [Value.slice.injEq] at e
 obtain ⟨rfl, _, rfl⟩ := e
 have eg : xs.getD k [] = xs[k] := by simp [List.getD, hkx]
 obtain ⟨A, ex, q1⟩ := (hV.ent k hk).out
 rw [eg] at ex
 have es : stg k t k = t := by unfold stg; rw [if_neg (by omega), if_pos rfl]
 rw [es] at q1
 have hI := (q1 t ht).1 (Nat.le_refl _)
 have hVL : V ≠ L := fun e => hAL (by rw [e])
 have cV : ∀ W, Below w.heap.size w W -> W.cell? ⟨V, k * 6 + fix t, none⟩ = some (.slice (A t).1 (fld N[k] t).length (A t).2) /\ W.frozen? ⟨V, k * 6 + fix t, none⟩ = false /\ V < W.heap.size := fun W hW => by
  have hr := hV.row.keep hW
  have hb := own_block hr.out rfl
  refine ⟨hr.cell hV.len.symm hkx (fix_lt ht) (by rw [ex]; exact bcs_at _ _ ht), ?_, hb.2⟩
  have o := hr.out
  rw [<- hV.len] at o
  exact own_fz o _
 refine ⟨V, (A t).1, (A t).2, rfl, (cV w (Below.refl _ _)).2.2, hVL, (cV w (Below.refl _ _)).1, hE.blk L hL hAL, ?_, ?_⟩
 ·exact cloneI_any w (hI.below hV.low (by omega)) rfl (by omega)
 ·intro w5 a5 c5 hO b5
  obtain ⟨r1, r2, r3⟩ := cV w5 b5
  refine ⟨r1, r2, r3, _, hV.put rfl b5 hk ht (fun b q => ?_) hO, hE.put b5 rfl _⟩
  rcases q with rfl | q
  ·have := hE.size; omega
  ·cases q; exact (cV w (Below.refl _ _)).2.2
theorem BSt.step {w0 wc w B L ao c k N} (h : BSt w0 wc w B L ao c k 4 N) : BSt w0 wc w B L ao c (k + 1) 0 N := by
 obtain ⟨xs, hV, hE⟩ := h.out
 exact ⟨xs, hV.next, hE⟩
structure VAll (w0 : World) (B : Nat) (N : List Vl) (xs : List (List Value)) : Prop where
 out : ∀ W X i (hi : i < N.length), VEn w0 W B X false (xs.getD i []) N[i]
structure BAll (w0 : World) (B : Nat) (N : List Bk) (xs : List (List Value)) : Prop where
 out : ∀ W X i (hi : i < N.length), BEn w0 W B X 0 (xs.getD i []) N[i]
structure Op1 (w0 wf w : World) (B L c j : Nat) (FS : List Fu) (f : Fu) : Prop where
 out : ∃ xs A, FOp w0 wf w B L c j FS xs A /\ Sta w B (fun b => b = L) (fun W => Ints W (A 0).1 (A 0).2 f.params) /\ Vls w0 (A 1).1 (A 1).2 f.vals /\ Bks w0 (A 2).1 (A 2).2 f.blks
structure Op2 (w0 wf w : World) (B L c j : Nat) (FS : List Fu) (f : Fu) (va : Option Addr) (vc : Nat) : Prop where
 out : ∃ xs A wp, FOp w0 wf w B L c j FS xs A /\ Sta wp B (fun b => b = L) (fun W => Ints W (A 0).1 (A 0).2 f.params) /\ Bks w0 (A 2).1 (A 2).2 f.blks /\ A 1 = (va, vc) /\ wp.heap.size <= w.heap.size /\ (∀ b, B <= b -> b < wp.heap.size -> ¬ b = L -> w.heap[b]? = wp.heap[b]?) /\ ∀ V, va = some ⟨V, 0, none⟩ -> wp.heap.size <= V
 vs : VSt w0 w w B L va vc 0 f.vals
 far : ∀ V, va = some ⟨V, 0, none⟩ -> wf.heap.size <= V
structure Op3 (w0 wf w : World) (B L c j : Nat) (FS : List Fu) (f : Fu) : Prop where
 out : ∃ xs A, FOp w0 wf w B L c j FS xs A /\ Sta w B (fun b => b = L) (fun W => Ints W (A 0).1 (A 0).2 f.params) /\ Sta w B (fun b => b = L) (fun W => Vls W (A 1).1 (A 1).2 f.vals) /\ Bks w0 (A 2).1 (A 2).2 f.blks
structure Op4 (w0 wf w : World) (B L c j : Nat) (FS : List Fu) (f : Fu) (ba : Option Addr) (bc : Nat) : Prop where
 out : ∃ xs A wp, FOp w0 wf w B L c j FS xs A /\ Sta wp B (fun b => b = L) (fun W => Ints W (A 0).1 (A 0).2 f.params) /\ Sta wp B (fun b => b = L) (fun W => Vls W (A 1).1 (A 1).2 f.vals) /\ A 2 = (ba, bc) /\ wp.heap.size <= w.heap.size /\ (∀ b, B <= b -> b < wp.heap.size -> ¬ b = L -> w.heap[b]? = wp.heap[b]?) /\ ∀ V, ba = some ⟨V, 0, none⟩ -> wp.heap.size <= V
 vs : BSt w0 w w B L ba bc 0 0 f.blks
 far : ∀ V, ba = some ⟨V, 0, none⟩ -> wf.heap.size <= V
theorem FAll.one {w0 w B L c j FS xs} (h : FAll w0 w B L c j FS xs) (hj : j < FS.length) (f : Fu) (hf : FS[j] = f) (hP : f.params.length <= 10000000) (hw0 : w0.heap.size = B) :
 ∃ pa pc, w.cell? ⟨L, j * 5 + 1, none⟩ = some (.slice pa f.params.length pc) /\ L < w.heap.size
   /\ Hid (Calls Tryz.prog 14 #[.slice pa f.params.length pc] w fun e w' => ∃ v, e = .returned v /\ OwnI w' w.heap.size v f.params.length f.params /\ Below w.heap.size w w')
   /\ Hid (∀ w1 a k, OwnI w1 w.heap.size (.slice a f.params.length k) f.params.length f.params -> Below w.heap.size w w1 -> w1.cell? ⟨L, j * 5 + 1, none⟩ = some (.slice pa f.params.length pc) /\ w1.frozen? ⟨L, j * 5 + 1, none⟩ = false /\ L < w1.heap.size /\ Op1 w0 w (w1.setCell ⟨L, j * 5 + 1, none⟩ (.slice a f.params.length k)) B L c j FS f) := by
 subst hf
 obtain ⟨A, hO, h1, h2, h3⟩ := h.start hj
 have hs := hO.szs
 have cc := hO.cell hj (r := 1) (by omega) rfl
 refine ⟨(A 0).1, (A 0).2, cc.1, cc.2.2, cloneI_any w (h1.below h.low (by omega)) rfl (by omega), fun w1 a k hOw b1 => ?_⟩
 have hO1 := hO.move b1.size (fun b hb => b1.block b hb) (h.low.trans (b1.mono h.hB))
 have c1 := hO1.cell hj (r := 1) (by omega) rfl
 obtain ⟨a', k', e, sa⟩ := st_own (X := fun b => b = L) hOw (fun b q => by rw [q]; exact hs.2.2.1) h.hB
 simp only [Value.slice.injEq] at e
 obtain ⟨rfl, _, rfl⟩ := e
 exact ⟨c1.1, c1.2.1, c1.2.2, _, _, hO1.put hj (q := 0) (by omega) a k, sa.set rfl _, h2, h3⟩
theorem Op1.two {w0 wf w B L c j FS f} (h : Op1 w0 wf w B L c j FS f) (hj : j < FS.length) (hf : FS[j] = f) (hP : f.vals.length <= 10000000) (hw0 : w0.heap.size = B) :
 ∃ pa pc, w.cell? ⟨L, j * 5 + 3, none⟩ = some (.slice pa f.vals.length pc) /\ L < w.heap.size
   /\ Hid (Calls Tryz.prog 39 #[.slice pa f.vals.length pc] w fun e w' => ∃ v xs, e = .returned v /\ Row w' w.heap.size 25 4 v xs /\ Below w.heap.size w w' /\ xs.length = f.vals.length /\ VAll w0 B f.vals xs)
   /\ Hid (∀ w1 a k xs, Row w1 w.heap.size 25 4 (.slice a f.vals.length k) xs -> Below w.heap.size w w1 -> xs.length = f.vals.length -> VAll w0 B f.vals xs -> w1.cell? ⟨L, j * 5 + 3, none⟩ = some (.slice pa f.vals.length pc) /\ w1.frozen? ⟨L, j * 5 + 3, none⟩ = false /\ L < w1.heap.size /\ Op2 w0 wf (w1.setCell ⟨L, j * 5 + 3, none⟩ (.slice a f.vals.length k)) B L c j FS f a k) := by
 subst hf
 obtain ⟨ys, A, hO, s0, h2, h3⟩ := h.out
 have hs := hO.szs
 have cc := hO.cell hj (r := 3) (by omega) rfl
 have hv := h2.below hO.low (by omega)
 refine ⟨(A 1).1, (A 1).2, cc.1, cc.2.2, ?_, fun w1 a k xs hR b1 hl hV => ?_⟩
 ·obtain ⟨xs, e1, e2, e3⟩ := vls_sts h2 w0 B (fun _ => True)
  have e4 : Sts w (A 1).1 (A 1).2 4 xs := ⟨e3.le, e3.mx, e3.len, e3.one, fun hne => by
   obtain ⟨b, o, e, hlt, hc⟩ := e3.out hne
   refine ⟨b, o, e, by have := hO.low.size; omega, fun i u hu => ?_⟩
   have := hc i u hu
   rw [add_noneR] at this ⊢
   exact (hO.low.cell (p := ⟨b, o + i, none⟩) (by show b < B; omega)).trans this⟩
  have key := cloneV_any w e4 e1.symm hP
  refine key.mono fun e w' ⟨v, q1, q2, q3⟩ => ⟨v, xs, q1, q2, q3, e1, ⟨fun W X i hi => ?_⟩⟩
  obtain ⟨a, k, r1, r2, _⟩ := (e2 i hi).out
  exact ⟨a, k, r1, r2, fun q => by cases q⟩
 ·have hO1 := hO.move b1.size (fun b hb => b1.block b (by omega)) (hO.low.trans (b1.mono (by omega)))
  have c1 := hO1.cell hj (r := 3) (by omega) rfl
  have hO2 := hO1.put hj (q := 1) (by omega) a k
  have hR0 : Row w1 B 25 4 (.slice a FS[j].vals.length k) xs := ⟨⟨hR.out.1, hR.out.2.imp id fun ⟨g, cap, cur, q1, q2, q3⟩ => ⟨g, cap, cur, q1, by omega, q3⟩⟩, hR.len⟩
  have hne : ∀ V, a = some ⟨V, 0, none⟩ -> w.heap.size <= V := fun V e => by
   have := own_block hR.out (g := V) (by rw [e]; rfl)
   exact this.1
  refine ⟨c1.1, c1.2.1, c1.2.2, ⟨_, _, w, hO2, s0, h3, rfl, by have := b1.size; simp [World.setCell]; omega, fun b _ h2 h3 => (heap_set_other h3).trans (b1.block b h2), hne⟩, ⟨xs, ⟨hR0.move fun g hg => ?_, hl, fun i hi => ?_, hO2.low, ⟨fun V e => .inr e, by have := b1.size; simp [World.setCell]; omega⟩⟩, Exc.refl _ _⟩, fun V e => by have := hne V e; omega⟩
  ·have hgL : g ≠ L := fun e => by
    have := (own_block hR.out hg).1
    omega
   exact heap_set_other hgL
  ·simp only [Nat.not_lt_zero, decide_false]
   exact hV.out _ _ i hi
theorem Op2.done {w0 wf wc w B L c j FS f va vc} (h : Op2 w0 wf wc B L c j FS f va vc) (hv : VSt w0 wc w B L va vc f.vals.length f.vals) : Op3 w0 wf w B L c j FS f := by
 obtain ⟨ys, A, wp, hO, s0, h3, eA, hps, hpk, hpv⟩ := h.out
 obtain ⟨xs, hV, hE⟩ := hv.out
 have hs := hO.szs
 have hne : ∀ b, b < wf.heap.size -> va ≠ some ⟨b, 0, none⟩ := fun b hb e => by have := h.far b e; omega
 have hLv : ∀ V, va = some ⟨V, 0, none⟩ -> V ≠ L := fun V e q => by have := h.far V e; omega
 refine ⟨ys, A, hO.move hE.size (fun b hb => hE.blk b (by omega) (hne b hb)) hV.low, ?_, ?_, h3⟩
 ·exact s0.up (by have := hE.size; omega) fun b h1 h2 h4 => (hE.blk b (by omega) (fun e => by have := hpv b e; omega)).trans (hpk b h1 h2 h4)
 ·rw [eA]
  exact hV.fin (fun b q => .inl q) (fun V e q => hLv V e q)
theorem Op3.four {w0 wf w B L c j FS f} (h : Op3 w0 wf w B L c j FS f) (hj : j < FS.length) (hf : FS[j] = f) (hP : f.blks.length <= 10000000) (hw0 : w0.heap.size = B) :
 ∃ pa pc, w.cell? ⟨L, j * 5 + 4, none⟩ = some (.slice pa f.blks.length pc) /\ L < w.heap.size
   /\ Hid (Calls Tryz.prog 40 #[.slice pa f.blks.length pc] w fun e w' => ∃ v xs, e = .returned v /\ Row w' w.heap.size 30 6 v xs /\ Below w.heap.size w w' /\ xs.length = f.blks.length /\ BAll w0 B f.blks xs)
   /\ Hid (∀ w1 a k xs, Row w1 w.heap.size 30 6 (.slice a f.blks.length k) xs -> Below w.heap.size w w1 -> xs.length = f.blks.length -> BAll w0 B f.blks xs -> w1.cell? ⟨L, j * 5 + 4, none⟩ = some (.slice pa f.blks.length pc) /\ w1.frozen? ⟨L, j * 5 + 4, none⟩ = false /\ L < w1.heap.size /\ Op4 w0 wf (w1.setCell ⟨L, j * 5 + 4, none⟩ (.slice a f.blks.length k)) B L c j FS f a k) := by
 subst hf
 obtain ⟨ys, A, hO, s0, s1, h3⟩ := h.out
 have hs := hO.szs
 have cc := hO.cell hj (r := 4) (by omega) rfl
 refine ⟨(A 2).1, (A 2).2, cc.1, cc.2.2, ?_, fun w1 a k xs hR b1 hl hV => ?_⟩
 ·obtain ⟨xs, e1, e2, e3⟩ := bks_sts h3 w0 B (fun _ => True)
  have e4 : Sts w (A 2).1 (A 2).2 6 xs := ⟨e3.le, e3.mx, e3.len, e3.one, fun hne => by
   obtain ⟨b, o, e, hlt, hc⟩ := e3.out hne
   refine ⟨b, o, e, by have := hO.low.size; omega, fun i u hu => ?_⟩
   have := hc i u hu
   rw [add_noneR] at this ⊢
   exact (hO.low.cell (p := ⟨b, o + i, none⟩) (by show b < B; omega)).trans this⟩
  have key := cloneB_any w e4 e1.symm hP
  refine key.mono fun e w' ⟨v, q1, q2, q3⟩ => ⟨v, xs, q1, q2, q3, e1, ⟨fun W X i hi => ?_⟩⟩
  obtain ⟨A', r1, r2⟩ := (e2 i hi).out
  exact ⟨A', r1, fun q hq => ⟨(r2 q hq).1, fun r => by omega⟩⟩
 ·have hO1 := hO.move b1.size (fun b hb => b1.block b (by omega)) (hO.low.trans (b1.mono (by omega)))
  have c1 := hO1.cell hj (r := 4) (by omega) rfl
  have hO2 := hO1.put hj (q := 2) (by omega) a k
  have hR0 : Row w1 B 30 6 (.slice a FS[j].blks.length k) xs := ⟨⟨hR.out.1, hR.out.2.imp id fun ⟨g, cap, cur, q1, q2, q3⟩ => ⟨g, cap, cur, q1, by omega, q3⟩⟩, hR.len⟩
  have hne : ∀ V, a = some ⟨V, 0, none⟩ -> w.heap.size <= V := fun V e => by
   have := own_block hR.out (g := V) (by rw [e]; rfl)
   exact this.1
  refine ⟨c1.1, c1.2.1, c1.2.2, ⟨_, _, w, hO2, s0, s1, rfl, by have := b1.size; simp [World.setCell]; omega, fun b _ h2 h3 => (heap_set_other h3).trans (b1.block b h2), hne⟩, ⟨xs, ⟨hR0.move fun g hg => ?_, hl, fun i hi => ?_, hO2.low, ⟨fun V e => .inr e, by have := b1.size; simp [World.setCell]; omega⟩⟩, Exc.refl _ _⟩, fun V e => by have := hne V e; omega⟩
  ·have hgL : g ≠ L := fun e => by
    have := (own_block hR.out hg).1
    omega
   exact heap_set_other hgL
  ·have es : stg 0 0 i = 0 := by unfold stg; rw [if_neg (by omega)]; split <;> rfl
   rw [es]
   exact hV.out _ _ i hi
theorem Op4.done {w0 wf wc w B L c j FS f ba bc} (h : Op4 w0 wf wc B L c j FS f ba bc) (hj : j < FS.length) (hf : FS[j] = f) (hv : BSt w0 wc w B L ba bc f.blks.length 0 f.blks) : ∃ xs, FAll w0 w B L c (j + 1) FS xs := by
 subst hf
 obtain ⟨ys, A, wp, hO, s0, s1, eA, hps, hpk, hpv⟩ := h.out
 obtain ⟨xs, hV, hE⟩ := hv.out
 have hs := hO.szs
 have hne : ∀ b, b < wf.heap.size -> ba ≠ some ⟨b, 0, none⟩ := fun b hb e => by have := h.far b e; omega
 have hLv : ∀ V, ba = some ⟨V, 0, none⟩ -> V ≠ L := fun V e q => by have := h.far V e; omega
 have up : ∀ {P : World -> Prop}, Sta wp B (fun b => b = L) P -> Sta w B (fun b => b = L) P := fun q => q.up (by have := hE.size; omega) fun b h1 h2 h4 => (hE.blk b (by omega) (fun e => by have := hpv b e; omega)).trans (hpk b h1 h2 h4)
 refine ⟨ys, (hO.move hE.size (fun b hb => hE.blk b (by omega) (hne b hb)) hV.low).close hj fun W hW => ⟨up s0 W hW, up s1 W hW, ?_⟩⟩
 rw [eA]
 exact hV.fin (fun b q => .inl q) (fun V e q => hLv V e q) W hW
theorem BSt.n0 {w0 wc w B L ao c k N} (h : BSt w0 wc w B L ao c k 0 N) (hk : k < N.length) (b : Bk) (hb : N[k] = b) (hN : b.phis.length <= 10000000) (hL : L < wc.heap.size) (hAL : ao ≠ some ⟨L, 0, none⟩) (hw0 : w0.heap.size = B) : ∃ K xa xc, ao = some ⟨K, 0, none⟩ /\ K < w.heap.size /\ w.cell? ⟨K, k * 6, none⟩ = some (.slice xa b.phis.length xc) /\ w.heap[L]? = wc.heap[L]?
 /\ Hid (Calls Tryz.prog 14 #[.slice xa b.phis.length xc] w fun e w' => ∃ v, e = .returned v /\ OwnI w' w.heap.size v b.phis.length b.phis /\ Below w.heap.size w w')
 /\ Hid (∀ w5 a5 c5, OwnI w5 w.heap.size (.slice a5 b.phis.length c5) b.phis.length b.phis -> Below w.heap.size w w5 -> w5.cell? ⟨K, k * 6, none⟩ = some (.slice xa b.phis.length xc) /\ w5.frozen? ⟨K, k * 6, none⟩ = false /\ K < w5.heap.size /\ BSt w0 wc (w5.setCell ⟨K, k * 6, none⟩ (.slice a5 b.phis.length c5)) B L ao c k 1 N) := by
 subst hb
 obtain ⟨K, xa, xc, h1, h2, _, h4, h5, h6, h7⟩ := h.next hk (t := 0) (by omega) hN hL hAL hw0
 exact ⟨K, xa, xc, h1, h2, h4, h5, h6, h7⟩
theorem BSt.n1 {w0 wc w B L ao c k N} (h : BSt w0 wc w B L ao c k 1 N) (hk : k < N.length) (b : Bk) (hb : N[k] = b) (hN : b.body.length <= 10000000) (hL : L < wc.heap.size) (hAL : ao ≠ some ⟨L, 0, none⟩) (hw0 : w0.heap.size = B) : ∃ K xa xc, ao = some ⟨K, 0, none⟩ /\ K < w.heap.size /\ w.cell? ⟨K, k * 6 + 1, none⟩ = some (.slice xa b.body.length xc) /\ w.heap[L]? = wc.heap[L]?
 /\ Hid (Calls Tryz.prog 14 #[.slice xa b.body.length xc] w fun e w' => ∃ v, e = .returned v /\ OwnI w' w.heap.size v b.body.length b.body /\ Below w.heap.size w w')
 /\ Hid (∀ w5 a5 c5, OwnI w5 w.heap.size (.slice a5 b.body.length c5) b.body.length b.body -> Below w.heap.size w w5 -> w5.cell? ⟨K, k * 6 + 1, none⟩ = some (.slice xa b.body.length xc) /\ w5.frozen? ⟨K, k * 6 + 1, none⟩ = false /\ K < w5.heap.size /\ BSt w0 wc (w5.setCell ⟨K, k * 6 + 1, none⟩ (.slice a5 b.body.length c5)) B L ao c k 2 N) := by
 subst hb
 obtain ⟨K, xa, xc, h1, h2, _, h4, h5, h6, h7⟩ := h.next hk (t := 1) (by omega) hN hL hAL hw0
 exact ⟨K, xa, xc, h1, h2, h4, h5, h6, h7⟩
theorem BSt.n2 {w0 wc w B L ao c k N} (h : BSt w0 wc w B L ao c k 2 N) (hk : k < N.length) (b : Bk) (hb : N[k] = b) (hN : b.ways.length <= 10000000) (hL : L < wc.heap.size) (hAL : ao ≠ some ⟨L, 0, none⟩) (hw0 : w0.heap.size = B) : ∃ K xa xc, ao = some ⟨K, 0, none⟩ /\ K < w.heap.size /\ w.cell? ⟨K, k * 6 + 4, none⟩ = some (.slice xa b.ways.length xc) /\ w.heap[L]? = wc.heap[L]?
 /\ Hid (Calls Tryz.prog 14 #[.slice xa b.ways.length xc] w fun e w' => ∃ v, e = .returned v /\ OwnI w' w.heap.size v b.ways.length b.ways /\ Below w.heap.size w w')
 /\ Hid (∀ w5 a5 c5, OwnI w5 w.heap.size (.slice a5 b.ways.length c5) b.ways.length b.ways -> Below w.heap.size w w5 -> w5.cell? ⟨K, k * 6 + 4, none⟩ = some (.slice xa b.ways.length xc) /\ w5.frozen? ⟨K, k * 6 + 4, none⟩ = false /\ K < w5.heap.size /\ BSt w0 wc (w5.setCell ⟨K, k * 6 + 4, none⟩ (.slice a5 b.ways.length c5)) B L ao c k 3 N) := by
 subst hb
 obtain ⟨K, xa, xc, h1, h2, _, h4, h5, h6, h7⟩ := h.next hk (t := 2) (by omega) hN hL hAL hw0
 exact ⟨K, xa, xc, h1, h2, h4, h5, h6, h7⟩
theorem BSt.n3 {w0 wc w B L ao c k N} (h : BSt w0 wc w B L ao c k 3 N) (hk : k < N.length) (b : Bk) (hb : N[k] = b) (hN : b.preds.length <= 10000000) (hL : L < wc.heap.size) (hAL : ao ≠ some ⟨L, 0, none⟩) (hw0 : w0.heap.size = B) : ∃ K xa xc, ao = some ⟨K, 0, none⟩ /\ K < w.heap.size /\ w.cell? ⟨K, k * 6 + 5, none⟩ = some (.slice xa b.preds.length xc) /\ w.heap[L]? = wc.heap[L]?
 /\ Hid (Calls Tryz.prog 14 #[.slice xa b.preds.length xc] w fun e w' => ∃ v, e = .returned v /\ OwnI w' w.heap.size v b.preds.length b.preds /\ Below w.heap.size w w')
 /\ Hid (∀ w5 a5 c5, OwnI w5 w.heap.size (.slice a5 b.preds.length c5) b.preds.length b.preds -> Below w.heap.size w w5 -> w5.cell? ⟨K, k * 6 + 5, none⟩ = some (.slice xa b.preds.length xc) /\ w5.frozen? ⟨K, k * 6 + 5, none⟩ = false /\ K < w5.heap.size /\ BSt w0 wc (w5.setCell ⟨K, k * 6 + 5, none⟩ (.slice a5 b.preds.length c5)) B L ao c k 4 N) := by
 subst hb
 obtain ⟨K, xa, xc, h1, h2, _, h4, h5, h6, h7⟩ := h.next hk (t := 3) (by omega) hN hL hAL hw0
 exact ⟨K, xa, xc, h1, h2, h4, h5, h6, h7⟩
set_option maxRecDepth 100000 in
set_option maxHeartbeats 8000000 in
theorem copied_any (w : World) {ao : Option Addr} {n c : Nat} {FS : List Fu} (hF : Fus w ao c FS) (hn : n = FS.length) (hne : FS ≠ []) (hsz : n <= 10000000) (few : ∀ f ∈ FS, FewC f) :
 Calls Tryz.prog 13 #[.slice ao n c] w fun e w' => ∃ L c', e = .returned (.slice (some ⟨L, 0, none⟩) n c') /\ Below w.heap.size w w' /\ w.heap.size <= L /\ ∀ W, (∀ b, w.heap.size <= b -> b < w'.heap.size -> W.heap[b]? = w'.heap[b]?) -> Fus W (some ⟨L, 0, none⟩) c' FS := by
 obtain ⟨B, hB⟩ : ∃ B, B = w.heap.size := ⟨_, rfl⟩
 have hpos : 0 < n := by rw [hn]; exact List.length_pos_iff.2 hne
 obtain ⟨xs0, e1, e2, e3⟩ := fus_sts hF
 have HCF : Hid (Calls Tryz.prog 38 #[.slice ao n c] w fun e w' => ∃ L c' xs, e = .returned (.slice (some ⟨L, 0, none⟩) n c') /\ FAll w w' B L c' 0 FS xs /\ n <= c' /\ c' <= 9223372036854775807) := by
  refine (cloneF_any w e3 (by rw [e1]; exact hn) hsz).mono ?_
  rintro e w' ⟨v, rfl, hR, hb⟩
  obtain ⟨L, c', cs, ev, h1, h2, h3, h4⟩ := hR.some (by omega)
  subst ev
  rw [<- hB] at hR
  rw [e1] at h1
  refine ⟨L, c', xs0, by rw [e1, <- hn], ⟨by rw [e1] at hR; exact hR, e1, fun i hi _ => e2 i hi, fun i hi q => by omega, by rw [hB]; exact hb, by rw [hB]; exact hb.size⟩, by omega, h2⟩
 have HNN : Hid (n = FS.length) := hn
 have HFW : Hid (∀ f ∈ FS, FewC f) := few
 have HW0 : Hid (w.heap.size = B) := hB.symm
 have HBB : Hid (B = w.heap.size) := hB
 clear hF hn hne few e1 e2 e3 hB
 go_enter Tryz.func13, Tryz.ntmps13
 go_wp2_with (go_at_call 38; refine Calls.mono HCF.out ?_; rintro e w1 ⟨L, c', xs, rfl, hA, hc1, hc2⟩; have HA0 : Hid _ := hA; clear hA)
 clear HCF
 go_loopw [13] (fun u wr => ∃ (j : Nat), j <= n /\ u = .int .i64 j /\ Hid (∃ xs, FAll w wr B L c' j FS xs)) (fun u _ => n - (intOf u).toNat)
 case atStart => exact ⟨0, by omega, rfl, _, HA0.out⟩
 case round =>
  clear HA0
  obtain ⟨j, hj, rfl, HJ⟩ := hrel
  by_cases hjn : j < n
  ·have hjF : j < FS.length := by have := HNN.out; omega
   obtain ⟨f, hf⟩ : ∃ f, f = FS[j] := ⟨_, rfl⟩
   have hfw := HFW.out f (by rw [hf]; exact List.getElem_mem hjF)
   have hjI : (j : Int) < (n : Int) := by omega
   obtain ⟨xsj, hAj⟩ := HJ.out
   obtain ⟨pa, pc, k1, hLl, HC1, HN1⟩ := hAj.one hjF f hf.symm hfw.p HW0.out
   generalize hpl : f.params.length = pl at k1 HC1 HN1
   have HFE : Hid (∀ h : j < FS.length, FS[j] = f) := fun _ => hf.symm
   have HFC : Hid (FewC f) := hfw
   have HJF : Hid (j < FS.length) := hjF
   clear hf hfw hAj HJ hpl hjF
   go_upto_region 7 with (go_at_call 14; refine Calls.mono HC1.out ?_; rintro e wa ⟨vv, rfl, hO, hb⟩; obtain ⟨a1, c1, e9, _, _⟩ := own_slice hO.out; subst e9; obtain ⟨z1, z2, z3, hp⟩ := HN1.out wa a1 c1 hO hb; have HO1 : Hid _ := hp; clear hp hO hb)
   obtain ⟨w2, hw2⟩ : ∃ w2, w2 = wa.setCell ⟨L, j * 5 + 1, none⟩ (.slice a1 pl c1) := ⟨_, rfl⟩
   rw [<- hw2] at HO1 ⊢
   clear hw2 z1 z2 z3 k1 hLl HC1 HN1
   obtain ⟨pa2, pc2, k2, hLl, HC2, HN2⟩ := HO1.out.two HJF.out (HFE.out HJF.out) HFC.out.v HW0.out
   generalize hvl : f.vals.length = vl at k2 HC2 HN2
   have HVL : Hid (f.vals.length = vl) := hvl
   clear hvl
   go_upto_region 8 with (go_at_call 39; refine Calls.mono HC2.out ?_; rintro e wb ⟨vv, xv, rfl, hR, hb, hxl, hxe⟩; obtain ⟨a2, c2, e9, hvc1, hvc2⟩ := own_slice hR.out; rw [hxl] at e9 hvc1; subst e9; obtain ⟨z1, z2, z3, hp⟩ := HN2.out wb a2 c2 xv hR hb hxl hxe; have HO2 : Hid _ := hp; clear hp hR hb hxl hxe)
   obtain ⟨w3, hw3⟩ : ∃ w3, w3 = wb.setCell ⟨L, j * 5 + 3, none⟩ (.slice a2 vl c2) := ⟨_, rfl⟩
   rw [<- hw3] at HO2 ⊢
   clear hw3 z1 z2 z3 k2 hLl HC2 HN2 HO1
   obtain ⟨hc3, hL3, hAL3⟩ : w3.cell? ⟨L, j * 5 + 3, none⟩ = some (.slice a2 vl c2) /\ L < w3.heap.size /\ a2 ≠ some ⟨L, 0, none⟩ := by
    obtain ⟨ys, A, wp, hO, _, _, eA, _⟩ := HO2.out.out
    have cc := hO.cell HJF.out (r := 3) (u := .slice a2 vl c2) (by omega) (by rw [HFE.out HJF.out]; simp [fcs, eA, HVL.out])
    exact ⟨cc.1, cc.2.2, fun e => by have := HO2.out.far L e; have := hO.szs; omega⟩
   have HC3 : Hid _ := hc3
   have HL3 : Hid _ := hL3
   have HAL3 : Hid _ := hAL3
   have HV0 : Hid (VSt w w3 w3 B L a2 c2 0 f.vals) := HO2.out.vs
   clear hAL3
   go_wp2_with fail
   clear hc3 hL3
   go_loopw [40] (fun u wr => ∃ (k : Nat), k <= vl /\ u = .int .i64 k /\ Hid (VSt w w3 wr B L a2 c2 k f.vals)) (fun u _ => vl - (intOf u).toNat)
   case atStart => exact ⟨0, by omega, rfl, HV0⟩
   case round =>
    clear HV0
    obtain ⟨k, hk, rfl, HK⟩ := hrel
    by_cases hkl : k < vl
    ·have hkv : k < f.vals.length := by have := HVL.out; omega
     obtain ⟨V, xa, xc, eV, hVl, hVL, k5, hL5, HCL, HNX0⟩ := HK.out.next hkv (HFC.out.a _ (List.getElem_mem hkv)) HL3.out HAL3.out HW0.out
     subst eV
     generalize hxl : f.vals[k].args.length = xl at k5 HCL HNX0
     have cL : ∀ W : World, W.heap[L]? = w3.heap[L]? -> W.cell? ⟨L, j * 5 + 3, none⟩ = some (.slice (some ⟨V, 0, none⟩) vl c2) := fun W e => (World.cell?_of_block (w := w3) e).trans HC3.out
     have S0 : (fun w' : World => w'.cell? ⟨L, j * 5 + 3, none⟩ = some (.slice (some ⟨V, 0, none⟩) vl c2) /\ w'.cell? ⟨V, k * 4 + 3, none⟩ = some (.slice xa xl xc)) wr.drew := ⟨cL wr.drew hL5, k5⟩
     have HNX : Hid (∀ w5 a5 c5, OwnI w5 wr.heap.size (.slice a5 xl c5) xl f.vals[k].args -> Below wr.heap.size wr w5 -> (fun w' : World => w'.cell? ⟨L, j * 5 + 3, none⟩ = some (.slice (some ⟨V, 0, none⟩) vl c2) /\ w'.cell? ⟨V, k * 4 + 3, none⟩ = some (.slice xa xl xc)) w5 /\ w5.frozen? ⟨V, k * 4 + 3, none⟩ = false /\ V < w5.heap.size /\ VSt w w3 (w5.setCell ⟨V, k * 4 + 3, none⟩ (.slice a5 xl c5)) B L (some ⟨V, 0, none⟩) c2 (k + 1) f.vals) := fun w5 a5 c5 q1 q2 => by
      obtain ⟨r1, r2, r3, r4, r5⟩ := HNX0.out w5 a5 c5 q1 q2
      exact ⟨⟨cL w5 r1, r2⟩, r3, r4, r5⟩
     have hLw : L < wr.heap.size := block_lt_of_cell (cL wr hL5)
     have hkI : (k : Int) < (vl : Int) := by omega
     have hvm : vl <= 9223372036854775807 := by omega
     clear HK HNX0 cL k5 hL5
     go_wp2_with fail
     refine led_start (S := fun w' : World => w'.cell? ⟨L, j * 5 + 3, none⟩ = some (.slice (some ⟨V, 0, none⟩) vl c2) /\ w'.cell? ⟨V, k * 4 + 3, none⟩ = some (.slice xa xl xc)) (z := 16) (by kernel_rfl) ?_
     refine led_t (i := 0) (v := ?v0) rfl (by kernel_rfl) (.inl ⟨by rfl, ?hy0⟩) S0 ?rest0
     case hy0 =>
      rintro w' ⟨h1, h2⟩
      go_simp
      all_goals with_reducible rfl
     try simp only [Act.put, List.getElem_toArray, List.getElem_cons_succ, List.getElem_cons_zero, List.setIfInBounds_toArray, List.set_cons_zero, List.set_cons_succ]
     refine led_t (i := 1) (v := ?v1) rfl (by kernel_rfl) (.inl ⟨by rfl, ?hy1⟩) S0 ?rest1
     case hy1 =>
      rintro w' ⟨h1, h2⟩
      go_simp
      all_goals with_reducible rfl
     try simp only [Act.put, List.getElem_toArray, List.getElem_cons_succ, List.getElem_cons_zero, List.setIfInBounds_toArray, List.set_cons_zero, List.set_cons_succ]
     refine led_t (i := 2) (v := ?v2) rfl (by kernel_rfl) (.inl ⟨by rfl, ?hy2⟩) S0 ?rest2
     case hy2 =>
      rintro w' ⟨h1, h2⟩
      go_simp
      all_goals with_reducible rfl
     try simp only [Act.put, List.getElem_toArray, List.getElem_cons_succ, List.getElem_cons_zero, List.setIfInBounds_toArray, List.set_cons_zero, List.set_cons_succ]
     refine led_t (i := 3) (v := ?v3) rfl (by kernel_rfl) (.inl ⟨by rfl, ?hy3⟩) S0 ?rest3
     case hy3 =>
      rintro w' ⟨h1, h2⟩
      go_simp
      all_goals with_reducible rfl
     try simp only [Act.put, List.getElem_toArray, List.getElem_cons_succ, List.getElem_cons_zero, List.setIfInBounds_toArray, List.set_cons_zero, List.set_cons_succ]
     refine led_t (i := 4) (v := ?v4) rfl (by kernel_rfl) (.inl ⟨by rfl, ?hy4⟩) S0 ?rest4
     case hy4 =>
      rintro w' ⟨h1, h2⟩
      go_simp
      all_goals with_reducible rfl
     try simp only [Act.put, List.getElem_toArray, List.getElem_cons_succ, List.getElem_cons_zero, List.setIfInBounds_toArray, List.set_cons_zero, List.set_cons_succ]
     refine led_t (i := 5) (v := ?v5) rfl (by kernel_rfl) (.inl ⟨by rfl, ?hy5⟩) S0 ?rest5
     case hy5 =>
      rintro w' ⟨h1, h2⟩
      go_simp
      all_goals with_reducible rfl
     try simp only [Act.put, List.getElem_toArray, List.getElem_cons_succ, List.getElem_cons_zero, List.setIfInBounds_toArray, List.set_cons_zero, List.set_cons_succ]
     refine led_t (i := 6) (v := ?v6) rfl (by kernel_rfl) (.inl ⟨by rfl, ?hy6⟩) S0 ?rest6
     case hy6 =>
      rintro w' ⟨h1, h2⟩
      go_simp
      all_goals with_reducible rfl
     try simp only [Act.put, List.getElem_toArray, List.getElem_cons_succ, List.getElem_cons_zero, List.setIfInBounds_toArray, List.set_cons_zero, List.set_cons_succ]
     refine led_t (i := 7) (v := ?v7) rfl (by kernel_rfl) (.inl ⟨by rfl, ?hy7⟩) S0 ?rest7
     case hy7 =>
      rintro w' ⟨h1, h2⟩
      go_simp
      all_goals with_reducible rfl
     try simp only [Act.put, List.getElem_toArray, List.getElem_cons_succ, List.getElem_cons_zero, List.setIfInBounds_toArray, List.set_cons_zero, List.set_cons_succ]
     refine led_t (i := 8) (v := ?v8) rfl (by kernel_rfl) (.inl ⟨by rfl, ?hy8⟩) S0 ?rest8
     case hy8 =>
      rintro w' ⟨h1, h2⟩
      go_simp
      all_goals with_reducible rfl
     try simp only [Act.put, List.getElem_toArray, List.getElem_cons_succ, List.getElem_cons_zero, List.setIfInBounds_toArray, List.set_cons_zero, List.set_cons_succ]
     refine led_t (i := 9) (v := ?v9) rfl (by kernel_rfl) (.inl ⟨by rfl, ?hy9⟩) S0 ?rest9
     case hy9 =>
      rintro w' ⟨h1, h2⟩
      go_simp
      all_goals with_reducible rfl
     try simp only [Act.put, List.getElem_toArray, List.getElem_cons_succ, List.getElem_cons_zero, List.setIfInBounds_toArray, List.set_cons_zero, List.set_cons_succ]
     refine led_t (i := 10) (v := ?v10) rfl (by kernel_rfl) (.inl ⟨by rfl, ?hy10⟩) S0 ?rest10
     case hy10 =>
      rintro w' ⟨h1, h2⟩
      go_simp
      all_goals with_reducible rfl
     try simp only [Act.put, List.getElem_toArray, List.getElem_cons_succ, List.getElem_cons_zero, List.setIfInBounds_toArray, List.set_cons_zero, List.set_cons_succ]
     refine led_t (i := 11) (v := ?v11) rfl (by kernel_rfl) (.inl ⟨by rfl, ?hy11⟩) S0 ?rest11
     case hy11 =>
      rintro w' ⟨h1, h2⟩
      go_simp
      all_goals with_reducible rfl
     try simp only [Act.put, List.getElem_toArray, List.getElem_cons_succ, List.getElem_cons_zero, List.setIfInBounds_toArray, List.set_cons_zero, List.set_cons_succ]
     refine led_t (i := 12) (v := ?v12) rfl (by kernel_rfl) (.inl ⟨by rfl, ?hy12⟩) S0 ?rest12
     case hy12 =>
      rintro w' ⟨h1, h2⟩
      go_simp
      all_goals with_reducible rfl
     try simp only [Act.put, List.getElem_toArray, List.getElem_cons_succ, List.getElem_cons_zero, List.setIfInBounds_toArray, List.set_cons_zero, List.set_cons_succ]
     refine led_one (i := 13) rfl (by kernel_rfl) ?_
     intro K1 hK1
     rw [if_pos (by rfl)]
     go_simp
     refine Calls.mono HCL.out ?_
     rintro e w5 ⟨v5, rfl, hO5, b5⟩
     obtain ⟨a5, c5, e5, _, _⟩ := own_slice hO5.out
     subst e5
     obtain ⟨S5, F5, X5, hn5⟩ := HNX.out w5 a5 c5 hO5 b5
     have HN5 : Hid _ := hn5
     clear hn5 hO5
     refine hK1 _ _ (fun _ => S5) ?_
     clear hK1
     have T5 := S5.2
     try simp only [Act.put, List.getElem_toArray, List.getElem_cons_succ, List.getElem_cons_zero, List.setIfInBounds_toArray, List.set_cons_zero, List.set_cons_succ]
     refine led_one (i := 14) rfl (by kernel_rfl) ?_
     intro K2 hK2
     rw [if_pos (by rfl)]
     go_simp
     refine hK2 _ _ (fun _ => S5) ?_
     clear hK2
     try simp only [Act.put, List.getElem_toArray, List.getElem_cons_succ, List.getElem_cons_zero, List.setIfInBounds_toArray, List.set_cons_zero, List.set_cons_succ]
     refine led_one (i := 15) rfl (by kernel_rfl) ?_
     intro K3 hK3
     rw [if_pos (by rfl)]
     go_simp
     refine hK3 _ _ (fun _ => S5) ?_
     clear hK3
     try simp only [Act.put, List.getElem_toArray, List.getElem_cons_succ, List.getElem_cons_zero, List.setIfInBounds_toArray, List.set_cons_zero, List.set_cons_succ]
     refine led_one (i := 16) rfl (by kernel_rfl) ?_
     intro K4 hK4
     rw [if_pos (by rfl)]
     go_simp
     refine hK4 _ _ (fun h => absurd rfl h) ?_
     clear hK4
     refine led_done (by kernel_rfl) ?_
     go_wp2_with fail
     go_roundw
     case rel => exact ⟨k + 1, by omega, by go_num, HN5.out⟩
     case measure => simp [intOf]; omega
    ·have hkn : k = vl := by omega
     subst hkn
     have HO3 : Hid (Op3 w _ wr B L c' j FS f) := HO2.out.done (by rw [HVL.out]; exact HK.out)
     obtain ⟨pa3, pc3, k3, hLl, HC4, HN4⟩ := HO3.out.four HJF.out (HFE.out HJF.out) HFC.out.b HW0.out
     generalize hbl : f.blks.length = bl at k3 HC4 HN4
     have HBL : Hid (f.blks.length = bl) := hbl
     clear hbl HK HO2 HC3 HL3 HAL3
     go_upto_region 14 with (go_at_call 40; refine Calls.mono HC4.out ?_; rintro e wb ⟨vv, xv, rfl, hR, hb, hxl, hxe⟩; obtain ⟨a4, c4, e9, hvc1, hvc2⟩ := own_slice hR.out; rw [hxl] at e9 hvc1; subst e9; obtain ⟨z1, z2, z3, hp⟩ := HN4.out wb a4 c4 xv hR hb hxl hxe; have HO4 : Hid _ := hp; clear hp hR hb hxl hxe)
     obtain ⟨w7, hw7⟩ : ∃ w7, w7 = wb.setCell ⟨L, j * 5 + 4, none⟩ (.slice a4 bl c4) := ⟨_, rfl⟩
     rw [<- hw7] at HO4 ⊢
     clear hw7 z1 z2 z3 k3 hLl HC4 HN4 HO3
     obtain ⟨hc7, hL7, hAL7⟩ : w7.cell? ⟨L, j * 5 + 4, none⟩ = some (.slice a4 bl c4) /\ L < w7.heap.size /\ a4 ≠ some ⟨L, 0, none⟩ := by
      obtain ⟨ys, A, wp, hO, _, _, eA, _⟩ := HO4.out.out
      have cc := hO.cell HJF.out (r := 4) (u := .slice a4 bl c4) (by omega) (by rw [HFE.out HJF.out]; simp [fcs, eA, HBL.out])
      exact ⟨cc.1, cc.2.2, fun e => by have := HO4.out.far L e; have := hO.szs; omega⟩
     have HC7 : Hid _ := hc7
     have HLC : Hid _ := hL7
     have HAL : Hid _ := hAL7
     have HV0 : Hid (BSt w w7 w7 B L a4 c4 0 0 f.blks) := HO4.out.vs
     clear hAL7
     go_wp2_with fail
     clear hc7 hL7
     go_loopw [73] (fun u wr => ∃ (k : Nat), k <= bl /\ u = .int .i64 k /\ Hid (BSt w w7 wr B L a4 c4 k 0 f.blks)) (fun u _ => bl - (intOf u).toNat)
     case atStart => exact ⟨0, by omega, rfl, HV0⟩
     case round =>
      clear HV0
      obtain ⟨k, hk, rfl, HB0⟩ := hrel
      by_cases hkl : k < bl
      ·have hkb : k < f.blks.length := by have := HBL.out; omega
       obtain ⟨b, hb'⟩ : ∃ b, b = f.blks[k] := ⟨_, rfl⟩
       have hb : f.blks[k] = b := hb'.symm
       have HLB : Hid (b.phis.length <= 10000000 /\ b.body.length <= 10000000 /\ b.ways.length <= 10000000 /\ b.preds.length <= 10000000) := HFC.out.l b (by rw [hb']; exact List.getElem_mem hkb)
       have HHB : Hid (∀ h : k < f.blks.length, f.blks[k] = b) := fun _ => hb
       have hkI : (k : Int) < (bl : Int) := by omega
       have hbm : bl <= 9223372036854775807 := by omega
       have cL : wr.cell? ⟨L, j * 5 + 4, none⟩ = some (.slice a4 bl c4) /\ L < wr.heap.size := by
        obtain ⟨_, _, _, _, _, _, q, _⟩ := HB0.out.n0 hkb b hb HLB.out.1 HLC.out HAL.out HW0.out
        have r := (World.cell?_of_block (w := w7) (a := ⟨L, j * 5 + 4, none⟩) q).trans HC7.out
        exact ⟨r, block_lt_of_cell r⟩
       obtain ⟨cL4, hLw⟩ := cL
       have HKB : Hid (k < f.blks.length) := hkb
       clear hb hb' hkb
       obtain ⟨K0, xa0, xc0, eK0, hK0, y0, hL0, HC0, HN0⟩ := HB0.out.n0 HKB.out b (HHB.out HKB.out) (HLB.out.1) HLC.out HAL.out HW0.out
       subst eK0
       generalize hln0 : b.phis.length = ln0 at y0 HC0 HN0
       go_upto_region 19 with (go_at_call 14; refine Calls.mono HC0.out ?_; rintro e wa0 ⟨vv, rfl, hO, hbb⟩; obtain ⟨a0, c0, e9, _, _⟩ := own_slice hO.out; subst e9; obtain ⟨u1, u2, u3, hn⟩ := HN0.out wa0 a0 c0 hO hbb; have HB1 : Hid _ := hn; clear hn hO hbb)
       obtain ⟨wb0, hwb0⟩ : ∃ wb, wb = wa0.setCell ⟨K0, k * 6, none⟩ (.slice a0 ln0 c0) := ⟨_, rfl⟩
       rw [<- hwb0] at HB1 ⊢
       clear hwb0 u1 u2 u3 y0 hL0 HC0 HN0 HB0 hK0
       obtain ⟨K1, xa1, xc1, eK1, hK1, y1, hL1, HC1, HN1⟩ := HB1.out.n1 HKB.out b (HHB.out HKB.out) (HLB.out.2.1) HLC.out HAL.out HW0.out
       cases eK1
       generalize hln1 : b.body.length = ln1 at y1 HC1 HN1
       go_upto_region 20 with (go_at_call 14; refine Calls.mono HC1.out ?_; rintro e wa1 ⟨vv, rfl, hO, hbb⟩; obtain ⟨a1, c1, e9, _, _⟩ := own_slice hO.out; subst e9; obtain ⟨u1, u2, u3, hn⟩ := HN1.out wa1 a1 c1 hO hbb; have HB2 : Hid _ := hn; clear hn hO hbb)
       obtain ⟨wb1, hwb1⟩ : ∃ wb, wb = wa1.setCell ⟨K0, k * 6 + 1, none⟩ (.slice a1 ln1 c1) := ⟨_, rfl⟩
       rw [<- hwb1] at HB2 ⊢
       clear hwb1 u1 u2 u3 y1 hL1 HC1 HN1 HB1 hK1
       obtain ⟨K2, xa2, xc2, eK2, hK2, y2, hL2, HC2, HN2⟩ := HB2.out.n2 HKB.out b (HHB.out HKB.out) (HLB.out.2.2.1) HLC.out HAL.out HW0.out
       cases eK2
       generalize hln2 : b.ways.length = ln2 at y2 HC2 HN2
       go_upto_region 21 with (go_at_call 14; refine Calls.mono HC2.out ?_; rintro e wa2 ⟨vv, rfl, hO, hbb⟩; obtain ⟨a2, c2, e9, _, _⟩ := own_slice hO.out; subst e9; obtain ⟨u1, u2, u3, hn⟩ := HN2.out wa2 a2 c2 hO hbb; have HB3 : Hid _ := hn; clear hn hO hbb)
       obtain ⟨wb2, hwb2⟩ : ∃ wb, wb = wa2.setCell ⟨K0, k * 6 + 4, none⟩ (.slice a2 ln2 c2) := ⟨_, rfl⟩
       rw [<- hwb2] at HB3 ⊢
       clear hwb2 u1 u2 u3 y2 hL2 HC2 HN2 HB2 hK2
       obtain ⟨K3, xa3, xc3, eK3, hK3, y3, hL3, HC3, HN3⟩ := HB3.out.n3 HKB.out b (HHB.out HKB.out) (HLB.out.2.2.2) HLC.out HAL.out HW0.out
       cases eK3
       generalize hln3 : b.preds.length = ln3 at y3 HC3 HN3
       go_upto_region 22 with (go_at_call 14; refine Calls.mono HC3.out ?_; rintro e wa3 ⟨vv, rfl, hO, hbb⟩; obtain ⟨a3, c3, e9, _, _⟩ := own_slice hO.out; subst e9; obtain ⟨u1, u2, u3, hn⟩ := HN3.out wa3 a3 c3 hO hbb; have HB4 : Hid _ := hn; clear hn hO hbb)
       obtain ⟨wb3, hwb3⟩ : ∃ wb, wb = wa3.setCell ⟨K0, k * 6 + 5, none⟩ (.slice a3 ln3 c3) := ⟨_, rfl⟩
       rw [<- hwb3] at HB4 ⊢
       clear hwb3 u1 u2 u3 y3 hL3 HC3 HN3 HB3 hK3
       go_wp2_with fail
       go_roundw
       case rel => exact ⟨k + 1, by omega, by go_num, HB4.out.step⟩
       case measure => simp [intOf]; omega
      ·have hkn : k = bl := by omega
       subst hkn
       have H9 : Hid (∃ xs, FAll w wr B L c' (j + 1) FS xs) := HO4.out.done HJF.out (HFE.out HJF.out) (by rw [HBL.out]; exact HB0.out)
       clear HB0 HO4 HC7 HLC HAL
       go_wp2_with fail
       go_roundw
       case rel => exact ⟨j + 1, by omega, by go_num, H9.out⟩
       case measure => simp [intOf]; omega
  ·have hjn2 : j = n := by omega
   subst hjn2
   obtain ⟨xsj, hAj⟩ := HJ.out
   have HFIN : Hid (Below w.heap.size w wr /\ w.heap.size <= L /\ ∀ W, (∀ b, w.heap.size <= b -> b < wr.heap.size -> W.heap[b]? = wr.heap[b]?) -> Fus W (some ⟨L, 0, none⟩) c' FS) := by
    rw [<- HBB.out]
    rw [HNN.out] at hAj
    exact ⟨hAj.low, (own_block hAj.row.out rfl).1, hAj.fin⟩
   clear HJ hAj
   go_wp2_with fail
   go_ret
   exact ⟨L, c', rfl, HFIN.out.1, HFIN.out.2.1, HFIN.out.2.2⟩
end Go.Proofs.YtfbkopjncmkbiabGreatDoor
