import Derived.Test.YtegoemeefmjnoaaGreatDoorJaq
set_option linter.unusedVariables false
set_option linter.unusedSimpArgs false
namespace Go.Proofs.YtegoemeefmjnoaaGreatDoor
open Go.ChangeShapes Go.WideShapes Go.ChangeAt Go.RowKit Go.Maps
theorem lec_two {P : Program} {ops : Array Oper} {Q : Exit -> Act -> World -> Prop} {S : World -> Prop} {z i j : Nat} {oi oj : Oper} {k : Nat} {l : Array Bool} {a : Act} {w : World} (hi : ops[i]? = some oi) (hj : ops[j]? = some oj) (hr : Region.ready .any ops l = [i, j])
 (h : ∀ K' : Act -> World -> Prop, (∀ a' w', ((l.setIfInBounds i true).getD z true = false -> S w') -> lec P ops Q S z k (l.setIfInBounds i true) a' w' -> K' a' w') -> if Region.wanted oi (yielded ops a.tmps) = true then Oper.wp P oi a w K' Q else K' (a.put oi.dst undef) w)
 (h' : ∀ K' : Act -> World -> Prop, (∀ a' w', ((l.setIfInBounds j true).getD z true = false -> S w') -> lec P ops Q S z k (l.setIfInBounds j true) a' w' -> K' a' w') -> if Region.wanted oj (yielded ops a.tmps) = true then Oper.wp P oj a w K' Q else K' (a.put oj.dst undef) w) : lec P ops Q S z (k + 1) l a w := by
 refine ⟨fun h0 => absurd h0 (by rw [hr]; simp), fun x hx => ?_⟩
 rw [hr] at hx
 simp at hx
 rcases hx with rfl | rfl
 ·exact wpOp_step hi fun K' hK => h K' fun a' w' h1 h2 => hK a' w' ⟨h1, h2⟩
 ·exact wpOp_step hj fun K' hK => h' K' fun a' w' h1 h2 => hK a' w' ⟨h1, h2⟩
theorem lec_l {P : Program} {ops : Array Oper} {Q : Exit -> Act -> World -> Prop} {S : World -> Prop} {z k : Nat} {l l' : Array Bool} {a : Act} {w : World} (h : l = l') (g : lec P ops Q S z k l' a w) : lec P ops Q S z k l a w := h ▸ g
theorem two_waysA {A G : Nat -> World -> Prop} {p : Prop} (h : (∀ P X, A P X -> G P X) -> p) (g : ∀ P X, A P X -> G P X) : p := h g
theorem Mca.push {FS s d w M} (h : Mca FS s d w M) {w7 w8 : World} {v7 : Value} (hrow : Row w7 s.ws.hi 80 12 v7 (List.zipWith (fav s) M.wait d.mw ++ [fav s M.here d.mh])) (g : GI s.ws.hi w w7 d.vw v7) (hw8 : w8 = w7.setCell ⟨s.ws.mb, 12, none⟩ v7) :
 Mrs FS s (fav s M.here d.mh) d.wd v7 (d.mw ++ [d.mh]) w8 (M.wait ++ [M.here]) M.wv /\ Only (fun k => k = s.ws.mb \/ d.vw.ownBlock = some k) w w8 /\ (∀ k, v7.ownBlock = some k -> d.vw.ownBlock = some k \/ w.heap.size <= k) := by
 have hhi := h.rs.wm.rest.hi
 have hlt := h.cells.lt
 have hb7 : w7.heap[s.ws.mb]? = w.heap[s.ws.mb]? := g.bel.block _ hhi.2.1
 have hk : ∀ k, k < w.heap.size -> k ≠ s.ws.mb -> d.vw.ownBlock ≠ some k -> w8.heap[k]? = w.heap[k]? := fun k h1 h2 h3 => by rw [hw8, heap_set_other h2]; exact g.blk k h1 h3
 have hs8 : w.heap.size <= w8.heap.size := by rw [hw8]; simp [World.setCell]; exact g.size
 have hbox : w8.heap[s.ws.mb]? = some (.cells (fav s M.here d.mh ++ ([v7, fnv s] ++ wcs s.ws d.wd M.wv)).toArray s.ws.t (0, 0)) := by
  rw [hw8]
  refine box_set (hb7.trans h.boxQ) ?_
  rw [List.set_append_right _ _ (by rw [fav_len h.rg]; omega), fav_len h.rg]
  rfl
 have mapne : ∀ k, some k ∈ d.mw \/ d.mh = some k -> k < w.heap.size /\ k ≠ s.ws.mb /\ d.vw.ownBlock ≠ some k := fun k hk => by
  have hm : k < w.heap.size /\ ∀ A t f, w.heap[k]? ≠ some (.cells A t f) := hk.elim (fun q => h.rs.wai.map q) (fun q => h.sm.lt q)
  refine ⟨hm.1, fun e => hm.2 _ _ _ (e ▸ h.boxQ), fun e => ?_⟩
  obtain ⟨_, _, A, hA⟩ := row_cells h.rs.wai.row e
  exact hm.2 _ _ _ hA
 have hzip : List.zipWith (fav s) (M.wait ++ [M.here]) (d.mw ++ [d.mh]) = List.zipWith (fav s) M.wait d.mw ++ [fav s M.here d.mh] := by
  rw [List.zipWith_append h.rs.wai.len.symm]; rfl
 have hrow8 : Row w8 s.ws.hi 80 12 v7 (List.zipWith (fav s) M.wait d.mw ++ [fav s M.here d.mh]) := hrow.move fun k hk => by
  rw [hw8, heap_set_other]
  have := own_block hrow.out hk
  omega
 refine ⟨⟨h.rs.fns, h.rs.ty, h.rs.wm.around (P' := fav s M.here d.mh ++ [v7, fnv s]) (Q' := []) (by rw [hbox]; simp) (by simp [fav_len h.rg, h.rs.ty.2]) hs8 (fun k h1 h2 h3 => hk k h1 h2 ?_), ⟨by rw [hzip]; exact hrow8, by simp [h.rs.wai.len], fun F hF => ?_, fun i hi => ?_, fun i j k h1 h2 => ?_, fun k hk => ?_⟩⟩, ⟨?_, ?_, ?_, hs8, fun k h1 h2 => hk k h1 (fun e => h2 (.inl e)) (fun e => h2 (.inr e))⟩, g.own⟩
 ·rcases h3 with q | q | q
  ·have := hhi.2.2.2 k q
   exact fun e => by have := (own_block h.rs.wai.row.out e).1; omega
  ·have := hhi.2.2.1 k q
   exact fun e => by have := (own_block h.rs.wai.row.out e).1; omega
  ·exact fun e => own_apart h.rs.wm.rest.ev.out h.rs.wai.row.out (by decide) k q e
 ·simp at hF
  rcases hF with q | q
  ·exact h.rs.wai.rg F q
  ·rw [q]; exact h.rg
 ·by_cases hil : i < M.wait.length
  ·have him : i < d.mw.length := by rw [h.rs.wai.len]; exact hil
   have e1 : (M.wait ++ [M.here])[i] = M.wait[i] := by rw [List.getElem_append_left hil]
   have e2 : (d.mw ++ [d.mh]).getD i none = d.mw.getD i none := by simp [List.getD, List.getElem?_append_left him]
   rw [e1, e2]
   refine (h.rs.wai.sm i hil).move fun b hb => ?_
   have hbm : some b ∈ d.mw := by rw [<- hb]; simp [List.getD, him]
   obtain ⟨q1, q2, q3⟩ := mapne b (.inl hbm)
   exact hk b q1 q2 q3
  ·have hie : i = M.wait.length := by simp at hi; omega
   subst hie
   have e1 : (M.wait ++ [M.here])[M.wait.length] = M.here := by simp
   have e2 : (d.mw ++ [d.mh]).getD M.wait.length none = d.mh := by simp [List.getD, <- h.rs.wai.len]
   rw [e1, e2]
   refine h.sm.move fun b hb => ?_
   obtain ⟨q1, q2, q3⟩ := mapne b (.inr hb)
   exact hk b q1 q2 q3
 ·by_cases hi : i < d.mw.length
  ·rw [List.getElem?_append_left hi] at h1
   by_cases hj : j < d.mw.length
   ·rw [List.getElem?_append_left hj] at h2
    exact h.rs.wai.nd i j k h1 h2
   ·exfalso
    rw [List.getElem?_append_right (by omega)] at h2
    have : j - d.mw.length = 0 := by
     have := (List.getElem?_eq_some_iff.1 h2).1
     simp at this
     omega
    rw [this] at h2
    simp at h2
    exact h.nd k h2 (List.mem_of_getElem? h1)
  ·rw [List.getElem?_append_right (by omega)] at h1
   have e0 : i - d.mw.length = 0 := by
    have := (List.getElem?_eq_some_iff.1 h1).1
    simp at this
    omega
   rw [e0] at h1
   simp at h1
   by_cases hj : j < d.mw.length
   ·exfalso
    rw [List.getElem?_append_left hj] at h2
    exact h.nd k h1 (List.mem_of_getElem? h2)
   ·rw [List.getElem?_append_right (by omega)] at h2
    have := (List.getElem?_eq_some_iff.1 h2).1
    simp at this
    omega
 ·simp at hk
  rcases hk with q | q
  ·exact h.rs.wai.hi k q
  ·exact h.hi k q.symm
 ·rw [hw8]; exact g.bel.os
 ·rw [hw8]; exact g.bel.tape
 ·rw [hw8]; exact g.bel.output
theorem gets_at {M : Ma} : ∀ {L : List (Int × Int)} {A : List Int}, M.gets L = some A -> A.length = L.length /\ ∀ i (h : i < L.length), M.get L[i] = A[i]?
 | [], A, h => by
   simp [Ma.gets, allA] at h
   subst h
   exact ⟨rfl, fun i h => absurd h (by simp)⟩
 | l :: L, A, h => by
   unfold Ma.gets at h
   simp only [List.map_cons] at h
   cases hg : M.get l with
   | none => rw [hg] at h; cases h
   | some x =>
     rw [hg] at h
     unfold allA at h
     obtain ⟨B, hB, rfl⟩ := Option.map_eq_some_iff.1 h
     obtain ⟨q1, q2⟩ := gets_at (M := M) (L := L) hB
     refine ⟨by simp [q1], fun i hi => ?_⟩
     cases i with
     | zero => simpa using hg
     | succ i => simpa using q2 i (by simpa using hi)
structure ClS (s : Ast) (w : World) (cb k : Nat) (P : List (Int × Int)) (A : List Int) (F : Fa) (i : Nat) (wr : World) : Prop where
 out : ∃ Fi mi, FB s [] 80 wr cb Fi mi /\ (∀ g, mi = some g -> w.heap.size <= g) /\ Fi.puts (P.drop i) (A.drop i) = some F /\ Fi.fi = k
 low : Below w.heap.size w wr
 cb : w.heap.size <= cb
theorem ClS.lt {s w cb k P A F i wr} (h : ClS s w cb k P A F i wr) : cb < wr.heap.size := by
 obtain ⟨Fi, mi, h1, _⟩ := h.out
 exact h1.lt
theorem ClS.fn {s w cb k P A F i wr} (h : ClS s w cb k P A F i wr) : wr.cell? ⟨cb, 0, none⟩ = some (.pointer (some ⟨s.fb, s.fo + k * 5, none⟩)) := by
 obtain ⟨Fi, mi, h1, _, _, h4⟩ := h.out
 rw [<- h4]
 exact cell_arr h1.box rfl
theorem ClS.below {s w cb k P A F i wr wr'} (h : ClS s w cb k P A F i wr) (hb : Below wr.heap.size wr wr') : ClS s w cb k P A F i wr' := by
 obtain ⟨Fi, mi, h1, h2⟩ := h.out
 exact ⟨⟨Fi, mi, h1.below hb, h2⟩, h.low.trans (hb.mono h.low.size), h.cb⟩
theorem set_fi {F F' : Fa} {l : Int × Int} {x : Int} (h : F.set l x = some F') : F'.fi = F.fi := by
 unfold Fa.set at h
 split at h
 ·split at h
  ·cases h; rfl
  ·cases h
 ·split at h
  ·split at h
   ·cases h; rfl
   ·cases h
  ·cases h; rfl
theorem ClS.set {s w cb k P A F i wr} (h : ClS s w cb k P A F i wr) (hi : i < P.length) {x : Int} (hx : A[i]? = some x) : Calls Tryz.prog 57 #[.pointer (some ⟨cb, 0, none⟩), .agg #[.int .i64 P[i].1, .int .i64 P[i].2], .int .i64 x] wr fun e w' => e = .returned (.tuple #[]) /\ ClS s w cb k P A F (i + 1) w' := by
 obtain ⟨Fi, mi, h1, h2, h3, h4⟩ := h.out
 have hl := (List.getElem?_eq_some_iff.1 hx).1
 rw [List.drop_eq_getElem_cons hi, List.drop_eq_getElem_cons hl] at h3
 unfold Fa.puts at h3
 simp only at h3
 cases hs : Fi.set P[i] A[i] with
 | none => rw [hs] at h3; cases h3
 | some F' =>
   rw [hs] at h3
   have ex : A[i] = x := by rw [List.getElem?_eq_getElem hl] at hx; exact Option.some.inj hx
   rw [ex] at hs
   refine (fSet_any h1 P[i] x F' hs).mono ?_
   rintro e w' ⟨rfl, m', q1, q2, q3⟩
   have hcb := h.cb
   have hlow := h.low.size
   have hb : Below w.heap.size wr w' := q2.below h.low.size fun k hk => hk.elim (fun e => by omega) (fun e => h2 k e)
   refine ⟨rfl, ⟨⟨F', m', q1, fun g hg => ?_, h3, by rw [set_fi hs]; exact h4⟩, h.low.trans hb, h.cb⟩⟩
   rcases q3 with r | ⟨_, g', r1, r2⟩
   ·exact h2 g (by rw [<- r]; exact hg)
   ·rw [r1] at hg; cases hg; omega
theorem Mca.called {FS s d w M} (h : Mca FS s d w M) (hl : M.wait.length <= 900000000) {w0 wq : World} {F : Fa} {m : Option Nat} {cb : Nat} (hb0 : Below w0.heap.size w0 wq) (h0 : Mca FS s d w0 M) (hF0 : FooA s d d w w0) (hFB : FB s [] 80 wq cb F m) (hm : ∀ g, m = some g -> w0.heap.size <= g) (hcb : w0.heap.size <= cb) :
 ∀ w7 w8 v7, Row w7 s.ws.hi 80 12 v7 (List.zipWith (fav s) M.wait d.mw ++ [fav s M.here d.mh]) -> GI s.ws.hi wq w7 d.vw v7 -> w8 = w7.setCell ⟨s.ws.mb, 12, none⟩ v7 -> FB s [] 80 w8 cb F m /\ Calls Tryz.prog 25 #[.pointer (some ⟨s.ws.mb, 0, none⟩), .agg (fav s F m).toArray] w8 fun e w' => e = .returned (.tuple #[]) /\ ∃ d', Mca FS s d' w' (({ M with wait := M.wait ++ [M.here] } : Ma).begin F) /\ FooA s d d' w w' := by
 intro w7 w8 v7 hrow hgi hw8
 have hM := h0.below hb0
 obtain ⟨hrs, ho, hown⟩ := hM.push hrow hgi hw8
 have hhi := hM.rs.wm.rest.hi
 have hhi0 := h0.rs.wm.rest.hi
 have hqs := hb0.size
 have hvw : ∀ k, d.vw.ownBlock = some k -> k < w0.heap.size := fun k hk => (own_block h0.rs.wai.row.out hk).2
 have hFB8 : FB s [] 80 w8 cb F m := hFB.move (ho.block cb hFB.lt (fun q => q.elim (fun e => by omega) (fun e => by have := hvw cb e; omega))) fun g hg => ho.block g (hFB.sm.lt hg).1 (fun q => q.elim (fun e => by have := hm g hg; omega) (fun e => by have := hvw g e; have := hm g hg; omega))
 refine ⟨hFB8, (mBegin_gen hrs (fav_len h.rg) F m hFB8.rg hFB8.sm (fun g hg hmem => ?_) (fun g hg => by have := hm g hg; omega) (by simp; omega)).mono ?_⟩
 ·simp at hmem
  have := hm g hg
  rcases hmem with q | q
  ·have := (h0.rs.wai.map q).1; omega
  ·have := (h0.sm.lt q.symm).1; omega
 ·rintro e w' ⟨rfl, q1, q2⟩
  refine ⟨rfl, _, q1, ⟨⟨?_, ?_, ?_, ?_, fun k hk hn => ?_⟩, fun k hk => ?_⟩⟩
  ·exact q2.os.trans (ho.os.trans (hb0.os.trans hF0.only.os))
  ·exact q2.tape.trans (ho.tape.trans (hb0.tape.trans hF0.only.tape))
  ·exact q2.output.trans (ho.output.trans (hb0.output.trans hF0.only.output))
  ·exact Nat.le_trans hF0.only.size (Nat.le_trans hb0.size (Nat.le_trans ho.size q2.size))
  ·have hk0 : k < w0.heap.size := Nat.lt_of_lt_of_le hk hF0.only.size
   have hkq : k < wq.heap.size := by omega
   rw [q2.block k (Nat.lt_of_lt_of_le hkq ho.size) (fun e => hn (.inl (.inl e))), ho.block k hkq (fun q => q.elim (fun e => hn (.inl (.inl e))) (fun e => hn (.inr (.inl e)))), hb0.block k hk0, hF0.only.block k hk hn]
  ·have hw0 := hF0.only.size
   rcases hk with q | q | q | q
   ·exact .inl (.inl q)
   ·rcases hown k q with r | r
    ·exact .inl (.inr (.inl r))
    ·right; omega
   ·right; have := hm k q; omega
   ·simp at q
    rcases q with r | r
    ·exact .inl (.inr (.inr (.inr r)))
    ·exact .inl (.inr (.inr (.inl r.symm)))
end Go.Proofs.YtegoemeefmjnoaaGreatDoor
