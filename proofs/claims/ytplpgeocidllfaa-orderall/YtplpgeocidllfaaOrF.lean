import Derived.Test.YtplpgeocidllfaaOrE
set_option linter.unusedVariables false
set_option linter.unusedSimpArgs false
namespace Go.Proofs.Ytplpgeocidllfaa
open Go.ChangeShapes Go.WideShapes Go.ChangeAt Go.RowKit Go.Maps

/-- At the head of Line's loop. -/
structure LHd (w wr : World) (B tb yb gv vb : Nat) (ao : Option Addr) (n c : Nat) (Ls : List (List Int)) (q : Nat) (s : OS) (vw lv : Value) : Prop where
  om : OM wr B tb yb gv vb ao n c s.vis s.way vw
  ln : OwnI wr B lv s.out.length s.out
  oi : OI Ls s
  run : orun Ls q s = orP Ls
  msr : q = msr Ls s
  bel : Below B w wr
theorem OM.line {w B tb yb gv vb ao n c vis way vw} (H : OM w B tb yb gv vb ao n c vis way vw) {lv : Value} {m : Nat} {L : List Int} (h : OwnI w B lv m L) : ∀ k, OF tb yb gv vb vw k → lv.ownBlock ≠ some k := by
  have e3 := H.vs
  unfold MR at e3
  rintro k (rfl | rfl | rfl | rfl | h2)
  · exact own_not h.out H.tx (by decide)
  · exact own_not h.out H.wy (by decide)
  · exact own_not h.out e3 (by decide)
  · exact own_not h.out H.vx (by decide)
  · intro e
    exact own_apart h.out H.st.out (by decide) k e h2
theorem OM.bot {w B tb yb gv vb ao n c vis way vw} (H : OM w B tb yb gv vb ao n c vis way vw) (hy : B ≤ yb) (hv : B ≤ gv) : ∀ k, OV yb gv vw k → B ≤ k := by
  rintro k (rfl | rfl | h)
  · exact hy
  · exact hv
  · exact (own_block H.st.out h).1
/-- The last block of the way is done. -/
theorem LHd.pop {w wr w' : World} {B tb yb gv vb ao n c Ls G vis st b out g wc lv v'} (H : LHd w wr B tb yb gv vb ao n c Ls (G + 1) ⟨vis, st ++ [(b, 0)], out⟩ (.slice (some ⟨g, 0, none⟩) (st.length + 1) wc) lv) (hg : goodP Ls = true) (hy : B ≤ yb) (h1 : OwnI w' B v' (out.length + 1) (out ++ [b])) (h2 : GI B wr w' lv v') :
    LHd w (w'.setCell ⟨yb, 0, none⟩ (.slice (some ⟨g, 0, none⟩) st.length wc)) B tb yb gv vb ao n c Ls G ⟨vis, st, out ++ [b]⟩ (.slice (some ⟨g, 0, none⟩) st.length wc) v' ∧ w'.heap[yb]? = wr.heap[yb]? := by
  have hb : ∀ k, OF tb yb gv vb (.slice (some ⟨g, 0, none⟩) (st.length + 1) wc) k → w'.heap[k]? = wr.heap[k]? := fun k hk => h2.blk k (H.om.lt k hk) (H.om.line H.ln k hk)
  have M := H.om.move hb
  obtain ⟨a1, a2, a3, a4, a5, a6, a7, a8, a9, a10⟩ := M.apart
  have k2 : ∀ k, k ≠ yb → (w'.setCell ⟨yb, 0, none⟩ (.slice (some ⟨g, 0, none⟩) st.length wc)).heap[k]? = w'.heap[k]? := fun k hk => heap_set_other hk
  obtain ⟨p1, p2⟩ := H.oi.step hg (by simp)
  rw [stp_pop] at p1 p2
  have hr := H.run
  rw [orun_more _ _ _ (by simp), stp_pop] at hr
  have hq := H.msr
  refine ⟨⟨⟨(k2 tb a1).trans M.tx, ?_, (k2 gv a4.symm).trans M.vs, (k2 vb a5.symm).trans M.vx, ?_⟩, ?_, p1, hr, by omega, (H.bel.trans h2.bel).setCell hy _⟩, hb yb (.inr (.inl rfl))⟩
  · rw [heap_set_at M.wy]; rfl
  · exact M.st.cut.move fun k hk => k2 k (fun e => a8 (by rw [← e]; exact hk))
  · have hl : (out ++ [b]).length = out.length + 1 := by simp
    rw [hl]
    exact ⟨h1.len, own_move h1.out fun k hk => k2 k (fun e => by subst e; exact own_not h1.out M.wy (by decide) hk)⟩
/-- One of its own is taken: the way's last left number goes down. -/
theorem OM.down {w : World} {B tb yb gv vb ao n c vis} {st : List (Int × Nat)} {b : Int} {l g wc : Nat} (H : OM w B tb yb gv vb ao n c vis (st ++ [(b, l + 1)]) (.slice (some ⟨g, 0, none⟩) (st.length + 1) wc)) : OM (w.setCell ⟨g, st.length * 2 + 1, none⟩ (.int .i64 (l : Int))) B tb yb gv vb ao n c vis (st ++ [(b, l)]) (.slice (some ⟨g, 0, none⟩) (st.length + 1) wc) := by
  obtain ⟨a1, a2, a3, a4, a5, a6, a7, a8, a9, a10⟩ := H.apart
  have k2 : ∀ k, k ≠ g → (w.setCell ⟨g, st.length * 2 + 1, none⟩ (.int .i64 (l : Int))).heap[k]? = w.heap[k]? := fun k hk => heap_set_other hk
  exact ⟨(k2 tb fun e => a7 (by rw [e]; rfl)).trans H.tx, (k2 yb fun e => a8 (by rw [e]; rfl)).trans H.wy, (k2 gv fun e => a9 (by rw [e]; rfl)).trans H.vs, (k2 vb fun e => a10 (by rw [e]; rfl)).trans H.vx, H.st.set l⟩
theorem LHd.old {w wr : World} {B tb yb gv vb ao n c Ls G vis st b l out vw vw' lv} (H : LHd w wr B tb yb gv vb ao n c Ls (G + 1) ⟨vis, st ++ [(b, l + 1)], out⟩ vw lv) (hg : goodP Ls = true) (hx : (rowOf Ls b).getD l 0 ∈ vis) {w5 : World} (M : OM w5 B tb yb gv vb ao n c vis (st ++ [(b, l)]) vw') (L : OwnI w5 B lv out.length out) (bel : Below B w w5) :
    LHd w w5 B tb yb gv vb ao n c Ls G ⟨vis, st ++ [(b, l)], out⟩ vw' lv := by
  obtain ⟨p1, p2⟩ := H.oi.step hg (by simp)
  rw [stp_go, vst, if_pos hx] at p1 p2
  have hr := H.run
  rw [orun_more _ _ _ (by simp), stp_go, vst, if_pos hx] at hr
  have hq := H.msr
  exact ⟨M, L, p1, hr, by omega, bel⟩
theorem LHd.new {w wr : World} {B tb yb gv vb ao n c Ls G vis st b l out vw vw' lv} (H : LHd w wr B tb yb gv vb ao n c Ls (G + 1) ⟨vis, st ++ [(b, l + 1)], out⟩ vw lv) (hg : goodP Ls = true) (hx : (rowOf Ls b).getD l 0 ∉ vis) {w5 : World} (M : OM w5 B tb yb gv vb ao n c (vis ++ [(rowOf Ls b).getD l 0]) (st ++ [(b, l)] ++ [((rowOf Ls b).getD l 0, (rowOf Ls ((rowOf Ls b).getD l 0)).length)]) vw') (L : OwnI w5 B lv out.length out) (bel : Below B w w5) :
    LHd w w5 B tb yb gv vb ao n c Ls G ⟨vis ++ [(rowOf Ls b).getD l 0], st ++ [(b, l)] ++ [((rowOf Ls b).getD l 0, (rowOf Ls ((rowOf Ls b).getD l 0)).length)], out⟩ vw' lv := by
  obtain ⟨p1, p2⟩ := H.oi.step hg (by simp)
  rw [stp_go, vst, if_neg hx] at p1 p2
  have hr := H.run
  rw [orun_more _ _ _ (by simp), stp_go, vst, if_neg hx] at hr
  have hq := H.msr
  simp only at p2 hq
  exact ⟨M, L, p1, hr, by omega, bel⟩
end Go.Proofs.Ytplpgeocidllfaa
