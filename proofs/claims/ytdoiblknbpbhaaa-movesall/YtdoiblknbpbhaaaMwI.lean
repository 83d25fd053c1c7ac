import Derived.Test.YtdoiblknbpbhaaaMwH
import Derived.Deep.RegionLawGrows
set_option linter.unusedVariables false
set_option linter.unusedSimpArgs false
namespace Go.Proofs.Ytdoiblknbpbhaaa
open Go.ChangeShapes Go.WideShapes Go.ChangeAt Go.RowKit Go.Maps

set_option maxRecDepth 100000 in
set_option maxHeartbeats 8000000 in
theorem row_late (w : World) {B kb lv wv vs us Ts v n T} (hk : KW w B kb lv wv vs us Ts) (ho : OwnM w B v n T) (hv : ∀ g, v.ownBlock = some g → ¬ WFp kb lv wv vs us g) (hn : n ≤ 1000000) (hl : Ts.length ≤ 1000) :
    Calls Try.prog 19 #[.pointer (some ⟨kb, 0, none⟩), v] w fun e w' => e = .returned (.tuple #[]) ∧ ∃ lv' wv' u, KW w' B kb lv' wv' (vs ++ [v]) (us ++ [u]) (Ts ++ [T]) ∧ Only (fun k => WFp kb lv wv vs us k ∨ v.ownBlock = some k) w w' ∧ ∀ k, k < w.heap.size → WFp kb lv' wv' (vs ++ [v]) (us ++ [u]) k → WFp kb lv wv vs us k ∨ v.ownBlock = some k := by
  have hnz0 := ho.out
  obtain ⟨va, vc, rfl, hvc, hvc2⟩ := own_slice ho.out
  have hnz : va = none → vc = 0 := own_nz hnz0
  have k0 : w.cell? ⟨kb, 0, none⟩ = some (.bool true) := cell_arr hk.box rfl
  have k1 : w.cell? ⟨kb, 1, none⟩ = some lv := cell_arr hk.box rfl
  have hkb : kb < w.heap.size := (Array.getElem?_eq_some_iff.1 hk.box).1
  have hB : B ≤ w.heap.size := by have := hk.lo; omega
  have nl : lv.ownBlock ≠ some kb := own_not hk.l.out hk.box (by decide)
  obtain ⟨la, lc, rfl, _, _⟩ := own_slice hk.l.out
  obtain ⟨ua, uc, rfl, _, _⟩ := own_slice hk.wl.out
  obtain ⟨lb, hlb⟩ : ∃ lb, lb = vs.length := ⟨_, rfl⟩
  obtain ⟨ub, hub⟩ : ∃ ub, ub = us.length := ⟨_, rfl⟩
  have hvl : vs.length + 1 ≤ 1759218604441 := by have := hk.p.len; omega
  have hul : us.length + 1 ≤ 1759218604441 := by have := hk.lu; omega
  rw [← hlb] at k1
  have HLB : Hid (lb = vs.length) := hlb
  have HUB : Hid (ub = us.length) := hub
  have HK : Hid _ := hk
  have HO : Hid _ := ho
  have HV : Hid _ := hv
  have HNL : Hid _ := nl
  have HNZ : Hid (va = none → vc = 0) := hnz
  clear hk ho hv nl hlb hub hnz hnz0
  go_enter Try.func19, Try.ntmps19
  go_wp2_with (first
    | (at_builtin; refine wpList_append_slG (w0 := w) rfl _ _ rfl B (.slice la lb lc) vs va n vc rfl (by rw [HLB.out]; exact HK.out.l) rfl hvl hB ?_; intro v6 w6 h6 g6
       obtain ⟨a6, c6, e6, _, _⟩ := own_slice h6.out
       have q6 : (vs ++ [Value.slice va n vc]).length = lb + 1 := by rw [HLB.out]; simp
       rw [q6] at e6
       subst e6
       have g6' : GI B w w6 (.slice la vs.length lc) (.slice a6 (lb + 1) c6) := by rw [← HLB.out]; exact g6
       obtain ⟨z6, k6⟩ : ∃ z, w6.cell? ⟨kb, 1, none⟩ = some z := ⟨_, cell_arr ((g6'.blk kb hkb HNL.out).trans HK.out.box) rfl⟩
       have fz6 : w6.frozen? ⟨kb, 1, none⟩ = false := fz_of ((g6'.blk kb hkb HNL.out).trans HK.out.box)
       have HG6 : Hid _ := g6'
       have H6 : Hid _ := h6
       clear h6 g6 g6' k0 k1)
    | go_in)
  obtain ⟨w7, hw7⟩ : ∃ w7, w7 = w6.setCell ⟨kb, 1, none⟩ (.slice a6 (lb + 1) c6) := ⟨_, rfl⟩
  have s7 : w7.heap.size = w6.heap.size := by rw [hw7]; simp [World.setCell]
  have z6' := HG6.out.size
  have box7 : w7.heap[kb]? = some (.cells #[.bool true, .slice a6 (lb + 1) c6, .slice ua ub uc, .slice none 0 0] 48 (0, 0)) := by
    have := heap_set_at (i := 1) (v := .slice a6 (lb + 1) c6) ((HG6.out.blk kb hkb HNL.out).trans HK.out.box)
    rw [hw7, this, HUB.out]; rfl
  have k72 : w7.cell? ⟨kb, 2, none⟩ = some (.slice ua ub uc) := cell_arr box7 rfl
  have f72 : w7.frozen? ⟨kb, 2, none⟩ = false := fz_of box7
  have HI7 : Hid (Mvs w7 va vc T) := by
    obtain ⟨_, _, e, hI⟩ := HO.out.mvs
    cases e
    refine ⟨hI.le, hI.mx, hI.fit, fun hne => ?_⟩
    obtain ⟨b, o, e, hA⟩ := hI.out hne
    subst e
    have hob : (Value.slice (some ⟨b, o, none⟩) n vc).ownBlock = some b := rfl
    have hn := HV.out b hob
    have hbl := (own_block HO.out.out hob).2
    have hh : w7.heap[b]? = w.heap[b]? := by
      rw [hw7, heap_set_other (fun q => hn (.inl q)), HG6.out.blk b hbl (fun q => hn (.inr (.inl q)))]
    exact ⟨b, o, rfl, hA.move hh⟩
  have HOW : Hid (OwnV w7 B (.slice ua ub uc) us) := by
    have := HK.out.wl
    rw [← HUB.out] at this
    refine this.move fun g hg => ?_
    have hgl := (own_block this.out hg).2
    have h1 : g ≠ kb := fun e => own_not this.out HK.out.box (by decide) (e ▸ hg)
    have h2 : (Value.slice la vs.length lc).ownBlock ≠ some g := fun q => HK.out.lw g q (by rw [← HUB.out]; exact hg)
    rw [hw7, heap_set_other h1, HG6.out.blk g hgl h2]
  have HW7 : Hid (w7 = w6.setCell ⟨kb, 1, none⟩ (.slice a6 (lb + 1) c6)) := hw7
  have HB7 : Hid _ := box7
  have hB7 : B ≤ w7.heap.size := by omega
  have hkb7 : kb < w7.heap.size := by omega
  rw [← hw7]
  clear hw7 k6 fz6 box7
  go_region_law
    (first
      | (refine step_append_mvs rfl _ _ rfl w7.heap.size (.slice none 0 0) 0 [] (by first | rfl | simp [Act.eval]) (OwnM.nil _ _) va n vc T (by first | rfl | simp [Act.eval]) HO.out.len (HI7.out.below ((Below.refl _ _).drew) (Nat.le_refl _)) (by omega) (by first | omega | (simp; done) | (simp; omega)) ?_; intro u5 w5 h5 g5
         rw [Nat.zero_add, List.nil_append] at h5
         have b5 := g5.nil
         have hu5 : ∀ g, u5.ownBlock = some g → w7.heap.size ≤ g := fun g hg => (own_block h5.out hg).1
         have h5 : OwnM w5 B u5 n T := ⟨h5.len, h5.fit, own_lower h5.out hB7⟩
         obtain ⟨a5, c5, e5, _, _⟩ := own_slice h5.out
         subst e5
         have hk5 : kb < w5.heap.size := by have z5 := b5.size; simp at z5; omega
         have k52 : w5.cell? ⟨kb, 2, none⟩ = some (.slice ua ub uc) := cell_arr ((b5.block kb (by simp; omega)).trans (by rw [drew_heap]; exact HB7.out)) rfl
         have f52 : w5.frozen? ⟨kb, 2, none⟩ = false := fz_of ((b5.block kb (by simp; omega)).trans (by rw [drew_heap]; exact HB7.out)))
      | (refine step_append_slG rfl _ _ rfl B (.slice ua ub uc) us a5 n c5 (by first | rfl | simp [Act.eval]) (HOW.out.move fun g hg => by
           have hgl := (own_block HOW.out.out hg).2
           have z5 := b5.size
           rw [heap_alloc_old _ _ (by simp at z5; omega), b5.block g (by simp; omega), drew_heap]) w5.heap.size (by first | rfl | simp [Act.eval]) (by simp) hul (by have z5 := b5.size; simp at z5 ⊢; omega) ?_; intro u8 w8 h8 g8
         obtain ⟨a8, c8, e8, _, _⟩ := own_slice h8.out
         have q8 : (us ++ [Value.slice a5 n c5]).length = ub + 1 := by rw [HUB.out]; simp
         rw [q8] at e8
         subst e8
         have f82 : w8.frozen? ⟨kb, 2, none⟩ = false := fz_of ((g8.blk kb (by have z5 := b5.size; simp at z5 ⊢; omega) (fun q => own_not HOW.out.out HB7.out (by decide) q)).trans ((heap_alloc_old _ _ (by have z5 := b5.size; simp at z5; omega)).trans ((b5.block kb (by simp; omega)).trans (by rw [drew_heap]; exact HB7.out))))
         have k82 : ∃ z, w8.cell? ⟨kb, 2, none⟩ = some z := ⟨_, cell_arr ((g8.blk kb (by have z5 := b5.size; simp at z5 ⊢; omega) (fun q => own_not HOW.out.out HB7.out (by decide) q)).trans ((heap_alloc_old _ _ (by have z5 := b5.size; simp at z5; omega)).trans ((b5.block kb (by simp; omega)).trans (by rw [drew_heap]; exact HB7.out)))) rfl⟩
         obtain ⟨z8, k82⟩ := k82))
  all_goals
    go_wp2_with fail
    have bw : Below (w6.setCell ⟨kb, 1, none⟩ (.slice a6 (lb + 1) c6)).heap.size (w6.setCell ⟨kb, 1, none⟩ (.slice a6 (lb + 1) c6)) w5 := by
      rw [← HW7.out]
      have h1 : Below w7.heap.size w7 w7.drew := (Below.refl _ _).drew
      exact h1.trans b5
    have g8' : GI B (w5.alloc (.cells #[.slice a5 n c5] 22)) w8 (.slice ua us.length uc) (.slice a8 (ub + 1) c8) := by rw [← HUB.out]; exact g8
    have A := KW.add HK.out HO.out HV.out H6.out HG6.out bw h5 (fun g hg => by have := hu5 g hg; omega) h8 g8' rfl
    refine bodyPost_ret (v := .tuple #[]) (by simp [results, Try.results19, go_sem]) rfl ⟨rfl, _, _, _, A⟩
end Go.Proofs.Ytdoiblknbpbhaaa
