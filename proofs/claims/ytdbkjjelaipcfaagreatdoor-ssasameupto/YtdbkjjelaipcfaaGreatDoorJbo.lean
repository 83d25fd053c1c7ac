import Derived.Test.YtdbkjjelaipcfaaGreatDoorJbg
import Derived.Test.YtdbkjjelaipcfaaGreatDoorJbh
import Derived.Test.YtdbkjjelaipcfaaGreatDoorJbl
import Derived.Test.YtdbkjjelaipcfaaGreatDoorJbn
set_option linter.unusedVariables false
set_option linter.unusedSimpArgs false
namespace Go.Proofs.YtdbkjjelaipcfaaGreatDoor
open Go.ChangeShapes Go.WideShapes Go.ChangeAt Go.RowKit Go.Maps
theorem LM.only {w w' : World} {B b c FS} (h : LM w B b c FS) (hk : ∀ k, B <= k -> k < w.heap.size -> w'.heap[k]? = w.heap[k]?) : LM w' B b c FS := by
 have hv := hk b h.lo h.lt
 have hc : ∀ q, w'.cell? ⟨b, q, none⟩ = w.cell? ⟨b, q, none⟩ := fun q => World.cell?_of_block (w := w) hv
 obtain ⟨xs, hl, hE, hx⟩ := h.row
 obtain ⟨cs, e, hs⟩ := h.ty
 exact ⟨h.lo, h.le, h.mx, ⟨xs, hl, fun i hi hi' => (hE i hi hi').move fun b cs t hb e _ => hk b hb (gl e), fun i hi r u hr hu => (hc _).trans (hx i hi r u hr hu)⟩, ⟨cs, hv.trans e, hs⟩, (hc _).trans h.mark⟩
structure MX (w wr : World) (lb mb fb fc2 gb gc n Bm : Nat) (m1 m2 : Int) (US : List Fu) (i : Nat) : Prop where
 lbox : wr.heap[lb]? = some (.cells #[.slice (some ⟨fb, 0, none⟩) n fc2, .int .i64 m1] 32 (0, 0))
 mbox : wr.heap[mb]? = some (.cells #[.slice (some ⟨gb, 0, none⟩) n gc, .int .i64 m2] 32 (0, 0))
 lm : LM wr Bm gb gc US
 row : ∃ cs, wr.heap[fb]? = some (.cells cs 38 (0, 0)) /\ (n + 1) * 5 <= cs.size
 cp : ∀ j r, j < i -> r < 5 -> wr.cell? ⟨fb, j * 5 + r, none⟩ = wr.cell? ⟨gb, j * 5 + r, none⟩
 fl : fb < Bm
 ll : lb < Bm
 ml : Bm <= mb
 bel : Below w.heap.size w wr
theorem MX.next {w wr : World} {lb mb fb fc2 gb gc n Bm m1 m2 US i} (h : MX w wr lb mb fb fc2 gb gc n Bm m1 m2 US i) (hn : n = US.length) (hi : i < n) (hlo : w.heap.size <= fb) {y0 y1 y2 y3 y4 : Value} (e0 : wr.cell? ⟨gb, i * 5, none⟩ = some y0) (e1 : wr.cell? ⟨gb, i * 5 + 1, none⟩ = some y1) (e2 : wr.cell? ⟨gb, i * 5 + 2, none⟩ = some y2) (e3 : wr.cell? ⟨gb, i * 5 + 3, none⟩ = some y3) (e4 : wr.cell? ⟨gb, i * 5 + 4, none⟩ = some y4) :
 MX w (((((wr.setCell ⟨fb, i * 5, none⟩ y0).setCell ⟨fb, i * 5 + 1, none⟩ y1).setCell ⟨fb, i * 5 + 2, none⟩ y2).setCell ⟨fb, i * 5 + 3, none⟩ y3).setCell ⟨fb, i * 5 + 4, none⟩ y4) lb mb fb fc2 gb gc n Bm m1 m2 US (i + 1) := by
 obtain ⟨cs, hr, hs⟩ := h.row
 have hlb : lb ≠ fb := blk_type h.lbox hr (by decide)
 have hgb : gb ≠ fb := by have := h.lm.lo; have := h.fl; omega
 have oth : ∀ k, k ≠ fb -> (((((wr.setCell ⟨fb, i * 5, none⟩ y0).setCell ⟨fb, i * 5 + 1, none⟩ y1).setCell ⟨fb, i * 5 + 2, none⟩ y2).setCell ⟨fb, i * 5 + 3, none⟩ y3).setCell ⟨fb, i * 5 + 4, none⟩ y4).heap[k]? = wr.heap[k]? := fun k hk => by
  rw [heap_set_other hk, heap_set_other hk, heap_set_other hk, heap_set_other hk, heap_set_other hk]
 have s0 := heap_set_at (i := i * 5) (v := y0) hr
 have s1 := heap_set_at (i := i * 5 + 1) (v := y1) s0
 have s2 := heap_set_at (i := i * 5 + 2) (v := y2) s1
 have s3 := heap_set_at (i := i * 5 + 3) (v := y3) s2
 have s4 := heap_set_at (i := i * 5 + 4) (v := y4) s3
 have hsz : i * 5 + 5 <= cs.size := by omega
 have gcell : ∀ q, (((((wr.setCell ⟨fb, i * 5, none⟩ y0).setCell ⟨fb, i * 5 + 1, none⟩ y1).setCell ⟨fb, i * 5 + 2, none⟩ y2).setCell ⟨fb, i * 5 + 3, none⟩ y3).setCell ⟨fb, i * 5 + 4, none⟩ y4).cell? ⟨gb, q, none⟩ = wr.cell? ⟨gb, q, none⟩ := fun q => World.cell?_of_block (w := wr) (oth gb hgb)
 refine ⟨(oth lb hlb).trans h.lbox, (oth mb (by have := h.fl; have := h.ml; omega)).trans h.mbox, h.lm.only fun k hk _ => oth k (by have := h.fl; omega), ⟨_, s4, by simpa using hs⟩, fun j r hj hr' => ?_, h.fl, h.ll, h.ml, ((((h.bel.setCell hlo _).setCell hlo _).setCell hlo _).setCell hlo _).setCell hlo _⟩
 rw [gcell]
 by_cases e : j = i
 ·subst e
  have hc : ∀ u, (((((cs.setIfInBounds (j * 5) y0).setIfInBounds (j * 5 + 1) y1).setIfInBounds (j * 5 + 2) y2).setIfInBounds (j * 5 + 3) y3).setIfInBounds (j * 5 + 4) y4)[j * 5 + r]? = some u -> (((((wr.setCell ⟨fb, j * 5, none⟩ y0).setCell ⟨fb, j * 5 + 1, none⟩ y1).setCell ⟨fb, j * 5 + 2, none⟩ y2).setCell ⟨fb, j * 5 + 3, none⟩ y3).setCell ⟨fb, j * 5 + 4, none⟩ y4).cell? ⟨fb, j * 5 + r, none⟩ = some u := fun u hu => cell_arr s4 hu
  have hr5 : r = 0 \/ r = 1 \/ r = 2 \/ r = 3 \/ r = 4 := by omega
  rcases hr5 with rfl | rfl | rfl | rfl | rfl
  ·have hh := hc y0 (by simp [Array.getElem?_setIfInBounds]; omega)
   show _ = wr.cell? ⟨gb, j * 5, none⟩
   rw [e0]; exact hh
  ·rw [e1]; exact hc _ (by simp [Array.getElem?_setIfInBounds]; omega)
  ·rw [e2]; exact hc _ (by simp [Array.getElem?_setIfInBounds]; omega)
  ·rw [e3]; exact hc _ (by simp [Array.getElem?_setIfInBounds]; omega)
  ·rw [e4]; exact hc _ (by simp [Array.getElem?_setIfInBounds]; omega)
 ·rw [<- h.cp j r (by omega) hr']
  simp only [World.cell?, s4, hr]
  rw [Array.getElem?_setIfInBounds_ne (by omega), Array.getElem?_setIfInBounds_ne (by omega), Array.getElem?_setIfInBounds_ne (by omega), Array.getElem?_setIfInBounds_ne (by omega), Array.getElem?_setIfInBounds_ne (by omega)]
theorem MX.main {w wr : World} {lb mb fb fc2 gb gc n Bm m1 m2 US i} (h : MX w wr lb mb fb fc2 gb gc n Bm m1 m2 US i) (hlo : w.heap.size <= lb) (m : Int) : MX w (wr.setCell ⟨lb, 1, none⟩ (.int .i64 m)) lb mb fb fc2 gb gc n Bm m m2 US i := by
 obtain ⟨cs, hr, hs⟩ := h.row
 have hfb : fb ≠ lb := fun e => blk_type h.lbox hr (by decide) e.symm
 have hgb : gb ≠ lb := by have := h.lm.lo; have := h.ll; omega
 refine ⟨?_, (heap_set_other (by have := h.ll; have := h.ml; omega)).trans h.mbox, h.lm.only fun k hk _ => heap_set_other (by have := h.ll; omega), ⟨cs, (heap_set_other hfb).trans hr, hs⟩, fun j r hj hr' => ?_, h.fl, h.ll, h.ml, h.bel.setCell hlo _⟩
 ·have := heap_set_at (i := 1) (v := .int .i64 m) h.lbox
  rw [this]; rfl
 ·have e1 : (wr.setCell ⟨lb, 1, none⟩ (.int .i64 m)).cell? ⟨fb, j * 5 + r, none⟩ = wr.cell? ⟨fb, j * 5 + r, none⟩ := World.cell?_of_block (w := wr) (heap_set_other hfb)
  have e2 : (wr.setCell ⟨lb, 1, none⟩ (.int .i64 m)).cell? ⟨gb, j * 5 + r, none⟩ = wr.cell? ⟨gb, j * 5 + r, none⟩ := World.cell?_of_block (w := wr) (heap_set_other hgb)
  rw [e1, e2]; exact h.cp j r hj hr'
theorem MX.drew {w wr : World} {lb mb fb fc2 gb gc n Bm m1 m2 US i} (h : MX w wr lb mb fb fc2 gb gc n Bm m1 m2 US i) : MX w wr.drew lb mb fb fc2 gb gc n Bm m1 m2 US i := by
 obtain ⟨cs, hr, hs⟩ := h.row
 exact ⟨h.lbox, h.mbox, h.lm.only fun k _ _ => rfl, ⟨cs, hr, hs⟩, fun j r hj hr' => h.cp j r hj hr', h.fl, h.ll, h.ml, h.bel.drew⟩
theorem MX.fus {w wr : World} {lb mb fb fc2 gb gc n Bm m1 m2 US} (h : MX w wr lb mb fb fc2 gb gc n Bm m1 m2 US n) (hn : n = US.length) (hc : n <= fc2) (hm : fc2 <= 9223372036854775807) : Fus wr (some ⟨fb, 0, none⟩) fc2 US := by
 obtain ⟨cs, hr, _⟩ := h.row
 refine ⟨by omega, hm, fun _ => ⟨fb, 0, rfl, (gl hr), fun i hi => ?_⟩⟩
 obtain ⟨b, o, e, _, hA⟩ := h.lm.fus.out (by intro q; rw [q] at hi; simp at hi)
 cases e
 obtain ⟨ka, kc, la, lc, ma, mc, c0, c1, c2, c3, c4, h1, h2, h3⟩ := (hA i hi).out
 simp only [Nat.zero_add] at c0 c1 c2 c3 c4
 have f := fun r hr => h.cp i r (by omega) hr
 refine ⟨ka, kc, la, lc, ma, mc, ?_, ?_, ?_, ?_, ?_, h1, h2, h3⟩
 ·have := f 0 (by omega); simp only [Nat.add_zero, Nat.zero_add] at this ⊢; rw [this]; exact c0
 ·have := f 1 (by omega); simp only [Nat.zero_add]; rw [this]; exact c1
 ·have := f 2 (by omega); simp only [Nat.zero_add]; rw [this]; exact c2
 ·have := f 3 (by omega); simp only [Nat.zero_add]; rw [this]; exact c3
 ·have := f 4 (by omega); simp only [Nat.zero_add]; rw [this]; exact c4
theorem sum_len {g : Bk -> Nat} (h : ∀ b, b.phis.length + b.body.length <= g b) : ∀ l : List Bk, (l.map fun b => b.phis.length + b.body.length).sum <= (l.map g).sum
 | [] => by simp
 | b :: l => by have := sum_len h l; have := h b; simp; omega
theorem few_of {FS : List Fu} (hb : szS FS <= 1048576) : ∀ f ∈ FS, Few9 f := fun f hf => by
 have h1 := szF_le hf hb
 obtain ⟨a, b, c, d⟩ := szF_len h1
 refine ⟨by omega, by omega, fun v hv => by have := szV_le hv h1; omega, by omega, fun b hb2 => ?_⟩
 have := szB_le hb2 h1
 omega
theorem fewF_of {FS : List Fu} (hb : szS FS <= 1048576) (h2 : ∀ f ∈ FS, f.blks.length <= 2000) : ∀ f ∈ FS, FewF f := fun f hf => by
 have h1 := szF_le hf hb
 obtain ⟨a, b, c, d⟩ := szF_len h1
 refine ⟨by have := h2 f hf; omega, ?_⟩
 unfold totK
 rw [List.take_length]
 have h3 := sum_len (g := szB) (fun b => by have e : szB b = b.phis.length + b.body.length + b.ways.length + b.preds.length + 1 := rfl; omega) f.blks
 unfold szF at h1
 omega
theorem ref9_any (w : World) {fa : Option Addr} {fn fc : Nat} {mn : Int} {FS : List Fu} (hF : Fus w fa fc FS) (ef : fn = FS.length) (hb : szS FS <= 1048576) (h2 : ∀ f ∈ FS, f.blks.length <= 2000) :
 Calls Tryz.prog 11 #[.agg #[.slice fa fn fc, .int .i64 mn]] w fun e w' => e = .returned (.int .i64 (checkP FS mn)) /\ Below w.heap.size w w' := by
 have hfw := fewF_of hb h2
 refine rCheck9_any w hF ef (fun f hf => ?_) hfw fun hfm f hf => ⟨fun w' fa' fn' fc' s pa pn pc r va vn vc ba bn bc X h3 h4 h5 => ?_⟩
 ·obtain ⟨a, _⟩ := szF_len (szF_le hf hb)
  show f.name.data.toList.length <= _
  rw [Array.length_toList]
  have : f.name.data.size = f.name.size := rfl
  omega
 ·exact rUses_any w' X (hfm f hf) (by have := X.eb; have := h2 f hf; omega) (hfw f hf).tot h3 h4 h5
set_option maxRecDepth 100000 in
set_option maxHeartbeats 20000000 in
theorem ssaSame_any (w : World) (hTab : Tab w) {fa : Option Addr} {fn fc : Nat} {mn : Int} {FS : List Fu} (hF : Fus w fa fc FS) (ef : fn = FS.length) (hb : szS FS <= 1048576) {ga : Option Addr} {gn2 gc2 : Nat} {mu : Int} {US : List Fu} (hG : Fus w ga gc2 US) (eg : gn2 = US.length) (hb2 : szS US <= 1048576) :
 Calls Tryz.prog 4 #[.agg #[.slice fa fn fc, .int .i64 mn], .agg #[.slice ga gn2 gc2, .int .i64 mu]] w fun e w' => e = .returned (.bool true) /\ Below w.heap.size w w' := by
 obtain ⟨W0, hW0⟩ : ∃ W, W = (w.alloc (.cells #[.slice fa fn fc, .int .i64 mn] 24)).alloc (.cells #[.slice ga gn2 gc2, .int .i64 mu] 24) := ⟨_, rfl⟩
 have b0 : Below w.heap.size w W0 := by rw [hW0]; exact ((Below.refl _ _).alloc (Nat.le_refl _) _).alloc (by simp) _
 have ks : W0.heap[w.heap.size]? = some (.cells #[.slice fa fn fc, .int .i64 mn] 24) := by rw [hW0, heap_alloc_old _ _ (by simp)]; exact heap_alloc_new _ _
 have ku : W0.heap[w.heap.size + 1]? = some (.cells #[.slice ga gn2 gc2, .int .i64 mu] 24) := by
  rw [hW0]
  have := heap_alloc_new (w.alloc (.cells #[.slice fa fn fc, .int .i64 mn] 24)) (.cells #[.slice ga gn2 gc2, .int .i64 mu] 24)
  simpa using this
 have HKS : Hid (∀ w', Below W0.heap.size W0 w' -> (w'.cell? ⟨w.heap.size, 0, none⟩ = some (.slice fa fn fc) /\ w'.cell? ⟨w.heap.size, 1, none⟩ = some (.int .i64 mn)) /\ (w'.cell? ⟨w.heap.size + 1, 0, none⟩ = some (.slice ga gn2 gc2) /\ w'.cell? ⟨w.heap.size + 1, 1, none⟩ = some (.int .i64 mu))) := fun w' hb => by
  have e1 := (hb.block _ (gl ks)).trans ks
  have e2 := (hb.block _ (gl ku)).trans ku
  exact ⟨⟨cell_arr e1 rfl, cell_arr e1 rfl⟩, ⟨cell_arr e2 rfl, cell_arr e2 rfl⟩⟩
 have hs0 : W0.heap.size = w.heap.size + 2 := by rw [hW0]; simp
 have HTB : Hid (∀ w', Below w.heap.size w w' -> Tab w') := fun w' hb => hTab.below hb hTab.1
 have HF : Hid (∀ w', Below w.heap.size w w' -> Fus w' fa fc FS) := fun w' hb => hF.below hb (Nat.le_refl _)
 have HG : Hid (∀ w', Below w.heap.size w w' -> Fus w' ga gc2 US) := fun w' hb => hG.below hb (Nat.le_refl _)
 have HEF : Hid (fn = FS.length) := ef
 have HEG : Hid (gn2 = US.length) := eg
 have HBF : Hid (szS FS <= 1048576) := hb
 have HBG : Hid (szS US <= 1048576) := hb2
 have HB0 : Hid (Below w.heap.size w W0) := b0
 have hfm : fn <= 9223372036854775807 := by have := hF.le; have := hF.mx; omega
 have hgm : gn2 <= 9223372036854775807 := by have := hG.le; have := hG.mx; omega
 obtain ⟨⟨a0, a1⟩, a2, a3⟩ := HKS.out W0 (Below.refl _ _)
 clear hTab hF ef hb hG eg hb2 b0 ks ku
 go_enter Tryz.func4, Tryz.ntmps4
 go_wp2_with fail
 rw [<- hW0]
 clear hW0
 refine (alive9_any W0 (HTB.out W0 HB0.out)).mono ?_
 rintro e w1 ⟨rfl, b1⟩
 have HB1 : Hid (Below W0.heap.size W0 w1) := b1
 have HW1 : Hid (Below w.heap.size w w1) := HB0.out.trans (b1.mono HB0.out.size)
 obtain ⟨⟨a0, a1⟩, a2, a3⟩ := HKS.out w1 b1
 clear b1
 go_wp2_with fail
 refine (small_any w1 (HF.out w1 HW1.out) HEF.out HBF.out).mono ?_
 rintro e w2 ⟨⟨R1, rfl, hR1⟩, b2⟩
 have HB2 : Hid (Below W0.heap.size W0 w2) := HB1.out.trans (b2.mono HB1.out.size)
 have HW2 : Hid (Below w.heap.size w w2) := HB0.out.trans (HB2.out.mono HB0.out.size)
 have HR1 : Hid (R1 = true -> FS.length <= 300 /\ ∀ f ∈ FS, f.blks.length <= 2000) := hR1
 obtain ⟨⟨a0, a1⟩, a2, a3⟩ := HKS.out w2 HB2.out
 clear b2 hR1 HB1 HW1
 go_wp2_with fail
 refine (small_any w2 (HG.out w2 HW2.out) HEG.out HBG.out).mono ?_
 rintro e w3 ⟨⟨R2, rfl, hR2⟩, b3⟩
 have HB3 : Hid (Below W0.heap.size W0 w3) := HB2.out.trans (b3.mono HB2.out.size)
 have HW3 : Hid (Below w.heap.size w w3) := HB0.out.trans (HB3.out.mono HB0.out.size)
 have HR2 : Hid (R2 = true -> US.length <= 300 /\ ∀ f ∈ US, f.blks.length <= 2000) := hR2
 obtain ⟨⟨a0, a1⟩, a2, a3⟩ := HKS.out w3 HB3.out
 clear b3 hR2 HB2 HW2
 cases R1 with
 | false =>
   go_wp2_with fail
   go_ret
   exact ⟨rfl, HW3.out⟩
 | true =>
 cases R2 with
 | false =>
   go_wp2_with fail
   go_ret
   exact ⟨rfl, HW3.out⟩
 | true =>
 by_cases hfg : fn = gn2
 ·subst hfg
  have h300 : fn <= 300 := by have := (HR1.out rfl).1; have := HEF.out; omega
  obtain ⟨r1, hr1⟩ : ∃ r, r = checkP FS mn := ⟨_, rfl⟩
  obtain ⟨r2, hr2⟩ : ∃ r, r = checkP US mu := ⟨_, rfl⟩
  have HC1 : Hid (∀ (w' : World) (a : Option Addr) (c : Nat), Below w.heap.size w w' -> Fus w' a c FS -> Calls Tryz.prog 10 #[.agg #[.slice a fn c, .int .i64 mn]] w' fun e w'' => e = .returned (.int .i64 r1) /\ Below w'.heap.size w' w'') := fun w' a c hb hf => check_any w' (HTB.out w' hb) a fn c FS HEF.out hf (by omega) (fewF_of HBF.out (HR1.out rfl).2) mn r1 hr1.symm
  have HC2 : Hid (∀ (w' : World) (a : Option Addr) (c : Nat), Below w.heap.size w w' -> Fus w' a c US -> Calls Tryz.prog 10 #[.agg #[.slice a fn c, .int .i64 mu]] w' fun e w'' => e = .returned (.int .i64 r2) /\ Below w'.heap.size w' w'') := fun w' a c hb hf => check_any w' (HTB.out w' hb) a fn c US HEG.out hf (by omega) (fewF_of HBG.out (HR2.out rfl).2) mu r2 hr2.symm
  have HD1 : Hid (∀ w' : World, Below w.heap.size w w' -> Calls Tryz.prog 11 #[.agg #[.slice fa fn fc, .int .i64 mn]] w' fun e w'' => e = .returned (.int .i64 r1) /\ Below w'.heap.size w' w'') := fun w' hb => by rw [hr1]; exact ref9_any w' (HF.out w' hb) HEF.out HBF.out (HR1.out rfl).2
  have HD2 : Hid (∀ w' : World, Below w.heap.size w w' -> Calls Tryz.prog 11 #[.agg #[.slice ga fn gc2, .int .i64 mu]] w' fun e w'' => e = .returned (.int .i64 r2) /\ Below w'.heap.size w' w'') := fun w' hb => by rw [hr2]; exact ref9_any w' (HG.out w' hb) HEG.out HBG.out (HR2.out rfl).2
  have HL1 : Hid _ := lent_any w3 (mn := mn) (HF.out w3 HW3.out) HEF.out (by omega) (few_of HBF.out)
  clear hr1 hr2
  go_wp2_with fail
  refine Calls.mono HL1.out ?_
  rintro e w4 ⟨fb, fc2, rfl, L4, k4, b4⟩
  obtain ⟨lb, hlb⟩ : ∃ lb, lb = w3.heap.size + 1 := ⟨_, rfl⟩
  rw [<- hlb] at k4 ⊢
  rw [<- HEF.out] at k4
  have hlb3 : W0.heap.size <= lb := by have := HB3.out.size; omega
  have hfb3 : W0.heap.size <= fb := by have := HB3.out.size; have := L4.lo; omega
  have HL4 : Hid (LM w4 w3.heap.size fb fc2 FS) := L4
  have HK4 : Hid (w4.heap[lb]? = some (.cells #[.slice (some ⟨fb, 0, none⟩) fn fc2, .int .i64 mn] 32 (0, 0))) := k4
  have HB4 : Hid (Below W0.heap.size W0 w4) := HB3.out.trans (b4.mono HB3.out.size)
  have HW4 : Hid (Below w.heap.size w w4) := HB0.out.trans (HB4.out.mono HB0.out.size)
  have hfc2 : fn <= fc2 := by have := L4.le; have := HEF.out; omega
  have hfc3 : fc2 <= 9223372036854775807 := L4.mx
  have l0 : w4.cell? ⟨lb, 0, none⟩ = some (.slice (some ⟨fb, 0, none⟩) fn fc2) := cell_arr k4 rfl
  have l1 : w4.cell? ⟨lb, 1, none⟩ = some (.int .i64 mn) := cell_arr k4 rfl
  have hl4 := (gl k4)
  clear L4 k4 b4 hlb HL1 HB3 HW3
  go_wp2_with fail
  refine (HC1.out w4 _ _ HW4.out HL4.out.fus).mono ?_
  rintro e w5 ⟨rfl, b5⟩
  have HL5 : Hid _ := HL4.out.below b5
  have HK5 : Hid (w5.heap[lb]? = some (.cells #[.slice (some ⟨fb, 0, none⟩) fn fc2, .int .i64 mn] 32 (0, 0))) := (b5.block lb hl4).trans HK4.out
  have HB5 : Hid (Below W0.heap.size W0 w5) := HB4.out.trans (b5.mono HB4.out.size)
  have HW5 : Hid (Below w.heap.size w w5) := HB0.out.trans (HB5.out.mono HB0.out.size)
  have l0 : w5.cell? ⟨lb, 0, none⟩ = some (.slice (some ⟨fb, 0, none⟩) fn fc2) := cell_arr HK5.out rfl
  have l1 : w5.cell? ⟨lb, 1, none⟩ = some (.int .i64 mn) := cell_arr HK5.out rfl
  have hl5 := (gl HK5.out)
  clear b5 HL4 HK4 HB4 HW4
  go_wp2_with fail
  refine (HC1.out w5 _ _ HW5.out HL5.out.fus).mono ?_
  rintro e w6 ⟨rfl, b6⟩
  have HL6 : Hid _ := HL5.out.below b6
  have HK6 : Hid (w6.heap[lb]? = some (.cells #[.slice (some ⟨fb, 0, none⟩) fn fc2, .int .i64 mn] 32 (0, 0))) := (b6.block lb hl5).trans HK5.out
  have HB6 : Hid (Below W0.heap.size W0 w6) := HB5.out.trans (b6.mono HB5.out.size)
  have HW6 : Hid (Below w.heap.size w w6) := HB0.out.trans (HB6.out.mono HB0.out.size)
  obtain ⟨⟨a0, a1⟩, a2, a3⟩ := HKS.out w6 HB6.out
  have HL2 : Hid _ := lent_any w6 (mn := mu) (HG.out w6 HW6.out) HEG.out (by omega) (few_of HBG.out)
  clear b6 HL5 HK5 HB5 HW5
  go_wp2_with fail
  refine Calls.mono HL2.out ?_
  rintro e w7 ⟨gb, gc, rfl, L7, k7, b7⟩
  obtain ⟨mb, hmb⟩ : ∃ mb, mb = w6.heap.size + 1 := ⟨_, rfl⟩
  rw [<- hmb] at k7 ⊢
  rw [<- HEG.out] at k7
  have hl6 := (gl HK6.out)
  have HMX : Hid (MX w w7 lb mb fb fc2 gb gc fn w6.heap.size mn mu US 0) := by
   have h6 := HL6.out
   have hfl := h6.lt
   obtain ⟨cs, hr, hs⟩ := h6.ty
   exact ⟨(b7.block lb hl6).trans HK6.out, k7, L7, ⟨cs, (b7.block fb hfl).trans hr, by rw [HEF.out]; exact hs⟩, fun j r hj => by omega, hfl, hl6, by omega, HW6.out.trans (b7.mono HW6.out.size)⟩
  have HB7 : Hid (Below W0.heap.size W0 w7) := HB6.out.trans (b7.mono HB6.out.size)
  have hgc : fn <= gc := by have := L7.le; have := HEG.out; omega
  have hgcm : gc <= 9223372036854775807 := L7.mx
  obtain ⟨Bm, hBm⟩ : ∃ B, B = w6.heap.size := ⟨_, rfl⟩
  rw [<- hBm] at HMX
  clear L7 k7 b7 hmb HL2 HL6 HK6 HB6 HW6 hl4 hl5 hl6 hBm
  go_wp2_with fail
  go_loopw [12] (fun v wr => ∃ i : Nat, i <= fn /\ v = .int .i64 i /\ Hid (MX w wr lb mb fb fc2 gb gc fn Bm mn mu US i) /\ Hid (Below W0.heap.size W0 wr)) (fun v _ => fn - (intOf v).toNat)
  case atStart => exact ⟨0, by omega, rfl, HMX, HB7⟩
  case round =>
   clear HMX HB7
   obtain ⟨i, hi, rfl, HM, HB⟩ := hrel
   have l0 : wr.cell? ⟨lb, 0, none⟩ = some (.slice (some ⟨fb, 0, none⟩) fn fc2) := cell_arr HM.out.lbox rfl
   have hll := (gl HM.out.lbox)
   by_cases hif : i < fn
   ·have hiu : i < US.length := by have := HEG.out; omega
    have m0 : wr.cell? ⟨mb, 0, none⟩ = some (.slice (some ⟨gb, 0, none⟩) fn gc) := cell_arr HM.out.mbox rfl
    have hml := (gl HM.out.mbox)
    obtain ⟨b9, o9, ka, kc, la, lc, ma, mc, e9, hg9, c0, c1, c2, c3, c4, _⟩ := HM.out.lm.fus.at hiu
    cases e9
    simp only [Nat.zero_add] at c0 c1 c2 c3 c4
    generalize US[i] = u at c0 c1 c2 c3 c4
    obtain ⟨s, P, r, V, B⟩ := u
    simp only at c0 c1 c2 c3 c4
    generalize P.length = pn at c1
    generalize V.length = vn at c3
    generalize B.length = bn at c4
    obtain ⟨cs, hr, hs⟩ := HM.out.row
    have hfl := (gl hr)
    have hq : ∀ q, q < 5 -> (wr.cell? ⟨fb, i * 5 + q, none⟩ = some (cs.getD (i * 5 + q) undef)) /\ wr.frozen? ⟨fb, i * 5 + q, none⟩ = false := fun q hq => ⟨cell_arr hr (by simp [Array.getD, show i * 5 + q < cs.size by omega]), fz_of hr⟩
    obtain ⟨q0, z0⟩ := hq 0 (by omega)
    obtain ⟨q1, z1⟩ := hq 1 (by omega)
    obtain ⟨q2, z2⟩ := hq 2 (by omega)
    obtain ⟨q3, z3⟩ := hq 3 (by omega)
    obtain ⟨q4, z4⟩ := hq 4 (by omega)
    rw [Nat.add_zero] at q0 z0
    generalize cs.getD (i * 5) undef = v0 at q0
    generalize cs.getD (i * 5 + 1) undef = v1 at q1
    generalize cs.getD (i * 5 + 2) undef = v2 at q2
    generalize cs.getD (i * 5 + 3) undef = v3 at q3
    generalize cs.getD (i * 5 + 4) undef = v4 at q4
    have HN : Hid _ := HM.out.next HEG.out hif (by omega) c0 c1 c2 c3 c4
    have HBN : Hid (Below W0.heap.size W0 (((((wr.setCell ⟨fb, i * 5, none⟩ (.string s)).setCell ⟨fb, i * 5 + 1, none⟩ (.slice ka pn kc)).setCell ⟨fb, i * 5 + 2, none⟩ (.int .i64 r)).setCell ⟨fb, i * 5 + 3, none⟩ (.slice la vn lc)).setCell ⟨fb, i * 5 + 4, none⟩ (.slice ma bn mc))) := ((((HB.out.setCell hfb3 _).setCell hfb3 _).setCell hfb3 _).setCell hfb3 _).setCell hfb3 _
    have S0 : (fun w' : World => w'.cell? ⟨lb, 0, none⟩ = some (.slice (some ⟨fb, 0, none⟩) fn fc2) /\ w'.cell? ⟨mb, 0, none⟩ = some (.slice (some ⟨gb, 0, none⟩) fn gc) /\ w'.cell? ⟨gb, i * 5, none⟩ = some (.string s) /\ w'.cell? ⟨gb, i * 5 + 1, none⟩ = some (.slice ka pn kc) /\ w'.cell? ⟨gb, i * 5 + 2, none⟩ = some (.int .i64 r) /\ w'.cell? ⟨gb, i * 5 + 3, none⟩ = some (.slice la vn lc) /\ w'.cell? ⟨gb, i * 5 + 4, none⟩ = some (.slice ma bn mc)) wr.drew := ⟨l0, m0, c0, c1, c2, c3, c4⟩
    have hlf : lb ≠ fb := blk_type HM.out.lbox hr (by decide)
    have hgf : gb ≠ fb := by have := HM.out.lm.lo; have := HM.out.fl; omega
    have hmf : mb ≠ fb := by have := HM.out.ml; have := HM.out.fl; omega
    obtain ⟨WN, hWN⟩ : ∃ W, W = ((((wr.setCell ⟨fb, i * 5, none⟩ (.string s)).setCell ⟨fb, i * 5 + 1, none⟩ (.slice ka pn kc)).setCell ⟨fb, i * 5 + 2, none⟩ (.int .i64 r)).setCell ⟨fb, i * 5 + 3, none⟩ (.slice la vn lc)).setCell ⟨fb, i * 5 + 4, none⟩ (.slice ma bn mc) := ⟨_, rfl⟩
    rw [<- hWN] at HN HBN
    have oth : ∀ k, k ≠ fb -> ∀ q, WN.cell? ⟨k, q, none⟩ = wr.cell? ⟨k, q, none⟩ := fun k hk q => by
     rw [hWN]
     exact World.cell?_of_block (w := wr) ((heap_set_other hk).trans ((heap_set_other hk).trans ((heap_set_other hk).trans ((heap_set_other hk).trans (heap_set_other hk)))))
    have SN : (fun w' : World => w'.cell? ⟨lb, 0, none⟩ = some (.slice (some ⟨fb, 0, none⟩) fn fc2) /\ w'.cell? ⟨mb, 0, none⟩ = some (.slice (some ⟨gb, 0, none⟩) fn gc) /\ w'.cell? ⟨gb, i * 5, none⟩ = some (.string s) /\ w'.cell? ⟨gb, i * 5 + 1, none⟩ = some (.slice ka pn kc) /\ w'.cell? ⟨gb, i * 5 + 2, none⟩ = some (.int .i64 r) /\ w'.cell? ⟨gb, i * 5 + 3, none⟩ = some (.slice la vn lc) /\ w'.cell? ⟨gb, i * 5 + 4, none⟩ = some (.slice ma bn mc)) WN.drew := ⟨(oth lb hlf _).trans l0, (oth mb hmf _).trans m0, (oth gb hgf _).trans c0, (oth gb hgf _).trans c1, (oth gb hgf _).trans c2, (oth gb hgf _).trans c3, (oth gb hgf _).trans c4⟩
    have HND : Hid (MX w WN.drew lb mb fb fc2 gb gc fn Bm mn mu US (i + 1)) := HN.out.drew
    have HBD : Hid (Below W0.heap.size W0 WN.drew) := HBN.out.drew
    have HWN : Hid _ := hWN
    clear hq hr hs oth hWN HN HBN hlf hgf hmf
    go_wp2_with fail
    refine led_start (S := fun w' : World => w'.cell? ⟨lb, 0, none⟩ = some (.slice (some ⟨fb, 0, none⟩) fn fc2) /\ w'.cell? ⟨mb, 0, none⟩ = some (.slice (some ⟨gb, 0, none⟩) fn gc) /\ w'.cell? ⟨gb, i * 5, none⟩ = some (.string s) /\ w'.cell? ⟨gb, i * 5 + 1, none⟩ = some (.slice ka pn kc) /\ w'.cell? ⟨gb, i * 5 + 2, none⟩ = some (.int .i64 r) /\ w'.cell? ⟨gb, i * 5 + 3, none⟩ = some (.slice la vn lc) /\ w'.cell? ⟨gb, i * 5 + 4, none⟩ = some (.slice ma bn mc)) (z := 100) (by kernel_rfl) ?_
    refine led_tF (i := 0) (v := ?v0) rfl (by kernel_rfl) (.inl ⟨by rfl, ?hy0⟩) S0 ?rest0
    case hy0 =>
     rintro w' ⟨h1, h2, h3, h4, h5, h6, h7⟩
     go_simp
     all_goals with_reducible rfl
    try simp only [Act.put, zi, zz, zs]
    refine led_tF (i := 1) (v := ?v1) rfl (by kernel_rfl) (.inl ⟨by rfl, ?hy1⟩) S0 ?rest1
    case hy1 =>
     rintro w' ⟨h1, h2, h3, h4, h5, h6, h7⟩
     go_simp
     all_goals with_reducible rfl
    try simp only [Act.put, zi, zz, zs]
    refine led_tF (i := 2) (v := ?v2) rfl (by kernel_rfl) (.inl ⟨by rfl, ?hy2⟩) S0 ?rest2
    case hy2 =>
     rintro w' ⟨h1, h2, h3, h4, h5, h6, h7⟩
     go_simp
     all_goals with_reducible rfl
    try simp only [Act.put, zi, zz, zs]
    refine led_tF (i := 3) (v := ?v3) rfl (by kernel_rfl) (.inl ⟨by rfl, ?hy3⟩) S0 ?rest3
    case hy3 =>
     rintro w' ⟨h1, h2, h3, h4, h5, h6, h7⟩
     go_simp
     all_goals with_reducible rfl
    try simp only [Act.put, zi, zz, zs]
    refine led_tF (i := 4) (v := ?v4) rfl (by kernel_rfl) (.inl ⟨by rfl, ?hy4⟩) S0 ?rest4
    case hy4 =>
     rintro w' ⟨h1, h2, h3, h4, h5, h6, h7⟩
     go_simp
     all_goals with_reducible rfl
    try simp only [Act.put, zi, zz, zs]
    refine led_tF (i := 5) (v := ?v5) rfl (by kernel_rfl) (.inl ⟨by rfl, ?hy5⟩) S0 ?rest5
    case hy5 =>
     rintro w' ⟨h1, h2, h3, h4, h5, h6, h7⟩
     go_simp
     all_goals with_reducible rfl
    try simp only [Act.put, zi, zz, zs]
    refine led_tF (i := 6) (v := ?v6) rfl (by kernel_rfl) (.inl ⟨by rfl, ?hy6⟩) S0 ?rest6
    case hy6 =>
     rintro w' ⟨h1, h2, h3, h4, h5, h6, h7⟩
     go_simp
     all_goals with_reducible rfl
    try simp only [Act.put, zi, zz, zs]
    refine led_tF (i := 7) (v := ?v7) rfl (by kernel_rfl) (.inl ⟨by rfl, ?hy7⟩) S0 ?rest7
    case hy7 =>
     rintro w' ⟨h1, h2, h3, h4, h5, h6, h7⟩
     go_simp
     all_goals with_reducible rfl
    try simp only [Act.put, zi, zz, zs]
    refine led_tF (i := 8) (v := ?v8) rfl (by kernel_rfl) (.inl ⟨by rfl, ?hy8⟩) S0 ?rest8
    case hy8 =>
     rintro w' ⟨h1, h2, h3, h4, h5, h6, h7⟩
     go_simp
     all_goals with_reducible rfl
    try simp only [Act.put, zi, zz, zs]
    refine led_tF (i := 9) (v := ?v9) rfl (by kernel_rfl) (.inl ⟨by rfl, ?hy9⟩) S0 ?rest9
    case hy9 =>
     rintro w' ⟨h1, h2, h3, h4, h5, h6, h7⟩
     go_simp
     all_goals with_reducible rfl
    try simp only [Act.put, zi, zz, zs]
    refine led_tF (i := 10) (v := ?v10) rfl (by kernel_rfl) (.inl ⟨by rfl, ?hy10⟩) S0 ?rest10
    case hy10 =>
     rintro w' ⟨h1, h2, h3, h4, h5, h6, h7⟩
     go_simp
     all_goals with_reducible rfl
    try simp only [Act.put, zi, zz, zs]
    refine led_tF (i := 11) (v := ?v11) rfl (by kernel_rfl) (.inl ⟨by rfl, ?hy11⟩) S0 ?rest11
    case hy11 =>
     rintro w' ⟨h1, h2, h3, h4, h5, h6, h7⟩
     go_simp
     all_goals with_reducible rfl
    try simp only [Act.put, zi, zz, zs]
    refine led_tF (i := 12) (v := ?v12) rfl (by kernel_rfl) (.inl ⟨by rfl, ?hy12⟩) S0 ?rest12
    case hy12 =>
     rintro w' ⟨h1, h2, h3, h4, h5, h6, h7⟩
     go_simp
     all_goals with_reducible rfl
    try simp only [Act.put, zi, zz, zs]
    refine led_tF (i := 13) (v := ?v13) rfl (by kernel_rfl) (.inl ⟨by rfl, ?hy13⟩) S0 ?rest13
    case hy13 =>
     rintro w' ⟨h1, h2, h3, h4, h5, h6, h7⟩
     go_simp
     all_goals with_reducible rfl
    try simp only [Act.put, zi, zz, zs]
    refine led_one (i := 14) rfl (by kernel_rfl) ?_
    intro K14 hK14
    rw [if_pos (by rfl)]
    go_simp
    refine hK14 _ _ (fun _ => S0) ?_
    clear hK14
    try simp only [Act.put, zi, zz, zs]
    refine led_one (i := 15) rfl (by kernel_rfl) ?_
    intro K15 hK15
    rw [if_pos (by rfl)]
    go_simp
    rw [<- HWN.out]
    refine hK15 _ _ (fun _ => SN) ?_
    clear hK15 S0 SN HWN q0 q1 q2 q3 q4 z0 z1 z2 z3 z4
    try simp only [Act.put, zi, zz, zs]
    refine led_done (by kernel_rfl) ?_
    go_wp2_with fail
    go_roundw
    case rel => exact ⟨i + 1, by omega, by go_num, HND, HBD⟩
    case measure => simp [intOf]; omega
   ·have HMF : Hid (MX w wr lb mb fb fc2 gb gc fn Bm mn mu US fn) := by have := HM.out; rw [show i = fn by omega] at this; exact this
    have l1 : wr.cell? ⟨lb, 1, none⟩ = some (.int .i64 mn) := cell_arr HM.out.lbox rfl
    have f1 : wr.frozen? ⟨lb, 1, none⟩ = false := fz_of HM.out.lbox
    obtain ⟨⟨a0, a1⟩, a2, a3⟩ := HKS.out wr HB.out
    have hwl : w.heap.size + 1 < wr.heap.size := by have := HB.out.size; omega
    obtain ⟨W9, hW9⟩ : ∃ W, W = wr.setCell ⟨lb, 1, none⟩ (.int .i64 mu) := ⟨_, rfl⟩
    have HM9 : Hid (MX w W9 lb mb fb fc2 gb gc fn Bm mu mu US fn) := by rw [hW9]; exact HMF.out.main (by omega) mu
    have HB9 : Hid (Below W0.heap.size W0 W9) := by rw [hW9]; exact HB.out.setCell hlb3 _
    have HW9 : Hid (Below w.heap.size w W9) := HB0.out.trans (HB9.out.mono HB0.out.size)
    have t0 : W9.cell? ⟨lb, 0, none⟩ = some (.slice (some ⟨fb, 0, none⟩) fn fc2) := cell_arr HM9.out.lbox rfl
    have t1 : W9.cell? ⟨lb, 1, none⟩ = some (.int .i64 mu) := cell_arr HM9.out.lbox rfl
    have HE9 : Hid _ := hW9
    clear HM HMF hW9
    go_upto_region 15 with fail
    rw [<- HE9.out]
    clear l0 l1 f1
    go_wp2_with fail
    refine (HC2.out W9 _ _ HW9.out (HM9.out.fus HEG.out hfc2 hfc3)).mono ?_
    rintro e w10 ⟨rfl, b10⟩
    have HB10 : Hid (Below W0.heap.size W0 w10) := HB9.out.trans (b10.mono HB9.out.size)
    have HW10 : Hid (Below w.heap.size w w10) := HB0.out.trans (HB10.out.mono HB0.out.size)
    obtain ⟨⟨a0, a1⟩, a2, a3⟩ := HKS.out w10 HB10.out
    clear b10 HM9 HB9 HW9
    have er1 : (r1 == r1) = true := by simp
    have er2 : (r2 == r2) = true := by simp
    go_wp2_with fail
    refine (HD1.out w10 HW10.out).mono ?_
    rintro e w11 ⟨rfl, b11⟩
    have HB11 : Hid (Below W0.heap.size W0 w11) := HB10.out.trans (b11.mono HB10.out.size)
    have HW11 : Hid (Below w.heap.size w w11) := HB0.out.trans (HB11.out.mono HB0.out.size)
    obtain ⟨⟨a0, a1⟩, a2, a3⟩ := HKS.out w11 HB11.out
    clear b11 HB10 HW10
    go_wp2_with fail
    refine (HD2.out w11 HW11.out).mono ?_
    rintro e w12 ⟨rfl, b12⟩
    have HW12 : Hid (Below w.heap.size w w12) := HW11.out.trans (b12.mono HW11.out.size)
    clear b12
    go_wp2_with fail
    go_ret
    exact ⟨rfl, HW12.out⟩
 ·have hfg2 : ¬ (fn : Int) = (gn2 : Int) := by omega
  go_wp2_with fail
  go_ret
  exact ⟨rfl, HW3.out⟩
end Go.Proofs.YtdbkjjelaipcfaaGreatDoor
