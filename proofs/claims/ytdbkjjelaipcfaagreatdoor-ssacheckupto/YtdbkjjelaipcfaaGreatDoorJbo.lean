import Derived.Test.YtdbkjjelaipcfaaGreatDoorJax
import Derived.Test.YtdbkjjelaipcfaaGreatDoorJbg
import Derived.Test.YtdbkjjelaipcfaaGreatDoorJbh
import Derived.Test.YtdbkjjelaipcfaaGreatDoorJbl
import Derived.Test.YtdbkjjelaipcfaaGreatDoorJbn
set_option linter.unusedVariables false
set_option linter.unusedSimpArgs false
namespace Go.Proofs.YtdbkjjelaipcfaaGreatDoor
open Go.ChangeShapes Go.WideShapes Go.ChangeAt Go.RowKit Go.Maps
theorem LM.only {w w' : World} {B b c FS} (h : LM w B b c FS) (hk : ∀ k, B <= k -> k < w.heap.size -> w'.heap[k]? = w.heap[k]?) : LM w' B b c FS := by
 have hv := hk b h.lo h.lt
 have hc : ∀ q, w'.cell? ⟨b, q, none⟩ = w.cell? ⟨b, q, none⟩ := fun q => World.cell?_of_block (w := w) hv
 obtain ⟨xs, hl, hE, hx⟩ := h.row
 obtain ⟨cs, e, hs⟩ := h.ty
 exact ⟨h.lo, h.le, h.mx, ⟨xs, hl, fun i hi hi' => (hE i hi hi').move fun b cs t hb e _ => hk b hb (gl e), fun i hi r u hr hu => (hc _).trans (hx i hi r u hr hu)⟩, ⟨cs, hv.trans e, hs⟩, (hc _).trans h.mark⟩
structure MX (w wr : World) (lb mb fb fc2 gb gc n Bm : Nat) (m1 m2 : Int) (US : List Fu) (i : Nat) : Prop where
 lbox : wr.heap[lb]? = some (.cells #[.slice (some ⟨fb, 0, none⟩) n fc2, .int .i64 m1] 32 (0, 0))
 mbox : wr.heap[mb]? = some (.cells #[.slice (some ⟨gb, 0, none⟩) n gc, .int .i64 m2] 32 (0, 0))
 lm : LM wr Bm gb gc US
 row : ∃ cs, wr.heap[fb]? = some (.cells cs 38 (0, 0)) /\ (n + 1) * 5 <= cs.size
 cp : ∀ j r, j < i -> r < 5 -> wr.cell? ⟨fb, j * 5 + r, none⟩ = wr.cell? ⟨gb, j * 5 + r, none⟩
 fl : fb < Bm
 ll : lb < Bm
 ml : Bm <= mb
 bel : Below w.heap.size w wr
theorem MX.next {w wr : World} {lb mb fb fc2 gb gc n Bm m1 m2 US i} (h : MX w wr lb mb fb fc2 gb gc n Bm m1 m2 US i) (hn : n = US.length) (hi : i < n) (hlo : w.heap.size <= fb) {y0 y1 y2 y3 y4 : Value} (e0 : wr.cell? ⟨gb, i * 5, none⟩ = some y0) (e1 : wr.cell? ⟨gb, i * 5 + 1, none⟩ = some y1) (e2 : wr.cell? ⟨gb, i * 5 + 2, none⟩ = some y2) (e3 : wr.cell? ⟨gb, i * 5 + 3, none⟩ = some y3) (e4 : wr.cell? ⟨gb, i * 5 + 4, none⟩ = some y4) :
 MX w (((((wr.setCell ⟨fb, i * 5, none⟩ y0).setCell ⟨fb, i * 5 + 1, none⟩ y1).setCell ⟨fb, i * 5 + 2, none⟩ y2).setCell ⟨fb, i * 5 + 3, none⟩ y3).setCell ⟨fb, i * 5 + 4, none⟩ y4) lb mb fb fc2 gb gc n Bm m1 m2 US (i + 1) := by
 obtain ⟨cs, hr, hs⟩ := h.row
 have hlb : lb ≠ fb := blk_type h.lbox hr (by decide)
 have hgb : gb ≠ fb := by have := h.lm.lo; have := h.fl; omega
 have oth : ∀ k, k ≠ fb -> (((((wr.setCell ⟨fb, i * 5, none⟩ y0).setCell ⟨fb, i * 5 + 1, none⟩ y1).setCell ⟨fb, i * 5 + 2, none⟩ y2).setCell ⟨fb, i * 5 + 3, none⟩ y3).setCell ⟨fb, i * 5 + 4, none⟩ y4).heap[k]? = wr.heap[k]? := fun k hk => by
  rw [heap_set_other hk, heap_set_other hk, heap_set_other hk, heap_set_other hk, heap_set_other hk]
 have s0 := heap_set_at (i := i * 5) (v := y0) hr
 have s1 := heap_set_at (i := i * 5 + 1) (v := y1) s0
 have s2 := heap_set_at (i := i * 5 + 2) (v := y2) s1
 have s3 := heap_set_at (i := i * 5 + 3) (v := y3) s2
 have s4 := heap_set_at (i := i * 5 + 4) (v := y4) s3
 have hsz : i * 5 + 5 <= cs.size := by omega
 have gcell : ∀ q, (((((wr.setCell ⟨fb, i * 5, none⟩ y0).setCell ⟨fb, i * 5 + 1, none⟩ y1).setCell ⟨fb, i * 5 + 2, none⟩ y2).setCell ⟨fb, i * 5 + 3, none⟩ y3).setCell ⟨fb, i * 5 + 4, none⟩ y4).cell? ⟨gb, q, none⟩ = wr.cell? ⟨gb, q, none⟩ := fun q => World.cell?_of_block (w := wr) (oth gb hgb)
 refine ⟨(oth lb hlb).trans h.lbox, (oth mb (by have := h.fl; have := h.ml; omega)).trans h.mbox, h.lm.only fun k hk _ => oth k (by have := h.fl; omega), ⟨_, s4, by simpa using hs⟩, fun j r hj hr' => ?_, h.fl, h.ll, h.ml, ((((h.bel.setCell hlo _).setCell hlo _).setCell hlo _).setCell hlo _).setCell hlo _⟩
 rw [gcell]
 by_cases e : j = i
 ·subst e
  have hc : ∀ u, (((((cs.setIfInBounds (j * 5) y0).setIfInBounds (j * 5 + 1) y1).setIfInBounds (j * 5 + 2) y2).setIfInBounds (j * 5 + 3) y3).setIfInBounds (j * 5 + 4) y4)[j * 5 + r]? = some u -> (((((wr.setCell ⟨fb, j * 5, none⟩ y0).setCell ⟨fb, j * 5 + 1, none⟩ y1).setCell ⟨fb, j * 5 + 2, none⟩ y2).setCell ⟨fb, j * 5 + 3, none⟩ y3).setCell ⟨fb, j * 5 + 4, none⟩ y4).cell? ⟨fb, j * 5 + r, none⟩ = some u := fun u hu => cell_arr s4 hu
  have hr5 : r = 0 \/ r = 1 \/ r = 2 \/ r = 3 \/ r = 4 := by omega
  rcases hr5 with rfl | rfl | rfl | rfl | rfl
  ·have hh := hc y0 (by simp [Array.getElem?_setIfInBounds]; omega)
   show _ = wr.cell? ⟨gb, j * 5, none⟩
   rw [e0]; exact hh
  ·rw [e1]; exact hc _ (by simp [Array.getElem?_setIfInBounds]; omega)
  ·rw [e2]; exact hc _ (by simp [Array.getElem?_setIfInBounds]; omega)
  ·rw [e3]; exact hc _ (by simp [Array.getElem?_setIfInBounds]; omega)
  ·rw [e4]; exact hc _ (by simp [Array.getElem?_setIfInBounds]; omega)
 ·rw [<- h.cp j r (by omega) hr']
  simp only [World.cell?, s4, hr]
  rw [Array.getElem?_setIfInBounds_ne (by omega), Array.getElem?_setIfInBounds_ne (by omega), Array.getElem?_setIfInBounds_ne (by omega), Array.getElem?_setIfInBounds_ne (by omega), Array.getElem?_setIfInBounds_ne (by omega)]
theorem MX.drew {w wr : World} {lb mb fb fc2 gb gc n Bm m1 m2 US i} (h : MX w wr lb mb fb fc2 gb gc n Bm m1 m2 US i) : MX w wr.drew lb mb fb fc2 gb gc n Bm m1 m2 US i := by
 obtain ⟨cs, hr, hs⟩ := h.row
 exact ⟨h.lbox, h.mbox, h.lm.only fun k _ _ => rfl, ⟨cs, hr, hs⟩, fun j r hj hr' => h.cp j r hj hr', h.fl, h.ll, h.ml, h.bel.drew⟩
theorem MX.fus {w wr : World} {lb mb fb fc2 gb gc n Bm m1 m2 US} (h : MX w wr lb mb fb fc2 gb gc n Bm m1 m2 US n) (hn : n = US.length) (hc : n <= fc2) (hm : fc2 <= 9223372036854775807) : Fus wr (some ⟨fb, 0, none⟩) fc2 US := by
 obtain ⟨cs, hr, _⟩ := h.row
 refine ⟨by omega, hm, fun _ => ⟨fb, 0, rfl, (gl hr), fun i hi => ?_⟩⟩
 obtain ⟨b, o, e, _, hA⟩ := h.lm.fus.out (by intro q; rw [q] at hi; simp at hi)
 cases e
 obtain ⟨ka, kc, la, lc, ma, mc, c0, c1, c2, c3, c4, h1, h2, h3⟩ := (hA i hi).out
 simp only [Nat.zero_add] at c0 c1 c2 c3 c4
 have f := fun r hr => h.cp i r (by omega) hr
 refine ⟨ka, kc, la, lc, ma, mc, ?_, ?_, ?_, ?_, ?_, h1, h2, h3⟩
 ·have := f 0 (by omega); simp only [Nat.add_zero, Nat.zero_add] at this ⊢; rw [this]; exact c0
 ·have := f 1 (by omega); simp only [Nat.zero_add]; rw [this]; exact c1
 ·have := f 2 (by omega); simp only [Nat.zero_add]; rw [this]; exact c2
 ·have := f 3 (by omega); simp only [Nat.zero_add]; rw [this]; exact c3
 ·have := f 4 (by omega); simp only [Nat.zero_add]; rw [this]; exact c4
theorem sum_len {g : Bk -> Nat} (h : ∀ b, b.phis.length + b.body.length <= g b) : ∀ l : List Bk, (l.map fun b => b.phis.length + b.body.length).sum <= (l.map g).sum
 | [] => by simp
 | b :: l => by have := sum_len h l; have := h b; simp; omega
theorem few_of {FS : List Fu} (hb : szS FS <= 1048576) : ∀ f ∈ FS, Few9 f := fun f hf => by
 have h1 := szF_le hf hb
 obtain ⟨a, b, c, d⟩ := szF_len h1
 refine ⟨by omega, by omega, fun v hv => by have := szV_le hv h1; omega, by omega, fun b hb2 => ?_⟩
 have := szB_le hb2 h1
 omega
theorem fewF_of {FS : List Fu} (hb : szS FS <= 1048576) (h2 : ∀ f ∈ FS, f.blks.length <= 2000) : ∀ f ∈ FS, FewF f := fun f hf => by
 have h1 := szF_le hf hb
 obtain ⟨a, b, c, d⟩ := szF_len h1
 refine ⟨by have := h2 f hf; omega, ?_⟩
 unfold totK
 rw [List.take_length]
 have h3 := sum_len (g := szB) (fun b => by have e : szB b = b.phis.length + b.body.length + b.ways.length + b.preds.length + 1 := rfl; omega) f.blks
 unfold szF at h1
 omega
theorem ref9_any (w : World) {fa : Option Addr} {fn fc : Nat} {mn : Int} {FS : List Fu} (hF : Fus w fa fc FS) (ef : fn = FS.length) (hb : szS FS <= 1048576) (h2 : ∀ f ∈ FS, f.blks.length <= 2000) :
 Calls Tryz.prog 11 #[.agg #[.slice fa fn fc, .int .i64 mn]] w fun e w' => e = .returned (.int .i64 (checkP FS mn)) /\ Below w.heap.size w w' := by
 have hfw := fewF_of hb h2
 refine rCheck9_any w hF ef (fun f hf => ?_) hfw fun hfm f hf => ⟨fun w' fa' fn' fc' s pa pn pc r va vn vc ba bn bc X h3 h4 h5 => ?_⟩
 ·obtain ⟨a, _⟩ := szF_len (szF_le hf hb)
  show f.name.data.toList.length <= _
  rw [Array.length_toList]
  have : f.name.data.size = f.name.size := rfl
  omega
 ·exact rUses_any w' X (hfm f hf) (by have := X.eb; have := h2 f hf; omega) (hfw f hf).tot h3 h4 h5
set_option maxRecDepth 100000 in
set_option maxHeartbeats 2000000 in
theorem kept_any (w : World) {B : Nat} {xa la : Option Addr} {xc lc n : Nat} {L : List Int} (hX : IM w B xa xc L) (hL : Ints w la lc L) (hn : n = L.length) :
 Calls Tryz.prog 22 #[.slice xa n xc, .slice la n lc] w fun e w' => e = .returned (.bool true) /\ ∃ m, w' = w.drewN m := by
 obtain ⟨b, cs, rfl, _, _⟩ := hX.ty
 have hxc : n + 2 <= xc := by have := hX.out.le; simp at this; omega
 have hxm : xc <= 9223372036854775807 := hX.out.mx
 have hxi : ((n : Int) + 2) <= (xc : Int) := by omega
 have HX : Hid (IM w B (some ⟨b, 0, none⟩) xc L) := hX
 have HL : Hid (Ints w la lc L) := hL
 have HN : Hid (n = L.length) := hn
 have HAt : Hid (∀ i (h : i < (L ++ [-71, -72]).length), w.cell? ⟨b, i, none⟩ = some (.int .i64 (L ++ [-71, -72])[i])) := fun i h => by
  obtain ⟨b', o, e, hA⟩ := HX.out.out.out (by simp)
  cases e
  have := hA.cell i h
  simpa using this
 clear hX hL hn
 go_enter Tryz.func22, Tryz.ntmps22
 go_wp2_with fail
 go_loopg [6] n (fun q v wr => ∃ j : Nat, j <= n /\ q = n - j /\ v = .int .i64 j /\ Hid (∃ m, wr = w.drewN m))
 case atStart => exact ⟨0, by omega, by omega, rfl, 0, rfl⟩
 case round =>
  obtain ⟨j, hj, rfl, rfl, HB⟩ := hrel
  have hb : Below w.heap.size w wr := by obtain ⟨m, e⟩ := HB.out; rw [e]; exact below_drewN (Below.refl _ _) m
  have hbl : ∀ q v, w.cell? ⟨b, q, none⟩ = some v -> wr.cell? ⟨b, q, none⟩ = some v := fun q v h => (hb.cell (p := ⟨b, q, none⟩) (block_lt_of_cell h)).trans h
  by_cases hlt : j < n
  ·have hj1 : j < L.length := by have := HN.out; omega
   obtain ⟨g2, o2, rfl, k2⟩ := (HL.out.below hb (Nat.le_refl _)).at hj1
   have k1 := hbl _ _ (HAt.out j (by simp; omega))
   rw [List.getElem_append_left hj1] at k1
   generalize L[j] = x at k1 k2
   have HNX : Hid (∀ q, ∃ m, wr.drewN q = w.drewN m) := fun q => by
    obtain ⟨m, e⟩ := HB.out
    exact ⟨m + q, by rw [e]; simp⟩
   clear hb hbl
   go_wp2_with fail
   go_quiet (fail)
   go_wp2_with fail
   go_roundg (n - (j + 1))
   case rel => exact ⟨j + 1, by omega, rfl, by go_num, HNX.out _⟩
   case measure => omega
  ·have hnl := HN.out
   have k1 := hbl _ _ (HAt.out n (by simp; omega))
   have k2 := hbl _ _ (HAt.out (n + 1) (by simp; omega))
   have e1 : (L ++ [-71, -72])[n]'(by simp; omega) = (-71 : Int) := by simp [hnl]
   have e2 : (L ++ [-71, -72])[n + 1]'(by simp; omega) = (-72 : Int) := by simp [hnl]
   rw [e1] at k1
   rw [e2] at k2
   clear hb hbl e1 e2 hnl
   go_wp2_with fail
   go_ret
   exact ⟨rfl, HB.out⟩
end Go.Proofs.YtdbkjjelaipcfaaGreatDoor
