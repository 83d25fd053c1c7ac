import Derived.Test.YtdbkjjelaipcfaaDoorLsN
set_option linter.unusedVariables false
set_option linter.unusedSimpArgs false
namespace Go.Proofs.YtdbkjjelaipcfaaDoor
open Go.ChangeShapes Go.WideShapes Go.ChangeAt Go.RowKit Go.Maps

/-- The tree of dominators of blocks all of which are reached. -/
theorem tree_ok {Ls : List (List Int)} (hg : goodP Ls = true) (hall : ∀ i : Nat, i < Ls.length → (i : Int) ∈ (walkP Ls).bl) : TreeOK (treeP Ls) (Dm Ls) (fun x => (plc (walkP Ls).bl x).toNat) := by
  have hl := treeP_len hg
  have hp := goodP_pos hg
  have hI : ∀ i : Nat, 0 < i → i < Ls.length → IsD Ls (gn (treeP Ls) i) i := fun i h0 hi => treeP_some hg (hall i hi) (by omega)
  refine ⟨by rw [hl]; exact hp, treeP_none hg hp (.inr rfl), fun i h0 hi => ?_, fun i h0 hi => ?_, fun a c ha hc => ?_⟩
  · rw [hl] at hi ⊢
    exact (walkP_wi hg).rng _ (hI i h0 hi).ov.1
  · rw [hl] at hi
    have h := hI i h0 hi
    have h1 := h.ov.place hg
    have h2 := plc_lt h.ov.1
    have h3 := plc_lt (hall i hi)
    have : plc (walkP Ls).bl (gn (treeP Ls) i) ≠ plc (walkP Ls).bl i := fun q => h.ne (by rw [← h2.2.2, q, h3.2.2])
    omega
  · rw [hl] at ha hc
    constructor
    · intro h
      by_cases e : a = c
      · exact .inl e
      · have h0 : c ≠ 0 := by
          intro q
          subst q
          exact h.2.2 (woP_spec hg (out := (a : Int)) (by omega)).1
        exact .inr ⟨h0, (hI c (by omega) hc).near a h (by omega)⟩
    · rintro (e | ⟨h0, h⟩)
      · subst e; exact Dm.refl hg (hall a ha)
      · exact h.trans hg (hI c (by omega) hc).ov
theorem reached_all {f : Fu} (h : reachedP f = true) (h0 : 0 < f.blks.length) (hg : goodP (waysP f) = true) : ∀ i : Nat, i < (waysP f).length → (i : Int) ∈ (walkP (waysP f)).bl := by
  intro i hi
  unfold reachedP reachP at h
  rw [if_pos hg, List.all_eq_true] at h
  have := h (decide ((i : Int) ∈ (walkP (waysP f)).bl)) (by
    unfold rch
    exact List.mem_map.2 ⟨i, List.mem_range.2 hi, rfl⟩)
  simpa using this
end Go.Proofs.YtdbkjjelaipcfaaDoor
namespace Go.Proofs.YtdbkjjelaipcfaaDoor
open Go.ChangeShapes Go.WideShapes Go.ChangeAt Go.RowKit Go.Maps

theorem blockP_ways {f : Fu} {b : Bk} (h : blockP f b = true) : b.ways.length ≤ 2 ∧ ∀ x ∈ b.ways, wi f.blks.length x = true := by
  simp only [blockP, termP, Bool.and_eq_true, List.all_eq_true, decide_eq_true_eq] at h
  refine ⟨?_, h.2.2.2.2.2.1⟩
  rw [h.2.2.2.2.1]
  unfold tcount
  split <;> (try split) <;> omega
theorem waysP_len (f : Fu) : (waysP f).length = f.blks.length := by simp [waysP]
theorem ways_good {f : Fu} {FS : List Fu} (h : formP FS f = true) : goodP (waysP f) = true := by
  obtain ⟨h0, hb⟩ := formP_blocks h
  simp only [goodP, Bool.and_eq_true, List.all_eq_true, decide_eq_true_eq, waysP_len]
  refine ⟨h0, fun l hl x hx => ?_⟩
  obtain ⟨b, hb1, rfl⟩ := List.mem_map.1 hl
  have := (blockP_ways (hb b hb1)).2 x hx
  simpa [wi] using this
theorem ways_two {f : Fu} {FS : List Fu} (h : formP FS f = true) : ∀ l ∈ waysP f, l.length ≤ 2 := by
  intro l hl
  obtain ⟨b, hb1, rfl⟩ := List.mem_map.1 hl
  exact (blockP_ways ((formP_blocks h).2 b hb1)).1
/-- Who leads to each block. -/
def frIn (k : Nat) (row : List Int) (S : List (List Int)) : List (List Int) := row.foldl (fun S x => S.set x.toNat (S.getD x.toNat [] ++ [(k : Int)])) S
def frN (n : Nat) (Ls : List (List Int)) : Nat → List (List Int)
  | 0 => List.replicate n []
  | k + 1 => frIn k (Ls.getD k []) (frN n Ls k)
def frP (f : Fu) : List (List Int) := frN f.blks.length (waysP f) f.blks.length
def predsP (f : Fu) : Bool := decide (((frP f).getD 0 []).length = 0) && evr (fun b k => decide (k.preds = (frP f).getD b [])) 0 f.blks
theorem frIn_take (k : Nat) (row : List Int) (S : List (List Int)) {j : Nat} (hj : j < row.length) : frIn k (row.take (j + 1)) S = (frIn k (row.take j) S).set row[j].toNat ((frIn k (row.take j) S).getD row[j].toNat [] ++ [(k : Int)]) := by
  rw [← List.take_append_getElem hj, frIn, List.foldl_append]
  rfl
theorem ret_bl {a b : Bool} (h : a = b) : Ending.returned (.bool a) = .returned (.bool b) := by rw [h]
theorem take_succ_eqI {L1 L2 : List Int} {j : Nat} (h1 : j < L1.length) (h2 : j < L2.length) (h : L1.take j = L2.take j) (e : L1[j] = L2[j]) : L1.take (j + 1) = L2.take (j + 1) := by
  rw [List.take_add_one, List.take_add_one, h]; simp [h1, h2, e]
set_option maxHeartbeats 1000000 in
theorem equal_any (w : World) (a1 a2 : Option Addr) (c1 c2 n1 n2 : Nat) (L1 L2 : List Int) (hn1 : n1 = L1.length) (hn2 : n2 = L2.length) (h1 : Ints w a1 c1 L1) (h2 : Ints w a2 c2 L2) :
    Calls Tryd.prog 33 #[.slice a1 n1 c1, .slice a2 n2 c2] w fun e w' => e = .returned (.bool (decide (L1 = L2))) ∧ ∃ m, w' = w.drewN m := by
  have b1 : n1 ≤ 9223372036854775807 := by have := h1.le; have := h1.mx; omega
  have b2 : n2 ≤ 9223372036854775807 := by have := h2.le; have := h2.mx; omega
  have HN1 : Hid (n1 = L1.length) := hn1
  have HN2 : Hid (n2 = L2.length) := hn2
  clear hn1 hn2
  obtain ⟨R, hR⟩ : ∃ R, R = decide (L1 = L2) := ⟨_, rfl⟩
  rw [← hR]
  have HR : Hid (R = decide (L1 = L2)) := hR
  clear hR
  by_cases hne : n1 = n2
  · subst hne
    go_enter Tryd.func33, Tryd.ntmps33
    go_wp2
    go_loopw [13] (fun v wr => ∃ j q : Nat, j ≤ n1 ∧ v = .int .i64 j ∧ wr = w.drewN q ∧ Hid (L1.take j = L2.take j)) (fun v _ => n1 - (intOf v).toNat)
    case atStart => exact ⟨0, 0, by omega, rfl, rfl, rfl⟩
    case round =>
      obtain ⟨j, q, hj, rfl, rfl, HT⟩ := hrel
      by_cases hlt : j < n1
      · obtain ⟨g1, o1, rfl, k1⟩ := h1.out (by intro e; have := HN1.out; simp [e] at this; omega)
        obtain ⟨g2, o2, rfl, k2⟩ := h2.out (by intro e; have := HN2.out; simp [e] at this; omega)
        have p1 := k1.cell j (HN1.out ▸ hlt)
        have p2 := k2.cell j (HN2.out ▸ hlt)
        obtain ⟨x1, hx1⟩ : ∃ x, x = L1[j]'(HN1.out ▸ hlt) := ⟨_, rfl⟩
        obtain ⟨x2, hx2⟩ : ∃ x, x = L2[j]'(HN2.out ▸ hlt) := ⟨_, rfl⟩
        rw [← hx1] at p1
        rw [← hx2] at p2
        have HX1 : Hid (x1 = L1[j]'(HN1.out ▸ hlt)) := hx1
        have HX2 : Hid (x2 = L2[j]'(HN2.out ▸ hlt)) := hx2
        clear hx1 hx2 k1 k2
        by_cases hx : x1 = x2
        · have HTT : Hid (L1.take (j + 1) = L2.take (j + 1)) := take_succ_eqI (HN1.out ▸ hlt) (HN2.out ▸ hlt) HT.out (by rw [← HX1.out, ← HX2.out, hx])
          clear HX1 HX2
          subst hx
          go_wp2
          go_quiet (fail)
          go_wp2
          go_roundw
          case rel => exact ⟨j + 1, _, by omega, by go_num, rfl, HTT⟩
          case measure => simp [intOf]; omega
        · have HF : Hid (R = false) := by
            have hne : L1 ≠ L2 := fun e => by subst e; exact hx (by rw [HX1.out, HX2.out])
            show R = false
            rw [HR.out]; simp [hne]
          clear HX1 HX2
          go_wp2
          go_quiet (fail)
          go_wp2
          go_ret
          exact ⟨ret_bl HF.out.symm, _, World.drewN_drewN _ _ _⟩
      · have hj2 : j = n1 := by omega
        subst hj2
        have HF : Hid (R = true) := by
          have h := HT.out
          rw [List.take_of_length_le (by have := HN1.out; omega), List.take_of_length_le (by have := HN2.out; omega)] at h
          show R = true
          rw [HR.out]; simp [h]
        go_wp2
        go_ret
        exact ⟨ret_bl HF.out.symm, _, rfl⟩
  · have HF : Hid (R = false) := by
      have hne : L1 ≠ L2 := fun e => hne (by rw [HN1.out, HN2.out, e])
      show R = false
      rw [HR.out]; simp [hne]
    go_enter Tryd.func33, Tryd.ntmps33
    go_wp2
    go_ret
    exact ⟨ret_bl HF.out.symm, 0, rfl⟩
end Go.Proofs.YtdbkjjelaipcfaaDoor
namespace Go.Proofs.YtdbkjjelaipcfaaDoor
open Go.ChangeShapes Go.WideShapes Go.ChangeAt Go.RowKit Go.Maps

/-- All that predsFit keeps: the rows, their box, where blocks lead. -/
structure PF (w wr : World) (A : Array Value) (B gt n : Nat) (vs : List Value) (S : List (List Int)) (Ls : List (List Int)) : Prop where
  fo : wr.heap[B]? = some (.cells A 47 (0, 0))
  fa : FA wr B (B + 1) n vs S
  box : wr.heap[B + 2]? = some (.cells #[.slice (some ⟨B + 1, 0, none⟩) n n] 60 (0, 0))
  tr : TR w wr gt n n Ls
  low : Below B w wr
  gt : B + 2 < gt
theorem PF.put {w wr w6 : World} {A B gt n vs S Ls} (h : PF w wr A B gt n vs S Ls) {p : Nat} (hp : p < n) {v6 : Value} {x : Int} (h6 : OwnI w6 B v6 ((S.getD p []).length + 1) (S.getD p [] ++ [x])) (g6 : GI B wr w6 (vs.getD p vn0) v6) :
    PF w (w6.setCell ⟨B + 1, p, none⟩ v6) A B gt n (vs.set p v6) (S.set p (S.getD p [] ++ [x])) Ls ∧ w6.heap[B + 1]? = some (.cells vs.toArray 23 (0, 0)) ∧ w6.heap[B + 2]? = some (.cells #[.slice (some ⟨B + 1, 0, none⟩) n n] 60 (0, 0)) := by
  have o1 := (g6.blk (B + 1) (Array.getElem?_eq_some_iff.1 h.fa.out).1 (h.fa.go_ne hp)).trans h.fa.out
  have o2 := (g6.blk (B + 2) (Array.getElem?_eq_some_iff.1 h.box).1 (own_not (h.fa.own p hp).out h.box (by decide))).trans h.box
  have o0 := (g6.blk B (Array.getElem?_eq_some_iff.1 h.fo).1 (own_not (h.fa.own p hp).out h.fo (by decide))).trans h.fo
  obtain ⟨vt, t1, t2, t3⟩ := h.tr.out
  have o3 := (g6.blk gt (Array.getElem?_eq_some_iff.1 t1).1 (own_not (h.fa.own p hp).out t1 (by decide))).trans t1
  have hgt := h.gt
  refine ⟨⟨(heap_set_other (by omega)).trans o0, h.fa.app hp h6 g6, (heap_set_other (by omega)).trans o2, ⟨vt, (heap_set_other (by omega)).trans o3, t2, t3⟩, (h.low.trans g6.bel).setCell (by show B ≤ B + 1; omega) _, hgt⟩, o1, o2⟩
theorem PF.alloc {w wr : World} {A B gt n vs S Ls} (h : PF w wr A B gt n vs S Ls) (hB : B ≤ wr.heap.size) (X : Obj) : PF w (wr.alloc X) A B gt n vs S Ls :=
  ⟨by rw [heap_alloc_old _ _ (Array.getElem?_eq_some_iff.1 h.fo).1]; exact h.fo, h.fa.move ((Below.refl _ _).alloc (Nat.le_refl _) _), by rw [heap_alloc_old _ _ (Array.getElem?_eq_some_iff.1 h.box).1]; exact h.box, h.tr.alloc X, h.low.alloc hB _, h.gt⟩
theorem PF.drew {w wr : World} {A B gt n vs S Ls} (h : PF w wr A B gt n vs S Ls) : PF w wr.drew A B gt n vs S Ls := by
  have hb : Below wr.heap.size wr wr.drew := (Below.refl _ _).drew
  obtain ⟨vt, t1, t2, t3⟩ := h.tr.out
  exact ⟨(hb.block _ (Array.getElem?_eq_some_iff.1 h.fo).1).trans h.fo, h.fa.move hb, (hb.block _ (Array.getElem?_eq_some_iff.1 h.box).1).trans h.box, ⟨vt, (hb.block _ (Array.getElem?_eq_some_iff.1 t1).1).trans t1, t2, t3⟩, h.low.trans (hb.mono (by have := (Array.getElem?_eq_some_iff.1 h.box).1; omega)), h.gt⟩
theorem opens_pr : Opens 32 := Opens.of Tryd.func32 (by kernel_rfl) rfl
theorem preds1_any (w : World) (gb ao n : Nat) (S : List (List Int)) (hS : IRow w (some ⟨ao, 0, none⟩) n S) (hn : n = S.length) (hbx : w.heap[gb]? = some (.cells #[.slice (some ⟨ao, 0, none⟩) n n] 60 (0, 0))) (i : Nat) (hi : i < n) (ka : Option Addr) (kl kc : Nat) (la : Option Addr) (ll lc : Nat) (kd vl : Int) (ma : Option Addr) (ml mc : Nat) (na : Option Addr) (nl nc : Nat) (N : List Int) (e4 : nl = N.length) (h4 : Ints w na nc N) :
    Calls Tryd.prog 32 #[.int .i64 i, .agg #[.slice ka kl kc, .slice la ll lc, .int .i64 kd, .int .i64 vl, .slice ma ml mc, .slice na nl nc], .pointer (some ⟨gb, 0, none⟩)] w fun e w' => e = .returned (.bool (decide (N = S.getD i []))) ∧ Below w.heap.size w w' := by
  have hlg := (Array.getElem?_eq_some_iff.1 hbx).1
  have A0 : Af1 w (.cells #[.slice ka kl kc, .slice la ll lc, .int .i64 kd, .int .i64 vl, .slice ma ml mc, .slice na nl nc] 33) (w.alloc (.cells #[.slice ka kl kc, .slice la ll lc, .int .i64 kd, .int .i64 vl, .slice ma ml mc, .slice na nl nc] 33)) := Af1.refl _ _
  have c0 : (w.alloc (.cells #[.slice ka kl kc, .slice la ll lc, .int .i64 kd, .int .i64 vl, .slice ma ml mc, .slice na nl nc] 33)).cell? ⟨gb, 0, none⟩ = some (.slice (some ⟨ao, 0, none⟩) n n) := cell_arr ((A0.low.block _ hlg).trans hbx) rfl
  have hS' := hS.below A0.low (Nat.le_refl _)
  obtain ⟨b1, o1, xa, xc, e1, k1, hX⟩ := hS'.at (show i < S.length by omega)
  cases e1
  rw [Nat.zero_add] at k1
  have eS : S.getD i [] = S[i] := by simp [show i < S.length by omega]
  rw [eS]
  have hnx : n ≤ 9223372036854775807 := hS.mx
  have HE : Hid (∀ q, Calls Tryd.prog 33 #[.slice na nl nc, .slice xa S[i].length xc] ((w.alloc (.cells #[.slice ka kl kc, .slice la ll lc, .int .i64 kd, .int .i64 vl, .slice ma ml mc, .slice na nl nc] 33)).drewN q) fun e w' => e = .returned (.bool (decide (N = S[i]))) ∧ ∃ m, w' = ((w.alloc (.cells #[.slice ka kl kc, .slice la ll lc, .int .i64 kd, .int .i64 vl, .slice ma ml mc, .slice na nl nc] 33)).drewN q).drewN m) := fun q => equal_any _ _ _ _ _ _ _ N S[i] e4 rfl ((h4.below A0.low (Nat.le_refl _)).below (below_drawn (Below.refl _ _) q) (Nat.le_refl _)) (hX.below (below_drawn (Below.refl _ _) q) (Nat.le_refl _))
  generalize decide (N = S[i]) = R at HE
  generalize S[i].length = xl at HE k1
  clear hS hS' h4 hX e4 hn eS hbx
  go_enter Tryd.func32, Tryd.ntmps32
  go_wp2_with fail
  go_quiet (first | (go_at_call 33; exact Calls.quiet_of (HE.out _)))
  go_wp2_with fail
  go_ret
  exact ⟨rfl, below_drawn A0.low _⟩
end Go.Proofs.YtdbkjjelaipcfaaDoor
