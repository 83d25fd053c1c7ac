import Derived.Test.YtjepkcebfojiaaaDoorTwH
import Derived.Test.YtjepkcebfojiaaaDoorLyQ
set_option linter.unusedVariables false
set_option linter.unusedSimpArgs false
namespace Go.Proofs.YtjepkcebfojiaaaDoor
open Go.ChangeShapes Go.WideShapes Go.ChangeAt Go.RowKit

theorem dv_to {w wr h nv av bv k na nb L A Bh L' A' B'} (H : DV w wr h nv av bv k na nb L A Bh) (h1 : L = L') (h2 : A = A') (h3 : Bh = B') : DV w wr h nv av bv k na nb L' A' B' := by subst h1 h2 h3; exact H
theorem vS2 (r : Nat) {i : Nat} (h : i % 3 = r) : vS 2 i = [nUn (20 + (r : Int)) [(i : Int)]] := by subst h; rfl
theorem vA2 (r : Nat) {i : Nat} (h : i % 3 = r) : vA 2 i = [([45, 33, 94] : List UInt8).getD r 0] := by subst h; rfl
/-- A list turned at both its ends, p places deep. -/
def rv (A : List UInt8) (p : Nat) : List UInt8 := (List.range A.length).map fun x => if x < p ∨ A.length - p ≤ x then A.getD (A.length - 1 - x) 0 else A.getD x 0
theorem rv_len (A : List UInt8) (p : Nat) : (rv A p).length = A.length := by simp [rv]
theorem rv_at (A : List UInt8) (p x : Nat) (hx : x < A.length) : (rv A p)[x]'(by rw [rv_len]; exact hx) = if x < p ∨ A.length - p ≤ x then A.getD (A.length - 1 - x) 0 else A.getD x 0 := by simp [rv]
theorem rv_zero (A : List UInt8) : rv A 0 = A := by
  refine List.ext_getElem (rv_len A 0) fun x h1 h2 => ?_
  rw [rv_at A 0 x h2, if_neg (by omega)]
  simp [List.getD, h2]
theorem rv_end (A : List UInt8) (p : Nat) (hp : A.length ≤ 2 * p + 1) : rv A p = A.reverse := by
  refine List.ext_getElem (by rw [rv_len, List.length_reverse]) fun x h1 h2 => ?_
  rw [rv_len] at h1
  rw [rv_at A p x h1, List.getElem_reverse]
  have e : ∀ y (hy : y < A.length), A.getD y 0 = A[y] := fun y hy => by simp [List.getD, hy]
  split
  · exact e _ (by omega)
  · next hn =>
    rw [e x h1]
    congr 1
    omega
theorem rv_step (A : List UInt8) (p q : Nat) (hq : q + p + 1 = A.length) (hpq : p < q) (c d : UInt8) (hc : c = (rv A p)[p]'(by rw [rv_len]; omega)) (hd : d = (rv A p)[q]'(by rw [rv_len]; omega)) : ((rv A p).set p d).set q c = rv A (p + 1) := by
  have e : ∀ y (hy : y < A.length), A.getD y 0 = A[y] := fun y hy => by simp [List.getD, hy]
  rw [rv_at A p p (by omega), if_neg (by omega)] at hc
  rw [rv_at A p q (by omega), if_neg (by omega)] at hd
  refine List.ext_getElem (by simp [rv_len]) fun x h1 h2 => ?_
  have hx : x < A.length := by rw [rv_len] at h2; exact h2
  rw [rv_at A (p + 1) x hx, List.getElem_set, List.getElem_set]
  by_cases h3 : q = x
  · rw [if_pos h3, if_pos (by omega), hc]
    congr 1; omega
  · rw [if_neg h3]
    by_cases h4 : p = x
    · rw [if_pos h4, if_pos (by omega), hd]
      congr 1; omega
    · rw [if_neg h4, rv_at A p x hx]
      by_cases h5 : x < p ∨ A.length - p ≤ x
      · rw [if_pos h5, if_pos (by omega)]
      · rw [if_neg h5, if_neg (by omega)]
/-- A byte of what stands ahead. -/
theorem DV.setA {w wr h nv bv k na nb L A Bh g c1} (H : DV w wr h nv (.slice (some ⟨g, 0, none⟩) na c1) bv k na nb L A Bh) (p : Nat) (c : UInt8) : DV w (wr.setCell ⟨g, p, none⟩ (.int .u8 (c.toNat : Int))) h nv (.slice (some ⟨g, 0, none⟩) na c1) bv k na nb L (A.set p c) Bh := by
  obtain ⟨P, hP, hL⟩ := H.cm
  have hg := own_block H.oa.out (g := g) rfl
  refine ⟨⟨P, ⟨hP.len, own_move hP.own fun b hb => heap_set_other (fun e => own_apart hP.own H.oa.out (by decide) b hb (by rw [e]; rfl)), fun q hq => ⟨(hP.kid q hq).len, own_move (hP.kid q hq).out fun b hb => heap_set_other (fun e => own_apart (hP.kid q hq).out H.oa.out (by decide) b hb (by rw [e]; rfl))⟩⟩, hL⟩, ⟨by simp; exact H.oa.len, ?_⟩, ⟨H.ob.len, own_move H.ob.out fun b hb => heap_set_other (fun e => H.apt b (by rw [e]; rfl) hb)⟩, H.apt, (heap_set_other (by omega)).trans H.box, H.bel.setCell (p := ⟨g, p, none⟩) (by show h ≤ g; omega) _⟩
  have := own_set H.oa.out p (.int .u8 (c.toNat : Int))
  rw [show bvs (A.set p c) = (bvs A).set p (.int .u8 (c.toNat : Int)) by simp [bvs, List.map_set]]
  exact this
theorem DV.cellA {w wr h nv bv k na nb L A Bh g c1} (H : DV w wr h nv (.slice (some ⟨g, 0, none⟩) na c1) bv k na nb L A Bh) (p : Nat) (hp : p < A.length) : wr.cell? ⟨g, p, none⟩ = some (.int .u8 ((A[p]).toNat : Int)) ∧ wr.frozen? ⟨g, p, none⟩ = false := by
  rcases H.oa.out.2 with ⟨e, _⟩ | ⟨g', cap, cur, e, e2, e3, e4, e5, e6, e7⟩
  · cases e
  · cases e
    have hl := H.oa.len
    have h1 := bvs_at A p hp
    rw [← e7, List.getElem?_take, if_pos (by omega)] at h1
    exact ⟨cell_arr e3 (by rw [← h1]; simp), fz_of e3⟩
theorem DV.blkA {w wr h nv a1 bv k na nb L A Bh c1} (H : DV w wr h nv (.slice a1 na c1) bv k na nb L A Bh) (hn : 0 < na) : ∃ g, a1 = some ⟨g, 0, none⟩ ∧ na ≤ c1 ∧ c1 ≤ 9223372036854775807 ∧ g ≠ h := by
  rcases H.oa.out.2 with ⟨e, h0⟩ | ⟨g', cap, cur, e, e2, e3, e4, e5, e6, e7⟩
  · omega
  · cases e
    exact ⟨g', rfl, e4, e5, by omega⟩
theorem DV.le {w wr h nv a1 bv k na nb L A Bh c1} (H : DV w wr h nv (.slice a1 na c1) bv k na nb L A Bh) : na ≤ c1 ∧ c1 ≤ 9223372036854775807 := by
  rcases H.oa.out.2 with ⟨e, h0⟩ | ⟨g', cap, cur, e, e2, e3, e4, e5, e6, e7⟩
  · cases e; omega
  · cases e; exact ⟨e4, e5⟩
theorem lit3 (wr : World) (h J : Nat) (hlt : h < wr.heap.size) : ∀ q ∈ [(nPr [(J : Int)], Value.slice (some ⟨wr.heap.size, 0, none⟩) 1 1), (nBk [((J + 1 : Nat) : Int)], .slice (some ⟨wr.heap.size + 1, 0, none⟩) 1 1), (nFn [109, 97, 105, 110] [((J + 2 : Nat) : Int)], .slice (some ⟨wr.heap.size + 1 + 1, 0, none⟩) 1 1)], OwnI (((wr.alloc (.cells #[.int .i64 J] 3)).alloc (.cells #[.int .i64 ((J : Int) + 1)] 3)).alloc (.cells #[.int .i64 ((J : Int) + 1 + 1)] 3)) (h + 1) q.2 q.1.kids.length q.1.kids := by
  intro q hq
  simp only [List.mem_cons, List.not_mem_nil, or_false] at hq
  rcases hq with rfl | rfl | rfl
  · exact ((OwnI.lit wr (h + 1) (by omega) [(J : Int)] _ rfl (by simp)).keep ((Below.refl _ _).alloc (Nat.le_refl _) _)).keep ((Below.refl _ _).alloc (Nat.le_refl _) _)
  · have := (OwnI.lit (wr.alloc (.cells #[.int .i64 J] 3)) (h + 1) (by simp; omega) [((J + 1 : Nat) : Int)] #[.int .i64 ((J : Int) + 1)] rfl (by simp)).keep ((Below.refl _ _).alloc (Nat.le_refl _) (.cells #[.int .i64 ((J : Int) + 1 + 1)] 3))
    simpa [nBk] using this
  · have := OwnI.lit ((wr.alloc (.cells #[.int .i64 J] 3)).alloc (.cells #[.int .i64 ((J : Int) + 1)] 3)) (h + 1) (by simp; omega) [((J + 2 : Nat) : Int)] #[.int .i64 ((J : Int) + 1 + 1)] (by simp [ivs]; omega) (by simp)
    simpa [nFn] using this
theorem bs_app2 (X Y : List UInt8) : bs (X ++ Y) = bs X ++ bs Y := by
  apply ByteArray.ext
  simp [bs]
theorem vT_bs (how n : Nat) : bs (vT how n) = ⟨#[102, 117, 110, 99, 32, 109, 97, 105, 110, 40, 41, 32, 123, 10, 9, 112, 114, 105, 110, 116, 40]⟩ ++ (bs (bld [] (vA how) n).reverse ++ ⟨#[97]⟩ ++ bs (bld [] (vB how) n)) ++ ⟨#[41, 59, 10, 125, 10]⟩ := by
  have e : vT how n = [102, 117, 110, 99, 32, 109, 97, 105, 110, 40, 41, 32, 123, 10, 9, 112, 114, 105, 110, 116, 40] ++ ((bld [] (vA how) n).reverse ++ [97] ++ bld [] (vB how) n) ++ [41, 59, 10, 125, 10] := by simp [vT, vX, tabs]
  rw [e, bs_app2, bs_app2, bs_app2, bs_app2]
  rfl
/-- The tree at its end: its functions set. -/
structure DF (wr : World) (h : Nat) (nv : Value) (k : Nat) (g : Nat) (f : Int) (L : List Nd) : Prop where
  nl : NL (h + 1) wr wr nv k L
  fu : OwnI wr (h + 1) (.slice (some ⟨g, 0, none⟩) 1 1) 1 [f]
  box : wr.heap[h]? = some (.cells #[nv, .slice (some ⟨g, 0, none⟩) 1 1] 25 (0, 0))
theorem DV.fin {w wr h nv av bv k na nb L A Bh} (H : DV w wr h nv av bv k na nb L A Bh) (f f' : Int) (hf : f' = f) (g : Nat) (hg : g = wr.heap.size) : DF ((wr.setCell ⟨h, 1, none⟩ (.slice (some ⟨g, 0, none⟩) 1 1)).alloc (.cells #[.int .i64 f'] 3)) h nv k g f L ∧ Below h w ((wr.setCell ⟨h, 1, none⟩ (.slice (some ⟨g, 0, none⟩) 1 1)).alloc (.cells #[.int .i64 f'] 3)) := by
  subst hg hf
  have hlt := H.lt
  obtain ⟨P, hP, hL⟩ := H.cm
  have hsz : (wr.setCell ⟨h, 1, none⟩ (.slice (some ⟨wr.heap.size, 0, none⟩) 1 1)).heap.size = wr.heap.size := by simp [World.setCell]
  have hF := OwnI.lit (wr.setCell ⟨h, 1, none⟩ (.slice (some ⟨wr.heap.size, 0, none⟩) 1 1)) (h + 1) (by omega) [f'] #[.int .i64 f'] rfl (by simp)
  rw [hsz] at hF
  have old : ∀ b, h + 1 ≤ b → b < wr.heap.size → ((wr.setCell ⟨h, 1, none⟩ (.slice (some ⟨wr.heap.size, 0, none⟩) 1 1)).alloc (.cells #[.int .i64 f'] 3)).heap[b]? = wr.heap[b]? := fun b h1 h2 => by
    rw [heap_alloc_old _ _ (by omega), heap_set_other (by omega)]
  refine ⟨⟨⟨⟨P, ⟨hP.len, own_move hP.own fun b hb => old b (own_block hP.own hb).1 (own_block hP.own hb).2, fun q hq => ⟨(hP.kid q hq).len, own_move (hP.kid q hq).out fun b hb => old b (own_block (hP.kid q hq).out hb).1 (own_block (hP.kid q hq).out hb).2⟩⟩, hL⟩, Below.refl _ _⟩, hF, ?_⟩, (H.bel.setCell (p := ⟨h, 1, none⟩) (Nat.le_refl _) _).alloc (by omega) _⟩
  rw [heap_alloc_old _ _ (by omega)]
  exact heap_set_at H.box
theorem DF.keep {wr w' h nv k g f L} (H : DF wr h nv k g f L) (hb : Below wr.heap.size wr w') : DF w' h nv k g f L := by
  obtain ⟨P, hP, hL⟩ := H.nl.out
  exact ⟨⟨⟨P, hP.keep hb, hL⟩, Below.refl _ _⟩, H.fu.keep hb, (hb.block _ (Array.getElem?_eq_some_iff.1 H.box).1).trans H.box⟩
theorem DF.lt {wr h nv k g f L} (H : DF wr h nv k g f L) : h < wr.heap.size := (Array.getElem?_eq_some_iff.1 H.box).1
end Go.Proofs.YtjepkcebfojiaaaDoor
