import Derived.Deep.RegionHeld3
import Derived.Test.YtfbkopjncmkbiaaGreatDoorJac
set_option linter.unusedVariables false
set_option linter.unusedSimpArgs false
namespace Go.Proofs.YtfbkopjncmkbiaaGreatDoor
open Go.ChangeShapes Go.WideShapes Go.ChangeAt Go.RowKit Go.Maps
def vn0 : Value := .slice none 0 0
structure FA (w : World) (B go n : Nat) (vs : List Value) (S : List (List Int)) : Prop where
 out : w.heap[go]? = some (.cells vs.toArray 25 (0, 0))
 lo : B <= go
 lv : vs.length = n
 ls : S.length = n
 own : ∀ i, i < n -> OwnI w B (vs.getD i vn0) (S.getD i []).length (S.getD i [])
 ne : ∀ i j, i < n -> j < n -> i ≠ j -> ∀ g, (vs.getD i vn0).ownBlock = some g -> (vs.getD j vn0).ownBlock ≠ some g
theorem FA.start (w : World) (B n : Nat) (hB : B <= w.heap.size) : FA (w.alloc (.cells (madeCells #[vn0] n) 25)) B w.heap.size n (List.replicate n vn0) (List.replicate n []) := by
 have hv : ∀ i, (List.replicate n vn0).getD i vn0 = vn0 := fun i => by rw [List.getD, List.getElem?_replicate]; split <;> rfl
 have hs : ∀ i, (List.replicate n ([] : List Int)).getD i [] = [] := fun i => by rw [List.getD, List.getElem?_replicate]; split <;> rfl
 refine ⟨?_, hB, by simp, by simp, fun i hi => ?_, fun i j _ _ _ g hg => ?_⟩
 ·have e : madeCells #[vn0] n = (List.replicate n vn0).toArray := by
   apply Array.toList_inj.1
   rw [toList_madeCells_one]
  rw [e]; exact heap_alloc_new _ _
 ·rw [hv, hs]; exact OwnI.nil _ _
 ·rw [hv] at hg; simp [vn0, Value.ownBlock] at hg
theorem FA.move {w w' : World} {B go n vs S} (h : FA w B go n vs S) (hb : Below w.heap.size w w') : FA w' B go n vs S :=
 ⟨(hb.block go (gl h.out)).trans h.out, h.lo, h.lv, h.ls, fun i hi => (h.own i hi).keep hb, h.ne⟩
theorem FA.go_ne {w : World} {B go n vs S} (h : FA w B go n vs S) {i : Nat} (hi : i < n) : (vs.getD i vn0).ownBlock ≠ some go := own_not (h.own i hi).out h.out (by decide)
theorem FA.irow {w : World} {B go n vs S} (h : FA w B go n vs S) (hn : n <= 9223372036854775807) : IRow w (some ⟨go, 0, none⟩) n S := by
 refine ⟨by rw [h.ls]; exact Nat.le_refl _, hn, fun _ => ⟨go, 0, rfl, (gl h.out), fun i hi => ?_⟩⟩
 have hin : i < n := by rw [<- h.ls]; exact hi
 obtain ⟨ao, c, e, hI⟩ := (h.own i hin).ints
 have e2 : S.getD i [] = S[i] := by simp [hi]
 rw [e2] at e hI
 refine ⟨ao, c, ?_, hI⟩
 rw [Nat.zero_add]
 refine cell_arr h.out ?_
 have hv : i < vs.length := by rw [h.lv]; exact hin
 have e3 : vs.getD i vn0 = vs[i] := by simp [hv]
 rw [<- e, e3]
 simp [hv]
theorem FA.app {w w6 : World} {B go n vs S} (h : FA w B go n vs S) {p : Nat} (hp : p < n) {v6 : Value} {x : Int} (h6 : OwnI w6 B v6 ((S.getD p []).length + 1) (S.getD p [] ++ [x])) (g6 : GI B w w6 (vs.getD p vn0) v6) : FA (w6.setCell ⟨go, p, none⟩ v6) B go n (vs.set p v6) (S.set p (S.getD p [] ++ [x])) := by
 have o6 : w6.heap[go]? = some (.cells vs.toArray 25 (0, 0)) := (g6.blk go (gl h.out) (h.go_ne hp)).trans h.out
 have n6 := own_not h6.out o6 (by decide)
 have gv : ∀ i, (vs.set p v6).getD i vn0 = if i = p then v6 else vs.getD i vn0 := fun i => by
  by_cases e : i = p
  ·subst e; rw [if_pos rfl]; simp [List.getD, h.lv, hp]
  ·rw [if_neg e]; simp [List.getD, List.getElem?_set, Ne.symm e]
 have gs : ∀ i, (S.set p (S.getD p [] ++ [x])).getD i [] = if i = p then S.getD p [] ++ [x] else S.getD i [] := fun i => by
  by_cases e : i = p
  ·subst e; rw [if_pos rfl]; simp [List.getD, h.ls, hp]
  ·rw [if_neg e]; simp [List.getD, List.getElem?_set, Ne.symm e]
 refine ⟨?_, h.lo, by simpa using h.lv, by simpa using h.ls, fun i hi => ?_, fun i j hi hj hij g => ?_⟩
 ·have := heap_set_at (i := p) (v := v6) o6
  simpa using this
 ·rw [gv, gs]
  by_cases e : i = p
  ·rw [if_pos e, if_pos e]
   refine ⟨rfl, ?_⟩
   have e2 : (S.getD p [] ++ [x]).length = (S.getD p []).length + 1 := by simp
   rw [e2]
   exact own_move h6.out fun g hg => heap_set_other (fun e => n6 (by rw [hg, e]))
  ·rw [if_neg e, if_neg e]
   have hi' := h.own i hi
   refine ⟨rfl, own_move hi'.out fun g hg => ?_⟩
   rw [heap_set_other (fun e3 => h.go_ne hi (by rw [hg, e3])), g6.blk g (own_block hi'.out hg).2 (h.ne i p hi hp e g hg)]
 ·rw [gv, gv]
  have nn : ∀ k, k < n -> k ≠ p -> ∀ g, (vs.getD k vn0).ownBlock = some g -> v6.ownBlock ≠ some g := fun k hk hkp g hg hg6 => by
   rcases g6.own g hg6 with h1 | h1
   ·exact h.ne k p hk hp hkp g hg h1
   ·have := (own_block (h.own k hk).out hg).2; omega
  by_cases e1 : i = p
  ·rw [if_pos e1, if_neg (fun e2 => hij (e1.trans e2.symm))]
   exact fun hg hg2 => nn j hj (fun e2 => hij (e1.trans e2.symm)) g hg2 hg
  ·rw [if_neg e1]
   by_cases e2 : j = p
   ·rw [if_pos e2]; exact nn i hi e1 g
   ·rw [if_neg e2]; exact h.ne i j hi hj hij g
def srcIn (bl : List Int) (k : Nat) (row : List Int) (S : List (List Int)) : List (List Int) := row.foldl (fun S x => S.set (plc bl x).toNat (S.getD (plc bl x).toNat [] ++ [(k : Int)])) S
def srcN (bl : List Int) (Ls : List (List Int)) : Nat -> List (List Int)
 | 0 => List.replicate bl.length []
 | k + 1 => srcIn bl k (rowOf Ls (bl.getD k 0)) (srcN bl Ls k)
def srcs (bl : List Int) (Ls : List (List Int)) : List (List Int) := srcN bl Ls bl.length
theorem srcIn_take (bl : List Int) (k : Nat) (row : List Int) (S : List (List Int)) {j : Nat} (hj : j < row.length) : srcIn bl k (row.take (j + 1)) S = (srcIn bl k (row.take j) S).set (plc bl row[j]).toNat ((srcIn bl k (row.take j) S).getD (plc bl row[j]).toNat [] ++ [(k : Int)]) := by
 rw [<- List.take_append_getElem hj, srcIn, List.foldl_append]
 rfl
theorem infoSl : (Tryz.prog.info? 25).map (fun i => (i.zero, i.size, i.bytes)) = some (some (.slice none 0 0), 1, 24) := by kernel_rfl
set_option maxRecDepth 100000 in
set_option maxHeartbeats 4000000 in
theorem sources_any (w : World) {B wb mb v1 v2 bl mt} (H : WKS w B wb mb v1 v2 bl mt) (hBw : B <= w.heap.size) (ao : Option Addr) (nL c : Nat) (Ls : List (List Int)) (hn : nL = Ls.length) (h : IRow w ao c Ls) (hrg : ∀ x ∈ bl, 0 <= x /\ x < Ls.length) (hcl : ∀ x ∈ bl, ∀ y ∈ rowOf Ls x, y ∈ bl) (hsz : bl.length <= 1000000) (hM : ∀ l ∈ Ls, l.length <= 1000000) :
 Calls Tryz.prog 147 #[.pointer (some ⟨wb, 0, none⟩), .slice ao nL c] w fun e w' => ∃ go, e = .returned (.slice (some ⟨go, 0, none⟩) bl.length bl.length) /\ IRow w' (some ⟨go, 0, none⟩) bl.length (srcs bl Ls) /\ Below w.heap.size w w' := by
 have hmk := run_make_row' (P := Tryz.prog) 121 25 (.slice none 0 0) 24 Tryz.underlying121 infoSl rfl .i64 .i64 bl.length (by omega) (by omega)
 obtain ⟨a1, c1, e1, n1, n1'⟩ := own_slice H.o1.out
 subst e1
 have k0 : w.cell? ⟨wb, 0, none⟩ = some (.slice a1 bl.length c1) := cell_arr (i := 0) H.box rfl
 obtain ⟨n, hnn⟩ : ∃ n, n = bl.length := ⟨_, rfl⟩
 have HH : Hid _ := H
 have HI : Hid _ := h
 have HRG : Hid _ := hrg
 have HCL : Hid _ := hcl
 have HM : Hid _ := hM
 have HN : Hid (nL = Ls.length) := hn
 have HNN : Hid (n = bl.length) := hnn
 rw [<- hnn] at k0 hmk hsz n1
 have hwb : wb < w.heap.size := (H.lt wb (.inl rfl)).2
 have FS := FA.start w w.heap.size n (Nat.le_refl _)
 obtain ⟨w0, hw0⟩ : ∃ w0, w0 = w.alloc (.cells (madeCells #[.slice none 0 0] n) 25) := ⟨_, rfl⟩
 have b0 : Below w.heap.size w w0 := by rw [hw0]; exact (Below.refl _ _).alloc (Nat.le_refl _) _
 have q0 : w0.cell? ⟨wb, 0, none⟩ = some (.slice a1 n c1) := by rw [hw0]; exact cellA k0
 have hF0 : FA w0 w.heap.size w.heap.size n (List.replicate n vn0) (List.replicate n []) := by rw [hw0]; exact FS
 have HF0 : Hid _ := hF0
 have HB0 : Hid _ := b0
 have hz31 : ∀ u : World, True := fun _ => trivial
 clear H h hrg hcl hM hn hnn FS hF0 b0 hz31
 go_enter Tryz.func147, Tryz.ntmps147
 go_wp2_with fail
 rw [<- hw0]
 clear hw0 hmk k0 q0
 obtain ⟨B1, hB1⟩ : ∃ B1, B1 = w.heap.size := ⟨_, rfl⟩
 rw [<- hB1] at HF0 HB0 ⊢
 have HB1 : Hid (B1 = w.heap.size) := hB1
 clear hB1
 go_loopw [22] (fun v wr => ∃ (k : Nat) (vs : List Value), k <= n /\ v = .int .i64 k /\ Hid (FA wr B1 B1 n vs (srcN bl Ls k)) /\ Hid (∀ i, ((srcN bl Ls k).getD i []).length <= k * 1000000) /\ Hid (Below B1 w wr)) (fun v _ => n - (intOf v).toNat)
 case atStart =>
  refine ⟨0, _, by omega, rfl, by simp only [srcN]; rw [<- HNN.out]; exact HF0.out, fun i => ?_, HB0.out⟩
  simp only [srcN, List.getD, List.getElem?_replicate]
  split <;> simp
 case round =>
  clear HF0 HB0
  obtain ⟨k, vs, hk, rfl, HF, HL, HB⟩ := hrel
  by_cases hlt : k < n
  ·have hkb : k < bl.length := by have := HNN.out; omega
   have hBs : w.heap.size <= B1 := by have := HB1.out; omega
   have hbr := HRG.out bl[k] (List.getElem_mem hkb)
   obtain ⟨bn, hbn⟩ : ∃ bn : Nat, bl[k] = (bn : Int) := ⟨(bl[k]).toNat, by omega⟩
   have hbL : bn < Ls.length := by omega
   have hbL2 : bn < nL := by have := HN.out; omega
   obtain ⟨a0, c0, e0, hI1⟩ := HH.out.o1.ints
   cases e0
   obtain ⟨b1, o1, rfl, kx⟩ := (hI1.below HB.out hBs).at hkb
   rw [hbn] at kx
   obtain ⟨b2, o2, ar, cr, rfl, kr, hIr⟩ := HI.out.at hbL
   have kr2 := (HB.out.cell (p := ⟨b2, o2 + bn, none⟩) (by have := block_lt_of_cell kr; have := HB1.out; omega)).trans kr
   obtain ⟨row, hrow⟩ : ∃ row, row = Ls[bn] := ⟨_, rfl⟩
   rw [<- hrow] at kr2 hIr
   have hro : rowOf Ls (bl.getD k 0) = row := by
    have : bl.getD k 0 = bl[k] := by simp [hkb]
    rw [this, hbn, hrow]; simp [rowOf, hbL]
   obtain ⟨rl, hrl⟩ : ∃ rl, rl = row.length := ⟨_, rfl⟩
   have hrM : rl <= 1000000 := by rw [hrl, hrow]; exact HM.out _ (List.getElem_mem hbL)
   rw [<- hrl] at kr2
   have HRO : Hid (rowOf Ls (bl.getD k 0) = row) := hro
   have HRL : Hid (rl = row.length) := hrl
   have HIR : Hid (Ints w ar cr row) := hIr
   have HCK : Hid (∀ y ∈ row, y ∈ bl) := by
    intro y hy
    refine HCL.out bl[k] (List.getElem_mem hkb) y ?_
    have : bl.getD k 0 = bl[k] := by simp [hkb]
    rw [<- this, hro]; exact hy
   clear kr hrow hro hrl hIr hI1 hbr hbn
   go_wp2_with fail
   go_loopw [32] (fun v wr' => ∃ (j : Nat) (vs' : List Value), j <= rl /\ v = .int .i64 j /\ Hid (FA wr' B1 B1 n vs' (srcIn bl k (row.take j) (srcN bl Ls k))) /\ Hid (∀ i, ((srcIn bl k (row.take j) (srcN bl Ls k)).getD i []).length <= k * 1000000 + j) /\ Hid (Below B1 w wr')) (fun v _ => rl - (intOf v).toNat)
   case atStart =>
    refine ⟨0, vs, by omega, rfl, HF.out, fun i => ?_, HB.out⟩
    have := HL.out i
    simp only [srcIn, List.take_zero, List.foldl_nil]
    generalize k * 1000000 = K at this ⊢
    exact Nat.le_trans this (Nat.le_add_right K 0)
   case round =>
    clear HF HL HB kx kr2
    obtain ⟨j, vs', hj, rfl, HF, HL, HB⟩ := hrel
    by_cases hjl : j < rl
    ·have hjr : j < row.length := by have := HRL.out; omega
     obtain ⟨b3, o3, rfl, ky⟩ := (HIR.out.below HB.out hBs).at hjr
     obtain ⟨y, hy⟩ : ∃ y, y = row[j] := ⟨_, rfl⟩
     rw [<- hy] at ky
     have hyb : y ∈ bl := by rw [hy]; exact HCK.out _ (List.getElem_mem hjr)
     have hyr := HRG.out y hyb
     have fy : Fits y := by unfold Fits; have := HN.out; have := HI.out.le; have := HI.out.mx; omega
     have WK := HH.out.move (w' := wr) fun g hg => HB.out.block g (by have := (HH.out.lt g hg).2; have := HB1.out; omega)
     have kb : wr.cell? ⟨wb, 1, none⟩ = some (.map (some mb)) := cell_arr (i := 1) WK.box rfl
     obtain ⟨D, d1, d2⟩ := WK.map
     have hkey := keyOf_int_mk Tryz.underlying3 fy.wf
     obtain ⟨p, hp⟩ : ∃ p : Nat, plc bl y = (p : Int) := ⟨bl.idxOf y, by rw [plc, if_pos hyb]⟩
     have hpn : p < n := by
      have := List.idxOf_lt_length_of_mem hyb
      rw [plc, if_pos hyb] at hp
      have := HNN.out; omega
     have HAT : Hid (D.atKey (.int .i64 y) (.lit (.int .i64 0)) = .lit (.int .i64 (p : Int))) := by rw [<- hp]; exact (d2 y fy).2
     obtain ⟨S, hS⟩ : ∃ S, S = srcIn bl k (row.take j) (srcN bl Ls k) := ⟨_, rfl⟩
     have hF := HF.out
     rw [<- hS] at hF
     obtain ⟨av, cv, ev, _, _⟩ := own_slice (hF.own p hpn).out
     have hvl : p < vs'.length := by rw [hF.lv]; exact hpn
     have kv : wr.cell? ⟨B1, p, none⟩ = some (.slice av (S.getD p []).length cv) := by
      rw [<- ev]
      refine cell_arr hF.out ?_
      simp [hvl]
     have fv : wr.frozen? ⟨B1, p, none⟩ = false := fz_of hF.out
     have hlp : (S.getD p []).length + 1 <= 17592186044416 := by have := HL.out p; rw [<- hS] at this; omega
     obtain ⟨sl, hsl⟩ : ∃ sl, sl = (S.getD p []).length := ⟨_, rfl⟩
     have OP : OwnI wr B1 (.slice av sl cv) sl (S.getD p []) := by have := hF.own p hpn; rw [ev, <- hsl] at this; exact this
     rw [<- hsl] at kv hlp
     have hsB : B1 <= wr.heap.size := by have := HB.out.size; have := HB1.out; omega
     have HOP : Hid _ := OP
     have HSL : Hid (sl = (S.getD p []).length) := hsl
     have HEV : Hid (vs'.getD p vn0 = .slice av (S.getD p []).length cv) := ev
     have HFF : Hid _ := hF
     have HNEXT : Hid (srcIn bl k (row.take (j + 1)) (srcN bl Ls k) = S.set p (S.getD p [] ++ [(k : Int)])) := by
      show _ = _
      rw [srcIn_take _ _ _ _ hjr, <- hy, hp, Int.toNat_natCast, hS]
     have HLS : Hid (∀ i, (S.getD i []).length <= k * 1000000 + j) := by rw [hS]; exact HL.out
     clear hy hyb hyr fy WK d2 hp hS hF ev hsl OP
     go_wp2_with (first
      | (at_lookup; refine wpList_lookup_own_int _ rfl _ _ 90 rfl 3 3 .i64 law3 Tryz.underlying90 Tryz.underlying3 (zero3 _) mb bl.length D rfl d1 _ _ rfl hkey ?_; intro z hat hwc
         obtain rfl : z = (p : Int) := by (have e := hat.symm.trans HAT.out; cases e; rfl)
         clear hat hwc)
      | (at_builtin; refine wpList_append_intG (w0 := wr) rfl _ _ rfl B1 (.slice av sl cv) sl (S.getD p []) (k : Int) rfl HOP.out rfl hlp hsB ?_; intro v6 w6 h6 g6
         have o6 : w6.heap[B1]? = some (.cells vs'.toArray 25 (0, 0)) := (g6.blk B1 (gl HFF.out.out) (by have := HFF.out.go_ne hpn; rw [HEV.out, <- HSL.out] at this; exact this)).trans HFF.out.out
         obtain ⟨z6, q6⟩ : ∃ z, w6.cell? ⟨B1, p, none⟩ = some z := ⟨vs'[p], cell_arr o6 (by simp [hvl])⟩
         have p6 : w6.frozen? ⟨B1, p, none⟩ = false := fz_of o6
         have A6 := HFF.out.app hpn (v6 := v6) (x := (k : Int)) (w6 := w6) (by rw [<- HSL.out]; exact h6) (by rw [HEV.out, <- HSL.out]; exact g6)
         have B6 : Below B1 w (w6.setCell ⟨B1, p, none⟩ v6) := (HB.out.trans g6.bel).setCell (Nat.le_refl _) _
         obtain ⟨a6, c6, e6, _, _⟩ := own_slice h6.out
         subst e6
         have HA6 : Hid _ := A6
         have HB6 : Hid _ := B6
         clear A6 B6 h6 g6 o6)
      | go_in)
     go_roundw
     case rel =>
      refine ⟨j + 1, _, by omega, by go_num, by rw [HNEXT.out]; exact HA6.out, ?_, HB6.out⟩
      intro i
      rw [HNEXT.out]
      by_cases e : i = p
      ·subst e
       have e2 : (S.set i (S.getD i [] ++ [(k : Int)])).getD i [] = S.getD i [] ++ [(k : Int)] := by simp [List.getD, HFF.out.ls, hpn]
       rw [e2]
       have := HLS.out i
       simp at this ⊢
       omega
      ·have e2 : (S.set p (S.getD p [] ++ [(k : Int)])).getD i [] = S.getD i [] := by simp [List.getD, List.getElem?_set, Ne.symm e]
       rw [e2]
       have := HLS.out i
       omega
     case measure => simp [intOf]; omega
    ·have hjr : j = rl := by omega
     subst hjr
     have hF := HF.out
     have hL := HL.out
     rw [List.take_of_length_le (by have := HRL.out; omega)] at hF hL
     have HF' : Hid _ := hF
     have HL' : Hid _ := hL
     clear hF hL
     go_wp2_with fail
     go_roundw
     case rel =>
      refine ⟨k + 1, vs', by omega, by go_num, ?_, fun i => ?_, HB.out⟩
      ·simp only [srcN]; rw [HRO.out]; exact HF'.out
      ·have := HL'.out i
       simp only [srcN]; rw [HRO.out]
       omega
     case measure => simp [intOf]; omega
  ·have hkn : k = n := by omega
   subst hkn
   go_wp2_with fail
   go_ret
   have hF := HF.out
   have hb := HB.out
   rw [HNN.out] at hF
   refine ⟨B1, by rw [<- HNN.out]; rfl, hF.irow (by have := HNN.out; omega), by rw [<- HB1.out]; exact hb⟩
structure St where
 door : List Int
 f : Fo
 over : List Int
 wt : Int -> List Int
def dIn (x : Nat) (src : List Int) (d : List Int × Fo) : List Int × Fo := src.foldl (fun d y => (d.1.set x (min (gn d.1 x) (gn d.1 (lst d.1 d.2 y.toNat).1)), (lst d.1 d.2 y.toNat).2)) d
def dOv (door : List Int) (above : Nat) (l : List Int) (d : List Int × Fo) : List Int × Fo := l.foldl (fun d y => (d.1.set y.toNat ((lbw door d.2 y.toNat above).1 : Int), (lbw door d.2 y.toNat above).2)) d
def dstep (mt : List Int) (fr : List (List Int)) (x : Nat) (s : St) : St :=
 let d := dIn x (fr.getD x []) (s.door, s.f)
 let wt := upd s.wt (gn d.1 x) (s.wt (gn d.1 x) ++ [(x : Int)])
 let o := dOv d.1 (gn mt x).toNat (wt (gn mt x)) (s.over, ⟨d.2.up.set x (gn mt x), d.2.best⟩)
 ⟨d.1, o.2, o.1, upd wt (gn mt x) []⟩
def drun (mt : List Int) (fr : List (List Int)) : Nat -> St -> St
 | 0, s => s
 | k + 1, s => drun mt fr k (dstep mt fr (k + 1) s)
def st0 (n : Nat) : St := ⟨door0 n, fo0 n, List.replicate n 0, fun _ => []⟩
def fin1 (door : List Int) (k : Nat) (over : List Int) : List Int := if gn over k = gn door k then over else over.set k (gn over (gn over k).toNat)
def fpass (door : List Int) : Nat -> List Int -> List Int
 | 0, o => o
 | k + 1, o => fin1 door (k + 1) (fpass door k o)
def domP (mt : List Int) (fr : List (List Int)) : List Int := fpass (drun mt fr (mt.length - 1) (st0 mt.length)).door (mt.length - 1) (drun mt fr (mt.length - 1) (st0 mt.length)).over
structure DI (n : Nat) (s : St) (c : Nat) : Prop where
 fi : FI n s.door s.f
 lo : s.over.length = n
 orn : ∀ i, i < n -> 0 <= gn s.over i /\ gn s.over i < n
 wr : ∀ a, ∀ x ∈ s.wt a, 0 <= x /\ x < n
 wl : ∀ a, (s.wt a).length <= c
theorem FI.door {n : Nat} {door : List Int} {f : Fo} (h : FI n door f) {x : Nat} {v : Int} (hx : x < n) (h0 : 0 <= v) (h1 : v < n) : FI n (door.set x v) f :=
 ⟨by simpa using h.ld, h.lu, h.lb, fun i hi => by rw [gn_set (by rw [h.ld]; exact hx)]; split; exact ⟨h0, h1⟩; exact h.dr i hi, h.ur, h.br⟩
theorem FI.hang {n : Nat} {door : List Int} {f : Fo} (h : FI n door f) {x : Nat} {v : Int} (hx : x < n) (h0 : -1 <= v) (h1 : v < x) : FI n door ⟨f.up.set x v, f.best⟩ :=
 ⟨h.ld, by simpa using h.lu, h.lb, h.dr, fun i hi => by
  show -1 <= gn (f.up.set x v) i /\ gn (f.up.set x v) i < i
  rw [gn_set (by rw [h.lu]; exact hx)]; split
  ·next e => subst e; exact ⟨h0, h1⟩
  ·exact h.ur i hi, h.br⟩
def rawE (v : Value) : Option (DataW Value × List MemPlace) := some (.held v, [])
structure DR (w : World) (B fb gd gu gb ov mw n : Nat) (door : List Int) (f : Fo) (over : List Int) (wt : Int -> List Int) (val : Int -> Value) (c : Nat) : Prop where
 fr : FR w fb gd gu gb n door f
 ovr : w.heap[ov]? = some (.cells (ivs over).toArray 3 (0, 0))
 lo : ∀ k, FF fb gd gu gb k \/ k = ov \/ k = mw -> B <= k
 mp : ∃ D, w.ownsMap Tryz.prog 3 rawE mw c D /\ ∀ a, Fits a -> D.atKey (.int .i64 a) (.held vn0) = .held (val a)
 own : ∀ a, OwnI w B (val a) (wt a).length (wt a)
 ne : ∀ a b, a ≠ b -> ∀ g, (val a).ownBlock = some g -> (val b).ownBlock ≠ some g
 apart : ∀ a g, (val a).ownBlock = some g -> g ≠ gd /\ g ≠ gu /\ g ≠ gb /\ g ≠ ov
 ovne : ov ≠ gd /\ ov ≠ gu /\ ov ≠ gb
theorem own_map_moveR {w w' : World} {b c : Nat} {D : DataW Value} (h : w.ownsMap Tryz.prog 3 rawE b c D) (hk : w'.heap[b]? = w.heap[b]?) : w'.ownsMap Tryz.prog 3 rawE b c D := by
 obtain ⟨es, cl, h1, h2⟩ := h
 exact ⟨es, cl, hk.trans h1, h2⟩
theorem map_ne {w : World} {mw c g : Nat} {D : DataW Value} (h : w.ownsMap Tryz.prog 3 rawE mw c D) {A : Array Value} {t : TypeId} {fz : Nat × Nat} (hg : w.heap[g]? = some (.cells A t fz)) : g ≠ mw := by
 rintro rfl
 obtain ⟨es, cl, h1, _⟩ := h
 rw [h1] at hg; cases hg
theorem own_nomap {w : World} {mw c : Nat} {D : DataW Value} (h : w.ownsMap Tryz.prog 3 rawE mw c D) {B : Nat} {v : Value} {n : Nat} {L : List Int} (ho : OwnI w B v n L) : v.ownBlock ≠ some mw := by
 rcases ho.out.2 with ⟨rfl, _⟩ | ⟨g, cap, cur, rfl, _, e3, _⟩
 ·simp [Value.ownBlock]
 ·intro e
  simp [Value.ownBlock] at e
  exact map_ne h e3 e
def DF (fb gd gu gb ov mw : Nat) (val : Int -> Value) (k : Nat) : Prop := FF fb gd gu gb k \/ k = ov \/ k = mw \/ ∃ a, (val a).ownBlock = some k
theorem DR.lt {w B fb gd gu gb ov mw n door f over wt val c} (h : DR w B fb gd gu gb ov mw n door f over wt val c) : ∀ k, DF fb gd gu gb ov mw val k -> k < w.heap.size /\ B <= k := by
 obtain ⟨D, d1, _⟩ := h.mp
 rintro k (hk | rfl | rfl | ⟨a, ha⟩)
 ·exact ⟨h.fr.lt k hk, h.lo k (.inl hk)⟩
 ·exact ⟨(gl h.ovr), h.lo k (.inr (.inl rfl))⟩
 ·exact ⟨d1.lt, h.lo k (.inr (.inr rfl))⟩
 ·have := own_block (h.own a).out ha; exact ⟨this.2, this.1⟩
theorem DR.move {w w' : World} {B fb gd gu gb ov mw n door f over wt val c} (h : DR w B fb gd gu gb ov mw n door f over wt val c) (hk : ∀ k, DF fb gd gu gb ov mw val k -> w'.heap[k]? = w.heap[k]?) : DR w' B fb gd gu gb ov mw n door f over wt val c := by
 obtain ⟨D, d1, d2⟩ := h.mp
 exact ⟨h.fr.move fun k hf => hk k (.inl hf), (hk ov (.inr (.inl rfl))).trans h.ovr, h.lo, ⟨D, own_map_moveR d1 (hk mw (.inr (.inr (.inl rfl)))), d2⟩, fun a => ⟨(h.own a).len, own_move (h.own a).out fun g hg => hk g (.inr (.inr (.inr ⟨a, hg⟩)))⟩, h.ne, h.apart, h.ovne⟩
theorem DR.drewN {w B fb gd gu gb ov mw n door f over wt val c} (h : DR w B fb gd gu gb ov mw n door f over wt val c) (k : Nat) : DR (w.drewN k) B fb gd gu gb ov mw n door f over wt val c := h.move fun g hg => drewN_at w k g (h.lt g hg).1
theorem DR.forest {w w' : World} {B fb gd gu gb ov mw n door f over wt val c door' f'} (h : DR w B fb gd gu gb ov mw n door f over wt val c) (hf : FR w' fb gd gu gb n door' f') (ho : ∀ k, k < w.heap.size -> k ≠ gd -> k ≠ gu -> k ≠ gb -> w'.heap[k]? = w.heap[k]?) : DR w' B fb gd gu gb ov mw n door' f' over wt val c := by
 obtain ⟨D, d1, d2⟩ := h.mp
 have hm : gd ≠ mw /\ gu ≠ mw /\ gb ≠ mw := ⟨map_ne d1 h.fr.d, map_ne d1 h.fr.u, map_ne d1 h.fr.b⟩
 refine ⟨hf, (ho ov (h.lt ov (.inr (.inl rfl))).1 h.ovne.1 h.ovne.2.1 h.ovne.2.2).trans h.ovr, h.lo, ⟨D, own_map_moveR d1 (ho mw d1.lt hm.1.symm hm.2.1.symm hm.2.2.symm), d2⟩, fun a => ⟨(h.own a).len, own_move (h.own a).out fun g hg => ?_⟩, h.ne, h.apart, h.ovne⟩
 obtain ⟨p1, p2, p3, _⟩ := h.apart a g hg
 exact ho g (own_block (h.own a).out hg).2 p1 p2 p3
theorem DR.over {w : World} {B fb gd gu gb ov mw n door f over wt val c} (h : DR w B fb gd gu gb ov mw n door f over wt val c) (i : Nat) (v : Int) : DR (w.setCell ⟨ov, i, none⟩ (.int .i64 v)) B fb gd gu gb ov mw n door f (over.set i v) wt val c := by
 obtain ⟨D, d1, d2⟩ := h.mp
 have hfo : fb ≠ ov := by rintro rfl; have := h.fr.box; rw [h.ovr] at this; simp only [Option.some.injEq, Obj.cells.injEq] at this; exact absurd this.2.1 (by decide)
 refine ⟨h.fr.move fun k hk => heap_set_other ?_, ?_, h.lo, ⟨D, own_map_moveR d1 (heap_set_other (map_ne d1 h.ovr).symm), d2⟩, fun a => ⟨(h.own a).len, own_move (h.own a).out fun g hg => heap_set_other (h.apart a g hg).2.2.2⟩, h.ne, h.apart, h.ovne⟩
 ·rcases hk with rfl | rfl | rfl | rfl
  ·exact hfo
  ·exact h.ovne.1.symm
  ·exact h.ovne.2.1.symm
  ·exact h.ovne.2.2.symm
 ·have := heap_set_at (i := i) (v := .int .i64 v) h.ovr
  rw [ivs_set] at this; exact this
theorem zero31 (w : World) : (zeroValue 25).run Tryz.prog w = .ok (.slice none 0 0) w := by kernel_rfl
theorem DR.look {w B fb gd gu gb ov mw n door f over wt val c} (h : DR w B fb gd gu gb ov mw n door f over wt val c) {a : Int} (ha : Fits a) : (Instr.lookup 184 (.map (some mw)) (.int .i64 a) false).run Tryz.prog w = .ok (val a) w := by
 obtain ⟨D, d1, d2⟩ := h.mp
 obtain ⟨v, ps, hr, hv⟩ := d1.lookup law3 Tryz.underlying184 (zero31 w) (zd := .held vn0) (zp := []) rfl (keyOf_int_mk Tryz.underlying3 ha.wf)
 rw [d2 a ha] at hv
 simp only [rawE, Option.some.injEq, Prod.mk.injEq, DataW.held.injEq] at hv
 rw [<- hv.1]; exact hr
theorem DR.put {w w6 w7 : World} {B fb gd gu gb ov mw n door f over wt val c} (h : DR w B fb gd gu gb ov mw n door f over wt val c) {d x : Int} (hd : Fits d) {v6 : Value} (h6 : OwnI w6 B v6 ((wt d).length + 1) (wt d ++ [x])) (g6 : GI B w w6 (val d) v6) {D : DataW Value} (d1 : w.ownsMap Tryz.prog 3 rawE mw c D) (d2 : ∀ a, Fits a -> D.atKey (.int .i64 a) (.held vn0) = .held (val a)) (o7 : w7.ownsMap Tryz.prog 3 rawE mw (c + 1) (D.put (.int .i64 d) (.held v6))) (gr : w6.grownBy w7 (some mw)) :
 DR w7 B fb gd gu gb ov mw n door f over (upd wt d (wt d ++ [x])) (upd val d v6) (c + 1) := by
 have hsz := g6.bel.size
 have nm := own_nomap d1 (h.own d)
 have d6 : w6.ownsMap Tryz.prog 3 rawE mw c D := own_map_moveR d1 (g6.blk mw d1.lt nm)
 have nm6 := own_nomap d6 h6
 have key : ∀ k, k < w.heap.size -> k ≠ mw -> (val d).ownBlock ≠ some k -> w7.heap[k]? = w.heap[k]? := fun k hk h1 h2 =>
  (gr.block k (by omega) (fun e => h1 (by cases e; rfl))).trans (g6.blk k hk h2)
 have fbn : (val d).ownBlock ≠ some fb := own_not (h.own d).out h.fr.box (by decide)
 have fbm : fb ≠ mw := map_ne d1 h.fr.box
 refine ⟨h.fr.move fun k hk => key k (h.fr.lt k hk) ?_ ?_, (key ov (h.lt ov (.inr (.inl rfl))).1 (map_ne d1 h.ovr) (fun e => (h.apart d ov e).2.2.2 rfl)).trans h.ovr, h.lo, ⟨_, o7, fun a ha => ?_⟩, fun a => ?_, fun a b hab g => ?_, fun a g => ?_, h.ovne⟩
 ·rcases hk with rfl | rfl | rfl | rfl
  ·exact fbm
  ·exact map_ne d1 h.fr.d
  ·exact map_ne d1 h.fr.u
  ·exact map_ne d1 h.fr.b
 ·intro e
  rcases hk with rfl | rfl | rfl | rfl
  ·exact fbn e
  ·exact (h.apart d _ e).1 rfl
  ·exact (h.apart d _ e).2.1 rfl
  ·exact (h.apart d _ e).2.2.1 rfl
 ·unfold upd
  by_cases e : a = d
  ·subst e
   rw [if_pos rfl]
   exact atKey_put_same d1.isMap (show WideAt.IsKeyLit (Lit.int .i64 _) from trivial) _ _
  ·rw [atKey_put_other (key_ne e), if_neg e]; exact d2 a ha
 ·unfold upd
  by_cases e : a = d
  ·subst e
   rw [if_pos rfl, if_pos rfl]
   refine ⟨rfl, ?_⟩
   have e2 : (wt a ++ [x]).length = (wt a).length + 1 := by simp
   rw [e2]
   exact own_move h6.out fun g hg => gr.block g (own_block h6.out hg).2 (fun e3 => nm6 (by rw [hg, <- e3]))
  ·rw [if_neg e, if_neg e]
   exact ⟨rfl, own_move (h.own a).out fun g hg => key g (own_block (h.own a).out hg).2 (fun e3 => own_nomap d1 (h.own a) (by rw [hg, e3])) (h.ne a d e g hg)⟩
 ·unfold upd
  by_cases e1 : a = d
  ·rw [if_pos e1, if_neg (fun e2 => hab (e1.trans e2.symm))]
   intro hg hg2
   rcases g6.own g hg with h1 | h1
   ·exact h.ne d b (fun e => hab (e1.trans e)) g h1 hg2
   ·have := (own_block (h.own b).out hg2).2; omega
  ·rw [if_neg e1]
   by_cases e2 : b = d
   ·rw [if_pos e2]
    intro hg hg2
    rcases g6.own g hg2 with h1 | h1
    ·exact h.ne a d e1 g hg h1
    ·have := (own_block (h.own a).out hg).2; omega
   ·rw [if_neg e2]; exact h.ne a b hab g
 ·unfold upd
  by_cases e1 : a = d
  ·rw [if_pos e1]
   intro hg
   rcases g6.own g hg with h1 | h1
   ·exact h.apart d g h1
   ·have l1 := h.fr.lt gd (.inr (.inl rfl))
    have l2 := h.fr.lt gu (.inr (.inr (.inl rfl)))
    have l3 := h.fr.lt gb (.inr (.inr (.inr rfl)))
    have l4 := (h.lt ov (.inr (.inl rfl))).1
    omega
  ·rw [if_neg e1]; exact h.apart a g
theorem DR.del {w w' : World} {B fb gd gu gb ov mw n door f over wt val c} (h : DR w B fb gd gu gb ov mw n door f over wt val c) {d : Int} {D : DataW Value} (d1 : w.ownsMap Tryz.prog 3 rawE mw c D) (d2 : ∀ a, Fits a -> D.atKey (.int .i64 a) (.held vn0) = .held (val a)) (o7 : w'.ownsMap Tryz.prog 3 rawE mw c (D.del (.int .i64 d))) (gr : w.grownBy w' (some mw)) :
 DR w' B fb gd gu gb ov mw n door f over (upd wt d []) (upd val d vn0) c := by
 have key : ∀ k, k < w.heap.size -> k ≠ mw -> w'.heap[k]? = w.heap[k]? := fun k hk h1 => gr.block k hk (fun e => h1 (by cases e; rfl))
 refine ⟨h.fr.move fun k hk => key k (h.fr.lt k hk) ?_, (key ov (h.lt ov (.inr (.inl rfl))).1 (map_ne d1 h.ovr)).trans h.ovr, h.lo, ⟨_, o7, fun a ha => ?_⟩, fun a => ?_, fun a b hab g => ?_, fun a g => ?_, h.ovne⟩
 ·rcases hk with rfl | rfl | rfl | rfl
  ·exact map_ne d1 h.fr.box
  ·exact map_ne d1 h.fr.d
  ·exact map_ne d1 h.fr.u
  ·exact map_ne d1 h.fr.b
 ·unfold upd
  by_cases e : a = d
  ·subst e
   rw [if_pos rfl]
   exact atKey_del_same _
  ·rw [atKey_del_other (key_ne e), if_neg e]; exact d2 a ha
 ·unfold upd
  by_cases e : a = d
  ·rw [if_pos e, if_pos e]; exact OwnI.nil _ _
  ·rw [if_neg e, if_neg e]
   exact ⟨rfl, own_move (h.own a).out fun g hg => key g (own_block (h.own a).out hg).2 (fun e3 => own_nomap d1 (h.own a) (by rw [hg, e3]))⟩
 ·unfold upd
  by_cases e1 : a = d
  ·rw [if_pos e1]; intro hg; simp [vn0, Value.ownBlock] at hg
  ·rw [if_neg e1]
   by_cases e2 : b = d
   ·rw [if_pos e2]; intro _; simp [vn0, Value.ownBlock]
   ·rw [if_neg e2]; exact h.ne a b hab g
 ·unfold upd
  by_cases e1 : a = d
  ·rw [if_pos e1]; intro hg; simp [vn0, Value.ownBlock] at hg
  ·rw [if_neg e1]; exact h.apart a g
theorem dIn_take (x : Nat) (src : List Int) (d : List Int × Fo) {j : Nat} (hj : j < src.length) : dIn x (src.take (j + 1)) d = (((dIn x (src.take j) d).1.set x (min (gn (dIn x (src.take j) d).1 x) (gn (dIn x (src.take j) d).1 (lst (dIn x (src.take j) d).1 (dIn x (src.take j) d).2 (src[j]).toNat).1))), (lst (dIn x (src.take j) d).1 (dIn x (src.take j) d).2 (src[j]).toNat).2) := by
 rw [<- List.take_append_getElem hj, dIn, List.foldl_append]
 rfl
theorem dIn_fi {n x : Nat} (hx : x < n) {door : List Int} {f : Fo} : ∀ (src : List Int), (∀ y ∈ src, 0 <= y /\ y < n) -> FI n door f -> FI n (dIn x src (door, f)).1 (dIn x src (door, f)).2
 | src, hs, h => by
   have key : ∀ (l : List Int) (d : List Int × Fo), (∀ y ∈ l, 0 <= y /\ y < n) -> FI n d.1 d.2 -> FI n (dIn x l d).1 (dIn x l d).2 := by
    intro l
    induction l with
    | nil => intro d _ h; exact h
    | cons y l ih =>
      intro d hl hd
      have hy := hl y (by simp)
      obtain ⟨q1, q2, _⟩ := hd.lst (x := y.toNat) (by omega)
      have e1 := hd.dr x hx
      have e2 := hd.dr _ q2
      refine ih _ (fun z hz => hl z (by simp [hz])) ?_
      exact q1.door hx (by omega) (by omega)
   exact key src (door, f) hs h
theorem dOv_take (door : List Int) (above : Nat) (l : List Int) (d : List Int × Fo) {j : Nat} (hj : j < l.length) : dOv door above (l.take (j + 1)) d = ((dOv door above (l.take j) d).1.set (l[j]).toNat ((lbw door (dOv door above (l.take j) d).2 (l[j]).toNat above).1 : Int), (lbw door (dOv door above (l.take j) d).2 (l[j]).toNat above).2) := by
 rw [<- List.take_append_getElem hj, dOv, List.foldl_append]
 rfl
theorem dOv_ok {n above : Nat} (ha : above < n) {door : List Int} : ∀ (l : List Int) (d : List Int × Fo), (∀ y ∈ l, 0 <= y /\ y < n) -> FI n door d.2 -> d.1.length = n -> (∀ i, i < n -> 0 <= gn d.1 i /\ gn d.1 i < n) -> FI n door (dOv door above l d).2 /\ (dOv door above l d).1.length = n /\ (∀ i, i < n -> 0 <= gn (dOv door above l d).1 i /\ gn (dOv door above l d).1 i < n)
 | [], d, _, h1, h2, h3 => ⟨h1, h2, h3⟩
 | y :: l, d, hl, h1, h2, h3 => by
   have hy := hl y (by simp)
   obtain ⟨q1, q2, _⟩ := h1.lbw (low := y.toNat) (above := above) (by omega) ha
   refine dOv_ok ha l (d.1.set y.toNat ((lbw door d.2 y.toNat above).1 : Int), (lbw door d.2 y.toNat above).2) (fun z hz => hl z (by simp [hz])) q1 (by simpa using h2) fun i hi => ?_
   show 0 <= gn (d.1.set _ _) i /\ gn (d.1.set _ _) i < n
   rw [gn_set (by rw [h2]; omega)]
   split
   ·omega
   ·exact h3 i hi
def led (P : Program) (ops : Array Oper) (Q : Exit -> Act -> World -> Prop) (S : World -> Prop) (z : Nat) : Nat -> Array Bool -> Act -> World -> Prop
 | 0, l, a, w => Region.ready .any ops l = [] /\ Q .normal a w
 | k + 1, l, a, w => (Region.ready .any ops l = [] -> Q .normal a w) /\ ∀ i ∈ Region.ready .any ops l, wpOp P ops Q i (fun a' w' => (i ≠ z -> S w') /\ led P ops Q S z k (l.setIfInBounds i true) a' w') a w
theorem led_any {P : Program} {ops : Array Oper} {Q : Exit -> Act -> World -> Prop} {S : World -> Prop} {z : Nat} : ∀ (k : Nat) (l : Array Bool) (a : Act) (w : World), led P ops Q S z k l a w -> wpAny P .any ops Q k l a w
 | 0, _, _, _, h => h
 | k + 1, _, _, _, h => ⟨h.1, fun i hi => wpOp_mono (fun a' w' h' => led_any k _ a' w' h'.2) (h.2 i hi)⟩
def waitsFor (ops : Array Oper) (z i : Nat) : Bool := match ops[z]? with
 | some o => o.after.any fun e => Region.binds .any e && e.on == i
 | none => false
theorem not_yet {ops : Array Oper} {z i : Nat} {l : Array Bool} (hw : waitsFor ops z i = true) (hi : i ∈ Region.ready .any ops l) : z ∉ Region.ready .any ops l := by
 intro hz
 obtain ⟨_, o, ho, hall⟩ := mem_ready.1 hz
 unfold waitsFor at hw
 rw [ho] at hw
 simp only [Array.any_eq_true', Bool.and_eq_true, beq_iff_eq] at hw
 obtain ⟨e, he, hb, hon⟩ := hw
 have h1 := hall e he hb
 have h0 := (mem_ready.1 hi).1
 rw [hon] at h1
 rcases Nat.lt_or_ge i l.size with h' | h'
 ·simp [h'] at h0 h1; rw [h0] at h1; cases h1
 ·simp [Array.getElem?_eq_none h'] at h1
theorem led_first {P : Program} {ops : Array Oper} {Q : Exit -> Act -> World -> Prop} {S : World -> Prop} {z i : Nat} {oi : Oper} {v : Value} (hi : ops[i]? = some oi) (hsel : ∀ (j : Nat) (o : Oper) cs b, ops[j]? = some o -> o.op ≠ .select cs b) (hQ : ∀ c a w, Q (.panic c) (a.put oi.dst v) w -> Q (.panic c) a w) (hz : waitsFor ops z i = true) (hzi : i ≠ z) :
 ∀ (k : Nat) (l : Array Bool) (a : Act) (w : World), (∀ j oj, ops[j]? = some oj -> j ≠ i -> l.getD j true = false -> (∀ e ∈ oj.after, Region.binds .any e = true -> e.on ≠ i) -> oi.apart ops oj = true) -> i ∈ Region.ready .any ops l -> YieldsIf P ops S oi v a -> S w -> led P ops Q S z k (l.setIfInBounds i true) (a.put oi.dst v) w -> led P ops Q S z (k + 1) l a w := by
 intro k
 induction k with
 | zero =>
   intro l a w _ hr hy hS H
   refine ⟨fun h => absurd hr (by rw [h]; simp), fun j hj => ?_⟩
   by_cases e : j = i
   ·subst e
    exact hy.wpOp hi hS ⟨fun _ => hS, H⟩
   ·have h1 := ready_mono hj e
    rw [H.1] at h1
    simp at h1
 | succ k ih =>
   intro l a w hfree hr hy hS H
   refine ⟨fun h => absurd hr (by rw [h]; simp), fun j hj => ?_⟩
   by_cases e : j = i
   ·subst e
    exact hy.wpOp hi hS ⟨fun _ => hS, H⟩
   ·have hjz : j ≠ z := fun e2 => not_yet hz hr (e2 ▸ hj)
    obtain ⟨hun, oj, hoj, hall⟩ := mem_ready.1 hj
    have hno : ∀ e ∈ oj.after, Region.binds .any e = true -> e.on ≠ i := fun x hx hb heq => by
     have h1 := hall x hx hb
     have h0 := (mem_ready.1 hr).1
     rw [heq] at h1
     rcases Nat.lt_or_ge i l.size with h' | h'
     ·simp [h'] at h0 h1; rw [h0] at h1; cases h1
     ·simp [Array.getElem?_eq_none h'] at h1
    have h2 := wpOp_putIf hoj (hfree j oj hoj e hun hno) (fun cs b => hsel i oi cs b hi) (fun cs b => hsel j oj cs b hoj) hQ hy (H.2 j (ready_mono hj e))
    refine wpOp_mono (fun a' w' h3 => ⟨fun _ => h3.2.1 hjz, ih (l.setIfInBounds j true) a' w' ?_ (ready_mono hr (Ne.symm e)) h3.1 (h3.2.1 hjz) ?_⟩) h2
    ·intro m om hm hmi hmun hmno
     refine hfree m om hm hmi ?_ hmno
     by_cases ejm : j = m
     ·subst ejm; exact hun
     ·rw [getD_set_ne true ejm] at hmun; exact hmun
    ·rw [Array.setIfInBounds_comm _ _ e]
     exact h3.2.2
theorem led_take {P : Program} {ops : Array Oper} {Q : Exit -> Act -> World -> Prop} {S : World -> Prop} {z i : Nat} {oi : Oper} {v : Value} {k : Nat} {l : Array Bool} {a : Act} {w : World} (hi : ops[i]? = some oi) (hs : Region.noSelect ops = true) (hf : Region.free .any ops l i = true) (hr : (Region.ready .any ops l).contains i = true) (hz : (waitsFor ops z i && i != z) = true)
 (hQ : ∀ c a w, Q (.panic c) (a.put oi.dst v) w -> Q (.panic c) a w) (hy : YieldsIf P ops S oi v a) (hS : S w) (h : led P ops Q S z k (l.setIfInBounds i true) (a.put oi.dst v) w) : led P ops Q S z (k + 1) l a w := by
 simp only [Bool.and_eq_true, bne_iff_ne, ne_eq] at hz
 exact led_first hi (Region.noSelect_spec hs) hQ hz.1 hz.2 k l a w (Region.free_spec hi hf) (by simpa using hr) hy hS h
theorem led_t {P : Program} {ops : Array Oper} {Q : Exit -> Act -> World -> Prop} {S : World -> Prop} {z i : Nat} {oi : Oper} {v : Value} {k : Nat} {l : Array Bool} {a : Act} {w : World} (hi : ops[i]? = some oi) (hb : (Region.noSelect ops && (Region.free .any ops l i && ((Region.ready .any ops l).contains i && (waitsFor ops z i && i != z)))) = true) (hy : YieldsIf P ops S oi v a) (hS : S w) (h : led P ops Q S z k (l.setIfInBounds i true) (a.put oi.dst v) w) (hQ : ∀ c a w, Q (.panic c) (a.put oi.dst v) w -> Q (.panic c) a w := by exact fun _ _ _ h => h) : led P ops Q S z (k + 1) l a w := by
 obtain ⟨h1, hb⟩ := Bool.and_eq_true_iff.1 hb
 obtain ⟨h2, hb⟩ := Bool.and_eq_true_iff.1 hb
 obtain ⟨h3, h4⟩ := Bool.and_eq_true_iff.1 hb
 exact led_take hi h1 h2 h3 h4 hQ hy hS h
theorem led_n {P : Program} {ops : Array Oper} {Q : Exit -> Act -> World -> Prop} {S : World -> Prop} {z : Nat} {oi : Oper} {v : Value} {k : Nat} {l : Array Bool} {a a' : Act} {w : World} (i : Nat) (hS : S w) (h : led P ops Q S z k (l.setIfInBounds i true) a' w) (hi : ops[i]? = some oi := by exact rfl) (hb : (Region.noSelect ops && (Region.free .any ops l i && ((Region.ready .any ops l).contains i && (waitsFor ops z i && i != z)))) = true := by kernel_rfl) (hy : YieldsIf P ops S oi v a := by exact .inl ⟨by rfl, by intro w' h; (repeat obtain ⟨_, h⟩ : _ /\ _ := h); go_simp; all_goals with_reducible rfl⟩) (ha : a.put oi.dst v = a' := by (try simp only [Act.put, zi, zz, zs]); exact rfl) (hQ : ∀ c a w, Q (.panic c) (a.put oi.dst v) w -> Q (.panic c) a w := by exact fun _ _ _ h => h) : led P ops Q S z (k + 1) l a w := by
 subst ha
 exact led_t hi hb hy hS h hQ
theorem led_one {P : Program} {ops : Array Oper} {Q : Exit -> Act -> World -> Prop} {S : World -> Prop} {z i : Nat} {oi : Oper} {k : Nat} {l : Array Bool} {a : Act} {w : World} (hi : ops[i]? = some oi) (hr : Region.ready .any ops l = [i])
 (h : ∀ K' : Act -> World -> Prop, (∀ a' w', (i ≠ z -> S w') -> led P ops Q S z k (l.setIfInBounds i true) a' w' -> K' a' w') -> if Region.wanted oi (yielded ops a.tmps) = true then Oper.wp P oi a w K' Q else K' (a.put oi.dst undef) w) : led P ops Q S z (k + 1) l a w := by
 refine ⟨fun h0 => absurd h0 (by rw [hr]; simp), fun j hj => ?_⟩
 rw [hr] at hj
 simp at hj
 subst hj
 exact wpOp_step hi fun K' hK => h K' fun a' w' h1 h2 => hK a' w' ⟨h1, h2⟩
theorem led_done {P : Program} {ops : Array Oper} {Q : Exit -> Act -> World -> Prop} {S : World -> Prop} {z : Nat} {l : Array Bool} {a : Act} {w : World} (hr : Region.ready .any ops l = []) (h : Q .normal a w) : led P ops Q S z 0 l a w := ⟨hr, h⟩
theorem led_start {P : Program} {id : Nat} {ops : Array Oper} {Q : Exit -> Act -> World -> Prop} {S : World -> Prop} {z : Nat} {a : Act} {w : World} (hm : P.follows .mixedOrders = true) (h : led P ops Q S z ops.size (Array.replicate ops.size false) a w.drew) : (Code.region id ops true).wp P Q a w :=
 wp_region_any hm (led_any _ _ _ _ h)
end Go.Proofs.YtfbkopjncmkbiaaGreatDoor
