import Derived.Test.YthjjdfiaikibaabDmL
set_option linter.unusedVariables false
set_option linter.unusedSimpArgs false
namespace Go.Proofs.Ythjjdfiaikibaab
open Go.ChangeShapes Go.WideShapes Go.ChangeAt Go.RowKit Go.Maps

def vn0 : Value := .slice none 0 0
/-- A list of lists of numbers, each in a row of its own. -/
structure FA (w : World) (B go n : Nat) (vs : List Value) (S : List (List Int)) : Prop where
  out : w.heap[go]? = some (.cells vs.toArray 27 (0, 0))
  lo : B ≤ go
  lv : vs.length = n
  ls : S.length = n
  own : ∀ i, i < n → OwnI w B (vs.getD i vn0) (S.getD i []).length (S.getD i [])
  ne : ∀ i j, i < n → j < n → i ≠ j → ∀ g, (vs.getD i vn0).ownBlock = some g → (vs.getD j vn0).ownBlock ≠ some g
theorem FA.start (w : World) (B n : Nat) (hB : B ≤ w.heap.size) : FA (w.alloc (.cells (madeCells #[vn0] n) 27)) B w.heap.size n (List.replicate n vn0) (List.replicate n []) := by
  have hv : ∀ i, (List.replicate n vn0).getD i vn0 = vn0 := fun i => by rw [List.getD, List.getElem?_replicate]; split <;> rfl
  have hs : ∀ i, (List.replicate n ([] : List Int)).getD i [] = [] := fun i => by rw [List.getD, List.getElem?_replicate]; split <;> rfl
  refine ⟨?_, hB, by simp, by simp, fun i hi => ?_, fun i j _ _ _ g hg => ?_⟩
  · have e : madeCells #[vn0] n = (List.replicate n vn0).toArray := by
      apply Array.toList_inj.1
      rw [toList_madeCells_one]
    rw [e]; exact heap_alloc_new _ _
  · rw [hv, hs]; exact OwnI.nil _ _
  · rw [hv] at hg; simp [vn0, Value.ownBlock] at hg
theorem FA.move {w w' : World} {B go n vs S} (h : FA w B go n vs S) (hb : Below w.heap.size w w') : FA w' B go n vs S :=
  ⟨(hb.block go (Array.getElem?_eq_some_iff.1 h.out).1).trans h.out, h.lo, h.lv, h.ls, fun i hi => (h.own i hi).keep hb, h.ne⟩
theorem FA.go_ne {w : World} {B go n vs S} (h : FA w B go n vs S) {i : Nat} (hi : i < n) : (vs.getD i vn0).ownBlock ≠ some go := own_not (h.own i hi).out h.out (by decide)
theorem FA.irow {w : World} {B go n vs S} (h : FA w B go n vs S) (hn : n ≤ 9223372036854775807) : IRow w (some ⟨go, 0, none⟩) n S := by
  refine ⟨by rw [h.ls]; exact Nat.le_refl _, hn, fun _ => ⟨go, 0, rfl, (Array.getElem?_eq_some_iff.1 h.out).1, fun i hi => ?_⟩⟩
  have hin : i < n := by rw [← h.ls]; exact hi
  obtain ⟨ao, c, e, hI⟩ := (h.own i hin).ints
  have e2 : S.getD i [] = S[i] := by simp [hi]
  rw [e2] at e hI
  refine ⟨ao, c, ?_, hI⟩
  rw [Nat.zero_add]
  refine cell_arr h.out ?_
  have hv : i < vs.length := by rw [h.lv]; exact hin
  have e3 : vs.getD i vn0 = vs[i] := by simp [hv]
  rw [← e, e3]
  simp [hv]
theorem FA.app {w w6 : World} {B go n vs S} (h : FA w B go n vs S) {p : Nat} (hp : p < n) {v6 : Value} {x : Int} (h6 : OwnI w6 B v6 ((S.getD p []).length + 1) (S.getD p [] ++ [x])) (g6 : GI B w w6 (vs.getD p vn0) v6) : FA (w6.setCell ⟨go, p, none⟩ v6) B go n (vs.set p v6) (S.set p (S.getD p [] ++ [x])) := by
  have o6 : w6.heap[go]? = some (.cells vs.toArray 27 (0, 0)) := (g6.blk go (Array.getElem?_eq_some_iff.1 h.out).1 (h.go_ne hp)).trans h.out
  have n6 := own_not h6.out o6 (by decide)
  have gv : ∀ i, (vs.set p v6).getD i vn0 = if i = p then v6 else vs.getD i vn0 := fun i => by
    by_cases e : i = p
    · subst e; rw [if_pos rfl]; simp [List.getD, h.lv, hp]
    · rw [if_neg e]; simp [List.getD, List.getElem?_set, Ne.symm e]
  have gs : ∀ i, (S.set p (S.getD p [] ++ [x])).getD i [] = if i = p then S.getD p [] ++ [x] else S.getD i [] := fun i => by
    by_cases e : i = p
    · subst e; rw [if_pos rfl]; simp [List.getD, h.ls, hp]
    · rw [if_neg e]; simp [List.getD, List.getElem?_set, Ne.symm e]
  refine ⟨?_, h.lo, by simpa using h.lv, by simpa using h.ls, fun i hi => ?_, fun i j hi hj hij g => ?_⟩
  · have := heap_set_at (i := p) (v := v6) o6
    simpa using this
  · rw [gv, gs]
    by_cases e : i = p
    · rw [if_pos e, if_pos e]
      refine ⟨rfl, ?_⟩
      have e2 : (S.getD p [] ++ [x]).length = (S.getD p []).length + 1 := by simp
      rw [e2]
      exact own_move h6.out fun g hg => heap_set_other (fun e => n6 (by rw [hg, e]))
    · rw [if_neg e, if_neg e]
      have hi' := h.own i hi
      refine ⟨rfl, own_move hi'.out fun g hg => ?_⟩
      rw [heap_set_other (fun e3 => h.go_ne hi (by rw [hg, e3])), g6.blk g (own_block hi'.out hg).2 (h.ne i p hi hp e g hg)]
  · rw [gv, gv]
    have nn : ∀ k, k < n → k ≠ p → ∀ g, (vs.getD k vn0).ownBlock = some g → v6.ownBlock ≠ some g := fun k hk hkp g hg hg6 => by
      rcases g6.own g hg6 with h1 | h1
      · exact h.ne k p hk hp hkp g hg h1
      · have := (own_block (h.own k hk).out hg).2; omega
    by_cases e1 : i = p
    · rw [if_pos e1, if_neg (fun e2 => hij (e1.trans e2.symm))]
      exact fun hg hg2 => nn j hj (fun e2 => hij (e1.trans e2.symm)) g hg2 hg
    · rw [if_neg e1]
      by_cases e2 : j = p
      · rw [if_pos e2]; exact nn i hi e1 g
      · rw [if_neg e2]; exact h.ne i j hi hj hij g
/-- For each place the places that lead there. -/
def srcIn (bl : List Int) (k : Nat) (row : List Int) (S : List (List Int)) : List (List Int) := row.foldl (fun S x => S.set (plc bl x).toNat (S.getD (plc bl x).toNat [] ++ [(k : Int)])) S
def srcN (bl : List Int) (Ls : List (List Int)) : Nat → List (List Int)
  | 0 => List.replicate bl.length []
  | k + 1 => srcIn bl k (rowOf Ls (bl.getD k 0)) (srcN bl Ls k)
def srcs (bl : List Int) (Ls : List (List Int)) : List (List Int) := srcN bl Ls bl.length
theorem srcIn_take (bl : List Int) (k : Nat) (row : List Int) (S : List (List Int)) {j : Nat} (hj : j < row.length) : srcIn bl k (row.take (j + 1)) S = (srcIn bl k (row.take j) S).set (plc bl row[j]).toNat ((srcIn bl k (row.take j) S).getD (plc bl row[j]).toNat [] ++ [(k : Int)]) := by
  rw [← List.take_append_getElem hj, srcIn, List.foldl_append]
  rfl
theorem infoSl : (Try.prog.info? 27).map (fun i => (i.zero, i.size, i.bytes)) = some (some (.slice none 0 0), 1, 24) := by kernel_rfl

set_option maxRecDepth 100000 in
set_option maxHeartbeats 4000000 in
theorem sources_any (w : World) {B wb mb v1 v2 bl mt} (H : WKS w B wb mb v1 v2 bl mt) (hBw : B ≤ w.heap.size) (ao : Option Addr) (nL c : Nat) (Ls : List (List Int)) (hn : nL = Ls.length) (h : IRow w ao c Ls) (hrg : ∀ x ∈ bl, 0 ≤ x ∧ x < Ls.length) (hcl : ∀ x ∈ bl, ∀ y ∈ rowOf Ls x, y ∈ bl) (hsz : bl.length ≤ 1000000) (hM : ∀ l ∈ Ls, l.length ≤ 1000000) :
    Calls Try.prog 21 #[.pointer (some ⟨wb, 0, none⟩), .slice ao nL c] w fun e w' => ∃ go, e = .returned (.slice (some ⟨go, 0, none⟩) bl.length bl.length) ∧ IRow w' (some ⟨go, 0, none⟩) bl.length (srcs bl Ls) ∧ Below w.heap.size w w' := by
  have hmk := run_make_row' (P := Try.prog) 26 27 (.slice none 0 0) 24 Try.underlying26 infoSl rfl .i64 .i64 bl.length (by omega) (by omega)
  obtain ⟨a1, c1, e1, n1, n1'⟩ := own_slice H.o1.out
  subst e1
  have k0 : w.cell? ⟨wb, 0, none⟩ = some (.slice a1 bl.length c1) := cell_arr (i := 0) H.box rfl
  obtain ⟨n, hnn⟩ : ∃ n, n = bl.length := ⟨_, rfl⟩
  have HH : Hid _ := H
  have HI : Hid _ := h
  have HRG : Hid _ := hrg
  have HCL : Hid _ := hcl
  have HM : Hid _ := hM
  have HN : Hid (nL = Ls.length) := hn
  have HNN : Hid (n = bl.length) := hnn
  rw [← hnn] at k0 hmk hsz n1
  have hwb : wb < w.heap.size := (H.lt wb (.inl rfl)).2
  have FS := FA.start w w.heap.size n (Nat.le_refl _)
  obtain ⟨w0, hw0⟩ : ∃ w0, w0 = w.alloc (.cells (madeCells #[.slice none 0 0] n) 27) := ⟨_, rfl⟩
  have b0 : Below w.heap.size w w0 := by rw [hw0]; exact (Below.refl _ _).alloc (Nat.le_refl _) _
  have q0 : w0.cell? ⟨wb, 0, none⟩ = some (.slice a1 n c1) := by rw [hw0]; exact cellA k0
  have hF0 : FA w0 w.heap.size w.heap.size n (List.replicate n vn0) (List.replicate n []) := by rw [hw0]; exact FS
  have HF0 : Hid _ := hF0
  have HB0 : Hid _ := b0
  have hz31 : ∀ u : World, True := fun _ => trivial
  clear H h hrg hcl hM hn hnn FS hF0 b0 hz31
  go_enter Try.func21, Try.ntmps21
  go_wp2_with fail
  rw [← hw0]
  clear hw0 hmk k0 q0
  obtain ⟨B1, hB1⟩ : ∃ B1, B1 = w.heap.size := ⟨_, rfl⟩
  rw [← hB1] at HF0 HB0 ⊢
  have HB1 : Hid (B1 = w.heap.size) := hB1
  clear hB1
  go_loopw [22] (fun v wr => ∃ (k : Nat) (vs : List Value), k ≤ n ∧ v = .int .i64 k ∧ Hid (FA wr B1 B1 n vs (srcN bl Ls k)) ∧ Hid (∀ i, ((srcN bl Ls k).getD i []).length ≤ k * 1000000) ∧ Hid (Below B1 w wr)) (fun v _ => n - (intOf v).toNat)
  case atStart =>
    refine ⟨0, _, by omega, rfl, by simp only [srcN]; rw [← HNN.out]; exact HF0.out, fun i => ?_, HB0.out⟩
    simp only [srcN, List.getD, List.getElem?_replicate]
    split <;> simp
  case round =>
    clear HF0 HB0
    obtain ⟨k, vs, hk, rfl, HF, HL, HB⟩ := hrel
    by_cases hlt : k < n
    · have hkb : k < bl.length := by have := HNN.out; omega
      have hBs : w.heap.size ≤ B1 := by have := HB1.out; omega
      have hbr := HRG.out bl[k] (List.getElem_mem hkb)
      obtain ⟨bn, hbn⟩ : ∃ bn : Nat, bl[k] = (bn : Int) := ⟨(bl[k]).toNat, by omega⟩
      have hbL : bn < Ls.length := by omega
      have hbL2 : bn < nL := by have := HN.out; omega
      obtain ⟨a0, c0, e0, hI1⟩ := HH.out.o1.ints
      cases e0
      obtain ⟨b1, o1, rfl, kx⟩ := (hI1.below HB.out hBs).at hkb
      rw [hbn] at kx
      obtain ⟨b2, o2, ar, cr, rfl, kr, hIr⟩ := HI.out.at hbL
      have kr2 := (HB.out.cell (p := ⟨b2, o2 + bn, none⟩) (by have := block_lt_of_cell kr; have := HB1.out; omega)).trans kr
      obtain ⟨row, hrow⟩ : ∃ row, row = Ls[bn] := ⟨_, rfl⟩
      rw [← hrow] at kr2 hIr
      have hro : rowOf Ls (bl.getD k 0) = row := by
        have : bl.getD k 0 = bl[k] := by simp [hkb]
        rw [this, hbn, hrow]; simp [rowOf, hbL]
      obtain ⟨rl, hrl⟩ : ∃ rl, rl = row.length := ⟨_, rfl⟩
      have hrM : rl ≤ 1000000 := by rw [hrl, hrow]; exact HM.out _ (List.getElem_mem hbL)
      rw [← hrl] at kr2
      have HRO : Hid (rowOf Ls (bl.getD k 0) = row) := hro
      have HRL : Hid (rl = row.length) := hrl
      have HIR : Hid (Ints w ar cr row) := hIr
      have HCK : Hid (∀ y ∈ row, y ∈ bl) := by
        intro y hy
        refine HCL.out bl[k] (List.getElem_mem hkb) y ?_
        have : bl.getD k 0 = bl[k] := by simp [hkb]
        rw [← this, hro]; exact hy
      clear kr hrow hro hrl hIr hI1 hbr hbn
      go_wp2_with fail
      go_loopw [32] (fun v wr' => ∃ (j : Nat) (vs' : List Value), j ≤ rl ∧ v = .int .i64 j ∧ Hid (FA wr' B1 B1 n vs' (srcIn bl k (row.take j) (srcN bl Ls k))) ∧ Hid (∀ i, ((srcIn bl k (row.take j) (srcN bl Ls k)).getD i []).length ≤ k * 1000000 + j) ∧ Hid (Below B1 w wr')) (fun v _ => rl - (intOf v).toNat)
      case atStart =>
        refine ⟨0, vs, by omega, rfl, HF.out, fun i => ?_, HB.out⟩
        have := HL.out i
        simp only [srcIn, List.take_zero, List.foldl_nil]
        generalize k * 1000000 = K at this ⊢
        exact Nat.le_trans this (Nat.le_add_right K 0)
      case round =>
        clear HF HL HB kx kr2
        obtain ⟨j, vs', hj, rfl, HF, HL, HB⟩ := hrel
        by_cases hjl : j < rl
        · have hjr : j < row.length := by have := HRL.out; omega
          obtain ⟨b3, o3, rfl, ky⟩ := (HIR.out.below HB.out hBs).at hjr
          obtain ⟨y, hy⟩ : ∃ y, y = row[j] := ⟨_, rfl⟩
          rw [← hy] at ky
          have hyb : y ∈ bl := by rw [hy]; exact HCK.out _ (List.getElem_mem hjr)
          have hyr := HRG.out y hyb
          have fy : Fits y := by unfold Fits; have := HN.out; have := HI.out.le; have := HI.out.mx; omega
          have WK := HH.out.move (w' := wr) fun g hg => HB.out.block g (by have := (HH.out.lt g hg).2; have := HB1.out; omega)
          have kb : wr.cell? ⟨wb, 1, none⟩ = some (.map (some mb)) := cell_arr (i := 1) WK.box rfl
          obtain ⟨D, d1, d2⟩ := WK.map
          have hkey := keyOf_int_mk Try.underlying3 fy.wf
          obtain ⟨p, hp⟩ : ∃ p : Nat, plc bl y = (p : Int) := ⟨bl.idxOf y, by rw [plc, if_pos hyb]⟩
          have hpn : p < n := by
            have := List.idxOf_lt_length_of_mem hyb
            rw [plc, if_pos hyb] at hp
            have := HNN.out; omega
          have HAT : Hid (D.atKey (.int .i64 y) (.lit (.int .i64 0)) = .lit (.int .i64 (p : Int))) := by rw [← hp]; exact (d2 y fy).2
          obtain ⟨S, hS⟩ : ∃ S, S = srcIn bl k (row.take j) (srcN bl Ls k) := ⟨_, rfl⟩
          have hF := HF.out
          rw [← hS] at hF
          obtain ⟨av, cv, ev, _, _⟩ := own_slice (hF.own p hpn).out
          have hvl : p < vs'.length := by rw [hF.lv]; exact hpn
          have kv : wr.cell? ⟨B1, p, none⟩ = some (.slice av (S.getD p []).length cv) := by
            rw [← ev]
            refine cell_arr hF.out ?_
            simp [hvl]
          have fv : wr.frozen? ⟨B1, p, none⟩ = false := fz_of hF.out
          have hlp : (S.getD p []).length + 1 ≤ 17592186044416 := by have := HL.out p; rw [← hS] at this; omega
          obtain ⟨sl, hsl⟩ : ∃ sl, sl = (S.getD p []).length := ⟨_, rfl⟩
          have OP : OwnI wr B1 (.slice av sl cv) sl (S.getD p []) := by have := hF.own p hpn; rw [ev, ← hsl] at this; exact this
          rw [← hsl] at kv hlp
          have hsB : B1 ≤ wr.heap.size := by have := HB.out.size; have := HB1.out; omega
          have HOP : Hid _ := OP
          have HSL : Hid (sl = (S.getD p []).length) := hsl
          have HEV : Hid (vs'.getD p vn0 = .slice av (S.getD p []).length cv) := ev
          have HFF : Hid _ := hF
          have HNEXT : Hid (srcIn bl k (row.take (j + 1)) (srcN bl Ls k) = S.set p (S.getD p [] ++ [(k : Int)])) := by
            show _ = _
            rw [srcIn_take _ _ _ _ hjr, ← hy, hp, Int.toNat_natCast, hS]
          have HLS : Hid (∀ i, (S.getD i []).length ≤ k * 1000000 + j) := by rw [hS]; exact HL.out
          clear hy hyb hyr fy WK d2 hp hS hF ev hsl OP
          go_wp2_with (first
            | (at_lookup; refine wpList_lookup_own_int _ rfl _ _ 46 rfl 3 3 .i64 law3 Try.underlying46 Try.underlying3 (zero3 _) mb bl.length D rfl d1 _ _ rfl hkey ?_; intro z hat hwc
               obtain rfl : z = (p : Int) := by (have e := hat.symm.trans HAT.out; cases e; rfl)
               clear hat hwc)
            | (at_builtin; refine wpList_append_intG (w0 := wr) rfl _ _ rfl B1 (.slice av sl cv) sl (S.getD p []) (k : Int) rfl HOP.out rfl hlp hsB ?_; intro v6 w6 h6 g6
               have o6 : w6.heap[B1]? = some (.cells vs'.toArray 27 (0, 0)) := (g6.blk B1 (Array.getElem?_eq_some_iff.1 HFF.out.out).1 (by have := HFF.out.go_ne hpn; rw [HEV.out, ← HSL.out] at this; exact this)).trans HFF.out.out
               obtain ⟨z6, q6⟩ : ∃ z, w6.cell? ⟨B1, p, none⟩ = some z := ⟨vs'[p], cell_arr o6 (by simp [hvl])⟩
               have p6 : w6.frozen? ⟨B1, p, none⟩ = false := fz_of o6
               have A6 := HFF.out.app hpn (v6 := v6) (x := (k : Int)) (w6 := w6) (by rw [← HSL.out]; exact h6) (by rw [HEV.out, ← HSL.out]; exact g6)
               have B6 : Below B1 w (w6.setCell ⟨B1, p, none⟩ v6) := (HB.out.trans g6.bel).setCell (Nat.le_refl _) _
               obtain ⟨a6, c6, e6, _, _⟩ := own_slice h6.out
               subst e6
               have HA6 : Hid _ := A6
               have HB6 : Hid _ := B6
               clear A6 B6 h6 g6 o6)
            | go_in)
          go_roundw
          case rel =>
            refine ⟨j + 1, _, by omega, by go_num, by rw [HNEXT.out]; exact HA6.out, ?_, HB6.out⟩
            intro i
            rw [HNEXT.out]
            by_cases e : i = p
            · subst e
              have e2 : (S.set i (S.getD i [] ++ [(k : Int)])).getD i [] = S.getD i [] ++ [(k : Int)] := by simp [List.getD, HFF.out.ls, hpn]
              rw [e2]
              have := HLS.out i
              simp at this ⊢
              omega
            · have e2 : (S.set p (S.getD p [] ++ [(k : Int)])).getD i [] = S.getD i [] := by simp [List.getD, List.getElem?_set, Ne.symm e]
              rw [e2]
              have := HLS.out i
              omega
          case measure => simp [intOf]; omega
        · have hjr : j = rl := by omega
          subst hjr
          have hF := HF.out
          have hL := HL.out
          rw [List.take_of_length_le (by have := HRL.out; omega)] at hF hL
          have HF' : Hid _ := hF
          have HL' : Hid _ := hL
          clear hF hL
          go_wp2_with fail
          go_roundw
          case rel =>
            refine ⟨k + 1, vs', by omega, by go_num, ?_, fun i => ?_, HB.out⟩
            · simp only [srcN]; rw [HRO.out]; exact HF'.out
            · have := HL'.out i
              simp only [srcN]; rw [HRO.out]
              omega
          case measure => simp [intOf]; omega
    · have hkn : k = n := by omega
      subst hkn
      go_wp2_with fail
      go_ret
      have hF := HF.out
      have hb := HB.out
      rw [HNN.out] at hF
      refine ⟨B1, by rw [← HNN.out]; rfl, hF.irow (by have := HNN.out; omega), by rw [← HB1.out]; exact hb⟩
end Go.Proofs.Ythjjdfiaikibaab
