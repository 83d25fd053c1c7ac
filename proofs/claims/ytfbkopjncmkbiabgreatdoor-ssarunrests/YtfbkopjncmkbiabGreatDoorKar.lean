import Derived.Test.YtfbkopjncmkbiabGreatDoorKaq
set_option linter.unusedVariables false
set_option linter.unusedSimpArgs false
namespace Go.Proofs.YtfbkopjncmkbiabGreatDoor
open Go.ChangeShapes Go.WideShapes Go.ChangeAt Go.RowKit Go.Maps
theorem kdN_short (T : List Int) : ∀ k i, ((kdN T k).getD i []).length <= k
 | 0, i => by simp only [kdN, List.getD, List.getElem?_replicate]; split <;> simp
 | k + 1, i => by
   have ih := kdN_short T k
   by_cases h0 : 0 <= gn T k
   ·have e : kdN T (k + 1) = (kdN T k).set (gn T k).toNat ((kdN T k).getD (gn T k).toNat [] ++ [(k : Int)]) := by simp only [kdN]; rw [if_pos h0]
    rw [e]
    by_cases hl : (gn T k).toNat < (kdN T k).length
    ·rw [getD_setL hl]
     split
     ·have := ih (gn T k).toNat; simp at this ⊢; omega
     ·have := ih i; omega
    ·rw [List.set_eq_of_length_le (by omega)]
     have := ih i; omega
   ·have e : kdN T (k + 1) = kdN T k := by simp only [kdN]; rw [if_neg h0]
    rw [e]
    have := ih i; omega
structure OF (wk wr : World) (H : Nat) (T : List Int) (D : Int -> Int -> Prop) (lv ov : Value) (line op : List Int) (q : Nat) : Prop where
 lo : OwnI wr H lv line.length line
 oo : OwnI wr H ov op.length op
 ne : ∀ g, lv.ownBlock = some g -> ov.ownBlock ≠ some g
 low : Below H wk wr
 hh : H <= wr.heap.size
 li : LI T D line op.reverse
 fuel : T.length <= line.length + q
 run : (lnR T q (line, op.reverse)).1 = lineP T
theorem own_lowB {w : World} {B B' : Nat} {e : TypeId} {z : Nat} {v : Value} {n : Nat} {xs : List Value} (h : w.ownsRow B e z v n xs) (hb : B' <= B) : w.ownsRow B' e z v n xs := by
 rcases h with ⟨h1, h2 | ⟨g, cap, cur, e1, e2, e3⟩⟩
 ·exact ⟨h1, .inl h2⟩
 ·exact ⟨h1, .inr ⟨g, cap, cur, e1, by omega, e3⟩⟩
theorem outer_any (w : World) (ao : Option Addr) (n c : Nat) (T : List Int) (hn : n = T.length) (hT : Ints w ao c T) {D : Int -> Int -> Prop} {rk : Int -> Nat} (t : TreeOK T D rk) (hsz : n <= 1000000) :
 Calls Tryz.prog 135 #[.slice ao n c] w fun e w' => ∃ v, e = .returned v /\ OwnI w' w.heap.size v (lineP T).length (lineP T) /\ Below w.heap.size w w' := by
 have hmk := run_make_row' (P := Tryz.prog) 116 23 (.slice none 0 0) 24 Tryz.underlying116 infoSl rfl .i64 .i64 n (by omega) (by omega)
 have hmk2 := run_room n (by omega)
 obtain ⟨B1, hB1⟩ : ∃ B1, B1 = w.heap.size := ⟨_, rfl⟩
 have HT : Hid (Ints w ao c T) := hT
 have HN : Hid (n = T.length) := hn
 have HOK : Hid (TreeOK T D rk) := t
 have HLO : Hid (∀ i, i < T.length -> gn T i < T.length) := t.lo
 have F0 := FA.start w B1 n (by omega)
 rw [<- hB1] at F0
 obtain ⟨w0, hw0⟩ : ∃ w0, w0 = w.alloc (.cells (madeCells #[.slice none 0 0] n) 23) := ⟨_, rfl⟩
 have hF0 : FA w0 B1 B1 n (List.replicate n vn0) (List.replicate n []) := by rw [hw0]; exact F0
 have b0 : Below B1 w w0 := by rw [hw0, hB1]; exact (Below.refl _ _).alloc (Nat.le_refl _) _
 have HF0 : Hid _ := hF0
 have HB0 : Hid _ := b0
 have HB1 : Hid (B1 = w.heap.size) := hB1
 clear hT hn t F0 hF0 b0
 go_enter Tryz.func135, Tryz.ntmps135
 go_wp2_with fail
 rw [<- hw0]
 clear hw0 hmk
 rw [<- hB1]
 clear hB1
 go_loopw [14] (fun v wr => ∃ (k : Nat) (vs : List Value), k <= n /\ v = .int .i64 k /\ Hid (FA wr B1 B1 n vs (kdN T k)) /\ Hid (Below B1 w wr)) (fun v _ => n - (intOf v).toNat)
 case atStart => exact ⟨0, _, by omega, rfl, by simp only [kdN]; rw [<- HN.out]; exact HF0.out, HB0.out⟩
 case round =>
  clear HF0 HB0
  obtain ⟨k, vs, hk, rfl, HF, HB⟩ := hrel
  have hBs : w.heap.size <= B1 := by have := HB1.out; omega
  by_cases hlt : k < n
  ·have hkT : k < T.length := by have := HN.out; omega
   obtain ⟨b1, o1, rfl, kx⟩ := (HT.out.below HB.out hBs).at hkT
   obtain ⟨y, hy⟩ : ∃ y, y = T[k] := ⟨_, rfl⟩
   rw [<- hy] at kx
   have hgy : gn T k = y := by rw [hy]; exact gn_at hkT
   have hyn : y < n := by have := HLO.out k hkT; have := HN.out; omega
   by_cases h0 : 0 <= y
   ·obtain ⟨p, rfl⟩ : ∃ p : Nat, y = p := ⟨y.toNat, by omega⟩
    have hpn : p < n := by omega
    have HNEXT : Hid (kdN T (k + 1) = (kdN T k).set p ((kdN T k).getD p [] ++ [(k : Int)])) := by
     show _ = _
     simp only [kdN]
     rw [hgy, if_pos (by omega), Int.toNat_natCast]
    have hsh := kdN_short T k p
    obtain ⟨S, hS⟩ : ∃ S, S = kdN T k := ⟨_, rfl⟩
    have hF := HF.out
    rw [<- hS] at hF HNEXT hsh
    obtain ⟨av, cv, ev, _, _⟩ := own_slice (hF.own p hpn).out
    have hvl : p < vs.length := by rw [hF.lv]; exact hpn
    have kv : wr.cell? ⟨B1, p, none⟩ = some (.slice av (S.getD p []).length cv) := by
     rw [<- ev]
     exact cell_arr hF.out (by simp [hvl])
    have fv : wr.frozen? ⟨B1, p, none⟩ = false := fz_of hF.out
    obtain ⟨sl, hsl⟩ : ∃ sl, sl = (S.getD p []).length := ⟨_, rfl⟩
    have hlp : sl + 1 <= 17592186044416 := by omega
    have OP : OwnI wr B1 (.slice av sl cv) sl (S.getD p []) := by have := hF.own p hpn; rw [ev, <- hsl] at this; exact this
    rw [<- hsl] at kv
    have hsB : B1 <= wr.heap.size := by have := HB.out.size; have := HB1.out; omega
    have HOP : Hid _ := OP
    have HSL : Hid (sl = (S.getD p []).length) := hsl
    have HEV : Hid (vs.getD p vn0 = .slice av (S.getD p []).length cv) := ev
    have HFF : Hid _ := hF
    clear hS hF ev hsl OP hgy hy hsh
    go_wp2_with (first
     | (at_builtin; refine wpList_append_intG (w0 := wr) rfl _ _ rfl B1 (.slice av sl cv) sl (S.getD p []) (k : Int) rfl HOP.out rfl hlp hsB ?_; intro v6 w6 h6 g6
        have o6 : w6.heap[B1]? = some (.cells vs.toArray 23 (0, 0)) := (g6.blk B1 (gl HFF.out.out) (by have := HFF.out.go_ne hpn; rw [HEV.out, <- HSL.out] at this; exact this)).trans HFF.out.out
        obtain ⟨z6, q6⟩ : ∃ z, w6.cell? ⟨B1, p, none⟩ = some z := ⟨vs[p], cell_arr o6 (by simp [hvl])⟩
        have p6 : w6.frozen? ⟨B1, p, none⟩ = false := fz_of o6
        have A6 := HFF.out.app hpn (v6 := v6) (x := (k : Int)) (w6 := w6) (by rw [<- HSL.out]; exact h6) (by rw [HEV.out, <- HSL.out]; exact g6)
        have B6 : Below B1 w (w6.setCell ⟨B1, p, none⟩ v6) := (HB.out.trans g6.bel).setCell (Nat.le_refl _) _
        obtain ⟨a6, c6, e6, _, _⟩ := own_slice h6.out
        subst e6
        have HA6 : Hid _ := A6
        have HB6 : Hid _ := B6
        clear A6 B6 h6 g6 o6))
    go_roundw
    case rel => exact ⟨k + 1, _, by omega, by go_num, by rw [HNEXT.out]; exact HA6.out, HB6.out⟩
    case measure => simp [intOf]; omega
   ·have HNEXT : Hid (kdN T (k + 1) = kdN T k) := by
     show _ = _
     simp only [kdN]
     rw [hgy, if_neg h0]
    clear hgy hy
    go_wp2_with fail
    go_roundw
    case rel => exact ⟨k + 1, _, by omega, by go_num, by rw [HNEXT.out]; exact HF.out, HB.out⟩
    case measure => simp [intOf]; omega
  ·have hkn : k = n := by omega
   subst hkn
   have hF := HF.out
   have ekd : kdN T k = kdP T := by unfold kdP; rw [<- HN.out]
   rw [ekd] at hF
   have HF' : Hid _ := hF
   have b2 : Below wr.heap.size wr ((wr.alloc (.cells (madeCells #[.int .i64 0] k) 3)).alloc (.cells #[.int .i64 0] 3)) := ((Below.refl _ _).alloc (Nat.le_refl _) _).alloc (by simp) _
   have HST : Hid (OF wr ((wr.alloc (.cells (madeCells #[.int .i64 0] k) 3)).alloc (.cells #[.int .i64 0] 3)) wr.heap.size T D (.slice (some ⟨wr.heap.size, 0, none⟩) 0 k) (.slice (some ⟨wr.heap.size + 1, 0, none⟩) 1 1) [] [0] k) := by
    refine ⟨(room_own wr wr.heap.size k (Nat.le_refl _) (by omega)).alloc0 _, ⟨rfl, ⟨by simp [ivs], .inr ⟨wr.heap.size + 1, 1, #[.int .i64 0], rfl, by omega, ?_, by simp, by unfold maxLen; omega, by simp, by simp [ivs]⟩⟩⟩, fun g h1 h2 => ?_, b2, by simp; omega, LI.start HOK.out, by have := HN.out; simp; omega, by simp only [lineP, List.reverse_singleton]; rw [<- HN.out]⟩
    ·have := heap_alloc_new (wr.alloc (.cells (madeCells #[.int .i64 0] k) 3)) (.cells #[.int .i64 0] 3)
     simpa using this
    ·simp [Value.ownBlock] at h1 h2; omega
   obtain ⟨wk, rfl⟩ : ∃ wk, wk = wr := ⟨_, rfl⟩
   have HLOW : Hid (Below B1 w wk) := HB.out
   have hkB : B1 <= wk.heap.size := by have := HB.out.size; have := HB1.out; omega
   clear HF hF ekd b2 HB
   go_wp2_with fail
   go_loopg [6, 7] k (fun q lv ov wr => ∃ (line op : List Int) (ll ol : Nat) (la : Option Addr) (lc : Nat) (oa : Option Addr) (oc : Nat), lv = .slice la ll lc /\ ov = .slice oa ol oc /\ Hid (ll = line.length) /\ Hid (ol = op.length) /\ Hid (OF wk wr wk.heap.size T D lv ov line op q))
   case atStart => exact ⟨[], [0], _, _, _, _, _, _, rfl, rfl, rfl, rfl, HST.out⟩
   case round =>
    clear HST
    obtain ⟨line, op, ll, ol, la, lc, oa, oc, rfl, rfl, HLL, HOL, HO⟩ := hrel
    by_cases h0 : ol = 0
    ·subst h0
     have hop : op = [] := List.length_eq_zero_iff.1 HOL.out.symm
     have e : line = lineP T := by
      have hr := HO.out.run
      rw [hop] at hr
      have : ∀ m, lnR T m (line, []) = (line, []) := by
       intro m
       induction m with
       | zero => rfl
       | succ m ih => simp only [lnR, lnS]; exact ih
      simp only [List.reverse_nil] at hr
      rw [this] at hr
      exact hr
     have HRES : Hid (OwnI wr w.heap.size (.slice la ll lc) (lineP T).length (lineP T)) := by
      have := HO.out.lo
      rw [e] at this
      exact ⟨this.len, own_lowB this.out (by have := HB1.out; omega)⟩
     have HBEL : Hid (Below w.heap.size w wr) := by
      have := HLOW.out.trans (HO.out.low.mono hkB)
      rw [HB1.out] at this; exact this
     clear HO HLL HOL hop e
     go_wp2_with fail
     go_ret
     exact ⟨_, rfl, HRES.out, HBEL.out⟩
    ·obtain ⟨m, rfl⟩ : ∃ m, ol = m + 1 := ⟨ol - 1, by omega⟩
     obtain ⟨op', b, hop⟩ : ∃ op' b, op = op' ++ [b] := by
      rcases List.eq_nil_or_concat op with e | ⟨x, y, e⟩
      ·have := HOL.out; rw [e] at this; simp at this
      ·exact ⟨x, y, by simpa using e⟩
     subst hop
     have hm : m = op'.length := by have := HOL.out; simp at this; omega
     have hO := HO.out
     have hrev : (op' ++ [b]).reverse = b :: op'.reverse := by simp
     have hli := hO.li
     rw [hrev] at hli
     have hbr := hli.rng b (by simp)
     obtain ⟨bn, rfl⟩ : ∃ bn : Nat, b = bn := ⟨b.toNat, by omega⟩
     have hbn : bn < k := by have := HN.out; omega
     have hoo := hO.oo
     rw [<- HOL.out] at hoo
     obtain ⟨g, c2, e2, hlc, hcx, hBg, hgl⟩ := own_some hoo.out (by omega)
     cases e2
     have kt : wr.cell? ⟨g, m, none⟩ = some (.int .i64 (bn : Int)) := by
      rw [own_cell hoo.out m (by omega), hm]
      simp [ivs]
     have HCUT : Hid (OwnI wr wk.heap.size (.slice (some ⟨g, 0, none⟩) m oc) m op') := OwnI.cut hm hoo
     have hF := HF'.out.move hO.low
     have hvl : bn < vs.length := by rw [hF.lv]; exact hbn
     obtain ⟨ka, kc, ek, hIk⟩ := (hF.own bn hbn).ints
     obtain ⟨K, hK⟩ : ∃ K, K = (kdP T).getD bn [] := ⟨_, rfl⟩
     rw [<- hK] at ek hIk
     obtain ⟨kl, hkl⟩ : ∃ kl, kl = K.length := ⟨_, rfl⟩
     have kk : wr.cell? ⟨B1, bn, none⟩ = some (.slice ka kl kc) := by
      rw [hkl, <- ek]
      exact cell_arr hF.out (by simp [hvl])
     have hkx : kl <= kc /\ kc <= 9223372036854775807 := by have := hIk.le; have := hIk.mx; omega
     have hstep := hli.step HOK.out
     have hfew := hstep.few
     rw [show ((bn : Int)).toNat = bn from Int.toNat_natCast bn, <- hK] at hstep hfew
     have hsum : m + kl <= 1000000 := by
      have := HN.out
      simp at hfew
      omega
     have hll : ll + 1 <= 1000000 := by
      have := HN.out
      have := HLL.out
      simp at hfew
      omega
     obtain ⟨q, hq⟩ : ∃ q, gk = q + 1 := ⟨gk - 1, by have h1 := hli.few; have := hO.fuel; have := HN.out; simp at h1; omega⟩
     subst hq
     have hrun : (lnR T q (line ++ [(bn : Int)], (op' ++ K).reverse)).1 = lineP T := by
      have hr := hO.run
      rw [hrev] at hr
      simp only [lnR, lnS] at hr
      rw [show ((bn : Int)).toNat = bn from Int.toNat_natCast bn, <- hK] at hr
      rw [List.reverse_append]; exact hr
     have hlo := hO.lo
     rw [<- HLL.out] at hlo
     have hhs := hO.hh
     have hne := hO.ne
     have NEXT : Hid (∀ v6 w6, OwnI w6 wk.heap.size v6 (m + kl) (op' ++ K) -> GI wk.heap.size wr.drew w6 (.slice (some ⟨g, 0, none⟩) m oc) v6 -> OwnI w6 wk.heap.size (.slice la ll lc) ll line /\ (∀ g', (Value.slice la ll lc).ownBlock = some g' -> v6.ownBlock ≠ some g') /\ Below wk.heap.size wk w6 /\ wk.heap.size <= w6.heap.size) := by
      intro v6 w6 h6 g6
      have hlo2 : OwnI wr.drew wk.heap.size (.slice la ll lc) ll line := hlo.keep (Below.refl _ _).drew
      refine ⟨hlo2.gi g6 hne, hlo2.giA g6 hne, (hO.low.trans ((Below.refl _ _).drew.mono hhs)).trans g6.bel, ?_⟩
      have := g6.size
      simp at this; omega
     have NEXT2 : Hid (∀ v6 w6 v7 w7, OwnI w6 wk.heap.size v6 (m + kl) (op' ++ K) -> (∀ g', (Value.slice la ll lc).ownBlock = some g' -> v6.ownBlock ≠ some g') -> Below wk.heap.size wk w6 -> OwnI w7 wk.heap.size v7 (ll + 1) (line ++ [(bn : Int)]) -> GI wk.heap.size w6 w7 (.slice la ll lc) v7 -> wk.heap.size <= w6.heap.size -> OF wk w7 wk.heap.size T D v7 v6 (line ++ [(bn : Int)]) (op' ++ K) q) := by
      intro v6 w6 v7 w7 h6 n6 b6 h7 g7 s6
      have hne6 : ∀ b, v6.ownBlock = some b -> (Value.slice la ll lc).ownBlock ≠ some b := fun b hb hb2 => n6 b hb2 hb
      refine ⟨⟨rfl, ?_⟩, ⟨rfl, ?_⟩, fun g' h1 h2 => h6.giA g7 hne6 g' h2 h1, b6.trans g7.bel, by have := g7.size; omega, ?_, ?_, hrun⟩
      ·have := h7.out
       rw [show (line ++ [(bn : Int)]).length = ll + 1 by rw [HLL.out]; simp]
       exact this
      ·rw [show (op' ++ K).length = m + kl by rw [hm, hkl]; simp]
       exact (h6.gi g7 hne6).out
      ·rw [List.reverse_append]; exact hstep
      ·have := hO.fuel
       simp at this ⊢
       omega
     have S0 : (fun w' : World => w'.cell? ⟨B1, bn, none⟩ = some (.slice ka kl kc)) wr.drew := cellD kk
     have HS6 : Hid (∀ v6 w6, GI wk.heap.size wr.drew w6 (.slice (some ⟨g, 0, none⟩) m oc) v6 -> (fun w' : World => w'.cell? ⟨B1, bn, none⟩ = some (.slice ka kl kc)) w6) := by
      intro v6 w6 g6
      have hb := (g6.bel.cell (p := ⟨B1, bn, none⟩) ?_).trans (cellD kk)
      ·exact hb
      ·show B1 < wk.heap.size
       exact (gl HF'.out.out)
     have HCUT2 : Hid (OwnI wr.drew wk.heap.size (.slice (some ⟨g, 0, none⟩) m oc) m op') := HCUT.out.keep (Below.refl _ _).drew
     have HIK : Hid (Ints wr.drew ka kc K) := hIk.below (Below.refl _ _).drew (Nat.le_refl _)
     have HKL : Hid (kl = K.length) := hkl
     have HLL2 : Hid (ll + 1 = (line ++ [(bn : Int)]).length) := by show _ = _; rw [HLL.out]; simp
     have HOL2 : Hid (m + kl = (op' ++ K).length) := by show _ = _; rw [hm, hkl]; simp
     have hwx : (wr.drew).heap.size = wr.heap.size := by simp
     have HHS : Hid (wk.heap.size <= wr.drew.heap.size) := by show _ <= _; rw [hwx]; exact hhs
     have hsum2 : m + kl <= 17592186044416 := by omega
     have hll2 : ll + 1 <= 17592186044416 := by omega
     have hwm : IntKind.i64.wrap (m : Int) = (m : Int) := by rw [IntKind.wrap_i64]; omega
     have hmc : (m : Int) <= (oc : Int) := by omega
     clear hO hli hbr hoo hF hIk ek hK hkl hstep hfew hrun hlo hhs hne HO HCUT hm hrev hvl hwx hgl hBg h0
     go_wp2_with fail
     go_region_held_law (fun w' => w'.cell? ⟨B1, bn, none⟩ = some (.slice ka kl kc))
      (first | exact S0 | exact S6)
      (first | (refine step_append_manyG rfl _ _ rfl wk.heap.size (.slice (some ⟨g, 0, none⟩) m oc) m op' (by simp [Act.eval]) HCUT2.out ka kl kc K (by simp [Act.eval]) HKL.out HIK.out hsum2 HHS.out ?_; intro v6 w6 h6 g6; have S6 := HS6.out v6 w6 g6; obtain ⟨n1, n2, n3, n4⟩ := NEXT.out v6 w6 h6 g6; have HN1 := show Hid _ from n1; have HN2 := show Hid _ from n2; have HN3 := show Hid _ from n3; have H6 := show Hid _ from h6; obtain ⟨a6, c6, e6, _, _⟩ := own_slice h6.out; subst e6; clear n1 n2 n3 h6 g6))
     all_goals
      go_wp2_with (at_builtin; refine wpList_append_intG (w0 := w6) rfl _ _ rfl wk.heap.size (.slice la ll lc) ll line (bn : Int) rfl HN1.out rfl hll2 n4 ?_; intro v7 w7 h7 g7
                   have H7 := show Hid _ from NEXT2.out _ w6 v7 w7 H6.out HN2.out HN3.out h7 g7 n4
                   obtain ⟨a7, c7, e7, _, _⟩ := own_slice h7.out
                   subst e7
                   clear h7 g7)
      go_roundg q
      case rel => exact ⟨_, _, _, _, _, _, _, _, rfl, rfl, HLL2.out, HOL2.out, H7.out⟩
      case measure => omega
theorem made_pairs (n : Nat) : madeCells #[.int .i64 0, .int .i64 0] (n * 2) = (pvs (List.replicate n (0, 0))).toArray := by
 have hl : (pvs (List.replicate n (0, 0))).length = n * 2 := by rw [pvs_len]; simp
 have hz : ∀ i, i % 2 = 0 \/ i % 2 = 1 := fun i => by omega
 apply Array.ext
 ·rw [size_madeCells]; simp [hl]
 ·intro i h1 h2
  rw [size_madeCells] at h1
  have e1 : (madeCells #[.int .i64 0, .int .i64 0] (n * 2))[i] = .int .i64 0 := by
   simp only [madeCells, Array.getElem_map, Array.getElem_range]
   rcases hz i with e | e
   ·show #[Value.int .i64 0, Value.int .i64 0][i % 2]! = _; rw [e]; rfl
   ·show #[Value.int .i64 0, Value.int .i64 0][i % 2]! = _; rw [e]; rfl
  rw [e1]
  have hp := pvs_at (List.replicate n ((0 : Int), (0 : Int))) (i / 2) (by simp; omega)
  simp only [List.getElem_replicate] at hp
  have h3 : i < (pvs (List.replicate n (0, 0))).length := by rw [hl]; exact h1
  have : (pvs (List.replicate n ((0 : Int), (0 : Int))))[i]? = some (.int .i64 0) := by
   rcases hz i with e | e
   ·have : i = i / 2 * 2 := by omega
    rw [this]; exact hp.1
   ·have : i = i / 2 * 2 + 1 := by omega
    rw [this]; exact hp.2
  rw [List.getElem?_eq_getElem h3] at this
  have := Option.some.inj this
  simp only [List.getElem_toArray]
  exact this.symm
theorem info_pl : (Tryz.prog.info? 134).map (fun i => (i.zero, i.size, i.bytes)) = some (some (.agg #[.int .i64 0, .int .i64 0]), 2, 16) := by kernel_rfl
theorem info_rg : (Tryz.prog.info? 160).map (fun i => (i.zero, i.size, i.bytes)) = some (some (.agg #[.int .i64 0, .int .i64 0]), 2, 16) := by kernel_rfl
theorem run_places (n : Nat) (h : n <= 100000000) (w : World) : (Instr.makeSlice 125 (.int .i64 (n : Int)) (.int .i64 (n : Int))).run Tryz.prog w = .ok (.slice (some ⟨w.heap.size, 0, none⟩) n n) (w.alloc (.cells (pvs (List.replicate n (0, 0))).toArray 134)) := by
 obtain ⟨i0, hi, hz0, hz1, hz2⟩ := info_parts info_pl
 have hr := run_make (P := Tryz.prog) w 125 134 i0 (.agg #[.int .i64 0, .int .i64 0]) Tryz.underlying125 hi hz0 .i64 .i64 n n (by omega) (by omega) (by rw [hz2]; omega) (by omega)
 simp only [Int.toNat_natCast, hz1] at hr
 rw [<- made_pairs]
 exact hr
theorem run_regions (n : Nat) (h : n <= 100000000) (w : World) : (Instr.makeSlice 127 (.int .i64 (n : Int)) (.int .i64 (n : Int))).run Tryz.prog w = .ok (.slice (some ⟨w.heap.size, 0, none⟩) n n) (w.alloc (.cells (pvs (List.replicate n (0, 0))).toArray 160)) := by
 obtain ⟨i0, hi, hz0, hz1, hz2⟩ := info_parts info_rg
 have hr := run_make (P := Tryz.prog) w 127 160 i0 (.agg #[.int .i64 0, .int .i64 0]) Tryz.underlying127 hi hz0 .i64 .i64 n n (by omega) (by omega) (by rw [hz2]; omega) (by omega)
 simp only [Int.toNat_natCast, hz1] at hr
 rw [<- made_pairs]
 exact hr
def plL (v : Int × Int) (L : List Int) (P : List (Int × Int)) : List (Int × Int) := L.foldl (fun P x => P.set x.toNat v) P
def plB (b : Int) (L : List Int) : Nat -> List (Int × Int) -> List (Int × Int)
 | 0, P => P
 | k + 1, P => (plB b L k P).set (gn L k).toNat (b, (k : Int))
def plS (k : Nat) (b : Bk) (P : List (Int × Int)) : List (Int × Int) := plB k b.body b.body.length (plL ((k : Int), -1) b.phis P)
def plK (f : Fu) : Nat -> List (Int × Int)
 | 0 => plL (-1, 0) f.params (List.replicate f.vals.length (0, 0))
 | k + 1 => plS k (f.blks.getD k noB) (plK f k)
def placesP (f : Fu) : List (Int × Int) := plK f f.blks.length
theorem plL_take (v : Int × Int) (L : List Int) (P : List (Int × Int)) {j : Nat} (hj : j < L.length) : plL v (L.take (j + 1)) P = (plL v (L.take j) P).set L[j].toNat v := by
 rw [<- List.take_append_getElem hj, plL, List.foldl_append]
 rfl
structure PW (w wr : World) (A : Array Value) (B n : Nat) (L : List (Int × Int)) : Prop where
 fo : wr.heap[B]? = some (.cells A 77 (0, 0))
 pl : Pl wr (B + 1) n 134 L
 low : Below B w wr
theorem PW.put {w wr : World} {A B n L} (h : PW w wr A B n L) {i : Nat} (hi : i < n) (a b : Int) : PW w ((wr.setCell ⟨B + 1, i * 2, none⟩ (.int .i64 a)).setCell ⟨B + 1, i * 2 + 1, none⟩ (.int .i64 b)) A B n (L.set i (a, b)) :=
 ⟨(heap_set_other (by omega)).trans ((heap_set_other (by omega)).trans h.fo), h.pl.put hi a b, (h.low.setCell (by show B <= B + 1; omega) _).setCell (by show B <= B + 1; omega) _⟩
theorem PW.alloc {w wr : World} {A B n L} (h : PW w wr A B n L) (X : Obj) : PW w (wr.alloc X) A B n L :=
 ⟨by rw [heap_alloc_old _ _ (gl h.fo)]; exact h.fo, h.pl.keep (below_new _ _), h.low.alloc (by have := (gl h.fo); omega) _⟩
theorem formP_params {f : Fu} {FS : List Fu} (h : formP FS f = true) : (∀ x ∈ f.params, wi f.vals.length x = true) /\ f.vals.length < 262144 /\ f.params.length <= 8 := by
 simp only [formP, Bool.and_eq_true, decide_eq_true_eq] at h
 refine ⟨fun x hx => ?_, h.2.1, h.1⟩
 have := (evr_iff (paramP f) f.params 0).1 h.2.2.2.2.1
 obtain ⟨i, hi, rfl⟩ := List.mem_iff_getElem.1 hx
 have := this i hi
 simp only [paramP, Bool.and_eq_true] at this
 exact this.1
set_option maxRecDepth 100000 in
set_option maxHeartbeats 4000000 in
theorem places_any (w : World) {s : ByteArray} {pa : Option Addr} {pn pc : Nat} {r : Int} {va : Option Addr} {vn vc : Nat} {ba : Option Addr} {bn bc : Nat} {fa : Option Addr} {fn fc : Nat} {f : Fu} {FS : List Fu} (C : Ctx w s pa pn pc r va vn vc ba bn bc fa fn fc f FS) (hform : formP FS f = true) (hbn : bn <= 1000000) :
 Calls Tryz.prog 99 #[.agg #[.string s, .slice pa pn pc, .int .i64 r, .slice va vn vc, .slice ba bn bc, .slice fa fn fc]] w fun e w' => ∃ g, e = .returned (.slice (some ⟨g, 0, none⟩) vn vn) /\ Pl w' g vn 134 (placesP f) /\ Below w.heap.size w w' := by
 obtain ⟨hpr, hvl, hpl⟩ := formP_params hform
 have hvn : vn <= 300000 := by have := C.ev; omega
 have hmk := run_places vn (by omega)
 obtain ⟨B1, hB1⟩ : ∃ B1, B1 = w.heap.size := ⟨_, rfl⟩
 obtain ⟨w2, hw2⟩ : ∃ w2, w2 = (w.alloc (.cells #[.string s, .slice pa pn pc, .int .i64 r, .slice va vn vc, .slice ba bn bc, .slice fa fn fc] 77)).alloc (.cells (pvs (List.replicate vn (0, 0))).toArray 134) := ⟨_, rfl⟩
 have b2 : Af1 w (.cells #[.string s, .slice pa pn pc, .int .i64 r, .slice va vn vc, .slice ba bn bc, .slice fa fn fc] 77) w2 := by rw [hw2]; exact (Af1.refl w _).next (below_new _ _)
 have p2 : Pl w2 (B1 + 1) vn 134 (List.replicate vn (0, 0)) := by
  refine ⟨?_, by simp⟩
  have := heap_alloc_new (w.alloc (.cells #[.string s, .slice pa pn pc, .int .i64 r, .slice va vn vc, .slice ba bn bc, .slice fa fn fc] 77)) (.cells (pvs (List.replicate vn (0, 0))).toArray 134)
  rw [hw2, hB1]
  simpa using this
 have HW0 : Hid (PW w w2 #[.string s, .slice pa pn pc, .int .i64 r, .slice va vn vc, .slice ba bn bc, .slice fa fn fc] B1 vn (List.replicate vn (0, 0))) := ⟨by rw [hB1]; exact b2.one, p2, by rw [hB1]; exact b2.low⟩
 obtain ⟨fc0, fc1, fc2, fc3, fc4, fc5⟩ := fcells b2.one
 have HB1 : Hid (B1 = w.heap.size) := hB1
 have HC : Hid _ := C
 have HPR : Hid (∀ x ∈ f.params, wi f.vals.length x = true) := hpr
 have HWI : Hid (∀ b ∈ f.blks, blockP f b = true) := (formP_blocks hform).2
 have hpn : pn <= 8 := by have := C.ep; omega
 clear C hform hpr hvl hpl b2 p2
 go_enter Tryz.func99, Tryz.ntmps99
 go_wp2_with fail
 rw [<- hw2]
 go_wp2_with fail
 clear hw2 hmk fc0 fc1 fc2 fc3 fc4 fc5
 rw [<- hB1]
 clear hB1
 go_loopw [21] (fun v wr => ∃ k : Nat, k <= pn /\ v = .int .i64 k /\ Hid (PW w wr #[.string s, .slice pa pn pc, .int .i64 r, .slice va vn vc, .slice ba bn bc, .slice fa fn fc] B1 vn (plL (-1, 0) (f.params.take k) (List.replicate vn (0, 0))))) (fun v _ => pn - (intOf v).toNat)
 case atStart => exact ⟨0, by omega, rfl, HW0.out⟩
 case round =>
  clear HW0
  obtain ⟨k, hk, rfl, HW⟩ := hrel
  by_cases hlt : k < pn
  ·have hk2 : k < f.params.length := by have := HC.out.ep; omega
   obtain ⟨b1, o1, rfl, kx⟩ := (HC.out.hp.below HW.out.low (by have := HB1.out; omega)).at hk2
   have hx := HPR.out f.params[k] (List.getElem_mem hk2)
   simp only [wi, decide_eq_true_eq] at hx
   obtain ⟨p, hp⟩ : ∃ p : Nat, f.params[k] = p := ⟨f.params[k].toNat, by omega⟩
   have hpv : p < vn := by have := HC.out.ev; omega
   have HNEXT : Hid (∀ P, plL (-1, 0) (f.params.take (k + 1)) P = (plL (-1, 0) (f.params.take k) P).set p (-1, 0)) := fun P => by rw [plL_take _ _ _ hk2, hp, Int.toNat_natCast]
   rw [hp] at kx
   obtain ⟨⟨z1, q1⟩, ⟨z2, q2⟩, q3, q4, q5⟩ := HW.out.pl.cell hpv
   have HP2 : Hid _ := HW.out.put hpv (-1) 0
   clear hx hp HW
   go_wp2_with fail
   go_roundw
   case rel => exact ⟨k + 1, by omega, by go_num, by rw [HNEXT.out]; exact HP2.out⟩
   case measure => simp [intOf]; omega
  ·have hkn : k = pn := by omega
   subst hkn
   have hW := HW.out
   have e0 : plL (-1, 0) (f.params.take k) (List.replicate vn (0, 0)) = plK f 0 := by
    rw [List.take_of_length_le (by have := HC.out.ep; omega), HC.out.ev]; rfl
   rw [e0] at hW
   obtain ⟨fc0, fc1, fc2, fc3, fc4, fc5⟩ := fcells hW.fo
   have HW' : Hid _ := hW
   clear HW hW e0
   go_wp2_with fail
   clear fc0 fc1 fc2 fc3 fc4 fc5
   go_loopw [34] (fun v wr => ∃ j : Nat, j <= bn /\ v = .int .i64 j /\ Hid (PW w wr #[.string s, .slice pa k pc, .int .i64 r, .slice va vn vc, .slice ba bn bc, .slice fa fn fc] B1 vn (plK f j))) (fun v _ => bn - (intOf v).toNat)
   case atStart => exact ⟨0, by omega, rfl, HW'.out⟩
   case round =>
    clear HW'
    obtain ⟨j, hj, rfl, HW⟩ := hrel
    by_cases hjl : j < bn
    ·have hj2 : j < f.blks.length := by have := HC.out.eb; omega
     obtain ⟨b, o, ka, kc, la, lc, ma, mc, na, nc, rfl, hlb, c0, c1, c2, c3, c4, c5, i1, i2, i3, i4⟩ := (HC.out.hb.below HW.out.low (by have := HB1.out; omega)).at hj2
     obtain ⟨b', o', ka', kc', la', lc', ma', mc', na', nc', eba, hlb', d0, d1, d2, d3, d4, d5, j1, j2, j3, j4⟩ := HC.out.hb.at hj2
     cases eba
     have e0 := (HW.out.low.cell (p := ⟨b, o + j * 6, none⟩) (by show b < B1; have := HB1.out; omega)).trans d0
     rw [c0] at e0
     cases e0
     have e1 := (HW.out.low.cell (p := ⟨b, o + j * 6 + 1, none⟩) (by show b < B1; have := HB1.out; omega)).trans d1
     rw [c1] at e1
     cases e1
     have HI1 : Hid (Ints w ka kc f.blks[j].phis) := j1
     have HI2 : Hid (Ints w la lc f.blks[j].body) := j2
     have hbp := blockP_ph (HWI.out _ (List.getElem_mem hj2))
     rw [<- HC.out.ev] at hbp
     have HNEXT : Hid (plK f (j + 1) = plS j f.blks[j] (plK f j)) := by show _ = _; simp [plK, hj2]
     unfold plS at HNEXT
     obtain ⟨A, hA⟩ : ∃ A, A = f.blks[j].phis := ⟨_, rfl⟩
     obtain ⟨Bo, hBo⟩ : ∃ Bo, Bo = f.blks[j].body := ⟨_, rfl⟩
     rw [<- hA] at HI1 hbp c0 HNEXT
     rw [<- hBo] at HI2 hbp c1 HNEXT
     have X1 : Hid (∀ x ∈ A, wi vn x = true) := hbp.1
     have X2 : Hid (∀ x ∈ Bo, wi vn x = true) := hbp.2
     obtain ⟨kl, hkl⟩ : ∃ kl, kl = A.length := ⟨_, rfl⟩
     obtain ⟨ll, hll⟩ : ∃ ll, ll = Bo.length := ⟨_, rfl⟩
     rw [<- hkl] at c0
     rw [<- hll] at c1
     have HKL : Hid (kl = A.length) := hkl
     have HLL : Hid (ll = Bo.length) := hll
     generalize f.blks[j].kind = kd at c2
     generalize f.blks[j].val = vl at c3
     generalize f.blks[j].ways.length = ml at c4
     generalize f.blks[j].preds.length = nl at c5
     have hkx : kl <= kc /\ kc <= 9223372036854775807 := by have := j1.le; have := j1.mx; rw [<- hA] at *; omega
     have hlx : ll <= lc /\ lc <= 9223372036854775807 := by have := j2.le; have := j2.mx; rw [<- hBo] at *; omega
     clear d0 d1 d2 d3 d4 d5 j1 j2 j3 j4 i1 i2 i3 i4 hA hBo hbp hkl hll hlb'
     obtain ⟨w5, hw5⟩ : ∃ w5, w5 = wr.alloc (.cells #[.slice ka kl kc, .slice la ll lc, .int .i64 kd, .int .i64 vl, .slice ma ml mc, .slice na nl nc] 30) := ⟨_, rfl⟩
     have HW5 : Hid (PW w w5 #[.string s, .slice pa k pc, .int .i64 r, .slice va vn vc, .slice (some ⟨b, o, none⟩) bn bc, .slice fa fn fc] B1 vn (plK f j)) := by rw [hw5]; exact HW.out.alloc _
     obtain ⟨kb, hkb⟩ : ∃ kb, kb = wr.heap.size := ⟨_, rfl⟩
     have hk5 : w5.heap[kb]? = some (.cells #[.slice ka kl kc, .slice la ll lc, .int .i64 kd, .int .i64 vl, .slice ma ml mc, .slice na nl nc] 30 (0, 0)) := by rw [hw5, hkb]; exact heap_alloc_new _ _
     have hkB : B1 + 1 < kb := by rw [hkb]; exact (gl HW.out.pl.row)
     obtain ⟨v0, v1, v2, v3, v4, v5⟩ := bcells hk5
     have HK5 : Hid _ := hk5
     clear hk5
     go_wp2_with fail
     rw [<- hw5]
     rw [<- hkb]
     clear hw5 hkb c0 c1 c2 c3 c4 c5 HW
     go_wp2_with fail
     clear v0 v1 v2 v3 v4 v5
     go_loopw [42] (fun v wr => ∃ i : Nat, i <= kl /\ v = .int .i64 i /\ Hid (PW w wr #[.string s, .slice pa k pc, .int .i64 r, .slice va vn vc, .slice (some ⟨b, o, none⟩) bn bc, .slice fa fn fc] B1 vn (plL ((j : Int), -1) (A.take i) (plK f j))) /\ Hid (wr.heap[kb]? = some (.cells #[.slice ka kl kc, .slice la ll lc, .int .i64 kd, .int .i64 vl, .slice ma ml mc, .slice na nl nc] 30 (0, 0)))) (fun v _ => kl - (intOf v).toNat)
     case atStart => exact ⟨0, by omega, rfl, HW5.out, HK5.out⟩
     case round =>
      clear HW5 HK5
      obtain ⟨i, hi, rfl, HW, HK⟩ := hrel
      by_cases hil : i < kl
      ·have hi2 : i < A.length := by have := HKL.out; omega
       obtain ⟨b1, o1, rfl, kx⟩ := (HI1.out.below HW.out.low (by have := HB1.out; omega)).at hi2
       have hx := X1.out A[i] (List.getElem_mem hi2)
       simp only [wi, decide_eq_true_eq] at hx
       obtain ⟨p, hp⟩ : ∃ p : Nat, A[i] = p := ⟨A[i].toNat, by omega⟩
       have hpv : p < vn := by omega
       have HNX : Hid (∀ P, plL ((j : Int), -1) (A.take (i + 1)) P = (plL ((j : Int), -1) (A.take i) P).set p ((j : Int), -1)) := fun P => by rw [plL_take _ _ _ hi2, hp, Int.toNat_natCast]
       rw [hp] at kx
       obtain ⟨⟨z1, q1⟩, ⟨z2, q2⟩, q3, q4, q5⟩ := HW.out.pl.cell hpv
       have HP2 : Hid _ := HW.out.put hpv (j : Int) (-1)
       have HK2 : Hid (((wr.setCell ⟨B1 + 1, p * 2, none⟩ (.int .i64 (j : Int))).setCell ⟨B1 + 1, p * 2 + 1, none⟩ (.int .i64 (-1))).heap[kb]? = _) := (heap_set_other (by omega)).trans ((heap_set_other (by omega)).trans HK.out)
       clear hx hp HW HK
       go_wp2_with fail
       go_roundw
       case rel => exact ⟨i + 1, by omega, by go_num, by rw [HNX.out]; exact HP2.out, HK2.out⟩
       case measure => simp [intOf]; omega
      ·have hin : i = kl := by omega
       subst hin
       have hW := HW.out
       rw [List.take_of_length_le (by have := HKL.out; omega)] at hW
       have HW6 : Hid _ := hW
       obtain ⟨v0, v1, v2, v3, v4, v5⟩ := bcells HK.out
       clear hW HW
       go_wp2_with fail
       clear v0 v1 v2 v3 v4 v5
       go_loopw [55] (fun v wr => ∃ i : Nat, i <= ll /\ v = .int .i64 i /\ Hid (PW w wr #[.string s, .slice pa k pc, .int .i64 r, .slice va vn vc, .slice (some ⟨b, o, none⟩) bn bc, .slice fa fn fc] B1 vn (plB (j : Int) Bo i (plL ((j : Int), -1) A (plK f j))))) (fun v _ => ll - (intOf v).toNat)
       case atStart => exact ⟨0, by omega, rfl, HW6.out⟩
       case round =>
        clear HW6 HK
        obtain ⟨q, hq, rfl, HW⟩ := hrel
        by_cases hql : q < ll
        ·have hq2 : q < Bo.length := by have := HLL.out; omega
         obtain ⟨b1, o1, rfl, kx⟩ := (HI2.out.below HW.out.low (by have := HB1.out; omega)).at hq2
         have hx := X2.out Bo[q] (List.getElem_mem hq2)
         simp only [wi, decide_eq_true_eq] at hx
         obtain ⟨p, hp⟩ : ∃ p : Nat, Bo[q] = p := ⟨Bo[q].toNat, by omega⟩
         have hpv : p < vn := by omega
         have HNX : Hid (∀ P, plB (j : Int) Bo (q + 1) P = (plB (j : Int) Bo q P).set p ((j : Int), (q : Int))) := fun P => by simp only [plB]; rw [gn_at hq2, hp, Int.toNat_natCast]
         rw [hp] at kx
         obtain ⟨⟨z1, q1⟩, ⟨z2, q2⟩, q3, q4, q5⟩ := HW.out.pl.cell hpv
         have HP2 : Hid _ := HW.out.put hpv (j : Int) (q : Int)
         clear hx hp HW
         go_wp2_with fail
         go_roundw
         case rel => exact ⟨q + 1, by omega, by go_num, by rw [HNX.out]; exact HP2.out⟩
         case measure => simp [intOf]; omega
        ·have hqn : q = ll := by omega
         subst hqn
         have hW := HW.out
         rw [HLL.out, <- HNEXT.out] at hW
         have HW9 : Hid _ := hW
         clear hW HW
         go_wp2_with fail
         go_roundw
         case rel => exact ⟨j + 1, by omega, by go_num, HW9.out⟩
         case measure => simp [intOf]; omega
    ·have hjn : j = bn := by omega
     subst hjn
     have hW := HW.out
     rw [HC.out.eb] at hW
     have HR : Hid (Pl wr (B1 + 1) vn 134 (placesP f)) := hW.pl
     have HL : Hid (Below w.heap.size w wr) := by have := hW.low; rw [HB1.out] at this; exact this
     clear hW HW
     go_wp2_with fail
     go_ret
     exact ⟨_, rfl, HR.out, HL.out⟩
end Go.Proofs.YtfbkopjncmkbiabGreatDoor
