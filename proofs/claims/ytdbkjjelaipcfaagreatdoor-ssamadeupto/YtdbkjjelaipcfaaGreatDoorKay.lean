import Derived.Deep.RegionHeld
import Derived.Test.YtdbkjjelaipcfaaGreatDoorKax
set_option linter.unusedVariables false
set_option linter.unusedSimpArgs false
namespace Go.Proofs.YtdbkjjelaipcfaaGreatDoor
open Go.ChangeShapes Go.WideShapes Go.ChangeAt Go.RowKit Go.Maps
structure WyV (w : World) (f : Fu) (k : Nat) (vs : List Value) : Prop where
 len : vs.length = k
 at' : ∀ i (h : i < f.blks.length), i < k -> ∃ (ma : Option Addr) (mc : Nat), vs[i]? = some (.slice ma f.blks[i].ways.length mc) /\ Ints w ma mc f.blks[i].ways
theorem WyV.nil (w : World) (f : Fu) : WyV w f 0 [] := ⟨rfl, fun i _ hi => by omega⟩
theorem WyV.more {w f k vs} (h : WyV w f k vs) (hk : k < f.blks.length) {ma : Option Addr} {mc : Nat} (hI : Ints w ma mc f.blks[k].ways) : WyV w f (k + 1) (vs ++ [.slice ma f.blks[k].ways.length mc]) :=
 ⟨by simp [h.len], fun i hi hlt => by
  rcases Nat.lt_succ_iff_lt_or_eq.1 hlt with h1 | rfl
  ·obtain ⟨ma', mc', h2, h3⟩ := h.at' i hi h1
   exact ⟨ma', mc', by rw [List.getElem?_append_left (by rw [h.len]; exact h1)]; exact h2, h3⟩
  ·exact ⟨ma, mc, by rw [List.getElem?_append_right (by rw [h.len]; exact Nat.le_refl _), h.len]; simp, hI⟩⟩
theorem WyV.row {w w' f vs B v} (h : WyV w f f.blks.length vs) (ho : OwnV w' B v vs) (hb : Below w.heap.size w w') : ∃ ao c, v = .slice ao f.blks.length c /\ IRow w' ao c (waysP f) := by
 have hl : (waysP f).length = f.blks.length := by simp [waysP]
 have hoo := ho.out
 rw [h.len] at hoo
 rcases Nat.eq_zero_or_pos f.blks.length with h0 | h0
 ·obtain ⟨ao, c, e, h1, h2⟩ := own_slice hoo
  exact ⟨ao, c, e, by rw [hl]; exact h1, h2, fun hne => absurd (List.length_eq_zero_iff.1 (by rw [hl]; exact h0)) hne⟩
 ·obtain ⟨g, c, e, h1, h2, h3, h4⟩ := own_some hoo h0
  subst e
  refine ⟨_, c, rfl, by rw [hl]; exact h1, h2, fun _ => ⟨g, 0, rfl, h4, fun i hi => ?_⟩⟩
  have hi' : i < f.blks.length := by rw [<- hl]; exact hi
  obtain ⟨ma, mc, h5, h6⟩ := h.at' i hi' hi'
  have e7 : (waysP f)[i] = f.blks[i].ways := by simp [waysP]
  rw [e7, Nat.zero_add]
  exact ⟨ma, mc, by rw [own_cell hoo i (by omega)]; exact h5, h6.below hb (Nat.le_refl _)⟩
def rpP (f : Fu) : Bool := (decide (∀ i (h : i < f.blks.length), f.blks[i].preds = ldN (i : Int) (waysP f) f.blks.length)) && decide (((f.blks.map Bk.preds).getD 0 []).length = 0)
structure PT (f : Fu) (j : Nat) (R : Bool) : Prop where
 res : R = rpP f
 ok : ∀ i (h : i < f.blks.length), i < j -> f.blks[i].preds = ldN (i : Int) (waysP f) f.blks.length
theorem PT.hit {f j R} (h : PT f j R) (hj : j < f.blks.length) (hf : ¬ f.blks[j].preds = ldN (j : Int) (waysP f) f.blks.length) : false = R := by
 rw [h.res]
 symm
 unfold rpP
 rw [decide_eq_false (fun ha => hf (ha j hj))]
 rfl
theorem PT.fin {f j R} (h : PT f j R) (hj : f.blks.length <= j) : decide (((f.blks.map Bk.preds).getD 0 []).length = 0) = R := by
 rw [h.res]
 unfold rpP
 rw [decide_eq_true (fun i hi => h.ok i hi (by omega))]
 simp
theorem PT.more {f j R} (h : PT f j R) (hj : j < f.blks.length) (hf : f.blks[j].preds = ldN (j : Int) (waysP f) f.blks.length) : PT f (j + 1) R :=
 ⟨h.res, fun i hi hlt => by
  rcases Nat.lt_succ_iff_lt_or_eq.1 hlt with h1 | rfl
  ·exact h.ok i hi h1
  ·exact hf⟩
def qlK (f : Fu) : Nat -> List (Int × Int)
 | 0 => plL (-1, -1) f.params (List.replicate f.vals.length (-2, -1))
 | k + 1 => plS k (f.blks.getD k noB) (qlK f k)
structure Sm (a b : Int × Int) : Prop where
 out : a = b \/ (a.1 = -1 /\ b.1 = -1)
structure QP (n : Nat) (Q P : List (Int × Int)) (O : List Int) : Prop where
 lq : Q.length = n
 lp : P.length = n
 lo : O.length = n
 out : ∀ x, 0 <= O.getD x 0 /\ (O.getD x 0 = 0 \/ Sm (Q.getD x (0, 0)) (P.getD x (0, 0)))
theorem QP.put {n Q P O} (h : QP n Q P O) (i : Nat) {a b : Int × Int} (hs : Sm a b) : QP n (Q.set i a) (P.set i b) (O.set i (O.getD i 0 + 1)) := by
 refine ⟨by simp [h.lq], by simp [h.lp], by simp [h.lo], fun x => ?_⟩
 have hx := h.out x
 have hi := h.out i
 by_cases e : i = x
 ·subst e
  by_cases hlt : i < n
  ·have h1 : (O.set i (O.getD i 0 + 1)).getD i 0 = O.getD i 0 + 1 := by simp [List.getD_eq_getElem?_getD, h.lo, hlt]
   have h2 : (Q.set i a).getD i (0, 0) = a := by simp [List.getD_eq_getElem?_getD, h.lq, hlt]
   have h3 : (P.set i b).getD i (0, 0) = b := by simp [List.getD_eq_getElem?_getD, h.lp, hlt]
   rw [h1, h2, h3]
   exact ⟨by omega, .inr hs⟩
  ·rw [List.set_eq_of_length_le (by rw [h.lo]; omega), List.set_eq_of_length_le (by rw [h.lq]; omega), List.set_eq_of_length_le (by rw [h.lp]; omega)]
   exact hx
 ·have h1 : (O.set i (O.getD i 0 + 1)).getD x 0 = O.getD x 0 := by simp [List.getD_eq_getElem?_getD, List.getElem?_set, e]
  have h2 : (Q.set i a).getD x (0, 0) = Q.getD x (0, 0) := by simp [List.getD_eq_getElem?_getD, List.getElem?_set, e]
  have h3 : (P.set i b).getD x (0, 0) = P.getD x (0, 0) := by simp [List.getD_eq_getElem?_getD, List.getElem?_set, e]
  rw [h1, h2, h3]
  exact hx
theorem QP.plL {n a b} (hs : Sm a b) : ∀ (L : List Int) {Q P : List (Int × Int)} {O : List Int}, QP n Q P O -> QP n (plL a L Q) (plL b L P) (cntL O L)
 | [], _, _, _, h => h
 | x :: L, _, _, _, h => QP.plL hs L (h.put x.toNat hs)
theorem QP.plB {n : Nat} (b : Int) (L : List Int) {Q P : List (Int × Int)} {O : List Int} (h : QP n Q P O) : ∀ k, k <= L.length -> QP n (plB b L k Q) (plB b L k P) (cntL O (L.take k))
 | 0, _ => by simpa [_root_.Go.Proofs.YtdbkjjelaipcfaaGreatDoor.plB, cntL] using h
 | k + 1, hk => by
   have ih := QP.plB b L h k (by omega)
   rw [cntL_take O L (by omega : k < L.length)]
   have e : gn L k = L[k]'(by omega) := by simp [gn, List.getD_eq_getElem?_getD, show k < L.length by omega]
   show QP n ((Go.Proofs.YtdbkjjelaipcfaaGreatDoor.plB b L k Q).set (gn L k).toNat (b, (k : Int))) ((Go.Proofs.YtdbkjjelaipcfaaGreatDoor.plB b L k P).set (gn L k).toNat (b, (k : Int))) _
   rw [e]
   exact ih.put _ ⟨.inl rfl⟩
theorem qp_all (f : Fu) : ∀ k, k <= f.blks.length -> QP f.vals.length (qlK f k) (plK f k) (cntK f k)
 | 0, _ => by
   have h0 : QP f.vals.length (List.replicate f.vals.length (-2, -1)) (List.replicate f.vals.length (0, 0)) (List.replicate f.vals.length 0) := by
    refine ⟨by simp, by simp, by simp, fun x => ?_⟩
    have : (List.replicate f.vals.length (0 : Int)).getD x 0 = 0 := by
     rw [List.getD_eq_getElem?_getD, List.getElem?_replicate]; split <;> rfl
    rw [this]; exact ⟨by omega, .inl rfl⟩
   have := QP.plL (a := (-1, -1)) (b := (-1, 0)) ⟨.inr ⟨rfl, rfl⟩⟩ f.params h0
   simpa [qlK, plK, cntK] using this
 | k + 1, hk => by
   have ih := qp_all f k (by omega)
   rw [cntK_next f (by omega : k < f.blks.length)]
   have e : f.blks.getD k noB = f.blks[k]'(by omega) := by simp [List.getD_eq_getElem?_getD, show k < f.blks.length by omega]
   show QP _ (plS k (f.blks.getD k noB) (qlK f k)) (plS k (f.blks.getD k noB) (plK f k)) _
   rw [e]
   unfold plS cntB
   have h1 := QP.plL (a := ((k : Int), -1)) (b := ((k : Int), -1)) ⟨.inl rfl⟩ (f.blks[k]'(by omega)).phis ih
   have h2 := QP.plB (k : Int) (f.blks[k]'(by omega)).body h1 (f.blks[k]'(by omega)).body.length (Nat.le_refl _)
   rw [List.take_of_length_le (Nat.le_refl _)] at h2
   exact h2
theorem places_same {f : Fu} (h : onceP f = true) (x : Nat) (hx : x < f.vals.length) : Sm ((qlK f f.blks.length).getD x (0, 0)) ((placesP f).getD x (0, 0)) := by
 have q := qp_all f f.blks.length (Nat.le_refl _)
 rcases (q.out x).2 with h0 | h0
 ·exfalso
  unfold onceP at h
  rw [List.all_eq_true] at h
  have hl : x < (cntAll f).length := by unfold cntAll; rw [q.lo]; exact hx
  have := h _ (List.getElem_mem hl)
  have e : (cntK f f.blks.length).getD x 0 = (cntAll f)[x]'hl := by
   rw [List.getD_eq_getElem?_getD, List.getElem?_eq_getElem (by rw [q.lo]; exact hx)]; rfl
  rw [e] at h0
  rw [h0] at this
  simp at this
 ·exact h0
def rtP (f : Fu) (v k : Int) : Bool := if ((qlK f f.blks.length).getD v.toNat (0, 0)).1 = -1 then true else !decide (k ∈ woP (waysP f) ((qlK f f.blks.length).getD v.toNat (0, 0)).1)
def rahP (f : Fu) (v : Int) (b at_ : Int) : Bool := if ((qlK f f.blks.length).getD v.toNat (0, 0)).1 = b then decide (((qlK f f.blks.length).getD v.toNat (0, 0)).2 < at_) else rtP f v b
def rub (f : Fu) (b : Nat) (k : Bk) : Bool := k.phis.all (fun phi => evr (fun i arg => rtP f arg (gn k.preds i)) 0 (gv f phi).args) && (evr (fun (at_ : Nat) v => (gv f v).args.all (fun arg => rahP f arg b at_)) 0 k.body && (decide (k.val < 0) || rtP f k.val b))
def ruP (f : Fu) : Bool := evr (rub f) 0 f.blks
theorem rt_there {f : Fu} {FS : List Fu} (hf : formP FS f = true) (hr : reachedP f = true) (ho : onceP f = true) {v k : Int} (hv : wi f.vals.length v = true) (hk : wi f.blks.length k = true) : thereP (placesP f) (regP (treeF f)) v k = rtP f v k := by
 have hg := ways_good hf
 have h0 := (formP_blocks hf).1
 have hall := reached_all hr h0 hg
 have hlen := waysP_len f
 have tk := tree_ok hg hall
 have ht : (treeP (waysP f)).length = f.blks.length := by rw [treeP_len hg, hlen]
 simp only [wi, decide_eq_true_eq] at hv hk
 have hs := places_same ho v.toNat (by omega)
 have hok := (plK_ok (f := f) h0 f.blks.length (Nat.le_refl _)).ok v.toNat
 have hk' : (k.toNat : Int) = k := Int.toNat_of_nonneg hk.1
 unfold thereP rtP
 unfold placesP at hs ⊢
 generalize (qlK f f.blks.length).getD v.toNat (0, 0) = q at hs ⊢
 generalize (plK f f.blks.length).getD v.toNat (0, 0) = p at hs hok ⊢
 rcases hs.out with rfl | ⟨h1, h2⟩
 ·by_cases e : q.1 = -1
  ·rw [if_pos e, if_pos e]
  ·rw [if_neg e, if_neg e]
   obtain ⟨h3, h4⟩ := hok.resolve_left e
   have ha : (q.1.toNat : Int) = q.1 := Int.toNat_of_nonneg h3
   have hh := reg_holds tk (a := q.1.toNat) (b := k.toNat) (by rw [ht]; omega) (by rw [ht]; omega)
   have hd : Dm (waysP f) (q.1.toNat : Int) (k.toNat : Int) ↔ ¬ k ∈ woP (waysP f) q.1 := by
    have m1 := hall q.1.toNat (by rw [hlen]; omega)
    have m2 := hall k.toNat (by rw [hlen]; omega)
    unfold Dm
    rw [ha, hk'] at *
    exact ⟨fun h => h.2.2, fun h => ⟨m1, m2, h⟩⟩
   have hx := hh.trans hd
   unfold gp at hx
   rw [Int.toNat_natCast, Int.toNat_natCast] at hx
   unfold treeF
   by_cases hm : k ∈ woP (waysP f) q.1
   ·have : ¬ holdsP ((regP (treeP (waysP f))).getD q.1.toNat (0, 0)) ((regP (treeP (waysP f))).getD k.toNat (0, 0)) = true := fun h => hx.1 h hm
    simp only [Bool.not_eq_true] at this
    rw [this]; simp [hm]
   ·rw [hx.2 hm]; simp [hm]
 ·rw [if_pos h1, if_pos h2]
theorem rah_ahead {f : Fu} {FS : List Fu} (hf : formP FS f = true) (hr : reachedP f = true) (ho : onceP f = true) {v : Int} {b : Nat} (at_ : Int) (hv : wi f.vals.length v = true) (hb : b < f.blks.length) : aheadP (placesP f) (regP (treeF f)) v b at_ = rahP f v b at_ := by
 have e := rt_there hf hr ho hv (k := (b : Int)) (by simp [wi]; omega)
 simp only [wi, decide_eq_true_eq] at hv
 have hs := places_same ho v.toNat (by omega)
 unfold aheadP rahP
 rw [e]
 rcases hs.out with h | ⟨h1, h2⟩
 ·rw [h]
 ·rw [h1, h2, if_neg (by omega), if_neg (by omega)]
theorem evr_congr {α : Type} {p q : Nat -> α -> Bool} (L : List α) : ∀ k, (∀ i (h : i < L.length), p (k + i) L[i] = q (k + i) L[i]) -> evr p k L = evr q k L := by
 induction L with
 | nil => intro k _; rfl
 | cons x L ih =>
   intro k h
   simp only [evr]
   have h0 := h 0 (by simp)
   simp only [Nat.add_zero, List.getElem_cons_zero] at h0
   rw [h0, ih (k + 1) (fun i hi => ?_)]
   have := h (i + 1) (by simpa using hi)
   rw [show k + 1 + i = k + (i + 1) by omega]
   simpa using this
theorem all_same {α : Type} {p q : α -> Bool} (L : List α) (h : ∀ x ∈ L, p x = q x) : L.all p = L.all q := by
 induction L with
 | nil => rfl
 | cons x L ih => simp only [List.all_cons]; rw [h x (by simp), ih fun y hy => h y (by simp [hy])]
theorem gv_args {f : Fu} {FS : List Fu} (hf : formP FS f = true) {x : Int} (hx : wi f.vals.length x = true) : ∀ y ∈ (gv f x).args, wi f.vals.length y = true := by
 simp only [wi, decide_eq_true_eq] at hx
 have hm : gv f x ∈ f.vals := by
  unfold gv
  rw [List.getD_eq_getElem?_getD, List.getElem?_eq_getElem (by omega : x.toNat < f.vals.length)]
  exact List.getElem_mem _
 have := formP_vals hf _ hm
 simp only [valueP, Bool.and_eq_true, List.all_eq_true] at this
 exact this.2.2.2.1
theorem ruP_eq {f : Fu} {FS : List Fu} (hf : formP FS f = true) (hp : phisP f = true) (hr : reachedP f = true) (ho : onceP f = true) : ruP f = usesP f := by
 unfold ruP usesP
 refine evr_congr _ 0 fun b hb => ?_
 rw [Nat.zero_add]
 have hm : f.blks[b] ∈ f.blks := List.getElem_mem hb
 have hB := (formP_blocks hf).2 _ hm
 have hP : phiB f f.blks[b] = true := by
  simp only [phisP, Bool.and_eq_true, List.all_eq_true] at hp
  exact hp.2 _ hm
 have hph := blockP_ph hB
 have htm := blockP_term hB
 have hpr : ∀ x ∈ f.blks[b].preds, wi f.blks.length x = true := by
  simp only [blockP, Bool.and_eq_true, List.all_eq_true] at hB
  exact hB.2.2.1
 have hvl : f.blks[b].val = -1 \/ wi f.vals.length f.blks[b].val = true := by
  by_cases e : f.blks[b].val = -1
  ·exact .inl e
  ·exact .inr (htm (.inr (.inr e)))
 simp only [phiB, Bool.and_eq_true, List.all_eq_true] at hP
 generalize f.blks[b] = k at hP hph hpr hvl
 unfold rub useB
 have e1 : (k.phis.all fun phi => evr (fun i arg => rtP f arg (gn k.preds i)) 0 (gv f phi).args) = k.phis.all (useP f (placesP f) (regP (treeF f)) k.preds) := by
  refine all_same _ fun phi hphi => ?_
  unfold useP
  refine evr_congr _ 0 fun i hi => ?_
  have hl := hP.1 phi hphi
  simp only [phP, Bool.and_eq_true, decide_eq_true_eq] at hl
  have hip : i < k.preds.length := by rw [<- hl.2]; exact hi
  unfold useA
  rw [Nat.zero_add]
  refine (rt_there hf hr ho (gv_args hf (hph.1 phi hphi) _ (List.getElem_mem hi)) ?_).symm
  have : gn k.preds i = k.preds[i] := by simp [gn, List.getD_eq_getElem?_getD, hip]
  rw [this]
  exact hpr _ (List.getElem_mem hip)
 have e2 : evr (fun (at_ : Nat) v => (gv f v).args.all (fun arg => rahP f arg b at_)) 0 k.body = evr (useV f (placesP f) (regP (treeF f)) b) 0 k.body := by
  refine evr_congr _ 0 fun i hi => ?_
  unfold useV
  refine all_same _ fun arg ha => ?_
  exact (rah_ahead hf hr ho _ (gv_args hf (hph.2 _ (List.getElem_mem hi)) _ ha) hb).symm
 have e3 : (decide (k.val < 0) || rtP f k.val b) = (decide (k.val = -1) || thereP (placesP f) (regP (treeF f)) k.val b) := by
  rcases hvl with h | h
  ·simp [h]
  ·rw [rt_there hf hr ho h (k := (b : Int)) (by simp [wi]; omega)]
   simp only [wi, decide_eq_true_eq] at h
   rw [decide_eq_false (by omega), decide_eq_false (by omega)]
 rw [e1, e2, e3]
structure TyOK (s : Shp) : Prop where
 out : ∀ i : Nat, (i : Int) < s.count -> isTy (shA s i) = true
theorem TyOK.zero (a b c d : Int) : TyOK ⟨0, a, b, c, d⟩ := ⟨fun i h => by simp at h; omega⟩
theorem TyOK.one {a : Int} (b c d : Int) (h : isTy a = true) : TyOK ⟨1, a, b, c, d⟩ := ⟨fun i hi => by
 simp only at hi
 obtain rfl : i = 0 := by omega
 exact h⟩
theorem TyOK.two {a b : Int} (c d : Int) (h : isTy a = true) (h' : isTy b = true) : TyOK ⟨2, a, b, c, d⟩ := ⟨fun i hi => by
 simp only at hi
 rcases (show i = 0 \/ i = 1 by omega) with rfl | rfl
 ·exact h
 ·exact h'⟩
theorem TyOK.three {a b c : Int} (d : Int) (h : isTy a = true) (h' : isTy b = true) (h2 : isTy c = true) : TyOK ⟨3, a, b, c, d⟩ := ⟨fun i hi => by
 simp only at hi
 rcases (show i = 0 \/ i = 1 \/ i = 2 by omega) with rfl | rfl | rfl
 ·exact h
 ·exact h'
 ·exact h2⟩
structure RX (w : World) (fa : Option Addr) (fn fc : Nat) (s : ByteArray) (pa : Option Addr) (pn pc : Nat) (r : Int) (va : Option Addr) (vn vc : Nat) (ba : Option Addr) (bn bc : Nat) (FS : List Fu) (f : Fu) : Prop where
 hF : Fus w fa fc FS
 ef : fn = FS.length
 ep : pn = f.params.length
 hP : Ints w pa pc f.params
 er : r = f.result
 ev : vn = f.vals.length
 hV : Vls w va vc f.vals
 eb : bn = f.blks.length
 hB : Bks w ba bc f.blks
theorem RX.below {w w' : World} {fa : Option Addr} {fn fc : Nat} {s : ByteArray} {pa : Option Addr} {pn pc : Nat} {r : Int} {va : Option Addr} {vn vc : Nat} {ba : Option Addr} {bn bc : Nat} {FS : List Fu} {f : Fu} (h : RX w fa fn fc s pa pn pc r va vn vc ba bn bc FS f) (hb : Below w.heap.size w w') : RX w' fa fn fc s pa pn pc r va vn vc ba bn bc FS f :=
 ⟨h.hF.below hb (Nat.le_refl _), h.ef, h.ep, h.hP.below hb (Nat.le_refl _), h.er, h.ev, h.hV.below hb (Nat.le_refl _), h.eb, h.hB.below hb (Nat.le_refl _)⟩
theorem Vls.at4 {w ao cap} {L : List Vl} (h : Vls w ao cap L) {j : Nat} (hj : j < L.length) : ∃ (b o : Nat) (ka : Option Addr) (kc : Nat), ao = some ⟨b, o, none⟩ /\ b < w.heap.size /\ w.cell? ⟨b, o + j * 4, none⟩ = some (.int .i64 L[j].op) /\ w.cell? ⟨b, o + j * 4 + 1, none⟩ = some (.int .i64 L[j].ty) /\ w.cell? ⟨b, o + j * 4 + 2, none⟩ = some (.int .i64 L[j].imm) /\ w.cell? ⟨b, o + j * 4 + 3, none⟩ = some (.slice ka L[j].args.length kc) /\ Ints w ka kc L[j].args := by
 obtain ⟨b, o, e, hlt, hA⟩ := h.out (by intro e; rw [e] at hj; simp at hj)
 obtain ⟨ka, kc, c0, c1, c2, c3, hI⟩ := (hA j hj).out
 exact ⟨b, o, ka, kc, e, hlt, c0, c1, c2, c3, hI⟩
theorem cell_lt {w : World} {b o : Nat} {v : Value} (h : w.cell? ⟨b, o, none⟩ = some v) : b < w.heap.size := by
 by_cases hb : b < w.heap.size
 ·exact hb
 ·simp [World.cell?, Array.getElem?_eq_none (by omega : w.heap.size <= b)] at h
structure WK (w : World) (ao : Option Addr) (l c n : Nat) (A : Bool) : Prop where
 out : ∀ w', Below w.heap.size w w' -> Calls Tryz.prog 83 #[.slice ao l c, .int .i64 n] w' fun e w'' => e = .returned (.bool A) /\ w'' = w'
theorem WK.of {w : World} {ao : Option Addr} {l c n : Nat} {L : List Int} {A : Bool} (hL : Ints w ao c L) (hl : l = L.length) (hA : L.all (wi n) = A) : WK w ao l c n A := ⟨fun w' hb => by
 have := rWithin_any w' ao l c n L hl (hL.below hb (Nat.le_refl _))
 rw [hA] at this; exact this⟩
set_option maxRecDepth 10000 in
set_option maxHeartbeats 1000000 in
theorem numbers_any (w : World) (ao : Option Addr) (k c n : Nat) (L : List Int) (hk : k = L.length) (h : Ints w ao c L) : Calls Tryz.prog 13 #[.slice ao k c, .int .i64 n] w fun e w' => e = .returned (.bool (L.all (wi n))) /\ w' = w := by
 have hmx : k <= 9223372036854775807 := by have := h.le; have := h.mx; omega
 obtain ⟨R, hR⟩ : ∃ R, R = L.all (wi n) := ⟨_, rfl⟩
 rw [<- hR]
 have HK : Hid (k = L.length) := hk
 have HI : Hid (Ints w ao c L) := h
 have H0 : WT n L 0 R := ⟨hR, fun i _ hi => by omega⟩
 clear hR hk h
 go_enter Tryz.func13, Tryz.ntmps13
 go_wp2_with fail
 go_loop [5] (fun v => ∃ j : Nat, j <= k /\ v = .int .i64 j /\ WT n L j R) (fun v => k - (intOf v).toNat)
 case atStart => exact ⟨0, by omega, rfl, H0⟩
 case round =>
  obtain ⟨j, hj, rfl, HJ⟩ := hrel
  by_cases hlt : j < k
  ·obtain ⟨b, o, rfl, hA⟩ := HI.out.out (by intro e; have := HK.out; rw [e] at this; simp at this; omega)
   obtain ⟨x, hx⟩ : ∃ x, x = L[j]'(by have := HK.out; omega) := ⟨_, rfl⟩
   have hcl : w.cell? ⟨b, o + j, none⟩ = some (.int .i64 x) := by rw [hx]; exact hA.cell j (by have := HK.out; omega)
   have HX : Hid (wi n x = true -> WT n L (j + 1) R) := fun hh => HJ.more (by have := HK.out; omega) (by rw [<- hx]; exact hh)
   have HF : Hid (wi n x = false -> false = R) := fun hh => HJ.hit (by have := HK.out; omega) (by rw [<- hx]; exact hh)
   clear hx hA
   by_cases h0 : x < 0
   ·have HE : Hid (false = R) := HF.out (by simp [wi]; omega)
    go_wp2_with fail
    go_ret
    exact ⟨ret_bl HE.out, rfl⟩
   ·by_cases h1 : x < n
    ·have HE : Hid (WT n L (j + 1) R) := HX.out (by simp [wi]; omega)
     go_wp2_with fail
     go_round
     case rel => exact ⟨j + 1, by omega, by go_num, HE.out⟩
     case measure => simp [intOf]; omega
    ·have HE : Hid (false = R) := HF.out (by simp [wi]; omega)
     go_wp2_with fail
     go_ret
     exact ⟨ret_bl HE.out, rfl⟩
  ·obtain rfl : j = k := by omega
   have HE : Hid (true = R) := HJ.fin (by have := HK.out; omega)
   go_wp2_with fail
   go_ret
   exact ⟨ret_bl HE.out, rfl⟩
structure LF (w : World) (pa : Option Addr) (pn pc : Nat) (va : Option Addr) (vn vc : Nat) (ba : Option Addr) (bn bc : Nat) (f : Fu) : Prop where
 ep : pn = f.params.length
 ev : vn = f.vals.length
 eb : bn = f.blks.length
 hp : Ints w pa pc f.params
 hv : Vls w va vc f.vals
 hb : Bks w ba bc f.blks
theorem LF.below {w w' pa pn pc va vn vc ba bn bc f} (h : LF w pa pn pc va vn vc ba bn bc f) (hb : Below w.heap.size w w') : LF w' pa pn pc va vn vc ba bn bc f :=
 ⟨h.ep, h.ev, h.eb, h.hp.below hb (Nat.le_refl _), h.hv.below hb (Nat.le_refl _), h.hb.below hb (Nat.le_refl _)⟩
structure RG (f : Fu) : Prop where
 p : f.params.all (wi f.vals.length) = true
 a : ∀ v ∈ f.vals, v.args.all (wi f.vals.length) = true
 b : ∀ b ∈ f.blks, b.phis.all (wi f.vals.length) = true /\ b.body.all (wi f.vals.length) = true /\ b.preds.all (wi f.blks.length) = true /\ b.ways.all (wi f.blks.length) = true /\ b.val < f.vals.length
 n : 0 < f.blks.length
 v : f.vals.length < 262144
theorem rg_of {FS : List Fu} {f : Fu} (h : formP FS f = true) : RG f := by
 obtain ⟨h1, h2, h3⟩ := formP_params h
 have h4 := h
 simp only [formP, Bool.and_eq_true, decide_eq_true_eq, List.all_eq_true] at h4
 obtain ⟨_, _, h5, _, _, h6, h7⟩ := h4
 refine ⟨List.all_eq_true.2 h1, fun v hv => ?_, fun b hb => ?_, h5, h2⟩
 ·have := h6 v hv
  simp only [valueP, Bool.and_eq_true] at this
  exact this.2.2.2.1
 ·have := h7 b hb
  simp only [blockP, termP, Bool.and_eq_true] at this
  obtain ⟨q1, q2, q3, q4, q5, q6, q7⟩ := this
  refine ⟨List.all_eq_true.2 fun x hx => ?_, List.all_eq_true.2 fun x hx => ?_, q3, q6, ?_⟩
  ·have := List.all_eq_true.1 q1 x hx
   simp only [mayP, Bool.and_eq_true] at this
   exact this.1
  ·have := List.all_eq_true.1 q2 x hx
   simp only [mayP, Bool.and_eq_true] at this
   exact this.1
  ·split at q7
   ·simp only [wi, decide_eq_true_eq] at q7; omega
   ·simp only [decide_eq_true_eq] at q7; omega
set_option maxRecDepth 100000 in
set_option maxHeartbeats 4000000 in
theorem ranges_any (w : World) {s : ByteArray} {pa : Option Addr} {pn pc : Nat} {r : Int} {va : Option Addr} {vn vc : Nat} {ba : Option Addr} {bn bc : Nat} {f : Fu} (C : LF w pa pn pc va vn vc ba bn bc f) (hg : RG f) :
 Calls Tryz.prog 25 #[.agg #[.string s, .slice pa pn pc, .int .i64 r, .slice va vn vc, .slice ba bn bc]] w fun e w' => e = .returned (.bool true) /\ Below w.heap.size w w' := by
 have A0 : Af1 w (.cells #[.string s, .slice pa pn pc, .int .i64 r, .slice va vn vc, .slice ba bn bc] 38) (w.alloc (.cells #[.string s, .slice pa pn pc, .int .i64 r, .slice va vn vc, .slice ba bn bc] 38)) := Af1.refl _ _
 have hvx : vn <= vc /\ vc <= 9223372036854775807 := by have := C.hv.le; have := C.hv.mx; have := C.ev; omega
 have hbx : bn <= bc /\ bc <= 9223372036854775807 := by have := C.hb.le; have := C.hb.mx; have := C.eb; omega
 have hvm : vn <= 300000 := by have := hg.v; have := C.ev; omega
 have hbp : 0 < bn := by have := hg.n; have := C.eb; omega
 have hbi : ¬ (bn : Int) <= 0 := by omega
 have HC : Hid (∀ w', Below w.heap.size w w' -> LF w' pa pn pc va vn vc ba bn bc f) := fun w' hb => C.below hb
 have HEV : Hid (vn = f.vals.length) := C.ev
 have HEB : Hid (bn = f.blks.length) := C.eb
 have HG : Hid (RG f) := hg
 have HN : Hid (∀ w', Below w.heap.size w w' -> Calls Tryz.prog 13 #[.slice pa pn pc, .int .i64 vn] w' fun e w'' => e = .returned (.bool true) /\ w'' = w') := fun w' hb => by
  have := numbers_any w' pa pn pc vn f.params C.ep (C.below hb).hp
  rw [C.ev, hg.p, <- C.ev] at this
  exact this
 have x1 : (w.alloc (.cells #[.string s, .slice pa pn pc, .int .i64 r, .slice va vn vc, .slice ba bn bc] 38)).cell? ⟨w.heap.size, 1, none⟩ = some (.slice pa pn pc) := cell_arr A0.one rfl
 have x3 : (w.alloc (.cells #[.string s, .slice pa pn pc, .int .i64 r, .slice va vn vc, .slice ba bn bc] 38)).cell? ⟨w.heap.size, 3, none⟩ = some (.slice va vn vc) := cell_arr A0.one rfl
 obtain ⟨W, hW⟩ : ∃ W, W = w.alloc (.cells #[.string s, .slice pa pn pc, .int .i64 r, .slice va vn vc, .slice ba bn bc] 38) := ⟨_, rfl⟩
 have hWs : W.heap.size = w.heap.size + 1 := by rw [hW]; simp
 rw [<- hW] at A0 x1 x3
 have HA0 : Hid (Af1 w (.cells #[.string s, .slice pa pn pc, .int .i64 r, .slice va vn vc, .slice ba bn bc] 38) W) := A0
 clear C hg A0
 go_enter Tryz.func25, Tryz.ntmps25
 go_wp2_with fail
 rw [<- hW]
 clear hW
 refine (HN.out W HA0.out.low).mono ?_
 rintro e w9 ⟨rfl, h9⟩
 rw [h9]
 clear h9 w9
 go_wp2_with fail
 clear x1
 go_loop [4, 5] (fun a v => ∃ k : Nat, k <= vn /\ a = .bool true /\ v = .int .i64 k) (fun _ v => vn - (intOf v).toNat)
 case atStart => exact ⟨0, by omega, rfl, rfl⟩
 case round =>
  obtain ⟨k, hk, rfl, rfl⟩ := hrel
  by_cases hlt : k < vn
  ·have hkf : k < f.vals.length := by have := HEV.out; omega
   obtain ⟨b', o', ka, kc, rfl, hlt', c0, c1, c2, c3, hI⟩ := (HC.out W HA0.out.low).hv.at4 hkf
   have hNN := numbers_any W ka _ kc vn f.vals[k].args rfl hI
   rw [HEV.out, HG.out.a _ (List.getElem_mem hkf), <- HEV.out] at hNN
   generalize f.vals[k].args.length = al at c3 hNN
   have HNN : Hid _ := hNN
   clear c0 c1 c2 hI hNN
   go_wp2_with fail
   refine Calls.mono HNN.out ?_
   rintro e w9 ⟨rfl, h9⟩
   rw [h9]
   clear h9 w9
   go_wp2_with fail
   go_round
   case rel => exact ⟨k + 1, by omega, rfl, by go_num⟩
   case measure => simp [intOf]; omega
  ·clear x3
   go_wp2_with fail
   go_loopw [4, 6] (fun a v wr => ∃ k : Nat, k <= bn /\ a = .bool true /\ v = .int .i64 k /\ Hid (Af1 w (.cells #[.string s, .slice pa pn pc, .int .i64 r, .slice va vn vc, .slice ba bn bc] 38) wr)) (fun _ v _ => bn - (intOf v).toNat)
   case atStart => exact ⟨0, by omega, rfl, rfl, HA0⟩
   case round =>
    obtain ⟨k, hk, rfl, rfl, HA⟩ := hrel
    have x4 : wr.cell? ⟨w.heap.size, 4, none⟩ = some (.slice ba bn bc) := cell_arr HA.out.one rfl
    have xs : w.heap.size < wr.heap.size := by have := HA.out.size; omega
    by_cases hlb : k < bn
    ·have hkf : k < f.blks.length := by have := HEB.out; omega
     obtain ⟨b', o', ka, kc, la, lc, ma, mc, na, nc, rfl, hlt', c0, c1, c2, c3, c4, c5, g1, g2, g3, g4⟩ := (HC.out wr HA.out.low).hb.at hkf
     obtain ⟨r1, r2, r3, r4, r5⟩ := HG.out.b _ (List.getElem_mem hkf)
     obtain ⟨W2, hW2⟩ : ∃ W2, W2 = wr.alloc (.cells #[.slice ka f.blks[k].phis.length kc, .slice la f.blks[k].body.length lc, .int .i64 f.blks[k].kind, .int .i64 f.blks[k].val, .slice ma f.blks[k].ways.length mc, .slice na f.blks[k].preds.length nc] 46) := ⟨_, rfl⟩
     have kb : W2.heap[wr.heap.size]? = some (.cells #[.slice ka f.blks[k].phis.length kc, .slice la f.blks[k].body.length lc, .int .i64 f.blks[k].kind, .int .i64 f.blks[k].val, .slice ma f.blks[k].ways.length mc, .slice na f.blks[k].preds.length nc] 46 (0, 0)) := by rw [hW2]; exact heap_alloc_new _ _
     have b2 : Below wr.heap.size wr W2 := by rw [hW2]; exact below_new _ _
     have HA2 : Hid (Af1 w _ W2) := HA.out.next b2
     have n1 := numbers_any W2 ka _ kc vn _ rfl (g1.below b2 (Nat.le_refl _))
     have n2 := numbers_any W2 la _ lc vn _ rfl (g2.below b2 (Nat.le_refl _))
     have n3 := numbers_any W2 ma _ mc bn _ rfl (g3.below b2 (Nat.le_refl _))
     have n4 := numbers_any W2 na _ nc bn _ rfl (g4.below b2 (Nat.le_refl _))
     rw [HEV.out, r1, <- HEV.out] at n1
     rw [HEV.out, r2, <- HEV.out] at n2
     rw [HEB.out, r4, <- HEB.out] at n3
     rw [HEB.out, r3, <- HEB.out] at n4
     have r6 : f.blks[k].val < (vn : Int) := by have := HEV.out; omega
     generalize f.blks[k].phis.length = l1 at c0 n1 hW2 kb
     generalize f.blks[k].body.length = l2 at c1 n2 hW2 kb
     generalize f.blks[k].ways.length = l3 at c4 n3 hW2 kb
     generalize f.blks[k].preds.length = l4 at c5 n4 hW2 kb
     generalize f.blks[k].kind = kd at c2 hW2 kb
     generalize f.blks[k].val = vl at c3 hW2 kb r6
     have p0 : W2.cell? ⟨wr.heap.size, 0, none⟩ = some (.slice ka l1 kc) := cell_arr kb rfl
     have p1 : W2.cell? ⟨wr.heap.size, 1, none⟩ = some (.slice la l2 lc) := cell_arr kb rfl
     have p3 : W2.cell? ⟨wr.heap.size, 3, none⟩ = some (.int .i64 vl) := cell_arr kb rfl
     have p4 : W2.cell? ⟨wr.heap.size, 4, none⟩ = some (.slice ma l3 mc) := cell_arr kb rfl
     have p5 : W2.cell? ⟨wr.heap.size, 5, none⟩ = some (.slice na l4 nc) := cell_arr kb rfl
     have y4 : W2.cell? ⟨w.heap.size, 4, none⟩ = some (.slice (some ⟨b', o', none⟩) bn bc) := cell_arr HA2.out.one rfl
     have N1 : Hid _ := n1
     have N2 : Hid _ := n2
     have N3 : Hid _ := n3
     have N4 : Hid _ := n4
     have hbl : b' < wr.heap.size := by omega
     clear n1 n2 n3 n4 r1 r2 r3 r4 r5 g1 g2 g3 g4 kb b2
     go_wp2_with fail
     rw [<- hW2]
     clear hW2
     refine Calls.mono N1.out ?_
     rintro e w9 ⟨rfl, h9⟩
     rw [h9]
     clear h9 w9
     go_wp2_with fail
     refine Calls.mono N2.out ?_
     rintro e w9 ⟨rfl, h9⟩
     rw [h9]
     clear h9 w9
     go_wp2_with fail
     refine Calls.mono N4.out ?_
     rintro e w9 ⟨rfl, h9⟩
     rw [h9]
     clear h9 w9
     go_wp2_with fail
     refine Calls.mono N3.out ?_
     rintro e w9 ⟨rfl, h9⟩
     rw [h9]
     clear h9 w9
     go_wp2_with fail
     go_roundw
     case rel => exact ⟨k + 1, by omega, rfl, by go_num, HA2⟩
     case measure => simp [intOf]; omega
    ·have HLO : Hid (Below w.heap.size w wr) := HA.out.low
     go_wp2_with fail
     go_ret
     exact ⟨rfl, HLO.out⟩
end Go.Proofs.YtdbkjjelaipcfaaGreatDoor
