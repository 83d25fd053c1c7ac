import Derived.Deep.RegionHeld
import Derived.Test.YtdbkjjelaipcfaaGreatDoorMaw
set_option linter.unusedVariables false
set_option linter.unusedSimpArgs false
namespace Go.Proofs.YtdbkjjelaipcfaaGreatDoor
open Go.ChangeShapes Go.WideShapes Go.ChangeAt Go.RowKit Go.Maps
structure WyV (w : World) (f : Fu) (k : Nat) (vs : List Value) : Prop where
 len : vs.length = k
 at' : ∀ i (h : i < f.blks.length), i < k -> ∃ (ma : Option Addr) (mc : Nat), vs[i]? = some (.slice ma f.blks[i].ways.length mc) /\ Ints w ma mc f.blks[i].ways
theorem WyV.nil (w : World) (f : Fu) : WyV w f 0 [] := ⟨rfl, fun i _ hi => by omega⟩
theorem WyV.more {w f k vs} (h : WyV w f k vs) (hk : k < f.blks.length) {ma : Option Addr} {mc : Nat} (hI : Ints w ma mc f.blks[k].ways) : WyV w f (k + 1) (vs ++ [.slice ma f.blks[k].ways.length mc]) :=
 ⟨by simp [h.len], fun i hi hlt => by
  rcases Nat.lt_succ_iff_lt_or_eq.1 hlt with h1 | rfl
  ·obtain ⟨ma', mc', h2, h3⟩ := h.at' i hi h1
   exact ⟨ma', mc', by rw [List.getElem?_append_left (by rw [h.len]; exact h1)]; exact h2, h3⟩
  ·exact ⟨ma, mc, by rw [List.getElem?_append_right (by rw [h.len]; exact Nat.le_refl _), h.len]; simp, hI⟩⟩
theorem WyV.row {w w' f vs B v} (h : WyV w f f.blks.length vs) (ho : OwnV w' B v vs) (hb : Below w.heap.size w w') : ∃ ao c, v = .slice ao f.blks.length c /\ IRow w' ao c (waysP f) := by
 have hl : (waysP f).length = f.blks.length := by simp [waysP]
 have hoo := ho.out
 rw [h.len] at hoo
 rcases Nat.eq_zero_or_pos f.blks.length with h0 | h0
 ·obtain ⟨ao, c, e, h1, h2⟩ := own_slice hoo
  exact ⟨ao, c, e, by rw [hl]; exact h1, h2, fun hne => absurd (List.length_eq_zero_iff.1 (by rw [hl]; exact h0)) hne⟩
 ·obtain ⟨g, c, e, h1, h2, h3, h4⟩ := own_some hoo h0
  subst e
  refine ⟨_, c, rfl, by rw [hl]; exact h1, h2, fun _ => ⟨g, 0, rfl, h4, fun i hi => ?_⟩⟩
  have hi' : i < f.blks.length := by rw [<- hl]; exact hi
  obtain ⟨ma, mc, h5, h6⟩ := h.at' i hi' hi'
  have e7 : (waysP f)[i] = f.blks[i].ways := by simp [waysP]
  rw [e7, Nat.zero_add]
  exact ⟨ma, mc, by rw [own_cell hoo i (by omega)]; exact h5, h6.below hb (Nat.le_refl _)⟩
def rpP (f : Fu) : Bool := (decide (∀ i (h : i < f.blks.length), f.blks[i].preds = ldN (i : Int) (waysP f) f.blks.length)) && decide (((f.blks.map Bk.preds).getD 0 []).length = 0)
structure PT (f : Fu) (j : Nat) (R : Bool) : Prop where
 res : R = rpP f
 ok : ∀ i (h : i < f.blks.length), i < j -> f.blks[i].preds = ldN (i : Int) (waysP f) f.blks.length
theorem PT.hit {f j R} (h : PT f j R) (hj : j < f.blks.length) (hf : ¬ f.blks[j].preds = ldN (j : Int) (waysP f) f.blks.length) : false = R := by
 rw [h.res]
 symm
 unfold rpP
 rw [decide_eq_false (fun ha => hf (ha j hj))]
 rfl
theorem PT.fin {f j R} (h : PT f j R) (hj : f.blks.length <= j) : decide (((f.blks.map Bk.preds).getD 0 []).length = 0) = R := by
 rw [h.res]
 unfold rpP
 rw [decide_eq_true (fun i hi => h.ok i hi (by omega))]
 simp
theorem PT.more {f j R} (h : PT f j R) (hj : j < f.blks.length) (hf : f.blks[j].preds = ldN (j : Int) (waysP f) f.blks.length) : PT f (j + 1) R :=
 ⟨h.res, fun i hi hlt => by
  rcases Nat.lt_succ_iff_lt_or_eq.1 hlt with h1 | rfl
  ·exact h.ok i hi h1
  ·exact hf⟩
def qlK (f : Fu) : Nat -> List (Int × Int)
 | 0 => plL (-1, -1) f.params (List.replicate f.vals.length (-2, -1))
 | k + 1 => plS k (f.blks.getD k noB) (qlK f k)
structure Sm (a b : Int × Int) : Prop where
 out : a = b \/ (a.1 = -1 /\ b.1 = -1)
structure QP (n : Nat) (Q P : List (Int × Int)) (O : List Int) : Prop where
 lq : Q.length = n
 lp : P.length = n
 lo : O.length = n
 out : ∀ x, 0 <= O.getD x 0 /\ (O.getD x 0 = 0 \/ Sm (Q.getD x (0, 0)) (P.getD x (0, 0)))
theorem QP.put {n Q P O} (h : QP n Q P O) (i : Nat) {a b : Int × Int} (hs : Sm a b) : QP n (Q.set i a) (P.set i b) (O.set i (O.getD i 0 + 1)) := by
 refine ⟨by simp [h.lq], by simp [h.lp], by simp [h.lo], fun x => ?_⟩
 have hx := h.out x
 have hi := h.out i
 by_cases e : i = x
 ·subst e
  by_cases hlt : i < n
  ·have h1 : (O.set i (O.getD i 0 + 1)).getD i 0 = O.getD i 0 + 1 := by simp [List.getD_eq_getElem?_getD, h.lo, hlt]
   have h2 : (Q.set i a).getD i (0, 0) = a := by simp [List.getD_eq_getElem?_getD, h.lq, hlt]
   have h3 : (P.set i b).getD i (0, 0) = b := by simp [List.getD_eq_getElem?_getD, h.lp, hlt]
   rw [h1, h2, h3]
   exact ⟨by omega, .inr hs⟩
  ·rw [List.set_eq_of_length_le (by rw [h.lo]; omega), List.set_eq_of_length_le (by rw [h.lq]; omega), List.set_eq_of_length_le (by rw [h.lp]; omega)]
   exact hx
 ·have h1 : (O.set i (O.getD i 0 + 1)).getD x 0 = O.getD x 0 := by simp [List.getD_eq_getElem?_getD, List.getElem?_set, e]
  have h2 : (Q.set i a).getD x (0, 0) = Q.getD x (0, 0) := by simp [List.getD_eq_getElem?_getD, List.getElem?_set, e]
  have h3 : (P.set i b).getD x (0, 0) = P.getD x (0, 0) := by simp [List.getD_eq_getElem?_getD, List.getElem?_set, e]
  rw [h1, h2, h3]
  exact hx
theorem QP.plL {n a b} (hs : Sm a b) : ∀ (L : List Int) {Q P : List (Int × Int)} {O : List Int}, QP n Q P O -> QP n (plL a L Q) (plL b L P) (cntL O L)
 | [], _, _, _, h => h
 | x :: L, _, _, _, h => QP.plL hs L (h.put x.toNat hs)
theorem QP.plB {n : Nat} (b : Int) (L : List Int) {Q P : List (Int × Int)} {O : List Int} (h : QP n Q P O) : ∀ k, k <= L.length -> QP n (plB b L k Q) (plB b L k P) (cntL O (L.take k))
 | 0, _ => by simpa [_root_.Go.Proofs.YtdbkjjelaipcfaaGreatDoor.plB, cntL] using h
 | k + 1, hk => by
   have ih := QP.plB b L h k (by omega)
   rw [cntL_take O L (by omega : k < L.length)]
   have e : gn L k = L[k]'(by omega) := by simp [gn, List.getD_eq_getElem?_getD, show k < L.length by omega]
   show QP n ((Go.Proofs.YtdbkjjelaipcfaaGreatDoor.plB b L k Q).set (gn L k).toNat (b, (k : Int))) ((Go.Proofs.YtdbkjjelaipcfaaGreatDoor.plB b L k P).set (gn L k).toNat (b, (k : Int))) _
   rw [e]
   exact ih.put _ ⟨.inl rfl⟩
theorem evr_congr {α : Type} {p q : Nat -> α -> Bool} (L : List α) : ∀ k, (∀ i (h : i < L.length), p (k + i) L[i] = q (k + i) L[i]) -> evr p k L = evr q k L := by
 induction L with
 | nil => intro k _; rfl
 | cons x L ih =>
   intro k h
   simp only [evr]
   have h0 := h 0 (by simp)
   simp only [Nat.add_zero, List.getElem_cons_zero] at h0
   rw [h0, ih (k + 1) (fun i hi => ?_)]
   have := h (i + 1) (by simpa using hi)
   rw [show k + 1 + i = k + (i + 1) by omega]
   simpa using this
theorem all_same {α : Type} {p q : α -> Bool} (L : List α) (h : ∀ x ∈ L, p x = q x) : L.all p = L.all q := by
 induction L with
 | nil => rfl
 | cons x L ih => simp only [List.all_cons]; rw [h x (by simp), ih fun y hy => h y (by simp [hy])]
structure Tn (n : Nat) (ρ : Int -> Int) : Prop where
 ng : ∀ x, x < 0 -> ρ x = x
 rg : ∀ x, wi n x = true -> wi n (ρ x) = true
 inj : ∀ x y, wi n x = true -> wi n y = true -> ρ x = ρ y -> x = y
 sur : ∀ y, wi n y = true -> ∃ x, wi n x = true /\ ρ x = y
def rnV (ρ : Int -> Int) (v : Vl) : Vl := ⟨v.op, v.ty, v.imm, v.args.map ρ⟩
def rnB (ρ : Int -> Int) (b : Bk) : Bk := ⟨b.phis.map ρ, b.body.map ρ, b.kind, ρ b.val, b.ways, b.preds⟩
structure Rn (ρ : Int -> Int) (f g : Fu) : Prop where
 tn : Tn f.vals.length ρ
 nm : g.name = f.name
 rs : g.result = f.result
 pr : g.params = f.params.map ρ
 vl : g.vals.length = f.vals.length
 va : ∀ x, wi f.vals.length x = true -> gv g (ρ x) = rnV ρ (gv f x)
 bl : g.blks = f.blks.map (rnB ρ)
 rp : ∀ x ∈ f.params, wi f.vals.length x = true
 ra : ∀ v ∈ f.vals, ∀ x ∈ v.args, wi f.vals.length x = true
 rb : ∀ b ∈ f.blks, (∀ x ∈ b.phis, wi f.vals.length x = true) /\ (∀ x ∈ b.body, wi f.vals.length x = true) /\ b.val < f.vals.length
structure RnP (FS GS : List Fu) : Prop where
 len : GS.length = FS.length
 out : ∀ i (h : i < FS.length) (h' : i < GS.length), ∃ ρ, Rn ρ FS[i] GS[i]
theorem evr_map {α β : Type} (p : Nat -> β -> Bool) (m : α -> β) (L : List α) : ∀ k, evr p k (L.map m) = evr (fun i x => p i (m x)) k L := by
 induction L with
 | nil => intro k; rfl
 | cons x L ih => intro k; simp only [List.map_cons, evr]; rw [ih]
theorem evr_same {α : Type} {p q : Nat -> α -> Bool} (L : List α) (h : ∀ i, ∀ x ∈ L, p i x = q i x) : evr p 0 L = evr q 0 L := evr_congr L 0 fun i hi => h _ _ (List.getElem_mem hi)
theorem all_map' {α β : Type} (p : β -> Bool) (m : α -> β) (L : List α) : (L.map m).all p = L.all (fun x => p (m x)) := by
 induction L with
 | nil => rfl
 | cons x L ih => simp only [List.map_cons, List.all_cons]; rw [ih]
theorem gv_memR {f : Fu} {x : Int} (hx : wi f.vals.length x = true) : gv f x ∈ f.vals := by
 simp only [wi, decide_eq_true_eq] at hx
 unfold gv
 rw [List.getD_eq_getElem?_getD, List.getElem?_eq_getElem (by omega : x.toNat < f.vals.length)]
 exact List.getElem_mem _
theorem Rn.wi {ρ f g} (h : Rn ρ f g) {x : Int} (hx : wi f.vals.length x = true) : Go.Proofs.YtdbkjjelaipcfaaGreatDoor.wi g.vals.length (ρ x) = true := by rw [h.vl]; exact h.tn.rg x hx
theorem Rn.args {ρ f g} (h : Rn ρ f g) {x : Int} (hx : Go.Proofs.YtdbkjjelaipcfaaGreatDoor.wi f.vals.length x = true) : ∀ y ∈ (gv f x).args, Go.Proofs.YtdbkjjelaipcfaaGreatDoor.wi f.vals.length y = true := h.ra _ (gv_memR hx)
theorem Rn.val {ρ f g} (h : Rn ρ f g) {b : Bk} (hb : b ∈ f.blks) : (b.val < 0 /\ ρ b.val = b.val) \/ (Go.Proofs.YtdbkjjelaipcfaaGreatDoor.wi f.vals.length b.val = true /\ Go.Proofs.YtdbkjjelaipcfaaGreatDoor.wi g.vals.length (ρ b.val) = true) := by
 by_cases h0 : b.val < 0
 ·exact .inl ⟨h0, h.tn.ng _ h0⟩
 ·have h1 : Go.Proofs.YtdbkjjelaipcfaaGreatDoor.wi f.vals.length b.val = true := by have := (h.rb b hb).2.2; simp only [Go.Proofs.YtdbkjjelaipcfaaGreatDoor.wi, decide_eq_true_eq]; omega
  exact .inr ⟨h1, h.wi h1⟩
theorem Rn.blen {ρ f g} (h : Rn ρ f g) : g.blks.length = f.blks.length := by rw [h.bl]; simp
theorem Rn.ways {ρ f g} (h : Rn ρ f g) : waysP g = waysP f := by
 unfold waysP
 rw [h.bl, List.map_map]
 rfl
theorem Rn.all {ρ f g} (h : Rn ρ f g) (p q : Vl -> Bool) (hpq : ∀ v ∈ f.vals, q (rnV ρ v) = p v) : g.vals.all q = f.vals.all p := by
 rw [Bool.eq_iff_iff, List.all_eq_true, List.all_eq_true]
 constructor
 ·intro hg v hv
  obtain ⟨k, hk, rfl⟩ := List.getElem_of_mem hv
  have hx : Go.Proofs.YtdbkjjelaipcfaaGreatDoor.wi f.vals.length (k : Int) = true := by simp only [Go.Proofs.YtdbkjjelaipcfaaGreatDoor.wi, decide_eq_true_eq]; omega
  have := hg _ (gv_memR (h.wi hx))
  rw [h.va _ hx, gv_at f k hk, hpq _ (List.getElem_mem hk)] at this
  exact this
 ·intro hf v hv
  obtain ⟨k, hk, rfl⟩ := List.getElem_of_mem hv
  have hx : Go.Proofs.YtdbkjjelaipcfaaGreatDoor.wi f.vals.length (k : Int) = true := by have := h.vl; simp only [Go.Proofs.YtdbkjjelaipcfaaGreatDoor.wi, decide_eq_true_eq]; omega
  obtain ⟨y, hy, e⟩ := h.tn.sur _ hx
  have h1 := h.va y hy
  rw [e, gv_at g k hk] at h1
  rw [h1, hpq _ (gv_memR hy)]
  exact hf _ (gv_memR hy)
theorem RnP.get {FS GS} (h : RnP FS GS) (k : Nat) : (GS.getD k noF).params.length = (FS.getD k noF).params.length /\ (GS.getD k noF).result = (FS.getD k noF).result /\ ∀ i, i < (FS.getD k noF).params.length -> (gv (GS.getD k noF) ((GS.getD k noF).params.getD i 0)).ty = (gv (FS.getD k noF) ((FS.getD k noF).params.getD i 0)).ty := by
 by_cases hk : k < FS.length
 ·have hk' : k < GS.length := by rw [h.len]; exact hk
  obtain ⟨ρ, r⟩ := h.out k hk hk'
  have e1 : FS.getD k noF = FS[k] := by simp [hk]
  have e2 : GS.getD k noF = GS[k] := by simp [hk']
  rw [e1, e2]
  refine ⟨by rw [r.pr]; simp, r.rs, fun i hi => ?_⟩
  have hm := r.rp _ (List.getElem_mem hi)
  have e3 : FS[k].params.getD i 0 = FS[k].params[i] := by simp [hi]
  have e4 : GS[k].params.getD i 0 = ρ FS[k].params[i] := by rw [r.pr]; simp [hi]
  rw [e3, e4, r.va _ hm]
  rfl
 ·have e1 : FS.getD k noF = noF := by simp [List.getD_eq_getElem?_getD, List.getElem?_eq_none (by omega : FS.length <= k)]
  have e2 : GS.getD k noF = noF := by have := h.len; simp [List.getD_eq_getElem?_getD, List.getElem?_eq_none (by omega : GS.length <= k)]
  rw [e1, e2]
  exact ⟨rfl, rfl, fun _ _ => rfl⟩
theorem Rn.value {ρ f g FS GS} (h : Rn ρ f g) (hp : RnP FS GS) {v : Vl} (hv : ∀ x ∈ v.args, Go.Proofs.YtdbkjjelaipcfaaGreatDoor.wi f.vals.length x = true) : valueP g GS (rnV ρ v) = valueP f FS v := by
 have e1 : countP GS v.op v.imm (v.args.map ρ).length = countP FS v.op v.imm v.args.length := by
  unfold countP
  rw [(hp.get v.imm.toNat).1, List.length_map]
 have e2 : (v.args.map ρ).all (Go.Proofs.YtdbkjjelaipcfaaGreatDoor.wi g.vals.length) = v.args.all (Go.Proofs.YtdbkjjelaipcfaaGreatDoor.wi f.vals.length) := by
  rw [all_map']
  exact all_same _ fun x hx => by rw [h.wi (hv x hx), hv x hx]
 unfold valueP rnV
 simp only
 rw [hp.len, e1, e2]
theorem Rn.may {ρ f g} (h : Rn ρ f g) {x : Int} (hx : Go.Proofs.YtdbkjjelaipcfaaGreatDoor.wi f.vals.length x = true) : mayP g (ρ x) = mayP f x := by
 unfold mayP
 rw [h.wi hx, hx, h.va x hx]
 rfl
theorem Rn.block {ρ f g} (h : Rn ρ f g) {b : Bk} (hb : b ∈ f.blks) : blockP g (rnB ρ b) = blockP f b := by
 obtain ⟨r1, r2, _⟩ := h.rb b hb
 have e1 : (b.phis.map ρ).all (mayP g) = b.phis.all (mayP f) := by rw [all_map']; exact all_same _ fun x hx => h.may (r1 x hx)
 have e2 : (b.body.map ρ).all (mayP g) = b.body.all (mayP f) := by rw [all_map']; exact all_same _ fun x hx => h.may (r2 x hx)
 have e3 : termP g b.kind (ρ b.val) b.ways = termP f b.kind b.val b.ways := by
  unfold termP
  rw [h.blen, h.rs]
  have : (if tuses f.result b.kind = true then Go.Proofs.YtdbkjjelaipcfaaGreatDoor.wi g.vals.length (ρ b.val) else decide (ρ b.val = -1)) = (if tuses f.result b.kind = true then Go.Proofs.YtdbkjjelaipcfaaGreatDoor.wi f.vals.length b.val else decide (b.val = -1)) := by
   rcases h.val hb with ⟨h1, h2⟩ | ⟨h1, h2⟩
   ·rw [h2, h.vl]
   ·rw [h1, h2]
    simp only [Go.Proofs.YtdbkjjelaipcfaaGreatDoor.wi, decide_eq_true_eq] at h1 h2
    rw [decide_eq_false (by omega : ¬ ρ b.val = -1), decide_eq_false (by omega : ¬ b.val = -1)]
  rw [this]
 unfold blockP rnB
 simp only
 rw [e1, e2, e3, h.blen]
theorem Rn.form {ρ f g FS GS} (h : Rn ρ f g) (hp : RnP FS GS) : formP GS g = formP FS f := by
 have e1 : evr (paramP g) 0 g.params = evr (paramP f) 0 f.params := by
  rw [h.pr, evr_map]
  refine evr_same _ fun i x hx => ?_
  have hw := h.rp x hx
  unfold paramP
  rw [h.wi hw, hw, h.va x hw]
  rfl
 have e2 : g.vals.all (valueP g GS) = f.vals.all (valueP f FS) := h.all _ _ fun v hv => h.value hp (h.ra v hv)
 have e3 : g.blks.all (blockP g) = f.blks.all (blockP f) := by
  rw [h.bl, all_map']
  exact all_same _ fun b hb => h.block hb
 unfold formP
 rw [e1, e2, e3, h.vl, h.blen, h.rs, h.pr, List.length_map]
theorem Rn.preds {ρ f g} (h : Rn ρ f g) : predsP g = predsP f := by
 have e : frP g = frP f := by unfold frP; rw [h.blen, h.ways]
 unfold predsP
 rw [e, h.bl, evr_map]
 rfl
theorem Rn.reached {ρ f g} (h : Rn ρ f g) : reachedP g = reachedP f := by unfold reachedP; rw [h.ways]
theorem Rn.ph {ρ f g} (h : Rn ρ f g) {x : Int} (hx : Go.Proofs.YtdbkjjelaipcfaaGreatDoor.wi f.vals.length x = true) : isPh g (ρ x) = isPh f x := by unfold isPh; rw [h.va x hx]; rfl
theorem Rn.phis {ρ f g} (h : Rn ρ f g) : phisP g = phisP f := by
 have e1 : (g.blks.getD 0 noB).phis.length = (f.blks.getD 0 noB).phis.length := by
  rw [h.bl]
  cases f.blks with
  | nil => rfl
  | cons b L => simp [rnB]
 have e2 : g.blks.all (phiB g) = f.blks.all (phiB f) := by
  rw [h.bl, all_map']
  refine all_same _ fun b hb => ?_
  obtain ⟨r1, r2, _⟩ := h.rb b hb
  have e3 : (b.phis.map ρ).all (phP g b.preds.length) = b.phis.all (phP f b.preds.length) := by
   rw [all_map']
   refine all_same _ fun x hx => ?_
   unfold phP
   rw [h.ph (r1 x hx), h.va x (r1 x hx)]
   simp [rnV]
  have e4 : (b.body.map ρ).all (fun x => !isPh g x) = b.body.all (fun x => !isPh f x) := by
   rw [all_map']
   exact all_same _ fun x hx => by rw [h.ph (r2 x hx)]
  unfold phiB rnB
  simp only
  rw [e3, e4]
 unfold phisP
 rw [e1, e2]
structure Cr {α : Type} (n : Nat) (ρ : Int -> Int) (d : α) (O O' : List α) : Prop where
 lo : O.length = n
 lo' : O'.length = n
 eq : ∀ x, wi n x = true -> O'.getD (ρ x).toNat d = O.getD x.toNat d
theorem Cr.set {α : Type} {n ρ} {d : α} {O O' : List α} (t : Tn n ρ) (h : Cr n ρ d O O') {x : Int} (hx : wi n x = true) (v : α) : Cr n ρ d (O.set x.toNat v) (O'.set (ρ x).toNat v) := by
 refine ⟨by simpa using h.lo, by simpa using h.lo', fun y hy => ?_⟩
 have h1 := t.rg x hx
 have h2 := t.rg y hy
 have h3 := t.inj x y hx hy
 have h4 := h.eq y hy
 have l1 := h.lo
 have l2 := h.lo'
 simp only [wi, decide_eq_true_eq] at hx hy h1 h2
 simp only [List.getD_eq_getElem?_getD, List.getElem?_set] at h4 ⊢
 by_cases e : x = y
 ·subst e
  rw [if_pos rfl, if_pos rfl, if_pos (by omega), if_pos (by omega)]
 ·rw [if_neg (fun q => e (h3 (by omega))), if_neg (by omega)]
  exact h4
theorem Cr.cntL {n ρ} {O O' : List Int} (t : Tn n ρ) : ∀ (L : List Int), (∀ x ∈ L, wi n x = true) -> ∀ {O O' : List Int}, Cr n ρ 0 O O' -> Cr n ρ 0 (Go.Proofs.YtdbkjjelaipcfaaGreatDoor.cntL O L) (Go.Proofs.YtdbkjjelaipcfaaGreatDoor.cntL O' (L.map ρ))
 | [], _, _, _, h => h
 | x :: L, hL, O, O', h => by
   have h1 := h.set t (hL x (by simp)) (O.getD x.toNat 0 + 1)
   have h2 := Cr.cntL (O := O) (O' := O') t L (fun y hy => hL y (by simp [hy])) h1
   rw [<- h.eq x (hL x (by simp))] at h2
   have e := h.eq x (hL x (by simp))
   show Cr n ρ 0 (Go.Proofs.YtdbkjjelaipcfaaGreatDoor.cntL (O.set x.toNat (O.getD x.toNat 0 + 1)) L) (Go.Proofs.YtdbkjjelaipcfaaGreatDoor.cntL (O'.set (ρ x).toNat (O'.getD (ρ x).toNat 0 + 1)) (L.map ρ))
   rw [<- e]
   exact h2
theorem Rn.cntK {ρ f g} (h : Rn ρ f g) : ∀ k, k <= f.blks.length -> Cr f.vals.length ρ 0 (Go.Proofs.YtdbkjjelaipcfaaGreatDoor.cntK f k) (Go.Proofs.YtdbkjjelaipcfaaGreatDoor.cntK g k)
 | 0, _ => by
   have h0 : Cr f.vals.length ρ 0 (List.replicate f.vals.length (0 : Int)) (List.replicate g.vals.length (0 : Int)) := by
    refine ⟨by simp, by simp [h.vl], fun x hx => ?_⟩
    simp only [List.getD_eq_getElem?_getD, List.getElem?_replicate]
    split <;> split <;> rfl
   have := Cr.cntL (O := []) (O' := []) h.tn f.params h.rp h0
   rw [<- h.pr] at this
   simpa [Go.Proofs.YtdbkjjelaipcfaaGreatDoor.cntK] using this
 | k + 1, hk => by
   have ih := Rn.cntK h k (by omega)
   have hk1 : k < f.blks.length := by omega
   have hk2 : k < g.blks.length := by rw [h.blen]; exact hk1
   rw [cntK_next f hk1, cntK_next g hk2]
   have e : g.blks[k] = rnB ρ f.blks[k] := by simp [h.bl]
   obtain ⟨r1, r2, _⟩ := h.rb _ (List.getElem_mem hk1)
   rw [e]
   unfold cntB rnB
   simp only
   exact Cr.cntL (O := []) (O' := []) h.tn _ r2 (Cr.cntL (O := []) (O' := []) h.tn _ r1 ih)
theorem Rn.once {ρ f g} (h : Rn ρ f g) : onceP g = onceP f := by
 have c := h.cntK f.blks.length (Nat.le_refl _)
 have e : Go.Proofs.YtdbkjjelaipcfaaGreatDoor.cntK g f.blks.length = cntAll g := by unfold cntAll; rw [h.blen]
 rw [e] at c
 have e2 : Go.Proofs.YtdbkjjelaipcfaaGreatDoor.cntK f f.blks.length = cntAll f := rfl
 rw [e2] at c
 have l1 := c.lo
 have l2 := c.lo'
 unfold onceP
 rw [Bool.eq_iff_iff, List.all_eq_true, List.all_eq_true]
 constructor
 ·intro hg x hx
  obtain ⟨k, hk, rfl⟩ := List.getElem_of_mem hx
  have hw : Go.Proofs.YtdbkjjelaipcfaaGreatDoor.wi f.vals.length (k : Int) = true := by simp only [Go.Proofs.YtdbkjjelaipcfaaGreatDoor.wi, decide_eq_true_eq]; omega
  have h1 := c.eq _ hw
  have h2 := h.tn.rg _ hw
  simp only [Go.Proofs.YtdbkjjelaipcfaaGreatDoor.wi, decide_eq_true_eq] at h2
  have h3 : (ρ k).toNat < (cntAll g).length := by omega
  have h4 := hg _ (List.getElem_mem h3)
  have e1 : (cntAll g).getD (ρ k).toNat 0 = (cntAll g)[(ρ k).toNat] := by simp [h3]
  have e3 : (cntAll f).getD (k : Int).toNat 0 = (cntAll f)[k] := by simp [hk]
  rw [e1, e3] at h1
  rw [<- h1]; exact h4
 ·intro hf x hx
  obtain ⟨k, hk, rfl⟩ := List.getElem_of_mem hx
  have hw : Go.Proofs.YtdbkjjelaipcfaaGreatDoor.wi f.vals.length (k : Int) = true := by simp only [Go.Proofs.YtdbkjjelaipcfaaGreatDoor.wi, decide_eq_true_eq]; omega
  obtain ⟨y, hy, ey⟩ := h.tn.sur _ hw
  have h1 := c.eq _ hy
  rw [ey] at h1
  simp only [Go.Proofs.YtdbkjjelaipcfaaGreatDoor.wi, decide_eq_true_eq] at hy
  have h3 : y.toNat < (cntAll f).length := by omega
  have h4 := hf _ (List.getElem_mem h3)
  have e1 : (cntAll g).getD (k : Int).toNat 0 = (cntAll g)[k] := by simp [hk]
  have e3 : (cntAll f).getD y.toNat 0 = (cntAll f)[y.toNat] := by simp [h3]
  rw [e1, e3] at h1
  rw [h1]; exact h4
theorem Cr.plL {n ρ} (t : Tn n ρ) (v : Int × Int) : ∀ (L : List Int), (∀ x ∈ L, wi n x = true) -> ∀ {P P' : List (Int × Int)}, Cr n ρ (0, 0) P P' -> Cr n ρ (0, 0) (Go.Proofs.YtdbkjjelaipcfaaGreatDoor.plL v L P) (Go.Proofs.YtdbkjjelaipcfaaGreatDoor.plL v (L.map ρ) P')
 | [], _, _, _, h => h
 | x :: L, hL, P, P', h => Cr.plL t v L (fun y hy => hL y (by simp [hy])) (h.set t (hL x (by simp)) v)
theorem Cr.plB {n ρ} (t : Tn n ρ) (b : Int) (L : List Int) (hL : ∀ x ∈ L, wi n x = true) {P P' : List (Int × Int)} (h : Cr n ρ (0, 0) P P') : ∀ k, k <= L.length -> Cr n ρ (0, 0) (Go.Proofs.YtdbkjjelaipcfaaGreatDoor.plB b L k P) (Go.Proofs.YtdbkjjelaipcfaaGreatDoor.plB b (L.map ρ) k P')
 | 0, _ => h
 | k + 1, hk => by
   have ih := Cr.plB t b L hL h k (by omega)
   have hk1 : k < L.length := by omega
   have e1 : gn L k = L[k] := by simp [gn, List.getD_eq_getElem?_getD, hk1]
   have e2 : gn (L.map ρ) k = ρ L[k] := by simp [gn, List.getD_eq_getElem?_getD, hk1]
   show Cr n ρ (0, 0) ((Go.Proofs.YtdbkjjelaipcfaaGreatDoor.plB b L k P).set (gn L k).toNat (b, (k : Int))) ((Go.Proofs.YtdbkjjelaipcfaaGreatDoor.plB b (L.map ρ) k P').set (gn (L.map ρ) k).toNat (b, (k : Int)))
   rw [e1, e2]
   exact ih.set t (hL _ (List.getElem_mem hk1)) _
theorem Rn.plK {ρ f g} (h : Rn ρ f g) : ∀ k, k <= f.blks.length -> Cr f.vals.length ρ (0, 0) (Go.Proofs.YtdbkjjelaipcfaaGreatDoor.plK f k) (Go.Proofs.YtdbkjjelaipcfaaGreatDoor.plK g k)
 | 0, _ => by
   have h0 : Cr f.vals.length ρ (0, 0) (List.replicate f.vals.length ((0 : Int), (0 : Int))) (List.replicate g.vals.length ((0 : Int), (0 : Int))) := by
    refine ⟨by simp, by simp [h.vl], fun x hx => ?_⟩
    simp only [List.getD_eq_getElem?_getD, List.getElem?_replicate]
    split <;> split <;> rfl
   have := Cr.plL h.tn (-1, 0) f.params h.rp h0
   rw [<- h.pr] at this
   exact this
 | k + 1, hk => by
   have ih := Rn.plK h k (by omega)
   have hk1 : k < f.blks.length := by omega
   have hk2 : k < g.blks.length := by rw [h.blen]; exact hk1
   have e1 : f.blks.getD k noB = f.blks[k] := by simp [hk1]
   have e2 : g.blks.getD k noB = rnB ρ f.blks[k] := by simp [h.bl, hk1]
   obtain ⟨r1, r2, _⟩ := h.rb _ (List.getElem_mem hk1)
   show Cr _ ρ (0, 0) (plS k (f.blks.getD k noB) (Go.Proofs.YtdbkjjelaipcfaaGreatDoor.plK f k)) (plS k (g.blks.getD k noB) (Go.Proofs.YtdbkjjelaipcfaaGreatDoor.plK g k))
   rw [e1, e2]
   unfold plS rnB
   simp only [List.length_map]
   exact Cr.plB h.tn _ _ r2 (Cr.plL h.tn _ _ r1 ih) _ (Nat.le_refl _)
theorem tval {f : Fu} {b : Bk} (h : blockP f b = true) : b.val = -1 \/ wi f.vals.length b.val = true := by
 simp only [blockP, termP, Bool.and_eq_true] at h
 obtain ⟨_, _, _, _, _, _, h7⟩ := h
 split at h7
 ·exact .inr h7
 ·exact .inl (by simpa using h7)
theorem Rn.uses {ρ f g FS} (h : Rn ρ f g) (hf : formP FS f = true) : usesP g = usesP f := by
 have c := h.plK f.blks.length (Nat.le_refl _)
 have e0 : Go.Proofs.YtdbkjjelaipcfaaGreatDoor.plK g f.blks.length = placesP g := by unfold placesP; rw [h.blen]
 rw [e0] at c
 have e1 : Go.Proofs.YtdbkjjelaipcfaaGreatDoor.plK f f.blks.length = placesP f := rfl
 rw [e1] at c
 have et : treeF g = treeF f := by unfold treeF; rw [h.ways]
 have th : ∀ x k, Go.Proofs.YtdbkjjelaipcfaaGreatDoor.wi f.vals.length x = true -> thereP (placesP g) (regP (treeF f)) (ρ x) k = thereP (placesP f) (regP (treeF f)) x k := fun x k hx => by
  unfold thereP
  rw [c.eq x hx]
 unfold usesP
 rw [et, h.bl, evr_map]
 refine evr_same _ fun b k hk => ?_
 obtain ⟨r1, r2, _⟩ := h.rb k hk
 have u1 : (k.phis.map ρ).all (useP g (placesP g) (regP (treeF f)) k.preds) = k.phis.all (useP f (placesP f) (regP (treeF f)) k.preds) := by
  rw [all_map']
  refine all_same _ fun x hx => ?_
  unfold useP
  rw [h.va x (r1 x hx)]
  show evr _ 0 ((gv f x).args.map ρ) = _
  rw [evr_map]
  refine evr_same _ fun i y hy => ?_
  unfold useA
  exact th y _ (h.args (r1 x hx) y hy)
 have u2 : evr (useV g (placesP g) (regP (treeF f)) b) 0 (k.body.map ρ) = evr (useV f (placesP f) (regP (treeF f)) b) 0 k.body := by
  rw [evr_map]
  refine evr_same _ fun i x hx => ?_
  unfold useV
  rw [h.va x (r2 x hx)]
  show ((gv f x).args.map ρ).all _ = _
  rw [all_map']
  refine all_same _ fun y hy => ?_
  have hw := h.args (r2 x hx) y hy
  unfold aheadP
  rw [th y _ hw, c.eq y hw]
 have u3 : (decide (ρ k.val = -1) || thereP (placesP g) (regP (treeF f)) (ρ k.val) b) = (decide (k.val = -1) || thereP (placesP f) (regP (treeF f)) k.val b) := by
  have hB := (formP_blocks hf).2 k hk
  rcases tval hB with e | e
  ·rw [h.tn.ng _ (by omega), e]; rfl
  ·have e2 := h.tn.rg _ e
   rw [th _ _ e]
   simp only [Go.Proofs.YtdbkjjelaipcfaaGreatDoor.wi, decide_eq_true_eq] at e e2
   rw [decide_eq_false (by omega : ¬ ρ k.val = -1), decide_eq_false (by omega : ¬ k.val = -1)]
 unfold useB rnB
 simp only
 rw [u1, u2, u3]
theorem Rn.isP {ρ f g} (h : Rn ρ f g) {x : Int} (hx : Go.Proofs.YtdbkjjelaipcfaaGreatDoor.wi f.vals.length x = true) (t : Int) : Go.Proofs.YtdbkjjelaipcfaaGreatDoor.isP g (ρ x) t = Go.Proofs.YtdbkjjelaipcfaaGreatDoor.isP f x t := by
 unfold Go.Proofs.YtdbkjjelaipcfaaGreatDoor.isP
 rw [h.va x hx]
 rfl
theorem Rn.type {ρ f g FS GS} (h : Rn ρ f g) (hp : RnP FS GS) {v : Vl} (hm : v ∈ f.vals) (hv : valueP f FS v = true) : typeP g GS (rnV ρ v) = typeP f FS v := by
 have ha := h.ra v hm
 simp only [valueP, Bool.and_eq_true] at hv
 have hc := hv.2.2.1
 have key : ∀ (F : Fu) (S : List Fu) (A : List Int), typeP F S ⟨v.op, v.ty, v.imm, A⟩ = if v.op = 1 then constP v.ty v.imm else if v.op = 13 \/ v.op = 14 then decide (v.ty = 2) && Go.Proofs.YtdbkjjelaipcfaaGreatDoor.isP F (A.getD 0 0) (gv F (A.getD 1 0)).ty else if v.op = 25 then callP F S v.ty v.imm A
  else if v.op = 32 then isTy v.ty && A.all (fun x => Go.Proofs.YtdbkjjelaipcfaaGreatDoor.isP F x v.ty) else if v.op = 33 then isTy v.ty else decide (v.ty = (shp v.op).gives) && evr (fun i x => Go.Proofs.YtdbkjjelaipcfaaGreatDoor.isP F x (shA (shp v.op) i)) 0 A := fun _ _ _ => rfl
 show typeP g GS ⟨v.op, v.ty, v.imm, v.args.map ρ⟩ = typeP f FS ⟨v.op, v.ty, v.imm, v.args⟩
 rw [key, key]
 by_cases o1 : v.op = 1
 ·rw [if_pos o1, if_pos o1]
 rw [if_neg o1, if_neg o1]
 by_cases o2 : v.op = 13 \/ v.op = 14
 ·rw [if_pos o2, if_pos o2]
  have hl : v.args.length = 2 := by
   unfold countP at hc
   rw [if_neg (by omega), if_neg (by omega)] at hc
   rcases o2 with o | o
   ·rw [o] at hc; simp [shp] at hc; omega
   ·rw [o] at hc; simp [shp] at hc; omega
  have g0 : v.args.getD 0 0 = v.args[0]'(by omega) := by simp [show 0 < v.args.length by omega]
  have g1 : v.args.getD 1 0 = v.args[1]'(by omega) := by simp [show 1 < v.args.length by omega]
  have g2 : (v.args.map ρ).getD 0 0 = ρ (v.args[0]'(by omega)) := by simp [show 0 < v.args.length by omega]
  have g3 : (v.args.map ρ).getD 1 0 = ρ (v.args[1]'(by omega)) := by simp [show 1 < v.args.length by omega]
  rw [g0, g1, g2, g3, h.isP (ha _ (List.getElem_mem _)), h.va _ (ha _ (List.getElem_mem _))]
  rfl
 rw [if_neg o2, if_neg o2]
 by_cases o3 : v.op = 25
 ·rw [if_pos o3, if_pos o3]
  obtain ⟨q1, q2, q3⟩ := hp.get v.imm.toNat
  have hl : v.args.length = (FS.getD v.imm.toNat noF).params.length := by
   unfold countP at hc
   rw [if_neg (by omega), if_pos o3] at hc
   simpa using hc
  unfold callP
  rw [q2, evr_map]
  have : evr (fun i x => calA g (GS.getD v.imm.toNat noF) i (ρ x)) 0 v.args = evr (calA f (FS.getD v.imm.toNat noF)) 0 v.args := by
   refine evr_congr _ 0 fun i hi => ?_
   rw [Nat.zero_add]
   unfold calA
   rw [h.isP (ha _ (List.getElem_mem hi)), q3 i (by omega)]
  rw [this]
 rw [if_neg o3, if_neg o3]
 by_cases o4 : v.op = 32
 ·rw [if_pos o4, if_pos o4, all_map']
  rw [all_same (p := fun x => Go.Proofs.YtdbkjjelaipcfaaGreatDoor.isP g (ρ x) v.ty) (q := fun x => Go.Proofs.YtdbkjjelaipcfaaGreatDoor.isP f x v.ty) v.args fun x hx => h.isP (ha x hx) _]
 rw [if_neg o4, if_neg o4]
 by_cases o5 : v.op = 33
 ·rw [if_pos o5, if_pos o5]
 rw [if_neg o5, if_neg o5, evr_map]
 rw [evr_same (p := fun i x => Go.Proofs.YtdbkjjelaipcfaaGreatDoor.isP g (ρ x) (shA (shp v.op) i)) (q := fun i x => Go.Proofs.YtdbkjjelaipcfaaGreatDoor.isP f x (shA (shp v.op) i)) v.args fun i x hx => h.isP (ha x hx) _]
theorem Rn.types {ρ f g FS GS} (h : Rn ρ f g) (hp : RnP FS GS) (hf : formP FS f = true) : typesP GS g = typesP FS f := by
 have e1 : g.vals.all (typeP g GS) = f.vals.all (typeP f FS) := h.all _ _ fun v hv => h.type hp hv (formP_vals hf v hv)
 have e2 : g.blks.all (fun b => termTy g b.kind b.val) = f.blks.all (fun b => termTy f b.kind b.val) := by
  rw [h.bl, all_map']
  refine all_same _ fun b hb => ?_
  show termTy g b.kind (ρ b.val) = termTy f b.kind b.val
  have hB := (formP_blocks hf).2 b hb
  unfold termTy
  rcases tval hB with e | e
  ·rw [h.tn.ng _ (by omega), e]
   have hT : b.kind = 2 \/ b.kind = 4 -> False := by
    intro hk
    simp only [blockP, termP, Bool.and_eq_true] at hB
    have h7 := hB.2.2.2.2.2.2
    have : tuses f.result b.kind = true := by unfold tuses; rcases hk with hk | hk <;> rw [hk] <;> rfl
    rw [if_pos this, e] at h7
    simp [Go.Proofs.YtdbkjjelaipcfaaGreatDoor.wi] at h7
   rw [if_neg (fun q => hT (.inl q)), if_neg (fun q => hT (.inr q)), if_neg (fun q => hT (.inl q)), if_neg (fun q => hT (.inr q))]
   rfl
  ·have e2 := h.tn.rg _ e
   rw [h.isP e, h.isP e, h.isP e, h.rs]
   simp only [Go.Proofs.YtdbkjjelaipcfaaGreatDoor.wi, decide_eq_true_eq] at e e2
   rw [if_neg (by omega : ¬ ρ b.val = -1), if_neg (by omega : ¬ b.val = -1)]
 unfold typesP
 rw [e1, e2]
theorem Rn.fault {ρ f g FS GS} (h : Rn ρ f g) (hp : RnP FS GS) (hf : formP FS f = true) : faultP GS g = faultP FS f := by
 unfold faultP
 rw [h.preds, h.reached, h.phis, h.once, h.types hp hf, h.uses hf]
theorem first_same {FS GS : List Fu} : ∀ (L L' : List Fu), L'.length = L.length -> (∀ i (h : i < L.length) (h' : i < L'.length), faultP GS L'[i] = faultP FS L[i]) -> firstP GS L' = firstP FS L
 | [], [], _, _ => rfl
 | [], _ :: _, h, _ => by simp at h
 | _ :: _, [], h, _ => by simp at h
 | f :: L, g :: L', hl, h => by
   have h0 := h 0 (by simp) (by simp)
   simp only [List.getElem_cons_zero] at h0
   have ih := first_same L L' (by simpa using hl) fun i h1 h2 => by
    have := h (i + 1) (by simpa using h1) (by simpa using h2)
    simpa using this
   simp only [firstP]
   rw [h0, ih]
theorem check_same {FS GS : List Fu} (hp : RnP FS GS) (m : Int) : checkP GS m = checkP FS m := by
 have en : GS.map (fun f => nml f.name) = FS.map (fun f => nml f.name) := by
  refine List.ext_getElem (by simp [hp.len]) fun i h1 h2 => ?_
  simp only [List.length_map] at h1 h2
  obtain ⟨ρ, r⟩ := hp.out i h2 h1
  simp [r.nm]
 have hn : namesP GS = namesP FS := by
  unfold namesP
  rw [en]
  have e : ∀ L : List Fu, L.all (fun f => nmOk (nml f.name)) = (L.map fun f => nml f.name).all nmOk := fun L => (all_map' _ _ _).symm
  rw [e, e, en]
 have hm : mainP GS m = mainP FS m := by
  unfold mainP
  obtain ⟨q1, q2, _⟩ := hp.get m.toNat
  rw [hp.len, q1, q2]
 have hf : GS.all (formP GS) = FS.all (formP FS) := by
  rw [Bool.eq_iff_iff, List.all_eq_true, List.all_eq_true]
  constructor
  ·intro h f hf
   obtain ⟨i, hi, rfl⟩ := List.getElem_of_mem hf
   obtain ⟨ρ, r⟩ := hp.out i hi (by rw [hp.len]; exact hi)
   rw [<- r.form hp]
   exact h _ (List.getElem_mem _)
  ·intro h f hf
   obtain ⟨i, hi, rfl⟩ := List.getElem_of_mem hf
   obtain ⟨ρ, r⟩ := hp.out i (by rw [<- hp.len]; exact hi) hi
   rw [r.form hp]
   exact h _ (List.getElem_mem _)
 have hF : formedP GS m = formedP FS m := by unfold formedP; rw [hn, hm, hf]
 unfold checkP
 rw [hF]
 split
 ·rfl
 ·rename_i hq
  simp only [Bool.not_eq_false, formedP, Bool.and_eq_true, List.all_eq_true] at hq
  refine first_same FS GS hp.len fun i h1 h2 => ?_
  obtain ⟨ρ, r⟩ := hp.out i h1 h2
  exact r.fault hp (hq.2.2 _ (List.getElem_mem h1))
end Go.Proofs.YtdbkjjelaipcfaaGreatDoor
