import Derived.Test.YtfbkopjncmkbiabGreatDoorKag
import Derived.Test.YtfbkopjncmkbiabGreatDoorKah
set_option linter.unusedVariables false
set_option linter.unusedSimpArgs false
namespace Go.Proofs.YtfbkopjncmkbiabGreatDoor
open Go.ChangeShapes Go.WideShapes Go.ChangeAt Go.RowKit Go.Maps
def pOf (mt : List Int) (i : Nat) : Nat := (gn mt i).toNat
theorem upk_same {p p' : Nat -> Nat} {N : Nat} (hp : ∀ i, i < N -> p' i = p i) (hl : ∀ i, p i <= i) : ∀ k v, v < N -> upk p' k v = upk p k v
 | 0, v, _ => rfl
 | k + 1, v, hv => by
   show upk p' k (p' v) = upk p k (p v)
   rw [hp v hv]
   have := hl v
   exact upk_same hp hl k (p v) (by omega)
theorem anc_same {p p' : Nat -> Nat} {N a v : Nat} (hp : ∀ i, i < N -> p' i = p i) (hl : ∀ i, p i <= i) (hv : v < N) : Anc p' a v ↔ Anc p a v := by
 unfold Anc
 simp only [upk_same hp hl _ v hv]
theorem plc_lt {bl : List Int} {x : Int} (h : x ∈ bl) : 0 <= plc bl x /\ plc bl x < bl.length /\ gn bl (plc bl x).toNat = x := by
 unfold plc
 rw [if_pos h]
 have := List.idxOf_lt_length_of_mem h
 refine ⟨by omega, by omega, ?_⟩
 simp [gn, this]
theorem plc_of {bl : List Int} (hn : bl.Nodup) {i : Nat} (hi : i < bl.length) : plc bl (gn bl i) = i := by
 have e : gn bl i = bl[i] := by simp [gn, hi]
 unfold plc
 rw [e, if_pos (List.getElem_mem hi), hn.idxOf_getElem]
theorem gn_mem {bl : List Int} {i : Nat} (hi : i < bl.length) : gn bl i ∈ bl := by
 have e : gn bl i = bl[i] := by simp [gn, hi]
 rw [e]; exact List.getElem_mem hi
def Gd (bl mt : List Int) (x y : Int) : Prop := y ∈ bl /\ (plc bl x < plc bl y -> Anc (pOf mt) (plc bl x).toNat (plc bl y).toNat)
structure WD (Ls : List (List Int)) (s : DS) : Prop where
 m0 : gn s.mt 0 = -1
 st : s.op.Pairwise fun a b => plc s.bl a.1 < plc s.bl b.1
 ds : ∀ q ∈ s.op, ∀ j : Nat, plc s.bl q.1 <= j -> j < s.bl.length -> Anc (pOf s.mt) (plc s.bl q.1).toNat j
 iv : ∀ a x v, v < s.bl.length -> Anc (pOf s.mt) a v -> a <= x -> x <= v -> Anc (pOf s.mt) a x
 pe : ∀ v, 1 <= v -> v < s.bl.length -> gn s.bl v ∈ rowOf Ls (gn s.bl (pOf s.mt v))
 gd : ∀ x ∈ s.bl, (∃ t, (x, t) ∈ s.op /\ ∀ i, i < t -> i < (rowOf Ls x).length -> Gd s.bl s.mt x ((rowOf Ls x).getD i 0)) \/ ∀ i, i < (rowOf Ls x).length -> Gd s.bl s.mt x ((rowOf Ls x).getD i 0)
theorem pOf_le {Ls : List (List Int)} {s : DS} (h : WI Ls s) (j : WJ Ls s) (h0 : gn s.mt 0 = -1) : ∀ i, pOf s.mt i <= i := by
 intro i
 unfold pOf
 by_cases h1 : i = 0
 ·subst h1; rw [h0]; simp
 ·by_cases h2 : i < s.bl.length
  ·have := j.mt i (by omega) h2; omega
  ·have : gn s.mt i = 0 := by
    unfold gn
    rw [List.getD, List.getElem?_eq_none (by have := h.len; omega)]
    rfl
   rw [this]; simp
theorem WD.step {Ls : List (List Int)} (hg : goodP Ls = true) {bl mt : List Int} {st : List (Int × Nat)} {b : Int} {t : Nat} (h : WI Ls ⟨bl, mt, st ++ [(b, t)]⟩) (j : WJ Ls ⟨bl, mt, st ++ [(b, t)]⟩) (d : WD Ls ⟨bl, mt, st ++ [(b, t)]⟩) : WD Ls (wstep Ls ⟨bl, mt, st ++ [(b, t)]⟩) := by
 have hpl := pOf_le h j d.m0
 have hbm : b ∈ bl := (h.ops (b, t) (by simp)).1
 obtain ⟨b1, b2, b3⟩ := plc_lt hbm
 have hdb := d.ds (b, t) (by simp)
 have hst := d.st
 simp only at hst hdb hpl
 have hlen : mt.length = bl.length := h.len
 have hgb : ∀ y ∈ bl, Gd bl mt b y := fun y hy => ⟨hy, fun hlt => by
  obtain ⟨y1, y2, y3⟩ := plc_lt hy
  exact hdb _ (by omega) (by omega)⟩
 rcases wstep_two hg h with ⟨hall, p1, p2, p3⟩ | ⟨k, x, hk, hx, hb, p1, p2, p3⟩
 ·rw [p2]
  refine ⟨d.m0, (List.pairwise_append.1 hst).1, fun q hq => d.ds q (by simp [hq]), d.iv, d.pe, fun y hy => ?_⟩
  rcases d.gd y hy with ⟨t', h1, h2⟩ | h1
  ·simp only [List.mem_append, List.mem_singleton] at h1
   rcases h1 with h1 | h1
   ·exact .inl ⟨t', h1, h2⟩
   ·simp only [Prod.mk.injEq] at h1
    obtain ⟨rfl, rfl⟩ := h1
    right
    intro i hi
    by_cases hit : i < t'
    ·exact h2 i hit hi
    ·have := hall (i - t') (by omega)
     rw [show t' + (i - t') = i by omega] at this
     exact hgb _ this
  ·exact .inr h1
 ·rw [p2]
  have hxn : x ∉ bl := by
   have := p1.nd
   simp only at this
   intro hm
   exact (List.nodup_append.1 this).2.2 x hm x (by simp) rfl
  have hpa : ∀ y, y ∈ bl -> plc (bl ++ [x]) y = plc bl y := fun y hy => by
   have hne : y ≠ x := fun e => hxn (e ▸ hy)
   rw [plc_app hxn, if_neg hne]
  have hpx : plc (bl ++ [x]) x = bl.length := by rw [plc_app hxn, if_pos rfl]
  have hpp : ∀ i, i < bl.length -> pOf (mt ++ [plc bl b]) i = pOf mt i := fun i hi => by
   unfold pOf; rw [gn_app (by omega)]
  have hpL : pOf (mt ++ [plc bl b]) bl.length = (plc bl b).toNat := by
   unfold pOf gn; simp [List.getD, <- hlen]
  have han : ∀ a v, v < bl.length -> (Anc (pOf (mt ++ [plc bl b])) a v ↔ Anc (pOf mt) a v) := fun a v hv => anc_same hpp hpl hv
  have hgx : gn (bl ++ [x]) bl.length = x := by unfold gn; simp [List.getD]
  have hop : ∀ q ∈ st, q.1 ∈ bl /\ plc bl q.1 < plc bl b := fun q hq => ⟨(h.ops q (by simp [hq])).1, (List.pairwise_append.1 hst).2.2 q hq (b, t) (by simp)⟩
  have hGd : ∀ y z, y ∈ bl -> Gd bl mt y z -> Gd (bl ++ [x]) (mt ++ [plc bl b]) y z := fun y z hy hz => by
   obtain ⟨z1, z2⟩ := hz
   obtain ⟨q1, q2, _⟩ := plc_lt z1
   refine ⟨List.mem_append_left _ z1, fun hlt => ?_⟩
   rw [hpa y hy, hpa z z1] at hlt ⊢
   exact (han _ _ (by omega)).2 (z2 hlt)
  have hdown : ∀ c : Int, c ∈ bl -> plc bl c <= plc bl b -> (∀ j : Nat, plc bl c <= j -> j < bl.length -> Anc (pOf mt) (plc bl c).toNat j) -> Anc (pOf (mt ++ [plc bl b])) (plc bl c).toNat bl.length := fun c hc hcb hd => by
   have a1 := hd (plc bl b).toNat (by omega) (by omega)
   have a2 := (han _ _ (by omega)).2 a1
   rw [<- hpL] at a2
   exact a2.trans (Anc.par _ _)
  have hnewb : Anc (pOf (mt ++ [plc bl b])) (plc bl b).toNat bl.length := hdown b hbm (Int.le_refl _) hdb
  refine ⟨?_, ?_, fun q hq i hi hil => ?_, fun a y v hv ha hay hyv => ?_, fun v h1 hv => ?_, fun y hy => ?_⟩
  ·rw [gn_app (by have := j.pos; simp only at this; omega)]; exact d.m0
  ·show List.Pairwise _ (st ++ [(b, t + k + 1), (x, 0)])
   refine List.pairwise_append.2 ⟨?_, ?_, ?_⟩
   ·refine (List.pairwise_append.1 hst).1.imp_of_mem fun {a c} ha hc hac => ?_
    show plc (bl ++ [x]) a.1 < plc (bl ++ [x]) c.1
    rw [hpa _ (hop a ha).1, hpa _ (hop c hc).1]; exact hac
   ·simp only [List.pairwise_cons, List.mem_singleton, forall_eq, List.not_mem_nil, false_imp_iff, implies_true, List.Pairwise.nil, and_true]
    rw [hpa b hbm, hpx]; exact b2
   ·intro a ha c hc
    obtain ⟨a1, a2⟩ := hop a ha
    simp only [List.mem_cons, List.not_mem_nil, or_false] at hc
    show plc (bl ++ [x]) a.1 < plc (bl ++ [x]) c.1
    rw [hpa _ a1]
    rcases hc with rfl | rfl
    ·rw [hpa b hbm]; exact a2
    ·rw [hpx]; omega
  ·simp only [List.length_append, List.length_cons, List.length_nil] at hil
   simp only [List.mem_append, List.mem_cons, List.not_mem_nil, or_false] at hq
   have hold : ∀ c : Int, c ∈ bl -> plc bl c <= plc bl b -> (∀ j : Nat, plc bl c <= j -> j < bl.length -> Anc (pOf mt) (plc bl c).toNat j) -> plc (bl ++ [x]) c <= i -> Anc (pOf (mt ++ [plc bl b])) (plc (bl ++ [x]) c).toNat i := fun c hc hcb hd hci => by
    rw [hpa c hc] at hci ⊢
    by_cases hiL : i < bl.length
    ·exact (han _ _ hiL).2 (hd i hci hiL)
    ·have : i = bl.length := by omega
     subst this
     exact hdown c hc hcb hd
   rcases hq with hq | rfl | rfl
   ·obtain ⟨a1, a2⟩ := hop q hq
    exact hold q.1 a1 (by omega) (d.ds q (by simp [hq])) hi
   ·exact hold b hbm (Int.le_refl _) hdb hi
   ·simp only at hi ⊢
    rw [hpx] at hi ⊢
    have : i = bl.length := by omega
    subst this
    simpa using Anc.refl _ _
  ·simp only [List.length_append, List.length_cons, List.length_nil] at hv ha ⊢
   by_cases hvL : v < bl.length
   ·exact (han _ _ (by omega)).2 (d.iv a y v hvL ((han _ _ hvL).1 ha) hay hyv)
   ·have : v = bl.length := by omega
    subst this
    by_cases hyL : y = bl.length
    ·subst hyL; exact ha
    ·have hne : a ≠ bl.length := by omega
     have ha2 := ha.up hne
     rw [hpL] at ha2
     by_cases hyb : y <= (plc bl b).toNat
     ·exact (han _ _ (by omega)).2 (d.iv a y _ (show (plc bl b).toNat < bl.length by omega) ((han _ _ (by omega)).1 ha2) hay hyb)
     ·exact ha2.trans ((han _ _ (by omega)).2 (hdb y (by omega) (by omega)))
  ·simp only [List.length_append, List.length_cons, List.length_nil] at hv ⊢
   by_cases hvL : v < bl.length
   ·have hpv : pOf mt v < v := by have := j.mt v h1 hvL; simp only at this; unfold pOf; omega
    rw [hpp v hvL, gn_app hvL, gn_app (by omega)]
    exact d.pe v h1 hvL
   ·have : v = bl.length := by omega
    subst this
    rw [hpL, hgx, gn_app (by omega), b3, hx]
    have e : (rowOf Ls b).getD (t + k) 0 = (rowOf Ls b)[t + k] := by simp [hk]
    rw [e]; exact List.getElem_mem hk
  ·simp only [List.mem_append, List.mem_singleton] at hy
   rcases hy with hy | rfl
   ·rcases d.gd y hy with ⟨t', h1, h2⟩ | h1
    ·simp only [List.mem_append, List.mem_singleton] at h1
     rcases h1 with h1 | h1
     ·exact .inl ⟨t', by simp [h1], fun i hi hl => hGd y _ hy (h2 i hi hl)⟩
     ·simp only [Prod.mk.injEq] at h1
      obtain ⟨rfl, rfl⟩ := h1
      refine .inl ⟨t' + k + 1, by simp, fun i hi hl => ?_⟩
      by_cases h4 : i < t'
      ·exact hGd y _ hy (h2 i h4 hl)
      ·by_cases h5 : i = t' + k
       ·subst h5; rw [<- hx]
        refine ⟨by simp, fun _ => ?_⟩
        rw [hpx, hpa y hy]; exact hnewb
       ·have := hb (i - t') (by omega)
        rw [show t' + (i - t') = i by omega] at this
        exact hGd y _ hy (hgb _ this)
    ·exact .inr fun i hi => hGd y _ hy (h1 i hi)
   ·exact .inl ⟨0, by simp, fun i hi => by omega⟩
theorem WD.zero (Ls : List (List Int)) : WD Ls ds0 := by
 refine ⟨rfl, by simp [ds0], fun q hq i h1 h2 => ?_, fun a x v hv ha h1 h2 => ?_, fun v h1 hv => ?_, fun x hx => ?_⟩
 ·simp [ds0] at hq h2
  subst hq h2
  exact Anc.refl _ _
 ·simp [ds0] at hv
  subst hv
  have : x = 0 := by omega
  subst this; exact ha
 ·simp [ds0] at hv; omega
 ·simp [ds0] at hx
  subst hx
  exact .inl ⟨0, by simp [ds0], fun i hi => by omega⟩
theorem wrun_wd {Ls : List (List Int)} (hg : goodP Ls = true) : ∀ (k : Nat) (s : DS), WI Ls s -> WJ Ls s -> WD Ls s -> WD Ls (wrun Ls k s)
 | 0, s, _, _, d => d
 | k + 1, s, h, j, d => by
   rw [wrun]
   split
   ·exact d
   ·next hne =>
    have hwi : WI Ls (wstep Ls s) := by
     have := wrun_wi hg 1 s h
     rw [wrun, if_neg hne, wrun] at this
     exact this
    refine wrun_wd hg k _ hwi (j.step h) ?_
    obtain ⟨bl, mt, op⟩ := s
    rcases List.eq_nil_or_concat op with he | ⟨st, ⟨b, t⟩, he⟩
    ·exact absurd he hne
    ·rw [List.concat_eq_append] at he
     subst he
     exact WD.step hg h j d
def EP (Ls : List (List Int)) (u v : Nat) : Prop := u < (walkP Ls).bl.length /\ v < (walkP Ls).bl.length /\ gn (walkP Ls).bl v ∈ rowOf Ls (gn (walkP Ls).bl u)
theorem walkP_dfs {Ls : List (List Int)} (hg : goodP Ls = true) : Dfs (walkP Ls).bl.length (EP Ls) (pOf (walkP Ls).mt) := by
 have d := wrun_wd hg (msr Ls.length ds0) ds0 (WI.zero hg) (WJ.zero Ls) (WD.zero Ls)
 have he := wrun_end hg (msr Ls.length ds0) ds0 (WI.zero hg) (Nat.le_refl _)
 have hi : WI Ls (walkP Ls) := wrun_wi hg _ _ (WI.zero hg)
 have hj : WJ Ls (walkP Ls) := walkP_wj hg
 change WD Ls (walkP Ls) at d
 change (walkP Ls).op = [] at he
 refine ⟨pOf_le hi hj d.m0, fun v h1 h2 => ?_, fun v h1 h2 => ?_, fun u v h => ⟨h.1, h.2.1⟩, fun u v h hlt => ?_, d.iv⟩
 ·have := hj.mt v h1 h2; unfold pOf; omega
 ·have := hj.mt v h1 h2
  exact ⟨by unfold pOf; omega, h2, d.pe v h1 h2⟩
 ·obtain ⟨h1, h2, h3⟩ := h
  obtain ⟨i, hi', e⟩ := List.getElem_of_mem h3
  have e2 : (rowOf Ls (gn (walkP Ls).bl u)).getD i 0 = gn (walkP Ls).bl v := by rw [<- e]; simp [hi']
  rcases d.gd _ (gn_mem h1) with ⟨t, q, _⟩ | q
  ·rw [he] at q; simp at q
  ·have := (q i hi').2
   rw [e2, plc_of hi.nd h1, plc_of hi.nd h2] at this
   simpa using this (by omega)
theorem srcIn_mem {bl : List Int} {k v : Nat} (y : Int) : ∀ (row : List Int) (S : List (List Int)), v < S.length -> (y ∈ (srcIn bl k row S).getD v [] ↔ y ∈ S.getD v [] \/ (y = k /\ ∃ x ∈ row, (plc bl x).toNat = v))
 | [], S, _ => by simp [srcIn]
 | x :: row, S, hv => by
   have e : srcIn bl k (x :: row) S = srcIn bl k row (S.set (plc bl x).toNat (S.getD (plc bl x).toNat [] ++ [(k : Int)])) := rfl
   rw [e, srcIn_mem y row _ (by simpa using hv)]
   by_cases hx : (plc bl x).toNat = v
   ·subst hx
    have e2 : (S.set (plc bl x).toNat (S.getD (plc bl x).toNat [] ++ [(k : Int)])).getD (plc bl x).toNat [] = S.getD (plc bl x).toNat [] ++ [(k : Int)] := by simp [hv]
    rw [e2]
    simp only [List.mem_append, List.mem_cons, List.not_mem_nil, or_false]
    constructor
    ·rintro ((h | h) | ⟨h1, z, h2, h3⟩)
     ·exact .inl h
     ·exact .inr ⟨h, x, .inl rfl, rfl⟩
     ·exact .inr ⟨h1, z, .inr h2, h3⟩
    ·rintro (h | ⟨h1, _⟩)
     ·exact .inl (.inl h)
     ·exact .inl (.inr h1)
   ·have e2 : (S.set (plc bl x).toNat (S.getD (plc bl x).toNat [] ++ [(k : Int)])).getD v [] = S.getD v [] := by
     rw [List.getD, List.getElem?_set_ne hx]; rfl
    rw [e2]
    simp only [List.mem_cons]
    constructor
    ·rintro (h | ⟨h1, z, h2, h3⟩)
     ·exact .inl h
     ·exact .inr ⟨h1, z, .inr h2, h3⟩
    ·rintro (h | ⟨h1, z, h2 | h2, h3⟩)
     ·exact .inl h
     ·subst h2; exact absurd h3 hx
     ·exact .inr ⟨h1, z, h2, h3⟩
theorem srcN_mem {bl : List Int} {Ls : List (List Int)} {v : Nat} (hv : v < bl.length) (y : Int) : ∀ k, k <= bl.length -> (y ∈ (srcN bl Ls k).getD v [] ↔ ∃ z : Nat, y = z /\ z < k /\ ∃ x ∈ rowOf Ls (gn bl z), (plc bl x).toNat = v)
 | 0, _ => by simp [srcN, hv]
 | k + 1, hk => by
   have hl := (srcN_ok bl Ls k (by omega)).1
   rw [srcN, srcIn_mem y _ _ (by omega), srcN_mem hv y k (by omega)]
   constructor
   ·rintro (⟨z, h1, h2, h3⟩ | ⟨h1, h3⟩)
    ·exact ⟨z, h1, by omega, h3⟩
    ·exact ⟨k, h1, by omega, h3⟩
   ·rintro ⟨z, h1, h2, h3⟩
    by_cases hz : z = k
    ·subst hz; exact .inr ⟨h1, h3⟩
    ·exact .inl ⟨z, h1, by omega, h3⟩
theorem domP_is {Ls : List (List Int)} (hg : goodP Ls = true) : ∀ x, 1 <= x -> x < (walkP Ls).bl.length -> ∃ d : Nat, gn (domP (walkP Ls).mt (srcs (walkP Ls).bl Ls)) x = d /\ Imm (walkP Ls).bl.length (EP Ls) d x := by
 have hi : WI Ls (walkP Ls) := wrun_wi hg _ _ (WI.zero hg)
 have hj : WJ Ls (walkP Ls) := walkP_wj hg
 have hD := walkP_dfs hg
 have hl : (walkP Ls).mt.length = (walkP Ls).bl.length := hi.len
 rw [<- hl] at hD ⊢
 refine domP_imm (p := pOf (walkP Ls).mt) (by rw [hl]; exact hj.pos) hD (fun i h1 h2 => ?_) (fun v hv y hy => ?_) (fun v hv u hu => ?_)
 ·have := hj.mt i h1 (by omega); unfold pOf; omega
 ·rw [hl] at hv
  obtain ⟨z, z1, z2, x, z3, z4⟩ := (srcN_mem hv y _ (Nat.le_refl _)).1 hy
  refine ⟨z, z1, z2, hv, ?_⟩
  have hx := walkP_closed hg _ (gn_mem z2) x z3
  have := plc_lt hx
  rw [z4] at this
  rw [this.2.2]; exact z3
 ·rw [hl] at hv
  obtain ⟨h1, h2, h3⟩ := hu
  refine (srcN_mem hv _ _ (Nat.le_refl _)).2 ⟨u, rfl, h1, _, h3, ?_⟩
  rw [plc_of hi.nd hv]; simp
theorem wrun_first {Ls : List (List Int)} : ∀ (k : Nat) (s : DS), 0 < s.bl.length -> gn s.bl 0 = 0 -> gn (wrun Ls k s).bl 0 = 0
 | 0, s, _, h => h
 | k + 1, s, hp, h => by
   rw [wrun]
   split
   ·exact h
   ·have key : 0 < (wstep Ls s).bl.length /\ gn (wstep Ls s).bl 0 = 0 := by
     unfold wstep
     split
     ·exact ⟨hp, h⟩
     ·split
      ·exact ⟨hp, h⟩
      ·exact ⟨by simp, by rw [gn_app hp]; exact h⟩
    exact wrun_first k _ key.1 key.2
theorem walkP_first {Ls : List (List Int)} : gn (walkP Ls).bl 0 = 0 := wrun_first _ _ (by simp [ds0]) (by simp [ds0, gn])
theorem woP_out {Ls : List (List Int)} (hg : goodP Ls = true) (a : Int) : a ∉ woP Ls a := by
 by_cases h0 : a = 0
 ·unfold woP; rw [if_pos h0]; simp
 ·intro h
  exact (woP_spec hg h0).2.2.2 (fun x => x ≠ a) (fun e => h0 e.symm) (fun x _ y _ hy => hy) a h rfl
theorem av_wo {Ls : List (List Int)} (hg : goodP Ls = true) {i j : Nat} (hi : i < (walkP Ls).bl.length) (hj : j < (walkP Ls).bl.length) : Av (EP Ls) i j ↔ gn (walkP Ls).bl j ∈ woP Ls (gn (walkP Ls).bl i) := by
 have hw := walkP_wi hg
 have inj : ∀ {a b : Nat}, a < (walkP Ls).bl.length -> b < (walkP Ls).bl.length -> gn (walkP Ls).bl a = gn (walkP Ls).bl b -> a = b := fun {a b} ha hb e => by
  have h1 := plc_of hw.nd ha
  rw [e, plc_of hw.nd hb] at h1
  omega
 have hpos : 0 < (walkP Ls).bl.length := by omega
 by_cases h0 : i = 0
 ·subst h0
  constructor
  ·intro h; exact absurd rfl h.1
  ·intro h; rw [walkP_first] at h; unfold woP at h; rw [if_pos rfl] at h; simp at h
 ·have ha : gn (walkP Ls).bl i ≠ 0 := fun e => h0 (inj hi hpos (by rw [e, walkP_first]))
  obtain ⟨s1, s2, s3, s4⟩ := woP_spec hg ha
  constructor
  ·intro h
   rcases h.2 with rfl | ⟨h1, k, h2⟩
   ·rw [walkP_first]; exact s1
   ·have key : ∀ (k u : Nat), u < (walkP Ls).bl.length -> gn (walkP Ls).bl u ∈ woP Ls (gn (walkP Ls).bl i) -> Wk (EP Ls) (fun x => x ≠ i) k u j -> gn (walkP Ls).bl j ∈ woP Ls (gn (walkP Ls).bl i) := by
     intro k
     induction k with
     | zero => intro u hu hm hw; exact s3 _ hm _ hw.2.2 fun e => h1 (inj hj hi e)
     | succ k ih =>
       rintro u hu hm ⟨x, x1, x2, x3⟩
       exact ih x x1.2.1 (s3 _ hm _ x1.2.2 fun e => x2 (inj x1.2.1 hi e)) x3
    exact key k 0 hpos (by rw [walkP_first]; exact s1) h2
  ·intro h
   obtain ⟨j', q1, q2, q3⟩ := s4 (fun x => ∃ j, j < (walkP Ls).bl.length /\ gn (walkP Ls).bl j = x /\ Av (EP Ls) i j) ⟨0, hpos, walkP_first, h0, .inl rfl⟩ (by
    rintro x ⟨j, j1, rfl, j3⟩ y hy hne
    have hym := walkP_closed hg _ (gn_mem j1) y hy
    obtain ⟨y1, y2, y3⟩ := plc_lt hym
    exact ⟨(plc (walkP Ls).bl y).toNat, by omega, y3, j3.more ⟨j1, by omega, by rw [y3]; exact hy⟩ fun e => hne (by rw [<- y3, e])⟩) _ h
   rw [inj hj q1 q2.symm]; exact q3
def Dm (Ls : List (List Int)) (a b : Int) : Prop := a ∈ (walkP Ls).bl /\ b ∈ (walkP Ls).bl /\ b ∉ woP Ls a
theorem Dm.refl {Ls : List (List Int)} (hg : goodP Ls = true) {b : Int} (h : b ∈ (walkP Ls).bl) : Dm Ls b b := ⟨h, h, woP_out hg b⟩
theorem Dm.trans {Ls : List (List Int)} (hg : goodP Ls = true) {a b c : Int} (h : Dm Ls a b) (g : Dm Ls b c) : Dm Ls a c := by
 refine ⟨h.1, g.2.1, fun hc => ?_⟩
 by_cases ha : a = 0
 ·subst ha; unfold woP at hc; rw [if_pos rfl] at hc; simp at hc
 ·obtain ⟨s1, s2, s3, s4⟩ := woP_spec hg ha
  have hb : b ≠ 0 := fun e => h.2.2 (e ▸ s1)
  obtain ⟨t1, t2, t3, t4⟩ := woP_spec hg hb
  have := s4 (fun x => x ∈ woP Ls a /\ x ∈ woP Ls b) ⟨s1, t1⟩ (fun x hx y hy hne => by
   have h1 := s3 x hx.1 y hy hne
   exact ⟨h1, t3 x hx.2 y hy fun e => h.2.2 (e ▸ h1)⟩) c hc
  exact g.2.2 this.2
theorem Dm.place {Ls : List (List Int)} (hg : goodP Ls = true) {a b : Int} (h : Dm Ls a b) : plc (walkP Ls).bl a <= plc (walkP Ls).bl b := by
 have hD := walkP_dfs hg
 obtain ⟨a1, a2, a3⟩ := plc_lt h.1
 obtain ⟨b1, b2, b3⟩ := plc_lt h.2.1
 have hn : ¬ Av (EP Ls) (plc (walkP Ls).bl a).toNat (plc (walkP Ls).bl b).toNat := fun q => by
  have := (av_wo hg (by omega) (by omega)).1 q
  rw [a3, b3] at this
  exact h.2.2 this
 have := Classical.byContradiction fun q => hn (Av.aside hD (a := (plc (walkP Ls).bl a).toNat) (by omega) q)
 have := this.le hD.pl
 omega
theorem treeIn_out {bl over : List Int} {n : Nat} {b : Nat} : ∀ k, k <= bl.length -> (∀ x, 1 <= x -> x < k -> (gn bl x).toNat ≠ b) -> gn (treeIn bl over n k) b = gn (List.replicate n (-1 : Int)) b
 | 0, _, _ => by rw [treeIn]
 | k + 1, hk, h => by
   rw [treeIn]
   split
   ·rw [treeIn]
   ·next h0 =>
    have ih := treeIn_out (over := over) (n := n) k (by omega) fun x h1 h2 => h x h1 (by omega)
    rw [<- ih]
    have := h k (by omega) (by omega)
    unfold gn at this ⊢
    rw [List.getD, List.getElem?_set_ne this]; rfl
theorem treeIn_in {bl over : List Int} {n : Nat} (hnd : bl.Nodup) (hr : ∀ x ∈ bl, 0 <= x /\ x < (n : Int)) {x : Nat} (hx : 1 <= x) : ∀ k, k <= bl.length -> x < k -> gn (treeIn bl over n k) (gn bl x).toNat = gn bl (gn over x).toNat
 | 0, _, h => by omega
 | k + 1, hk, h => by
   rw [treeIn, if_neg (by omega)]
   have hrk := hr _ (gn_mem (show k < bl.length by omega))
   have hrx := hr _ (gn_mem (show x < bl.length by omega))
   by_cases e : x = k
   ·subst e
    rw [gn_set (by rw [treeIn_len]; omega), if_pos rfl]
   ·have ne : (gn bl x).toNat ≠ (gn bl k).toNat := fun q => by
     have q2 : gn bl x = gn bl k := by omega
     have h1 := plc_of hnd (show x < bl.length by omega)
     rw [q2, plc_of hnd (show k < bl.length by omega)] at h1
     omega
    rw [gn_set (by rw [treeIn_len]; omega), if_neg ne]
    exact treeIn_in hnd hr hx k (by omega) (by omega)
structure IsD (Ls : List (List Int)) (d b : Int) : Prop where
 ov : Dm Ls d b
 ne : d ≠ b
 near : ∀ a, Dm Ls a b -> a ≠ b -> Dm Ls a d
theorem treeP_len {Ls : List (List Int)} (hg : goodP Ls = true) : (treeP Ls).length = Ls.length := by
 unfold treeP; rw [if_pos hg, treeIn_len]
theorem treeP_none {Ls : List (List Int)} (hg : goodP Ls = true) {b : Nat} (hb : b < Ls.length) (h : (b : Int) ∉ (walkP Ls).bl \/ b = 0) : gn (treeP Ls) b = -1 := by
 have hw := walkP_wi hg
 unfold treeP
 rw [if_pos hg, treeIn_out _ (Nat.le_refl _)]
 ·simp [gn, hb]
 ·intro x h1 h2 e
  have hm := gn_mem h2
  have hr := hw.rng _ hm
  have e2 : gn (walkP Ls).bl x = b := by omega
  rcases h with h | h
  ·exact h (e2 ▸ hm)
  ·subst h
   have q := plc_of hw.nd h2
   rw [e2] at q
   have q2 := plc_of hw.nd (show 0 < (walkP Ls).bl.length by omega)
   rw [walkP_first] at q2
   simp at q
   rw [q2] at q
   omega
theorem treeP_some {Ls : List (List Int)} (hg : goodP Ls = true) {b : Nat} (h : (b : Int) ∈ (walkP Ls).bl) (h0 : b ≠ 0) : IsD Ls (gn (treeP Ls) b) b := by
 have hw := walkP_wi hg
 obtain ⟨b1, b2, b3⟩ := plc_lt h
 obtain ⟨x, hx⟩ : ∃ x : Nat, x = (plc (walkP Ls).bl b).toNat := ⟨_, rfl⟩
 rw [<- hx] at b3
 have hxl : x < (walkP Ls).bl.length := by omega
 have hx1 : 1 <= x := by
  apply Classical.byContradiction
  intro hc
  have : x = 0 := by omega
  rw [this, walkP_first] at b3
  omega
 obtain ⟨d, d1, d2⟩ := domP_is hg x hx1 hxl
 have hd := d2.ne
 have e : gn (treeP Ls) b = gn (walkP Ls).bl d := by
  unfold treeP
  rw [if_pos hg]
  have q := treeIn_in (over := domP (walkP Ls).mt (srcs (walkP Ls).bl Ls)) hw.nd hw.rng hx1 _ (Nat.le_refl _) hxl
  rw [b3, d1] at q
  simpa using q
 rw [e]
 have hdl : d < (walkP Ls).bl.length := by omega
 refine ⟨⟨gn_mem hdl, h, fun q => d2.ov ?_⟩, fun q => ?_, fun a ha hne => ?_⟩
 ·rw [<- b3] at q; exact (av_wo hg hdl hxl).2 q
 ·have p1 := plc_of hw.nd hdl
  rw [q, <- b3, plc_of hw.nd hxl] at p1
  omega
 ·obtain ⟨a1, a2, a3⟩ := plc_lt ha.1
  have hal : (plc (walkP Ls).bl a).toNat < (walkP Ls).bl.length := by omega
  refine ⟨ha.1, gn_mem hdl, fun q => d2.near (plc (walkP Ls).bl a).toNat (fun e => hne ?_) (fun q2 => ha.2.2 ?_) ?_⟩
  ·rw [<- a3, e, b3]
  ·have := (av_wo hg hal hxl).1 q2
   rw [a3, b3] at this; exact this
  ·refine (av_wo hg hal hdl).2 ?_
   rw [a3]; exact q
structure Vl where
 op : Int
 ty : Int
 imm : Int
 args : List Int
structure Bk where
 phis : List Int
 body : List Int
 kind : Int
 val : Int
 ways : List Int
 preds : List Int
structure Fu where
 name : ByteArray
 params : List Int
 result : Int
 vals : List Vl
 blks : List Bk
structure VlAt (w : World) (b p : Nat) (n : Vl) : Prop where
 out : ∃ (ka : Option Addr) (kc : Nat), w.cell? ⟨b, p, none⟩ = some (.int .i64 n.op) /\ w.cell? ⟨b, p + 1, none⟩ = some (.int .i64 n.ty) /\ w.cell? ⟨b, p + 2, none⟩ = some (.int .i64 n.imm) /\ w.cell? ⟨b, p + 3, none⟩ = some (.slice ka n.args.length kc) /\ Ints w ka kc n.args
structure Vls (w : World) (ao : Option Addr) (cap : Nat) (N : List Vl) : Prop where
 le : N.length <= cap
 mx : cap <= 9223372036854775807
 out : N ≠ [] -> ∃ b o, ao = some ⟨b, o, none⟩ /\ b < w.heap.size /\ ∀ i (h : i < N.length), VlAt w b (o + i * 4) N[i]
structure BkAt (w : World) (b p : Nat) (n : Bk) : Prop where
 out : ∃ (ka : Option Addr) (kc : Nat) (la : Option Addr) (lc : Nat) (ma : Option Addr) (mc : Nat) (na : Option Addr) (nc : Nat), w.cell? ⟨b, p, none⟩ = some (.slice ka n.phis.length kc) /\ w.cell? ⟨b, p + 1, none⟩ = some (.slice la n.body.length lc) /\ w.cell? ⟨b, p + 2, none⟩ = some (.int .i64 n.kind)
  /\ w.cell? ⟨b, p + 3, none⟩ = some (.int .i64 n.val) /\ w.cell? ⟨b, p + 4, none⟩ = some (.slice ma n.ways.length mc) /\ w.cell? ⟨b, p + 5, none⟩ = some (.slice na n.preds.length nc) /\ Ints w ka kc n.phis /\ Ints w la lc n.body /\ Ints w ma mc n.ways /\ Ints w na nc n.preds
structure Bks (w : World) (ao : Option Addr) (cap : Nat) (N : List Bk) : Prop where
 le : N.length <= cap
 mx : cap <= 9223372036854775807
 out : N ≠ [] -> ∃ b o, ao = some ⟨b, o, none⟩ /\ b < w.heap.size /\ ∀ i (h : i < N.length), BkAt w b (o + i * 6) N[i]
structure FuAt (w : World) (b p : Nat) (n : Fu) : Prop where
 out : ∃ (ka : Option Addr) (kc : Nat) (la : Option Addr) (lc : Nat) (ma : Option Addr) (mc : Nat), w.cell? ⟨b, p, none⟩ = some (.string n.name) /\ w.cell? ⟨b, p + 1, none⟩ = some (.slice ka n.params.length kc) /\ w.cell? ⟨b, p + 2, none⟩ = some (.int .i64 n.result)
  /\ w.cell? ⟨b, p + 3, none⟩ = some (.slice la n.vals.length lc) /\ w.cell? ⟨b, p + 4, none⟩ = some (.slice ma n.blks.length mc) /\ Ints w ka kc n.params /\ Vls w la lc n.vals /\ Bks w ma mc n.blks
structure Fus (w : World) (ao : Option Addr) (cap : Nat) (N : List Fu) : Prop where
 le : N.length <= cap
 mx : cap <= 9223372036854775807
 out : N ≠ [] -> ∃ b o, ao = some ⟨b, o, none⟩ /\ b < w.heap.size /\ ∀ i (h : i < N.length), FuAt w b (o + i * 5) N[i]
theorem VlAt.below {w w' b p n K} (h : VlAt w b p n) (hb : Below K w w') (hK : w.heap.size <= K) (hlt : b < w.heap.size) : VlAt w' b p n := by
 obtain ⟨ka, kc, c0, c1, c2, c3, hI⟩ := h.out
 have hc : ∀ q, w'.cell? ⟨b, q, none⟩ = w.cell? ⟨b, q, none⟩ := fun q => hb.cell (p := ⟨b, q, none⟩) (by show b < K; omega)
 exact ⟨ka, kc, by rw [hc]; exact c0, by rw [hc]; exact c1, by rw [hc]; exact c2, by rw [hc]; exact c3, hI.below hb hK⟩
theorem Vls.below {w w' ao cap N K} (h : Vls w ao cap N) (hb : Below K w w') (hK : w.heap.size <= K) : Vls w' ao cap N :=
 ⟨h.le, h.mx, fun hn => by
  obtain ⟨b, o, e, hl, hA⟩ := h.out hn
  exact ⟨b, o, e, by have := hb.size; omega, fun i hi => (hA i hi).below hb hK hl⟩⟩
theorem BkAt.below {w w' b p n K} (h : BkAt w b p n) (hb : Below K w w') (hK : w.heap.size <= K) (hlt : b < w.heap.size) : BkAt w' b p n := by
 obtain ⟨ka, kc, la, lc, ma, mc, na, nc, c0, c1, c2, c3, c4, c5, h1, h2, h3, h4⟩ := h.out
 have hc : ∀ q, w'.cell? ⟨b, q, none⟩ = w.cell? ⟨b, q, none⟩ := fun q => hb.cell (p := ⟨b, q, none⟩) (by show b < K; omega)
 exact ⟨ka, kc, la, lc, ma, mc, na, nc, by rw [hc]; exact c0, by rw [hc]; exact c1, by rw [hc]; exact c2, by rw [hc]; exact c3, by rw [hc]; exact c4, by rw [hc]; exact c5, h1.below hb hK, h2.below hb hK, h3.below hb hK, h4.below hb hK⟩
theorem Bks.below {w w' ao cap N K} (h : Bks w ao cap N) (hb : Below K w w') (hK : w.heap.size <= K) : Bks w' ao cap N :=
 ⟨h.le, h.mx, fun hn => by
  obtain ⟨b, o, e, hl, hA⟩ := h.out hn
  exact ⟨b, o, e, by have := hb.size; omega, fun i hi => (hA i hi).below hb hK hl⟩⟩
theorem FuAt.below {w w' b p n K} (h : FuAt w b p n) (hb : Below K w w') (hK : w.heap.size <= K) (hlt : b < w.heap.size) : FuAt w' b p n := by
 obtain ⟨ka, kc, la, lc, ma, mc, c0, c1, c2, c3, c4, h1, h2, h3⟩ := h.out
 have hc : ∀ q, w'.cell? ⟨b, q, none⟩ = w.cell? ⟨b, q, none⟩ := fun q => hb.cell (p := ⟨b, q, none⟩) (by show b < K; omega)
 exact ⟨ka, kc, la, lc, ma, mc, by rw [hc]; exact c0, by rw [hc]; exact c1, by rw [hc]; exact c2, by rw [hc]; exact c3, by rw [hc]; exact c4, h1.below hb hK, h2.below hb hK, h3.below hb hK⟩
theorem Fus.below {w w' ao cap N K} (h : Fus w ao cap N) (hb : Below K w w') (hK : w.heap.size <= K) : Fus w' ao cap N :=
 ⟨h.le, h.mx, fun hn => by
  obtain ⟨b, o, e, hl, hA⟩ := h.out hn
  exact ⟨b, o, e, by have := hb.size; omega, fun i hi => (hA i hi).below hb hK hl⟩⟩
def evr {α : Type} (p : Nat -> α -> Bool) : Nat -> List α -> Bool
 | _, [] => true
 | k, x :: xs => p k x && evr p (k + 1) xs
theorem evr_iff {α : Type} (p : Nat -> α -> Bool) (L : List α) : ∀ k, evr p k L = true ↔ ∀ i (h : i < L.length), p (k + i) L[i] = true := by
 induction L with
 | nil => intro k; simp [evr]
 | cons x xs ih =>
   intro k
   simp only [evr, Bool.and_eq_true, ih]
   constructor
   ·rintro ⟨h1, h2⟩ i hi
    cases i with
    | zero => exact h1
    | succ i =>
      have := h2 i (by simpa using hi)
      rw [show k + (i + 1) = k + 1 + i by omega]; simpa using this
   ·intro h
    refine ⟨h 0 (by simp), fun i hi => ?_⟩
    have := h (i + 1) (by simpa using hi)
    rw [show k + 1 + i = k + (i + 1) by omega]; simpa using this
theorem evr_plain {α : Type} (p : α -> Bool) (L : List α) : ∀ k, evr (fun _ x => p x) k L = L.all p := by
 induction L with
 | nil => intro k; rfl
 | cons x xs ih => intro k; simp [evr, ih]
structure EvR {α : Type} (p : Nat -> α -> Bool) (L : List α) (k : Nat) (R : Bool) : Prop where
 out : evr p k (L.drop k) = R
theorem EvR.next {α : Type} {p : Nat -> α -> Bool} {L : List α} {k R} (h : EvR p L k R) (hk : k < L.length) : (p k L[k] = true -> EvR p L (k + 1) R) /\ (p k L[k] = false -> R = false) := by
 have := h.out
 rw [List.drop_eq_getElem_cons hk] at this
 simp only [evr] at this
 refine ⟨fun e => ⟨?_⟩, fun e => ?_⟩
 ·rw [e] at this; simpa using this
 ·rw [e] at this; simpa using this.symm
theorem EvR.fin {α : Type} {p : Nat -> α -> Bool} {L : List α} {k R} (h : EvR p L k R) (hk : L.length <= k) : R = true := by
 have := h.out
 rw [List.drop_of_length_le hk] at this
 simpa [evr] using this.symm
structure VlV (w : World) (x : Value) (n : Vl) : Prop where
 out : ∃ (ka : Option Addr) (kc : Nat), x = .agg #[.int .i64 n.op, .int .i64 n.ty, .int .i64 n.imm, .slice ka n.args.length kc] /\ Ints w ka kc n.args
structure BkV (w : World) (x : Value) (n : Bk) : Prop where
 out : ∃ (ka : Option Addr) (kc : Nat) (la : Option Addr) (lc : Nat) (ma : Option Addr) (mc : Nat) (na : Option Addr) (nc : Nat), x = .agg #[.slice ka n.phis.length kc, .slice la n.body.length lc, .int .i64 n.kind, .int .i64 n.val, .slice ma n.ways.length mc, .slice na n.preds.length nc] /\ Ints w ka kc n.phis /\ Ints w la lc n.body /\ Ints w ma mc n.ways /\ Ints w na nc n.preds
structure FuV (w : World) (x : Value) (n : Fu) : Prop where
 out : ∃ (ka : Option Addr) (kc : Nat) (la : Option Addr) (lc : Nat) (ma : Option Addr) (mc : Nat), x = .agg #[.string n.name, .slice ka n.params.length kc, .int .i64 n.result, .slice la n.vals.length lc, .slice ma n.blks.length mc] /\ Ints w ka kc n.params /\ Vls w la lc n.vals /\ Bks w ma mc n.blks
structure IntV (w : World) (x : Value) (n : Int) : Prop where
 out : x = .int .i64 n
structure BoolV (w : World) (x : Value) (n : Bool) : Prop where
 out : x = .bool n
theorem VlV.below {w w' x n K} (h : VlV w x n) (hb : Below K w w') (hK : w.heap.size <= K) : VlV w' x n := by
 obtain ⟨ka, kc, e, h1⟩ := h.out
 exact ⟨ka, kc, e, h1.below hb hK⟩
theorem BkV.below {w w' x n K} (h : BkV w x n) (hb : Below K w w') (hK : w.heap.size <= K) : BkV w' x n := by
 obtain ⟨ka, kc, la, lc, ma, mc, na, nc, e, h1, h2, h3, h4⟩ := h.out
 exact ⟨ka, kc, la, lc, ma, mc, na, nc, e, h1.below hb hK, h2.below hb hK, h3.below hb hK, h4.below hb hK⟩
theorem FuV.below {w w' x n K} (h : FuV w x n) (hb : Below K w w') (hK : w.heap.size <= K) : FuV w' x n := by
 obtain ⟨ka, kc, la, lc, ma, mc, e, h1, h2, h3⟩ := h.out
 exact ⟨ka, kc, la, lc, ma, mc, e, h1.below hb hK, h2.below hb hK, h3.below hb hK⟩
end Go.Proofs.YtfbkopjncmkbiabGreatDoor
