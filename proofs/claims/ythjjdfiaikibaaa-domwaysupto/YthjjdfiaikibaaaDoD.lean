import Derived.Test.YthjjdfiaikibaaaDmY
import Derived.Test.YthjjdfiaikibaaaDoC
set_option linter.unusedVariables false
set_option linter.unusedSimpArgs false
namespace Go.Proofs.Ythjjdfiaikibaaa
open Go.ChangeShapes Go.WideShapes Go.ChangeAt Go.RowKit Go.Maps

def pOf (mt : List Int) (i : Nat) : Nat := (gn mt i).toNat
theorem upk_same {p p' : Nat → Nat} {N : Nat} (hp : ∀ i, i < N → p' i = p i) (hl : ∀ i, p i ≤ i) : ∀ k v, v < N → upk p' k v = upk p k v
  | 0, v, _ => rfl
  | k + 1, v, hv => by
    show upk p' k (p' v) = upk p k (p v)
    rw [hp v hv]
    have := hl v
    exact upk_same hp hl k (p v) (by omega)
theorem anc_same {p p' : Nat → Nat} {N a v : Nat} (hp : ∀ i, i < N → p' i = p i) (hl : ∀ i, p i ≤ i) (hv : v < N) : Anc p' a v ↔ Anc p a v := by
  unfold Anc
  simp only [upk_same hp hl _ v hv]
theorem plc_lt {bl : List Int} {x : Int} (h : x ∈ bl) : 0 ≤ plc bl x ∧ plc bl x < bl.length ∧ gn bl (plc bl x).toNat = x := by
  unfold plc
  rw [if_pos h]
  have := List.idxOf_lt_length_of_mem h
  refine ⟨by omega, by omega, ?_⟩
  simp [gn, this]
theorem plc_of {bl : List Int} (hn : bl.Nodup) {i : Nat} (hi : i < bl.length) : plc bl (gn bl i) = i := by
  have e : gn bl i = bl[i] := by simp [gn, hi]
  unfold plc
  rw [e, if_pos (List.getElem_mem hi), hn.idxOf_getElem]
theorem gn_mem {bl : List Int} {i : Nat} (hi : i < bl.length) : gn bl i ∈ bl := by
  have e : gn bl i = bl[i] := by simp [gn, hi]
  rw [e]; exact List.getElem_mem hi
/-- An exit y of x: met, and below x where it has the greater place. -/
def Gd (bl mt : List Int) (x y : Int) : Prop := y ∈ bl ∧ (plc bl x < plc bl y → Anc (pOf mt) (plc bl x).toNat (plc bl y).toNat)
structure WD (Ls : List (List Int)) (s : DS) : Prop where
  m0 : gn s.mt 0 = -1
  st : s.op.Pairwise fun a b => plc s.bl a.1 < plc s.bl b.1
  ds : ∀ q ∈ s.op, ∀ j : Nat, plc s.bl q.1 ≤ j → j < s.bl.length → Anc (pOf s.mt) (plc s.bl q.1).toNat j
  iv : ∀ a x v, v < s.bl.length → Anc (pOf s.mt) a v → a ≤ x → x ≤ v → Anc (pOf s.mt) a x
  pe : ∀ v, 1 ≤ v → v < s.bl.length → gn s.bl v ∈ rowOf Ls (gn s.bl (pOf s.mt v))
  gd : ∀ x ∈ s.bl, (∃ t, (x, t) ∈ s.op ∧ ∀ i, i < t → i < (rowOf Ls x).length → Gd s.bl s.mt x ((rowOf Ls x).getD i 0)) ∨ ∀ i, i < (rowOf Ls x).length → Gd s.bl s.mt x ((rowOf Ls x).getD i 0)
theorem pOf_le {Ls : List (List Int)} {s : DS} (h : WI Ls s) (j : WJ Ls s) (h0 : gn s.mt 0 = -1) : ∀ i, pOf s.mt i ≤ i := by
  intro i
  unfold pOf
  by_cases h1 : i = 0
  · subst h1; rw [h0]; simp
  · by_cases h2 : i < s.bl.length
    · have := j.mt i (by omega) h2; omega
    · have : gn s.mt i = 0 := by
        unfold gn
        rw [List.getD, List.getElem?_eq_none (by have := h.len; omega)]
        rfl
      rw [this]; simp
theorem WD.step {Ls : List (List Int)} (hg : goodP Ls = true) {bl mt : List Int} {st : List (Int × Nat)} {b : Int} {t : Nat} (h : WI Ls ⟨bl, mt, st ++ [(b, t)]⟩) (j : WJ Ls ⟨bl, mt, st ++ [(b, t)]⟩) (d : WD Ls ⟨bl, mt, st ++ [(b, t)]⟩) : WD Ls (wstep Ls ⟨bl, mt, st ++ [(b, t)]⟩) := by
  have hpl := pOf_le h j d.m0
  have hbm : b ∈ bl := (h.ops (b, t) (by simp)).1
  obtain ⟨b1, b2, b3⟩ := plc_lt hbm
  have hdb := d.ds (b, t) (by simp)
  have hst := d.st
  simp only at hst hdb hpl
  have hlen : mt.length = bl.length := h.len
  have hgb : ∀ y ∈ bl, Gd bl mt b y := fun y hy => ⟨hy, fun hlt => by
    obtain ⟨y1, y2, y3⟩ := plc_lt hy
    exact hdb _ (by omega) (by omega)⟩
  rcases wstep_two hg h with ⟨hall, p1, p2, p3⟩ | ⟨k, x, hk, hx, hb, p1, p2, p3⟩
  · rw [p2]
    refine ⟨d.m0, (List.pairwise_append.1 hst).1, fun q hq => d.ds q (by simp [hq]), d.iv, d.pe, fun y hy => ?_⟩
    rcases d.gd y hy with ⟨t', h1, h2⟩ | h1
    · simp only [List.mem_append, List.mem_singleton] at h1
      rcases h1 with h1 | h1
      · exact .inl ⟨t', h1, h2⟩
      · simp only [Prod.mk.injEq] at h1
        obtain ⟨rfl, rfl⟩ := h1
        right
        intro i hi
        by_cases hit : i < t'
        · exact h2 i hit hi
        · have := hall (i - t') (by omega)
          rw [show t' + (i - t') = i by omega] at this
          exact hgb _ this
    · exact .inr h1
  · rw [p2]
    have hxn : x ∉ bl := by
      have := p1.nd
      simp only at this
      intro hm
      exact (List.nodup_append.1 this).2.2 x hm x (by simp) rfl
    have hpa : ∀ y, y ∈ bl → plc (bl ++ [x]) y = plc bl y := fun y hy => by
      have hne : y ≠ x := fun e => hxn (e ▸ hy)
      rw [plc_app hxn, if_neg hne]
    have hpx : plc (bl ++ [x]) x = bl.length := by rw [plc_app hxn, if_pos rfl]
    have hpp : ∀ i, i < bl.length → pOf (mt ++ [plc bl b]) i = pOf mt i := fun i hi => by
      unfold pOf; rw [gn_app (by omega)]
    have hpL : pOf (mt ++ [plc bl b]) bl.length = (plc bl b).toNat := by
      unfold pOf gn; simp [List.getD, ← hlen]
    have han : ∀ a v, v < bl.length → (Anc (pOf (mt ++ [plc bl b])) a v ↔ Anc (pOf mt) a v) := fun a v hv => anc_same hpp hpl hv
    have hgx : gn (bl ++ [x]) bl.length = x := by unfold gn; simp [List.getD]
    have hop : ∀ q ∈ st, q.1 ∈ bl ∧ plc bl q.1 < plc bl b := fun q hq => ⟨(h.ops q (by simp [hq])).1, (List.pairwise_append.1 hst).2.2 q hq (b, t) (by simp)⟩
    have hGd : ∀ y z, y ∈ bl → Gd bl mt y z → Gd (bl ++ [x]) (mt ++ [plc bl b]) y z := fun y z hy hz => by
      obtain ⟨z1, z2⟩ := hz
      obtain ⟨q1, q2, _⟩ := plc_lt z1
      refine ⟨List.mem_append_left _ z1, fun hlt => ?_⟩
      rw [hpa y hy, hpa z z1] at hlt ⊢
      exact (han _ _ (by omega)).2 (z2 hlt)
    have hdown : ∀ c : Int, c ∈ bl → plc bl c ≤ plc bl b → (∀ j : Nat, plc bl c ≤ j → j < bl.length → Anc (pOf mt) (plc bl c).toNat j) → Anc (pOf (mt ++ [plc bl b])) (plc bl c).toNat bl.length := fun c hc hcb hd => by
      have a1 := hd (plc bl b).toNat (by omega) (by omega)
      have a2 := (han _ _ (by omega)).2 a1
      rw [← hpL] at a2
      exact a2.trans (Anc.par _ _)
    have hnewb : Anc (pOf (mt ++ [plc bl b])) (plc bl b).toNat bl.length := hdown b hbm (Int.le_refl _) hdb
    refine ⟨?_, ?_, fun q hq i hi hil => ?_, fun a y v hv ha hay hyv => ?_, fun v h1 hv => ?_, fun y hy => ?_⟩
    · rw [gn_app (by have := j.pos; simp only at this; omega)]; exact d.m0
    · show List.Pairwise _ (st ++ [(b, t + k + 1), (x, 0)])
      refine List.pairwise_append.2 ⟨?_, ?_, ?_⟩
      · refine (List.pairwise_append.1 hst).1.imp_of_mem fun {a c} ha hc hac => ?_
        show plc (bl ++ [x]) a.1 < plc (bl ++ [x]) c.1
        rw [hpa _ (hop a ha).1, hpa _ (hop c hc).1]; exact hac
      · simp only [List.pairwise_cons, List.mem_singleton, forall_eq, List.not_mem_nil, false_imp_iff, implies_true, List.Pairwise.nil, and_true]
        rw [hpa b hbm, hpx]; exact b2
      · intro a ha c hc
        obtain ⟨a1, a2⟩ := hop a ha
        simp only [List.mem_cons, List.not_mem_nil, or_false] at hc
        show plc (bl ++ [x]) a.1 < plc (bl ++ [x]) c.1
        rw [hpa _ a1]
        rcases hc with rfl | rfl
        · rw [hpa b hbm]; exact a2
        · rw [hpx]; omega
    · simp only [List.length_append, List.length_cons, List.length_nil] at hil
      simp only [List.mem_append, List.mem_cons, List.not_mem_nil, or_false] at hq
      have hold : ∀ c : Int, c ∈ bl → plc bl c ≤ plc bl b → (∀ j : Nat, plc bl c ≤ j → j < bl.length → Anc (pOf mt) (plc bl c).toNat j) → plc (bl ++ [x]) c ≤ i → Anc (pOf (mt ++ [plc bl b])) (plc (bl ++ [x]) c).toNat i := fun c hc hcb hd hci => by
        rw [hpa c hc] at hci ⊢
        by_cases hiL : i < bl.length
        · exact (han _ _ hiL).2 (hd i hci hiL)
        · have : i = bl.length := by omega
          subst this
          exact hdown c hc hcb hd
      rcases hq with hq | rfl | rfl
      · obtain ⟨a1, a2⟩ := hop q hq
        exact hold q.1 a1 (by omega) (d.ds q (by simp [hq])) hi
      · exact hold b hbm (Int.le_refl _) hdb hi
      · simp only at hi ⊢
        rw [hpx] at hi ⊢
        have : i = bl.length := by omega
        subst this
        simpa using Anc.refl _ _
    · simp only [List.length_append, List.length_cons, List.length_nil] at hv ha ⊢
      by_cases hvL : v < bl.length
      · exact (han _ _ (by omega)).2 (d.iv a y v hvL ((han _ _ hvL).1 ha) hay hyv)
      · have : v = bl.length := by omega
        subst this
        by_cases hyL : y = bl.length
        · subst hyL; exact ha
        · have hne : a ≠ bl.length := by omega
          have ha2 := ha.up hne
          rw [hpL] at ha2
          by_cases hyb : y ≤ (plc bl b).toNat
          · exact (han _ _ (by omega)).2 (d.iv a y _ (show (plc bl b).toNat < bl.length by omega) ((han _ _ (by omega)).1 ha2) hay hyb)
          · exact ha2.trans ((han _ _ (by omega)).2 (hdb y (by omega) (by omega)))
    · simp only [List.length_append, List.length_cons, List.length_nil] at hv ⊢
      by_cases hvL : v < bl.length
      · have hpv : pOf mt v < v := by have := j.mt v h1 hvL; simp only at this; unfold pOf; omega
        rw [hpp v hvL, gn_app hvL, gn_app (by omega)]
        exact d.pe v h1 hvL
      · have : v = bl.length := by omega
        subst this
        rw [hpL, hgx, gn_app (by omega), b3, hx]
        have e : (rowOf Ls b).getD (t + k) 0 = (rowOf Ls b)[t + k] := by simp [hk]
        rw [e]; exact List.getElem_mem hk
    · simp only [List.mem_append, List.mem_singleton] at hy
      rcases hy with hy | rfl
      · rcases d.gd y hy with ⟨t', h1, h2⟩ | h1
        · simp only [List.mem_append, List.mem_singleton] at h1
          rcases h1 with h1 | h1
          · exact .inl ⟨t', by simp [h1], fun i hi hl => hGd y _ hy (h2 i hi hl)⟩
          · simp only [Prod.mk.injEq] at h1
            obtain ⟨rfl, rfl⟩ := h1
            refine .inl ⟨t' + k + 1, by simp, fun i hi hl => ?_⟩
            by_cases h4 : i < t'
            · exact hGd y _ hy (h2 i h4 hl)
            · by_cases h5 : i = t' + k
              · subst h5; rw [← hx]
                refine ⟨by simp, fun _ => ?_⟩
                rw [hpx, hpa y hy]; exact hnewb
              · have := hb (i - t') (by omega)
                rw [show t' + (i - t') = i by omega] at this
                exact hGd y _ hy (hgb _ this)
        · exact .inr fun i hi => hGd y _ hy (h1 i hi)
      · exact .inl ⟨0, by simp, fun i hi => by omega⟩
theorem WD.zero (Ls : List (List Int)) : WD Ls ds0 := by
  refine ⟨rfl, by simp [ds0], fun q hq i h1 h2 => ?_, fun a x v hv ha h1 h2 => ?_, fun v h1 hv => ?_, fun x hx => ?_⟩
  · simp [ds0] at hq h2
    subst hq h2
    exact Anc.refl _ _
  · simp [ds0] at hv
    subst hv
    have : x = 0 := by omega
    subst this; exact ha
  · simp [ds0] at hv; omega
  · simp [ds0] at hx
    subst hx
    exact .inl ⟨0, by simp [ds0], fun i hi => by omega⟩
theorem wrun_wd {Ls : List (List Int)} (hg : goodP Ls = true) : ∀ (k : Nat) (s : DS), WI Ls s → WJ Ls s → WD Ls s → WD Ls (wrun Ls k s)
  | 0, s, _, _, d => d
  | k + 1, s, h, j, d => by
    rw [wrun]
    split
    · exact d
    · next hne =>
      have hwi : WI Ls (wstep Ls s) := by
        have := wrun_wi hg 1 s h
        rw [wrun, if_neg hne, wrun] at this
        exact this
      refine wrun_wd hg k _ hwi (j.step h) ?_
      obtain ⟨bl, mt, op⟩ := s
      rcases List.eq_nil_or_concat op with he | ⟨st, ⟨b, t⟩, he⟩
      · exact absurd he hne
      · rw [List.concat_eq_append] at he
        subst he
        exact WD.step hg h j d
/-- The places' edges. -/
def EP (Ls : List (List Int)) (u v : Nat) : Prop := u < (walkP Ls).bl.length ∧ v < (walkP Ls).bl.length ∧ gn (walkP Ls).bl v ∈ rowOf Ls (gn (walkP Ls).bl u)
theorem walkP_dfs {Ls : List (List Int)} (hg : goodP Ls = true) : Dfs (walkP Ls).bl.length (EP Ls) (pOf (walkP Ls).mt) := by
  have d := wrun_wd hg (msr Ls.length ds0) ds0 (WI.zero hg) (WJ.zero Ls) (WD.zero Ls)
  have he := wrun_end hg (msr Ls.length ds0) ds0 (WI.zero hg) (Nat.le_refl _)
  have hi : WI Ls (walkP Ls) := wrun_wi hg _ _ (WI.zero hg)
  have hj : WJ Ls (walkP Ls) := walkP_wj hg
  change WD Ls (walkP Ls) at d
  change (walkP Ls).op = [] at he
  refine ⟨pOf_le hi hj d.m0, fun v h1 h2 => ?_, fun v h1 h2 => ?_, fun u v h => ⟨h.1, h.2.1⟩, fun u v h hlt => ?_, d.iv⟩
  · have := hj.mt v h1 h2; unfold pOf; omega
  · have := hj.mt v h1 h2
    exact ⟨by unfold pOf; omega, h2, d.pe v h1 h2⟩
  · obtain ⟨h1, h2, h3⟩ := h
    obtain ⟨i, hi', e⟩ := List.getElem_of_mem h3
    have e2 : (rowOf Ls (gn (walkP Ls).bl u)).getD i 0 = gn (walkP Ls).bl v := by rw [← e]; simp [hi']
    rcases d.gd _ (gn_mem h1) with ⟨t, q, _⟩ | q
    · rw [he] at q; simp at q
    · have := (q i hi').2
      rw [e2, plc_of hi.nd h1, plc_of hi.nd h2] at this
      simpa using this (by omega)
theorem srcIn_mem {bl : List Int} {k v : Nat} (y : Int) : ∀ (row : List Int) (S : List (List Int)), v < S.length → (y ∈ (srcIn bl k row S).getD v [] ↔ y ∈ S.getD v [] ∨ (y = k ∧ ∃ x ∈ row, (plc bl x).toNat = v))
  | [], S, _ => by simp [srcIn]
  | x :: row, S, hv => by
    have e : srcIn bl k (x :: row) S = srcIn bl k row (S.set (plc bl x).toNat (S.getD (plc bl x).toNat [] ++ [(k : Int)])) := rfl
    rw [e, srcIn_mem y row _ (by simpa using hv)]
    by_cases hx : (plc bl x).toNat = v
    · subst hx
      have e2 : (S.set (plc bl x).toNat (S.getD (plc bl x).toNat [] ++ [(k : Int)])).getD (plc bl x).toNat [] = S.getD (plc bl x).toNat [] ++ [(k : Int)] := by simp [hv]
      rw [e2]
      simp only [List.mem_append, List.mem_cons, List.not_mem_nil, or_false]
      constructor
      · rintro ((h | h) | ⟨h1, z, h2, h3⟩)
        · exact .inl h
        · exact .inr ⟨h, x, .inl rfl, rfl⟩
        · exact .inr ⟨h1, z, .inr h2, h3⟩
      · rintro (h | ⟨h1, _⟩)
        · exact .inl (.inl h)
        · exact .inl (.inr h1)
    · have e2 : (S.set (plc bl x).toNat (S.getD (plc bl x).toNat [] ++ [(k : Int)])).getD v [] = S.getD v [] := by
        rw [List.getD, List.getElem?_set_ne hx]; rfl
      rw [e2]
      simp only [List.mem_cons]
      constructor
      · rintro (h | ⟨h1, z, h2, h3⟩)
        · exact .inl h
        · exact .inr ⟨h1, z, .inr h2, h3⟩
      · rintro (h | ⟨h1, z, h2 | h2, h3⟩)
        · exact .inl h
        · subst h2; exact absurd h3 hx
        · exact .inr ⟨h1, z, h2, h3⟩
theorem srcN_mem {bl : List Int} {Ls : List (List Int)} {v : Nat} (hv : v < bl.length) (y : Int) : ∀ k, k ≤ bl.length → (y ∈ (srcN bl Ls k).getD v [] ↔ ∃ z : Nat, y = z ∧ z < k ∧ ∃ x ∈ rowOf Ls (gn bl z), (plc bl x).toNat = v)
  | 0, _ => by simp [srcN, hv]
  | k + 1, hk => by
    have hl := (srcN_ok bl Ls k (by omega)).1
    rw [srcN, srcIn_mem y _ _ (by omega), srcN_mem hv y k (by omega)]
    constructor
    · rintro (⟨z, h1, h2, h3⟩ | ⟨h1, h3⟩)
      · exact ⟨z, h1, by omega, h3⟩
      · exact ⟨k, h1, by omega, h3⟩
    · rintro ⟨z, h1, h2, h3⟩
      by_cases hz : z = k
      · subst hz; exact .inr ⟨h1, h3⟩
      · exact .inl ⟨z, h1, by omega, h3⟩
/-- Place by place: what the search finds. -/
theorem domP_is {Ls : List (List Int)} (hg : goodP Ls = true) : ∀ x, 1 ≤ x → x < (walkP Ls).bl.length → ∃ d : Nat, gn (domP (walkP Ls).mt (srcs (walkP Ls).bl Ls)) x = d ∧ Imm (walkP Ls).bl.length (EP Ls) d x := by
  have hi : WI Ls (walkP Ls) := wrun_wi hg _ _ (WI.zero hg)
  have hj : WJ Ls (walkP Ls) := walkP_wj hg
  have hD := walkP_dfs hg
  have hl : (walkP Ls).mt.length = (walkP Ls).bl.length := hi.len
  rw [← hl] at hD ⊢
  refine domP_imm (p := pOf (walkP Ls).mt) (by rw [hl]; exact hj.pos) hD (fun i h1 h2 => ?_) (fun v hv y hy => ?_) (fun v hv u hu => ?_)
  · have := hj.mt i h1 (by omega); unfold pOf; omega
  · rw [hl] at hv
    obtain ⟨z, z1, z2, x, z3, z4⟩ := (srcN_mem hv y _ (Nat.le_refl _)).1 hy
    refine ⟨z, z1, z2, hv, ?_⟩
    have hx := walkP_closed hg _ (gn_mem z2) x z3
    have := plc_lt hx
    rw [z4] at this
    rw [this.2.2]; exact z3
  · rw [hl] at hv
    obtain ⟨h1, h2, h3⟩ := hu
    refine (srcN_mem hv _ _ (Nat.le_refl _)).2 ⟨u, rfl, h1, _, h3, ?_⟩
    rw [plc_of hi.nd hv]; simp
end Go.Proofs.Ythjjdfiaikibaaa
