import Derived.Test.YthjjdfiaikibaaaDoD
set_option linter.unusedVariables false
set_option linter.unusedSimpArgs false
namespace Go.Proofs.Ythjjdfiaikibaaa
open Go.ChangeShapes Go.WideShapes Go.ChangeAt Go.RowKit Go.Maps

theorem wrun_first {Ls : List (List Int)} : ∀ (k : Nat) (s : DS), 0 < s.bl.length → gn s.bl 0 = 0 → gn (wrun Ls k s).bl 0 = 0
  | 0, s, _, h => h
  | k + 1, s, hp, h => by
    rw [wrun]
    split
    · exact h
    · have key : 0 < (wstep Ls s).bl.length ∧ gn (wstep Ls s).bl 0 = 0 := by
        unfold wstep
        split
        · exact ⟨hp, h⟩
        · split
          · exact ⟨hp, h⟩
          · exact ⟨by simp, by rw [gn_app hp]; exact h⟩
      exact wrun_first k _ key.1 key.2
theorem walkP_first {Ls : List (List Int)} : gn (walkP Ls).bl 0 = 0 := wrun_first _ _ (by simp [ds0]) (by simp [ds0, gn])
theorem woP_out {Ls : List (List Int)} (hg : goodP Ls = true) (a : Int) : a ∉ woP Ls a := by
  by_cases h0 : a = 0
  · unfold woP; rw [if_pos h0]; simp
  · intro h
    exact (woP_spec hg h0).2.2.2 (fun x => x ≠ a) (fun e => h0 e.symm) (fun x _ y _ hy => hy) a h rfl
/-- Met without a block, place by place. -/
theorem av_wo {Ls : List (List Int)} (hg : goodP Ls = true) {i j : Nat} (hi : i < (walkP Ls).bl.length) (hj : j < (walkP Ls).bl.length) : Av (EP Ls) i j ↔ gn (walkP Ls).bl j ∈ woP Ls (gn (walkP Ls).bl i) := by
  have hw := walkP_wi hg
  have inj : ∀ {a b : Nat}, a < (walkP Ls).bl.length → b < (walkP Ls).bl.length → gn (walkP Ls).bl a = gn (walkP Ls).bl b → a = b := fun {a b} ha hb e => by
    have h1 := plc_of hw.nd ha
    rw [e, plc_of hw.nd hb] at h1
    omega
  have hpos : 0 < (walkP Ls).bl.length := by omega
  by_cases h0 : i = 0
  · subst h0
    constructor
    · intro h; exact absurd rfl h.1
    · intro h; rw [walkP_first] at h; unfold woP at h; rw [if_pos rfl] at h; simp at h
  · have ha : gn (walkP Ls).bl i ≠ 0 := fun e => h0 (inj hi hpos (by rw [e, walkP_first]))
    obtain ⟨s1, s2, s3, s4⟩ := woP_spec hg ha
    constructor
    · intro h
      rcases h.2 with rfl | ⟨h1, k, h2⟩
      · rw [walkP_first]; exact s1
      · have key : ∀ (k u : Nat), u < (walkP Ls).bl.length → gn (walkP Ls).bl u ∈ woP Ls (gn (walkP Ls).bl i) → Wk (EP Ls) (fun x => x ≠ i) k u j → gn (walkP Ls).bl j ∈ woP Ls (gn (walkP Ls).bl i) := by
          intro k
          induction k with
          | zero => intro u hu hm hw; exact s3 _ hm _ hw.2.2 fun e => h1 (inj hj hi e)
          | succ k ih =>
            rintro u hu hm ⟨x, x1, x2, x3⟩
            exact ih x x1.2.1 (s3 _ hm _ x1.2.2 fun e => x2 (inj x1.2.1 hi e)) x3
        exact key k 0 hpos (by rw [walkP_first]; exact s1) h2
    · intro h
      obtain ⟨j', q1, q2, q3⟩ := s4 (fun x => ∃ j, j < (walkP Ls).bl.length ∧ gn (walkP Ls).bl j = x ∧ Av (EP Ls) i j) ⟨0, hpos, walkP_first, h0, .inl rfl⟩ (by
        rintro x ⟨j, j1, rfl, j3⟩ y hy hne
        have hym := walkP_closed hg _ (gn_mem j1) y hy
        obtain ⟨y1, y2, y3⟩ := plc_lt hym
        exact ⟨(plc (walkP Ls).bl y).toNat, by omega, y3, j3.more ⟨j1, by omega, by rw [y3]; exact hy⟩ fun e => hne (by rw [← y3, e])⟩) _ h
      rw [inj hj q1 q2.symm]; exact q3
/-- a is over b. -/
def Dm (Ls : List (List Int)) (a b : Int) : Prop := a ∈ (walkP Ls).bl ∧ b ∈ (walkP Ls).bl ∧ b ∉ woP Ls a
theorem Dm.refl {Ls : List (List Int)} (hg : goodP Ls = true) {b : Int} (h : b ∈ (walkP Ls).bl) : Dm Ls b b := ⟨h, h, woP_out hg b⟩
theorem Dm.trans {Ls : List (List Int)} (hg : goodP Ls = true) {a b c : Int} (h : Dm Ls a b) (g : Dm Ls b c) : Dm Ls a c := by
  refine ⟨h.1, g.2.1, fun hc => ?_⟩
  by_cases ha : a = 0
  · subst ha; unfold woP at hc; rw [if_pos rfl] at hc; simp at hc
  · obtain ⟨s1, s2, s3, s4⟩ := woP_spec hg ha
    have hb : b ≠ 0 := fun e => h.2.2 (e ▸ s1)
    obtain ⟨t1, t2, t3, t4⟩ := woP_spec hg hb
    have := s4 (fun x => x ∈ woP Ls a ∧ x ∈ woP Ls b) ⟨s1, t1⟩ (fun x hx y hy hne => by
      have h1 := s3 x hx.1 y hy hne
      exact ⟨h1, t3 x hx.2 y hy fun e => h.2.2 (e ▸ h1)⟩) c hc
    exact g.2.2 this.2
theorem Dm.place {Ls : List (List Int)} (hg : goodP Ls = true) {a b : Int} (h : Dm Ls a b) : plc (walkP Ls).bl a ≤ plc (walkP Ls).bl b := by
  have hD := walkP_dfs hg
  obtain ⟨a1, a2, a3⟩ := plc_lt h.1
  obtain ⟨b1, b2, b3⟩ := plc_lt h.2.1
  have hn : ¬ Av (EP Ls) (plc (walkP Ls).bl a).toNat (plc (walkP Ls).bl b).toNat := fun q => by
    have := (av_wo hg (by omega) (by omega)).1 q
    rw [a3, b3] at this
    exact h.2.2 this
  have := Classical.byContradiction fun q => hn (Av.aside hD (a := (plc (walkP Ls).bl a).toNat) (by omega) q)
  have := this.le hD.pl
  omega
theorem Dm.anti {Ls : List (List Int)} (hg : goodP Ls = true) {a b : Int} (h : Dm Ls a b) (g : Dm Ls b a) : a = b := by
  have h1 := h.place hg
  have h2 := g.place hg
  have a3 := (plc_lt h.1).2.2
  have b3 := (plc_lt h.2.1).2.2
  rw [← a3, ← b3, show plc (walkP Ls).bl a = plc (walkP Ls).bl b by omega]
theorem treeIn_out {bl over : List Int} {n : Nat} {b : Nat} : ∀ k, k ≤ bl.length → (∀ x, 1 ≤ x → x < k → (gn bl x).toNat ≠ b) → gn (treeIn bl over n k) b = gn (List.replicate n (-1 : Int)) b
  | 0, _, _ => by rw [treeIn]
  | k + 1, hk, h => by
    rw [treeIn]
    split
    · rw [treeIn]
    · next h0 =>
      have ih := treeIn_out (over := over) (n := n) k (by omega) fun x h1 h2 => h x h1 (by omega)
      rw [← ih]
      have := h k (by omega) (by omega)
      unfold gn at this ⊢
      rw [List.getD, List.getElem?_set_ne this]; rfl
theorem treeIn_in {bl over : List Int} {n : Nat} (hnd : bl.Nodup) (hr : ∀ x ∈ bl, 0 ≤ x ∧ x < (n : Int)) {x : Nat} (hx : 1 ≤ x) : ∀ k, k ≤ bl.length → x < k → gn (treeIn bl over n k) (gn bl x).toNat = gn bl (gn over x).toNat
  | 0, _, h => by omega
  | k + 1, hk, h => by
    rw [treeIn, if_neg (by omega)]
    have hrk := hr _ (gn_mem (show k < bl.length by omega))
    have hrx := hr _ (gn_mem (show x < bl.length by omega))
    by_cases e : x = k
    · subst e
      rw [gn_set (by rw [treeIn_len]; omega), if_pos rfl]
    · have ne : (gn bl x).toNat ≠ (gn bl k).toNat := fun q => by
        have q2 : gn bl x = gn bl k := by omega
        have h1 := plc_of hnd (show x < bl.length by omega)
        rw [q2, plc_of hnd (show k < bl.length by omega)] at h1
        omega
      rw [gn_set (by rw [treeIn_len]; omega), if_neg ne]
      exact treeIn_in hnd hr hx k (by omega) (by omega)
/-- A block's immediate dominator. -/
structure IsD (Ls : List (List Int)) (d b : Int) : Prop where
  ov : Dm Ls d b
  ne : d ≠ b
  near : ∀ a, Dm Ls a b → a ≠ b → Dm Ls a d
theorem treeP_len {Ls : List (List Int)} (hg : goodP Ls = true) : (treeP Ls).length = Ls.length := by
  unfold treeP; rw [if_pos hg, treeIn_len]
theorem treeP_none {Ls : List (List Int)} (hg : goodP Ls = true) {b : Nat} (hb : b < Ls.length) (h : (b : Int) ∉ (walkP Ls).bl ∨ b = 0) : gn (treeP Ls) b = -1 := by
  have hw := walkP_wi hg
  unfold treeP
  rw [if_pos hg, treeIn_out _ (Nat.le_refl _)]
  · simp [gn, hb]
  · intro x h1 h2 e
    have hm := gn_mem h2
    have hr := hw.rng _ hm
    have e2 : gn (walkP Ls).bl x = b := by omega
    rcases h with h | h
    · exact h (e2 ▸ hm)
    · subst h
      have q := plc_of hw.nd h2
      rw [e2] at q
      have q2 := plc_of hw.nd (show 0 < (walkP Ls).bl.length by omega)
      rw [walkP_first] at q2
      simp at q
      rw [q2] at q
      omega
theorem treeP_some {Ls : List (List Int)} (hg : goodP Ls = true) {b : Nat} (h : (b : Int) ∈ (walkP Ls).bl) (h0 : b ≠ 0) : IsD Ls (gn (treeP Ls) b) b := by
  have hw := walkP_wi hg
  obtain ⟨b1, b2, b3⟩ := plc_lt h
  obtain ⟨x, hx⟩ : ∃ x : Nat, x = (plc (walkP Ls).bl b).toNat := ⟨_, rfl⟩
  rw [← hx] at b3
  have hxl : x < (walkP Ls).bl.length := by omega
  have hx1 : 1 ≤ x := by
    apply Classical.byContradiction
    intro hc
    have : x = 0 := by omega
    rw [this, walkP_first] at b3
    omega
  obtain ⟨d, d1, d2⟩ := domP_is hg x hx1 hxl
  have hd := d2.ne
  have e : gn (treeP Ls) b = gn (walkP Ls).bl d := by
    unfold treeP
    rw [if_pos hg]
    have q := treeIn_in (over := domP (walkP Ls).mt (srcs (walkP Ls).bl Ls)) hw.nd hw.rng hx1 _ (Nat.le_refl _) hxl
    rw [b3, d1] at q
    simpa using q
  rw [e]
  have hdl : d < (walkP Ls).bl.length := by omega
  refine ⟨⟨gn_mem hdl, h, fun q => d2.ov ?_⟩, fun q => ?_, fun a ha hne => ?_⟩
  · rw [← b3] at q; exact (av_wo hg hdl hxl).2 q
  · have p1 := plc_of hw.nd hdl
    rw [q, ← b3, plc_of hw.nd hxl] at p1
    omega
  · obtain ⟨a1, a2, a3⟩ := plc_lt ha.1
    have hal : (plc (walkP Ls).bl a).toNat < (walkP Ls).bl.length := by omega
    refine ⟨ha.1, gn_mem hdl, fun q => d2.near (plc (walkP Ls).bl a).toNat (fun e => hne ?_) (fun q2 => ha.2.2 ?_) ?_⟩
    · rw [← a3, e, b3]
    · have := (av_wo hg hal hxl).1 q2
      rw [a3, b3] at this; exact this
    · refine (av_wo hg hal hdl).2 ?_
      rw [a3]; exact q
/-- The document's own search. -/
def ovb (Ls : List (List Int)) (a b : Nat) : Bool := decide ((a : Int) ∈ (walkP Ls).bl) && (decide ((b : Int) ∈ (walkP Ls).bl) && !decide ((b : Int) ∈ woP Ls a))
theorem ovb_dm {Ls : List (List Int)} {a b : Nat} : ovb Ls a b = true ↔ Dm Ls a b := by
  unfold ovb Dm
  simp
def cnt (Ls : List (List Int)) (k b : Nat) : Nat := (List.range k).countP fun a => ovb Ls a b
def pk (Ls : List (List Int)) (b : Nat) : Nat → Int
  | 0 => -1
  | k + 1 => if k ≠ b ∧ ovb Ls k b = true ∧ (pk Ls b k < 0 ∨ cnt Ls Ls.length (pk Ls b k).toNat < cnt Ls Ls.length k) then (k : Int) else pk Ls b k
theorem countP_lt {p q : Nat → Bool} (hpq : ∀ x, p x = true → q x = true) : ∀ (l : List Nat) (x : Nat), x ∈ l → q x = true → p x = false → l.countP p < l.countP q
  | [], x, h, _, _ => by simp at h
  | y :: l, x, h, h1, h2 => by
    have hle : l.countP p ≤ l.countP q := List.countP_mono_left fun z _ => hpq z
    rw [List.countP_cons, List.countP_cons]
    rcases List.mem_cons.1 h with rfl | h
    · rw [h1, h2]; simp; omega
    · have ih := countP_lt hpq l x h h1 h2
      by_cases hp : p y = true
      · rw [hp, hpq y hp]; simp; exact ih
      · have hp' : p y = false := by simpa using hp
        rw [hp']; simp; omega
theorem cnt_lt {Ls : List (List Int)} (hg : goodP Ls = true) {a d : Nat} (h : Dm Ls a d) (hne : a ≠ d) : cnt Ls Ls.length a < cnt Ls Ls.length d := by
  have hr := (walkP_wi hg).rng _ h.2.1
  refine countP_lt (fun x hx => ?_) _ d (by simp; omega) (ovb_dm.2 (Dm.refl hg h.2.1)) ?_
  · exact ovb_dm.2 ((ovb_dm.1 hx).trans hg h)
  · cases e : ovb Ls d a with
    | false => rfl
    | true => exact absurd (h.anti hg (ovb_dm.1 e)) (by omega)
theorem pk_none {Ls : List (List Int)} {b : Nat} (h : ∀ a : Nat, a ≠ b → ovb Ls a b = false) : ∀ k, pk Ls b k = -1
  | 0 => rfl
  | k + 1 => by
    rw [pk, if_neg]
    · exact pk_none h k
    · rintro ⟨h1, h2, _⟩
      rw [h k h1] at h2; cases h2
theorem pk_some {Ls : List (List Int)} (hg : goodP Ls = true) {b d : Nat} (h : IsD Ls d b) : ∀ k, (k ≤ d → pk Ls b k = -1 ∨ ∃ a : Nat, pk Ls b k = a ∧ a < k ∧ a ≠ b ∧ Dm Ls a b) ∧ (d < k → pk Ls b k = d)
  | 0 => ⟨fun _ => .inl rfl, fun h => by omega⟩
  | k + 1 => by
    obtain ⟨i1, i2⟩ := pk_some hg h k
    have hdb : d ≠ b := fun e => h.ne (by rw [e])
    refine ⟨fun hk => ?_, fun hk => ?_⟩
    · rw [pk]
      split
      · next hc => exact .inr ⟨k, rfl, by omega, hc.1, ovb_dm.1 hc.2.1⟩
      · rcases i1 (by omega) with q | ⟨a, q1, q2, q3⟩
        · exact .inl q
        · exact .inr ⟨a, q1, by omega, q3⟩
    · rw [pk]
      by_cases e : d = k
      · subst e
        rw [if_pos]
        refine ⟨hdb, ovb_dm.2 h.ov, ?_⟩
        rcases i1 (Nat.le_refl _) with q | ⟨a, q1, q2, q3, q4⟩
        · left; rw [q]; omega
        · right
          rw [q1]
          have := h.near a q4 (by omega)
          simpa using cnt_lt hg this (by omega)
      · rw [i2 (by omega), if_neg]
        rintro ⟨c1, c2, c3⟩
        have hk2 := h.near k (ovb_dm.1 c2) (by omega)
        have := cnt_lt hg hk2 (by omega)
        rcases c3 with c3 | c3
        · omega
        · simp at c3; omega
/-- It is the document's tree. -/
theorem treeP_doc {Ls : List (List Int)} (hg : goodP Ls = true) : treeP Ls = (List.range Ls.length).map fun b => pk Ls b Ls.length := by
  apply List.ext_getElem
  · rw [treeP_len hg]; simp
  · intro b h1 h2
    rw [treeP_len hg] at h1
    have e : (treeP Ls)[b] = gn (treeP Ls) b := by simp [gn, treeP_len hg, h1]
    rw [e]
    simp only [List.getElem_map, List.getElem_range]
    by_cases hm : (b : Int) ∈ (walkP Ls).bl ∧ b ≠ 0
    · have hI := treeP_some hg hm.1 hm.2
      have hr := (walkP_wi hg).rng _ hI.ov.1
      obtain ⟨d, hd⟩ : ∃ d : Nat, gn (treeP Ls) b = d := ⟨(gn (treeP Ls) b).toNat, by omega⟩
      rw [hd] at hI hr ⊢
      exact ((pk_some hg hI Ls.length).2 (by omega)).symm
    · rw [treeP_none hg h1 (by
        by_cases q : (b : Int) ∈ (walkP Ls).bl
        · right; exact Classical.byContradiction fun q2 => hm ⟨q, q2⟩
        · exact .inl q)]
      refine (pk_none (fun a ha => ?_) _).symm
      cases e : ovb Ls a b with
      | false => rfl
      | true =>
        have hd := ovb_dm.1 e
        have hb0 : b = 0 := Classical.byContradiction fun q2 => hm ⟨hd.2.1, q2⟩
        subst hb0
        exact absurd (woP_spec hg (out := a) (by omega)).1 hd.2.2
end Go.Proofs.Ythjjdfiaikibaaa
