set_option linter.unusedVariables false
set_option linter.unusedSimpArgs false
namespace Go.Proofs.Ythjjdfiaikibaaa

/-- A way of k inner places, each of which is as P says. -/
def Wk (E : Nat → Nat → Prop) (P : Nat → Prop) : Nat → Nat → Nat → Prop
  | 0, u, v => E u v
  | k + 1, u, v => ∃ x, E u x ∧ P x ∧ Wk E P k x v
theorem Wk.mono {E : Nat → Nat → Prop} {P Q : Nat → Prop} (h : ∀ x, P x → Q x) : ∀ {k u v}, Wk E P k u v → Wk E Q k u v
  | 0, _, _, w => w
  | _ + 1, _, _, ⟨x, h1, h2, h3⟩ => ⟨x, h1, h x h2, Wk.mono h h3⟩
theorem Wk.snoc {E : Nat → Nat → Prop} {P : Nat → Prop} : ∀ {k u v w}, Wk E P k u v → P v → E v w → Wk E P (k + 1) u w
  | 0, _, v, _, h, hp, he => ⟨v, h, hp, he⟩
  | _ + 1, _, _, _, ⟨x, h1, h2, h3⟩, hp, he => ⟨x, h1, h2, Wk.snoc h3 hp he⟩
theorem Wk.last {E : Nat → Nat → Prop} {P : Nat → Prop} : ∀ {k u w}, Wk E P (k + 1) u w → ∃ y, Wk E P k u y ∧ P y ∧ E y w
  | 0, _, _, ⟨x, h1, h2, h3⟩ => ⟨x, h1, h2, h3⟩
  | k + 1, _, _, ⟨x, h1, h2, h3⟩ => by
    obtain ⟨y, a, b, c⟩ := Wk.last (k := k) h3
    exact ⟨y, ⟨x, h1, h2, a⟩, b, c⟩
/-- The place k steps above. -/
def upk (p : Nat → Nat) : Nat → Nat → Nat
  | 0, v => v
  | k + 1, v => upk p k (p v)
def Anc (p : Nat → Nat) (a v : Nat) : Prop := ∃ k, upk p k v = a
theorem upk_add (p : Nat → Nat) : ∀ i j v, upk p (i + j) v = upk p j (upk p i v)
  | 0, j, v => by simp [upk]
  | i + 1, j, v => by
    rw [show i + 1 + j = (i + j) + 1 by omega, upk, upk, upk_add]
theorem upk_le {p : Nat → Nat} (hp : ∀ v, p v ≤ v) : ∀ k v, upk p k v ≤ v
  | 0, v => Nat.le_refl _
  | k + 1, v => Nat.le_trans (upk_le hp k (p v)) (hp v)
theorem Anc.refl (p : Nat → Nat) (v : Nat) : Anc p v v := ⟨0, rfl⟩
theorem Anc.trans {p : Nat → Nat} {a b c : Nat} (h : Anc p a b) (g : Anc p b c) : Anc p a c := by
  obtain ⟨i, rfl⟩ := g
  obtain ⟨j, rfl⟩ := h
  exact ⟨i + j, upk_add p i j c⟩
theorem Anc.le {p : Nat → Nat} (hp : ∀ v, p v ≤ v) {a v : Nat} (h : Anc p a v) : a ≤ v := by
  obtain ⟨k, rfl⟩ := h
  exact upk_le hp k v
theorem Anc.lin {p : Nat → Nat} (hp : ∀ v, p v ≤ v) {a b v : Nat} (h : Anc p a v) (g : Anc p b v) (hab : a ≤ b) : Anc p a b := by
  obtain ⟨i, rfl⟩ := h
  obtain ⟨j, rfl⟩ := g
  by_cases hij : j ≤ i
  · exact ⟨i - j, by rw [← upk_add, show j + (i - j) = i by omega]⟩
  · have e : upk p j v = upk p (j - i) (upk p i v) := by rw [← upk_add, show i + (j - i) = j by omega]
    have := upk_le hp (j - i) (upk p i v)
    rw [← e] at this
    have e2 : upk p i v = upk p j v := by omega
    exact ⟨0, e2.symm⟩
theorem Anc.up {p : Nat → Nat} {a v : Nat} (h : Anc p a v) (hne : a ≠ v) : Anc p a (p v) := by
  obtain ⟨k, rfl⟩ := h
  cases k with
  | zero => exact absurd rfl hne
  | succ k => exact ⟨k, rfl⟩
theorem Anc.par (p : Nat → Nat) (v : Nat) : Anc p (p v) v := ⟨1, rfl⟩
/-- A walk's order: p tells from where a place was met. -/
structure Dfs (n : Nat) (E : Nat → Nat → Prop) (p : Nat → Nat) : Prop where
  pl : ∀ v, p v ≤ v
  lt : ∀ v, 1 ≤ v → v < n → p v < v
  pe : ∀ v, 1 ≤ v → v < n → E (p v) v
  rg : ∀ u v, E u v → u < n ∧ v < n
  fw : ∀ u v, E u v → u < v → Anc p u v
  iv : ∀ a x v, v < n → Anc p a v → a ≤ x → x ≤ v → Anc p a x
theorem Dfs.zero {n E p} (h : Dfs n E p) : ∀ v, v < n → Anc p 0 v := by
  intro v
  induction v using Nat.strongRecOn with
  | ind v ih =>
    intro hv
    by_cases h0 : v = 0
    · subst h0; exact Anc.refl _ _
    · have := h.lt v (by omega) hv
      exact (ih (p v) this (by omega)).trans (Anc.par p v)
/-- Of a way either all inner places are greater than its end, or a part of it leads to a place above the end. -/
theorem Dfs.cutw {n E p} (h : Dfs n E p) (P : Nat → Prop) {y : Nat} (hy : y < n) : ∀ {k v}, Wk E P k v y → Wk E (fun x => P x ∧ y < x) k v y ∨ ∃ j z, j < k ∧ P z ∧ Anc p z y ∧ Wk E P j v z
  | 0, v, w => .inl w
  | k + 1, v, ⟨x, h1, h2, h3⟩ => by
    rcases h.cutw P hy h3 with g | ⟨j, z, g1, g2, g3, g4⟩
    · by_cases hx : y < x
      · exact .inl ⟨x, h1, ⟨h2, hx⟩, g⟩
      · right
        refine ⟨0, x, by omega, h2, ?_, h1⟩
        by_cases he : x = y
        · subst he; exact Anc.refl _ _
        · have hnx : ∃ x', E x x' ∧ y ≤ x' := by
            cases k with
            | zero => exact ⟨y, g, Nat.le_refl _⟩
            | succ k => obtain ⟨x', q1, q2, _⟩ := g; exact ⟨x', q1, by omega⟩
          obtain ⟨x', q1, q2⟩ := hnx
          exact h.iv x y x' (h.rg _ _ q1).2 (h.fw _ _ q1 (by omega)) (by omega) q2
    · exact .inr ⟨j + 1, z, by omega, g2, g3, x, h1, h2, g4⟩
/-- A way from v to w whose inner places are all greater than w. -/
def Sp (E : Nat → Nat → Prop) (v w : Nat) : Prop := ∃ k, Wk E (fun x => w < x) k v w
theorem Dfs.meets {n E p} (h : Dfs n E p) (P : Nat → Prop) : ∀ (k : Nat) {v y}, y < n → P y → Wk E P k v y → ∃ u, Anc p u y ∧ P u ∧ Sp E v u := by
  intro k
  induction k using Nat.strongRecOn with
  | ind k ih =>
    intro v y hy hP w
    rcases h.cutw P hy w with g | ⟨j, z, g1, g2, g3, g4⟩
    · exact ⟨y, Anc.refl _ _, hP, k, g.mono fun x hx => hx.2⟩
    · obtain ⟨u, u1, u2, u3⟩ := ih j g1 (Nat.lt_of_le_of_lt (g3.le h.pl) hy) g2 g4
      exact ⟨u, u1.trans g3, u2, u3⟩
/-- A place's least one from which such a way leads to it. -/
structure Semi (n : Nat) (E : Nat → Nat → Prop) (sd : Nat → Nat) : Prop where
  sp : ∀ w, 1 ≤ w → w < n → Sp E (sd w) w
  le : ∀ v w, 1 ≤ w → w < n → Sp E v w → sd w ≤ v
theorem Semi.lt {n E p sd} (h : Dfs n E p) (s : Semi n E sd) {w : Nat} (h1 : 1 ≤ w) (h2 : w < n) : sd w < w :=
  Nat.lt_of_le_of_lt (s.le (p w) w h1 h2 ⟨0, h.pe w h1 h2⟩) (h.lt w h1 h2)
theorem Semi.anc {n E p sd} (h : Dfs n E p) (s : Semi n E sd) {w : Nat} (h1 : 1 ≤ w) (h2 : w < n) : Anc p (sd w) w := by
  have hl := s.lt h h1 h2
  obtain ⟨k, g⟩ := s.sp w h1 h2
  have hnx : ∃ x', E (sd w) x' ∧ w ≤ x' := by
    cases k with
    | zero => exact ⟨w, g, Nat.le_refl _⟩
    | succ k => obtain ⟨x', q1, q2, _⟩ := g; exact ⟨x', q1, by omega⟩
  obtain ⟨x', q1, q2⟩ := hnx
  exact h.iv _ w x' (h.rg _ _ q1).2 (h.fw _ _ q1 (by omega)) (by omega) q2
/-- w is met from 0 without a. -/
def Av (E : Nat → Nat → Prop) (a w : Nat) : Prop := a ≠ 0 ∧ (w = 0 ∨ (w ≠ a ∧ ∃ k, Wk E (fun x => x ≠ a) k 0 w))
theorem Av.ne {E a w} (h : Av E a w) : w ≠ a := by
  rcases h.2 with rfl | h2
  · exact fun e => h.1 e.symm
  · exact h2.1
theorem Av.more {E : Nat → Nat → Prop} {a v w : Nat} (h : Av E a v) (he : E v w) (hne : w ≠ a) : Av E a w := by
  refine ⟨h.1, .inr ⟨hne, ?_⟩⟩
  rcases h.2 with rfl | ⟨h1, k, h2⟩
  · exact ⟨0, he⟩
  · exact ⟨k + 1, h2.snoc h1 he⟩
theorem Av.way {E : Nat → Nat → Prop} {a : Nat} {P : Nat → Prop} (hP : ∀ x, P x → x ≠ a) : ∀ {k v w}, Av E a v → Wk E P k v w → w ≠ a → Av E a w
  | 0, _, _, h, g, hw => h.more g hw
  | _ + 1, _, _, h, ⟨x, h1, h2, h3⟩, hw => Av.way hP (h.more h1 (hP x h2)) h3 hw
theorem Av.down {n E p} (h : Dfs n E p) {a u : Nat} : ∀ (k : Nat) {v : Nat}, v < n → upk p k v = u → Av E a u → (∀ x, Anc p u x → Anc p x v → x ≠ u → x ≠ a) → Av E a v
  | 0, v, _, e, g, _ => by
    have e : v = u := e
    subst e; exact g
  | k + 1, v, hv, e, g, hx => by
    by_cases h0 : v = u
    · subst h0; exact g
    by_cases hz : v = 0
    · subst hz; exact ⟨g.1, .inl rfl⟩
    have hl := h.lt v (by omega) hv
    have i := Av.down h k (v := p v) (by omega) e g fun x h1 h2 h3 => hx x h1 (h2.trans (Anc.par p v)) h3
    exact i.more (h.pe v (by omega) hv) (hx v ⟨k + 1, e⟩ (Anc.refl _ _) h0)
theorem Av.tree {n E p} (h : Dfs n E p) {a u v : Nat} (hv : v < n) (huv : Anc p u v) (g : Av E a u) (hx : ∀ x, Anc p u x → Anc p x v → x ≠ u → x ≠ a) : Av E a v := by
  obtain ⟨k, e⟩ := huv
  exact Av.down h k hv e g hx
/-- What is not above is not needed. -/
theorem Av.aside {n E p} (h : Dfs n E p) {a v : Nat} (hv : v < n) (hn : ¬ Anc p a v) : Av E a v :=
  Av.tree h hv (h.zero v hv) ⟨fun e => hn (e ▸ h.zero v hv), .inl rfl⟩ fun x _ h2 _ e => hn (e ▸ h2)
/-- What is over a place lies above its semidominator. -/
theorem over_semi {n E p sd} (h : Dfs n E p) (s : Semi n E sd) {a w : Nat} (h1 : 1 ≤ w) (h2 : w < n) (hd : ¬ Av E a w) (hne : a ≠ w) : Anc p a (sd w) := by
  apply Classical.byContradiction
  intro hn
  have hl := s.lt h h1 h2
  have g := Av.aside h (by omega) hn
  have haw : Anc p a w := Classical.byContradiction fun q => hd (Av.aside h h2 q)
  have := haw.le h.pl
  obtain ⟨k, w1⟩ := s.sp w h1 h2
  exact hd (g.way (fun x (hx : w < x) => by omega) w1 (by omega))
/-- And over all between. -/
theorem over_mid {n E p} (h : Dfs n E p) {a v w : Nat} (h2 : w < n) (hd : ¬ Av E a w) (hav : Anc p a v) (hvw : Anc p v w) : ¬ Av E a v := by
  intro g
  have hle := hav.le h.pl
  have hne := g.ne
  refine hd (Av.tree h h2 hvw g fun x h3 _ h5 => ?_)
  have := h3.le h.pl
  omega
/-- A way that leaves a out: from a place ahead of a on all are behind it. -/
theorem Wk.behind {E : Nat → Nat → Prop} {a w : Nat} : ∀ {k u}, Wk E (fun x => x ≠ a) k u w → Wk E (fun x => a < x) k u w ∨ ∃ x j, x < a ∧ Wk E (fun x => a < x) j x w
  | 0, _, g => .inl g
  | k + 1, u, ⟨x, h1, h2, h3⟩ => by
    rcases Wk.behind h3 with g | g
    · by_cases hx : a < x
      · exact .inl ⟨x, h1, hx, g⟩
      · exact .inr ⟨x, k, by omega, g⟩
    · exact .inr g
/-- If a place a above w is not over it, then a place between is met from ahead of a. -/
theorem past {n E p} (h : Dfs n E p) {a w : Nat} (h2 : w < n) (haw : a < w) (g : Av E a w) : ∃ x y, x < a ∧ Anc p y w ∧ a < y ∧ Sp E x y := by
  obtain ⟨h0, g⟩ := g
  rcases g with rfl | ⟨_, k, g⟩
  · omega
  · rcases g.behind with g | ⟨x, j, hx, g⟩
    · obtain ⟨y, y1, y2, y3⟩ := h.meets _ k h2 haw g
      exact ⟨0, y, by omega, y1, y2, y3⟩
    · obtain ⟨y, y1, y2, y3⟩ := h.meets _ j h2 haw g
      exact ⟨x, y, hx, y1, y2, y3⟩
/-- The immediate dominator. -/
structure Imm (n : Nat) (E : Nat → Nat → Prop) (d w : Nat) : Prop where
  ne : d < w
  ov : ¬ Av E d w
  near : ∀ a, a ≠ w → ¬ Av E a w → ¬ Av E a d
/-- No place between has a lesser one: then the semidominator is it. -/
theorem imm_semi {n E p sd} (h : Dfs n E p) (s : Semi n E sd) {w : Nat} (h1 : 1 ≤ w) (h2 : w < n) (hm : ∀ u, Anc p u w → sd w < u → sd w ≤ sd u) : Imm n E (sd w) w := by
  have hl := s.lt h h1 h2
  refine ⟨hl, fun g => ?_, fun a hne hd => ?_⟩
  · obtain ⟨x, y, y1, y2, y3, y4⟩ := past h h2 hl g
    have := hm y y2 y3
    have hy := y2.le h.pl
    have := s.le x y (by omega) (by omega) y4
    omega
  · exact over_mid h h2 hd (over_semi h s h1 h2 hd hne) (s.anc h h1 h2)
/-- Else it is the one of the place between with the least. -/
theorem imm_between {n E p sd} (h : Dfs n E p) (s : Semi n E sd) {w u d : Nat} (h1 : 1 ≤ w) (h2 : w < n) (hu : Anc p u w) (hsu : sd w < u) (hm : ∀ x, Anc p x w → sd w < x → sd u ≤ sd x) (hd : Imm n E d u) : Imm n E d w := by
  have hule := hu.le h.pl
  have hsa := s.anc h h1 h2
  have hsu' : Anc p (sd w) u := hsa.lin h.pl hu (by omega)
  refine ⟨by have := hd.ne; omega, fun g => ?_, fun a hne hda => ?_⟩
  · have hdu := over_semi h s (by omega) (by omega) hd.ov (by have := hd.ne; omega)
    have hdl := hdu.le h.pl
    have hdw : d < w := by have := hd.ne; omega
    obtain ⟨x, y, y1, y2, y3, y4⟩ := past h h2 hdw g
    have hyw := y2.le h.pl
    have hxy := s.le x y (by omega) (by omega) y4
    have hys : y ≤ sd w := by
      by_cases hc : sd w < y
      · have := hm y y2 hc; omega
      · omega
    have hyu : Anc p y u := y2.lin h.pl hu (by omega)
    have hu2 : u < n := by omega
    have a1 : Av E d x := Av.aside h (by omega) fun q => by have := q.le h.pl; omega
    obtain ⟨k, y4⟩ := y4
    have a2 : Av E d y := a1.way (fun z (hz : y < z) => by omega) y4 (by omega)
    exact hd.ov (Av.tree h hu2 hyu a2 fun z h3 _ h5 => by have := h3.le h.pl; omega)
  · have has := over_semi h s h1 h2 hda hne
    have hal := has.le h.pl
    exact hd.near a (by omega) (over_mid h h2 hda (has.trans hsu') hu)
/-- How it is found: of what is right ahead, and of what was found behind. -/
theorem semi_found {n E p sd} (h : Dfs n E p) (s : Semi n E sd) {w m : Nat} (h1 : 1 ≤ w) (h2 : w < n) (hm : Sp E m w ∨ m = w) (hmw : m ≤ w)
    (hb : ∀ v, E v w → (v < w → m ≤ v) ∧ (w < v → ∀ u, Anc p u v → w < u → m ≤ sd u)) : m = sd w := by
  have e1 : m ≤ sd w := by
    obtain ⟨k, g⟩ := s.sp w h1 h2
    have hl := s.lt h h1 h2
    cases k with
    | zero => exact (hb _ g).1 hl
    | succ k =>
      obtain ⟨y, g1, g2, g3⟩ := g.last
      have hy := (h.rg _ _ g3).1
      obtain ⟨u, u1, u2, u3⟩ := h.meets (fun x => w < x) k hy g2 g1
      have := (hb y g3).2 g2 u u1 u2
      have hul := u1.le h.pl
      have := s.le _ u (by omega) (by omega) u3
      omega
  have e2 : sd w ≤ m := by
    rcases hm with hm | hm
    · exact s.le m w h1 h2 hm
    · have := (hb _ (h.pe w h1 h2)).1 (h.lt w h1 h2)
      have := h.lt w h1 h2
      omega
  omega
theorem sp_far {n E p sd} (h : Dfs n E p) (s : Semi n E sd) {w v u : Nat} (hv : E v w) (hu : Anc p u v) (hwu : w < u) : Sp E (sd u) w := by
  have hv' := (h.rg _ _ hv).1
  have hul := hu.le h.pl
  obtain ⟨k, g⟩ := s.sp u (by omega) (by omega)
  have key : ∀ (j : Nat) (x : Nat), x < n → upk p j x = u → ∃ k, Wk E (fun z => w < z) k (sd u) x := by
    intro j
    induction j with
    | zero =>
      intro x _ e
      have e : x = u := e
      subst e
      exact ⟨k, g.mono fun z (hz : x < z) => by omega⟩
    | succ j ih =>
      intro x hx e
      by_cases h0 : x = u
      · subst h0; exact ⟨k, g.mono fun z (hz : x < z) => by omega⟩
      have hux : u ≤ x := Anc.le h.pl ⟨j + 1, e⟩
      have hpx := h.lt x (by omega) hx
      obtain ⟨i, gi⟩ := ih (p x) (by omega) e
      have hup : u ≤ p x := Anc.le h.pl ⟨j, e⟩
      exact ⟨i + 1, gi.snoc (by omega) (h.pe x (by omega) hx)⟩
  obtain ⟨j, e⟩ := hu
  obtain ⟨i, gi⟩ := key j v hv' e
  exact ⟨i + 1, gi.snoc (by omega) hv⟩
theorem least_of (P : Nat → Prop) : ∀ m, P m → ∃ k, P k ∧ ∀ j, P j → k ≤ j := by
  intro m
  induction m using Nat.strongRecOn with
  | ind m ih =>
    intro hm
    by_cases h : ∃ j, j < m ∧ P j
    · obtain ⟨j, h1, h2⟩ := h
      exact ih j h1 h2
    · exact ⟨m, hm, fun j hj => by
        apply Classical.byContradiction
        intro hc
        exact h ⟨j, by omega, hj⟩⟩
theorem semi_is {n E p} (h : Dfs n E p) : ∃ sd, Semi n E sd := by
  have key : ∀ w, ∃ k, 1 ≤ w → w < n → Sp E k w ∧ ∀ j, Sp E j w → k ≤ j := by
    intro w
    by_cases hw : 1 ≤ w ∧ w < n
    · obtain ⟨k, h1, h2⟩ := least_of (fun v => Sp E v w) (p w) ⟨0, h.pe w hw.1 hw.2⟩
      exact ⟨k, fun _ _ => ⟨h1, h2⟩⟩
    · exact ⟨0, fun h1 h2 => absurd ⟨h1, h2⟩ hw⟩
  refine ⟨fun w => Classical.choose (key w), fun w h1 h2 => (Classical.choose_spec (key w) h1 h2).1, fun v w h1 h2 g => (Classical.choose_spec (key w) h1 h2).2 v g⟩
end Go.Proofs.Ythjjdfiaikibaaa
