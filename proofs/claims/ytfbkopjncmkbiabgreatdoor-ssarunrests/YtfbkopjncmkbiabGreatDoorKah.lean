import Derived.Test.YtfbkopjncmkbiabGreatDoorKag
set_option linter.unusedVariables false
set_option linter.unusedSimpArgs false
namespace Go.Proofs.YtfbkopjncmkbiabGreatDoor
def Wk (E : Nat -> Nat -> Prop) (P : Nat -> Prop) : Nat -> Nat -> Nat -> Prop
 | 0, u, v => E u v
 | k + 1, u, v => ∃ x, E u x /\ P x /\ Wk E P k x v
theorem Wk.mono {E : Nat -> Nat -> Prop} {P Q : Nat -> Prop} (h : ∀ x, P x -> Q x) : ∀ {k u v}, Wk E P k u v -> Wk E Q k u v
 | 0, _, _, w => w
 | _ + 1, _, _, ⟨x, h1, h2, h3⟩ => ⟨x, h1, h x h2, Wk.mono h h3⟩
theorem Wk.snoc {E : Nat -> Nat -> Prop} {P : Nat -> Prop} : ∀ {k u v w}, Wk E P k u v -> P v -> E v w -> Wk E P (k + 1) u w
 | 0, _, v, _, h, hp, he => ⟨v, h, hp, he⟩
 | _ + 1, _, _, _, ⟨x, h1, h2, h3⟩, hp, he => ⟨x, h1, h2, Wk.snoc h3 hp he⟩
theorem Wk.last {E : Nat -> Nat -> Prop} {P : Nat -> Prop} : ∀ {k u w}, Wk E P (k + 1) u w -> ∃ y, Wk E P k u y /\ P y /\ E y w
 | 0, _, _, ⟨x, h1, h2, h3⟩ => ⟨x, h1, h2, h3⟩
 | k + 1, _, _, ⟨x, h1, h2, h3⟩ => by
   obtain ⟨y, a, b, c⟩ := Wk.last (k := k) h3
   exact ⟨y, ⟨x, h1, h2, a⟩, b, c⟩
def upk (p : Nat -> Nat) : Nat -> Nat -> Nat
 | 0, v => v
 | k + 1, v => upk p k (p v)
def Anc (p : Nat -> Nat) (a v : Nat) : Prop := ∃ k, upk p k v = a
theorem upk_add (p : Nat -> Nat) : ∀ i j v, upk p (i + j) v = upk p j (upk p i v)
 | 0, j, v => by simp [upk]
 | i + 1, j, v => by
   rw [show i + 1 + j = (i + j) + 1 by omega, upk, upk, upk_add]
theorem upk_le {p : Nat -> Nat} (hp : ∀ v, p v <= v) : ∀ k v, upk p k v <= v
 | 0, v => Nat.le_refl _
 | k + 1, v => Nat.le_trans (upk_le hp k (p v)) (hp v)
theorem Anc.refl (p : Nat -> Nat) (v : Nat) : Anc p v v := ⟨0, rfl⟩
theorem Anc.trans {p : Nat -> Nat} {a b c : Nat} (h : Anc p a b) (g : Anc p b c) : Anc p a c := by
 obtain ⟨i, rfl⟩ := g
 obtain ⟨j, rfl⟩ := h
 exact ⟨i + j, upk_add p i j c⟩
theorem Anc.le {p : Nat -> Nat} (hp : ∀ v, p v <= v) {a v : Nat} (h : Anc p a v) : a <= v := by
 obtain ⟨k, rfl⟩ := h
 exact upk_le hp k v
theorem Anc.lin {p : Nat -> Nat} (hp : ∀ v, p v <= v) {a b v : Nat} (h : Anc p a v) (g : Anc p b v) (hab : a <= b) : Anc p a b := by
 obtain ⟨i, rfl⟩ := h
 obtain ⟨j, rfl⟩ := g
 by_cases hij : j <= i
 ·exact ⟨i - j, by rw [<- upk_add, show j + (i - j) = i by omega]⟩
 ·have e : upk p j v = upk p (j - i) (upk p i v) := by rw [<- upk_add, show i + (j - i) = j by omega]
  have := upk_le hp (j - i) (upk p i v)
  rw [<- e] at this
  have e2 : upk p i v = upk p j v := by omega
  exact ⟨0, e2.symm⟩
theorem Anc.up {p : Nat -> Nat} {a v : Nat} (h : Anc p a v) (hne : a ≠ v) : Anc p a (p v) := by
 obtain ⟨k, rfl⟩ := h
 cases k with
 | zero => exact absurd rfl hne
 | succ k => exact ⟨k, rfl⟩
theorem Anc.par (p : Nat -> Nat) (v : Nat) : Anc p (p v) v := ⟨1, rfl⟩
structure Dfs (n : Nat) (E : Nat -> Nat -> Prop) (p : Nat -> Nat) : Prop where
 pl : ∀ v, p v <= v
 lt : ∀ v, 1 <= v -> v < n -> p v < v
 pe : ∀ v, 1 <= v -> v < n -> E (p v) v
 rg : ∀ u v, E u v -> u < n /\ v < n
 fw : ∀ u v, E u v -> u < v -> Anc p u v
 iv : ∀ a x v, v < n -> Anc p a v -> a <= x -> x <= v -> Anc p a x
theorem Dfs.zero {n E p} (h : Dfs n E p) : ∀ v, v < n -> Anc p 0 v := by
 intro v
 induction v using Nat.strongRecOn with
 | ind v ih =>
   intro hv
   by_cases h0 : v = 0
   ·subst h0; exact Anc.refl _ _
   ·have := h.lt v (by omega) hv
    exact (ih (p v) this (by omega)).trans (Anc.par p v)
theorem Dfs.cutw {n E p} (h : Dfs n E p) (P : Nat -> Prop) {y : Nat} (hy : y < n) : ∀ {k v}, Wk E P k v y -> Wk E (fun x => P x /\ y < x) k v y \/ ∃ j z, j < k /\ P z /\ Anc p z y /\ Wk E P j v z
 | 0, v, w => .inl w
 | k + 1, v, ⟨x, h1, h2, h3⟩ => by
   rcases h.cutw P hy h3 with g | ⟨j, z, g1, g2, g3, g4⟩
   ·by_cases hx : y < x
    ·exact .inl ⟨x, h1, ⟨h2, hx⟩, g⟩
    ·right
     refine ⟨0, x, by omega, h2, ?_, h1⟩
     by_cases he : x = y
     ·subst he; exact Anc.refl _ _
     ·have hnx : ∃ x', E x x' /\ y <= x' := by
       cases k with
       | zero => exact ⟨y, g, Nat.le_refl _⟩
       | succ k => obtain ⟨x', q1, q2, _⟩ := g; exact ⟨x', q1, by omega⟩
      obtain ⟨x', q1, q2⟩ := hnx
      exact h.iv x y x' (h.rg _ _ q1).2 (h.fw _ _ q1 (by omega)) (by omega) q2
   ·exact .inr ⟨j + 1, z, by omega, g2, g3, x, h1, h2, g4⟩
def Sp (E : Nat -> Nat -> Prop) (v w : Nat) : Prop := ∃ k, Wk E (fun x => w < x) k v w
theorem Dfs.meets {n E p} (h : Dfs n E p) (P : Nat -> Prop) : ∀ (k : Nat) {v y}, y < n -> P y -> Wk E P k v y -> ∃ u, Anc p u y /\ P u /\ Sp E v u := by
 intro k
 induction k using Nat.strongRecOn with
 | ind k ih =>
   intro v y hy hP w
   rcases h.cutw P hy w with g | ⟨j, z, g1, g2, g3, g4⟩
   ·exact ⟨y, Anc.refl _ _, hP, k, g.mono fun x hx => hx.2⟩
   ·obtain ⟨u, u1, u2, u3⟩ := ih j g1 (Nat.lt_of_le_of_lt (g3.le h.pl) hy) g2 g4
    exact ⟨u, u1.trans g3, u2, u3⟩
structure Semi (n : Nat) (E : Nat -> Nat -> Prop) (sd : Nat -> Nat) : Prop where
 sp : ∀ w, 1 <= w -> w < n -> Sp E (sd w) w
 le : ∀ v w, 1 <= w -> w < n -> Sp E v w -> sd w <= v
theorem Semi.lt {n E p sd} (h : Dfs n E p) (s : Semi n E sd) {w : Nat} (h1 : 1 <= w) (h2 : w < n) : sd w < w :=
 Nat.lt_of_le_of_lt (s.le (p w) w h1 h2 ⟨0, h.pe w h1 h2⟩) (h.lt w h1 h2)
theorem Semi.anc {n E p sd} (h : Dfs n E p) (s : Semi n E sd) {w : Nat} (h1 : 1 <= w) (h2 : w < n) : Anc p (sd w) w := by
 have hl := s.lt h h1 h2
 obtain ⟨k, g⟩ := s.sp w h1 h2
 have hnx : ∃ x', E (sd w) x' /\ w <= x' := by
  cases k with
  | zero => exact ⟨w, g, Nat.le_refl _⟩
  | succ k => obtain ⟨x', q1, q2, _⟩ := g; exact ⟨x', q1, by omega⟩
 obtain ⟨x', q1, q2⟩ := hnx
 exact h.iv _ w x' (h.rg _ _ q1).2 (h.fw _ _ q1 (by omega)) (by omega) q2
def Av (E : Nat -> Nat -> Prop) (a w : Nat) : Prop := a ≠ 0 /\ (w = 0 \/ (w ≠ a /\ ∃ k, Wk E (fun x => x ≠ a) k 0 w))
theorem Av.ne {E a w} (h : Av E a w) : w ≠ a := by
 rcases h.2 with rfl | h2
 ·exact fun e => h.1 e.symm
 ·exact h2.1
theorem Av.more {E : Nat -> Nat -> Prop} {a v w : Nat} (h : Av E a v) (he : E v w) (hne : w ≠ a) : Av E a w := by
 refine ⟨h.1, .inr ⟨hne, ?_⟩⟩
 rcases h.2 with rfl | ⟨h1, k, h2⟩
 ·exact ⟨0, he⟩
 ·exact ⟨k + 1, h2.snoc h1 he⟩
theorem Av.way {E : Nat -> Nat -> Prop} {a : Nat} {P : Nat -> Prop} (hP : ∀ x, P x -> x ≠ a) : ∀ {k v w}, Av E a v -> Wk E P k v w -> w ≠ a -> Av E a w
 | 0, _, _, h, g, hw => h.more g hw
 | _ + 1, _, _, h, ⟨x, h1, h2, h3⟩, hw => Av.way hP (h.more h1 (hP x h2)) h3 hw
theorem Av.down {n E p} (h : Dfs n E p) {a u : Nat} : ∀ (k : Nat) {v : Nat}, v < n -> upk p k v = u -> Av E a u -> (∀ x, Anc p u x -> Anc p x v -> x ≠ u -> x ≠ a) -> Av E a v
 | 0, v, _, e, g, _ => by
   have e : v = u := e
   subst e; exact g
 | k + 1, v, hv, e, g, hx => by
   by_cases h0 : v = u
   ·subst h0; exact g
   by_cases hz : v = 0
   ·subst hz; exact ⟨g.1, .inl rfl⟩
   have hl := h.lt v (by omega) hv
   have i := Av.down h k (v := p v) (by omega) e g fun x h1 h2 h3 => hx x h1 (h2.trans (Anc.par p v)) h3
   exact i.more (h.pe v (by omega) hv) (hx v ⟨k + 1, e⟩ (Anc.refl _ _) h0)
theorem Av.tree {n E p} (h : Dfs n E p) {a u v : Nat} (hv : v < n) (huv : Anc p u v) (g : Av E a u) (hx : ∀ x, Anc p u x -> Anc p x v -> x ≠ u -> x ≠ a) : Av E a v := by
 obtain ⟨k, e⟩ := huv
 exact Av.down h k hv e g hx
theorem Av.aside {n E p} (h : Dfs n E p) {a v : Nat} (hv : v < n) (hn : ¬ Anc p a v) : Av E a v :=
 Av.tree h hv (h.zero v hv) ⟨fun e => hn (e ▸ h.zero v hv), .inl rfl⟩ fun x _ h2 _ e => hn (e ▸ h2)
theorem over_semi {n E p sd} (h : Dfs n E p) (s : Semi n E sd) {a w : Nat} (h1 : 1 <= w) (h2 : w < n) (hd : ¬ Av E a w) (hne : a ≠ w) : Anc p a (sd w) := by
 apply Classical.byContradiction
 intro hn
 have hl := s.lt h h1 h2
 have g := Av.aside h (by omega) hn
 have haw : Anc p a w := Classical.byContradiction fun q => hd (Av.aside h h2 q)
 have := haw.le h.pl
 obtain ⟨k, w1⟩ := s.sp w h1 h2
 exact hd (g.way (fun x (hx : w < x) => by omega) w1 (by omega))
theorem over_mid {n E p} (h : Dfs n E p) {a v w : Nat} (h2 : w < n) (hd : ¬ Av E a w) (hav : Anc p a v) (hvw : Anc p v w) : ¬ Av E a v := by
 intro g
 have hle := hav.le h.pl
 have hne := g.ne
 refine hd (Av.tree h h2 hvw g fun x h3 _ h5 => ?_)
 have := h3.le h.pl
 omega
theorem Wk.behind {E : Nat -> Nat -> Prop} {a w : Nat} : ∀ {k u}, Wk E (fun x => x ≠ a) k u w -> Wk E (fun x => a < x) k u w \/ ∃ x j, x < a /\ Wk E (fun x => a < x) j x w
 | 0, _, g => .inl g
 | k + 1, u, ⟨x, h1, h2, h3⟩ => by
   rcases Wk.behind h3 with g | g
   ·by_cases hx : a < x
    ·exact .inl ⟨x, h1, hx, g⟩
    ·exact .inr ⟨x, k, by omega, g⟩
   ·exact .inr g
theorem past {n E p} (h : Dfs n E p) {a w : Nat} (h2 : w < n) (haw : a < w) (g : Av E a w) : ∃ x y, x < a /\ Anc p y w /\ a < y /\ Sp E x y := by
 obtain ⟨h0, g⟩ := g
 rcases g with rfl | ⟨_, k, g⟩
 ·omega
 ·rcases g.behind with g | ⟨x, j, hx, g⟩
  ·obtain ⟨y, y1, y2, y3⟩ := h.meets _ k h2 haw g
   exact ⟨0, y, by omega, y1, y2, y3⟩
  ·obtain ⟨y, y1, y2, y3⟩ := h.meets _ j h2 haw g
   exact ⟨x, y, hx, y1, y2, y3⟩
structure Imm (n : Nat) (E : Nat -> Nat -> Prop) (d w : Nat) : Prop where
 ne : d < w
 ov : ¬ Av E d w
 near : ∀ a, a ≠ w -> ¬ Av E a w -> ¬ Av E a d
theorem imm_semi {n E p sd} (h : Dfs n E p) (s : Semi n E sd) {w : Nat} (h1 : 1 <= w) (h2 : w < n) (hm : ∀ u, Anc p u w -> sd w < u -> sd w <= sd u) : Imm n E (sd w) w := by
 have hl := s.lt h h1 h2
 refine ⟨hl, fun g => ?_, fun a hne hd => ?_⟩
 ·obtain ⟨x, y, y1, y2, y3, y4⟩ := past h h2 hl g
  have := hm y y2 y3
  have hy := y2.le h.pl
  have := s.le x y (by omega) (by omega) y4
  omega
 ·exact over_mid h h2 hd (over_semi h s h1 h2 hd hne) (s.anc h h1 h2)
theorem imm_between {n E p sd} (h : Dfs n E p) (s : Semi n E sd) {w u d : Nat} (h1 : 1 <= w) (h2 : w < n) (hu : Anc p u w) (hsu : sd w < u) (hm : ∀ x, Anc p x w -> sd w < x -> sd u <= sd x) (hd : Imm n E d u) : Imm n E d w := by
 have hule := hu.le h.pl
 have hsa := s.anc h h1 h2
 have hsu' : Anc p (sd w) u := hsa.lin h.pl hu (by omega)
 refine ⟨by have := hd.ne; omega, fun g => ?_, fun a hne hda => ?_⟩
 ·have hdu := over_semi h s (by omega) (by omega) hd.ov (by have := hd.ne; omega)
  have hdl := hdu.le h.pl
  have hdw : d < w := by have := hd.ne; omega
  obtain ⟨x, y, y1, y2, y3, y4⟩ := past h h2 hdw g
  have hyw := y2.le h.pl
  have hxy := s.le x y (by omega) (by omega) y4
  have hys : y <= sd w := by
   by_cases hc : sd w < y
   ·have := hm y y2 hc; omega
   ·omega
  have hyu : Anc p y u := y2.lin h.pl hu (by omega)
  have hu2 : u < n := by omega
  have a1 : Av E d x := Av.aside h (by omega) fun q => by have := q.le h.pl; omega
  obtain ⟨k, y4⟩ := y4
  have a2 : Av E d y := a1.way (fun z (hz : y < z) => by omega) y4 (by omega)
  exact hd.ov (Av.tree h hu2 hyu a2 fun z h3 _ h5 => by have := h3.le h.pl; omega)
 ·have has := over_semi h s h1 h2 hda hne
  have hal := has.le h.pl
  exact hd.near a (by omega) (over_mid h h2 hda (has.trans hsu') hu)
theorem semi_found {n E p sd} (h : Dfs n E p) (s : Semi n E sd) {w m : Nat} (h1 : 1 <= w) (h2 : w < n) (hm : Sp E m w \/ m = w) (hmw : m <= w)
 (hb : ∀ v, E v w -> (v < w -> m <= v) /\ (w < v -> ∀ u, Anc p u v -> w < u -> m <= sd u)) : m = sd w := by
 have e1 : m <= sd w := by
  obtain ⟨k, g⟩ := s.sp w h1 h2
  have hl := s.lt h h1 h2
  cases k with
  | zero => exact (hb _ g).1 hl
  | succ k =>
    obtain ⟨y, g1, g2, g3⟩ := g.last
    have hy := (h.rg _ _ g3).1
    obtain ⟨u, u1, u2, u3⟩ := h.meets (fun x => w < x) k hy g2 g1
    have := (hb y g3).2 g2 u u1 u2
    have hul := u1.le h.pl
    have := s.le _ u (by omega) (by omega) u3
    omega
 have e2 : sd w <= m := by
  rcases hm with hm | hm
  ·exact s.le m w h1 h2 hm
  ·have := (hb _ (h.pe w h1 h2)).1 (h.lt w h1 h2)
   have := h.lt w h1 h2
   omega
 omega
theorem sp_far {n E p sd} (h : Dfs n E p) (s : Semi n E sd) {w v u : Nat} (hv : E v w) (hu : Anc p u v) (hwu : w < u) : Sp E (sd u) w := by
 have hv' := (h.rg _ _ hv).1
 have hul := hu.le h.pl
 obtain ⟨k, g⟩ := s.sp u (by omega) (by omega)
 have key : ∀ (j : Nat) (x : Nat), x < n -> upk p j x = u -> ∃ k, Wk E (fun z => w < z) k (sd u) x := by
  intro j
  induction j with
  | zero =>
    intro x _ e
    have e : x = u := e
    subst e
    exact ⟨k, g.mono fun z (hz : x < z) => by omega⟩
  | succ j ih =>
    intro x hx e
    by_cases h0 : x = u
    ·subst h0; exact ⟨k, g.mono fun z (hz : x < z) => by omega⟩
    have hux : u <= x := Anc.le h.pl ⟨j + 1, e⟩
    have hpx := h.lt x (by omega) hx
    obtain ⟨i, gi⟩ := ih (p x) (by omega) e
    have hup : u <= p x := Anc.le h.pl ⟨j, e⟩
    exact ⟨i + 1, gi.snoc (by omega) (h.pe x (by omega) hx)⟩
 obtain ⟨j, e⟩ := hu
 obtain ⟨i, gi⟩ := key j v hv' e
 exact ⟨i + 1, gi.snoc (by omega) hv⟩
theorem least_of (P : Nat -> Prop) : ∀ m, P m -> ∃ k, P k /\ ∀ j, P j -> k <= j := by
 intro m
 induction m using Nat.strongRecOn with
 | ind m ih =>
   intro hm
   by_cases h : ∃ j, j < m /\ P j
   ·obtain ⟨j, h1, h2⟩ := h
    exact ih j h1 h2
   ·exact ⟨m, hm, fun j hj => by
     apply Classical.byContradiction
     intro hc
     exact h ⟨j, by omega, hj⟩⟩
theorem semi_is {n E p} (h : Dfs n E p) : ∃ sd, Semi n E sd := by
 have key : ∀ w, ∃ k, 1 <= w -> w < n -> Sp E k w /\ ∀ j, Sp E j w -> k <= j := by
  intro w
  by_cases hw : 1 <= w /\ w < n
  ·obtain ⟨k, h1, h2⟩ := least_of (fun v => Sp E v w) (p w) ⟨0, h.pe w hw.1 hw.2⟩
   exact ⟨k, fun _ _ => ⟨h1, h2⟩⟩
  ·exact ⟨0, fun h1 h2 => absurd ⟨h1, h2⟩ hw⟩
 refine ⟨fun w => Classical.choose (key w), fun w h1 h2 => (Classical.choose_spec (key w) h1 h2).1, fun v w h1 h2 g => (Classical.choose_spec (key w) h1 h2).2 v g⟩
end Go.Proofs.YtfbkopjncmkbiabGreatDoor
namespace Go.Proofs.YtfbkopjncmkbiabGreatDoor
open Go.ChangeShapes Go.WideShapes Go.ChangeAt Go.RowKit Go.Maps
structure FQ (n : Nat) (p sd : Nat -> Nat) (t : Nat) (f : Fo) : Prop where
 up : ∀ x, x < n -> t < x -> 0 <= gn f.up x
 ua : ∀ x, x < n -> t < x -> Anc p (gn f.up x).toNat x /\ (gn f.up x).toNat < x
 ba : ∀ x, x < n -> t < x -> Anc p (gn f.best x).toNat x /\ (gn f.up x).toNat < (gn f.best x).toNat
 mn : ∀ x, x < n -> t < x -> ∀ u, Anc p u x -> (gn f.up x).toNat < u -> t < u /\ sd (gn f.best x).toNat <= sd u
 fr : ∀ x, x <= t -> x < n -> gn f.up x < 0
 fb : ∀ x, x <= t -> x < n -> gn f.best x = x
theorem FQ.stp {n p sd t f} {door : List Int} (hp : ∀ v, p v <= v) (h : FQ n p sd t f) (hf : FI n door f) (hd : ∀ x, x < n -> t < x -> gn door x = sd x) {low : Nat} (hl : low < n) (h1 : t < low) (h2 : t < (gn f.up low).toNat) : FQ n p sd t (stp door low f) := by
 obtain ⟨a1, a2⟩ := h.ua low hl h1
 obtain ⟨b1, b2⟩ := h.ba low hl h1
 have han : (gn f.up low).toNat < n := by omega
 obtain ⟨c1, c2⟩ := h.ua _ han h2
 obtain ⟨e1, e2⟩ := h.ba _ han h2
 have hbl := b1.le hp
 have hel := e1.le hp
 have hbd : gn door (gn f.best low).toNat = sd (gn f.best low).toNat := hd _ (by omega) (by omega)
 have hbt := (h.mn _ han h2 _ e1 e2).1
 have hed : gn door (gn f.best (gn f.up low).toNat).toNat = sd (gn f.best (gn f.up low).toNat).toNat := hd _ (by omega) hbt
 have hup : ∀ x, gn (Go.Proofs.YtfbkopjncmkbiabGreatDoor.stp door low f).up x = if x = low then gn f.up (gn f.up low).toNat else gn f.up x := fun x => gn_set (by rw [hf.lu]; exact hl)
 have hbo : ∀ x, x ≠ low -> gn (Go.Proofs.YtfbkopjncmkbiabGreatDoor.stp door low f).best x = gn f.best x := by
  intro x hx
  unfold Go.Proofs.YtfbkopjncmkbiabGreatDoor.stp
  simp only
  split
  ·rw [gn_set (by rw [hf.lb]; exact hl), if_neg hx]
  ·rfl
 have hbi : (gn (Go.Proofs.YtfbkopjncmkbiabGreatDoor.stp door low f).best low = gn f.best (gn f.up low).toNat /\ sd (gn f.best (gn f.up low).toNat).toNat <= sd (gn f.best low).toNat) \/ (gn (Go.Proofs.YtfbkopjncmkbiabGreatDoor.stp door low f).best low = gn f.best low /\ sd (gn f.best low).toNat <= sd (gn f.best (gn f.up low).toNat).toNat) := by
  unfold Go.Proofs.YtfbkopjncmkbiabGreatDoor.stp
  simp only
  split
  ·next hc => left; rw [gn_set (by rw [hf.lb]; exact hl), if_pos rfl]; exact ⟨rfl, by omega⟩
  ·next hc => right; exact ⟨rfl, by omega⟩
 refine ⟨fun x hx ht => ?_, fun x hx ht => ?_, fun x hx ht => ?_, fun x hx ht u hu hlt => ?_, fun x hx hn => ?_, fun x hx hn => by rw [hbo x (by omega)]; exact h.fb x hx hn⟩
 ·rw [hup]; split
  ·exact h.up _ han h2
  ·exact h.up x hx ht
 ·rw [hup]; split
  ·next e => subst e; exact ⟨c1.trans a1, by omega⟩
  ·exact h.ua x hx ht
 ·by_cases e : x = low
  ·subst e
   rw [hup, if_pos rfl]
   rcases hbi with ⟨q1, q2⟩ | ⟨q1, q2⟩
   ·rw [q1]; exact ⟨e1.trans a1, e2⟩
   ·rw [q1]; exact ⟨b1, by omega⟩
  ·rw [hup, if_neg e, hbo x e]; exact h.ba x hx ht
 ·by_cases e : x = low
  ·subst e
   rw [hup, if_pos rfl] at hlt
   have key : t < u /\ (sd (gn f.best (gn f.up x).toNat).toNat <= sd u \/ sd (gn f.best x).toNat <= sd u) := by
    by_cases hc : (gn f.up x).toNat < u
    ·have := h.mn x hx ht u hu hc; exact ⟨this.1, .inr this.2⟩
    ·have := h.mn _ han h2 u (hu.lin hp a1 (by omega)) hlt; exact ⟨this.1, .inl this.2⟩
   refine ⟨key.1, ?_⟩
   rcases hbi with ⟨q1, q2⟩ | ⟨q1, q2⟩ <;> rw [q1] <;> rcases key.2 with k | k <;> omega
  ·rw [hup, if_neg e] at hlt
   rw [hbo x e]; exact h.mn x hx ht u hu hlt
 ·rw [hup]; split
  ·next e => omega
  ·exact h.fr x hx hn
theorem FQ.fold {n p sd t f} {door : List Int} (hp : ∀ v, p v <= v) (h : FQ n p sd t f) (hf : FI n door f) (hd : ∀ x, x < n -> t < x -> gn door x = sd x) : ∀ (q x : Nat), x < q -> x < n -> t < x -> FQ n p sd t ((wayUp f.up q x).foldr (Go.Proofs.YtfbkopjncmkbiabGreatDoor.stp door) f) /\ gn ((wayUp f.up q x).foldr (Go.Proofs.YtfbkopjncmkbiabGreatDoor.stp door) f).up (gn ((wayUp f.up q x).foldr (Go.Proofs.YtfbkopjncmkbiabGreatDoor.stp door) f).up x).toNat < 0
 | 0, _, hq, _, _ => by omega
 | q + 1, x, hq, hx, ht => by
   have hu := h.ua x hx ht
   have h0 := h.up x hx ht
   have hfi := (fold_ok hf _ (way_le hf (q + 1) x hx h0).2 (way_ok hf (q + 1) x hx h0)).1
   by_cases h1 : 0 <= gn f.up (gn f.up x).toNat
   ·have e : wayUp f.up (q + 1) x = x :: wayUp f.up q (gn f.up x).toNat := by simp [wayUp, h1]
    have ht2 : t < (gn f.up x).toNat := by
     apply Classical.byContradiction
     intro hc
     have := h.fr _ (by omega) (show (gn f.up x).toNat < n by omega)
     omega
    obtain ⟨i1, i2⟩ := FQ.fold hp h hf hd q (gn f.up x).toNat (by omega) (by omega) ht2
    have hl := way_le hf q (gn f.up x).toNat (by omega) h1
    have hfi1 := (fold_ok hf _ hl.2 (way_ok hf q _ (by omega) h1)).1
    have hxn : x ∉ wayUp f.up q (gn f.up x).toNat := fun hm => by have := hl.1 x hm; omega
    have eo := fold_other door f x _ hxn
    rw [e, List.foldr_cons]
    generalize hF : (wayUp f.up q (gn f.up x).toNat).foldr (Go.Proofs.YtfbkopjncmkbiabGreatDoor.stp door) f = F at i1 i2 hfi1 eo ⊢
    have hr := FQ.stp hp i1 hfi1 hd hx ht (by rw [eo]; exact ht2)
    refine ⟨hr, ?_⟩
    have hup : ∀ z, gn (Go.Proofs.YtfbkopjncmkbiabGreatDoor.stp door x F).up z = if z = x then gn F.up (gn F.up x).toNat else gn F.up z := fun z => gn_set (by rw [hfi1.lu]; exact hx)
    rw [hup x, if_pos rfl, eo]
    have := i1.ua _ (show (gn f.up x).toNat < n by omega) ht2
    rw [hup, if_neg (by omega)]
    exact i2
   ·have e : wayUp f.up (q + 1) x = [] := by simp [wayUp, h1]
    rw [e, List.foldr_nil]
    exact ⟨h, by omega⟩
theorem lst_ok {n p sd t f} {door : List Int} (hp : ∀ v, p v <= v) (h : FQ n p sd t f) (hf : FI n door f) (hd : ∀ x, x < n -> t < x -> gn door x = sd x) {x : Nat} (hx : x < n) :
 FQ n p sd t (lst door f x).2 /\ (x <= t -> (lst door f x).1 = x) /\ (t < x -> Anc p (lst door f x).1 x /\ t < (lst door f x).1 /\ ∀ u, Anc p u x -> t < u -> sd (lst door f x).1 <= sd u) := by
 by_cases ht : t < x
 ·have h0 := h.up x hx ht
  have e : lst door f x = ((gn (shorten door f x).best x).toNat, shorten door f x) := by unfold lst; rw [if_neg (by omega)]
  rw [e]
  obtain ⟨h1, h2⟩ := FQ.fold hp h hf hd (x + 1) x (by omega) hx ht
  refine ⟨h1, fun hc => by omega, fun _ => ?_⟩
  obtain ⟨u1, u2⟩ := h1.ua x hx ht
  have hr : (gn (shorten door f x).up x).toNat <= t := by
   apply Classical.byContradiction
   intro hc
   have := h1.up (gn (shorten door f x).up x).toNat (show _ < n from Nat.lt_trans u2 hx) (by unfold shorten; unfold shorten at hc; omega)
   unfold shorten at this
   omega
  obtain ⟨b1, b2⟩ := h1.ba x hx ht
  have mn := h1.mn x hx ht
  exact ⟨b1, (mn _ b1 b2).1, fun u hu hut => (mn u hu (Nat.lt_of_le_of_lt hr hut)).2⟩
 ·have := h.fr x (by omega) hx
  have e : lst door f x = (x, f) := by unfold lst; rw [if_pos this]
  rw [e]
  exact ⟨h, fun _ => rfl, fun hc => absurd hc ht⟩
theorem dIn_ok {n E p sd} (hD : Dfs n E p) (hS : Semi n E sd) {x : Nat} (hx1 : 1 <= x) (hx : x < n) : ∀ (src : List Int) (door : List Int) (f : Fo) (m : Nat), FI n door f -> FQ n p sd x f -> (∀ z, z < n -> x < z -> gn door z = sd z) -> (∀ z, z < n -> z < x -> gn door z = z) -> (∀ y ∈ src, ∃ z : Nat, y = z /\ E z x) -> gn door x = m -> (Sp E m x \/ m = x) -> m <= x ->
 FI n (dIn x src (door, f)).1 (dIn x src (door, f)).2 /\ FQ n p sd x (dIn x src (door, f)).2 /\ (∀ z, z ≠ x -> gn (dIn x src (door, f)).1 z = gn door z) /\ ∃ m' : Nat, gn (dIn x src (door, f)).1 x = m' /\ m' <= m /\ (Sp E m' x \/ m' = x) /\ ∀ z : Nat, (z : Int) ∈ src -> (z < x -> m' <= z) /\ (x < z -> ∀ u, Anc p u z -> x < u -> m' <= sd u)
 | [], door, f, m, hf, hq, hd, h0, hs, hm, hc, hmx => ⟨hf, hq, fun _ _ => rfl, m, hm, Nat.le_refl _, hc, fun z hz => by simp at hz⟩
 | y :: src, door, f, m, hf, hq, hd, h0, hs, hm, hc, hmx => by
   obtain ⟨z, rfl, hz⟩ := hs y (by simp)
   have hzn := (hD.rg _ _ hz).1
   obtain ⟨l1, l2, l3⟩ := lst_ok hD.pl hq hf hd hzn
   obtain ⟨l4, l5, l6⟩ := hf.lst hzn
   have hcand : ∃ c : Nat, gn door (lst door f z).1 = c /\ (Sp E c x \/ c = x \/ c = m) /\ (z < x -> c <= z) /\ (x < z -> ∀ u, Anc p u z -> x < u -> c <= sd u) := by
    rcases Nat.lt_trichotomy z x with hlt | heq | hgt
    ·refine ⟨z, ?_, .inl ⟨0, hz⟩, fun _ => Nat.le_refl _, fun _ => by omega⟩
     rw [l2 (by omega)]; exact h0 z hzn hlt
    ·refine ⟨m, ?_, .inr (.inr rfl), fun _ => by omega, fun _ => by omega⟩
     rw [l2 (by omega), heq]; exact hm
    ·obtain ⟨q1, q2, q3⟩ := l3 hgt
     refine ⟨sd (lst door f z).1, hd _ l5 q2, .inl (sp_far hD hS hz q1 q2), fun _ => by omega, fun _ u hu hxu => q3 u hu hxu⟩
   obtain ⟨c, c1, c2, c3, c4⟩ := hcand
   have e : dIn x ((z : Int) :: src) (door, f) = dIn x src (door.set x (min (gn door x) (gn door (lst door f z).1)), (lst door f z).2) := by
    simp [dIn]
   have hmin : min (gn door x) (gn door (lst door f z).1) = ((min m c : Nat) : Int) := by rw [hm, c1]; omega
   rw [hmin] at e
   rw [e]
   have hgs : ∀ i, gn (door.set x ((min m c : Nat) : Int)) i = if i = x then ((min m c : Nat) : Int) else gn door i := fun i => gn_set (by rw [hf.ld]; exact hx)
   have hmc : min m c <= m := by omega
   obtain ⟨r1, r2, r3, m', r4, r5, r6, r7⟩ := dIn_ok hD hS hx1 hx src (door.set x ((min m c : Nat) : Int)) (lst door f z).2 (min m c) (l4.door hx (by omega) (by omega)) l1 (fun i hi hxi => by rw [hgs, if_neg (by omega)]; exact hd i hi hxi) (fun i hi hxi => by rw [hgs, if_neg (by omega)]; exact h0 i hi hxi) (fun y hy => hs y (by simp [hy])) (by rw [hgs, if_pos rfl]) (by
    by_cases hle : m <= c
    ·rw [Nat.min_eq_left hle]; exact hc
    ·rw [Nat.min_eq_right (by omega)]
     rcases c2 with c2 | c2 | c2
     ·exact .inl c2
     ·exact .inr c2
     ·omega) (by omega)
   refine ⟨r1, r2, fun i hi => by rw [r3 i hi, hgs, if_neg hi], m', r4, by omega, r6, fun i hi => ?_⟩
   rcases List.mem_cons.1 hi with h | h
   ·have : i = z := by omega
    subst this
    exact ⟨fun h => by have := c3 h; omega, fun h u hu hxu => by have := c4 h u hu hxu; omega⟩
   ·exact r7 i h
def DoneAt (p sd : Nat -> Nat) (o : Int) (x : Nat) : Prop := (o = sd x /\ ∀ u, Anc p u x -> sd x < u -> sd x <= sd u) \/ ∃ u : Nat, o = u /\ Anc p u x /\ sd x < u /\ sd u < sd x /\ ∀ v, Anc p v x -> sd x < v -> sd u <= sd v
theorem dOv_done {n E p sd} (hD : Dfs n E p) (hS : Semi n E sd) {t : Nat} (ht : t + 1 < n) {door : List Int} (hd : ∀ z, z < n -> t < z -> gn door z = sd z) : ∀ (l : List Int) (over : List Int) (f : Fo), FI n door f -> FQ n p sd t f -> over.length = n -> (∀ y ∈ l, ∃ z : Nat, y = z /\ t < z /\ z < n /\ sd z = p (t + 1)) ->
 FI n door (dOv door (p (t + 1)) l (over, f)).2 /\ FQ n p sd t (dOv door (p (t + 1)) l (over, f)).2 /\ (dOv door (p (t + 1)) l (over, f)).1.length = n /\ ∀ x, x < n -> (x : Int) ∈ l \/ DoneAt p sd (gn over x) x -> DoneAt p sd (gn (dOv door (p (t + 1)) l (over, f)).1 x) x
 | [], over, f, hf, hq, ho, _ => ⟨hf, hq, ho, fun x _ h => by rcases h with h | h; simp at h; exact h⟩
 | y :: l, over, f, hf, hq, ho, hl => by
   obtain ⟨z, rfl, z1, z2, z3⟩ := hl y (by simp)
   have hpt := hD.lt (t + 1) (by omega) ht
   have e : dOv door (p (t + 1)) ((z : Int) :: l) (over, f) = dOv door (p (t + 1)) l (over.set z ((lbw door f z (p (t + 1))).1 : Int), (lbw door f z (p (t + 1))).2) := by
    simp [dOv]
   obtain ⟨l1, l2, l3⟩ := lst_ok hD.pl hq hf hd z2
   obtain ⟨l4, l5, l6⟩ := hf.lst z2
   obtain ⟨q1, q2, q3⟩ := l3 z1
   have hbe : (lbw door f z (p (t + 1))).2 = (lst door f z).2 := by unfold lbw; split <;> rfl
   have hsa := hS.anc hD (w := z) (by omega) z2
   have hch : ∀ u, Anc p u z -> sd z < u -> t < u := by
    intro u hu hlt
    apply Classical.byContradiction
    intro hc
    have a1 := hD.iv u (t + 1) z z2 hu (by omega) (by omega)
    have a2 := (a1.up (by omega)).le hD.pl
    omega
   have hdone : DoneAt p sd ((lbw door f z (p (t + 1))).1 : Int) z := by
    have e1 : gn door (lst door f z).1 = sd (lst door f z).1 := hd _ l5 q2
    have e2 : gn door z = sd z := hd z z2 z1
    unfold lbw
    rw [e1, e2]
    split
    ·next hc =>
     exact .inr ⟨_, rfl, q1, by omega, by omega, fun v hv hlt => q3 v hv (hch v hv hlt)⟩
    ·next hc =>
     refine .inl ⟨by rw [z3], fun u hu hlt => ?_⟩
     have := q3 u hu (hch u hu hlt)
     omega
   rw [e, hbe]
   have hgs : ∀ i, gn (over.set z ((lbw door f z (p (t + 1))).1 : Int)) i = if i = z then ((lbw door f z (p (t + 1))).1 : Int) else gn over i := fun i => gn_set (by rw [ho]; exact z2)
   obtain ⟨r1, r2, r3, r4⟩ := dOv_done hD hS ht hd l (over.set z ((lbw door f z (p (t + 1))).1 : Int)) (lst door f z).2 l4 l1 (by simpa using ho) fun y hy => hl y (by simp [hy])
   refine ⟨r1, r2, r3, fun x hx h => r4 x hx ?_⟩
   by_cases hxz : x = z
   ·right; rw [hgs, if_pos hxz]; subst hxz; exact hdone
   ·rcases h with h | h
    ·rcases List.mem_cons.1 h with h | h
     ·omega
     ·exact .inl h
    ·right; rw [hgs, if_neg hxz]; exact h
theorem FQ.hang {n E p sd t f} (hD : Dfs n E p) (h : FQ n p sd (t + 1) f) {door : List Int} (hf : FI n door f) (ht : t + 1 < n) : FQ n p sd t ⟨f.up.set (t + 1) ((p (t + 1) : Nat) : Int), f.best⟩ := by
 have hl := hD.lt (t + 1) (by omega) ht
 have hup : ∀ x, gn (f.up.set (t + 1) ((p (t + 1) : Nat) : Int)) x = if x = t + 1 then ((p (t + 1) : Nat) : Int) else gn f.up x := fun x => gn_set (by rw [hf.lu]; exact ht)
 have hb := h.fb (t + 1) (by omega) ht
 refine ⟨fun x hx hlt => ?_, fun x hx hlt => ?_, fun x hx hlt => ?_, fun x hx hlt u hu hul => ?_, fun x hx hn => ?_, fun x hx hn => h.fb x (by omega) hn⟩
 ·simp only [hup]; split
  ·omega
  ·exact h.up x hx (by omega)
 ·simp only [hup]; split
  ·next e => subst e; exact ⟨by simpa using Anc.par p (t + 1), by simpa using hl⟩
  ·exact h.ua x hx (by omega)
 ·simp only [hup]; split
  ·next e => subst e; rw [hb]; exact ⟨by simpa using Anc.refl p (t + 1), by simpa using hl⟩
  ·exact h.ba x hx (by omega)
 ·simp only [hup] at hul ⊢
  by_cases e : x = t + 1
  ·subst e
   rw [if_pos rfl] at hul
   have hu' := hu.le hD.pl
   have : u = t + 1 := by
    apply Classical.byContradiction
    intro hne
    have := (hu.up hne).le hD.pl
    simp at hul
    omega
   subst this
   rw [hb]
   exact ⟨by omega, by simp⟩
  ·rw [if_neg e] at hul
   have := h.mn x hx (by omega) u hu hul
   exact ⟨by omega, this.2⟩
 ·simp only [hup]; split
  ·omega
  ·exact h.fr x (by omega) hn
structure DQ (n : Nat) (E : Nat -> Nat -> Prop) (p sd : Nat -> Nat) (t : Nat) (s : St) : Prop where
 fi : FI n s.door s.f
 fq : FQ n p sd t s.f
 d1 : ∀ x, x < n -> t < x -> gn s.door x = sd x
 d0 : ∀ x, x < n -> x <= t -> gn s.door x = x
 lo : s.over.length = n
 ws : ∀ a : Int, ∀ y ∈ s.wt a, ∃ z : Nat, y = z /\ t < z /\ z < n /\ (sd z : Int) = a
 co : ∀ x, x < n -> t < x -> DoneAt p sd (gn s.over x) x \/ ((x : Int) ∈ s.wt (sd x) /\ ∀ c, t < c -> c < n -> p c = sd x -> ¬ Anc p c x)
theorem upd_at {α : Type} (f : Int -> α) (a : Int) (v : α) (b : Int) : upd f a v b = if b = a then v else f b := rfl
theorem DQ.step {n E p sd t s} {mt : List Int} {fr : List (List Int)} (hD : Dfs n E p) (hS : Semi n E sd) (hmt : ∀ i, 1 <= i -> i < n -> gn mt i = p i) (hfr : ∀ v, v < n -> ∀ y ∈ fr.getD v [], ∃ z : Nat, y = z /\ E z v) (hfr2 : ∀ v, v < n -> ∀ u, E u v -> (u : Int) ∈ fr.getD v []) (ht : t + 1 < n) (h : DQ n E p sd (t + 1) s) : DQ n E p sd t (dstep mt fr (t + 1) s) := by
 obtain ⟨r1, r2, r3, m, r4, r5, r6, r7⟩ := dIn_ok hD hS (x := t + 1) (by omega) ht (fr.getD (t + 1) []) s.door s.f (t + 1) h.fi h.fq h.d1 (fun z hz hl => h.d0 z hz (by omega)) (hfr _ ht) (h.d0 _ ht (Nat.le_refl _)) (.inr rfl) (Nat.le_refl _)
 have hm : m = sd (t + 1) := semi_found hD hS (by omega) ht r6 r5 fun v hv => r7 v (hfr2 _ ht v hv)
 subst hm
 have hpt := hD.lt (t + 1) (by omega) ht
 have emt := hmt (t + 1) (by omega) ht
 have emt2 : (gn mt (t + 1)).toNat = p (t + 1) := by rw [emt]; simp
 have hdoor : ∀ z, z < n -> t < z -> gn (dIn (t + 1) (fr.getD (t + 1) []) (s.door, s.f)).1 z = sd z := by
  intro z hz hl
  by_cases e : z = t + 1
  ·subst e; exact r4
  ·rw [r3 z e]; exact h.d1 z hz (by omega)
 have hq := r2.hang hD r1 ht
 have hfi := r1.hang (x := t + 1) (v := ((p (t + 1) : Nat) : Int)) ht (by omega) (by omega)
 generalize hd : dIn (t + 1) (fr.getD (t + 1) []) (s.door, s.f) = d at r1 r2 r3 r4 hdoor hq hfi
 have hw : ∀ a : Int, ∀ y ∈ upd s.wt (gn d.1 (t + 1)) (s.wt (gn d.1 (t + 1)) ++ [((t + 1 : Nat) : Int)]) a, ∃ z : Nat, y = z /\ t < z /\ z < n /\ (sd z : Int) = a := by
  intro a y hy
  rw [upd_at] at hy
  split at hy
  ·next e =>
   subst e
   rcases List.mem_append.1 hy with hy | hy
   ·obtain ⟨z, z1, z2, z3, z4⟩ := h.ws _ y hy; exact ⟨z, z1, by omega, z3, z4⟩
   ·simp at hy; exact ⟨t + 1, by rw [hy]; rfl, by omega, ht, by rw [r4]⟩
  ·obtain ⟨z, z1, z2, z3, z4⟩ := h.ws _ y hy; exact ⟨z, z1, by omega, z3, z4⟩
 obtain ⟨o1, o2, o3, o4⟩ := dOv_done hD hS ht hdoor (upd s.wt (gn d.1 (t + 1)) (s.wt (gn d.1 (t + 1)) ++ [((t + 1 : Nat) : Int)]) (p (t + 1) : Nat)) s.over ⟨d.2.up.set (t + 1) ((p (t + 1) : Nat) : Int), d.2.best⟩ hfi hq h.lo fun y hy => by
  obtain ⟨z, z1, z2, z3, z4⟩ := hw _ y hy
  exact ⟨z, z1, z2, z3, by omega⟩
 have es : dstep mt fr (t + 1) s = ⟨d.1, (dOv d.1 (p (t + 1)) (upd s.wt (gn d.1 (t + 1)) (s.wt (gn d.1 (t + 1)) ++ [((t + 1 : Nat) : Int)]) (p (t + 1) : Nat)) (s.over, ⟨d.2.up.set (t + 1) ((p (t + 1) : Nat) : Int), d.2.best⟩)).2, (dOv d.1 (p (t + 1)) (upd s.wt (gn d.1 (t + 1)) (s.wt (gn d.1 (t + 1)) ++ [((t + 1 : Nat) : Int)]) (p (t + 1) : Nat)) (s.over, ⟨d.2.up.set (t + 1) ((p (t + 1) : Nat) : Int), d.2.best⟩)).1, upd (upd s.wt (gn d.1 (t + 1)) (s.wt (gn d.1 (t + 1)) ++ [((t + 1 : Nat) : Int)])) (p (t + 1) : Nat) []⟩ := by
  unfold dstep
  rw [hd, emt2, emt]
 rw [es]
 refine ⟨o1, o2, hdoor, fun x hx hl => ?_, o3, fun a y hy => ?_, fun x hx hl => ?_⟩
 ·show gn d.1 x = x
  rw [r3 x (by omega)]; exact h.d0 x hx (by omega)
 ·simp only at hy
  rw [upd_at] at hy
  split at hy
  ·simp at hy
  ·exact hw a y hy
 ·simp only
  by_cases hin : sd x = p (t + 1)
  ·left
   apply o4 x hx
   by_cases e : x = t + 1
   ·subst e
    left
    rw [upd_at, r4, if_pos (by rw [hin])]
    simp
   ·rcases h.co x hx (by omega) with hc | ⟨hc, _⟩
    ·exact .inr hc
    ·left
     rw [upd_at]
     split
     ·next e2 => rw [<- e2, <- hin]; exact List.mem_append_left _ hc
     ·rw [<- hin]; exact hc
  ·by_cases e : x = t + 1
   ·subst e
    right
    refine ⟨?_, fun c c1 c2 c3 ca => ?_⟩
    ·rw [upd_at, if_neg (by omega), upd_at, if_pos r4.symm]; simp
    ·have := ca.le hD.pl
     have : c = t + 1 := by omega
     subst this
     omega
   ·rcases h.co x hx (by omega) with hc | ⟨hc, hc2⟩
    ·exact .inl (o4 x hx (.inr hc))
    ·right
     refine ⟨?_, fun c c1 c2 c3 => ?_⟩
     ·rw [upd_at, if_neg (by omega), upd_at]
      split
      ·next e2 => rw [<- e2]; exact List.mem_append_left _ hc
      ·exact hc
     ·by_cases e3 : c = t + 1
      ·subst e3; omega
      ·exact hc2 c (by omega) c2 c3
theorem DQ.run {n E p sd} {mt : List Int} {fr : List (List Int)} (hD : Dfs n E p) (hS : Semi n E sd) (hmt : ∀ i, 1 <= i -> i < n -> gn mt i = p i) (hfr : ∀ v, v < n -> ∀ y ∈ fr.getD v [], ∃ z : Nat, y = z /\ E z v) (hfr2 : ∀ v, v < n -> ∀ u, E u v -> (u : Int) ∈ fr.getD v []) : ∀ (k : Nat) (s : St), k < n -> DQ n E p sd k s -> DQ n E p sd 0 (drun mt fr k s)
 | 0, s, _, h => h
 | k + 1, s, hk, h => DQ.run hD hS hmt hfr hfr2 k _ (by omega) (h.step hD hS hmt hfr hfr2 hk)
theorem gn_door0 {n x : Nat} (hx : x < n) : gn (door0 n) x = x := by simp [gn, door0, hx]
theorem DQ.zero {n E p sd} : DQ n E p sd (n - 1) (st0 n) := by
 refine ⟨FI.zero n, ⟨fun x hx h => by omega, fun x hx h => by omega, fun x hx h => by omega, fun x hx h => by omega, fun x hx h => ?_, fun x hx h => ?_⟩, fun x hx h => by omega, fun x hx h => gn_door0 hx, by simp [st0], fun a y hy => by simp [st0] at hy, fun x hx h => by omega⟩
 ·show gn (List.replicate n (-1)) x < 0
  simp [gn, h]
 ·exact gn_door0 h
theorem fpass_imm {n E p sd} (hD : Dfs n E p) (hS : Semi n E sd) {door over : List Int} (hd : ∀ x, x < n -> 0 < x -> gn door x = sd x) (hl : over.length = n) (hdn : ∀ x, x < n -> 0 < x -> DoneAt p sd (gn over x) x) : ∀ k, k < n -> (fpass door k over).length = n /\ (∀ x, 1 <= x -> x <= k -> ∃ d : Nat, gn (fpass door k over) x = d /\ Imm n E d x) /\ ∀ x, k < x -> gn (fpass door k over) x = gn over x
 | 0, _ => ⟨hl, fun x h1 h2 => by omega, fun x _ => rfl⟩
 | k + 1, hk => by
   obtain ⟨i1, i2, i3⟩ := fpass_imm hD hS hd hl hdn k (by omega)
   have ek := i3 (k + 1) (by omega)
   have hdk := hd (k + 1) hk (by omega)
   generalize hO : fpass door k over = O at i1 i2 i3 ek
   have hfp : fpass door (k + 1) over = fin1 door (k + 1) O := by rw [<- hO]; rfl
   rw [hfp]
   rcases hdn (k + 1) hk (by omega) with ⟨a1, a2⟩ | ⟨u, u1, u2, u3, u4, u5⟩
   ·have e : fin1 door (k + 1) O = O := by unfold fin1; rw [if_pos (by rw [ek, a1, hdk])]
    rw [e]
    refine ⟨i1, fun x h1 h2 => ?_, fun x hx => i3 x (by omega)⟩
    by_cases hx : x = k + 1
    ·subst hx
     exact ⟨sd (k + 1), by rw [ek, a1], imm_semi hD hS (by omega) hk a2⟩
    ·exact i2 x h1 (by omega)
   ·have hul := u2.le hD.pl
    have hne : u ≠ k + 1 := by rintro rfl; omega
    have e : fin1 door (k + 1) O = O.set (k + 1) (gn O u) := by
     unfold fin1
     rw [if_neg (by rw [ek, u1, hdk]; omega), ek, u1]
     simp
    obtain ⟨d, d1, d2⟩ := i2 u (by omega) (by omega)
    have hgs : ∀ i, gn (O.set (k + 1) (gn O u)) i = if i = k + 1 then gn O u else gn O i := fun i => gn_set (by rw [i1]; exact hk)
    rw [e]
    refine ⟨by simpa using i1, fun x h1 h2 => ?_, fun x hx => by rw [hgs, if_neg (by omega)]; exact i3 x (by omega)⟩
    by_cases hx : x = k + 1
    ·subst hx
     exact ⟨d, by rw [hgs, if_pos rfl, d1], imm_between hD hS (by omega) hk u2 u3 u5 d2⟩
    ·rw [hgs, if_neg hx]; exact i2 x h1 (by omega)
theorem domP_imm {E p} {mt : List Int} {fr : List (List Int)} (hpos : 0 < mt.length) (hD : Dfs mt.length E p) (hmt : ∀ i, 1 <= i -> i < mt.length -> gn mt i = p i) (hfr : ∀ v, v < mt.length -> ∀ y ∈ fr.getD v [], ∃ z : Nat, y = z /\ E z v) (hfr2 : ∀ v, v < mt.length -> ∀ u, E u v -> (u : Int) ∈ fr.getD v []) : ∀ x, 1 <= x -> x < mt.length -> ∃ d : Nat, gn (domP mt fr) x = d /\ Imm mt.length E d x := by
 obtain ⟨sd, hS⟩ := semi_is hD
 have hq := DQ.run (sd := sd) hD hS hmt hfr hfr2 (mt.length - 1) (st0 mt.length) (by omega) DQ.zero
 have hdn : ∀ x, x < mt.length -> 0 < x -> DoneAt p sd (gn (drun mt fr (mt.length - 1) (st0 mt.length)).over x) x := by
  intro x hx h0
  rcases hq.co x hx h0 with h | ⟨_, h⟩
  ·exact h
  ·exfalso
   have ha := hS.anc hD (w := x) (by omega) hx
   have hlt := hS.lt hD (w := x) (by omega) hx
   obtain ⟨k, hk⟩ := ha
   have key : ∀ k y, y < mt.length -> upk p k y = sd x -> sd x < y -> ∃ c, 0 < c /\ c < mt.length /\ p c = sd x /\ Anc p c y := by
    intro k
    induction k with
    | zero => intro y _ e hlt; have e : y = sd x := e; omega
    | succ k ih =>
      intro y hy e hlt
      by_cases hpy : p y = sd x
      ·exact ⟨y, by omega, hy, hpy, Anc.refl _ _⟩
      ·have e : upk p k (p y) = sd x := e
       have := upk_le hD.pl k (p y)
       have := hD.pl y
       obtain ⟨c, c1, c2, c3, c4⟩ := ih (p y) (by omega) e (by omega)
       exact ⟨c, c1, c2, c3, c4.trans (Anc.par p y)⟩
   obtain ⟨c, c1, c2, c3, c4⟩ := key k x hx hk hlt
   exact h c c1 c2 c3 c4
 intro x h1 hx
 exact (fpass_imm hD hS hq.d1 hq.lo hdn (mt.length - 1) (by omega)).2.1 x h1 (by omega)
end Go.Proofs.YtfbkopjncmkbiabGreatDoor
