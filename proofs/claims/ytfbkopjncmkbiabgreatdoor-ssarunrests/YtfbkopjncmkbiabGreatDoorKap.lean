import Derived.Test.YtfbkopjncmkbiabGreatDoorKai
import Derived.Test.YtfbkopjncmkbiabGreatDoorKao
set_option linter.unusedVariables false
set_option linter.unusedSimpArgs false
namespace Go.Proofs.YtfbkopjncmkbiabGreatDoor
open Go.ChangeShapes Go.WideShapes Go.ChangeAt Go.RowKit Go.Maps
def kdN (T : List Int) : Nat -> List (List Int)
 | 0 => List.replicate T.length []
 | k + 1 => if 0 <= gn T k then (kdN T k).set (gn T k).toNat ((kdN T k).getD (gn T k).toNat [] ++ [(k : Int)]) else kdN T k
def kdP (T : List Int) : List (List Int) := kdN T T.length
theorem kdN_len (T : List Int) : ∀ k, (kdN T k).length = T.length
 | 0 => by simp [kdN]
 | k + 1 => by
   unfold kdN
   split
   ·rw [List.length_set]; exact kdN_len T k
   ·exact kdN_len T k
theorem getD_setL {α : Type} {L : List (List α)} {i j : Nat} {v : List α} (hi : i < L.length) : (L.set i v).getD j [] = if j = i then v else L.getD j [] := by
 by_cases e : j = i
 ·subst e; rw [if_pos rfl]; simp [List.getD, hi]
 ·rw [if_neg e]; simp [List.getD, List.getElem?_set, Ne.symm e]
theorem kdN_mem {T : List Int} (hr : ∀ i, i < T.length -> gn T i < T.length) : ∀ k, k <= T.length -> ∀ b : Nat, b < T.length -> ((kdN T k).getD b []).Nodup /\ ∀ c : Int, c ∈ (kdN T k).getD b [] ↔ ∃ i : Nat, c = i /\ i < k /\ gn T i = b
 | 0, _, b, hb => by
   have : (kdN T 0).getD b [] = [] := by simp only [kdN, List.getD, List.getElem?_replicate]; split <;> rfl
   rw [this]
   exact ⟨List.nodup_nil, fun c => ⟨fun h => (List.not_mem_nil h).elim, fun ⟨i, _, h, _⟩ => by omega⟩⟩
 | k + 1, hk, b, hb => by
   have ih := kdN_mem hr k (by omega) b hb
   have hg := hr k (by omega)
   by_cases h0 : 0 <= gn T k
   ·have e : kdN T (k + 1) = (kdN T k).set (gn T k).toNat ((kdN T k).getD (gn T k).toNat [] ++ [(k : Int)]) := by simp only [kdN]; rw [if_pos h0]
    rw [e, getD_setL (by rw [kdN_len]; omega)]
    by_cases hb2 : b = (gn T k).toNat
    ·rw [if_pos hb2, <- hb2]
     refine ⟨?_, fun c => ?_⟩
     ·rw [List.nodup_append]
      refine ⟨ih.1, by simp, ?_⟩
      intro a ha c hc e2
      subst e2
      obtain ⟨i, h1, h2, h3⟩ := (ih.2 a).1 ha
      simp at hc
      omega
     ·rw [List.mem_append, ih.2]
      constructor
      ·rintro (⟨i, h1, h2, h3⟩ | h)
       ·exact ⟨i, h1, by omega, h3⟩
       ·simp at h; exact ⟨k, h, by omega, by omega⟩
      ·rintro ⟨i, h1, h2, h3⟩
       by_cases hik : i = k
       ·subst hik; right; simp [h1]
       ·left; exact ⟨i, h1, by omega, h3⟩
    ·rw [if_neg hb2]
     refine ⟨ih.1, fun c => ?_⟩
     rw [ih.2]
     constructor
     ·rintro ⟨i, h1, h2, h3⟩; exact ⟨i, h1, by omega, h3⟩
     ·rintro ⟨i, h1, h2, h3⟩
      refine ⟨i, h1, ?_, h3⟩
      by_cases hik : i = k
      ·subst hik; omega
      ·omega
   ·have e : kdN T (k + 1) = kdN T k := by simp only [kdN]; rw [if_neg h0]
    rw [e]
    refine ⟨ih.1, fun c => ?_⟩
    rw [ih.2]
    constructor
    ·rintro ⟨i, h1, h2, h3⟩; exact ⟨i, h1, by omega, h3⟩
    ·rintro ⟨i, h1, h2, h3⟩
     refine ⟨i, h1, ?_, h3⟩
     by_cases hik : i = k
     ·subst hik; omega
     ·omega
def lnS (T : List Int) (s : List Int × List Int) : List Int × List Int :=
 match s.2 with
 | [] => s
 | b :: r => (s.1 ++ [b], ((kdP T).getD b.toNat []).reverse ++ r)
def lnR (T : List Int) : Nat -> List Int × List Int -> List Int × List Int
 | 0, s => s
 | k + 1, s => lnR T k (lnS T s)
def lineP (T : List Int) : List Int := (lnR T T.length ([], [0])).1
structure TreeOK (T : List Int) (D : Int -> Int -> Prop) (rk : Int -> Nat) : Prop where
 ne : 0 < T.length
 root : gn T 0 = -1
 par : ∀ i, 0 < i -> i < T.length -> 0 <= gn T i /\ gn T i < T.length
 lt : ∀ i : Nat, 0 < i -> i < T.length -> rk (gn T i) < rk i
 dd : ∀ a c : Nat, a < T.length -> c < T.length -> (D a c ↔ a = c \/ (c ≠ 0 /\ D a (gn T c)))
structure LI (T : List Int) (D : Int -> Int -> Prop) (line ops : List Int) : Prop where
 nd : (line ++ ops).Nodup
 rng : ∀ x ∈ line ++ ops, 0 <= x /\ x < T.length
 first : ∀ x ∈ ops, x ≠ 0 -> gn T x.toNat ∈ line
 up : ∀ l1 a l2, line = l1 ++ a :: l2 -> a ≠ 0 -> gn T a.toNat ∈ l1
 kd : ∀ x ∈ line, ∀ c : Nat, c < T.length -> gn T c = x -> (c : Int) ∈ line ++ ops
 z : (0 : Int) ∈ line ++ ops
 mono : ∀ l1 a l2, line = l1 ++ a :: l2 -> (l2 ++ ops).Pairwise (fun x y => D a y -> D a x)
theorem TreeOK.dI {T D rk} (h : TreeOK T D rk) {a c : Int} (ha : 0 <= a /\ a < T.length) (hc : 0 <= c /\ c < T.length) : D a c ↔ a = c \/ (c ≠ 0 /\ D a (gn T c.toNat)) := by
 obtain ⟨i, rfl⟩ : ∃ i : Nat, a = i := ⟨a.toNat, by omega⟩
 obtain ⟨j, rfl⟩ : ∃ j : Nat, c = j := ⟨c.toNat, by omega⟩
 have := h.dd i j (by omega) (by omega)
 rw [this, Int.toNat_natCast]
 constructor
 ·rintro (q | ⟨q, q2⟩)
  ·exact .inl (by omega)
  ·exact .inr ⟨by omega, q2⟩
 ·rintro (q | ⟨q, q2⟩)
  ·exact .inl (by omega)
  ·exact .inr ⟨by omega, q2⟩
theorem TreeOK.parI {T D rk} (h : TreeOK T D rk) {c : Int} (hc : 0 <= c /\ c < T.length) (h0 : c ≠ 0) : (0 <= gn T c.toNat /\ gn T c.toNat < T.length) /\ rk (gn T c.toNat) < rk c := by
 obtain ⟨j, rfl⟩ : ∃ j : Nat, c = j := ⟨c.toNat, by omega⟩
 exact ⟨h.par j (by omega) (by omega), h.lt j (by omega) (by omega)⟩
theorem TreeOK.lo {T D rk} (h : TreeOK T D rk) : ∀ i, i < T.length -> gn T i < T.length := fun i hi => by
 by_cases e : i = 0
 ·subst e; rw [h.root]; omega
 ·exact (h.par i (by omega) hi).2
theorem LI.up0 {T D line ops} (h : LI T D line ops) {y : Int} (hy : y ∈ line) (h0 : y ≠ 0) : gn T y.toNat ∈ line := by
 obtain ⟨l1, l2, e⟩ := List.append_of_mem hy
 have := h.up l1 y l2 e h0
 rw [e]; simp [this]
theorem LI.none {T D rk line ops} (t : TreeOK T D rk) (h : LI T D line ops) {b : Int} (hb : 0 <= b /\ b < T.length) (hn : b ∉ line) : ∀ (m : Nat) (y : Int), rk y < m -> y ∈ line -> ¬ D b y
 | 0, y, hm, _ => by omega
 | m + 1, y, hm, hy => by
   have hr := h.rng y (by simp [hy])
   intro hd
   rcases (t.dI hb hr).1 hd with e | ⟨h0, hd2⟩
   ·exact hn (by rw [e]; exact hy)
   ·exact LI.none t h hb hn m _ (by have := (t.parI hr h0).2; omega) (h.up0 hy h0) hd2
theorem LI.step {T D rk line b r} (t : TreeOK T D rk) (h : LI T D line (b :: r)) : LI T D (line ++ [b]) (((kdP T).getD b.toNat []).reverse ++ r) := by
 obtain ⟨K, hK⟩ : ∃ K, K = ((kdP T).getD b.toNat []).reverse := ⟨_, rfl⟩
 rw [<- hK]
 have hb := h.rng b (by simp)
 have hkm := kdN_mem t.lo T.length (Nat.le_refl _) b.toNat (by omega)
 have km : ∀ c : Int, c ∈ K ↔ ∃ i : Nat, c = i /\ i < T.length /\ gn T i = b := fun c => by
  rw [hK, List.mem_reverse]
  have := hkm.2 c
  rw [Int.toNat_of_nonneg hb.1] at this
  exact this
 have knd : K.Nodup := by
  rw [hK]
  exact List.pairwise_reverse.2 (hkm.1.imp fun h => Ne.symm h)
 have hnd := h.nd
 rw [List.nodup_append] at hnd
 obtain ⟨n1, n2, n3⟩ := hnd
 rw [List.nodup_cons] at n2
 have bl : b ∉ line := fun q => n3 b q b (by simp) rfl
 have br : b ∉ r := n2.1
 have kr : ∀ c ∈ K, (0 <= c /\ c < T.length) /\ c ≠ 0 /\ gn T c.toNat = b := fun c hc => by
  obtain ⟨i, e, hi, hg⟩ := (km c).1 hc
  subst e
  refine ⟨by omega, ?_, by rw [Int.toNat_natCast]; exact hg⟩
  intro e
  have e2 : i = 0 := by omega
  subst e2
  rw [t.root] at hg; omega
 have kl : ∀ c ∈ K, c ∉ line := fun c hc q => by
  have := h.up0 q (kr c hc).2.1
  rw [(kr c hc).2.2] at this
  exact bl this
 have kr2 : ∀ c ∈ K, c ∉ r := fun c hc q => by
  have := h.first c (by simp [q]) (kr c hc).2.1
  rw [(kr c hc).2.2] at this
  exact bl this
 have kb : ∀ c ∈ K, c ≠ b := fun c hc q => by
  have := (t.parI (kr c hc).1 (kr c hc).2.1).2
  rw [(kr c hc).2.2, q] at this
  omega
 have bb : D b b := (t.dI hb hb).2 (.inl rfl)
 have kd2 : ∀ a : Int, (0 <= a /\ a < T.length) -> ∀ c ∈ K, D a b -> D a c := fun a ha c hc hd => (t.dI ha (kr c hc).1).2 (.inr ⟨(kr c hc).2.1, by rw [(kr c hc).2.2]; exact hd⟩)
 have kd3 : ∀ a : Int, (0 <= a /\ a < T.length) -> ∀ c ∈ K, a ≠ c -> D a c -> D a b := fun a ha c hc hne hd => by
  rcases (t.dI ha (kr c hc).1).1 hd with e | ⟨_, q⟩
  ·exact absurd e hne
  ·rw [(kr c hc).2.2] at q; exact q
 refine ⟨?_, ?_, ?_, ?_, ?_, ?_, ?_⟩
 ·rw [List.nodup_append]
  refine ⟨?_, ?_, ?_⟩
  ·rw [List.nodup_append]
   exact ⟨n1, by simp, fun x hx y hy e => by simp at hy; subst e; subst hy; exact bl hx⟩
  ·rw [List.nodup_append]
   exact ⟨knd, n2.2, fun x hx y hy e => by subst e; exact kr2 x hx hy⟩
  ·intro x hx y hy e
   subst e
   simp only [List.mem_append, List.mem_singleton] at hx hy
   rcases hx with hx | hx <;> rcases hy with hy | hy
   ·exact kl x hy hx
   ·exact n3 x hx x (by simp [hy]) rfl
   ·exact kb x hy hx
   ·subst hx; exact br hy
 ·intro x hx
  simp only [List.mem_append, List.mem_singleton] at hx
  rcases hx with (hx | hx) | hx | hx
  ·exact h.rng x (by simp [hx])
  ·subst hx; exact hb
  ·exact (kr x hx).1
  ·exact h.rng x (by simp [hx])
 ·intro x hx h0
  simp only [List.mem_append] at hx
  rcases hx with hx | hx
  ·rw [(kr x hx).2.2]; simp
  ·have := h.first x (by simp [hx]) h0
   simp [this]
 ·intro l1 a l2 e h0
  rcases List.append_eq_append_iff.1 e with ⟨q, e1, e2⟩ | ⟨q, e1, e2⟩
  ·cases q with
   | nil =>
     simp at e1 e2
     rw [<- e2.1] at h0 ⊢
     rw [e1]
     exact h.first b (by simp) h0
   | cons x q => simp at e2
  ·cases q with
   | nil =>
     simp at e1 e2
     rw [e2.1] at h0 ⊢
     rw [<- e1]
     exact h.first b (by simp) h0
   | cons x q =>
     simp at e2
     rw [e2.1] at h0 ⊢
     exact h.up l1 x q e1 h0
 ·intro x hx c hc hg
  simp only [List.mem_append, List.mem_singleton] at hx ⊢
  rcases hx with hx | hx
  ·have := h.kd x hx c hc hg
   simp only [List.mem_append, List.mem_cons] at this
   rcases this with q | q | q
   ·exact .inl (.inl q)
   ·exact .inl (.inr q)
   ·exact .inr (.inr q)
  ·subst hx
   exact .inr (.inl ((km c).2 ⟨c, rfl, hc, hg⟩))
 ·have := h.z
  simp only [List.mem_append, List.mem_cons, List.not_mem_nil, or_false] at this ⊢
  rcases this with q | q | q
  ·exact .inl (.inl q)
  ·exact .inl (.inr q)
  ·exact .inr (.inr q)
 ·have old : ∀ l1 a l2, line = l1 ++ a :: l2 -> ((l2 ++ [b]) ++ (K ++ r)).Pairwise (fun x y => D a y -> D a x) := by
   intro l1 a l2 e
   have ha := h.rng a (by rw [e]; simp)
   have hne : ∀ c ∈ K, a ≠ c := fun c hc q => kl c hc (by rw [e, q]; simp)
   have hm := h.mono l1 a l2 e
   rw [List.pairwise_append, List.pairwise_cons] at hm
   obtain ⟨m1, ⟨m2, m3⟩, m4⟩ := hm
   rw [List.pairwise_append]
   refine ⟨?_, ?_, ?_⟩
   ·rw [List.pairwise_append]
    exact ⟨m1, by simp, fun x hx y hy => by simp at hy; subst hy; exact m4 x hx y (by simp)⟩
   ·rw [List.pairwise_append]
    refine ⟨?_, m3, fun x hx y hy hd => kd2 a ha x hx (m2 y hy hd)⟩
    have : ∀ l : List Int, (∀ c ∈ l, c ∈ K) -> l.Pairwise (fun x y => D a y -> D a x) := by
     intro l
     induction l with
     | nil => intro _; simp
     | cons x xs ih => intro hl; rw [List.pairwise_cons]; exact ⟨fun y hy hd => kd2 a ha x (hl x (by simp)) (kd3 a ha y (hl y (by simp [hy])) (hne y (hl y (by simp [hy]))) hd), ih fun c hc => hl c (by simp [hc])⟩
    exact this K fun c hc => hc
   ·intro x hx y hy hd
    have toB : D a b := by
     simp only [List.mem_append] at hy
     rcases hy with hy | hy
     ·exact kd3 a ha y hy (hne y hy) hd
     ·exact m2 y hy hd
    simp only [List.mem_append, List.mem_singleton] at hx
    rcases hx with hx | hx
    ·exact m4 x hx b (by simp) toB
    ·subst hx; exact toB
  have new : (K ++ r).Pairwise (fun x y => D b y -> D b x) := by
   have hno : ∀ y ∈ r, ¬ D b y := by
    intro y hy hd
    have hry := h.rng y (by simp [hy])
    rcases (t.dI hb hry).1 hd with e | ⟨h0, hd2⟩
    ·subst e; exact br hy
    ·exact LI.none t h hb bl _ _ (Nat.lt_succ_self _) (h.first y (by simp [hy]) h0) hd2
   rw [List.pairwise_append]
   refine ⟨?_, ?_, fun x hx y hy hd => absurd hd (hno y hy)⟩
   ·have : ∀ l : List Int, (∀ c ∈ l, c ∈ K) -> l.Pairwise (fun x y => D b y -> D b x) := by
     intro l
     induction l with
     | nil => intro _; simp
     | cons x xs ih => intro hl; rw [List.pairwise_cons]; exact ⟨fun y hy hd => kd2 b hb x (hl x (by simp)) bb, ih fun c hc => hl c (by simp [hc])⟩
    exact this K fun c hc => hc
   ·have : ∀ l : List Int, (∀ c ∈ l, c ∈ r) -> l.Pairwise (fun x y => D b y -> D b x) := by
     intro l
     induction l with
     | nil => intro _; simp
     | cons x xs ih => intro hl; rw [List.pairwise_cons]; exact ⟨fun y hy hd => absurd hd (hno y (hl y (by simp [hy]))), ih fun c hc => hl c (by simp [hc])⟩
    exact this r fun c hc => hc
  intro l1 a l2 e
  rcases List.append_eq_append_iff.1 e with ⟨q, e1, e2⟩ | ⟨q, e1, e2⟩
  ·cases q with
   | nil =>
     simp at e1 e2
     obtain ⟨rfl, rfl⟩ := e2
     simpa using new
   | cons x q => simp at e2
  ·cases q with
   | nil =>
     simp at e1 e2
     obtain ⟨rfl, rfl⟩ := e2
     simpa using new
   | cons x q =>
     simp at e2
     rw [e2.1, e2.2]
     exact old l1 x q e1
theorem LI.start {T D rk} (t : TreeOK T D rk) : LI T D [] [0] :=
 ⟨by simp, fun x hx => by simp at hx; subst hx; have := t.ne; omega, fun x hx h0 => by simp at hx; exact absurd hx h0, fun l1 a l2 e => by simp at e, fun x hx => by simp at hx, by simp, fun l1 a l2 e => by simp at e⟩
theorem LI.few {T D line ops} (h : LI T D line ops) : line.length + ops.length <= T.length := by
 have := nodup_le T.length (line ++ ops) h.nd h.rng
 simpa using this
theorem lnR_inv {T D rk} (t : TreeOK T D rk) : ∀ k (s : List Int × List Int), LI T D s.1 s.2 -> T.length <= s.1.length + k -> LI T D (lnR T k s).1 [] /\ (lnR T k s).2 = []
 | 0, s, h, hk => by
   have := h.few
   have e : s.2 = [] := List.length_eq_zero_iff.1 (by omega)
   rw [e] at h
   exact ⟨h, e⟩
 | k + 1, (line, []), h, hk => by
   simp only [lnR, lnS]
   have : ∀ m, lnR T m (line, []) = (line, []) := by
    intro m
    induction m with
    | zero => rfl
    | succ m ih => simp only [lnR, lnS]; exact ih
   rw [this k]
   exact ⟨h, rfl⟩
 | k + 1, (line, b :: r), h, hk => by
   simp only [lnR, lnS]
   refine lnR_inv t k _ (h.step t) ?_
   simp at hk ⊢
   omega
theorem lineP_inv {T D rk} (t : TreeOK T D rk) : LI T D (lineP T) [] := (lnR_inv t T.length ([], [0]) (LI.start t) (by simp)).1
theorem line_all {T D rk line} (t : TreeOK T D rk) (h : LI T D line []) : ∀ (m : Nat) (c : Nat), rk c < m -> c < T.length -> (c : Int) ∈ line
 | 0, c, hm, _ => by omega
 | m + 1, c, hm, hc => by
   by_cases h0 : c = 0
   ·subst h0; simpa using h.z
   ·have hp := t.par c (by omega) hc
    obtain ⟨p, hpp⟩ : ∃ p : Nat, gn T c = p := ⟨(gn T c).toNat, by omega⟩
    have := line_all t h m p (by have := t.lt c (by omega) hc; rw [hpp] at this; omega) (by omega)
    have := h.kd _ this c hc hpp
    simpa using this
def holdsP (a b : Int × Int) : Bool := decide (a.1 <= b.1) && decide (b.1 < a.2)
def gp (R : List (Int × Int)) (x : Int) : Int × Int := R.getD x.toNat (0, 0)
theorem gp_set {R : List (Int × Int)} {i : Nat} {x : Int} {v : Int × Int} (hi : i < R.length) : gp (R.set i v) x = if x.toNat = i then v else gp R x := by
 unfold gp
 by_cases e : x.toNat = i
 ·rw [if_pos e, e]; simp [List.getD, hi]
 ·rw [if_neg e]; simp [List.getD, List.getElem?_set, Ne.symm e]
def nmN (n : Nat) (line : List Int) : Nat -> List (Int × Int)
 | 0 => List.replicate n (0, 0)
 | k + 1 => (nmN n line k).set (gn line k).toNat ((k : Int), (k : Int) + 1)
def enS (T : List Int) (b : Int) (R : List (Int × Int)) : List (Int × Int) := R.set (gn T b.toNat).toNat ((gp R (gn T b.toNat)).1, max (gp R (gn T b.toNat)).2 (gp R b).2)
def enN (T line : List Int) : Nat -> List (Int × Int)
 | 0 => nmN T.length line line.length
 | i + 1 => enS T (gn line (line.length - 1 - i)) (enN T line i)
def regP (T : List Int) : List (Int × Int) := enN T (lineP T) ((lineP T).length - 1)
structure LP (T : List Int) (D : Int -> Int -> Prop) (line : List Int) : Prop where
 inj : ∀ i j, i < line.length -> j < line.length -> gn line i = gn line j -> i = j
 rng : ∀ i, i < line.length -> 0 <= gn line i /\ gn line i < T.length
 all : ∀ c : Nat, c < T.length -> ∃ i, i < line.length /\ gn line i = c
 par : ∀ k, k < line.length -> gn line k ≠ 0 -> ∃ p, p < k /\ gn line p = gn T (gn line k).toNat
 mono : ∀ i j k, i < j -> j < k -> k < line.length -> D (gn line i) (gn line k) -> D (gn line i) (gn line j)
theorem split_at {line : List Int} {k : Nat} (hk : k < line.length) : line = line.take k ++ gn line k :: line.drop (k + 1) := by
 rw [gn_at hk, <- List.drop_eq_getElem_cons hk, List.take_append_drop]
theorem lineP_places {T D rk} (t : TreeOK T D rk) : LP T D (lineP T) := by
 have h := lineP_inv t
 generalize lineP T = line at h
 have hn : line.Nodup := by have := h.nd; rwa [List.append_nil] at this
 have hm : ∀ i, i < line.length -> gn line i ∈ line := fun i hi => by rw [gn_at hi]; exact List.getElem_mem hi
 refine ⟨fun i j hi hj e => ?_, fun i hi => h.rng _ (by simp [hm i hi]), fun c hc => ?_, fun k hk h0 => ?_, fun i j k hij hjk hk hd => ?_⟩
 ·rw [gn_at hi, gn_at hj] at e
  exact (List.getElem_inj hn).1 e
 ·have := line_all t h _ c (Nat.lt_succ_self _) hc
  obtain ⟨i, hi, e⟩ := List.getElem_of_mem this
  exact ⟨i, hi, by rw [gn_at hi]; exact e⟩
 ·have := h.up _ _ _ (split_at hk) h0
  obtain ⟨i, hi, e⟩ := List.getElem_of_mem this
  rw [List.length_take] at hi
  refine ⟨i, by omega, ?_⟩
  rw [gn_at (by omega), <- e]
  simp
 ·have := h.mono _ _ _ (split_at (show i < line.length by omega))
  rw [List.append_nil, List.pairwise_iff_getElem] at this
  have q := this (j - (i + 1)) (k - (i + 1)) (by simp; omega) (by simp; omega) (by omega)
  have e1 : (line.drop (i + 1))[j - (i + 1)]'(by simp; omega) = gn line j := by
   rw [gn_at (by omega)]; simp; congr 1; omega
  have e2 : (line.drop (i + 1))[k - (i + 1)]'(by simp; omega) = gn line k := by
   rw [gn_at (by omega)]; simp; congr 1; omega
  rw [e1, e2] at q
  exact q hd
structure EI (T : List Int) (D : Int -> Int -> Prop) (line : List Int) (R : List (Int × Int)) (m : Nat) : Prop where
 a : ∀ j, j < line.length -> (gp R (gn line j)).1 = j
 u : ∀ j, j < line.length -> ∃ d, d < line.length /\ j <= d /\ D (gn line j) (gn line d) /\ (gp R (gn line j)).2 = (d : Int) + 1
 l : ∀ j, m <= j -> 0 < j -> j < line.length -> (gp R (gn line j)).2 <= (gp R (gn T (gn line j).toNat)).2
theorem LP.first {T D line} (h : LP T D line) (h0 : 0 < line.length) : gn line 0 = 0 := by
 apply Classical.byContradiction
 intro q
 obtain ⟨p, hp, _⟩ := h.par 0 h0 q
 omega
theorem LP.nz {T D line} (h : LP T D line) {k : Nat} (hk : k < line.length) (h0 : 0 < k) : gn line k ≠ 0 := fun e => by
 have := h.inj k 0 hk (by omega) (by rw [e, h.first (by omega)])
 omega
theorem dtrans {T D rk} (t : TreeOK T D rk) {a b : Int} (ha : 0 <= a /\ a < T.length) (hb : 0 <= b /\ b < T.length) (hab : D a b) : ∀ (m : Nat) (c : Int), rk c < m -> (0 <= c /\ c < T.length) -> D b c -> D a c
 | 0, c, hm, _, _ => by omega
 | m + 1, c, hm, hc, hd => by
   rcases (t.dI hb hc).1 hd with e | ⟨h0, hd2⟩
   ·rw [<- e]; exact hab
   ·have hp := t.parI hc h0
    exact (t.dI ha hc).2 (.inr ⟨h0, dtrans t ha hb hab m _ (by omega) hp.1 hd2⟩)
theorem EI.next {T D rk line R m} (t : TreeOK T D rk) (h : LP T D line) (hl : R.length = T.length) (hm : m + 1 < line.length) (e : EI T D line R (m + 1 + 1)) : EI T D line (enS T (gn line (m + 1)) R) (m + 1) := by
 obtain ⟨p, hp, hpe⟩ := h.par (m + 1) (by omega) (h.nz (by omega) (by omega))
 have hr := h.rng (m + 1) (by omega)
 have hrp := h.rng p (by omega)
 unfold enS
 rw [<- hpe]
 have hs : ∀ x : Int, gp (R.set (gn line p).toNat ((gp R (gn line p)).1, max (gp R (gn line p)).2 (gp R (gn line (m + 1))).2)) x = if x.toNat = (gn line p).toNat then ((gp R (gn line p)).1, max (gp R (gn line p)).2 (gp R (gn line (m + 1))).2) else gp R x := fun x => gp_set (by omega)
 have same : ∀ j, j < line.length -> ((gn line j).toNat = (gn line p).toNat ↔ j = p) := fun j hj => by
  have := h.rng j hj
  constructor
  ·intro q; exact h.inj j p hj (by omega) (by omega)
  ·intro q; rw [q]
 have hd : D (gn line p) (gn line (m + 1)) := (t.dI hrp hr).2 (.inr ⟨h.nz (by omega) (by omega), by rw [<- hpe]; exact (t.dI hrp hrp).2 (.inl rfl)⟩)
 refine ⟨fun j hj => ?_, fun j hj => ?_, fun j hj h0 hj2 => ?_⟩
 ·rw [hs]
  by_cases q : j = p
  ·rw [if_pos ((same j hj).2 q), q]; exact e.a p (by omega)
  ·rw [if_neg (fun x => q ((same j hj).1 x))]; exact e.a j hj
 ·rw [hs]
  by_cases q : j = p
  ·rw [if_pos ((same j hj).2 q), q]
   obtain ⟨d1, a1, a2, a3, a4⟩ := e.u p (by omega)
   obtain ⟨d2, b1, b2, b3, b4⟩ := e.u (m + 1) (by omega)
   simp only
   by_cases c : (gp R (gn line p)).2 <= (gp R (gn line (m + 1))).2
   ·rw [Int.max_eq_right c]
    exact ⟨d2, b1, by omega, dtrans t hrp hr hd _ _ (Nat.lt_succ_self _) (h.rng d2 b1) b3, b4⟩
   ·rw [Int.max_eq_left (by omega)]
    exact ⟨d1, a1, a2, a3, a4⟩
  ·rw [if_neg (fun x => q ((same j hj).1 x))]; exact e.u j hj
 ·have jp : j ≠ p := by omega
  rw [hs, if_neg (fun x => jp ((same j hj2).1 x)), hs]
  by_cases q : j = m + 1
  ·subst q
   rw [<- hpe, if_pos rfl]
   simp only
   omega
  ·have := e.l j (by omega) h0 hj2
   split
   ·next g =>
    have e2 : gp R (gn T (gn line j).toNat) = gp R (gn line p) := by unfold gp; rw [g]
    rw [e2] at this
    simp only
    omega
   ·exact this
theorem EI.up {T D rk line R} (t : TreeOK T D rk) (h : LP T D line) (e : EI T D line R 1) {p : Nat} (hp : p < line.length) : ∀ (m : Nat) (q : Nat), q < m -> q < line.length -> D (gn line p) (gn line q) -> p <= q /\ (gp R (gn line q)).2 <= (gp R (gn line p)).2
 | 0, q, hm, _, _ => by omega
 | m + 1, q, hm, hq, hd => by
   rcases (t.dI (h.rng p hp) (h.rng q hq)).1 hd with e2 | ⟨h0, hd2⟩
   ·have := h.inj p q hp hq e2
    subst this
    exact ⟨Nat.le_refl _, by omega⟩
   ·obtain ⟨r, hr, hre⟩ := h.par q hq h0
    rw [<- hre] at hd2
    have ih := EI.up t h e hp m r (by omega) (by omega) hd2
    have hq0 : 0 < q := by
     apply Classical.byContradiction
     intro g
     have : q = 0 := by omega
     subst this
     omega
    have := e.l q (by omega) hq0 hq
    rw [<- hre] at this
    omega
structure Prs (w : World) (ao : Option Addr) (cap : Nat) (L : List (Int × Int)) : Prop where
 le : L.length <= cap
 mx : cap <= 9223372036854775807
 out : L ≠ [] -> ∃ b o, ao = some ⟨b, o, none⟩ /\ b < w.heap.size /\ ∀ i (h : i < L.length), w.cell? ⟨b, o + i * 2, none⟩ = some (.int .i64 L[i].1) /\ w.cell? ⟨b, o + i * 2 + 1, none⟩ = some (.int .i64 L[i].2)
theorem Prs.below {w w' ao cap L K} (h : Prs w ao cap L) (hb : Below K w w') (hK : w.heap.size <= K) : Prs w' ao cap L :=
 ⟨h.le, h.mx, fun hn => by
  obtain ⟨b, o, e, h1, h2⟩ := h.out hn
  refine ⟨b, o, e, by have := hb.size; omega, fun i hi => ?_⟩
  have hc : ∀ q, w'.cell? ⟨b, q, none⟩ = w.cell? ⟨b, q, none⟩ := fun q => hb.cell (p := ⟨b, q, none⟩) (by show b < K; omega)
  rw [hc, hc]; exact h2 i hi⟩
theorem Prs.at {w ao cap L} (h : Prs w ao cap L) {i : Nat} (hi : i < L.length) : ∃ b o, ao = some ⟨b, o, none⟩ /\ b < w.heap.size /\ w.cell? ⟨b, o + i * 2, none⟩ = some (.int .i64 L[i].1) /\ w.cell? ⟨b, o + i * 2 + 1, none⟩ = some (.int .i64 L[i].2) := by
 obtain ⟨b, o, e, h1, h2⟩ := h.out (by intro e; rw [e] at hi; simp at hi)
 exact ⟨b, o, e, h1, (h2 i hi).1, (h2 i hi).2⟩
theorem holds_at (w : World) (x1 x2 y1 y2 : Int) (R : Bool) (hR : holdsP (x1, x2) (y1, y2) = R) : Calls Tryz.prog 138 #[.agg #[.int .i64 x1, .int .i64 x2], .agg #[.int .i64 y1, .int .i64 y2]] w fun e w' => e = .returned (.bool R) /\ Below w.heap.size w w' := by
 subst hR
 have hnew : Below w.heap.size w ((w.alloc (.cells #[.int .i64 x1, .int .i64 x2] 160)).alloc (.cells #[.int .i64 y1, .int .i64 y2] 160)) := ((Below.refl _ _).alloc (Nat.le_refl _) _).alloc (by simp) _
 unfold holdsP
 by_cases h : x1 <= y1
 ·go_enter Tryz.func138, Tryz.ntmps138
  go_wp2_with fail
  go_ret
  exact ⟨by simp [h], hnew⟩
 ·go_enter Tryz.func138, Tryz.ntmps138
  go_wp2_with fail
  go_ret
  exact ⟨by simp; omega, hnew⟩
def thereP (P R : List (Int × Int)) (v k : Int) : Bool := if (P.getD v.toNat (0, 0)).1 = -1 then true else holdsP (R.getD (P.getD v.toNat (0, 0)).1.toNat (0, 0)) (R.getD k.toNat (0, 0))
set_option maxRecDepth 100000 in
set_option maxHeartbeats 2000000 in
theorem isThere_any (w : World) (qa : Option Addr) (qn qc : Nat) (ra : Option Addr) (rn rc : Nat) (P R : List (Int × Int)) (eq : qn = P.length) (er : rn = R.length) (hP : Prs w qa qc P) (hR : Prs w ra rc R) (v k : Nat) (hv : v < qn) (hk : k < rn) (hs : (P.getD v (0, 0)).1 = -1 \/ (0 <= (P.getD v (0, 0)).1 /\ (P.getD v (0, 0)).1 < rn)) :
 Calls Tryz.prog 105 #[.agg #[.slice qa qn qc, .slice ra rn rc], .int .i64 v, .int .i64 k] w fun e w' => e = .returned (.bool (thereP P R v k)) /\ Below w.heap.size w w' := by
 have hv' : v < P.length := by omega
 have hk' : k < R.length := by omega
 have bq : qn <= 9223372036854775807 := by have := hP.le; have := hP.mx; omega
 have br : rn <= 9223372036854775807 := by have := hR.le; have := hR.mx; omega
 have her : Hid (rn = R.length) := er
 clear eq er
 obtain ⟨b1, o1, rfl, l1, p1, p2⟩ := hP.at hv'
 obtain ⟨b2, o2, rfl, l2, q1, q2⟩ := hR.at hk'
 have ev : P.getD (v : Int).toNat (0, 0) = P[v] := by simp [hv']
 have ev' : P.getD v (0, 0) = P[v] := by simp [hv']
 have ek : R.getD (k : Int).toNat (0, 0) = R[k] := by simp [hk']
 unfold thereP
 rw [ev, ek]
 rw [ev'] at hs
 have A0 : Af1 w (.cells #[.slice (some ⟨b1, o1, none⟩) qn qc, .slice (some ⟨b2, o2, none⟩) rn rc] 131) (w.alloc (.cells #[.slice (some ⟨b1, o1, none⟩) qn qc, .slice (some ⟨b2, o2, none⟩) rn rc] 131)) := Af1.refl _ _
 have c1 := (A0.low.cell (p := ⟨b1, o1 + v * 2, none⟩) l1).trans p1
 generalize P[v].1 = t at c1 hs
 rcases hs with rfl | ⟨h0, h1⟩
 ·rw [if_pos rfl]
  clear hP hR p1 p2 q1 q2
  go_enter Tryz.func105, Tryz.ntmps105
  go_wp2_with fail
  go_quiet (fail)
  go_wp2_with fail
  go_ret
  exact ⟨rfl, below_drawn A0.low _⟩
 ·rw [if_neg (by omega)]
  obtain ⟨p, rfl⟩ : ∃ p : Nat, t = p := ⟨t.toNat, by omega⟩
  have hp : p < rn := by omega
  have hp' : p < R.length := by have := her.out; omega
  obtain ⟨b3, o3, e3, _, u1, u2⟩ := hR.at hp'
  cases e3
  have ep : R.getD (p : Int).toNat (0, 0) = R[p] := by simp [hp']
  rw [ep]
  obtain ⟨⟨x1, x2⟩, hx⟩ : ∃ x, x = R[p] := ⟨_, rfl⟩
  obtain ⟨⟨y1, y2⟩, hy⟩ : ∃ y, y = R[k] := ⟨_, rfl⟩
  rw [<- hx] at u1 u2 ⊢
  rw [<- hy] at q1 q2 ⊢
  simp only at u1 u2 q1 q2
  have hd : Below (w.alloc (.cells #[.slice (some ⟨b1, o1, none⟩) qn qc, .slice (some ⟨b2, o2, none⟩) rn rc] 131)).heap.size (w.alloc (.cells #[.slice (some ⟨b1, o1, none⟩) qn qc, .slice (some ⟨b2, o2, none⟩) rn rc] 131)) (w.alloc (.cells #[.slice (some ⟨b1, o1, none⟩) qn qc, .slice (some ⟨b2, o2, none⟩) rn rc] 131)).drew := (Below.refl _ _).drew
  have HS : Hid (∀ w1, Af1 w (.cells #[.slice (some ⟨b1, o1, none⟩) qn qc, .slice (some ⟨b2, o2, none⟩) rn rc] 131) w1 -> (fun w' : World => w'.cell? ⟨w.heap.size, 1, none⟩ = some (.slice (some ⟨b2, o2, none⟩) rn rc) /\ w'.cell? ⟨b2, o2 + p * 2, none⟩ = some (.int .i64 x1) /\ w'.cell? ⟨b2, o2 + p * 2 + 1, none⟩ = some (.int .i64 x2) /\ w'.cell? ⟨b2, o2 + k * 2, none⟩ = some (.int .i64 y1) /\ w'.cell? ⟨b2, o2 + k * 2 + 1, none⟩ = some (.int .i64 y2)) w1) := fun w1 h => ⟨cell_arr h.one rfl, (h.low.cell (p := ⟨b2, o2 + p * 2, none⟩) l2).trans u1, (h.low.cell (p := ⟨b2, o2 + p * 2 + 1, none⟩) l2).trans u2, (h.low.cell (p := ⟨b2, o2 + k * 2, none⟩) l2).trans q1, (h.low.cell (p := ⟨b2, o2 + k * 2 + 1, none⟩) l2).trans q2⟩
  have S0 := HS.out _ (A0.next hd)
  generalize hRR : holdsP (x1, x2) (y1, y2) = Rv
  have nm1 : ¬ (p : Int) = -1 := by omega
  have HA : Hid _ := A0
  clear hP hR p1 p2 q1 q2 u1 u2 hx hy ev ev' ek ep
  go_enter Tryz.func105, Tryz.ntmps105
  go_wp2_with fail
  go_region_held (fun w' => w'.cell? ⟨w.heap.size, 1, none⟩ = some (.slice (some ⟨b2, o2, none⟩) rn rc) /\ w'.cell? ⟨b2, o2 + p * 2, none⟩ = some (.int .i64 x1) /\ w'.cell? ⟨b2, o2 + p * 2 + 1, none⟩ = some (.int .i64 x2) /\ w'.cell? ⟨b2, o2 + k * 2, none⟩ = some (.int .i64 y1) /\ w'.cell? ⟨b2, o2 + k * 2 + 1, none⟩ = some (.int .i64 y2)) (first | exact S0 | exact S1)
   (first | (go_at_call 138; refine (holds_at _ _ _ _ _ _ hRR).mono ?_; rintro e w1 ⟨rfl, hb1⟩; have A1 := (HA.out.next hd).next hb1; have S1 := HS.out w1 A1))
  all_goals go_wp2_with fail
  all_goals go_ret
  all_goals first | exact ⟨rfl, A1.low⟩ | exact ⟨by simp, A1.low⟩
def aheadP (P R : List (Int × Int)) (v : Int) (b at_ : Int) : Bool := if (P.getD v.toNat (0, 0)).1 = b then decide ((P.getD v.toNat (0, 0)).2 < at_) else thereP P R v b
set_option maxRecDepth 100000 in
set_option maxHeartbeats 2000000 in
theorem isAhead_any (w : World) (qa : Option Addr) (qn qc : Nat) (ra : Option Addr) (rn rc : Nat) (P R : List (Int × Int)) (eq : qn = P.length) (er : rn = R.length) (hP : Prs w qa qc P) (hR : Prs w ra rc R) (v k : Nat) (at_ : Int) (hv : v < qn) (hk : k < rn) (hs : (P.getD v (0, 0)).1 = -1 \/ (0 <= (P.getD v (0, 0)).1 /\ (P.getD v (0, 0)).1 < rn)) :
 Calls Tryz.prog 108 #[.agg #[.slice qa qn qc, .slice ra rn rc], .int .i64 v, .agg #[.int .i64 k, .int .i64 at_]] w fun e w' => e = .returned (.bool (aheadP P R v k at_)) /\ Below w.heap.size w w' := by
 have hv' : v < P.length := by omega
 have bq : qn <= 9223372036854775807 := by have := hP.le; have := hP.mx; omega
 obtain ⟨b1, o1, e1, l1, p1, p2⟩ := hP.at hv'
 have A0 : Aft w (.cells #[.slice qa qn qc, .slice ra rn rc] 131) (.cells #[.int .i64 (k : Int), .int .i64 at_] 134) ((w.alloc (.cells #[.slice qa qn qc, .slice ra rn rc] 131)).alloc (.cells #[.int .i64 (k : Int), .int .i64 at_] 134)) := Aft.refl _ _ _
 have HT : Hid (∀ w', Aft w (.cells #[.slice qa qn qc, .slice ra rn rc] 131) (.cells #[.int .i64 (k : Int), .int .i64 at_] 134) w' -> Calls Tryz.prog 105 #[.agg #[.slice qa qn qc, .slice ra rn rc], .int .i64 v, .int .i64 k] w' fun e w'' => e = .returned (.bool (thereP P R v k)) /\ Below w'.heap.size w' w'') := fun w' h => isThere_any w' qa qn qc ra rn rc P R eq er (hP.below h.low (Nat.le_refl _)) (hR.below h.low (Nat.le_refl _)) v k hv hk hs
 have ev : P.getD (v : Int).toNat (0, 0) = P[v] := by simp [hv']
 unfold aheadP
 rw [ev]
 have c1 := (A0.low.cell (p := ⟨b1, o1 + v * 2, none⟩) l1).trans p1
 have c2 := (A0.low.cell (p := ⟨b1, o1 + v * 2 + 1, none⟩) l1).trans p2
 generalize P[v].1 = t at c1
 generalize P[v].2 = u at c2
 generalize thereP P R v k = Rv at HT
 subst e1
 have HA : Hid _ := A0
 clear eq er hP hR p1 p2 ev hs
 by_cases h : t = k
 ·subst h
  rw [if_pos rfl]
  go_enter Tryz.func108, Tryz.ntmps108
  go_wp2_with fail
  go_quiet (fail)
  go_wp2_with fail
  go_quiet (fail)
  go_wp2_with fail
  go_ret
  refine ⟨rfl, ?_⟩
  repeat refine below_drawn ?_ _
  exact HA.out.low
 ·rw [if_neg h]
  have h' : (t == (k : Int)) = false := by simp [h]
  clear h
  go_enter Tryz.func108, Tryz.ntmps108
  go_wp2_with fail
  go_quiet (fail)
  go_wp2_with (go_at_call 105; refine (HT.out _ (HA.out.drawn _)).mono ?_; rintro e w1 ⟨rfl, hb1⟩)
  go_ret
  exact ⟨rfl, ((HA.out.drawn _).next hb1).low⟩
def pvs (L : List (Int × Int)) : List Value := L.flatMap fun p => [.int .i64 p.1, .int .i64 p.2]
theorem pvs_len (L : List (Int × Int)) : (pvs L).length = L.length * 2 := by
 induction L with
 | nil => rfl
 | cons x xs ih => simp only [pvs, List.flatMap_cons, List.length_append] at ih ⊢; rw [ih]; simp; omega
theorem pvs_at (L : List (Int × Int)) : ∀ i (h : i < L.length), (pvs L)[i * 2]? = some (.int .i64 L[i].1) /\ (pvs L)[i * 2 + 1]? = some (.int .i64 L[i].2) := by
 induction L with
 | nil => intro i h; simp at h
 | cons x xs ih =>
   intro i h
   cases i with
   | zero => simp [pvs]
   | succ i =>
     have := ih i (by simpa using h)
     have e : pvs (x :: xs) = .int .i64 x.1 :: .int .i64 x.2 :: pvs xs := rfl
     rw [e, show (i + 1) * 2 = i * 2 + 1 + 1 by omega]
     simpa using this
theorem pvs_set (L : List (Int × Int)) : ∀ i (a b : Int), i < L.length -> pvs (L.set i (a, b)) = ((pvs L).set (i * 2) (.int .i64 a)).set (i * 2 + 1) (.int .i64 b) := by
 induction L with
 | nil => intro i a b h; simp at h
 | cons x xs ih =>
   intro i a b h
   have e : ∀ (y : Int × Int) ys, pvs (y :: ys) = .int .i64 y.1 :: .int .i64 y.2 :: pvs ys := fun _ _ => rfl
   cases i with
   | zero => simp [e]
   | succ i =>
     have := ih i a b (by simpa using h)
     rw [List.set_cons_succ, e, e, this, show (i + 1) * 2 = i * 2 + 1 + 1 by omega]
     simp
structure Pl (w : World) (g n : Nat) (t : TypeId) (L : List (Int × Int)) : Prop where
 row : w.heap[g]? = some (.cells (pvs L).toArray t (0, 0))
 len : L.length = n
theorem Pl.keep {w w' : World} {g n t L} (h : Pl w g n t L) (hb : Below w.heap.size w w') : Pl w' g n t L :=
 ⟨(hb.block _ (gl h.row)).trans h.row, h.len⟩
theorem Pl.cell {w : World} {g n t L} (h : Pl w g n t L) {i : Nat} (hi : i < n) : (∃ v, w.cell? ⟨g, i * 2, none⟩ = some v) /\ (∃ v, w.cell? ⟨g, i * 2 + 1, none⟩ = some v) /\ w.frozen? ⟨g, i * 2, none⟩ = false /\ w.frozen? ⟨g, i * 2 + 1, none⟩ = false /\ g < w.heap.size := by
 have hi' : i < L.length := by have := h.len; omega
 obtain ⟨h1, h2⟩ := pvs_at L i hi'
 exact ⟨⟨_, cell_arr h.row (by simpa using h1)⟩, ⟨_, cell_arr h.row (by simpa using h2)⟩, fz_of h.row, fz_of h.row, (gl h.row)⟩
theorem Pl.put {w : World} {g n t L} (h : Pl w g n t L) {i : Nat} (hi : i < n) (a b : Int) : Pl ((w.setCell ⟨g, i * 2, none⟩ (.int .i64 a)).setCell ⟨g, i * 2 + 1, none⟩ (.int .i64 b)) g n t (L.set i (a, b)) := by
 have hi' : i < L.length := by have := h.len; omega
 refine ⟨?_, by simpa using h.len⟩
 have h1 := heap_set_at (i := i * 2) (v := .int .i64 a) h.row
 have h2 := heap_set_at (i := i * 2 + 1) (v := .int .i64 b) h1
 rw [h2, pvs_set L i a b hi']
 simp
theorem Pl.prs {w : World} {g n t L} (h : Pl w g n t L) (hn : n <= 9223372036854775807) : Prs w (some ⟨g, 0, none⟩) n L := by
 refine ⟨by rw [h.len]; exact Nat.le_refl _, hn, fun _ => ⟨g, 0, rfl, (gl h.row), fun i hi => ?_⟩⟩
 obtain ⟨h1, h2⟩ := pvs_at L i hi
 rw [Nat.zero_add]
 exact ⟨cell_arr h.row (by simpa using h1), cell_arr h.row (by simpa using h2)⟩
theorem tree_ok {Ls : List (List Int)} (hg : goodP Ls = true) (hall : ∀ i : Nat, i < Ls.length -> (i : Int) ∈ (walkP Ls).bl) : TreeOK (treeP Ls) (Dm Ls) (fun x => (plc (walkP Ls).bl x).toNat) := by
 have hl := treeP_len hg
 have hp := goodP_pos hg
 have hI : ∀ i : Nat, 0 < i -> i < Ls.length -> IsD Ls (gn (treeP Ls) i) i := fun i h0 hi => treeP_some hg (hall i hi) (by omega)
 refine ⟨by rw [hl]; exact hp, treeP_none hg hp (.inr rfl), fun i h0 hi => ?_, fun i h0 hi => ?_, fun a c ha hc => ?_⟩
 ·rw [hl] at hi ⊢
  exact (walkP_wi hg).rng _ (hI i h0 hi).ov.1
 ·rw [hl] at hi
  have h := hI i h0 hi
  have h1 := h.ov.place hg
  have h2 := plc_lt h.ov.1
  have h3 := plc_lt (hall i hi)
  have : plc (walkP Ls).bl (gn (treeP Ls) i) ≠ plc (walkP Ls).bl i := fun q => h.ne (by rw [<- h2.2.2, q, h3.2.2])
  omega
 ·rw [hl] at ha hc
  constructor
  ·intro h
   by_cases e : a = c
   ·exact .inl e
   ·have h0 : c ≠ 0 := by
     intro q
     subst q
     exact h.2.2 (woP_spec hg (out := (a : Int)) (by omega)).1
    exact .inr ⟨h0, (hI c (by omega) hc).near a h (by omega)⟩
  ·rintro (e | ⟨h0, h⟩)
   ·subst e; exact Dm.refl hg (hall a ha)
   ·exact h.trans hg (hI c (by omega) hc).ov
theorem reached_all {f : Fu} (h : reachedP f = true) (h0 : 0 < f.blks.length) (hg : goodP (waysP f) = true) : ∀ i : Nat, i < (waysP f).length -> (i : Int) ∈ (walkP (waysP f)).bl := by
 intro i hi
 unfold reachedP reachP at h
 rw [if_pos hg, List.all_eq_true] at h
 have := h (decide ((i : Int) ∈ (walkP (waysP f)).bl)) (by
  unfold rch
  exact List.mem_map.2 ⟨i, List.mem_range.2 hi, rfl⟩)
 simpa using this
theorem blockP_ways {f : Fu} {b : Bk} (h : blockP f b = true) : b.ways.length <= 2 /\ ∀ x ∈ b.ways, wi f.blks.length x = true := by
 simp only [blockP, termP, Bool.and_eq_true, List.all_eq_true, decide_eq_true_eq] at h
 refine ⟨?_, h.2.2.2.2.2.1⟩
 rw [h.2.2.2.2.1]
 unfold tcount
 split <;> (try split) <;> omega
theorem waysP_len (f : Fu) : (waysP f).length = f.blks.length := by simp [waysP]
theorem ways_good {f : Fu} {FS : List Fu} (h : formP FS f = true) : goodP (waysP f) = true := by
 obtain ⟨h0, hb⟩ := formP_blocks h
 simp only [goodP, Bool.and_eq_true, List.all_eq_true, decide_eq_true_eq, waysP_len]
 refine ⟨h0, fun l hl x hx => ?_⟩
 obtain ⟨b, hb1, rfl⟩ := List.mem_map.1 hl
 have := (blockP_ways (hb b hb1)).2 x hx
 simpa [wi] using this
theorem ways_two {f : Fu} {FS : List Fu} (h : formP FS f = true) : ∀ l ∈ waysP f, l.length <= 2 := by
 intro l hl
 obtain ⟨b, hb1, rfl⟩ := List.mem_map.1 hl
 exact (blockP_ways ((formP_blocks h).2 b hb1)).1
def frIn (k : Nat) (row : List Int) (S : List (List Int)) : List (List Int) := row.foldl (fun S x => S.set x.toNat (S.getD x.toNat [] ++ [(k : Int)])) S
def frN (n : Nat) (Ls : List (List Int)) : Nat -> List (List Int)
 | 0 => List.replicate n []
 | k + 1 => frIn k (Ls.getD k []) (frN n Ls k)
def frP (f : Fu) : List (List Int) := frN f.blks.length (waysP f) f.blks.length
def predsP (f : Fu) : Bool := decide (((frP f).getD 0 []).length = 0) && evr (fun b k => decide (k.preds = (frP f).getD b [])) 0 f.blks
theorem frIn_take (k : Nat) (row : List Int) (S : List (List Int)) {j : Nat} (hj : j < row.length) : frIn k (row.take (j + 1)) S = (frIn k (row.take j) S).set row[j].toNat ((frIn k (row.take j) S).getD row[j].toNat [] ++ [(k : Int)]) := by
 rw [<- List.take_append_getElem hj, frIn, List.foldl_append]
 rfl
theorem ret_bl {a b : Bool} (h : a = b) : Ending.returned (.bool a) = .returned (.bool b) := by rw [h]
theorem take_succ_eqI {L1 L2 : List Int} {j : Nat} (h1 : j < L1.length) (h2 : j < L2.length) (h : L1.take j = L2.take j) (e : L1[j] = L2[j]) : L1.take (j + 1) = L2.take (j + 1) := by
 rw [List.take_add_one, List.take_add_one, h]; simp [h1, h2, e]
set_option maxHeartbeats 1000000 in
theorem equal_any (w : World) (a1 a2 : Option Addr) (c1 c2 n1 n2 : Nat) (L1 L2 : List Int) (hn1 : n1 = L1.length) (hn2 : n2 = L2.length) (h1 : Ints w a1 c1 L1) (h2 : Ints w a2 c2 L2) :
 Calls Tryz.prog 86 #[.slice a1 n1 c1, .slice a2 n2 c2] w fun e w' => e = .returned (.bool (decide (L1 = L2))) /\ ∃ m, w' = w.drewN m := by
 have b1 : n1 <= 9223372036854775807 := by have := h1.le; have := h1.mx; omega
 have b2 : n2 <= 9223372036854775807 := by have := h2.le; have := h2.mx; omega
 have HN1 : Hid (n1 = L1.length) := hn1
 have HN2 : Hid (n2 = L2.length) := hn2
 clear hn1 hn2
 obtain ⟨R, hR⟩ : ∃ R, R = decide (L1 = L2) := ⟨_, rfl⟩
 rw [<- hR]
 have HR : Hid (R = decide (L1 = L2)) := hR
 clear hR
 by_cases hne : n1 = n2
 ·subst hne
  go_enter Tryz.func86, Tryz.ntmps86
  go_wp2
  go_loopw [13] (fun v wr => ∃ j q : Nat, j <= n1 /\ v = .int .i64 j /\ wr = w.drewN q /\ Hid (L1.take j = L2.take j)) (fun v _ => n1 - (intOf v).toNat)
  case atStart => exact ⟨0, 0, by omega, rfl, rfl, rfl⟩
  case round =>
   obtain ⟨j, q, hj, rfl, rfl, HT⟩ := hrel
   by_cases hlt : j < n1
   ·obtain ⟨g1, o1, rfl, k1⟩ := h1.out (by intro e; have := HN1.out; simp [e] at this; omega)
    obtain ⟨g2, o2, rfl, k2⟩ := h2.out (by intro e; have := HN2.out; simp [e] at this; omega)
    have p1 := k1.cell j (HN1.out ▸ hlt)
    have p2 := k2.cell j (HN2.out ▸ hlt)
    obtain ⟨x1, hx1⟩ : ∃ x, x = L1[j]'(HN1.out ▸ hlt) := ⟨_, rfl⟩
    obtain ⟨x2, hx2⟩ : ∃ x, x = L2[j]'(HN2.out ▸ hlt) := ⟨_, rfl⟩
    rw [<- hx1] at p1
    rw [<- hx2] at p2
    have HX1 : Hid (x1 = L1[j]'(HN1.out ▸ hlt)) := hx1
    have HX2 : Hid (x2 = L2[j]'(HN2.out ▸ hlt)) := hx2
    clear hx1 hx2 k1 k2
    by_cases hx : x1 = x2
    ·have HTT : Hid (L1.take (j + 1) = L2.take (j + 1)) := take_succ_eqI (HN1.out ▸ hlt) (HN2.out ▸ hlt) HT.out (by rw [<- HX1.out, <- HX2.out, hx])
     clear HX1 HX2
     subst hx
     go_wp2
     go_quiet (fail)
     go_wp2
     go_roundw
     case rel => exact ⟨j + 1, _, by omega, by go_num, rfl, HTT⟩
     case measure => simp [intOf]; omega
    ·have HF : Hid (R = false) := by
      have hne : L1 ≠ L2 := fun e => by subst e; exact hx (by rw [HX1.out, HX2.out])
      show R = false
      rw [HR.out]; simp [hne]
     clear HX1 HX2
     go_wp2
     go_quiet (fail)
     go_wp2
     go_ret
     exact ⟨ret_bl HF.out.symm, _, World.drewN_drewN _ _ _⟩
   ·have hj2 : j = n1 := by omega
    subst hj2
    have HF : Hid (R = true) := by
     have h := HT.out
     rw [List.take_of_length_le (by have := HN1.out; omega), List.take_of_length_le (by have := HN2.out; omega)] at h
     show R = true
     rw [HR.out]; simp [h]
    go_wp2
    go_ret
    exact ⟨ret_bl HF.out.symm, _, rfl⟩
 ·have HF : Hid (R = false) := by
   have hne : L1 ≠ L2 := fun e => hne (by rw [HN1.out, HN2.out, e])
   show R = false
   rw [HR.out]; simp [hne]
  go_enter Tryz.func86, Tryz.ntmps86
  go_wp2
  go_ret
  exact ⟨ret_bl HF.out.symm, 0, rfl⟩
end Go.Proofs.YtfbkopjncmkbiabGreatDoor
