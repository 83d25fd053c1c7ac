import Derived.Test.YtegoemeefmjnoaaGreatDoorJbj
set_option linter.unusedVariables false
set_option linter.unusedSimpArgs false
namespace Go.Proofs.YtegoemeefmjnoaaGreatDoor
open Go.ChangeShapes Go.WideShapes Go.ChangeAt Go.RowKit Go.Maps

/-- A number to a place, or a place to a place. -/
structure Pt where
  to_ : Int
  from_ : Int
  num : Int
  isN : Bool
def wn (n : Int) : Nat := (n % 16).toNat
theorem wn_lt (n : Int) : wn n < 16 := by unfold wn; omega
def whP (k : Nat) : Int × Int := if k < 8 then (1, (k : Int)) else (2, (k : Int) - 8)
def pI (p : Pt) : Ai := if p.isN then ⟨1, p.num, whP (wn p.to_), [], []⟩ else ⟨31, 0, whP (wn p.to_), [whP (wn p.from_)], []⟩
/-- What it leaves. -/
def hp (H : List Int) (p : Pt) : List Int := H.set (wn p.to_) (if p.isN then p.num else H.getD (wn p.from_) 0)
def plF (B : List Ai) : List Af := [⟨⟨#[115, 101, 118, 101, 110]⟩, [], 1, 0, [⟨[⟨1, 7, (1, 0), [], []⟩], 3, (1, 0), []⟩]⟩, ⟨⟨#[109, 97, 105, 110]⟩, [], 0, 8, [⟨B, 3, (0, 0), []⟩]⟩]
theorem getD_set {H : List Int} {k j : Nat} {x : Int} (hk : k < H.length) : (H.set k x).getD j 0 = if j = k then x else H.getD j 0 := by
  simp only [List.getD_eq_getElem?_getD, List.getElem?_set]
  by_cases e : k = j
  · subst e
    simp [hk]
  · rw [if_neg e, if_neg (fun q => e q.symm)]
/-- The places of an activation hold these. -/
structure Hd (F : Fa) (H : List Int) : Prop where
  rg : F.rg.length = 8
  len : H.length = 16
  fit : ∀ k : Nat, k < 16 → fitsB (H.getD k 0) = true
  r : ∀ k : Nat, k < 8 → F.rg[k]? = some (H.getD k 0)
  s : ∀ k : Nat, k < 8 → (F.sl (k : Int)).getD (-1) = H.getD (k + 8) 0
theorem Hd.get {F : Fa} {H : List Int} (h : Hd F H) {k : Nat} (hk : k < 16) : F.get (whP k) = some (H.getD k 0) := by
  by_cases q : k < 8
  · have e : whP k = (1, (k : Int)) := if_pos q
    rw [e]
    show (if (1 : Int) = 1 then (if 0 ≤ (k : Int) then F.rg[(k : Int).toNat]? else none) else if (1 : Int) = 2 then (if fitsB (k : Int) then some ((F.sl (k : Int)).getD (-1)) else none) else some (-1)) = _
    rw [if_pos rfl, if_pos (by omega), Int.toNat_natCast]
    exact h.r k q
  · have e : whP k = (2, ((k - 8 : Nat) : Int)) := by
      unfold whP
      rw [if_neg q, show (k : Int) - 8 = ((k - 8 : Nat) : Int) by omega]
    rw [e]
    show (if (2 : Int) = 1 then (if 0 ≤ ((k - 8 : Nat) : Int) then F.rg[((k - 8 : Nat) : Int).toNat]? else none) else if (2 : Int) = 2 then (if fitsB ((k - 8 : Nat) : Int) then some ((F.sl ((k - 8 : Nat) : Int)).getD (-1)) else none) else some (-1)) = _
    have f8 : fitsB ((k - 8 : Nat) : Int) = true := fits_small (by omega)
    rw [if_neg (by decide), if_pos rfl, f8, if_pos rfl, h.s (k - 8) (by omega), show k - 8 + 8 = k by omega]
theorem Hd.set {F : Fa} {H : List Int} (h : Hd F H) {k : Nat} (hk : k < 16) {x : Int} (hx : fitsB x = true) (hc : F.c < 1000000000) : ∃ F', F.set (whP k) x = some F' ∧ Hd F' (H.set k x) ∧ F'.fi = F.fi ∧ F'.bk = F.bk ∧ F'.bh = F.bh ∧ F'.c ≤ F.c + 1 := by
  have hl := h.len
  have hfit : ∀ j : Nat, j < 16 → fitsB ((H.set k x).getD j 0) = true := fun j hj => by
    rw [getD_set (by omega)]
    split
    · exact hx
    · exact h.fit j hj
  by_cases q : k < 8
  · have e : whP k = (1, (k : Int)) := if_pos q
    refine ⟨{ F with rg := F.rg.set k x }, ?_, ⟨by simp [h.rg], by simp [h.len], hfit, fun j hj => ?_, fun j hj => ?_⟩, rfl, rfl, rfl, Nat.le_succ _⟩
    · rw [e]
      unfold Fa.set
      rw [if_pos rfl, if_pos ⟨by show (0 : Int) ≤ (k : Int); omega, by show (k : Int).toNat < _; rw [h.rg]; omega⟩]
      rfl
    · rw [getD_set (by omega)]
      show (F.rg.set k x)[j]? = _
      rw [List.getElem?_set]
      by_cases ej : k = j
      · rw [if_pos ej, if_pos (by rw [h.rg]; exact q), if_pos ej.symm]
      · rw [if_neg ej, if_neg (fun e => ej e.symm)]
        exact h.r j hj
    · rw [getD_set (by omega), if_neg (by omega)]
      exact h.s j hj
  · have e : whP k = (2, ((k - 8 : Nat) : Int)) := by
      unfold whP
      rw [if_neg q, show (k : Int) - 8 = ((k - 8 : Nat) : Int) by omega]
    have f8 : fitsB ((k - 8 : Nat) : Int) = true := fits_small (by omega)
    refine ⟨{ F with sl := upd F.sl ((k - 8 : Nat) : Int) (some x), c := F.c + 1 }, ?_, ⟨h.rg, by simp [h.len], hfit, fun j hj => ?_, fun j hj => ?_⟩, rfl, rfl, rfl, Nat.le_refl _⟩
    · rw [e]
      unfold Fa.set
      rw [if_neg (show ¬ (2 : Int) = 1 by decide), if_pos rfl, f8, hx, decide_eq_true hc]
      rfl
    · rw [getD_set (by omega), if_neg (by omega)]
      exact h.r j hj
    · show (upd F.sl ((k - 8 : Nat) : Int) (some x) (j : Int)).getD (-1) = _
      unfold upd
      rw [getD_set (by omega)]
      by_cases ej : j = k - 8
      · rw [if_pos (by omega), if_pos (by omega)]
        rfl
      · rw [if_neg (by omega), if_neg (by omega)]
        exact h.s j hj
theorem Hd.on {F : Fa} {H : List Int} (h : Hd F H) (n : Nat) : Hd { F with bh := n } H := ⟨h.rg, h.len, h.fit, h.r, h.s⟩
/-- A run of it. -/
def cmA (F : Fa) (W : List Fa) (E : List (Int × Int)) (s dp : Int) : Ma := ⟨F, W, ⟨[], E, 0, 0, 0, s, 0, dp, false, hpz⟩⟩
theorem cmA_go {B : List Ai} {F F' : Fa} {W W' : List Fa} {E E' : List (Int × Int)} {s : Nat} {dp dp' : Int} (hl : W.length ≤ 900000) (hs : s ≤ 1000000) (h : (cmA F W E (s : Int) dp).adv (plF B) = some (cmA F' W' E' (s : Int) dp')) : (cmA F W E (s : Int) dp).stp (plF B) = some (true, cmA F' W' E' ((s + 1 : Nat) : Int) dp') := by
  have := stp_go (M := cmA F W E (s : Int) dp) rfl hl (show (0 : Int) ≤ (s : Int) ∧ (s : Int) ≤ 1000000000 by omega) h rfl
  rw [this]
  show some (true, (⟨F', W', ⟨[], E', 0, 0, 0, (s : Int) + 1, 0, dp', false, hpz⟩⟩ : Ma)) = _
  rw [show (s : Int) + 1 = ((s + 1 : Nat) : Int) by omega]
  rfl
structure Pf (F : Fa) (bh : Nat) (H : List Int) (s : Nat) : Prop where
  hd : Hd F H
  fi : F.fi = 1
  bk : F.bk = 0
  bh : F.bh = bh
  c : F.c ≤ s
theorem pl_adv {F : Fa} {bh : Nat} {H : List Int} {s : Nat} (h : Pf F bh H s) {B : List Ai} {x : Ai} (hx : B[bh]? = some x) (E : List (Int × Int)) (t dp : Int) : (cmA F [] E t dp).adv (plF B) = (cmA { F with bh := bh + 1 } [] E t dp).doI (plF B) x := by
  obtain ⟨fi, bk, b, rg, sl, c⟩ := F
  have e1 : fi = 1 := h.fi
  have e2 : bk = 0 := h.bk
  have e3 : b = bh := h.bh
  subst e1 e2 e3
  have hlt := (List.getElem?_eq_some_iff.1 hx).1
  have g : (cmA ⟨1, 0, b, rg, sl, c⟩ [] E t dp).adv (plF B) = if b = B.length then (cmA ⟨1, 0, b, rg, sl, c⟩ [] E t dp).leave (plF B) ⟨B, 3, (0, 0), []⟩ else (match B[b]? with | none => none | some x => (cmA ⟨1, 0, b, rg, sl, c⟩ [] E t dp).on.doI (plF B) x) := by rfl
  rw [g, if_neg (by omega), hx]
  rfl
theorem do_num (FS : List Af) (M : Ma) (n : Int) (l : Int × Int) (ho : M.over = false) : M.doI FS ⟨1, n, l, [], []⟩ = M.set l n := by
  have h : M.doI FS ⟨1, n, l, [], []⟩ = if M.over then some M else M.set l n := by rfl
  rw [h, ho]
  rfl
theorem do_move (FS : List Af) (M : Ma) (l k : Int × Int) (ho : M.over = false) {a : Int} (ha : M.get k = some a) : M.doI FS ⟨31, 0, l, [k], []⟩ = M.set l a := by
  have h : M.doI FS ⟨31, 0, l, [k], []⟩ = (match M.get k with | none => none | some a => if M.over then some M else M.set l a) := by
    unfold Ma.doI Ma.gets
    rw [if_neg (show ¬ (31 : Int) = 25 by decide), if_neg (show ¬ 3 < [k].length by simp)]
    show (match allA [M.get k] with | none => none | some A => _) = _
    rw [ha]
    rfl
  rw [h, ha]
  show (if M.over = true then _ else _) = _
  rw [ho]
  rfl
theorem do_tell (FS : List Af) (M : Ma) (k : Int × Int) (ho : M.over = false) (hE : M.wv.ev.length ≠ 1048576) {a : Int} (ha : M.get k = some a) : M.doI FS ⟨26, 0, (0, 0), [k], []⟩ = some { M with wv := { M.wv with ev := M.wv.ev ++ [(1, a)] } } := by
  have h : M.doI FS ⟨26, 0, (0, 0), [k], []⟩ = (fun V : Wv => if V.over then some { M with wv := V } else some { M with wv := V }) (M.wv.tell 1 a) := by
    unfold Ma.doI Ma.gets
    rw [if_neg (show ¬ (26 : Int) = 25 by decide), if_neg (show ¬ 3 < [k].length by simp)]
    show (match allA [M.get k] with | none => none | some A => _) = _
    rw [ha]
    rfl
  rw [h]
  unfold Wv.tell
  rw [if_neg hE]
  show (if _ then _ else _) = _
  rw [ite_self]
theorem pl_put {F : Fa} {bh : Nat} {H : List Int} {s : Nat} (h : Pf F bh H s) {B : List Ai} {p : Pt} (hx : B[bh]? = some (pI p)) (hn : fitsB p.num = true) (hs : s ≤ 1000000) (E : List (Int × Int)) (dp : Int) : ∃ F', (cmA F [] E (s : Int) dp).stp (plF B) = some (true, cmA F' [] E ((s + 1 : Nat) : Int) dp) ∧ Pf F' (bh + 1) (hp H p) (s + 1) := by
  have ha := pl_adv h hx E (s : Int) dp
  have h1 : Hd { F with bh := bh + 1 } H := h.hd.on (bh + 1)
  have hc := h.c
  have hkey : ∀ y, fitsB y = true → (cmA { F with bh := bh + 1 } [] E (s : Int) dp).doI (plF B) (pI p) = (cmA { F with bh := bh + 1 } [] E (s : Int) dp).set (whP (wn p.to_)) y → hp H p = H.set (wn p.to_) y → ∃ F', (cmA F [] E (s : Int) dp).stp (plF B) = some (true, cmA F' [] E ((s + 1 : Nat) : Int) dp) ∧ Pf F' (bh + 1) (hp H p) (s + 1) := by
    intro y hy hd he
    obtain ⟨F', e, g, g1, g2, g3, g4⟩ := h1.set (wn_lt p.to_) hy (by show F.c < _; omega)
    refine ⟨F', cmA_go (Nat.zero_le _) hs ?_, ⟨by rw [he]; exact g, g1.trans h.fi, g2.trans h.bk, g3, Nat.le_trans g4 (by show F.c + 1 ≤ _; omega)⟩⟩
    rw [ha, hd]
    unfold Ma.set
    show (({ F with bh := bh + 1 } : Fa).set (whP (wn p.to_)) y).map _ = _
    rw [e]
    rfl
  obtain ⟨t, f, n, b⟩ := p
  cases b with
  | true => exact hkey n hn (do_num _ _ _ _ rfl) rfl
  | false => exact hkey (H.getD (wn f) 0) (h.hd.fit _ (wn_lt f)) (do_move _ _ _ _ rfl (h1.get (wn_lt f))) rfl
theorem pl_puts {B : List Ai} (E : List (Int × Int)) (dp : Int) : ∀ (l : List Pt) (F : Fa) (bh : Nat) (H : List Int) (s : Nat), Pf F bh H s → (∀ i (hi : i < l.length), B[bh + i]? = some (pI l[i])) → (∀ p ∈ l, fitsB p.num = true) → s + l.length ≤ 1000000 → ∃ F', WayA (plF B) l.length (cmA F [] E (s : Int) dp) (cmA F' [] E ((s + l.length : Nat) : Int) dp) ∧ Pf F' (bh + l.length) (l.foldl hp H) (s + l.length)
  | [], F, bh, H, s, h, _, _, _ => ⟨F, .zero, h⟩
  | p :: l, F, bh, H, s, h, hB, hf, hs => by
    simp only [List.length_cons] at hs
    obtain ⟨F1, e1, h1⟩ := pl_put h (hB 0 (by simp)) (hf p (by simp)) (by omega) E dp
    obtain ⟨F2, e2, h2⟩ := pl_puts E dp l F1 (bh + 1) (hp H p) (s + 1) h1 (fun i hi => by
      have := hB (i + 1) (by simpa using hi)
      rw [show bh + (i + 1) = bh + 1 + i by omega] at this
      exact this) (fun q hq => hf q (by simp [hq])) (by omega)
    refine ⟨F2, ?_, ?_⟩
    · have z := (WayA.one e1).trans e2
      rw [show 1 + l.length = (p :: l).length by simp; omega, show s + 1 + l.length = s + (p :: l).length by simp; omega] at z
      exact z
    · rw [show bh + 1 + l.length = bh + (p :: l).length by simp; omega, show s + 1 + l.length = s + (p :: l).length by simp; omega] at h2
      exact h2
theorem foldl_at (R : List Int) (k : Nat) (hk : k < 8) : ∀ (S : List Int) (A : List Int), A.length = 8 → (∀ x ∈ S, 0 ≤ x ∧ x < 8) → (S.foldl (fun A k => A.set k.toNat (R.getD k.toNat 0)) A).length = 8 ∧ (S.foldl (fun A k => A.set k.toNat (R.getD k.toNat 0)) A)[k]? = if (k : Int) ∈ S then some (R.getD k 0) else A[k]?
  | [], A, hA, _ => ⟨hA, by simp⟩
  | x :: S, A, hA, hS => by
    have hx := hS x (by simp)
    obtain ⟨q1, q2⟩ := foldl_at R k hk S (A.set x.toNat (R.getD x.toNat 0)) (by simpa using hA) (fun y hy => hS y (by simp [hy]))
    refine ⟨q1, ?_⟩
    rw [List.foldl_cons, q2]
    by_cases e : (k : Int) ∈ S
    · rw [if_pos e, if_pos (by simp [e])]
    · rw [if_neg e, List.getElem?_set]
      by_cases ex : x.toNat = k
      · rw [if_pos ex, if_pos (by omega), if_pos (by have : (k : Int) = x := by omega
                                                     simp [this]), ex]
      · rw [if_neg ex, if_neg (by
          intro q
          rcases List.mem_cons.1 q with q | q
          · omega
          · exact e q)]
/-- What a call leaves. -/
def cutH (S : List Int) (H : List Int) : List Int := (List.range 16).map fun (k : Nat) => if k < 8 ∧ ¬ ((k : Int) ∈ S) then -1 else H.getD k 0
theorem cutH_at (S H : List Int) {k : Nat} (hk : k < 16) : (cutH S H).getD k 0 = if k < 8 ∧ ¬ ((k : Int) ∈ S) then -1 else H.getD k 0 := by
  unfold cutH
  rw [List.getD_eq_getElem?_getD, List.getElem?_map, List.getElem?_range hk]
  rfl
theorem Hd.keep {F : Fa} {H : List Int} (h : Hd F H) {S : List Int} (hS : ∀ x ∈ S, 0 ≤ x ∧ x < 8) : Hd { F with rg := keeps F.rg S } (cutH S H) := by
  have g := fun k hk => foldl_at F.rg k hk S (List.replicate 8 (-1)) (by simp) hS
  refine ⟨(g 0 (by omega)).1, by simp [cutH], fun k hk => ?_, fun k hk => ?_, fun k hk => ?_⟩
  · rw [cutH_at S H hk]
    split
    · decide
    · exact h.fit k hk
  · rw [cutH_at S H (by omega)]
    show (keeps F.rg S)[k]? = _
    unfold keeps
    rw [(g k hk).2]
    by_cases e : (k : Int) ∈ S
    · rw [if_pos e, if_neg (fun q => q.2 e), List.getD_eq_getElem?_getD, h.r k hk]
      rfl
    · rw [if_neg e, if_pos ⟨hk, e⟩, List.getElem?_replicate, if_pos hk]
  · rw [cutH_at S H (by omega), if_neg (by omega)]
    exact h.s k hk
theorem pl_c1 (B : List Ai) (A : Fa) (E : List (Int × Int)) (t dp : Int) : (cmA (Fa.new 0) [A] E t dp).adv (plF B) = some (cmA ⟨0, 0, 1, [7, -1, -1, -1, -1, -1, -1, -1], fun _ => none, 0⟩ [A] E t dp) := by kernel_rfl
theorem pl_c2 (B : List Ai) (A : Fa) (E : List (Int × Int)) (t dp : Int) : (cmA ⟨0, 0, 1, [7, -1, -1, -1, -1, -1, -1, -1], fun _ => none, 0⟩ [A] E t dp).adv (plF B) = (cmA ⟨0, 0, 1, [7, -1, -1, -1, -1, -1, -1, -1], fun _ => none, 0⟩ [A] E t dp).back (plF B) 7 := by kernel_rfl
theorem pl_call {F : Fa} {bh : Nat} {H : List Int} {s : Nat} (h : Pf F bh H s) {B : List Ai} {S : List Int} (hx : B[bh]? = some ⟨25, 0, (0, 0), [], S⟩) (hS : ∀ x ∈ S, 0 ≤ x ∧ x < 8) (hs : s ≤ 900000) (E : List (Int × Int)) (dp : Int) : ∃ F' dp', WayA (plF B) 3 (cmA F [] E (s : Int) dp) (cmA F' [] E ((s + 3 : Nat) : Int) dp') ∧ Pf F' (bh + 1) (cutH S H) (s + 3) := by
  have ha := pl_adv h hx E (s : Int) dp
  obtain ⟨A, hA⟩ : ∃ A : Fa, A = { F with bh := bh + 1 } := ⟨_, rfl⟩
  rw [← hA] at ha
  have e0 : (cmA A [] E (s : Int) dp).doI (plF B) ⟨25, 0, (0, 0), [], S⟩ = some (cmA (Fa.new 0) [A] E (s : Int) (max dp 2)) := by rfl
  have h0 := cmA_go (B := B) (Nat.zero_le _) (by omega) (ha.trans e0)
  have h1 := cmA_go (s := s + 1) (B := B) (show [A].length ≤ 900000 by simp) (by omega) (pl_c1 B A E ((s + 1 : Nat) : Int) (max dp 2))
  have hi : insOf (plF B) A = some ⟨25, 0, (0, 0), [], S⟩ := by
    obtain ⟨fi, bk, b, rg, sl, c⟩ := F
    have e1 : fi = 1 := h.fi
    have e2 : bk = 0 := h.bk
    subst e1 e2
    subst hA
    have : insOf (plF B) (⟨1, 0, bh + 1, rg, sl, c⟩ : Fa) = if bh + 1 < 1 then none else B[bh + 1 - 1]? := by rfl
    rw [this, if_neg (by omega)]
    exact hx
  have hk : A.keep S = some { A with rg := keeps A.rg S } := by
    unfold Fa.keep
    rw [if_pos (List.all_eq_true.2 fun x hx => by have := hS x hx; simp; omega)]
  have hb : ∀ t, (cmA ⟨0, 0, 1, [7, -1, -1, -1, -1, -1, -1, -1], fun _ => none, 0⟩ [A] E t (max dp 2)).back (plF B) 7 = some (cmA { A with rg := keeps A.rg S } [] E t (max dp 2)) := fun t => by
    unfold Ma.back
    show (match insOf (plF B) A with | none => none | some x => _) = _
    rw [hi]
    show (match A.keep S with | none => none | some F' => _) = _
    rw [hk]
    rfl
  have h2 := cmA_go (s := s + 2) (B := B) (show [A].length ≤ 900000 by simp) (by omega) ((pl_c2 B A E ((s + 2 : Nat) : Int) (max dp 2)).trans (hb _))
  refine ⟨{ A with rg := keeps A.rg S }, max dp 2, ((WayA.one h0).more h1).more h2, ?_⟩
  have g : Hd A H := by rw [hA]; exact h.hd.on _
  have hc := h.c
  exact ⟨g.keep hS, by rw [hA]; exact h.fi, by rw [hA]; exact h.bk, by rw [hA], by rw [hA]; show F.c ≤ _; omega⟩
theorem pl_tell {F : Fa} {bh : Nat} {H : List Int} {s : Nat} (h : Pf F bh H s) {B : List Ai} {k : Nat} (hk : k < 16) (hx : B[bh]? = some ⟨26, 0, (0, 0), [whP k], []⟩) (hs : s ≤ 1000000) {E : List (Int × Int)} (hE : E.length ≠ 1048576) (dp : Int) : ∃ F', (cmA F [] E (s : Int) dp).stp (plF B) = some (true, cmA F' [] (E ++ [(1, H.getD k 0)]) ((s + 1 : Nat) : Int) dp) ∧ Pf F' (bh + 1) H (s + 1) := by
  have ha := pl_adv h hx E (s : Int) dp
  have h1 : Hd { F with bh := bh + 1 } H := h.hd.on (bh + 1)
  refine ⟨{ F with bh := bh + 1 }, cmA_go (Nat.zero_le _) hs ?_, ⟨h1, h.fi, h.bk, rfl, Nat.le_succ_of_le h.c⟩⟩
  have hg : (cmA { F with bh := bh + 1 } [] E (s : Int) dp).get (whP k) = some (H.getD k 0) := h1.get hk
  rw [ha, do_tell _ _ _ rfl hE hg]
  rfl
/-- The first of the numbers, as they are told. -/
def tev (H : List Int) (k : Nat) : List (Int × Int) := (List.range k).map fun (j : Nat) => ((1 : Int), H.getD j 0)
theorem tev_len (H : List Int) (k : Nat) : (tev H k).length = k := by simp [tev]
theorem tev_at (H : List Int) (k j : Nat) (h : j < (tev H k).length) : (tev H k)[j] = (1, H.getD j 0) := by simp [tev]
theorem pl_tells {B : List Ai} {H : List Int} {bh s : Nat} (dp : Int) (hB : ∀ k, k < 16 → B[bh + k]? = some ⟨26, 0, (0, 0), [whP k], []⟩) (hs : s ≤ 900000) {F : Fa} (h : Pf F bh H s) : ∀ k : Nat, k ≤ 16 → ∃ F', WayA (plF B) k (cmA F [] [] (s : Int) dp) (cmA F' [] (tev H k) ((s + k : Nat) : Int) dp) ∧ Pf F' (bh + k) H (s + k)
  | 0, _ => ⟨F, .zero, h⟩
  | k + 1, hk => by
    obtain ⟨F1, e1, h1⟩ := pl_tells dp hB hs h k (by omega)
    obtain ⟨F2, e2, h2⟩ := pl_tell h1 (by omega) (hB k (by omega)) (by omega) (E := tev H k) (by rw [tev_len]; omega) dp
    refine ⟨F2, ?_, h2⟩
    have z := e1.more e2
    rw [show tev H (k + 1) = tev H k ++ [(1, H.getD k 0)] by simp [tev, List.range_succ]]
    exact z
theorem pl_end {B : List Ai} {F : Fa} {H : List Int} {s : Nat} (h : Pf F B.length H s) (E : List (Int × Int)) (dp : Int) (hs : s ≤ 1000000) : ∃ M', (cmA F [] E (s : Int) dp).stp (plF B) = some (true, M') ∧ M'.wv = ⟨[], E, 1, 0, 0, (s : Int) + 1, 0, dp, false, hpz⟩ ∧ M'.over = true := by
  obtain ⟨fi, bk, b, rg, sl, c⟩ := F
  have e1 : fi = 1 := h.fi
  have e2 : bk = 0 := h.bk
  have e3 : b = B.length := h.bh
  subst e1 e2
  have g : (cmA ⟨1, 0, b, rg, sl, c⟩ [] E (s : Int) dp).adv (plF B) = if b = B.length then some ⟨⟨1, 0, b, rg, sl, c⟩, [], ⟨[], E, 1, 0, 0, (s : Int), 0, dp, false, hpz⟩⟩ else (match B[b]? with | none => none | some x => (cmA ⟨1, 0, b, rg, sl, c⟩ [] E (s : Int) dp).on.doI (plF B) x) := by rfl
  rw [if_pos e3] at g
  exact ⟨_, stp_go (M := cmA ⟨1, 0, b, rg, sl, c⟩ [] E (s : Int) dp) rfl (Nat.zero_le _) (show (0 : Int) ≤ (s : Int) ∧ (s : Int) ≤ 1000000000 by omega) g rfl, rfl, rfl⟩
def prI (k : Nat) : Ai := ⟨26, 0, (0, 0), [whP k], []⟩
def midI : Option (List Int) → List Ai
  | none => []
  | some S => [⟨25, 0, (0, 0), [], S⟩]
def midH (H : List Int) : Option (List Int) → List Int
  | none => H
  | some S => cutH S H
/-- The whole body. -/
def plB (l1 l2 : List Pt) (c : Option (List Int)) : List Ai := l1.map pI ++ (midI c ++ (l2.map pI ++ (List.range 16).map prI))
/-- What is held behind it. -/
def plH (l1 l2 : List Pt) (c : Option (List Int)) : List Int := l2.foldl hp (midH (l1.foldl hp (List.replicate 16 (-1))) c)
theorem pl_run (l1 l2 : List Pt) (c : Option (List Int)) (h1 : l1.length ≤ 300) (h2 : l2.length ≤ 300) (f1 : ∀ p ∈ l1, fitsB p.num = true) (f2 : ∀ p ∈ l2, fitsB p.num = true) (hc : ∀ S, c = some S → ∀ x ∈ S, 0 ≤ x ∧ x < 8) : ∃ (N : Nat) (MF : Ma) (st dp : Int), N ≤ 1000 ∧ WayA (plF (plB l1 l2 c)) N (Ma.start [] 1) MF ∧ MF.wv = ⟨[], tev (plH l1 l2 c) 16, 1, 0, 0, st, 0, dp, false, hpz⟩ ∧ MF.over = true := by
  have p0 : Pf (Fa.new 1) 0 (List.replicate 16 (-1)) 0 := ⟨⟨rfl, rfl, fun k hk => by
    have : (List.replicate 16 (-1 : Int)).getD k 0 = -1 := by rw [List.getD_eq_getElem?_getD, List.getElem?_replicate, if_pos hk]; rfl
    rw [this]
    decide, fun k hk => by
    have : (List.replicate 16 (-1 : Int)).getD k 0 = -1 := by rw [List.getD_eq_getElem?_getD, List.getElem?_replicate, if_pos (by omega)]; rfl
    rw [this]
    show (List.replicate 8 (-1 : Int))[k]? = _
    rw [List.getElem?_replicate, if_pos hk], fun k hk => by
    have : (List.replicate 16 (-1 : Int)).getD (k + 8) 0 = -1 := by rw [List.getD_eq_getElem?_getD, List.getElem?_replicate, if_pos (by omega)]; rfl
    rw [this]
    rfl⟩, rfl, rfl, rfl, Nat.le_refl _⟩
  have s0 : Ma.start [] 1 = cmA (Fa.new 1) [] [] ((0 : Nat) : Int) 1 := rfl
  rw [s0]
  obtain ⟨B, hB⟩ : ∃ B, B = plB l1 l2 c := ⟨_, rfl⟩
  rw [← hB]
  have hBl : ∀ C D : List Ai, ∀ i (hi : i < C.length), (C ++ D)[i]? = some C[i] := fun C D i hi => by rw [List.getElem?_append_left hi, List.getElem?_eq_getElem hi]
  obtain ⟨F1, w1, q1⟩ := pl_puts (B := B) [] 1 l1 (Fa.new 1) 0 (List.replicate 16 (-1)) 0 p0 (fun i hi => by
    rw [hB]
    unfold plB
    rw [Nat.zero_add, hBl _ _ i (by simpa using hi), List.getElem_map]) f1 (by omega)
  simp only [Nat.zero_add] at w1 q1
  obtain ⟨F2, n2, k2, dp2, hn2, w2, q2, hk2⟩ : ∃ F2 n2 k2 dp2, n2 ≤ 3 ∧ WayA (plF B) n2 (cmA F1 [] [] (l1.length : Int) 1) (cmA F2 [] [] ((l1.length + n2 : Nat) : Int) dp2) ∧ Pf F2 (l1.length + k2) (midH (l1.foldl hp (List.replicate 16 (-1))) c) (l1.length + n2) ∧ k2 = (midI c).length := by
    cases c with
    | none => exact ⟨F1, 0, 0, 1, by omega, .zero, q1, rfl⟩
    | some S =>
      obtain ⟨F2, dp2, w2, q2⟩ := pl_call q1 (B := B) (S := S) (by
        rw [hB]
        unfold plB
        rw [List.getElem?_append_right (by simp)]
        simp [midI]) (hc S rfl) (by omega) [] 1
      exact ⟨F2, 3, 1, dp2, by omega, w2, q2, rfl⟩
  obtain ⟨F3, w3, q3⟩ := pl_puts (B := B) [] dp2 l2 F2 (l1.length + k2) _ (l1.length + n2) q2 (fun i hi => by
    rw [hB]
    unfold plB
    rw [List.getElem?_append_right (by simp; omega), List.length_map, Nat.add_assoc, Nat.add_sub_cancel_left, List.getElem?_append_right (by rw [← hk2]; omega), ← hk2, Nat.add_sub_cancel_left, hBl _ _ i (by simpa using hi), List.getElem_map]) f2 (by omega)
  obtain ⟨F4, w4, q4⟩ := pl_tells (B := B) (H := plH l1 l2 c) (bh := l1.length + k2 + l2.length) (s := l1.length + n2 + l2.length) dp2 (fun k hk => by
    rw [hB]
    unfold plB
    rw [List.getElem?_append_right (by simp; omega), List.length_map, Nat.add_assoc, Nat.add_assoc, Nat.add_sub_cancel_left, List.getElem?_append_right (by rw [← hk2]; omega), ← hk2, Nat.add_sub_cancel_left, List.getElem?_append_right (by simp), List.length_map, Nat.add_sub_cancel_left, List.getElem?_map, List.getElem?_range hk]
    rfl) (by omega) q3 16 (Nat.le_refl _)
  have hlen : l1.length + k2 + l2.length + 16 = B.length := by
    rw [hB]
    unfold plB
    simp only [List.length_append, List.length_map, List.length_range]
    rw [← hk2]
    omega
  rw [hlen] at q4
  obtain ⟨MF, e5, g5, o5⟩ := pl_end q4 (tev (plH l1 l2 c) 16) dp2 (by omega)
  exact ⟨l1.length + n2 + l2.length + 16 + 1, MF, _, dp2, by omega, (((w1.trans w2).trans w3).trans w4).more e5, g5, o5⟩
end Go.Proofs.YtegoemeefmjnoaaGreatDoor
