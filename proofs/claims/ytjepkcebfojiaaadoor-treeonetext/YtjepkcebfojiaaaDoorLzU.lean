import Derived.Test.YtjepkcebfojiaaaDoorLzT
import Derived.Test.YtjepkcebfojiaaaDoorTzA
set_option linter.unusedVariables false
set_option linter.unusedSimpArgs false
namespace Go.Proofs.YtjepkcebfojiaaaDoor
open Go.ChangeShapes Go.WideShapes Go.ChangeAt Go.RowKit

/-- What a text tells of a node. -/
abbrev Lb : Type := Int × Int × Int × Int × List UInt8 × Nat
def lab (n : Nd) : Lb := (n.kind, n.decl, n.op, n.val, n.name, n.kids.length)
/-- The sign between two, of a token's kind; its level. -/
def opOf (k : Int) : Option Int := ([1, 2, 3, 4, 5, 6, 7, 8, 9, 10, 11, 12, 13, 14, 15, 16, 17, 18, 19] : List Int).find? fun p => (opK p : Int) == k
def unOf (k : Int) : Option Int := if k = 56 then some 20 else if k = 68 then some 21 else if k = 62 then some 22 else none
theorem opOf_opK {p : Int} (h1 : 1 ≤ p) (h2 : p ≤ 19) : opOf (opK p : Int) = some p := by
  have hk2 : p = 1 ∨ p = 2 ∨ p = 3 ∨ p = 4 ∨ p = 5 ∨ p = 6 ∨ p = 7 ∨ p = 8 ∨ p = 9 ∨ p = 10 ∨ p = 11 ∨ p = 12 ∨ p = 13 ∨ p = 14 ∨ p = 15 ∨ p = 16 ∨ p = 17 ∨ p = 18 ∨ p = 19 := by omega
  rcases hk2 with rfl | rfl | rfl | rfl | rfl | rfl | rfl | rfl | rfl | rfl | rfl | rfl | rfl | rfl | rfl | rfl | rfl | rfl | rfl <;> decide
mutual
/-- An expression of a level: its labels, and what is left. -/
def pE : Nat → Int → List Tok → Option (List Lb × List Tok)
  | 0, _, _ => none
  | f + 1, m, toks => (pP f toks).bind fun x => pL f m x.1 x.2
/-- What it begins with. -/
def pP : Nat → List Tok → Option (List Lb × List Tok)
  | 0, _ => none
  | _ + 1, [] => none
  | f + 1, t :: r =>
    if t.1 = 2 then some ([(20, 0, 0, t.2.1, [], 0)], r)
    else if t.1 = 25 then some ([(21, 0, 0, 0, [], 0)], r)
    else if t.1 = 26 then some ([(22, 0, 0, 0, [], 0)], r)
    else if t.1 = 27 then some ([(23, 0, 0, 0, [], 0)], r)
    else if t.1 = 1 then (if (r.head?.map Prod.fst) = some 40 then (pA f (r.drop 1)).bind fun x => some (x.1 ++ [(25, 0, 0, 0, t.2.2, x.2.1)], x.2.2) else some ([(24, 0, 0, 0, t.2.2, 0)], r))
    else if t.1 = 20 then some ([(26, 0, 0, 0, [], 0)], r.drop 2)
    else if t.1 = 21 then (pE f 1 (r.drop 1)).bind fun x => some (x.1 ++ [(27, 0, 0, 0, [], 1)], x.2.drop 1)
    else if t.1 = 22 then (pE f 1 (r.drop 5)).bind fun x => some (x.1 ++ [(28, 0, 0, 0, [], 1)], x.2.drop 1)
    else if t.1 = 40 then (pE f 1 r).bind fun x => some (x.1, x.2.drop 1)
    else (unOf t.1).bind fun p => (pE f 6 r).bind fun x => some (x.1 ++ [(30, 0, p, 0, [], 1)], x.2)
/-- What may come behind it, from the left to the right. -/
def pL : Nat → Int → List Lb → List Tok → Option (List Lb × List Tok)
  | 0, _, _, _ => none
  | _ + 1, _, acc, [] => some (acc, [])
  | f + 1, m, acc, t :: r =>
    if t.1 = 44 then (pE f 1 r).bind fun x => pL f m (acc ++ x.1 ++ [(29, 0, 0, 0, [], 2)]) (x.2.drop 1)
    else match opOf t.1 with
      | some p => if m ≤ lvOp p then (pE f (lvOp p + 1) r).bind fun x => pL f m (acc ++ x.1 ++ [(31, 0, p, 0, [], 2)]) x.2 else some (acc, t :: r)
      | none => some (acc, t :: r)
/-- The arguments of a call, to the parenthesis. -/
def pA : Nat → List Tok → Option (List Lb × Nat × List Tok)
  | 0, _ => none
  | _ + 1, [] => none
  | f + 1, t :: r =>
    if t.1 = 41 then some ([], 0, r)
    else if t.1 = 46 then (pE f 1 r).bind fun x => (pA f x.2).bind fun y => some (x.1 ++ y.1, y.2.1 + 1, y.2.2)
    else (pE f 1 (t :: r)).bind fun x => (pA f x.2).bind fun y => some (x.1 ++ y.1, y.2.1 + 1, y.2.2)
end
/-- The labels of a node and of what is below it. -/
def lsf (N : List Nd) : Nat → Int → List Lb
  | 0, _ => []
  | f + 1, k => (ndOf N k).kids.flatMap (lsf N f) ++ [lab (ndOf N k)]
def LSx (N : List Nd) (k : Int) : List Lb := lsf N (k.toNat + 1) k
theorem lsf_fuel {N : List Nd} (hF : FitK N) : ∀ (f g : Nat) (k : Int), 0 ≤ k → k < N.length → k.toNat < f → k.toNat < g → lsf N f k = lsf N g k
  | 0, _, _, _, _, h, _ => absurd h (by omega)
  | _, 0, _, _, _, _, h => absurd h (by omega)
  | f + 1, g + 1, k, h0, h1, hf, hg => by
    have hk : k.toNat < N.length := by omega
    have e : ndOf N k = N[k.toNat] := by simp [ndOf, List.getD, hk]
    simp only [lsf]
    congr 1
    rw [e]
    have : ∀ l : List Int, (∀ x ∈ l, lsf N f x = lsf N g x) → l.flatMap (lsf N f) = l.flatMap (lsf N g) := by
      intro l
      induction l with
      | nil => intro _; rfl
      | cons a l ih => intro h; rw [List.flatMap_cons, List.flatMap_cons, h a (by simp), ih fun y hy => h y (by simp [hy])]
    refine this _ fun x hx => ?_
    have := hF k.toNat hk x hx
    exact lsf_fuel hF f g x (by omega) (by omega) (by omega) (by omega)
theorem LSx_eq {N : List Nd} (hF : FitK N) (i : Nat) (hi : i < N.length) : LSx N (i : Int) = N[i].kids.flatMap (LSx N) ++ [lab N[i]] := by
  have e : ndOf N (i : Int) = N[i] := by simp [ndOf, List.getD, hi]
  unfold LSx
  rw [lsf, e]
  congr 1
  have : ∀ l : List Int, (∀ x ∈ l, lsf N (i : Int).toNat x = lsf N (x.toNat + 1) x) → l.flatMap (lsf N (i : Int).toNat) = l.flatMap fun x => lsf N (x.toNat + 1) x := by
    intro l
    induction l with
    | nil => intro _; rfl
    | cons a l ih => intro h; rw [List.flatMap_cons, List.flatMap_cons, h a (by simp), ih fun y hy => h y (by simp [hy])]
  refine this _ fun x hx => ?_
  have := hF i hi x hx
  exact lsf_fuel hF _ _ x (by omega) (by omega) (by omega) (by omega)
/-- All labels, function by function, are the nodes' in their order. -/
theorem stk_lab {N : List Nd} (hF : FitK N) : ∀ (R : List Nd) (l : List Int) (i : Nat) (F : List Int), N.drop i = R → i ≤ N.length → stk l i (R.map Nd.kids) = some F → F.flatMap (LSx N) = l.flatMap (LSx N) ++ R.map lab
  | [], l, i, F, _, _, h => by
    simp [stk] at h
    subst h
    simp
  | n :: R, l, i, F, hd, hi, h => by
    have hi' : i < N.length := by
      rcases Nat.lt_or_ge i N.length with h | h
      · exact h
      · rw [List.drop_of_length_le h] at hd; cases hd
    have hd2 := List.drop_eq_getElem_cons hi'
    rw [hd] at hd2
    obtain ⟨rfl, hR⟩ := List.cons.inj hd2
    obtain ⟨h1, h2, h3⟩ := stk_cons h
    have := stk_lab hF R _ (i + 1) F hR.symm (by omega) h3
    rw [this, List.flatMap_append]
    have e2 : l.flatMap (LSx N) = (l.take (l.length - N[i].kids.length)).flatMap (LSx N) ++ N[i].kids.flatMap (LSx N) := by
      conv => lhs; rw [← List.take_append_drop (l.length - N[i].kids.length) l, List.flatMap_append]
      rw [h2]
    rw [e2]
    have e3 : [((i : Nat) : Int)].flatMap (LSx N) = LSx N (i : Int) := by simp
    rw [e3, LSx_eq hF i hi']
    simp
/-- Trees of the same labels are alike. -/
theorem alk_of_labels {T U : Tr} (hT : chk T = true) (hU : chk U = true) (h : T.nodes.map lab = U.nodes.map lab) : AlkF T U := by
  have hl : T.nodes.length = U.nodes.length := by have := congrArg List.length h; simpa using this
  have he : ∀ (i : Nat) (h1 : i < T.nodes.length) (h2 : i < U.nodes.length), lab T.nodes[i] = lab U.nodes[i] := fun i h1 h2 => by
    have := List.getElem_of_eq h (i := i) (by simpa using h1)
    simpa using this
  have hk : (T.nodes.map Nd.kids).map List.length = (U.nodes.map Nd.kids).map List.length := by
    refine List.ext_getElem (by simpa using hl) fun i h1 h2 => ?_
    simp at h1 h2
    have := he i h1 h2
    simp only [lab, Prod.mk.injEq] at this
    simpa using this.2.2.2.2.2
  obtain ⟨hK, hF⟩ := stk_same _ _ _ _ _ _ (chk_stk hT).1 (chk_stk hU).1 hk
  refine ⟨⟨hl, fun i h1 h2 => ?_⟩, hF⟩
  have h3 := he i h1 h2
  simp only [lab, Prod.mk.injEq] at h3
  have h4 := List.getElem_of_eq hK (i := i) (by simpa using h1)
  simp at h4
  exact ⟨h3.1, h3.2.1, h3.2.2.1, h3.2.2.2.1, h3.2.2.2.2.1, h4⟩
end Go.Proofs.YtjepkcebfojiaaaDoor
namespace Go.Proofs.YtjepkcebfojiaaaDoor
open Go.ChangeShapes Go.WideShapes Go.ChangeAt Go.RowKit

/-- Behind an expression of a level: nothing that would go on with it. -/
def Stop (k : Int) (R : List Tok) : Prop := ∀ t r, R = t :: r → t.1 ≠ 40 ∧ (k < 7 → t.1 ≠ 44 ∧ ∀ p, opOf t.1 = some p → lvOp p ≤ k)
def Done (m : Int) (R : List Tok) : Prop := ∀ t r, R = t :: r → t.1 ≠ 44 ∧ ∀ p, opOf t.1 = some p → lvOp p < m
theorem pL_done {m : Int} {R : List Tok} (h : Done m R) (f : Nat) (acc : List Lb) : pL (f + 1) m acc R = some (acc, R) := by
  cases R with
  | nil => simp [pL]
  | cons t r =>
    obtain ⟨h1, h2⟩ := h t r rfl
    simp only [pL, if_neg h1]
    split
    · next p hp => rw [if_neg (by have := h2 p hp; omega)]
    · rfl
def HK (k : Int) : Prop := k = 1 ∨ k = 2 ∨ k = 20 ∨ k = 21 ∨ k = 22 ∨ k = 25 ∨ k = 26 ∨ k = 27 ∨ k = 40 ∨ k = 56 ∨ k = 62 ∨ k = 68
/-- The parser reads an expression as it is. -/
structure SE (N : List Nd) (x : Int) : Prop where
  out : ∀ (m : Int) (R : List Tok), m ≤ lv (ndOf N x) → Stop (lv (ndOf N x)) R → ∃ c, ∀ f, c ≤ f → ∃ f', f ≤ f' + c ∧ pE f m (TS N x ++ R) = pL f' m (LSx N x) R
  hd : ∃ t r, TS N x = t :: r ∧ HK t.1
theorem SE.one {N x} (h : SE N x) {m : Int} {R : List Tok} (hm : m ≤ lv (ndOf N x)) (hs : Stop (lv (ndOf N x)) R) (hd : Done m R) : ∃ c, ∀ f, c ≤ f → pE f m (TS N x ++ R) = some (LSx N x, R) := by
  obtain ⟨c, hc⟩ := h.out m R hm hs
  refine ⟨c + 1, fun f hf => ?_⟩
  obtain ⟨f', h1, h2⟩ := hc f (by omega)
  obtain ⟨g, rfl⟩ : ∃ g, f' = g + 1 := ⟨f' - 1, by omega⟩
  rw [h2, pL_done hd]
theorem cl_stop (k : Int) {q : Int} (hq : q = 41 ∨ q = 45 ∨ q = 46 ∨ q = 47) (m : Int) (r : List Tok) : Stop k (qt q :: r) ∧ Done m (qt q :: r) := by
  have ho : opOf q = none := by rcases hq with rfl | rfl | rfl | rfl <;> decide
  constructor
  · intro t r' e
    cases e
    refine ⟨by simp [qt]; omega, fun _ => ⟨by simp [qt]; omega, fun p hp => ?_⟩⟩
    simp only [qt] at hp
    rw [ho] at hp; cases hp
  · intro t r' e
    cases e
    refine ⟨by simp [qt]; omega, fun p hp => ?_⟩
    simp only [qt] at hp
    rw [ho] at hp; cases hp
/-- In a context of a level, in parentheses where it must be. -/
theorem SE.vp {N x} (h : SE N x) {m c0 : Int} {R : List Tok} (h1 : 1 ≤ lv (ndOf N x)) (hmc : m ≤ c0) (hs : c0 ≤ lv (ndOf N x) → Stop (lv (ndOf N x)) R) : ∃ c, ∀ f, c ≤ f → ∃ f', f ≤ f' + c ∧ pE f m (vpW N (TS N) x c0 ++ R) = pL f' m (LSx N x) R := by
  unfold vpW
  by_cases hl : lv (ndOf N x) < c0
  · rw [if_pos hl]
    obtain ⟨s1, s2⟩ := cl_stop (lv (ndOf N x)) (q := 41) (.inl rfl) 1 R
    obtain ⟨c, hc⟩ := h.one (m := 1) h1 s1 s2
    refine ⟨c + 2, fun f hf => ?_⟩
    obtain ⟨g, rfl⟩ : ∃ g, f = g + 2 := ⟨f - 2, by omega⟩
    refine ⟨g + 1, by omega, ?_⟩
    have e := hc g (by omega)
    simp only [pE, List.cons_append, List.nil_append, List.append_assoc, pP]
    simp [qt] at e ⊢
    rw [e]
    simp
  · rw [if_neg hl]
    exact h.out m R (by omega) (hs (by omega))
theorem SE.vp1 {N x} (h : SE N x) {m : Int} {R : List Tok} (h1 : 1 ≤ lv (ndOf N x)) (hs : m ≤ lv (ndOf N x) → Stop (lv (ndOf N x)) R) (hd : Done m R) : ∃ c, ∀ f, c ≤ f → pE f m (vpW N (TS N) x m ++ R) = some (LSx N x, R) := by
  obtain ⟨c, hc⟩ := h.vp h1 (Int.le_refl m) hs
  refine ⟨c + 1, fun f hf => ?_⟩
  obtain ⟨f', h1, h2⟩ := hc f (by omega)
  obtain ⟨g, rfl⟩ : ∃ g, f' = g + 1 := ⟨f' - 1, by omega⟩
  rw [h2, pL_done hd]
/-- A prefix that is read at once. -/
theorem se_atom {N : List Nd} {x : Int} (ts : List Tok) (hts : TS N x = ts) (hp : ∀ f R, pP (f + 1) (ts ++ R) = some (LSx N x, R) ∨ ∃ t r, R = t :: r ∧ t.1 = 40) (hh : ∃ t r, ts = t :: r ∧ HK t.1) : SE N x := by
  refine ⟨fun m R hm hs => ⟨2, fun f hf => ?_⟩, by rw [hts]; exact hh⟩
  obtain ⟨g, rfl⟩ : ∃ g, f = g + 2 := ⟨f - 2, by omega⟩
  refine ⟨g + 1, by omega, ?_⟩
  rw [hts]
  rcases hp g R with h | ⟨t, r, rfl, h⟩
  · simp only [pE, h, Option.bind_some]
  · exact absurd h (hs t r rfl).1
/-- Two and a sign between them. -/
theorem se_bin {N : List Nd} {x a b p : Int} {lA k : Int} (hk : lv (ndOf N x) = k) (hp : opOf (opK p : Int) = some p) (hkp : lvOp p = k) (hk7 : k < 7) (hq : (opK p : Int) ≠ 40 ∧ (opK p : Int) ≠ 44) (hA : k ≤ lA) (ha : SE N a) (hb : SE N b) (la : 1 ≤ lv (ndOf N a)) (lb : 1 ≤ lv (ndOf N b))
    (hT : TS N x = vpW N (TS N) a lA ++ ([qt (opK p)] ++ vpW N (TS N) b (k + 1))) (hL : LSx N x = LSx N a ++ LSx N b ++ [(31, 0, p, 0, [], 2)]) : SE N x := by
  refine ⟨fun m R hm hs => ?_, ?_⟩
  · rw [hk] at hm hs
    have sR : k + 1 ≤ lv (ndOf N b) → Stop (lv (ndOf N b)) R := fun hb2 t r e => ⟨(hs t r e).1, fun _ => ⟨((hs t r e).2 hk7).1, fun p' hp' => by have := ((hs t r e).2 hk7).2 p' hp'; omega⟩⟩
    have dR : Done (k + 1) R := fun t r e => ⟨((hs t r e).2 hk7).1, fun p' hp' => by have := ((hs t r e).2 hk7).2 p' hp'; omega⟩
    obtain ⟨c2, hc2⟩ := hb.vp1 (m := k + 1) lb sR dR
    have sA : lA ≤ lv (ndOf N a) → Stop (lv (ndOf N a)) (qt (opK p) :: (vpW N (TS N) b (k + 1) ++ R)) := fun h t r e => by
      cases e
      refine ⟨hq.1, fun _ => ⟨hq.2, fun p' hp' => ?_⟩⟩
      simp only [qt] at hp'
      rw [hp] at hp'
      cases hp'
      omega
    obtain ⟨c1, hc1⟩ := ha.vp (m := m) (c0 := lA) la (by omega) sA
    refine ⟨c1 + c2 + 1, fun f hf => ?_⟩
    obtain ⟨f', g1, g2⟩ := hc1 f (by omega)
    obtain ⟨g, rfl⟩ : ∃ g, f' = g + 1 := ⟨f' - 1, by omega⟩
    refine ⟨g, by omega, ?_⟩
    have e1 : TS N x ++ R = vpW N (TS N) a lA ++ (qt (opK p) :: (vpW N (TS N) b (k + 1) ++ R)) := by rw [hT]; simp
    rw [e1, g2]
    have e2 := hc2 g (by omega)
    simp only [pL, qt, if_neg hq.2, hp, hkp, if_pos hm, e2, Option.bind_some, hL]
  · rw [hT]
    unfold vpW
    split
    · exact ⟨qt 40, _, rfl, by simp [HK, qt]⟩
    · obtain ⟨t, r, e, h⟩ := ha.hd
      rw [e]
      exact ⟨t, _, rfl, h⟩
end Go.Proofs.YtjepkcebfojiaaaDoor
namespace Go.Proofs.YtjepkcebfojiaaaDoor
open Go.ChangeShapes Go.WideShapes Go.ChangeAt Go.RowKit

theorem se_pre {N : List Nd} {x : Int} (h : ∀ R, Stop (lv (ndOf N x)) R → ∃ c, ∀ f, c ≤ f → pP f (TS N x ++ R) = some (LSx N x, R)) (hh : ∃ t r, TS N x = t :: r ∧ HK t.1) : SE N x := by
  refine ⟨fun m R hm hs => ?_, hh⟩
  obtain ⟨c, hc⟩ := h R hs
  refine ⟨c + 1, fun f hf => ?_⟩
  obtain ⟨g, rfl⟩ : ∃ g, f = g + 1 := ⟨f - 1, by omega⟩
  exact ⟨g, by omega, by simp only [pE, hc g (by omega), Option.bind_some]⟩
theorem lvOp_le (p : Int) : lvOp p ≤ 5 := by
  unfold lvOp
  repeat' split
  all_goals omega
theorem se_un {N : List Nd} {x a p : Int} (hk : lv (ndOf N x) = 6) (hp : p = 20 ∨ p = 21 ∨ p = 22) (ha : SE N a) (la : 1 ≤ lv (ndOf N a)) (hT : TS N x = [qt (unK p)] ++ vpW N (TS N) a 6) (hL : LSx N x = LSx N a ++ [(30, 0, p, 0, [], 1)]) : SE N x := by
  refine se_pre (fun R hs => ?_) ?_
  · rw [hk] at hs
    have dR : Done 6 R := fun t r e => ⟨((hs t r e).2 (by omega)).1, fun p' hp' => by have := lvOp_le p'; omega⟩
    have sR : 6 ≤ lv (ndOf N a) → Stop (lv (ndOf N a)) R := fun h t r e => ⟨(hs t r e).1, fun _ => ⟨((hs t r e).2 (by omega)).1, fun p' hp' => by have := lvOp_le p'; omega⟩⟩
    obtain ⟨c, hc⟩ := ha.vp1 (m := 6) la sR dR
    refine ⟨c + 1, fun f hf => ?_⟩
    obtain ⟨g, rfl⟩ : ∃ g, f = g + 1 := ⟨f - 1, by omega⟩
    have e := hc g (by omega)
    rw [hT, hL, List.append_assoc, List.cons_append, List.nil_append]
    rcases hp with rfl | rfl | rfl <;> simp [pP, qt, unK, unOf, e]
  · rw [hT]
    exact ⟨qt (unK p), _, rfl, by rcases hp with rfl | rfl | rfl <;> simp [HK, qt, unK]⟩
theorem se_ix {N : List Nd} {x a b : Int} (hk : lv (ndOf N x) = 7) (ha : SE N a) (hb : SE N b) (la : 1 ≤ lv (ndOf N a)) (la7 : lv (ndOf N a) ≤ 7) (lb : 1 ≤ lv (ndOf N b)) (hT : TS N x = vpW N (TS N) a 7 ++ ([qt 44] ++ (TS N b ++ [qt 45]))) (hL : LSx N x = LSx N a ++ LSx N b ++ [(29, 0, 0, 0, [], 2)]) : SE N x := by
  refine ⟨fun m R hm hs => ?_, ?_⟩
  · rw [hk] at hm
    obtain ⟨s1, s2⟩ := cl_stop (lv (ndOf N b)) (q := 45) (.inr (.inl rfl)) 1 R
    obtain ⟨c2, hc2⟩ := hb.one (m := 1) lb s1 s2
    have sA : 7 ≤ lv (ndOf N a) → Stop (lv (ndOf N a)) (qt 44 :: (TS N b ++ qt 45 :: R)) := fun h t r e => by
      cases e
      exact ⟨by simp [qt], fun h7 => by omega⟩
    obtain ⟨c1, hc1⟩ := ha.vp (m := m) (c0 := 7) la hm sA
    refine ⟨c1 + c2 + 1, fun f hf => ?_⟩
    obtain ⟨f', g1, g2⟩ := hc1 f (by omega)
    obtain ⟨g, rfl⟩ : ∃ g, f' = g + 1 := ⟨f' - 1, by omega⟩
    refine ⟨g, by omega, ?_⟩
    have e1 : TS N x ++ R = vpW N (TS N) a 7 ++ (qt 44 :: (TS N b ++ qt 45 :: R)) := by rw [hT]; simp
    rw [e1, g2]
    have e2 := hc2 g (by omega)
    simp only [pL, qt] at e2 ⊢
    simp [e2, hL]
  · rw [hT]
    unfold vpW
    split
    · exact ⟨qt 40, _, rfl, by simp [HK, qt]⟩
    · obtain ⟨t, r, e, h⟩ := ha.hd
      rw [e]
      exact ⟨t, _, rfl, h⟩
theorem pa_rest {N : List Nd} (R : List Tok) : ∀ l : List Int, (∀ y ∈ l, SE N y ∧ 1 ≤ lv (ndOf N y)) → ∃ c, ∀ f, c ≤ f → pA f ((l.flatMap fun x => qt 46 :: TS N x) ++ (qt 41 :: R)) = some (l.flatMap (LSx N), l.length, R)
  | [], _ => ⟨1, fun f hf => by
    obtain ⟨g, rfl⟩ : ∃ g, f = g + 1 := ⟨f - 1, by omega⟩
    simp [pA, qt]⟩
  | y :: l, h => by
    obtain ⟨c1, hc1⟩ := pa_rest R l fun z hz => h z (by simp [hz])
    obtain ⟨hy, ly⟩ := h y (by simp)
    have hst : Stop (lv (ndOf N y)) ((l.flatMap fun x => qt 46 :: TS N x) ++ (qt 41 :: R)) ∧ Done 1 ((l.flatMap fun x => qt 46 :: TS N x) ++ (qt 41 :: R)) := by
      cases l with
      | nil => exact cl_stop _ (.inl rfl) 1 R
      | cons z l => rw [List.flatMap_cons, List.cons_append, List.cons_append]; exact cl_stop _ (.inr (.inr (.inl rfl))) 1 _
    obtain ⟨c2, hc2⟩ := hy.one (m := 1) ly hst.1 hst.2
    refine ⟨c1 + c2 + 1, fun f hf => ?_⟩
    obtain ⟨g, rfl⟩ : ∃ g, f = g + 1 := ⟨f - 1, by omega⟩
    rw [List.flatMap_cons, List.cons_append, List.cons_append, List.append_assoc]
    have e1 := hc1 g (by omega)
    have e2 := hc2 g (by omega)
    simp only [pA, qt] at e1 e2 ⊢
    simp [e1, e2]
theorem pa_all {N : List Nd} (R : List Tok) (l : List Int) (h : ∀ y ∈ l, SE N y ∧ 1 ≤ lv (ndOf N y)) : ∃ c, ∀ f, c ≤ f → pA f (jnW (TS N) l ++ (qt 41 :: R)) = some (l.flatMap (LSx N), l.length, R) := by
  cases l with
  | nil => exact pa_rest R [] h
  | cons y l =>
    obtain ⟨c1, hc1⟩ := pa_rest R l fun z hz => h z (by simp [hz])
    obtain ⟨hy, ly⟩ := h y (by simp)
    have hst : Stop (lv (ndOf N y)) ((l.flatMap fun x => qt 46 :: TS N x) ++ (qt 41 :: R)) ∧ Done 1 ((l.flatMap fun x => qt 46 :: TS N x) ++ (qt 41 :: R)) := by
      cases l with
      | nil => exact cl_stop _ (.inl rfl) 1 R
      | cons z l => rw [List.flatMap_cons, List.cons_append, List.cons_append]; exact cl_stop _ (.inr (.inr (.inl rfl))) 1 _
    obtain ⟨c2, hc2⟩ := hy.one (m := 1) ly hst.1 hst.2
    obtain ⟨t, r, et, hk⟩ := hy.hd
    refine ⟨c1 + c2 + 1, fun f hf => ?_⟩
    obtain ⟨g, rfl⟩ : ∃ g, f = g + 1 := ⟨f - 1, by omega⟩
    have e1 := hc1 g (by omega)
    have e2 := hc2 g (by omega)
    simp only [jnW, List.append_assoc]
    rw [et, List.cons_append] at e2 ⊢
    have n1 : ¬ t.1 = 41 := by unfold HK at hk; omega
    have n2 : ¬ t.1 = 46 := by unfold HK at hk; omega
    simp only [pA, if_neg n1, if_neg n2, e2, Option.bind_some, e1]
    simp
end Go.Proofs.YtjepkcebfojiaaaDoor
namespace Go.Proofs.YtjepkcebfojiaaaDoor
open Go.ChangeShapes Go.WideShapes Go.ChangeAt Go.RowKit

theorem lvOp_ge (p : Int) : 1 ≤ lvOp p := by
  unfold lvOp
  repeat' split
  all_goals omega
theorem lvR (n : Nd) : 1 ≤ lv n ∧ lv n ≤ 7 := by
  have := lvOp_ge n.op
  have := lvOp_le n.op
  unfold lv
  repeat' split
  all_goals omega
theorem ffit_val {n : Nd} (h : ffit n = true) (hm : (mayOf n.kind).val = false) : n.val = 0 := by
  simp only [ffit, Bool.and_eq_true, Bool.or_eq_true, decide_eq_true_eq] at h
  rcases h.1.2 with h | h
  · exact h
  · rw [hm] at h; simp at h
theorem lab_nm {n : Nd} {k : Int} {c : Nat} (hff : ffit n = true) (hk : n.kind = k) (hc : n.kids.length = c) (hm : (mayOf k).o0 = 0 ∧ (mayOf k).o1 = 0 ∧ (mayOf k).val = false) : lab n = (k, n.decl, 0, 0, n.name, c) := by
  have hr := ffit_rng hff
  subst hk
  have hv := ffit_val hff hm.2.2
  have ho : n.op = 0 := by rw [hm.1, hm.2.1] at hr; omega
  simp [lab, hc, hv, ho]
theorem lab_d0 {n : Nd} {k : Int} (hff : ffit n = true) (hk : n.kind = k) (hm : (mayOf k).d0 = 0 ∧ (mayOf k).d1 = 0) : n.decl = 0 := by
  have hr := ffit_rng hff
  subst hk
  rw [hm.1, hm.2] at hr; omega
theorem lab_no {n : Nd} {k : Int} {c : Nat} (hff : ffit n = true) (hk : n.kind = k) (hc : n.kids.length = c) (hm : (mayOf k).o0 = 0 ∧ (mayOf k).o1 = 0 ∧ (mayOf k).val = false) (hd : (mayOf k).d0 = 0 ∧ (mayOf k).d1 = 0) (hn : (mayOf k).name = false) : lab n = (k, 0, 0, 0, [], c) := by
  rw [lab_nm hff hk hc hm, lab_d0 hff hk hd, nm_no hff (by rw [hk]; exact hn)]
theorem ndAt {N : List Nd} {i : Nat} (hi : i < N.length) : ndOf N (i : Int) = N[i] := by simp [ndOf, List.getD, hi]
theorem kind_of_allK {N : List Nd} {p : Int → Bool} {l : List Int} (h : allK N p l = true) {x : Int} (hx : x ∈ l) {j : Nat} (e : x = (j : Int)) (hj : j < N.length) : p N[j].kind = true := by
  have := allK_mem h hx
  rw [e, kd_at j hj] at this
  exact this
theorem ex_kf {N : List Nd} {n : Nd} (h : NdOKx N n) (hk : 20 ≤ n.kind) : (n.kind = 20 ∨ n.kind = 21 ∨ n.kind = 22 ∨ n.kind = 23 ∨ n.kind = 24 ∨ n.kind = 26) ∧ n.kids = [] ∨ allK N isEx n.kids = true ∧ (n.kind = 25 ∨ (n.kind = 27 ∨ n.kind = 28 ∨ n.kind = 30) ∧ n.kids.length = 1 ∨ (n.kind = 29 ∨ n.kind = 31) ∧ n.kids.length = 2) := by
  have hkf := h.kf
  have hv : n.kind = 20 ∨ n.kind = 21 ∨ n.kind = 22 ∨ n.kind = 23 ∨ n.kind = 24 ∨ n.kind = 25 ∨ n.kind = 26 ∨ n.kind = 27 ∨ n.kind = 28 ∨ n.kind = 29 ∨ n.kind = 30 ∨ n.kind = 31 := by
    rcases h.vk with h | h <;> omega
  rcases hv with hv | hv | hv | hv | hv | hv | hv | hv | hv | hv | hv | hv <;> simp [kfit, hv] at hkf <;> simp [hv, hkf]

set_option maxHeartbeats 1000000 in
/-- The parser reads every expression as it is. -/
theorem se_all {N : List Nd} (hF : FitK N) (hOK : ∀ (i : Nat) (h : i < N.length), NdOKx N N[i]) (i : Nat) (hi : i < N.length) (hx : isEx N[i].kind = true) : SE N (i : Int) := by
  induction i using Nat.strongRecOn with
  | _ i ih =>
    have hn := hOK i hi
    have hff := hn.ff
    have hT := TS_eq hF hOK i hi
    have hL := LSx_eq hF i hi
    have hlv : lv (ndOf N (i : Int)) = lv N[i] := by rw [ndAt hi]
    have hx2 : 20 ≤ N[i].kind ∧ N[i].kind ≤ 31 := by simpa [isEx] using hx
    have kid : allK N isEx N[i].kids = true → ∀ y ∈ N[i].kids, SE N y ∧ 1 ≤ lv (ndOf N y) := fun ha y hy => by
      have hb := hF i hi y hy
      obtain ⟨j, rfl⟩ : ∃ j : Nat, y = (j : Int) := ⟨y.toNat, by omega⟩
      have hj : j < N.length := by omega
      exact ⟨ih j (by omega) hj (kind_of_allK ha hy rfl hj), (lvR _).1⟩
    generalize hgn : N[i] = n at *
    rcases ex_kf hn hx2.1 with ⟨hk, hc⟩ | ⟨ha, hk⟩
    · rw [hc, List.flatMap_nil, List.nil_append] at hL
      have hc0 : n.kids.length = 0 := by rw [hc]; rfl
      rcases hk with hk | hk | hk | hk | hk | hk
      · have hl : lab n = (20, 0, 0, n.val, [], 0) := by
          have hr := ffit_rng hff
          have hnm := nm_no hff (by rw [hk]; rfl)
          rw [hk] at hr
          simp [mayOf] at hr
          have h1 : n.decl = 0 := by omega
          have h2 : n.op = 0 := by omega
          simp [lab, hk, hnm, hc, h1, h2]
        rw [hl] at hL
        refine se_atom [(2, n.val, [])] (by rw [hT]; simp [nt, hk]) (fun f R => .inl ?_) ⟨_, _, rfl, by simp [HK]⟩
        simp [pP, hL]
      · have hl := lab_no hff hk hc0 (by decide) (by decide) (by decide)
        rw [hl] at hL
        refine se_atom [qt 25] (by rw [hT]; simp [nt, hk]) (fun f R => .inl ?_) ⟨_, _, rfl, by simp [HK, qt]⟩
        simp [pP, hL, qt]
      · have hl := lab_no hff hk hc0 (by decide) (by decide) (by decide)
        rw [hl] at hL
        refine se_atom [qt 26] (by rw [hT]; simp [nt, hk]) (fun f R => .inl ?_) ⟨_, _, rfl, by simp [HK, qt]⟩
        simp [pP, hL, qt]
      · have hl := lab_no hff hk hc0 (by decide) (by decide) (by decide)
        rw [hl] at hL
        refine se_atom [qt 27] (by rw [hT]; simp [nt, hk]) (fun f R => .inl ?_) ⟨_, _, rfl, by simp [HK, qt]⟩
        simp [pP, hL, qt]
      · have hl := lab_nm hff hk hc0 (by decide)
        rw [lab_d0 hff hk (by decide)] at hl
        rw [hl] at hL
        refine se_atom [nmT n.name] (by rw [hT]; simp [nt, hk]) (fun f R => ?_) ⟨_, _, rfl, by simp [HK, nmT]⟩
        cases R with
        | nil => exact .inl (by simp [pP, hL, nmT])
        | cons t r =>
          by_cases h40 : t.1 = 40
          · exact .inr ⟨t, r, rfl, h40⟩
          · exact .inl (by simp [pP, hL, nmT, h40])
      · have hl := lab_no hff hk hc0 (by decide) (by decide) (by decide)
        rw [hl] at hL
        refine se_atom [qt 20, qt 40, qt 41] (by rw [hT]; simp [nt, hk]) (fun f R => .inl ?_) ⟨_, _, rfl, by simp [HK, qt]⟩
        simp [pP, hL, qt]
    · have kd := kid ha
      rcases hk with hk | ⟨hk, hc⟩ | ⟨hk, hc⟩
      · have hl := lab_nm hff hk rfl (by decide)
        rw [lab_d0 hff hk (by decide)] at hl
        rw [hl] at hL
        have hT2 : TS N (i : Int) = [nmT n.name, qt 40] ++ jnW (TS N) n.kids ++ [qt 41] := by rw [hT]; simp [nt, hk]
        refine se_pre (fun R hs => ?_) ⟨nmT n.name, _, by rw [hT2]; rfl, by simp [HK, nmT]⟩
        obtain ⟨c, hcc⟩ := pa_all R n.kids kd
        refine ⟨c + 1, fun f hf => ?_⟩
        obtain ⟨g, rfl⟩ : ∃ g, f = g + 1 := ⟨f - 1, by omega⟩
        have e := hcc g (by omega)
        rw [hT2, hL]
        simp [pP, nmT, qt] at e ⊢
        simp [e]
      · obtain ⟨a, hkids⟩ := one_kid hc
        obtain ⟨ka, la⟩ := kd a (by rw [hkids]; simp)
        rw [hkids, show [a].flatMap (LSx N) = LSx N a by simp] at hL
        obtain ⟨s1, s2⟩ : Stop (lv (ndOf N a)) (qt 41 :: ([] : List Tok)) ∧ Done 1 (qt 41 :: ([] : List Tok)) := cl_stop _ (.inl rfl) 1 []
        rcases hk with hk | hk | hk
        · have hl := lab_no hff hk hc (by decide) (by decide) (by decide)
          rw [hl] at hL
          have hT2 : TS N (i : Int) = [qt 21, qt 40] ++ TS N a ++ [qt 41] := by rw [hT]; simp [nt, hk, hkids]
          refine se_pre (fun R hs => ?_) ⟨qt 21, _, by rw [hT2]; rfl, by simp [HK, qt]⟩
          obtain ⟨c, hcc⟩ := ka.one (m := 1) la (cl_stop _ (.inl rfl) 1 R).1 (cl_stop (lv (ndOf N a)) (.inl rfl) 1 R).2
          refine ⟨c + 1, fun f hf => ?_⟩
          obtain ⟨g, rfl⟩ : ∃ g, f = g + 1 := ⟨f - 1, by omega⟩
          have e := hcc g (by omega)
          rw [hT2, hL]
          simp [pP, qt] at e ⊢
          simp [e]
        · have hl := lab_no hff hk hc (by decide) (by decide) (by decide)
          rw [hl] at hL
          have hT2 : TS N (i : Int) = [qt 22, qt 40, qt 44, qt 45, qt 23, qt 46] ++ TS N a ++ [qt 41] := by rw [hT]; simp [nt, hk, hkids]
          refine se_pre (fun R hs => ?_) ⟨qt 22, _, by rw [hT2]; rfl, by simp [HK, qt]⟩
          obtain ⟨c, hcc⟩ := ka.one (m := 1) la (cl_stop _ (.inl rfl) 1 R).1 (cl_stop (lv (ndOf N a)) (.inl rfl) 1 R).2
          refine ⟨c + 1, fun f hf => ?_⟩
          obtain ⟨g, rfl⟩ : ∃ g, f = g + 1 := ⟨f - 1, by omega⟩
          have e := hcc g (by omega)
          rw [hT2, hL]
          simp [pP, qt] at e ⊢
          simp [e]
        · have hr := ffit_rng hff
          have hnm := nm_no hff (by rw [hk]; rfl)
          have hv := ffit_val hff (by rw [hk]; rfl)
          rw [hk] at hr
          simp [mayOf] at hr
          have hl : lab n = (30, 0, n.op, 0, [], 1) := by
            have h1 : n.decl = 0 := by omega
            simp [lab, hk, hnm, hc, h1, hv]
          rw [hl] at hL
          exact se_un (p := n.op) (by rw [hlv]; simp [lv, hk]) (by omega) ka la (by rw [hT]; simp [nt, hk, hkids]) hL
      · obtain ⟨a, b, hkids⟩ := two_kids hc
        obtain ⟨ka, la⟩ := kd a (by rw [hkids]; simp)
        obtain ⟨kb, lb⟩ := kd b (by rw [hkids]; simp)
        rw [hkids, show [a, b].flatMap (LSx N) = LSx N a ++ LSx N b by simp] at hL
        rcases hk with hk | hk
        · have hl := lab_no hff hk hc (by decide) (by decide) (by decide)
          rw [hl] at hL
          exact se_ix (by rw [hlv]; simp [lv, hk]) ka kb la (lvR _).2 lb (by rw [hT]; simp [nt, hk, hkids]) hL
        · have hr := ffit_rng hff
          have hnm := nm_no hff (by rw [hk]; rfl)
          have hv := ffit_val hff (by rw [hk]; rfl)
          rw [hk] at hr
          simp [mayOf] at hr
          have hl : lab n = (31, 0, n.op, 0, [], 2) := by
            have h1 : n.decl = 0 := by omega
            simp [lab, hk, hnm, hc, h1, hv]
          rw [hl] at hL
          have e1 : lv n = lvOp n.op := by simp [lv, hk]
          have e7 := lvOp_le n.op
          have hq : (opK n.op : Int) ≠ 40 ∧ (opK n.op : Int) ≠ 44 := by
            have hk2 : n.op = 1 ∨ n.op = 2 ∨ n.op = 3 ∨ n.op = 4 ∨ n.op = 5 ∨ n.op = 6 ∨ n.op = 7 ∨ n.op = 8 ∨ n.op = 9 ∨ n.op = 10 ∨ n.op = 11 ∨ n.op = 12 ∨ n.op = 13 ∨ n.op = 14 ∨ n.op = 15 ∨ n.op = 16 ∨ n.op = 17 ∨ n.op = 18 ∨ n.op = 19 := by omega
            rcases hk2 with e | e | e | e | e | e | e | e | e | e | e | e | e | e | e | e | e | e | e <;> rw [e] <;> decide
          refine se_bin (p := n.op) (k := lv n) (lA := if lv n = 3 then lv n + 1 else lv n) hlv (opOf_opK (by omega) (by omega)) e1.symm (by omega) hq (by split <;> omega) ka kb la lb ?_ hL
          rw [hT]
          simp [nt, hk, hkids]
end Go.Proofs.YtjepkcebfojiaaaDoor
namespace Go.Proofs.YtjepkcebfojiaaaDoor
open Go.ChangeShapes Go.WideShapes Go.ChangeAt Go.RowKit

/-- A type's name: which, and what is left. -/
def pTy : List Tok → Int × List Tok
  | [] => (0, [])
  | t :: r => if t.1 = 23 then (1, r) else if t.1 = 24 then (2, r) else if t.1 = 44 then (3, r.drop 2) else (0, t :: r)
theorem pTy_eq {d : Int} (h0 : 1 ≤ d) (h1 : d ≤ 3) (R : List Tok) : pTy (tyW d ++ R) = (d, R) := by
  have : d = 1 ∨ d = 2 ∨ d = 3 := by omega
  rcases this with rfl | rfl | rfl <;> simp [tyW, pTy, qt]
mutual
/-- A statement. -/
def pS : Nat → List Tok → Option (List Lb × List Tok)
  | 0, _ => none
  | _ + 1, [] => none
  | f + 1, t :: r =>
    if t.1 = 42 then (pB f r).bind fun x => some (x.1 ++ [(3, 0, 0, 0, [], x.2.1)], x.2.2)
    else if t.1 = 11 then
      let nm := ((r.head?.map fun u => u.2.2).getD [])
      let y := pTy (r.drop 1)
      if (y.2.head?.map Prod.fst) = some 48 then (pE f 1 (y.2.drop 1)).bind fun x => some (x.1 ++ [(4, y.1, 0, 0, nm, 1)], x.2.drop 1)
      else some ([(4, y.1, 0, 0, nm, 0)], y.2.drop 1)
    else if t.1 = 1 then
      (if (r.head?.map Prod.fst) = some 48 then (pE f 1 (r.drop 1)).bind fun x => some (x.1 ++ [(5, 0, 0, 0, t.2.2, 1)], x.2.drop 1)
      else if (r.head?.map Prod.fst) = some 44 then (pE f 1 (r.drop 1)).bind fun x => (pE f 1 (x.2.drop 2)).bind fun y => some (x.1 ++ y.1 ++ [(6, 0, 0, 0, t.2.2, 2)], y.2.drop 1)
      else (pE f 1 (t :: r)).bind fun x => some (x.1 ++ [(7, 0, 0, 0, [], 1)], x.2.drop 1))
    else if t.1 = 18 then (pE f 1 (r.drop 1)).bind fun x => some (x.1 ++ [(8, 0, 0, 0, [], 1)], x.2.drop 2)
    else if t.1 = 19 then (pE f 1 (r.drop 1)).bind fun x => some (x.1 ++ [(9, 0, 0, 0, [], 1)], x.2.drop 2)
    else if t.1 = 12 then (pE f 1 r).bind fun x => (pS f x.2).bind fun y =>
      if (y.2.head?.map Prod.fst) = some 13 then (pS f (y.2.drop 1)).bind fun z => some (x.1 ++ (y.1 ++ z.1) ++ [(10, 0, 0, 0, [], 3)], z.2)
      else some (x.1 ++ y.1 ++ [(10, 0, 0, 0, [], 2)], y.2)
    else if t.1 = 14 then
      (if (r.head?.map Prod.fst) = some 42 then (pS f r).bind fun x => some (x.1 ++ [(11, 0, 0, 0, [], 1)], x.2)
      else (pE f 1 r).bind fun x => (pS f x.2).bind fun y => some (x.1 ++ y.1 ++ [(11, 0, 0, 0, [], 2)], y.2))
    else if t.1 = 15 then
      (if (r.head?.map Prod.fst) = some 47 then some ([(12, 0, 0, 0, [], 0)], r.drop 1)
      else (pE f 1 r).bind fun x => some (x.1 ++ [(12, 0, 0, 0, [], 1)], x.2.drop 1))
    else if t.1 = 16 then some ([(13, 0, 0, 0, [], 0)], r.drop 1)
    else some ([(14, 0, 0, 0, [], 0)], r.drop 1)
/-- Statements, to the brace. -/
def pB : Nat → List Tok → Option (List Lb × Nat × List Tok)
  | 0, _ => none
  | _ + 1, [] => none
  | f + 1, t :: r =>
    if t.1 = 43 then some ([], 0, r)
    else (pS f (t :: r)).bind fun x => (pB f x.2).bind fun y => some (x.1 ++ y.1, y.2.1 + 1, y.2.2)
end
/-- Parameters, to the parenthesis. -/
def pR : Nat → List Tok → Option (List Lb × Nat × List Tok)
  | 0, _ => none
  | _ + 1, [] => none
  | f + 1, t :: r =>
    if t.1 = 41 then some ([], 0, r)
    else if t.1 = 46 then (pR f (pTy (r.drop 1)).2).bind fun y => some ((2, (pTy (r.drop 1)).1, 0, 0, (r.head?.map fun u => u.2.2).getD [], 0) :: y.1, y.2.1 + 1, y.2.2)
    else (pR f (pTy r).2).bind fun y => some ((2, (pTy r).1, 0, 0, t.2.2, 0) :: y.1, y.2.1 + 1, y.2.2)
/-- Functions, to the end. -/
def pT : Nat → List Tok → Option (List Lb)
  | 0, _ => none
  | _ + 1, [] => some []
  | f + 1, _ :: r => (pR f (r.drop 2)).bind fun x => (pS f (pTy x.2.2).2).bind fun y => (pT f y.2).bind fun z => some (x.1 ++ y.1 ++ [(1, (pTy x.2.2).1, 0, 0, (r.head?.map fun u => u.2.2).getD [], x.2.1 + 1)] ++ z)
/-- The parser reads a statement as it is. -/
structure SS (N : List Nd) (x : Int) : Prop where
  out : ∀ R : List Tok, ((ndOf N x).kind ≠ 3 → ∀ t r, R = t :: r → t.1 ≠ 13) → ∃ c, ∀ f, c ≤ f → pS f (TS N x ++ R) = some (LSx N x, R)
  hd : ∃ t r, TS N x = t :: r ∧ (t.1 = 42 ∨ t.1 = 1 ∨ 11 ≤ t.1 ∧ t.1 ≤ 19 ∧ t.1 ≠ 13)
theorem pb_all {N : List Nd} (R : List Tok) : ∀ l : List Int, (∀ y ∈ l, SS N y) → ∃ c, ∀ f, c ≤ f → pB f (l.flatMap (TS N) ++ (qt 43 :: R)) = some (l.flatMap (LSx N), l.length, R)
  | [], _ => ⟨1, fun f hf => by
    obtain ⟨g, rfl⟩ : ∃ g, f = g + 1 := ⟨f - 1, by omega⟩
    simp [pB, qt]⟩
  | y :: l, h => by
    obtain ⟨c1, hc1⟩ := pb_all R l fun z hz => h z (by simp [hz])
    have hy := h y (by simp)
    have hn : ∀ t r, l.flatMap (TS N) ++ (qt 43 :: R) = t :: r → t.1 ≠ 13 := by
      cases l with
      | nil => intro t r e; cases e; simp [qt]
      | cons z l =>
        obtain ⟨t, r, e1, h1⟩ := (h z (by simp)).hd
        intro t' r' e
        rw [List.flatMap_cons, e1, List.cons_append, List.cons_append] at e
        cases e
        omega
    obtain ⟨c2, hc2⟩ := hy.out _ fun _ => hn
    obtain ⟨t, r, et, hk⟩ := hy.hd
    refine ⟨c1 + c2 + 1, fun f hf => ?_⟩
    obtain ⟨g, rfl⟩ : ∃ g, f = g + 1 := ⟨f - 1, by omega⟩
    have e1 := hc1 g (by omega)
    have e2 := hc2 g (by omega)
    rw [List.flatMap_cons, List.append_assoc]
    rw [et, List.cons_append] at e2 ⊢
    have n1 : ¬ t.1 = 43 := by omega
    simp only [pB, if_neg n1, e2, Option.bind_some, e1]
    simp
theorem st_stop (k : Int) {q : Int} (hq : q = 42 ∨ q = 41 ∨ q = 45 ∨ q = 46 ∨ q = 47) (m : Int) (r : List Tok) : Stop k (qt q :: r) ∧ Done m (qt q :: r) := by
  have ho : opOf q = none := by rcases hq with rfl | rfl | rfl | rfl | rfl <;> decide
  constructor
  · intro t r' e
    cases e
    refine ⟨by simp [qt]; omega, fun _ => ⟨by simp [qt]; omega, fun p hp => ?_⟩⟩
    simp only [qt] at hp
    rw [ho] at hp; cases hp
  · intro t r' e
    cases e
    refine ⟨by simp [qt]; omega, fun p hp => ?_⟩
    simp only [qt] at hp
    rw [ho] at hp; cases hp
theorem SE.sh {N x} (h : SE N x) {q : Int} (hq : q = 42 ∨ q = 41 ∨ q = 45 ∨ q = 46 ∨ q = 47) (r : List Tok) : ∃ c, ∀ f, c ≤ f → pE f 1 (TS N x ++ (qt q :: r)) = some (LSx N x, qt q :: r) := h.one (lvR _).1 (st_stop _ hq 1 r).1 (st_stop 1 hq 1 r).2
theorem isSt_cases {k : Int} (h : isSt k = true) : k = 3 ∨ k = 4 ∨ k = 5 ∨ k = 6 ∨ k = 7 ∨ k = 8 ∨ k = 9 ∨ k = 10 ∨ k = 11 ∨ k = 12 ∨ k = 13 ∨ k = 14 := by
  simp [isSt] at h
  omega
/-- A block's tokens begin with the brace. -/
theorem blk_hd {N : List Nd} (hF : FitK N) (hOK : ∀ (i : Nat) (h : i < N.length), NdOKx N N[i]) (j : Nat) (hj : j < N.length) (hk : N[j].kind = 3) : ∃ r, TS N (j : Int) = qt 42 :: r := by
  rw [TS_eq hF hOK j hj]
  exact ⟨_, by simp [nt, hk]; rfl⟩

set_option maxHeartbeats 2000000 in
/-- The parser reads every statement as it is. -/
theorem ss_all {N : List Nd} (hF : FitK N) (hOK : ∀ (i : Nat) (h : i < N.length), NdOKx N N[i]) (i : Nat) (hi : i < N.length) (hx : isSt N[i].kind = true) : SS N (i : Int) := by
  induction i using Nat.strongRecOn with
  | _ i ih =>
    have hn := hOK i hi
    have hff := hn.ff
    have hkf := hn.kf
    have hT := TS_eq hF hOK i hi
    have hL := LSx_eq hF i hi
    have hnd := ndAt hi
    have kid : ∀ y ∈ N[i].kids, ∃ j : Nat, y = (j : Int) ∧ j < i ∧ j < N.length := fun y hy => by
      have hb := hF i hi y hy
      exact ⟨y.toNat, by omega, by omega, by omega⟩
    have kex : ∀ y ∈ N[i].kids, isEx (kd N y) = true → SE N y := fun y hy h => by
      obtain ⟨j, rfl, h1, h2⟩ := kid y hy
      rw [kd_at j h2] at h
      exact se_all hF hOK j h2 h
    have kst : ∀ y ∈ N[i].kids, isSt (kd N y) = true → SS N y := fun y hy h => by
      obtain ⟨j, rfl, h1, h2⟩ := kid y hy
      rw [kd_at j h2] at h
      exact ih j h1 h2 h
    have knd : ∀ y ∈ N[i].kids, (ndOf N y).kind = kd N y := fun y hy => by
      obtain ⟨j, rfl, h1, h2⟩ := kid y hy
      rw [kd_at j h2, ndAt h2]
    have kbl : ∀ y ∈ N[i].kids, kd N y = 3 → ∃ r, TS N y = qt 42 :: r := fun y hy h => by
      obtain ⟨j, rfl, h1, h2⟩ := kid y hy
      rw [kd_at j h2] at h
      exact blk_hd hF hOK j h2 h
    have hx2 := isSt_cases hx
    generalize hgn : N[i] = n at *
    rcases hx2 with hk | hk | hk | hk | hk | hk | hk | hk | hk | hk | hk | hk
    · -- a block
      have hl := lab_no hff hk rfl (by decide) (by decide) (by decide)
      rw [hl] at hL
      have hT2 : TS N (i : Int) = [qt 42] ++ n.kids.flatMap (TS N) ++ [qt 43] := by rw [hT]; simp [nt, hk]
      simp [kfit, hk] at hkf
      refine ⟨fun R _ => ?_, ⟨qt 42, _, by rw [hT2]; rfl, by simp [qt]⟩⟩
      obtain ⟨c, hc⟩ := pb_all R n.kids fun y hy => kst y hy (allK_mem hkf hy)
      refine ⟨c + 1, fun f hf => ?_⟩
      obtain ⟨g, rfl⟩ : ∃ g, f = g + 1 := ⟨f - 1, by omega⟩
      have e := hc g (by omega)
      rw [hT2, hL]
      simp [pS, qt] at e ⊢
      simp [e]
    · -- var
      have hl := lab_nm hff hk rfl (by decide)
      rw [hl] at hL
      have hr := ffit_rng hff
      rw [hk] at hr
      simp [mayOf] at hr
      have ty := fun R => pTy_eq (d := n.decl) hr.1 hr.2.1 R
      have hlen : n.kids.length ≤ 1 ∧ allK N isEx n.kids = true := by simpa [kfit, hk] using hkf
      match hkids : n.kids, hlen.1 with
      | [], _ =>
        rw [hkids] at hL
        have hT2 : TS N (i : Int) = [qt 11, nmT n.name] ++ tyW n.decl ++ [qt 47] := by rw [hT]; simp [nt, hk, hkids]
        refine ⟨fun R _ => ⟨1, fun f hf => ?_⟩, ⟨qt 11, _, by rw [hT2]; rfl, by simp [qt]⟩⟩
        obtain ⟨g, rfl⟩ : ∃ g, f = g + 1 := ⟨f - 1, by omega⟩
        rw [hT2, hL]
        simp [pS, qt, ty, nmT]
      | [a], _ =>
        have ka := kex a (by rw [hkids]; simp) (allK_mem hlen.2 (by rw [hkids]; simp))
        rw [hkids] at hL
        have hT2 : TS N (i : Int) = [qt 11, nmT n.name] ++ tyW n.decl ++ ([qt 48] ++ TS N a) ++ [qt 47] := by rw [hT]; simp [nt, hk, hkids]
        refine ⟨fun R _ => ?_, ⟨qt 11, _, by rw [hT2]; rfl, by simp [qt]⟩⟩
        obtain ⟨c, hc⟩ := ka.sh (q := 47) (by simp) R
        refine ⟨c + 1, fun f hf => ?_⟩
        obtain ⟨g, rfl⟩ : ∃ g, f = g + 1 := ⟨f - 1, by omega⟩
        have e := hc g (by omega)
        rw [hT2, hL]
        simp [pS, qt, ty, nmT] at e ⊢
        simp [e]
    · -- a name set
      have hlen : n.kids.length = 1 ∧ allK N isEx n.kids = true := by simpa [kfit, hk] using hkf
      have hl := lab_nm hff hk hlen.1 (by decide)
      rw [lab_d0 hff hk (by decide)] at hl
      rw [hl] at hL
      obtain ⟨a, hkids⟩ := one_kid hlen.1
      have ka := kex a (by rw [hkids]; simp) (allK_mem hlen.2 (by rw [hkids]; simp))
      rw [hkids] at hL
      have hT2 : TS N (i : Int) = [nmT n.name, qt 48] ++ TS N a ++ [qt 47] := by rw [hT]; simp [nt, hk, hkids]
      refine ⟨fun R _ => ?_, ⟨nmT n.name, _, by rw [hT2]; rfl, by simp [nmT]⟩⟩
      obtain ⟨c, hc⟩ := ka.sh (q := 47) (by simp) R
      refine ⟨c + 1, fun f hf => ?_⟩
      obtain ⟨g, rfl⟩ : ∃ g, f = g + 1 := ⟨f - 1, by omega⟩
      have e := hc g (by omega)
      rw [hT2, hL]
      simp [pS, qt, nmT] at e ⊢
      simp [e]
    · -- a word set
      have hlen : n.kids.length = 2 ∧ allK N isEx n.kids = true := by simpa [kfit, hk] using hkf
      have hl := lab_nm hff hk hlen.1 (by decide)
      rw [lab_d0 hff hk (by decide)] at hl
      rw [hl] at hL
      obtain ⟨a, b, hkids⟩ := two_kids hlen.1
      have ka := kex a (by rw [hkids]; simp) (allK_mem hlen.2 (by rw [hkids]; simp))
      have kb := kex b (by rw [hkids]; simp) (allK_mem hlen.2 (by rw [hkids]; simp))
      rw [hkids] at hL
      have hT2 : TS N (i : Int) = [nmT n.name, qt 44] ++ TS N a ++ [qt 45, qt 48] ++ TS N b ++ [qt 47] := by rw [hT]; simp [nt, hk, hkids]
      refine ⟨fun R _ => ?_, ⟨nmT n.name, _, by rw [hT2]; rfl, by simp [nmT]⟩⟩
      obtain ⟨c, hc⟩ := ka.sh (q := 45) (by simp) (qt 48 :: (TS N b ++ qt 47 :: R))
      obtain ⟨c2, hc2⟩ := kb.sh (q := 47) (by simp) R
      refine ⟨c + c2 + 1, fun f hf => ?_⟩
      obtain ⟨g, rfl⟩ : ∃ g, f = g + 1 := ⟨f - 1, by omega⟩
      have e := hc g (by omega)
      have e2 := hc2 g (by omega)
      rw [hT2, hL]
      simp [pS, qt, nmT] at e e2 ⊢
      simp [e, e2]
    · -- a call
      have hlen : n.kids.length = 1 ∧ allK N (isK 25) n.kids = true := by simpa [kfit, hk] using hkf
      have hl := lab_no hff hk hlen.1 (by decide) (by decide) (by decide)
      rw [hl] at hL
      obtain ⟨a, hkids⟩ := one_kid hlen.1
      have hma : a ∈ n.kids := by rw [hkids]; simp
      have h25 : kd N a = 25 := by have := allK_mem hlen.2 hma; simpa [isK] using this
      have ka := kex a hma (by rw [h25]; rfl)
      obtain ⟨j, rfl, hj1, hj2⟩ := kid a hma
      rw [hkids] at hL
      have hTa := TS_eq hF hOK j hj2
      rw [kd_at j hj2] at h25
      have hTb : ∃ r, TS N (j : Int) = nmT N[j].name :: qt 40 :: r := ⟨_, by rw [hTa]; simp [nt, h25]; rfl⟩
      obtain ⟨r0, hTb⟩ := hTb
      have hT2 : TS N (i : Int) = TS N (j : Int) ++ [qt 47] := by rw [hT]; simp [nt, hk, hkids]
      refine ⟨fun R _ => ?_, ⟨nmT N[j].name, _, by rw [hT2, hTb]; rfl, by simp [nmT]⟩⟩
      obtain ⟨c, hc⟩ := ka.sh (q := 47) (by simp) R
      refine ⟨c + 1, fun f hf => ?_⟩
      obtain ⟨g, rfl⟩ : ∃ g, f = g + 1 := ⟨f - 1, by omega⟩
      have e := hc g (by omega)
      rw [hT2, hL, List.append_assoc, List.cons_append, List.nil_append]
      rw [hTb] at e ⊢
      simp [pS, qt, nmT] at e ⊢
      simp [e]
    · -- print
      have hlen : n.kids.length = 1 ∧ allK N isEx n.kids = true := by simpa [kfit, hk] using hkf
      have hl := lab_no hff hk hlen.1 (by decide) (by decide) (by decide)
      rw [hl] at hL
      obtain ⟨a, hkids⟩ := one_kid hlen.1
      have ka := kex a (by rw [hkids]; simp) (allK_mem hlen.2 (by rw [hkids]; simp))
      rw [hkids] at hL
      have hT2 : TS N (i : Int) = [qt 18, qt 40] ++ TS N a ++ [qt 41, qt 47] := by rw [hT]; simp [nt, hk, hkids]
      refine ⟨fun R _ => ?_, ⟨qt 18, _, by rw [hT2]; rfl, by simp [qt]⟩⟩
      obtain ⟨c, hc⟩ := ka.sh (q := 41) (by simp) (qt 47 :: R)
      refine ⟨c + 1, fun f hf => ?_⟩
      obtain ⟨g, rfl⟩ : ∃ g, f = g + 1 := ⟨f - 1, by omega⟩
      have e := hc g (by omega)
      rw [hT2, hL]
      simp [pS, qt] at e ⊢
      simp [e]
    · -- panic
      have hlen : n.kids.length = 1 ∧ allK N isEx n.kids = true := by simpa [kfit, hk] using hkf
      have hl := lab_no hff hk hlen.1 (by decide) (by decide) (by decide)
      rw [hl] at hL
      obtain ⟨a, hkids⟩ := one_kid hlen.1
      have ka := kex a (by rw [hkids]; simp) (allK_mem hlen.2 (by rw [hkids]; simp))
      rw [hkids] at hL
      have hT2 : TS N (i : Int) = [qt 19, qt 40] ++ TS N a ++ [qt 41, qt 47] := by rw [hT]; simp [nt, hk, hkids]
      refine ⟨fun R _ => ?_, ⟨qt 19, _, by rw [hT2]; rfl, by simp [qt]⟩⟩
      obtain ⟨c, hc⟩ := ka.sh (q := 41) (by simp) (qt 47 :: R)
      refine ⟨c + 1, fun f hf => ?_⟩
      obtain ⟨g, rfl⟩ : ∃ g, f = g + 1 := ⟨f - 1, by omega⟩
      have e := hc g (by omega)
      rw [hT2, hL]
      simp [pS, qt] at e ⊢
      simp [e]
    · -- if
      simp [kfit, hk] at hkf
      obtain ⟨⟨⟨hlen, h1⟩, h2⟩, h3⟩ := hkf
      rcases hlen with hlen | hlen
      · have hl := lab_no hff hk hlen (by decide) (by decide) (by decide)
        rw [hl] at hL
        obtain ⟨a, b, hkids⟩ := two_kids hlen
        have hma : a ∈ n.kids := by rw [hkids]; simp
        have hmb : b ∈ n.kids := by rw [hkids]; simp
        rw [hkids] at hL h1 h2 h3
        have ka := kex a hma (allK_mem h1 (by simp))
        have hb3 : kd N b = 3 := by have := allK_mem h2 (x := b) (by simp); simpa [isK] using this
        have kb := kst b hmb (by rw [hb3]; rfl)
        obtain ⟨rb, erb⟩ := kbl b hmb hb3
        have hT2 : TS N (i : Int) = [qt 12] ++ TS N a ++ TS N b := by rw [hT]; simp [nt, hk, hkids]
        refine ⟨fun R hR => ?_, ⟨qt 12, _, by rw [hT2]; rfl, by simp [qt]⟩⟩
        have hR2 := hR (by rw [hnd, hk]; decide)
        obtain ⟨c, hc⟩ := ka.sh (q := 42) (by simp) (rb ++ R)
        obtain ⟨c2, hc2⟩ := kb.out R (fun h => absurd (by rw [knd b hmb]; exact hb3) h)
        refine ⟨c + c2 + 1, fun f hf => ?_⟩
        obtain ⟨g, rfl⟩ : ∃ g, f = g + 1 := ⟨f - 1, by omega⟩
        have e := hc g (by omega)
        have e2 := hc2 g (by omega)
        rw [hT2, hL]
        rw [← List.cons_append, ← erb] at e
        have hh : ¬ (R.head?.map Prod.fst) = some (13 : Int) := by
          cases R with
          | nil => simp
          | cons t r => have := hR2 t r rfl; simpa using this
        simp only [List.append_assoc, List.cons_append, List.nil_append]
        simp [pS, qt, e, e2] at hh ⊢
        exact fun x y h => absurd h (hh x y)
      · have hl := lab_no hff hk hlen (by decide) (by decide) (by decide)
        rw [hl] at hL
        obtain ⟨a, b, d, hkids⟩ := three_kids hlen
        have hma : a ∈ n.kids := by rw [hkids]; simp
        have hmb : b ∈ n.kids := by rw [hkids]; simp
        have hmd : d ∈ n.kids := by rw [hkids]; simp
        rw [hkids] at hL h1 h2 h3
        have ka := kex a hma (allK_mem h1 (by simp))
        have hb3 : kd N b = 3 := by have := allK_mem h2 (x := b) (by simp); simpa [isK] using this
        have kb := kst b hmb (by rw [hb3]; rfl)
        obtain ⟨rb, erb⟩ := kbl b hmb hb3
        have hd3 : kd N d = 3 ∨ kd N d = 10 := by have := allK_mem h3 (x := d) (by simp); simpa [isEl] using this
        have kd' := kst d hmd (by rcases hd3 with h | h <;> rw [h] <;> rfl)
        have hT2 : TS N (i : Int) = [qt 12] ++ TS N a ++ TS N b ++ (qt 13 :: TS N d) := by rw [hT]; simp [nt, hk, hkids]
        refine ⟨fun R hR => ?_, ⟨qt 12, _, by rw [hT2]; rfl, by simp [qt]⟩⟩
        have hR2 := hR (by rw [hnd, hk]; decide)
        obtain ⟨c, hc⟩ := ka.sh (q := 42) (by simp) (rb ++ (qt 13 :: (TS N d ++ R)))
        obtain ⟨c2, hc2⟩ := kb.out (qt 13 :: (TS N d ++ R)) (fun h => absurd (by rw [knd b hmb]; exact hb3) h)
        obtain ⟨c3, hc3⟩ := kd'.out R (fun _ => hR2)
        refine ⟨c + c2 + c3 + 1, fun f hf => ?_⟩
        obtain ⟨g, rfl⟩ : ∃ g, f = g + 1 := ⟨f - 1, by omega⟩
        have e := hc g (by omega)
        have e2 := hc2 g (by omega)
        have e3 := hc3 g (by omega)
        rw [hT2, hL]
        rw [← List.cons_append, ← erb] at e
        simp only [List.append_assoc, List.cons_append, List.nil_append]
        simp [pS, qt] at e e2 e3 ⊢
        simp [e, e2, e3]
    · -- for
      simp [kfit, hk] at hkf
      obtain ⟨⟨hlen, h1⟩, h2⟩ := hkf
      rcases hlen with hlen | hlen
      · have hl := lab_no hff hk hlen (by decide) (by decide) (by decide)
        rw [hl] at hL
        obtain ⟨b, hkids⟩ := one_kid hlen
        have hmb : b ∈ n.kids := by rw [hkids]; simp
        rw [hkids] at hL h1 h2
        have hb3 : kd N b = 3 := by have := allK_mem h2 (x := b) (by simp); simpa [isK] using this
        have kb := kst b hmb (by rw [hb3]; rfl)
        obtain ⟨rb, erb⟩ := kbl b hmb hb3
        have hT2 : TS N (i : Int) = [qt 14] ++ TS N b := by rw [hT]; simp [nt, hk, hkids]
        refine ⟨fun R hR => ?_, ⟨qt 14, _, by rw [hT2]; rfl, by simp [qt]⟩⟩
        obtain ⟨c2, hc2⟩ := kb.out R (fun h => absurd (by rw [knd b hmb]; exact hb3) h)
        refine ⟨c2 + 1, fun f hf => ?_⟩
        obtain ⟨g, rfl⟩ : ∃ g, f = g + 1 := ⟨f - 1, by omega⟩
        have e2 := hc2 g (by omega)
        rw [hT2, hL]
        rw [erb] at e2 ⊢
        simp [pS, qt] at e2 ⊢
        simp [e2]
      · have hl := lab_no hff hk hlen (by decide) (by decide) (by decide)
        rw [hl] at hL
        obtain ⟨a, b, hkids⟩ := two_kids hlen
        have hma : a ∈ n.kids := by rw [hkids]; simp
        have hmb : b ∈ n.kids := by rw [hkids]; simp
        rw [hkids] at hL h1 h2
        have ka := kex a hma (allK_mem h1 (by simp))
        have hb3 : kd N b = 3 := by have := allK_mem h2 (x := b) (by simp); simpa [isK] using this
        have kb := kst b hmb (by rw [hb3]; rfl)
        obtain ⟨rb, erb⟩ := kbl b hmb hb3
        obtain ⟨ta, ra, era, hka⟩ := ka.hd
        have hT2 : TS N (i : Int) = [qt 14] ++ TS N a ++ TS N b := by rw [hT]; simp [nt, hk, hkids]
        refine ⟨fun R hR => ?_, ⟨qt 14, _, by rw [hT2]; rfl, by simp [qt]⟩⟩
        obtain ⟨c, hc⟩ := ka.sh (q := 42) (by simp) (rb ++ R)
        obtain ⟨c2, hc2⟩ := kb.out R (fun h => absurd (by rw [knd b hmb]; exact hb3) h)
        refine ⟨c + c2 + 1, fun f hf => ?_⟩
        obtain ⟨g, rfl⟩ : ∃ g, f = g + 1 := ⟨f - 1, by omega⟩
        have e := hc g (by omega)
        have e2 := hc2 g (by omega)
        rw [hT2, hL]
        rw [← List.cons_append, ← erb] at e
        have n1 : ¬ ta.1 = 42 := by unfold HK at hka; omega
        rw [era] at e ⊢
        simp only [List.append_assoc, List.cons_append, List.nil_append] at e ⊢
        simp [pS, qt, n1] at e e2 ⊢
        simp [e, e2]
    · -- return
      have hlen : n.kids.length ≤ 1 ∧ allK N isEx n.kids = true := by simpa [kfit, hk] using hkf
      have hl := lab_no hff hk rfl (by decide) (by decide) (by decide)
      rw [hl] at hL
      match hkids : n.kids, hlen.1 with
      | [], _ =>
        rw [hkids] at hL
        have hT2 : TS N (i : Int) = [qt 15, qt 47] := by rw [hT]; simp [nt, hk, hkids]
        refine ⟨fun R _ => ⟨1, fun f hf => ?_⟩, ⟨qt 15, _, by rw [hT2], by simp [qt]⟩⟩
        obtain ⟨g, rfl⟩ : ∃ g, f = g + 1 := ⟨f - 1, by omega⟩
        rw [hT2, hL]
        simp [pS, qt]
      | [a], _ =>
        have ka := kex a (by rw [hkids]; simp) (allK_mem hlen.2 (by rw [hkids]; simp))
        rw [hkids] at hL
        have hT2 : TS N (i : Int) = [qt 15] ++ TS N a ++ [qt 47] := by rw [hT]; simp [nt, hk, hkids]
        obtain ⟨ta, ra, era, hka⟩ := ka.hd
        refine ⟨fun R _ => ?_, ⟨qt 15, _, by rw [hT2]; rfl, by simp [qt]⟩⟩
        obtain ⟨c, hc⟩ := ka.sh (q := 47) (by simp) R
        refine ⟨c + 1, fun f hf => ?_⟩
        obtain ⟨g, rfl⟩ : ∃ g, f = g + 1 := ⟨f - 1, by omega⟩
        have e := hc g (by omega)
        rw [hT2, hL]
        have n1 : ¬ ta.1 = 47 := by unfold HK at hka; omega
        rw [era] at e ⊢
        simp only [List.append_assoc, List.cons_append, List.nil_append] at e ⊢
        simp [pS, qt, n1] at e ⊢
        simp [e]
    · -- break
      have hc0 : n.kids = [] := by simpa [kfit, hk] using hkf
      have hl := lab_no hff hk (c := 0) (by rw [hc0]; rfl) (by decide) (by decide) (by decide)
      rw [hl, hc0] at hL
      have hT2 : TS N (i : Int) = [qt 16, qt 47] := by rw [hT]; simp [nt, hk]
      refine ⟨fun R _ => ⟨1, fun f hf => ?_⟩, ⟨qt 16, _, by rw [hT2], by simp [qt]⟩⟩
      obtain ⟨g, rfl⟩ : ∃ g, f = g + 1 := ⟨f - 1, by omega⟩
      rw [hT2, hL]
      simp [pS, qt]
    · -- continue
      have hc0 : n.kids = [] := by simpa [kfit, hk] using hkf
      have hl := lab_no hff hk (c := 0) (by rw [hc0]; rfl) (by decide) (by decide) (by decide)
      rw [hl, hc0] at hL
      have hT2 : TS N (i : Int) = [qt 17, qt 47] := by rw [hT]; simp [nt, hk]
      refine ⟨fun R _ => ⟨1, fun f hf => ?_⟩, ⟨qt 17, _, by rw [hT2], by simp [qt]⟩⟩
      obtain ⟨g, rfl⟩ : ∃ g, f = g + 1 := ⟨f - 1, by omega⟩
      rw [hT2, hL]
      simp [pS, qt]
end Go.Proofs.YtjepkcebfojiaaaDoor
