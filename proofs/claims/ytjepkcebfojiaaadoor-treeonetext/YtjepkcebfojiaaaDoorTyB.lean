import Derived.Test.YtjepkcebfojiaaaDoorTyA
set_option linter.unusedVariables false
set_option linter.unusedSimpArgs false
namespace Go.Proofs.YtjepkcebfojiaaaDoor
open Go.ChangeShapes Go.WideShapes Go.ChangeAt Go.RowKit

/-- How many tokens of a kind; the numbers among them. -/
def cnt (q : Nat) (K : List (Int × Int)) : Nat := (K.map fun p => if p.1 == (q : Int) then 1 else 0).sum
theorem cnt_app (q : Nat) (A B : List (Int × Int)) : cnt q (A ++ B) = cnt q A + cnt q B := by simp [cnt]
theorem cnt_nil (q : Nat) : cnt q [] = 0 := rfl
def nums (K : List (Int × Int)) : List Int := (K.filter fun p => p.1 == 2).map Prod.snd
theorem nums_app (A B : List (Int × Int)) : nums (A ++ B) = nums A ++ nums B := by simp [nums]
/-- The kinds that are counted. -/
def CT (q : Nat) : Bool := (decide (1 ≤ q) && decide (q ≤ 22)) || (decide (25 ≤ q) && decide (q ≤ 27)) || decide (q = 42) || (decide (49 ≤ q) && decide (q ≤ 68))
/-- The last byte's class: another token may begin right behind it; or a token has ended. -/
def lok (b : Bool) (c : UInt8) : Prop := if b = true then c ∈ ([32, 40, 91, 45, 33, 94, 9, 10, 123] : List UInt8) else (isNm c = true ∨ c ∈ ([41, 93, 59, 125] : List UInt8))
def hok (b : Bool) (s : List UInt8) : Prop := ∀ d, s.head? = some d → d ≠ 61 ∧ (b = false → isNm d = false)
theorem okc_of {b : Bool} {c d : UInt8} (h : lok b c) (h1 : d ≠ 61) (h2 : b = false → isNm d = false) : okc c d = true := by
  cases b with
  | true =>
    simp only [lok, if_true, List.mem_cons, List.not_mem_nil, or_false] at h
    rcases h with rfl | rfl | rfl | rfl | rfl | rfl | rfl | rfl | rfl <;> simp [okc, isNm, cl, SIGNS, h1]
  | false =>
    simp only [lok, Bool.false_eq_true, if_false] at h
    have h3 := h2 rfl
    by_cases hc : isNm c = true
    · simp [okc, hc, h3]
    · rcases h with h | h
      · exact absurd h hc
      · simp only [List.mem_cons, List.not_mem_nil, or_false] at h
        rcases h with rfl | rfl | rfl | rfl <;> simp [okc, isNm, cl, SIGNS]
/-- Parts: their own tokens, the nodes that they name, the numbers, in order. -/
def PT (sq : Int → List Int) : Bool → List Pt → List (Int × Int) → List Int → List Int → Prop
  | _, [], own, ks, ns => own = [] ∧ ks = [] ∧ ns = []
  | b, p :: r, own, ks, ns =>
    (p.form = 0 ∧ ∃ k1 k2 n2 b1, own = k1 ++ k2 ∧ ns = nums k1 ++ n2 ∧ Ch p.text k1 ∧ p.text ≠ [] ∧ hok b p.text ∧ (∀ c, p.text.getLast? = some c → lok b1 c) ∧ PT sq b1 r k2 ks n2)
    ∨ (p.form = 1 ∧ b = true ∧ ∃ k2 n2, ks = p.node :: k2 ∧ ns = sq p.node ++ n2 ∧ PT sq false r own k2 n2)
    ∨ (p.form = 2 ∧ b = true ∧ ∃ o2 k2 n2, own = [(40, 0), (41, 0)] ++ o2 ∧ ks = p.node :: k2 ∧ ns = sq p.node ++ n2 ∧ PT sq false r o2 k2 n2)
    ∨ (p.form = 3 ∧ PT sq true r own ks ns)
    ∨ (p.form = 4 ∧ ∃ o2, own = [(43, 0)] ++ o2 ∧ PT sq false r o2 ks ns)
theorem PT.weak {sq l own ks ns} (h : PT sq false l own ks ns) : PT sq true l own ks ns := by
  cases l with
  | nil => exact h
  | cons p r =>
    simp only [PT] at h ⊢
    rcases h with ⟨h0, k1, k2, n2, b1, e1, e2, e3, e4, e5, e6⟩ | ⟨h0, h1, _⟩ | ⟨h0, h1, _⟩ | h | h
    · exact .inl ⟨h0, k1, k2, n2, b1, e1, e2, e3, e4, fun d hd => ⟨(e5 d hd).1, fun h => by cases h⟩, e6⟩
    · cases h1
    · cases h1
    · exact .inr (.inr (.inr (.inl h)))
    · exact .inr (.inr (.inr (.inr h)))
theorem PT.nil (sq : Int → List Int) (b : Bool) : PT sq b [] [] [] [] := ⟨rfl, rfl, rfl⟩
theorem PT.tp {sq : Int → List Int} {b : Bool} (b1 : Bool) {s : List UInt8} {k1 : List (Int × Int)} {r own ks ns} (hc : Ch s k1) (hne : s ≠ []) (hh : hok b s) (hl : ∀ c, s.getLast? = some c → lok b1 c) (h : PT sq b1 r own ks ns) : PT sq b (tp s :: r) (k1 ++ own) ks (nums k1 ++ ns) :=
  .inl ⟨rfl, k1, own, ns, b1, rfl, rfl, hc, hne, hh, hl, h⟩
theorem PT.wp {sq : Int → List Int} (x : Int) {r own ks ns} (h : PT sq false r own ks ns) : PT sq true (wp x :: r) own (x :: ks) (sq x ++ ns) := .inr (.inl ⟨rfl, rfl, ks, ns, rfl, rfl, h⟩)
theorem PT.xp {sq : Int → List Int} (x : Int) {r own ks ns} (h : PT sq false r own ks ns) : PT sq true (xp x :: r) ([(40, 0), (41, 0)] ++ own) (x :: ks) (sq x ++ ns) := .inr (.inr (.inl ⟨rfl, rfl, own, ks, ns, rfl, rfl, rfl, h⟩))
theorem PT.np {sq : Int → List Int} {b : Bool} {r own ks ns} (h : PT sq true r own ks ns) : PT sq b (np :: r) own ks ns := .inr (.inr (.inr (.inl ⟨rfl, h⟩)))
theorem PT.ep {sq : Int → List Int} {b : Bool} {r own ks ns} (h : PT sq false r own ks ns) : PT sq b (ep :: r) ([(43, 0)] ++ own) ks ns := .inr (.inr (.inr (.inr ⟨rfl, own, rfl, h⟩)))
theorem PT.vp {sq : Int → List Int} (N : List Nd) (x m : Int) {r own ks ns} (h : PT sq false r own ks ns) : ∃ e, (e = [] ∨ e = [(40, 0), (41, 0)]) ∧ PT sq true (vp N x m :: r) (e ++ own) (x :: ks) (sq x ++ ns) := by
  unfold Go.Proofs.YtjepkcebfojiaaaDoor.vp
  split
  · exact ⟨_, .inr rfl, .xp x h⟩
  · exact ⟨_, .inl rfl, .wp x h⟩
theorem PT.app {sq : Int → List Int} {r own' ks' ns'} (h' : PT sq false r own' ks' ns') : ∀ {l b own ks ns}, PT sq b l own ks ns → PT sq b (l ++ r) (own ++ own') (ks ++ ks') (ns ++ ns') := by
  intro l
  induction l with
  | nil =>
    intro b own ks ns h
    obtain ⟨rfl, rfl, rfl⟩ := h
    cases b with
    | true => exact h'.weak
    | false => exact h'
  | cons p l ih =>
    intro b own ks ns h
    simp only [PT, List.cons_append] at h ⊢
    rcases h with ⟨h0, k1, k2, n2, b1, rfl, rfl, e3, e4, e5, e6, e7⟩ | ⟨h0, h1, k2, n2, rfl, rfl, e7⟩ | ⟨h0, h1, o2, k2, n2, rfl, rfl, rfl, e7⟩ | ⟨h0, e7⟩ | ⟨h0, o2, rfl, e7⟩
    · exact .inl ⟨h0, k1, k2 ++ own', n2 ++ ns', b1, by simp, by simp, e3, e4, e5, e6, ih e7⟩
    · exact .inr (.inl ⟨h0, h1, k2 ++ ks', n2 ++ ns', by simp, by simp, ih e7⟩)
    · exact .inr (.inr (.inl ⟨h0, h1, o2 ++ own', k2 ++ ks', n2 ++ ns', by simp, by simp, by simp, ih e7⟩))
    · exact .inr (.inr (.inr (.inl ⟨h0, ih e7⟩)))
    · exact .inr (.inr (.inr (.inr ⟨h0, o2 ++ own', by simp, ih e7⟩)))
/-- What a node's own tokens are worth: so many of each counted kind, all pairs even. -/
structure Ow (f : Nat → Nat) (own : List (Int × Int)) : Prop where
  ct : ∀ q, CT q = true → cnt q own = f q
  p1 : cnt 40 own = cnt 41 own
  p2 : cnt 42 own = cnt 43 own
  p3 : cnt 44 own = cnt 45 own
  rg : ∀ p ∈ own, 1 ≤ p.1 ∧ p.1 ≤ 69
/-- Each node's parts are such. -/
structure NP (N : List Nd) (sq : Int → List Int) (f : Nd → Nat → Nat) : Prop where
  out : ∀ (i : Nat) (h : i < N.length), ∃ own, PT sq true (ndParts N N[i]) own N[i].kids (sq (i : Int)) ∧ Ow (f N[i]) own
/-- The text so far, its tokens, and what is still to be printed. -/
structure IV (sq : Int → List Int) (s : Ps) (K own : List (Int × Int)) (ks ns : List Int) : Prop where
  lb : LB s.text K
  pt : ∃ b, (∀ c, s.text.getLast? = some c → lok b c) ∧ PT sq b s.todo own ks ns
  rg : (∀ p ∈ K, 1 ≤ p.1 ∧ p.1 ≤ 69) ∧ ∀ p ∈ own, 1 ≤ p.1 ∧ p.1 ≤ 69
theorem tabs_last (o : Nat) : ∃ c, (tabs o).getLast? = some c ∧ (c = 10 ∨ c = 9) := by
  cases o with
  | zero => exact ⟨10, rfl, .inl rfl⟩
  | succ o => exact ⟨9, by simp [tabs, List.replicate_succ', List.getLast?_cons, List.getLast?_append], .inr rfl⟩
theorem bd_bl (X : List UInt8) (o : Nat) (h : ∀ c, X.getLast? = some c → ∃ b, lok b c) : Bd X (tabs o) := fun c d hc hd => by
  simp [tabs] at hd
  subst hd
  obtain ⟨b, hb⟩ := h c hc
  exact okc_of hb (by decide) (fun _ => by decide)
theorem lx_run {N : List Nd} {sq : Int → List Int} {f : Nd → Nat → Nat} (hF : FitK N) (hN : NP N sq f) : ∀ {k s S' K own ks ns}, RunsOKx N k s S' → IV sq s K own ks ns →
    ∃ K', LB S'.text K' ∧ (∀ q, CT q = true → cnt q K' = cnt q K + cnt q own + (ks.map (wt (fun n => f n q) N)).sum) ∧ (cnt 40 K' + (cnt 41 K + cnt 41 own) = cnt 41 K' + (cnt 40 K + cnt 40 own)) ∧ (cnt 42 K' + (cnt 43 K + cnt 43 own) = cnt 43 K' + (cnt 42 K + cnt 42 own)) ∧ (cnt 44 K' + (cnt 45 K + cnt 45 own) = cnt 45 K' + (cnt 44 K + cnt 44 own)) ∧ nums K' = nums K ++ ns ∧ (∀ p ∈ K', 1 ≤ p.1 ∧ p.1 ≤ 69) ∧ ((∀ c, S'.text.getLast? = some c → ∃ b, lok b c)) := by
  intro k
  induction k with
  | zero =>
    intro s S' K own ks ns h hI
    rcases h.inv with ⟨_, rfl, e⟩ | ⟨n, p, r, e, _⟩
    · obtain ⟨b, hb, hp⟩ := hI.pt
      rw [e] at hp
      obtain ⟨rfl, rfl, rfl⟩ := hp
      exact ⟨K, hI.lb, fun q _ => by simp [cnt_nil], by simp [cnt_nil]; omega, by simp [cnt_nil]; omega, by simp [cnt_nil]; omega, by simp, hI.rg.1, fun c hc => ⟨b, hb c hc⟩⟩
    · omega
  | succ k ih =>
    intro s S' K own ks ns h hI
    rcases h.inv with ⟨e, _⟩ | ⟨n, p, r, e, e1, hOK, _, hR⟩
    · omega
    obtain rfl : k = n := by omega
    obtain ⟨b, hb, hp⟩ := hI.pt
    obtain ⟨text, todo, opn⟩ := s
    simp only at e1 hb hp hOK
    subst e1
    have hlb := hI.lb
    have hrg := hI.rg
    simp only at hlb
    simp only [PT] at hp
    rcases hp with ⟨h0, k1, k2, n2, b1, rfl, rfl, e3, e4, e5, e6, e7⟩ | ⟨h0, h1, k2, n2, rfl, rfl, e7⟩ | ⟨h0, h1, o2, k2, n2, rfl, rfl, rfl, e7⟩ | ⟨h0, e7⟩ | ⟨h0, o2, rfl, e7⟩
    · have es : pstep N ⟨text, p :: r, opn⟩ = ⟨text ++ p.text, r, opn⟩ := by simp [pstep, h0]
      rw [es] at hR
      have hbd : Bd text p.text := fun c d hc hd => okc_of (hb c hc) (e5 d hd).1 (e5 d hd).2
      obtain ⟨K', g1, g2, g3, g4, g5, g6, g7⟩ := ih hR (K := K ++ k1) (own := k2) (ks := ks) (ns := n2) ⟨hlb.next e3 hbd e4, ⟨b1, fun c hc => e6 c (by rw [← last_app e4]; exact hc), e7⟩, fun q hq => by
        rcases List.mem_append.1 hq with h | h
        · exact hrg.1 q h
        · exact hrg.2 q (by simp [h]), fun q hq => hrg.2 q (by simp [hq])⟩
      simp only [cnt_app] at g2 g3 g4 g5 ⊢
      exact ⟨K', g1, fun q hq => by rw [g2 q hq]; omega, by omega, by omega, by omega, by rw [g6, nums_app]; simp, g7⟩
    · rcases hOK with ⟨q, _⟩ | ⟨_, j, hj, hjl, _⟩ | ⟨q, _⟩ | ⟨q, _⟩ | ⟨q, _⟩
      · omega
      · have e0 : ndOf N p.node = N[j] := by rw [hj]; simp [ndOf, List.getD, hjl]
        have es : pstep N ⟨text, p :: r, opn⟩ = ⟨text, ndParts N N[j] ++ r, if N[j].kind = 3 then opn + 1 else opn⟩ := by simp [pstep, h0, e0]
        rw [es] at hR
        obtain ⟨own1, hP1, hO1⟩ := hN.out j hjl
        subst h1
        obtain ⟨K', g1, g2, g3, g4, g5, g6, g7⟩ := ih hR (K := K) (own := own1 ++ own) (ks := N[j].kids ++ k2) (ns := sq (j : Int) ++ n2) ⟨hlb, ⟨true, hb, PT.app e7 hP1⟩, hrg.1, fun q hq => by
          rcases List.mem_append.1 hq with h | h
          · exact hO1.rg q h
          · exact hrg.2 q h⟩
        have o1 := hO1.p1
        have o2 := hO1.p2
        have o3 := hO1.p3
        simp only [cnt_app] at g2 g3 g4 g5 ⊢
        refine ⟨K', g1, fun q hq => ?_, by omega, by omega, by omega, by rw [g6, hj], g7⟩
        rw [g2 q hq, hO1.ct q hq, hj, List.map_append, List.sum_append, List.map_cons, List.sum_cons, wt_eq (fun n => f n q) hF j hjl]
        omega
      · omega
      · omega
      · omega
    · have es : pstep N ⟨text, p :: r, opn⟩ = ⟨text, [tp ([40] : List UInt8), wp p.node, tp ([41] : List UInt8)] ++ r, opn⟩ := by simp [pstep, h0]
      rw [es] at hR
      subst h1
      have c40 : Ch [40] [(40, 0)] := Ch.sign (i := 0) (by omega)
      have c41 : Ch [41] [(41, 0)] := Ch.sign (i := 1) (by omega)
      have hP : PT sq true ([tp ([40] : List UInt8), wp p.node, tp ([41] : List UInt8)] ++ r) ([(40, 0)] ++ ([(41, 0)] ++ o2)) (p.node :: k2) (nums [(40, 0)] ++ (sq p.node ++ (nums [(41, 0)] ++ n2))) :=
        PT.tp true c40 (by simp) (fun d hd => by simp at hd; subst hd; exact ⟨by decide, fun h => by cases h⟩) (fun c hc => by simp at hc; subst hc; simp [lok]) (PT.wp p.node (PT.tp false c41 (by simp) (fun d hd => by simp at hd; subst hd; exact ⟨by decide, fun _ => by decide⟩) (fun c hc => by simp at hc; subst hc; simp [lok]) e7))
      obtain ⟨K', g1, g2, g3, g4, g5, g6, g7⟩ := ih hR (K := K) (own := [(40, 0)] ++ ([(41, 0)] ++ o2)) (ks := p.node :: k2) (ns := _) ⟨hlb, ⟨true, hb, hP⟩, hrg.1, fun q hq => hrg.2 q (by simpa using hq)⟩
      simp only [cnt_app] at g2 g3 g4 g5 ⊢
      refine ⟨K', g1, fun q hq => ?_, ?_, ?_, ?_, ?_, g7⟩
      · rw [g2 q hq]; simp [cnt]; omega
      · have : cnt 40 [(40, 0), (41, 0)] = 1 ∧ cnt 41 [(40, 0), (41, 0)] = 1 ∧ cnt 40 [(40, 0)] = 1 ∧ cnt 41 [(40, 0)] = 0 ∧ cnt 40 [(41, 0)] = 0 ∧ cnt 41 [(41, 0)] = 1 := by decide
        omega
      · have : cnt 42 [(40, 0), (41, 0)] = 0 ∧ cnt 43 [(40, 0), (41, 0)] = 0 ∧ cnt 42 [(40, 0)] = 0 ∧ cnt 43 [(40, 0)] = 0 ∧ cnt 42 [(41, 0)] = 0 ∧ cnt 43 [(41, 0)] = 0 := by decide
        omega
      · have : cnt 44 [(40, 0), (41, 0)] = 0 ∧ cnt 45 [(40, 0), (41, 0)] = 0 ∧ cnt 44 [(40, 0)] = 0 ∧ cnt 45 [(40, 0)] = 0 ∧ cnt 44 [(41, 0)] = 0 ∧ cnt 45 [(41, 0)] = 0 := by decide
        omega
      · rw [g6]; simp [nums]
    · have es : pstep N ⟨text, p :: r, opn⟩ = ⟨text ++ tabs opn, r, opn⟩ := by simp [pstep, h0]
      rw [es] at hR
      have ht : tabs opn ≠ [] := by simp [tabs]
      obtain ⟨c, hc1, hc2⟩ := tabs_last opn
      obtain ⟨K', g1, g2, g3, g4, g5, g6, g7⟩ := ih hR (K := K ++ []) (own := own) (ks := ks) (ns := ns) ⟨hlb.next (Ch.tabs opn) (bd_bl text opn fun c hc => ⟨b, hb c hc⟩) ht, ⟨true, fun c' hc' => by
        rw [last_app ht, hc1] at hc'
        cases hc'
        rcases hc2 with rfl | rfl <;> simp [lok], e7⟩, by simpa using hrg.1, hrg.2⟩
      simp only [List.append_nil] at g2 g3 g4 g5 g6
      exact ⟨K', g1, g2, g3, g4, g5, g6, g7⟩
    · rcases hOK with ⟨q, _⟩ | ⟨q, _⟩ | ⟨q, _⟩ | ⟨q, _⟩ | ⟨_, o, ho, _⟩
      · omega
      · omega
      · omega
      · omega
      simp only at ho
      subst ho
      have es : pstep N ⟨text, p :: r, o + 1⟩ = ⟨text ++ tabs o ++ ([125] : List UInt8), r, o⟩ := by simp [pstep, h0]
      rw [es] at hR
      have ht : tabs o ≠ [] := by simp [tabs]
      obtain ⟨c, hc1, hc2⟩ := tabs_last o
      have c43 : Ch [125] [(43, 0)] := Ch.sign (i := 3) (by omega)
      have l1 := hlb.next (Ch.tabs o) (bd_bl text o fun c hc => ⟨b, hb c hc⟩) ht
      have l2 := l1.next c43 (bd_last (by rw [last_app ht]; exact hc1) (okc_blank (by rcases hc2 with h | h <;> simp [h]))) (by simp)
      obtain ⟨K', g1, g2, g3, g4, g5, g6, g7⟩ := ih hR (K := K ++ [] ++ [(43, 0)]) (own := o2) (ks := ks) (ns := ns) ⟨l2, ⟨false, fun c' hc' => by
        rw [last_app (by simp)] at hc'
        simp at hc'
        subst hc'
        simp [lok], e7⟩, fun q hq => by
          simp at hq
          rcases hq with h | rfl
          · exact hrg.1 _ h
          · exact ⟨by decide, by decide⟩, fun q hq => hrg.2 q (by simp [hq])⟩
      simp only [cnt_app, cnt_nil] at g2 g3 g4 g5 ⊢
      exact ⟨K', g1, fun q hq => by rw [g2 q hq]; omega, by omega, by omega, by omega, by rw [g6]; simp [nums], g7⟩
end Go.Proofs.YtjepkcebfojiaaaDoor
