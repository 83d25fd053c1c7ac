import Derived.Test.YtjepkcebfojiaaaDoorTrS
set_option linter.unusedVariables false
set_option linter.unusedSimpArgs false
namespace Go.Proofs.YtjepkcebfojiaaaDoor
open Go.ChangeShapes Go.WideShapes Go.ChangeAt Go.RowKit

def TYPES : List (List UInt8) := [[], [105, 110, 116], [98, 111, 111, 108], [91, 93, 105, 110, 116]]
def OPS : List (List UInt8) := [[], [43], [45], [42], [47], [37], [38], [124], [94], [38, 94], [60, 60], [62, 62], [61, 61], [33, 61], [60], [60, 61], [62], [62, 61], [38, 38], [124, 124], [45], [33], [94]]
/-- A piece of what is still to be printed. -/
structure Pt where
  form : Int
  text : List UInt8
  node : Int
def tp (s : List UInt8) : Pt := ⟨0, s, 0⟩
def wp (k : Int) : Pt := ⟨1, [], k⟩
def xp (k : Int) : Pt := ⟨2, [], k⟩
def np : Pt := ⟨3, [], 0⟩
def ep : Pt := ⟨4, [], 0⟩

def nd0 : Nd := ⟨0, 0, 0, 0, 0, 0, 0, 0, [], []⟩
def ndOf (N : List Nd) (x : Int) : Nd := N.getD x.toNat nd0
def typeT (t : Int) : List UInt8 := TYPES.getD t.toNat []
def opT (t : Int) : List UInt8 := OPS.getD t.toNat []

def lvOp (op : Int) : Int :=
  if op = 19 then 1 else if op = 18 then 2 else if op = 12 ∨ op = 13 ∨ op = 14 ∨ op = 15 ∨ op = 16 ∨ op = 17 then 3
  else if op = 1 ∨ op = 2 ∨ op = 7 ∨ op = 8 then 4 else 5
def lv (n : Nd) : Int := if n.kind = 30 then 6 else if n.kind = 31 then lvOp n.op else 7
def vp (N : List Nd) (k least : Int) : Pt := if lv (ndOf N k) < least then xp k else wp k

def jn : List Int → List Pt
  | [] => []
  | k :: r => wp k :: r.flatMap fun x => [tp ([44, 32] : List UInt8), wp x]

/-- The decimal digits of a number from 0 on. -/
def dg (d : Nat) : UInt8 := UInt8.ofNat (48 + d)
def dcm (n : Nat) : List UInt8 := if h : n < 10 then [dg n] else dcm (n / 10) ++ [dg (n % 10)]

def valParts (head lead : List UInt8) (l : List Int) : List Pt :=
  match l with
  | [] => [tp head, tp ([59] : List UInt8)]
  | k :: _ => [tp head, tp lead, wp k, tp ([59] : List UInt8)]

def stParts (n : Nd) : List Pt :=
  if n.kind = 4 then valParts (([118, 97, 114, 32] : List UInt8) ++ n.name ++ ([32] : List UInt8) ++ typeT n.decl) ([32, 61, 32] : List UInt8) n.kids
  else if n.kind = 5 then valParts n.name ([32, 61, 32] : List UInt8) n.kids
  else if n.kind = 6 then [tp (n.name ++ ([91] : List UInt8)), wp (n.kids.getD 0 0), tp ([93, 32, 61, 32] : List UInt8), wp (n.kids.getD 1 0), tp ([59] : List UInt8)]
  else if n.kind = 7 then [wp (n.kids.getD 0 0), tp ([59] : List UInt8)]
  else if n.kind = 8 then [tp ([112, 114, 105, 110, 116, 40] : List UInt8), wp (n.kids.getD 0 0), tp ([41, 59] : List UInt8)]
  else if n.kind = 9 then [tp ([112, 97, 110, 105, 99, 40] : List UInt8), wp (n.kids.getD 0 0), tp ([41, 59] : List UInt8)]
  else if n.kind = 10 then [tp ([105, 102, 32] : List UInt8), wp (n.kids.getD 0 0), tp ([32] : List UInt8), wp (n.kids.getD 1 0)] ++ (n.kids.drop 2).flatMap fun x => [tp ([32, 101, 108, 115, 101, 32] : List UInt8), wp x]
  else if n.kind = 11 then [tp ([102, 111, 114] : List UInt8)] ++ n.kids.flatMap fun x => [tp ([32] : List UInt8), wp x]
  else if n.kind = 12 then valParts ([114, 101, 116, 117, 114, 110] : List UInt8) ([32] : List UInt8) n.kids
  else if n.kind = 13 then [tp ([98, 114, 101, 97, 107, 59] : List UInt8)]
  else if n.kind = 14 then [tp ([99, 111, 110, 116, 105, 110, 117, 101, 59] : List UInt8)]
  else []

def exParts (N : List Nd) (n : Nd) : List Pt :=
  if n.kind = 20 then [tp (dcm n.val.toNat)]
  else if n.kind = 21 then [tp ([116, 114, 117, 101] : List UInt8)]
  else if n.kind = 22 then [tp ([102, 97, 108, 115, 101] : List UInt8)]
  else if n.kind = 23 then [tp ([110, 105, 108] : List UInt8)]
  else if n.kind = 26 then [tp ([105, 110, 112, 117, 116, 40, 41] : List UInt8)]
  else if n.kind = 24 then [tp n.name]
  else if n.kind = 25 then [tp (n.name ++ ([40] : List UInt8))] ++ jn n.kids ++ [tp ([41] : List UInt8)]
  else if n.kind = 27 then [tp ([108, 101, 110, 40] : List UInt8), wp (n.kids.getD 0 0), tp ([41] : List UInt8)]
  else if n.kind = 28 then [tp ([109, 97, 107, 101, 40, 91, 93, 105, 110, 116, 44, 32] : List UInt8), wp (n.kids.getD 0 0), tp ([41] : List UInt8)]
  else if n.kind = 29 then [vp N (n.kids.getD 0 0) 7, tp ([91] : List UInt8), wp (n.kids.getD 1 0), tp ([93] : List UInt8)]
  else if n.kind = 30 then [tp (opT n.op), vp N (n.kids.getD 0 0) 6]
  else if n.kind = 31 then [vp N (n.kids.getD 0 0) (if lv n = 3 then lv n + 1 else lv n), tp (([32] : List UInt8) ++ opT n.op ++ ([32] : List UInt8)), vp N (n.kids.getD 1 0) (lv n + 1)]
  else []

def fnParts (n : Nd) : List Pt :=
  [tp (([102, 117, 110, 99, 32] : List UInt8) ++ n.name ++ ([40] : List UInt8))] ++ jn (n.kids.take (n.kids.length - 1))
    ++ [tp (if n.decl = 0 then ([41, 32] : List UInt8) else ([41, 32] : List UInt8) ++ typeT n.decl ++ ([32] : List UInt8)), wp (n.kids.getD (n.kids.length - 1) 0), tp ([10] : List UInt8)]
def blParts (n : Nd) : List Pt := [tp ([123] : List UInt8)] ++ (n.kids.flatMap fun x => [np, wp x]) ++ [ep]

def ndParts (N : List Nd) (n : Nd) : List Pt :=
  if n.kind = 1 then fnParts n else if n.kind = 2 then [tp (n.name ++ ([32] : List UInt8) ++ typeT n.decl)]
  else if n.kind = 3 then blParts n else if isSt n.kind = true then stParts n else exParts N n

/-- The printer: its text, what is still to be printed (the next one first), the open blocks. -/
structure Ps where
  text : List UInt8
  todo : List Pt
  opn : Nat

def tabs (o : Nat) : List UInt8 := 10 :: List.replicate o 9
def pstep (N : List Nd) (s : Ps) : Ps :=
  match s.todo with
  | [] => s
  | p :: r =>
    if p.form = 0 then ⟨s.text ++ p.text, r, s.opn⟩
    else if p.form = 1 then ⟨s.text, ndParts N (ndOf N p.node) ++ r, if (ndOf N p.node).kind = 3 then s.opn + 1 else s.opn⟩
    else if p.form = 2 then ⟨s.text, [tp ([40] : List UInt8), wp p.node, tp ([41] : List UInt8)] ++ r, s.opn⟩
    else if p.form = 3 then ⟨s.text ++ tabs s.opn, r, s.opn⟩
    else ⟨s.text ++ tabs (s.opn - 1) ++ ([125] : List UInt8), r, s.opn - 1⟩

def prun (N : List Nd) : Nat → Ps → Ps
  | 0, s => s
  | n + 1, s => prun N n (pstep N s)
theorem prun_add (N : List Nd) : ∀ (a b : Nat) (s : Ps), prun N (a + b) s = prun N b (prun N a s)
  | 0, b, s => by simp [prun]
  | a + 1, b, s => by rw [Nat.add_right_comm]; exact prun_add N a b _

/-- So many steps, the last one of which leaves nothing to be printed. -/
inductive Runs (N : List Nd) : Nat → Ps → Ps → Prop
  | fin (s : Ps) : s.todo = [] → Runs N 0 s s
  | more {n s s'} : s.todo ≠ [] → Runs N n (pstep N s) s' → Runs N (n + 1) s s'

/-- The parts' texts, by the texts of nodes. -/
def den (g : Nat → Int → List UInt8) : Nat → List Pt → List UInt8
  | _, [] => []
  | o, p :: r =>
    if p.form = 0 then p.text ++ den g o r
    else if p.form = 1 then g o p.node ++ den g o r
    else if p.form = 2 then ([40] : List UInt8) ++ g o p.node ++ ([41] : List UInt8) ++ den g o r
    else if p.form = 3 then tabs o ++ den g o r
    else tabs (o - 1) ++ ([125] : List UInt8) ++ den g (o - 1) r
def tx (N : List Nd) : Nat → Nat → Int → List UInt8
  | 0, _, _ => []
  | f + 1, o, k => den (tx N f) (if (ndOf N k).kind = 3 then o + 1 else o) (ndParts N (ndOf N k))
/-- A node's text. -/
def txt (N : List Nd) (o : Nat) (k : Int) : List UInt8 := tx N (k.toNat + 1) o k

/-- Pieces whose nodes are below a number, none of which ends a block. -/
def Low (m : Int) (l : List Pt) : Prop := ∀ p ∈ l, 0 ≤ p.form ∧ p.form ≤ 3 ∧ ((p.form = 1 ∨ p.form = 2) → 0 ≤ p.node ∧ p.node < m)
def FitK (N : List Nd) : Prop := ∀ (i : Nat) (h : i < N.length), ∀ j ∈ (N[i]).kids, 0 ≤ j ∧ j < i

theorem low_tp (m : Int) (s : List UInt8) : 0 ≤ (tp s).form ∧ (tp s).form ≤ 3 ∧ (((tp s).form = 1 ∨ (tp s).form = 2) → 0 ≤ (tp s).node ∧ (tp s).node < m) := by
  simp [tp]
theorem low_np (m : Int) : 0 ≤ np.form ∧ np.form ≤ 3 ∧ ((np.form = 1 ∨ np.form = 2) → 0 ≤ np.node ∧ np.node < m) := by
  simp [np]
theorem low_wp (m : Int) {k : Int} (h : 0 ≤ k ∧ k < m) : 0 ≤ (wp k).form ∧ (wp k).form ≤ 3 ∧ (((wp k).form = 1 ∨ (wp k).form = 2) → 0 ≤ (wp k).node ∧ (wp k).node < m) := by
  simp [wp, h]
theorem low_vp (N : List Nd) (m : Int) (l : Int) {k : Int} (h : 0 ≤ k ∧ k < m) : 0 ≤ (vp N k l).form ∧ (vp N k l).form ≤ 3 ∧ (((vp N k l).form = 1 ∨ (vp N k l).form = 2) → 0 ≤ (vp N k l).node ∧ (vp N k l).node < m) := by
  unfold vp
  split
  · simp [xp, h]
  · exact low_wp m h
theorem low_nil (m : Int) : Low m [] := by intro p hp; cases hp
theorem low_cons {m : Int} {p : Pt} {l : List Pt} (h : 0 ≤ p.form ∧ p.form ≤ 3 ∧ ((p.form = 1 ∨ p.form = 2) → 0 ≤ p.node ∧ p.node < m)) (hl : Low m l) : Low m (p :: l) := by
  intro q hq
  rcases List.mem_cons.1 hq with rfl | hq
  · exact h
  · exact hl q hq
theorem low_app {m : Int} {a b : List Pt} (ha : Low m a) (hb : Low m b) : Low m (a ++ b) := by
  intro q hq
  rcases List.mem_append.1 hq with hq | hq
  · exact ha q hq
  · exact hb q hq
theorem low_flat {m : Int} {f : Int → List Pt} : ∀ {l : List Int}, (∀ x ∈ l, Low m (f x)) → Low m (l.flatMap f)
  | [], _ => low_nil m
  | x :: l, h => by
    rw [List.flatMap_cons]
    exact low_app (h x (by simp)) (low_flat fun y hy => h y (by simp [hy]))
theorem low_jn {m : Int} {l : List Int} (h : ∀ x ∈ l, 0 ≤ x ∧ x < m) : Low m (jn l) := by
  cases l with
  | nil => exact low_nil m
  | cons k r =>
    exact low_cons (low_wp m (h k (by simp))) (low_flat fun x hx => low_cons (low_tp m _) (low_cons (low_wp m (h x (by simp [hx]))) (low_nil m)))
theorem getD_mem {l : List Int} {i : Nat} (h : i < l.length) : l.getD i 0 ∈ l := by
  simp [List.getD, h]

theorem den_low {g g' : Nat → Int → List UInt8} {m : Int} (hg : ∀ o k, 0 ≤ k → k < m → g o k = g' o k) : ∀ (l : List Pt) (o : Nat), Low m l → den g o l = den g' o l
  | [], _, _ => rfl
  | p :: r, o, h => by
    have ih := fun o => den_low hg r o (fun q hq => h q (by simp [hq]))
    have hp := h p (by simp)
    simp only [den]
    rw [ih]
    by_cases h0 : p.form = 0
    · simp [h0]
    · by_cases h1 : p.form = 1
      · have := hp.2.2 (.inl h1)
        simp [h1, hg _ _ this.1 this.2]
      · by_cases h2 : p.form = 2
        · have := hp.2.2 (.inr h2)
          simp [h2, hg _ _ this.1 this.2]
        · have h3 : p.form = 3 := by omega
          simp [h3]
theorem den_app {g : Nat → Int → List UInt8} {m : Int} : ∀ (l r : List Pt) (o : Nat), Low m l → den g o (l ++ r) = den g o l ++ den g o r
  | [], _, _, _ => rfl
  | p :: l, r, o, h => by
    have ih := fun o => den_app (g := g) l r o (fun q hq => h q (by simp [hq]))
    have hp := h p (by simp)
    simp only [den, List.cons_append]
    rw [ih]
    by_cases h0 : p.form = 0
    · simp [h0]
    · by_cases h1 : p.form = 1
      · simp [h1]
      · by_cases h2 : p.form = 2
        · simp [h2]
        · have h3 : p.form = 3 := by omega
          simp [h3]
/-- The walk by a stack: which nodes wait for their parent. -/
def stk : List Int → Nat → List (List Int) → Option (List Int)
  | l, _, [] => some l
  | l, i, k :: K => if k.length ≤ l.length ∧ l.drop (l.length - k.length) = k then stk (l.take (l.length - k.length) ++ [(i : Int)]) (i + 1) K else none

theorem stk_cons {l : List Int} {i : Nat} {k : List Int} {K : List (List Int)} {F : List Int} (h : stk l i (k :: K) = some F) :
    k.length ≤ l.length ∧ l.drop (l.length - k.length) = k ∧ stk (l.take (l.length - k.length) ++ [(i : Int)]) (i + 1) K = some F := by
  unfold stk at h
  split at h
  · rename_i h1; exact ⟨h1.1, h1.2, h⟩
  · cases h

def total (K : List (List Int)) : Nat := (K.map List.length).sum

theorem stk_total : ∀ (K : List (List Int)) (l : List Int) (i : Nat) (F : List Int), stk l i K = some F → F.length + total K = l.length + K.length
  | [], l, i, F, h => by simp [stk] at h; subst h; simp [total]
  | k :: K, l, i, F, h => by
    obtain ⟨h1, _, h2⟩ := stk_cons h
    have := stk_total K _ _ _ h2
    simp [total] at this ⊢
    omega

theorem stk_same : ∀ (K K' : List (List Int)) (l : List Int) (i : Nat) (F F' : List Int), stk l i K = some F → stk l i K' = some F' → K.map List.length = K'.map List.length → K = K' ∧ F = F'
  | [], [], l, i, F, F', h, h', _ => by simp [stk] at h h'; exact ⟨rfl, h.symm.trans h'⟩
  | [], _ :: _, _, _, _, _, _, _, e => by simp at e
  | _ :: _, [], _, _, _, _, _, _, e => by simp at e
  | k :: K, k' :: K', l, i, F, F', h, h', e => by
    obtain ⟨_, h1, h2⟩ := stk_cons h
    obtain ⟨_, h1', h2'⟩ := stk_cons h'
    simp at e
    rw [← e.1] at h1' h2'
    obtain ⟨rfl, rfl⟩ := stk_same K K' _ _ F F' h2 h2' e.2
    exact ⟨by rw [← h1, h1'], rfl⟩

theorem stk_snoc : ∀ (K : List (List Int)) (l : List Int) (i : Nat) (k F : List Int), stk l i (K ++ [k]) = some F → ∃ F0, stk l i K = some F0 ∧ stk F0 (i + K.length) [k] = some F
  | [], l, i, k, F, h => ⟨l, rfl, by simpa using h⟩
  | k0 :: K, l, i, k, F, h => by
    obtain ⟨a, b, c⟩ := stk_cons (K := K ++ [k]) h
    obtain ⟨F0, d, e⟩ := stk_snoc K _ _ _ _ c
    refine ⟨F0, ?_, ?_⟩
    · unfold stk; rw [if_pos ⟨a, b⟩]; exact d
    · simpa [Nat.add_assoc, Nat.add_comm 1] using e

theorem stk_append : ∀ (K K2 : List (List Int)) (l : List Int) (i : Nat) (F : List Int), stk l i (K ++ K2) = some F → ∃ F0, stk l i K = some F0 ∧ stk F0 (i + K.length) K2 = some F
  | [], K2, l, i, F, h => ⟨l, rfl, by simpa using h⟩
  | k0 :: K, K2, l, i, F, h => by
    obtain ⟨a, b, c⟩ := stk_cons (K := K ++ K2) h
    obtain ⟨F0, d, e⟩ := stk_append K K2 _ _ _ c
    refine ⟨F0, ?_, ?_⟩
    · unfold stk; rw [if_pos ⟨a, b⟩]; exact d
    · simpa [Nat.add_assoc, Nat.add_comm 1] using e

/-- What waits is below the next number, and the last one is the number ahead of it. -/
theorem stk_lt : ∀ (K : List (List Int)) (l : List Int) (i : Nat) (F : List Int), stk l i K = some F → (∀ x ∈ l, 0 ≤ x ∧ x < i) → (∀ x ∈ F, 0 ≤ x ∧ x < i + K.length) ∧ ∀ k ∈ K, ∀ x ∈ k, 0 ≤ x ∧ x < i + K.length
  | [], l, i, F, h, hl => by simp [stk] at h; subst h; simpa using hl
  | k :: K, l, i, F, h, hl => by
    obtain ⟨a, b, c⟩ := stk_cons h
    have ih := stk_lt K _ _ F c (fun x hx => by
      simp at hx
      rcases hx with hx | rfl
      · have := hl x (List.mem_of_mem_take hx); omega
      · omega)
    refine ⟨fun x hx => by have := ih.1 x hx; simp; omega, fun k' hk' x hx => ?_⟩
    rcases List.mem_cons.1 hk' with rfl | hk'
    · rw [← b] at hx
      have := hl x (List.mem_of_mem_drop hx)
      simp; omega
    · have := ih.2 k' hk' x hx; simp; omega

theorem stk_top : ∀ (K : List (List Int)) (l : List Int) (i : Nat) (F : List Int), stk l i K = some F → K ≠ [] → F.getLast? = some ((i + K.length : Nat) - 1 : Int)
  | [k], l, i, F, h, _ => by
    obtain ⟨_, _, c⟩ := stk_cons h
    simp [stk] at c; subst c; simp
  | k :: k2 :: K, l, i, F, h, _ => by
    obtain ⟨_, _, c⟩ := stk_cons h
    have := stk_top (k2 :: K) _ _ F c (by simp)
    rw [this]; simp; omega

theorem stk_has : ∀ (K : List (List Int)) (l : List Int) (i : Nat) (F : List Int), stk l i K = some F → ∀ x, (x ∈ l ∨ ((i : Int) ≤ x ∧ x < i + K.length)) → x ∈ F ∨ ∃ k ∈ K, x ∈ k
  | [], l, i, F, h, x, hx => by
    simp [stk] at h; subst h
    rcases hx with hx | hx
    · exact .inl hx
    · simp at hx; omega
  | k :: K, l, i, F, h, x, hx => by
    obtain ⟨a, b, c⟩ := stk_cons h
    have hh : (x ∈ l.take (l.length - k.length) ++ [(i : Int)] ∨ (((i + 1 : Nat) : Int) ≤ x ∧ x < (i + 1 : Nat) + K.length)) ∨ x ∈ k := by
      rcases hx with hx | hx
      · rw [← List.take_append_drop (l.length - k.length) l, b] at hx
        rcases List.mem_append.1 hx with hx | hx
        · exact .inl (.inl (by simp [hx]))
        · exact .inr hx
      · by_cases e : x = i
        · exact .inl (.inl (by simp [e]))
        · refine .inl (.inr ?_)
          simp at hx ⊢
          omega
    rcases hh with hh | hh
    · rcases stk_has K _ _ F c x hh with h | ⟨k', h1, h2⟩
      · exact .inl h
      · exact .inr ⟨k', by simp [h1], h2⟩
    · exact .inr ⟨k, by simp, hh⟩

/-- Two numbers exchanged. -/
def sw (i j x : Int) : Int := if x = i then j else if x = j then i else x

theorem sw_eq {i j x : Int} (h1 : x ≠ i) (h2 : x ≠ j) : sw i j x = x := by simp [sw, h1, h2]

/-- A walk whose nodes i < j are exchanged, and all numbers with them, is none. -/
theorem stk_order (A B C : List (List Int)) (p q F : List Int) (i j : Nat) (hi : A.length = i) (hj : i + 1 + B.length = j)
    (h : stk [] 0 (A ++ p :: (B ++ q :: C)) = some F) :
    stk [] 0 (A.map (·.map (sw i j)) ++ q.map (sw i j) :: (B.map (·.map (sw i j)) ++ p.map (sw i j) :: C.map (·.map (sw i j)))) ≠ some (F.map (sw i j)) := by
  intro h'
  obtain ⟨L, hA, hR⟩ := stk_append A _ _ _ _ h
  obtain ⟨L', hA', hR'⟩ := stk_append (A.map (·.map (sw i j))) _ _ _ _ h'
  have hAl := stk_lt A [] 0 L hA (by simp)
  have eA : A.map (·.map (sw i j)) = A := by
    refine (List.map_congr_left fun k hk => ?_).trans (List.map_id _)
    refine (List.map_congr_left fun x hx => ?_).trans (List.map_id _)
    have := hAl.2 k hk x hx
    exact sw_eq (by omega) (by omega)
  rw [eA] at hA' hR'
  obtain rfl : L = L' := Option.some.inj (hA.symm.trans hA')
  obtain ⟨a1, a2, a3⟩ := stk_cons hR
  obtain ⟨b1, b2, b3⟩ := stk_cons hR'
  obtain ⟨M, hM, hN⟩ := stk_append B _ _ _ _ a3
  obtain ⟨M', hM', hN'⟩ := stk_append (B.map (·.map (sw i j))) _ _ _ _ b3
  obtain ⟨c1, c2, c3⟩ := stk_cons hN
  obtain ⟨d1, d2, d3⟩ := stk_cons hN'
  have top : ∀ (D : List (List Int)) (l : List Int) (M : List Int), D.length = B.length → stk (l ++ [((0 + A.length : Nat) : Int)]) (0 + A.length + 1) D = some M → M.getLast? = some ((j : Int) - 1) := by
    intro D l M hD hM
    by_cases hn : D = []
    · subst hn
      simp [stk] at hM
      rw [← hM]
      simp at hD ⊢
      omega
    · rw [stk_top D _ _ M hM hn]
      simp; omega
  have small : ∀ (x : Int), x ∈ L → x < i := fun x hx => by have := hAl.1 x hx; omega
  -- q has no kids
  have hq : q = [] := by
    apply Classical.byContradiction
    intro hne
    have e1 := top B _ M rfl hM
    have e2 : q.getLast? = some ((j : Int) - 1) := by
      rw [← c2, List.getLast?_drop, if_neg (by have := List.length_pos_iff.2 hne; omega)]; exact e1
    have e3 : sw i j ((j : Int) - 1) ∈ q.map (sw i j) := List.mem_map.2 ⟨_, List.mem_of_getLast? e2, rfl⟩
    rw [← b2] at e3
    have := small _ (List.mem_of_mem_drop e3)
    unfold sw at this
    split at this <;> try split at this
    all_goals omega
  have hp : p = [] := by
    apply Classical.byContradiction
    intro hne
    have e1 := top (B.map (·.map (sw i j))) _ M' (by simp) hM'
    have hpp : p.map (sw i j) = p := by
      refine (List.map_congr_left fun x hx => ?_).trans (List.map_id _)
      rw [← a2] at hx
      have := small _ (List.mem_of_mem_drop hx)
      exact sw_eq (by omega) (by omega)
    rw [hpp] at d1 d2
    have e2 : p.getLast? = some ((j : Int) - 1) := by
      rw [← d2, List.getLast?_drop, if_neg (by have := List.length_pos_iff.2 hne; omega)]; exact e1
    have e3 := List.mem_of_getLast? e2
    rw [← a2] at e3
    have := small _ (List.mem_of_mem_drop e3)
    omega
  subst hq hp
  have hs := stk_same _ _ _ _ _ _ h h' (by simp [Function.comp_def])
  have hhas := stk_has _ _ _ _ h i (.inr ⟨by omega, by simp; omega⟩)
  have key : ∀ k : List Int, k = k.map (sw i j) → (i : Int) ∉ k := by
    intro k hk hm
    obtain ⟨n, hn, e⟩ := List.mem_iff_getElem.1 hm
    have : k[n] = sw i j k[n] := by
      have := congrArg (·[n]?) hk
      simpa [hn] using this
    rw [e] at this
    simp [sw] at this
    omega
  rcases hhas with hF | ⟨k, hk, hik⟩
  · exact key F hs.2 hF
  · refine key k ?_ hik
    have e : (A ++ [] :: (B ++ [] :: C)) = (A ++ [] :: (B ++ [] :: C)).map (·.map (sw i j)) := by
      refine hs.1.trans ?_
      simp
    obtain ⟨n, hn, e2⟩ := List.mem_iff_getElem.1 hk
    have := congrArg (·[n]?) e
    rw [List.getElem?_map, List.getElem?_eq_getElem hn, e2] at this
    simpa using this
theorem cstep_some {N : List Nd} {l l' : List Int} {i : Nat} {n : Nd} (h : cstep N l i n = some l') :
    n.kids.length ≤ l.length ∧ l.drop (l.length - n.kids.length) = n.kids ∧ ffit n = true ∧ kfit N n = true ∧ l' = l.take (l.length - n.kids.length) ++ [(i : Int)] := by
  unfold cstep at h
  split at h
  · rename_i h1; exact ⟨h1.1, h1.2.1, h1.2.2.1, h1.2.2.2, (Option.some.inj h).symm⟩
  · cases h
theorem cloop_stk (N : List Nd) : ∀ (r : List Nd) (l : List Int) (i : Nat) (F : List Int), cloop N l i r = some F → stk l i (r.map Nd.kids) = some F ∧ ∀ n ∈ r, ffit n = true ∧ kfit N n = true
  | [], l, i, F, h => ⟨by simpa [cloop, stk] using h, by simp⟩
  | n :: r, l, i, F, h => by
    simp only [cloop] at h
    cases hc : cstep N l i n with
    | none => rw [hc] at h; cases h
    | some l' =>
      rw [hc] at h
      obtain ⟨h1, h2, h3, h4, rfl⟩ := cstep_some hc
      have ih := cloop_stk N r _ _ F h
      refine ⟨?_, ?_⟩
      · simp only [List.map_cons, stk]
        rw [if_pos ⟨h1, h2⟩]; exact ih.1
      · intro m hm
        rcases List.mem_cons.1 hm with rfl | hm
        · exact ⟨h3, h4⟩
        · exact ih.2 m hm
theorem chk_stk {t : Tr} (h : chk t = true) : stk [] 0 (t.nodes.map Nd.kids) = some t.funcs ∧ (∀ n ∈ t.nodes, ffit n = true ∧ kfit t.nodes n = true) ∧ allK t.nodes (isK 1) t.funcs = true := by
  unfold chk at h
  cases hc : cloop t.nodes [] 0 t.nodes with
  | none => rw [hc] at h; cases h
  | some l =>
    rw [hc] at h
    simp at h
    obtain ⟨rfl, h2⟩ := h
    have := cloop_stk _ _ _ _ _ hc
    exact ⟨this.1, this.2, h2⟩

/-- Each number that a walk takes as a kid is below the node's own. -/
theorem stk_kid : ∀ (K : List (List Int)) (l : List Int) (i : Nat) (F : List Int), stk l i K = some F → (∀ x ∈ l, 0 ≤ x ∧ x < i) → ∀ (j : Nat) (h : j < K.length), ∀ x ∈ K[j], 0 ≤ x ∧ x < i + j
  | [], _, _, _, _, _, j, h, _, _ => by simp at h
  | k :: K, l, i, F, h, hl, j, hj, x, hx => by
    obtain ⟨a, b, c⟩ := stk_cons h
    cases j with
    | zero =>
      simp at hx
      rw [← b] at hx
      have := hl x (List.mem_of_mem_drop hx)
      omega
    | succ j =>
      have := stk_kid K _ _ F c (fun y hy => by
        simp at hy
        rcases hy with hy | rfl
        · have := hl y (List.mem_of_mem_take hy); omega
        · omega) j (by simpa using hj) x (by simpa using hx)
      omega
theorem chk_fit {t : Tr} (h : chk t = true) : FitK t.nodes := by
  intro i hi j hj
  have := stk_kid _ _ _ _ (chk_stk h).1 (by simp) i (by simpa using hi) j (by simpa using hj)
  omega
end Go.Proofs.YtjepkcebfojiaaaDoor
