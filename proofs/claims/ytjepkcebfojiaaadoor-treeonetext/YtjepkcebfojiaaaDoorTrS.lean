import Derived.Test.YtjepkcebfojiaaaDoorLyA
set_option linter.unusedVariables false
set_option linter.unusedSimpArgs false
namespace Go.Proofs.YtjepkcebfojiaaaDoor
open Go.ChangeShapes Go.WideShapes Go.ChangeAt Go.RowKit

/-- A node of a tree. -/
structure Nd where
  kind : Int
  at_ : Int
  wh : Int
  close : Int
  decl : Int
  typ : Int
  op : Int
  val : Int
  name : List UInt8
  kids : List Int
structure Tr where
  nodes : List Nd
  funcs : List Int

/-- A name that is none of the words. -/
def nmOk (s : List UInt8) : Bool := decide (s.length ≤ 64) && decide ((s.head?.map cl) = some 6) && s.all isNm && !(WORDS.contains s)

theorem sk_name {s : List UInt8} (h : s.head?.map cl = some 6) : sk false s = (0, true) := by
  cases s with
  | nil => simp at h
  | cons c l =>
    simp at h
    have : c ≠ 47 := by rintro rfl; revert h; decide
    simp [sk, h, this]
theorem takeWhile_all {p : UInt8 → Bool} : ∀ {l : List UInt8}, l.all p = true → l.takeWhile p = l
  | [], _ => rfl
  | c :: l, h => by simp at h; simp [h.1]; exact takeWhile_all (by simpa using h.2)
theorem findIdx_none {s : List UInt8} (h : WORDS.contains s = false) : WORDS.findIdx? (· == s) = none := by
  rw [List.findIdx?_eq_none_iff]
  intro x hx
  by_cases e : x = s
  · subst e; simp [hx] at h
  · simp [e]
theorem contains_none {s : List UInt8} (h : WORDS.findIdx? (· == s) = none) : WORDS.contains s = false := by
  rw [List.findIdx?_eq_none_iff] at h
  rw [← Bool.not_eq_true]
  intro hc
  have := h s (by simpa using hc)
  simp at this
theorem nmOk_lex {s : List UInt8} (h : nmOk s = true) : Lexes 0 s [⟨1, 0, 0, s⟩] 0 0 := by
  simp only [nmOk, Bool.and_eq_true, decide_eq_true_eq, Bool.not_eq_true'] at h
  obtain ⟨⟨⟨h1, h2⟩, h3⟩, h4⟩ := h
  have hne : s ≠ [] := by rintro rfl; simp at h2
  have hl : 0 < s.length := List.length_pos_iff.2 hne
  have ht : tk (s.drop 0) = .ok (⟨1, 0, s⟩, s.length) := by
    cases s with
    | nil => simp at hne
    | cons c l =>
      simp at h2
      have e1 : (c :: l).takeWhile isNm = c :: l := takeWhile_all h3
      simp only [List.drop_zero]
      simp only [tk]
      rw [if_neg (by omega), if_pos h2, e1, if_neg (by omega)]
      simp only [nameTk, findIdx_none h4]
  have := Lexes.tok (k := 0) (l := s) (n := 0) (t := ⟨1, 0, s⟩) (m := s.length) (ts := []) (p := 0) (e := 0) (sk_name h2) hl ht (.fin (by simp [sk]))
  simpa using this
theorem lex_nmOk {s : List UInt8} {t : T} {p e : Nat} (hl : s.length ≤ 64) (h : Lexes 0 s [t] p e) (hn : t.name = s) : nmOk s = true := by
  cases h with
  | tok h1 h2 h3 h4 =>
    rename_i n tt m
    simp at hn
    have hne : s ≠ [] := by rintro rfl; simp at h2
    generalize hd : s.drop n = d at h3
    cases d with
    | nil => simp [tk] at h3
    | cons c l =>
      simp only [tk] at h3
      split at h3
      · split at h3
        · cases h3
        · cases h3; exact absurd hn.symm hne
      · split at h3
        · rename_i h7 h6
          split at h3
          · cases h3
          · simp at h3
            have h5 := h3.1
            unfold nameTk at h5
            split at h5
            · subst h5; exact absurd hn.symm hne
            · rename_i hidx
              subst h5
              simp at hn
              have hlen := (List.takeWhile_prefix (p := isNm) (l := c :: l)).length_le
              have e0 : (c :: l).length = s.length - n := by rw [← hd]; simp
              have hs : ((c :: l).takeWhile isNm).length = s.length := by rw [hn]
              have hn0 : n = 0 := by omega
              subst hn0
              simp at hd
              rw [← hd] at hn hidx
              have hall : s.all isNm = true := by rw [← hn]; exact List.all_takeWhile
              simp only [nmOk, Bool.and_eq_true, decide_eq_true_eq, Bool.not_eq_true']
              exact ⟨⟨⟨hl, by rw [hd]; simp [h6]⟩, hall⟩, contains_none (by rw [hn] at hidx; exact hidx)⟩
        · split at h3
          · cases h3
          · cases h3; exact absurd hn.symm hne

def isEx (k : Int) : Bool := decide (20 ≤ k) && decide (k ≤ 31)
def isSt (k : Int) : Bool := decide (3 ≤ k) && decide (k ≤ 14)
def isK (j k : Int) : Bool := decide (k = j)
def isEl (k : Int) : Bool := decide (k = 3) || decide (k = 10)

structure May where
  wh : Bool
  close : Bool
  val : Bool
  name : Bool
  d0 : Int
  d1 : Int
  t0 : Int
  t1 : Int
  o0 : Int
  o1 : Int

def mayOf (k : Int) : May :=
  let t1 : Int := if isEx k = true then 3 else 0
  if k = 1 then ⟨true, true, false, true, 0, 3, 0, t1, 0, 0⟩
  else if k = 2 ∨ k = 4 then ⟨true, false, false, true, 1, 3, 0, t1, 0, 0⟩
  else if k = 5 ∨ k = 6 ∨ k = 24 ∨ k = 25 then ⟨true, false, false, true, 0, 0, 0, t1, 0, 0⟩
  else if k = 20 then ⟨false, false, true, false, 0, 0, 0, t1, 0, 0⟩
  else if k = 30 then ⟨false, false, false, false, 0, 0, 0, t1, 20, 22⟩
  else if k = 31 then ⟨true, false, false, false, 0, 0, 0, t1, 1, 19⟩
  else ⟨false, false, false, false, 0, 0, 0, t1, 0, 0⟩

def nmFits (b : Bool) (s : List UInt8) : Bool := if b = true then nmOk s else decide (s = [])
def inR (a b x : Int) : Bool := decide (a ≤ x) && decide (x ≤ b)
def ffit (n : Nd) : Bool :=
  let m := mayOf n.kind
  (m.wh || decide (n.wh = 0)) && (m.close || decide (n.close = 0)) && inR m.d0 m.d1 n.decl && inR m.t0 m.t1 n.typ && inR m.o0 m.o1 n.op
    && (decide (n.val = 0) || m.val && decide (0 < n.val)) && nmFits m.name n.name

def kd (N : List Nd) (x : Int) : Int := ((N[x.toNat]?).map Nd.kind).getD 0
def allK (N : List Nd) (p : Int → Bool) (l : List Int) : Bool := l.all fun x => p (kd N x)

def kfit (N : List Nd) (n : Nd) : Bool :=
  let c := n.kids.length
  if n.kind = 1 then decide (0 < c) && allK N (isK 2) (n.kids.take (c - 1)) && allK N (isK 3) (n.kids.drop (c - 1))
  else if n.kind = 3 then allK N isSt n.kids
  else if n.kind = 7 then decide (c = 1) && allK N (isK 25) n.kids
  else if n.kind = 10 then (decide (c = 2) || decide (c = 3)) && allK N isEx (n.kids.take 1) && allK N (isK 3) ((n.kids.drop 1).take 1) && allK N isEl (n.kids.drop 2)
  else if n.kind = 11 then (decide (c = 1) || decide (c = 2)) && allK N isEx (n.kids.take (c - 1)) && allK N (isK 3) (n.kids.drop (c - 1))
  else if n.kind = 25 then allK N isEx n.kids
  else if n.kind = 4 ∨ n.kind = 12 then decide (c ≤ 1) && allK N isEx n.kids
  else if n.kind = 5 ∨ n.kind = 8 ∨ n.kind = 9 ∨ n.kind = 27 ∨ n.kind = 28 ∨ n.kind = 30 then decide (c = 1) && allK N isEx n.kids
  else if n.kind = 6 ∨ n.kind = 29 ∨ n.kind = 31 then decide (c = 2) && allK N isEx n.kids
  else decide (c = 0)

/-- One node of the check: the nodes that wait, behind it. -/
def cstep (N : List Nd) (l : List Int) (i : Nat) (n : Nd) : Option (List Int) :=
  if n.kids.length ≤ l.length ∧ l.drop (l.length - n.kids.length) = n.kids ∧ ffit n = true ∧ kfit N n = true then some (l.take (l.length - n.kids.length) ++ [(i : Int)]) else none
def cloop (N : List Nd) : List Int → Nat → List Nd → Option (List Int)
  | l, _, [] => some l
  | l, i, n :: r => (cstep N l i n).bind fun l' => cloop N l' (i + 1) r
def chk (t : Tr) : Bool := match cloop t.nodes [] 0 t.nodes with
  | none => false
  | some l => decide (l = t.funcs) && allK t.nodes (isK 1) l
end Go.Proofs.YtjepkcebfojiaaaDoor
