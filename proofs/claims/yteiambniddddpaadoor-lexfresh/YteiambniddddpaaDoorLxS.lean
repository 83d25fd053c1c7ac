import Derived.Test.YteiambniddddpaaDoorRows
import Derived.WalkKit
import Derived.ProofKit
import Derived.WalkLawsBesides
import Derived.WalkSpells
import Derived.Laws.BytesArg
import Derived.BigQuiet
set_option linter.unusedVariables false
namespace Go.Proofs.YteiambniddddpaaDoor
open Go.ChangeShapes Go.WideShapes Go.ChangeAt Go.RowKit

/-- The class of a byte: 7 a digit, 6 a letter, 4 another that is seen, 12 a blank within a row, 8 a row's end, 0 a stranger. -/
def cl (c : UInt8) : Nat :=
  if 48 ≤ c.toNat ∧ c.toNat ≤ 57 then 7 else if (65 ≤ c.toNat ∧ c.toNat ≤ 90) ∨ (97 ≤ c.toNat ∧ c.toNat ≤ 122) ∨ c.toNat = 95 then 6
  else if 33 ≤ c.toNat ∧ c.toNat ≤ 126 then 4 else if c.toNat = 9 ∨ c.toNat = 13 ∨ c.toNat = 32 then 12 else if c.toNat = 10 then 8 else 0

theorem cl_cases (c : UInt8) : (cl c = 7 ∧ 48 ≤ c.toNat ∧ c.toNat ≤ 57) ∨ (cl c = 6 ∧ ((65 ≤ c.toNat ∧ c.toNat ≤ 90) ∨ (97 ≤ c.toNat ∧ c.toNat ≤ 122) ∨ c.toNat = 95))
    ∨ (cl c = 4 ∧ 33 ≤ c.toNat ∧ c.toNat ≤ 126 ∧ ¬ (48 ≤ c.toNat ∧ c.toNat ≤ 57) ∧ ¬ (65 ≤ c.toNat ∧ c.toNat ≤ 90) ∧ ¬ (97 ≤ c.toNat ∧ c.toNat ≤ 122) ∧ c.toNat ≠ 95)
    ∨ (cl c = 12 ∧ (c.toNat = 9 ∨ c.toNat = 13 ∨ c.toNat = 32)) ∨ (cl c = 8 ∧ c.toNat = 10)
    ∨ (cl c = 0 ∧ ¬ (33 ≤ c.toNat ∧ c.toNat ≤ 126) ∧ c.toNat ≠ 9 ∧ c.toNat ≠ 10 ∧ c.toNat ≠ 13 ∧ c.toNat ≠ 32) := by
  unfold cl
  repeat' split
  all_goals omega

def isDg (c : UInt8) : Bool := cl c == 7
def isNm (c : UInt8) : Bool := cl c == 7 || cl c == 6

/-- What is blank: how many bytes are passed (in a comment, or not); false: a stranger in a comment. -/
def sk : Bool → List UInt8 → Nat × Bool
  | _, [] => (0, true)
  | true, c :: l => if cl c = 8 then ((sk false l).1 + 1, (sk false l).2) else if cl c = 0 then (0, false) else ((sk true l).1 + 1, (sk true l).2)
  | false, c :: l => if cl c = 8 ∨ cl c = 12 then ((sk false l).1 + 1, (sk false l).2) else if c = 47 ∧ l.head? = some 47 then ((sk true l).1 + 1, (sk true l).2) else (0, true)

structure Tk where
  kind : Int
  val : Int
  name : List UInt8

def WORDS : List (List UInt8) := [[102, 117, 110, 99], [118, 97, 114], [105, 102], [101, 108, 115, 101], [102, 111, 114], [114, 101, 116, 117, 114, 110], [98, 114, 101, 97, 107], [99, 111, 110, 116, 105, 110, 117, 101], [112, 114, 105, 110, 116], [112, 97, 110, 105, 99], [105, 110, 112, 117, 116], [108, 101, 110], [109, 97, 107, 101], [105, 110, 116], [98, 111, 111, 108], [116, 114, 117, 101], [102, 97, 108, 115, 101], [110, 105, 108]]
def SIGNS : List (List UInt8) := [[40], [41], [123], [125], [91], [93], [44], [59], [61], [61, 61], [33, 61], [60], [60, 61], [62], [62, 61], [43], [45], [42], [47], [37], [38], [124], [94], [38, 94], [60, 60], [62, 62], [38, 38], [124, 124], [33]]

def valOf (a : Nat) (l : List UInt8) : Nat := l.foldl (fun a c => 10 * a + (c.toNat - 48)) a
def numVal (ds : List UInt8) : Option Nat := if (1 < ds.length ∧ ds.head? = some 48) ∨ 9223372036854775807 < valOf 0 ds then none else some (valOf 0 ds)

def nameTk (s : List UInt8) : Tk := match WORDS.findIdx? (· == s) with | some i => ⟨10 + i, 0, []⟩ | none => ⟨1, 0, s⟩

/-- The longest of the first i signs that stands here: its kind, its length. -/
def bst (l : List UInt8) : Nat → Nat × Nat
  | 0 => (0, 0)
  | i + 1 => if (bst l i).2 < (SIGNS.getD i []).length ∧ (SIGNS.getD i []).isPrefixOf l = true then (40 + i, (SIGNS.getD i []).length) else bst l i

/-- The token at a place: its fault, or what it is and how long. -/
def tk : List UInt8 → Except Nat (Tk × Nat)
  | [] => .error 20
  | c :: l =>
    if cl c = 7 then (match numVal ((c :: l).takeWhile isDg) with | none => .error 22 | some v => .ok (⟨2, v, []⟩, ((c :: l).takeWhile isDg).length))
    else if cl c = 6 then (if 64 < ((c :: l).takeWhile isNm).length then .error 21 else .ok (nameTk ((c :: l).takeWhile isNm), ((c :: l).takeWhile isNm).length))
    else if (bst (c :: l) 29).2 = 0 then .error 20 else .ok (⟨(bst (c :: l) 29).1, 0, []⟩, (bst (c :: l) 29).2)

structure T where
  kind : Int
  pos : Nat
  val : Int
  name : List UInt8

/-- From a place on: the tokens, the place and the fault. -/
inductive Lexes : Nat → List UInt8 → List T → Nat → Nat → Prop
  | bad {k l n} : sk false l = (n, false) → Lexes k l [] (k + n) 20
  | fin {k l} : sk false l = (l.length, true) → Lexes k l [] 0 0
  | err {k l n e} : sk false l = (n, true) → n < l.length → tk (l.drop n) = .error e → Lexes k l [] (k + n) e
  | tok {k l n t m ts p e} : sk false l = (n, true) → n < l.length → tk (l.drop n) = .ok (t, m) → Lexes (k + n + m) (l.drop (n + m)) ts p e →
      Lexes k l (⟨t.kind, k + n, t.val, t.name⟩ :: ts) p e

theorem Lexes.one {k l ts p e} (h : Lexes k l ts p e) : ∀ {ts' p' e'}, Lexes k l ts' p' e' → ts = ts' ∧ p = p' ∧ e = e' := by
  induction h with
  | bad h1 =>
    intro ts' p' e' h
    cases h with
    | bad h2 => rw [h1] at h2; cases h2; exact ⟨rfl, rfl, rfl⟩
    | fin h2 => rw [h1] at h2; cases h2
    | err h2 => rw [h1] at h2; cases h2
    | tok h2 => rw [h1] at h2; cases h2
  | fin h1 =>
    intro ts' p' e' h
    cases h with
    | bad h2 => rw [h1] at h2; cases h2
    | fin h2 => exact ⟨rfl, rfl, rfl⟩
    | err h2 h3 => rw [h1] at h2; cases h2; omega
    | tok h2 h3 => rw [h1] at h2; cases h2; omega
  | err h1 h3 h4 =>
    intro ts' p' e' h
    cases h with
    | bad h2 => rw [h1] at h2; cases h2
    | fin h2 => rw [h1] at h2; cases h2; omega
    | err h2 _ h5 => rw [h1] at h2; cases h2; rw [h4] at h5; cases h5; exact ⟨rfl, rfl, rfl⟩
    | tok h2 _ h5 => rw [h1] at h2; cases h2; rw [h4] at h5; cases h5
  | tok h1 h3 h4 _ ih =>
    intro ts' p' e' h
    cases h with
    | bad h2 => rw [h1] at h2; cases h2
    | fin h2 => rw [h1] at h2; cases h2; omega
    | err h2 _ h5 => rw [h1] at h2; cases h2; rw [h4] at h5; cases h5
    | tok h2 _ h5 h6 =>
      rw [h1] at h2; cases h2; rw [h4] at h5; cases h5
      obtain ⟨rfl, rfl, rfl⟩ := ih h6
      exact ⟨rfl, rfl, rfl⟩

theorem sk_le : ∀ (b : Bool) (l : List UInt8), (sk b l).1 ≤ l.length
  | b, [] => by cases b <;> simp [sk]
  | true, c :: l => by
    have h1 := sk_le false l
    have h2 := sk_le true l
    unfold sk
    repeat' split
    all_goals (simp; try omega)
  | false, c :: l => by
    have h1 := sk_le false l
    have h2 := sk_le true l
    unfold sk
    repeat' split
    all_goals (simp; try omega)

end Go.Proofs.YteiambniddddpaaDoor
