import Derived.Test.YtjiaedckecfjbaaDoorRows
import Derived.WalkKit
import Derived.ProofKit
import Derived.WalkLawsBesides
import Derived.WalkSpells
import Derived.Laws.BytesArg
import Derived.BigQuiet
import Derived.Deep.WholeRow
set_option linter.unusedVariables false
set_option linter.unusedSimpArgs false
namespace Go.Proofs.YtjiaedckecfjbaaDoor
open Go.ChangeShapes Go.WideShapes Go.ChangeAt Go.RowKit

/-- The class of a byte: 7 a digit, 6 a letter, 4 another that is seen, 12 a blank within a row, 8 a row's end, 0 a stranger. -/
def cl (c : UInt8) : Nat :=
  if 48 ≤ c.toNat ∧ c.toNat ≤ 57 then 7 else if (65 ≤ c.toNat ∧ c.toNat ≤ 90) ∨ (97 ≤ c.toNat ∧ c.toNat ≤ 122) ∨ c.toNat = 95 then 6
  else if 33 ≤ c.toNat ∧ c.toNat ≤ 126 then 4 else if c.toNat = 9 ∨ c.toNat = 13 ∨ c.toNat = 32 then 12 else if c.toNat = 10 then 8 else 0

theorem cl_cases (c : UInt8) : (cl c = 7 ∧ 48 ≤ c.toNat ∧ c.toNat ≤ 57) ∨ (cl c = 6 ∧ ((65 ≤ c.toNat ∧ c.toNat ≤ 90) ∨ (97 ≤ c.toNat ∧ c.toNat ≤ 122) ∨ c.toNat = 95))
    ∨ (cl c = 4 ∧ 33 ≤ c.toNat ∧ c.toNat ≤ 126 ∧ ¬ (48 ≤ c.toNat ∧ c.toNat ≤ 57) ∧ ¬ (65 ≤ c.toNat ∧ c.toNat ≤ 90) ∧ ¬ (97 ≤ c.toNat ∧ c.toNat ≤ 122) ∧ c.toNat ≠ 95)
    ∨ (cl c = 12 ∧ (c.toNat = 9 ∨ c.toNat = 13 ∨ c.toNat = 32)) ∨ (cl c = 8 ∧ c.toNat = 10)
    ∨ (cl c = 0 ∧ ¬ (33 ≤ c.toNat ∧ c.toNat ≤ 126) ∧ c.toNat ≠ 9 ∧ c.toNat ≠ 10 ∧ c.toNat ≠ 13 ∧ c.toNat ≠ 32) := by
  unfold cl
  repeat' split
  all_goals omega

def isDg (c : UInt8) : Bool := cl c == 7
def isNm (c : UInt8) : Bool := cl c == 7 || cl c == 6

/-- What is blank: how many bytes are passed (in a comment, or not); false: a stranger in a comment. -/
def sk : Bool → List UInt8 → Nat × Bool
  | _, [] => (0, true)
  | true, c :: l => if cl c = 8 then ((sk false l).1 + 1, (sk false l).2) else if cl c = 0 then (0, false) else ((sk true l).1 + 1, (sk true l).2)
  | false, c :: l => if cl c = 8 ∨ cl c = 12 then ((sk false l).1 + 1, (sk false l).2) else if c = 47 ∧ l.head? = some 47 then ((sk true l).1 + 1, (sk true l).2) else (0, true)

structure Tk where
  kind : Int
  val : Int
  name : List UInt8

def WORDS : List (List UInt8) := [[102, 117, 110, 99], [118, 97, 114], [105, 102], [101, 108, 115, 101], [102, 111, 114], [114, 101, 116, 117, 114, 110], [98, 114, 101, 97, 107], [99, 111, 110, 116, 105, 110, 117, 101], [112, 114, 105, 110, 116], [112, 97, 110, 105, 99], [105, 110, 112, 117, 116], [108, 101, 110], [109, 97, 107, 101], [105, 110, 116], [98, 111, 111, 108], [116, 114, 117, 101], [102, 97, 108, 115, 101], [110, 105, 108]]
def SIGNS : List (List UInt8) := [[40], [41], [123], [125], [91], [93], [44], [59], [61], [61, 61], [33, 61], [60], [60, 61], [62], [62, 61], [43], [45], [42], [47], [37], [38], [124], [94], [38, 94], [60, 60], [62, 62], [38, 38], [124, 124], [33]]

def valOf (a : Nat) (l : List UInt8) : Nat := l.foldl (fun a c => 10 * a + (c.toNat - 48)) a
def numVal (ds : List UInt8) : Option Nat := if (1 < ds.length ∧ ds.head? = some 48) ∨ 9223372036854775807 < valOf 0 ds then none else some (valOf 0 ds)

def nameTk (s : List UInt8) : Tk := match WORDS.findIdx? (· == s) with | some i => ⟨10 + i, 0, []⟩ | none => ⟨1, 0, s⟩

/-- The longest of the first i signs that stands here: its kind, its length. -/
def bst (l : List UInt8) : Nat → Nat × Nat
  | 0 => (0, 0)
  | i + 1 => if (bst l i).2 < (SIGNS.getD i []).length ∧ (SIGNS.getD i []).isPrefixOf l = true then (40 + i, (SIGNS.getD i []).length) else bst l i

/-- The token at a place: its fault, or what it is and how long. -/
def tk : List UInt8 → Except Nat (Tk × Nat)
  | [] => .error 20
  | c :: l =>
    if cl c = 7 then (match numVal ((c :: l).takeWhile isDg) with | none => .error 22 | some v => .ok (⟨2, v, []⟩, ((c :: l).takeWhile isDg).length))
    else if cl c = 6 then (if 64 < ((c :: l).takeWhile isNm).length then .error 21 else .ok (nameTk ((c :: l).takeWhile isNm), ((c :: l).takeWhile isNm).length))
    else if (bst (c :: l) 29).2 = 0 then .error 20 else .ok (⟨(bst (c :: l) 29).1, 0, []⟩, (bst (c :: l) 29).2)

structure T where
  kind : Int
  pos : Nat
  val : Int
  name : List UInt8

/-- From a place on: the tokens, the place and the fault. -/
def Lexes : Nat → List UInt8 → List T → Nat → Nat → Prop
  | k, l, [], p, e => (∃ n, sk false l = (n, false) ∧ p = k + n ∧ e = 20) ∨ (sk false l = (l.length, true) ∧ p = 0 ∧ e = 0) ∨ (∃ n, sk false l = (n, true) ∧ n < l.length ∧ tk (l.drop n) = .error e ∧ p = k + n)
  | k, l, x :: ts, p, e => ∃ n t m, sk false l = (n, true) ∧ n < l.length ∧ tk (l.drop n) = .ok (t, m) ∧ x = ⟨t.kind, k + n, t.val, t.name⟩ ∧ Lexes (k + n + m) (l.drop (n + m)) ts p e
theorem Lexes.bad {k l n} (h : sk false l = (n, false)) : Lexes k l [] (k + n) 20 := .inl ⟨n, h, rfl, rfl⟩
theorem Lexes.fin {k l} (h : sk false l = (l.length, true)) : Lexes k l [] 0 0 := .inr (.inl ⟨h, rfl, rfl⟩)
theorem Lexes.err {k l n e} (h : sk false l = (n, true)) (h2 : n < l.length) (h3 : tk (l.drop n) = .error e) : Lexes k l [] (k + n) e := .inr (.inr ⟨n, h, h2, h3, rfl⟩)
theorem Lexes.tok {k l n t m ts p e} (h : sk false l = (n, true)) (h2 : n < l.length) (h3 : tk (l.drop n) = .ok (t, m)) (h4 : Lexes (k + n + m) (l.drop (n + m)) ts p e) : Lexes k l (⟨t.kind, k + n, t.val, t.name⟩ :: ts) p e := ⟨n, t, m, h, h2, h3, rfl, h4⟩
theorem Lexes.one : ∀ {ts : List T} {k l p e}, Lexes k l ts p e → ∀ {ts' p' e'}, Lexes k l ts' p' e' → ts = ts' ∧ p = p' ∧ e = e'
  | [], k, l, p, e, h, [], p', e', h' => by
    refine ⟨rfl, ?_⟩
    rcases h with ⟨n, a1, a2, a3⟩ | ⟨a1, a2, a3⟩ | ⟨n, a1, a2, a3, a4⟩ <;> rcases h' with ⟨m, b1, b2, b3⟩ | ⟨b1, b2, b3⟩ | ⟨m, b1, b2, b3, b4⟩ <;> rw [a1] at b1 <;> simp only [Prod.mk.injEq, Bool.false_eq_true, Bool.true_eq_false, and_false, and_true] at b1
    · exact ⟨by omega, by omega⟩
    · exact ⟨by omega, by omega⟩
    · omega
    · omega
    · subst b1
      rw [a3] at b3
      cases b3
      exact ⟨by omega, rfl⟩
  | [], k, l, p, e, h, x :: ts', p', e', h' => by
    obtain ⟨m, t, q, b1, b2, b3, b4, b5⟩ := h'
    rcases h with ⟨n, a1, a2, a3⟩ | ⟨a1, a2, a3⟩ | ⟨n, a1, a2, a3, a4⟩ <;> rw [a1] at b1 <;> simp only [Prod.mk.injEq, Bool.false_eq_true, Bool.true_eq_false, and_false, and_true] at b1
    · omega
    · subst b1; rw [a3] at b3; cases b3
  | x :: ts, k, l, p, e, h, [], p', e', h' => by
    obtain ⟨m, t, q, b1, b2, b3, b4, b5⟩ := h
    rcases h' with ⟨n, a1, a2, a3⟩ | ⟨a1, a2, a3⟩ | ⟨n, a1, a2, a3, a4⟩ <;> rw [a1] at b1 <;> simp only [Prod.mk.injEq, Bool.false_eq_true, Bool.true_eq_false, and_false, and_true] at b1
    · omega
    · subst b1; rw [a3] at b3; cases b3
  | x :: ts, k, l, p, e, h, y :: ts', p', e', h' => by
    obtain ⟨n, t, q, a1, a2, a3, a4, a5⟩ := h
    obtain ⟨m, u, r, b1, b2, b3, b4, b5⟩ := h'
    rw [a1] at b1
    simp only [Prod.mk.injEq, and_true] at b1
    subst b1
    rw [a3] at b3
    cases b3
    obtain ⟨e1, e2, e3⟩ := Lexes.one a5 b5
    exact ⟨by rw [a4, b4, e1], e2, e3⟩

theorem sk_le : ∀ (b : Bool) (l : List UInt8), (sk b l).1 ≤ l.length
  | b, [] => by cases b <;> simp [sk]
  | true, c :: l => by
    have h1 := sk_le false l
    have h2 := sk_le true l
    unfold sk
    repeat' split
    all_goals (simp; try omega)
  | false, c :: l => by
    have h1 := sk_le false l
    have h2 := sk_le true l
    unfold sk
    repeat' split
    all_goals (simp; try omega)

end Go.Proofs.YtjiaedckecfjbaaDoor
namespace Go.Proofs.YtjiaedckecfjbaaDoor
open Go.ChangeShapes Go.WideShapes Go.ChangeAt Go.RowKit

theorem cls_any (c : UInt8) (w : World) : Calls Tryd.prog 57 #[.int .u8 c.toNat] w fun e w' => e = .returned (.int .i64 (cl c)) ∧ w' = w := by
  have hb : c.toNat < 256 := c.toNat_lt
  obtain ⟨n, hn⟩ : ∃ n, n = c.toNat := ⟨_, rfl⟩
  obtain ⟨m, hm⟩ : ∃ m, m = cl c := ⟨_, rfl⟩
  have hc := cl_cases c
  rw [← hn, ← hm] at hc
  rw [← hn, ← hm]
  rw [← hn] at hb
  clear hn hm
  rcases hc with ⟨rfl, h1, h2⟩ | ⟨rfl, h | h | h⟩ | ⟨rfl, h⟩ | ⟨rfl, h | h | h⟩ | ⟨rfl, h⟩ | ⟨rfl, h⟩
  all_goals (try subst h)
  all_goals
    go_enter Tryd.func57, Tryd.ntmps57
    go_wp2
  all_goals (try go_ret)
  all_goals first | exact ⟨rfl, rfl⟩ | (exfalso; omega) | trace_state
end Go.Proofs.YtjiaedckecfjbaaDoor
namespace Go.Proofs.YtjiaedckecfjbaaDoor
open Go.ChangeShapes Go.WideShapes Go.ChangeAt Go.RowKit

/-- The bytes M lie in block b from o on. -/
def At (w : World) (b o : Nat) (M : List UInt8) : Prop := b < w.heap.size ∧ ∀ i (h : i < M.length), w.cell? ⟨b, o + i, none⟩ = some (.int .u8 (M[i].toNat : Int))

def bs (l : List UInt8) : ByteArray := ⟨l.toArray⟩
theorem bs_size (l : List UInt8) : (bs l).size = l.length := by simp [bs, ByteArray.size]
theorem bs_inj {a b : List UInt8} : bs a = bs b ↔ a = b := by simp [bs]

theorem strOfNums_bs (M : List UInt8) : strOfNums (M.map fun c => (c.toNat : Int)) = bs M := by
  unfold strOfNums bs
  congr 1
  simp only [List.map_map]
  congr 1
  rw [List.map_eq_iff]
  intro i
  cases h : M[i]? <;> simp

theorem At.drop {w b o M} (h : At w b o M) (k : Nat) : At w b (o + k) (M.drop k) := by
  refine ⟨h.1, fun i hi => ?_⟩
  have hi' : k + i < M.length := by simp at hi; omega
  have := h.2 (k + i) hi'
  rw [Nat.add_assoc, this]; simp
theorem At.take {w b o M} (h : At w b o M) (k : Nat) : At w b o (M.take k) := by
  refine ⟨h.1, fun i hi => ?_⟩
  have hi' : i < M.length := by simp at hi; omega
  rw [h.2 i hi']; simp

theorem At.conv {w b o M} (h : At w b o M) (cap : Nat) : (convert 28 9 (.slice (some ⟨b, o, none⟩) M.length cap)).run Tryd.prog w = .ok (.string (bs M)) w := by
  have := run_convert_bytes_arg (P := Tryd.prog) w 28 5 Tryd.underlying28 Tryd.underlying5 b o M.length cap (M.map fun c => (c.toNat : Int)) (by simp)
    (fun i hi => by rw [h.2 i hi]; simp [hi]) 9 Tryd.underlying9
  rw [this, strOfNums_bs]

theorem At.conv' {w b o M} (h : At w b o M) (n cap : Nat) (hn : n ≤ M.length) : (convert 28 9 (.slice (some ⟨b, o, none⟩) n cap)).run Tryd.prog w = .ok (.string (bs (M.take n))) w := by
  have := (h.take n).conv cap
  rwa [List.length_take, Nat.min_eq_left hn] at this

theorem ret_bool {a b : Bool} (h : a = b) : Ending.returned (.bool a) = .returned (.bool b) := by rw [h]
theorem bs_toList (l : List UInt8) : (bs l).toList = l := by
  have : (bs l).toList = (bs l).data.toList := Go.ByteArray.toList_eq _
  rw [this]; rfl
theorem prefix_take (S M : List UInt8) (h : S.length ≤ M.length) : (M.take S.length == S) = S.isPrefixOf M := by
  rw [Bool.eq_iff_iff, beq_iff_eq, List.isPrefixOf_iff_prefix, List.prefix_iff_eq_take]
  exact eq_comm
theorem starts_any (w : World) (b o c : Nat) (M S : List UInt8) (hA : At w b o M) (hc : M.length ≤ c) (hm : c ≤ 9223372036854775807) (hS : S.length ≤ 8) :
    Calls Tryd.prog 58 #[.slice (some ⟨b, o, none⟩) M.length c, .string (bs S)] w fun e w' => e = .returned (.bool (S.isPrefixOf M)) ∧ w' = w := by
  have hsz := bs_size S
  obtain ⟨s, hs⟩ : ∃ s, s = bs S := ⟨_, rfl⟩
  rw [← hs] at hsz ⊢
  have HS : Hid (s = bs S) := hs
  clear hs
  by_cases hl : S.length ≤ M.length
  · have hcv := hA.conv' S.length c hl
    obtain ⟨u, hu⟩ : ∃ u, u = bs (M.take S.length) := ⟨_, rfl⟩
    rw [← hu] at hcv
    have HU : Hid (u = bs (M.take S.length)) := hu
    clear hu
    go_enter Tryd.func58, Tryd.ntmps58
    go_wp2
    go_ret
    refine ⟨ret_bool ?_, rfl⟩
    rw [HS.out, HU.out, bs_toList, bs_toList]
    exact prefix_take S M hl
  · go_enter Tryd.func58, Tryd.ntmps58
    go_wp2
    go_ret
    refine ⟨ret_bool ?_, rfl⟩
    symm
    rw [← Bool.not_eq_true, List.isPrefixOf_iff_prefix]
    exact fun h => hl h.length_le

/-- In a comment: how many bytes to the row's end; false: a stranger there. -/
def cm : List UInt8 → Nat × Bool
  | [] => (0, true)
  | c :: l => if cl c = 8 then (0, true) else if cl c = 0 then (0, false) else ((cm l).1 + 1, (cm l).2)

theorem cm_le : ∀ l : List UInt8, (cm l).1 ≤ l.length
  | [] => by simp [cm]
  | c :: l => by
    have := cm_le l
    unfold cm
    repeat' split
    all_goals (simp; try omega)

theorem ret_two {a b : Int} {k1 k2 : IntKind} {c d : Int} (h1 : a = b) (h2 : c = d) : Ending.returned (.tuple #[.int k1 a, .int k2 c]) = .returned (.tuple #[.int k1 b, .int k2 d]) := by rw [h1, h2]

theorem cm_next {L : List UInt8} {j R : Nat} {E : Int} {x : UInt8} (H : j + (cm (L.drop j)).1 = R ∧ (if (cm (L.drop j)).2 = true then (0 : Int) else 20) = E) (HD : L.drop j = x :: L.drop (j + 1)) (h8 : cl x ≠ 8) (h0 : cl x ≠ 0) :
    j + 1 + (cm (L.drop (j + 1))).1 = R ∧ (if (cm (L.drop (j + 1))).2 = true then (0 : Int) else 20) = E := by
  rw [HD] at H
  simp only [cm, h8, h0, if_false] at H
  exact ⟨by omega, H.2⟩

theorem com_any (w : World) (b o c : Nat) (L : List UInt8) (hA : At w b o L) (hm : L.length ≤ 9223372036854775807) (k : Nat) (hk : k ≤ L.length) :
    Calls Tryd.prog 59 #[.slice (some ⟨b, o, none⟩) L.length c, .int .i64 k] w fun e w' =>
      e = .returned (.tuple #[.int .i64 ((k + (cm (L.drop k)).1 : Nat) : Int), .int .i64 (if (cm (L.drop k)).2 = true then 0 else 20)]) ∧ w' = w := by
  obtain ⟨R, hR⟩ : ∃ R, R = k + (cm (L.drop k)).1 := ⟨_, rfl⟩
  obtain ⟨E, hE⟩ : ∃ E : Int, E = if (cm (L.drop k)).2 = true then 0 else 20 := ⟨_, rfl⟩
  rw [← hR, ← hE]
  have HR : Hid (k + (cm (L.drop k)).1 = R ∧ (if (cm (L.drop k)).2 = true then (0 : Int) else 20) = E) := ⟨hR.symm, hE.symm⟩
  clear hR hE
  obtain ⟨n, hn⟩ : ∃ n, n = L.length := ⟨_, rfl⟩
  rw [← hn] at hm hk ⊢
  have HN : Hid (n = L.length) := hn
  clear hn
  have HA : Hid (At w b o L) := hA
  clear hA
  go_enter Tryd.func59, Tryd.ntmps59
  go_wp2
  go_step3
  go_wp2
  go_step3
  go_wp2
  go_loop [1] (fun v => ∃ j : Nat, j ≤ n ∧ v = .int .i64 j ∧ Hid (j + (cm (L.drop j)).1 = R ∧ (if (cm (L.drop j)).2 = true then (0 : Int) else 20) = E)) (fun v => n - (intOf v).toNat)
  case atStart => exact ⟨k, hk, rfl, HR⟩
  case round =>
    obtain ⟨j, hj, rfl, HJ⟩ := hrel
    by_cases hlt : j < n
    · obtain ⟨x, hx⟩ : ∃ x, x = L[j]'(HN.out ▸ hlt) := ⟨_, rfl⟩
      have hcell := HA.out.2 j (HN.out ▸ hlt)
      rw [← hx] at hcell
      have HD : Hid (L.drop j = x :: L.drop (j + 1)) := by rw [hx]; exact List.drop_eq_getElem_cons _
      clear hx
      rcases cl_cases x with ⟨hcl, h⟩ | ⟨hcl, h⟩ | ⟨hcl, h⟩ | ⟨hcl, h⟩ | ⟨hcl, h⟩ | ⟨hcl, h⟩
      all_goals
        go_wp2_with (go_at_call 57; refine (cls_any _ _).mono ?_; rintro e w' ⟨rfl, rfl⟩)
      all_goals first
        | (go_round; (case rel => exact ⟨j + 1, by omega, by go_num, cm_next HJ.out HD.out (by omega) (by omega)⟩); (case measure => simp [intOf]; omega))
        | ((try rw [Exit.noGoto_ret]); go_ret2; have H := HJ.out; rw [HD.out] at H; simp [cm, hcl] at H; exact ⟨ret_two (by omega) H.2, rfl⟩)
    · go_wp2
      go_ret2
      have H := HJ.out
      rw [List.drop_of_length_le (by have := HN.out; omega)] at H
      simp [cm] at H
      exact ⟨ret_two (by omega) H.2, rfl⟩
end Go.Proofs.YtjiaedckecfjbaaDoor
namespace Go.Proofs.YtjiaedckecfjbaaDoor
open Go.ChangeShapes Go.WideShapes Go.ChangeAt Go.RowKit

/-- A slice of bytes that holds the text L. -/
def Txt (w : World) (ao : Option Addr) (cap : Nat) (L : List UInt8) : Prop :=
  L.length ≤ cap ∧ cap ≤ 9223372036854775807 ∧ (L ≠ [] → ∃ b o, ao = some ⟨b, o, none⟩ ∧ At w b o L)

theorem Txt.at {w ao cap L} (h : Txt w ao cap L) {j : Nat} (hj : j < L.length) : ∃ b o, ao = some ⟨b, o, none⟩ ∧ At w b o L :=
  h.2.2 (fun e => by simp [e] at hj)

theorem sk_com : ∀ l : List UInt8, sk true l = if (cm l).2 = true then ((cm l).1 + (sk false (l.drop (cm l).1)).1, (sk false (l.drop (cm l).1)).2) else ((cm l).1, false)
  | [] => by simp [sk, cm]
  | c :: l => by
    have ih := sk_com l
    by_cases h8 : cl c = 8
    · simp [sk, cm, h8, Nat.add_comm]
    · by_cases h0 : cl c = 0
      · simp [sk, cm, h0]
      · have e1 : sk true (c :: l) = ((sk true l).1 + 1, (sk true l).2) := by simp [sk, h8, h0]
        have e2 : cm (c :: l) = ((cm l).1 + 1, (cm l).2) := by simp [cm, h8, h0]
        rw [e1, e2, ih]
        by_cases hb : (cm l).2 = true
        · simp [hb]; omega
        · simp [hb]

theorem cl47 : cl 47 = 4 := by decide

theorem two_prefix (x : UInt8) (l : List UInt8) : ([47, 47] : List UInt8).isPrefixOf (x :: l) = decide (x = 47 ∧ l.head? = some 47) := by
  cases l with
  | nil => simp [List.isPrefixOf]
  | cons y l =>
    simp [List.isPrefixOf]
    rw [Bool.eq_iff_iff]
    simp
    constructor
    · rintro ⟨h1, h2⟩; exact ⟨h1.symm, h2.symm⟩
    · rintro ⟨h1, h2⟩; exact ⟨h1.symm, h2.symm⟩

theorem sk_two {x : UInt8} {l : List UInt8} (hc : cl x ≠ 8) (hd : cl x ≠ 12) : sk false (x :: l) = if ([47, 47] : List UInt8).isPrefixOf (x :: l) = true then sk true (x :: l) else (0, true) := by
  rw [two_prefix]
  by_cases h : x = 47 ∧ l.head? = some 47
  · obtain ⟨rfl, h⟩ := h
    simp [sk, cl47, h]
  · simp [sk, hc, hd, h]

theorem cm_pos {x : UInt8} {l : List UInt8} (h : ([47, 47] : List UInt8).isPrefixOf (x :: l) = true) : 0 < (cm (x :: l)).1 := by
  rw [two_prefix] at h
  simp at h
  rw [h.1]
  simp [cm, cl47]

theorem starts_at (w : World) (b o c m : Nat) (M S : List UInt8) (P : Bool) (hA : At w b o M) (hc : m ≤ c) (hm : c ≤ 9223372036854775807) (hS : S.length ≤ 8) (hl : m = M.length) (hP : S.isPrefixOf M = P) :
    Calls Tryd.prog 58 #[.slice (some ⟨b, o, none⟩) m c, .string (bs S)] w fun e w' => e = .returned (.bool P) ∧ w' = w := by
  subst hl hP
  exact starts_any w b o c M S hA hc hm hS
theorem com_at (w : World) (b o c n : Nat) (L : List UInt8) (hA : At w b o L) (hn : n = L.length) (hm : n ≤ 9223372036854775807) (k : Nat) (hk : k ≤ n) (R : Nat) (B : Bool) (hR : k + (cm (L.drop k)).1 = R) (hB : (cm (L.drop k)).2 = B) :
    Calls Tryd.prog 59 #[.slice (some ⟨b, o, none⟩) n c, .int .i64 k] w fun e w' =>
      e = .returned (.tuple #[.int .i64 (R : Int), .int .i64 (if B = true then 0 else 20)]) ∧ w' = w := by
  subst hn hR hB
  exact com_any w b o c L hA hm k hk

set_option maxHeartbeats 800000 in
theorem blank_any (w : World) (ao : Option Addr) (cap : Nat) (L : List UInt8) (hT : Txt w ao cap L) (k : Nat) (hk : k ≤ L.length) :
    Calls Tryd.prog 55 #[.slice ao L.length cap, .int .i64 k] w fun e w' =>
      e = .returned (.tuple #[.int .i64 ((k + (sk false (L.drop k)).1 : Nat) : Int), .int .i64 (if (sk false (L.drop k)).2 = true then 0 else 20)]) ∧ w' = w := by
  obtain ⟨R, hR⟩ : ∃ R, R = k + (sk false (L.drop k)).1 := ⟨_, rfl⟩
  obtain ⟨E, hE⟩ : ∃ E : Int, E = if (sk false (L.drop k)).2 = true then 0 else 20 := ⟨_, rfl⟩
  rw [← hR, ← hE]
  have HR : Hid (k + (sk false (L.drop k)).1 = R ∧ (if (sk false (L.drop k)).2 = true then (0 : Int) else 20) = E) := ⟨hR.symm, hE.symm⟩
  clear hR hE
  obtain ⟨n, hn⟩ : ∃ n, n = L.length := ⟨_, rfl⟩
  have hc1 := hT.1
  have hc2 := hT.2.1
  rw [← hn] at hc1 hk ⊢
  have HN : Hid (n = L.length) := hn
  clear hn
  have HA : Hid (Txt w ao cap L) := hT
  clear hT
  go_enter Tryd.func55, Tryd.ntmps55
  go_wp2
  go_loop [1] (fun v => ∃ j : Nat, j ≤ n ∧ v = .int .i64 j ∧ Hid (j + (sk false (L.drop j)).1 = R ∧ (if (sk false (L.drop j)).2 = true then (0 : Int) else 20) = E)) (fun v => n - (intOf v).toNat)
  case atStart => exact ⟨k, hk, rfl, HR⟩
  case round =>
    obtain ⟨j, hj, rfl, HJ⟩ := hrel
    by_cases hlt : j < n
    · obtain ⟨b, o, rfl, hA⟩ := HA.out.at (HN.out ▸ hlt)
      obtain ⟨x, hx⟩ : ∃ x, x = L[j]'(HN.out ▸ hlt) := ⟨_, rfl⟩
      have hcell := hA.2 j (HN.out ▸ hlt)
      rw [← hx] at hcell
      have HD : Hid (L.drop j = x :: L.drop (j + 1)) := by rw [hx]; exact List.drop_eq_getElem_cons _
      clear hx
      have HA' : Hid (At w b o L) := hA
      clear hA
      by_cases hs : cl x = 8 ∨ cl x = 12
      · have H2 : j + 1 + (sk false (L.drop (j + 1))).1 = R ∧ (if (sk false (L.drop (j + 1))).2 = true then (0 : Int) else 20) = E := by
          have H := HJ.out
          rw [HD.out] at H
          simp only [sk, hs, if_true] at H
          exact ⟨by omega, H.2⟩
        have H3 : Hid _ := H2
        clear H2
        rcases hs with hs | hs
        all_goals
          go_wp2_with (go_at_call 57; refine (cls_any _ _).mono ?_; rintro e w' ⟨rfl, rfl⟩)
          go_round
          case rel => exact ⟨j + 1, by omega, by go_num, H3⟩
          case measure => simp [intOf]; omega
      · have HX : Hid (¬ (cl x = 8 ∨ cl x = 12)) := hs
        have hcl : cl x = 7 ∨ cl x = 6 ∨ cl x = 4 ∨ cl x = 0 := by have := cl_cases x; omega
        clear hs
        obtain ⟨P, hP⟩ : ∃ P, ([47, 47] : List UInt8).isPrefixOf (L.drop j) = P := ⟨_, rfl⟩
        obtain ⟨R1, hR1⟩ : ∃ R1, j + (cm (L.drop j)).1 = R1 := ⟨_, rfl⟩
        obtain ⟨B1, hB1⟩ : ∃ B1, (cm (L.drop j)).2 = B1 := ⟨_, rfl⟩
        have HC : Hid (([47, 47] : List UInt8).isPrefixOf (L.drop j) = P ∧ j + (cm (L.drop j)).1 = R1 ∧ (cm (L.drop j)).2 = B1) := ⟨hP, hR1, hB1⟩
        clear hP hR1 hB1
        have HS : Hid (sk false (L.drop j) = if P = true then (if B1 = true then (R1 - j + (sk false (L.drop R1)).1, (sk false (L.drop R1)).2) else (R1 - j, false)) else (0, true)) := by
          obtain ⟨e1, e2, e3⟩ := HC.out
          have e4 := sk_two (l := L.drop (j + 1)) (fun e => HX.out (.inl e)) (fun e => HX.out (.inr e))
          rw [← HD.out, e1, sk_com, e3] at e4
          rw [e4, List.drop_drop, e2, show (cm (L.drop j)).1 = R1 - j by omega]
          exact rfl
        have hle : R1 ≤ n := by
          have := cm_le (L.drop j); simp at this; have := HN.out; have := HC.out.2.1; omega
        cases P
        · have H := HJ.out
          rw [HS.out] at H
          simp at H
          have H3 : Hid _ := H
          clear H
          rcases hcl with hcl | hcl | hcl | hcl
          all_goals
            go_wp2_with (first
              | (go_at_call 57; refine (cls_any _ _).mono ?_; rintro e w' ⟨rfl, rfl⟩)
              | (go_at_call 58; refine (starts_at _ b (o + j) (cap - j) (n - j) (L.drop j) [47, 47] false (HA'.out.drop j) (by omega) (by omega) (by decide) (by have := HN.out; simp; omega) HC.out.1).mono ?_; rintro e w' ⟨rfl, rfl⟩))
          all_goals
            go_ret2
            exact ⟨ret_two (by have := H3.out; omega) H3.out.2, rfl⟩
        · have hpos : j < R1 := by
            have := HC.out.1; rw [HD.out] at this; have := cm_pos this; rw [← HD.out] at this; have := HC.out.2.1; omega
          cases B1
          · have H := HJ.out
            rw [HS.out] at H
            simp at H
            have H3 : Hid _ := H
            clear H
            rcases hcl with hcl | hcl | hcl | hcl
            all_goals
              go_wp2_with (first
                | (go_at_call 57; refine (cls_any _ _).mono ?_; rintro e w' ⟨rfl, rfl⟩)
                | (go_at_call 58; refine (starts_at _ b (o + j) (cap - j) (n - j) (L.drop j) [47, 47] true (HA'.out.drop j) (by omega) (by omega) (by decide) (by have := HN.out; simp; omega) HC.out.1).mono ?_; rintro e w' ⟨rfl, rfl⟩)
                | (go_at_call 59; refine (com_at _ b o cap n L HA'.out HN.out (by omega) j (by omega) R1 false HC.out.2.1 HC.out.2.2).mono ?_; rintro e w' ⟨rfl, rfl⟩))
            all_goals
              go_ret2
              exact ⟨ret_two (by have := H3.out; omega) (by simpa using H3.out.2), rfl⟩
          · have H := HJ.out
            rw [HS.out] at H
            simp only [if_true] at H
            have H3 : Hid (R1 + (sk false (L.drop R1)).1 = R ∧ (if (sk false (L.drop R1)).2 = true then (0 : Int) else 20) = E) := ⟨by omega, H.2⟩
            clear H
            rcases hcl with hcl | hcl | hcl | hcl
            all_goals
              go_wp2_with (first
                | (go_at_call 57; refine (cls_any _ _).mono ?_; rintro e w' ⟨rfl, rfl⟩)
                | (go_at_call 58; refine (starts_at _ b (o + j) (cap - j) (n - j) (L.drop j) [47, 47] true (HA'.out.drop j) (by omega) (by omega) (by decide) (by have := HN.out; simp; omega) HC.out.1).mono ?_; rintro e w' ⟨rfl, rfl⟩)
                | (go_at_call 59; refine (com_at _ b o cap n L HA'.out HN.out (by omega) j (by omega) R1 true HC.out.2.1 HC.out.2.2).mono ?_; rintro e w' ⟨rfl, rfl⟩))
            all_goals
              go_round
              case rel => exact ⟨R1, hle, rfl, H3⟩
              case measure => simp [intOf]; omega
    · go_wp2
      go_ret2
      have H := HJ.out
      rw [List.drop_of_length_le (by have := HN.out; omega)] at H
      simp [sk] at H
      exact ⟨ret_two (by omega) H.2, rfl⟩
end Go.Proofs.YtjiaedckecfjbaaDoor
namespace Go.Proofs.YtjiaedckecfjbaaDoor
open Go.ChangeShapes Go.WideShapes Go.ChangeAt Go.RowKit

/-- The two tables of package lex as they lie. -/
def Tab (w : World) : Prop := 2 ≤ w.heap.size ∧ (∀ i, i < 18 → w.cell? ⟨1, i, none⟩ = some (.string (bs (WORDS.getD i [])))) ∧ (∀ i, i < 29 → w.cell? ⟨0, i, none⟩ = some (.string (bs (SIGNS.getD i []))))

def tv (t : Tk) (k : Int) : Value := .agg #[.int .i64 t.kind, .int .i64 k, .int .i64 t.val, .string (bs t.name)]
def tz : Value := .agg #[.int .i64 0, .int .i64 0, .int .i64 0, .string .empty]

theorem nameTk_hit {S : List UInt8} {j : Nat} (hj : j < 18) (h : ∀ i, i < j → WORDS.getD i [] ≠ S) (e : WORDS.getD j [] = S) : nameTk S = ⟨10 + (j : Int), 0, []⟩ := by
  have : WORDS.findIdx? (· == S) = some j := by
    rw [List.findIdx?_eq_some_iff_getElem]
    have hl : j < WORDS.length := hj
    refine ⟨hl, ?_, fun i hi => ?_⟩
    · simp [List.getD, List.getElem?_eq_getElem hl] at e
      simp [e]
    · have := h i hi
      have hl' : i < WORDS.length := by omega
      simp [List.getD, List.getElem?_eq_getElem hl'] at this
      simp [this]
  simp [nameTk, this]
theorem nameTk_miss {S : List UInt8} (h : ∀ i, i < 18 → WORDS.getD i [] ≠ S) : nameTk S = ⟨1, 0, S⟩ := by
  have : WORDS.findIdx? (· == S) = none := by
    rw [List.findIdx?_eq_none_iff]
    intro x hx
    obtain ⟨i, hi, rfl⟩ := List.mem_iff_getElem.1 hx
    have := h i hi
    simp [List.getD, List.getElem?_eq_getElem hi] at this
    simp [this]
  simp [nameTk, this]

theorem ret_val {a b : Value} (h : a = b) : Ending.returned a = .returned b := by rw [h]

theorem nameTok_any (w : World) (hT : Tab w) (S : List UInt8) (k : Int) :
    Calls Tryd.prog 63 #[.string (bs S), .int .i64 k] w fun e w' => e = .returned (tv (nameTk S) k) ∧ Below w.heap.size w w' := by
  have HT : Hid (Tab w) := hT
  have hsz : 1 < w.heap.size := by have := hT.1; omega
  have hsz0 : 0 < w.heap.size := by have := hT.1; omega
  clear hT
  obtain ⟨s, hs⟩ : ∃ s, s = bs S := ⟨_, rfl⟩
  obtain ⟨r, hr⟩ : ∃ r, r = tv (nameTk S) k := ⟨_, rfl⟩
  rw [← hs, ← hr]
  have HS : Hid (s = bs S ∧ r = tv (nameTk S) k) := ⟨hs, hr⟩
  clear hs hr
  go_enter Tryd.func63, Tryd.ntmps63
  go_wp2
  go_loop [6] (fun v => ∃ j : Nat, j ≤ 18 ∧ v = .int .i64 j ∧ Hid (∀ i, i < j → WORDS.getD i [] ≠ S)) (fun v => 18 - (intOf v).toNat)
  case atStart => exact ⟨0, by omega, rfl, fun i hi => by omega⟩
  case round =>
    obtain ⟨j, hj, rfl, HJ⟩ := hrel
    by_cases hlt : j < 18
    · have hcell := HT.out.2.1 j hlt
      obtain ⟨x, hx⟩ : ∃ x, x = bs (WORDS.getD j []) := ⟨_, rfl⟩
      rw [← hx] at hcell
      have HX : Hid (x = bs (WORDS.getD j [])) := hx
      clear hx
      by_cases he : (x.toList == s.toList) = true
      · have HE : Hid (nameTk S = ⟨10 + (j : Int), 0, []⟩) := by
          rw [HX.out, HS.out.1, bs_toList, bs_toList] at he
          exact nameTk_hit hlt HJ.out (by simpa using he)
        go_wp2
        refine bodyPost_ret (v := tv ⟨10 + (j : Int), 0, []⟩ k) (by simp [results, Tryd.results63, go_sem]; rfl) rfl ⟨ret_val ?_, (Below.refl _ _).alloc (Nat.le_refl _) _⟩
        rw [HS.out.2, HE.out]
      · have HE : Hid (∀ i, i < j + 1 → WORDS.getD i [] ≠ S) := by
          rw [HX.out, HS.out.1, bs_toList, bs_toList] at he
          intro i hi
          rcases Nat.lt_succ_iff_lt_or_eq.1 hi with h | rfl
          · exact HJ.out i h
          · simpa using he
        go_wp2
        go_round
        case rel => exact ⟨j + 1, by omega, by go_num, HE⟩
        case measure => simp [intOf]; omega
    · have hj : j = 18 := by omega
      subst hj
      go_wp2
      refine bodyPost_ret (v := .agg #[.int .i64 1, .int .i64 k, .int .i64 0, .string s]) (by simp [results, Tryd.results63, go_sem]) rfl ⟨ret_val ?_, (Below.refl _ _).alloc (Nat.le_refl _) _⟩
      rw [HS.out.2, nameTk_miss HJ.out, HS.out.1]; rfl
end Go.Proofs.YtjiaedckecfjbaaDoor
