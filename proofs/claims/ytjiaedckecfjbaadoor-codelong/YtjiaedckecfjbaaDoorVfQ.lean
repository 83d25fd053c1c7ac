import Derived.Test.YtjiaedckecfjbaaDoorVfP
set_option linter.unusedVariables false
set_option linter.unusedSimpArgs false
namespace Go.Proofs.YtjiaedckecfjbaaDoor
open Go.ChangeShapes Go.WideShapes Go.ChangeAt Go.RowKit Go.Maps Go.WideMaps

/-- So many functions more are read behind these; what follows begins at the place that is answered. -/
def rdFns (B : List Int) (main : Int) : Nat → Int → Int → List Rf → Nat → Except Nat (List Rf × Nat)
  | 0, _, _, A, next => .ok (A, next)
  | m + 1, i, first, A, next => match rdFn B (A.map fun f : Rf => nml f.name) (if i = main then 0 else 8) next with
    | .error p => .error p
    | .ok (T, fr, ct, pa) => rdFns B main m (i + 1) (first + ct) (A ++ [⟨bs T, fr, first, ct, pa⟩]) (next + 1 + T.length + 8 + 4 + 1)
/-- Registers are read. -/
def rdRg (B : List Int) : Nat → Nat → Except Nat (List Int)
  | 0, _ => .ok []
  | m + 1, next => match rdN B 1 0 15 next with
    | .error p => .error p
    | .ok r => match rdRg B m (next + 1) with
      | .error p => .error p
      | .ok L => .ok (r :: L)
/-- An instruction of a function, one of so many, is read. -/
def rdIn (B : List Int) (f : Rf) (k : Int) (last : Bool) (next : Nat) : Except Nat (Ri × Nat) :=
  match rdOp B last next with
  | .error p => .error p
  | .ok op => match rdRg B (rcnt op).toNat (next + 1) with
    | .error p => .error p
    | .ok L => if hasNC op = true then
        match rdN B 8 (loN op f.fi) (hiN op f.fr f.fi f.ct k) (next + 1 + (rcnt op).toNat) with
        | .error p => .error p
        | .ok v => .ok (⟨op, L.getD 0 0, L.getD 1 0, L.getD 2 0, v⟩, next + 1 + (rcnt op).toNat + 8)
      else .ok (⟨op, L.getD 0 0, L.getD 1 0, L.getD 2 0, 0⟩, next + 1 + (rcnt op).toNat)
/-- So many instructions more of a function. -/
def rdIns1 (B : List Int) (f : Rf) (k : Int) : Nat → Nat → Except Nat (List Ri × Nat)
  | 0, next => .ok ([], next)
  | m + 1, next => match rdIn B f k (decide (m = 0)) next with
    | .error p => .error p
    | .ok (x, q) => match rdIns1 B f k m q with
      | .error p => .error p
      | .ok (L, q2) => .ok (x :: L, q2)
/-- The instructions of these functions. -/
def rdIns (B : List Int) (k : Int) : List Rf → Nat → Except Nat (List Ri × Nat)
  | [], next => .ok ([], next)
  | f :: FS, next => match rdIns1 B f k f.ct.toNat next with
    | .error p => .error p
    | .ok (L, q) => match rdIns B k FS q with
      | .error p => .error p
      | .ok (L2, q2) => .ok (L ++ L2, q2)
/-- Code is read: main, functions, instructions, or the place of the fault. -/
def rdCode (B : List Int) : Except Nat (Int × List Rf × List Ri) :=
  match rdMk B mkB 0 with
  | .error p => .error p
  | .ok q => match rdN B 4 1 4294967295 q with
    | .error p => .error p
    | .ok count => match rdN B 4 0 (count - 1) (q + 4) with
      | .error p => .error p
      | .ok main => match rdFns B main count.toNat 0 0 [] (q + 8) with
        | .error p => .error p
        | .ok (FS, q2) => match rdIns B FS.length FS q2 with
          | .error p => .error p
          | .ok (L, q3) => if q3 = B.length then .ok (main, FS, L) else .error q3
theorem rdFns_len {B : List Int} {main : Int} : ∀ {m : Nat} {i first : Int} {A FS : List Rf} {next q : Nat}, rdFns B main m i first A next = .ok (FS, q) → FS.length = A.length + m ∧ next ≤ q
  | 0, i, first, A, FS, next, q, h => by
    simp only [rdFns, Except.ok.injEq, Prod.mk.injEq] at h
    obtain ⟨rfl, rfl⟩ := h
    exact ⟨rfl, Nat.le_refl _⟩
  | m + 1, i, first, A, FS, next, q, h => by
    simp only [rdFns] at h
    cases hr : rdFn B (A.map fun f : Rf => nml f.name) (if i = main then 0 else 8) next with
    | error p => rw [hr] at h; cases h
    | ok x =>
      rw [hr] at h
      obtain ⟨T, fr, ct, pa⟩ := x
      have := rdFns_len h
      rw [List.length_append] at this
      simp only [List.length_cons, List.length_nil] at this
      omega
end Go.Proofs.YtjiaedckecfjbaaDoor
