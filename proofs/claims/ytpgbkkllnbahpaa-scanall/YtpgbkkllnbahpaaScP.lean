import Derived.Below
set_option linter.unusedVariables false
set_option linter.unusedSimpArgs false
namespace Go.Proofs.Ytpgbkkllnbahpaa

/-- An interval: its register, its first place, its last place. -/
abbrev Iv := Int × Int × Int
/-- A place: its kind, its number. -/
abbrev Lc := Int × Int
/-- x into a list, ahead of the first that follows it. -/
def wth {α : Type} (p : α → Bool) (x : α) (l : List α) : List α := l.take (l.findIdx p) ++ x :: l.drop (l.findIdx p)
/-- Does o follow x among the active ones? -/
def aft (x o : Iv) : Bool := decide (x.2.2 < o.2.2) || (decide (o.2.2 = x.2.2) && decide (x.1 < o.1))
/-- What the intervals that were taken have got. -/
structure SS where
  act : List Iv
  sp : List Int
  pl : List Lc
  sl : Nat
def plc (pl : List Lc) (r : Int) : Lc := pl.getD r.toNat (0, 0)
/-- The active ones that end ahead of F are active no more. -/
def fre (F : Int) (pl : List Lc) : List Iv → List Int → List Iv × List Int
  | [], sp => ([], sp)
  | y :: a, sp => if y.2.2 < F then fre F pl a (wth (fun o => decide ((plc pl y.1).2 < o)) (plc pl y.1).2 sp) else (y :: a, sp)
def SS.free (s : SS) (F : Int) : SS := ⟨(fre F s.pl s.act s.sp).1, (fre F s.pl s.act s.sp).2, s.pl, s.sl⟩
def lastOf (l : List Iv) : Iv := l.getLastD (0, 0, 0)
def SS.take (s : SS) (x : Iv) : SS :=
  match s.sp with
  | r :: sp => ⟨wth (aft x) x s.act, sp, s.pl.set x.1.toNat (1, r), s.sl⟩
  | [] => ⟨(wth (aft x) x s.act).dropLast, [], (s.pl.set x.1.toNat (plc s.pl (lastOf (wth (aft x) x s.act)).1)).set (lastOf (wth (aft x) x s.act)).1.toNat (2, (s.sl : Int)), s.sl + 1⟩
def SS.step (s : SS) (x : Iv) : SS := (s.free x.2.1).take x
def grt (L : List Iv) : Int := L.foldl (fun m x => max m x.1) (-1)
def SS.init (n regs : Nat) : SS := ⟨[], (List.range regs).map fun r : Nat => (r : Int), List.replicate n (0, 0), 0⟩
def scnN (L : List Iv) (regs n : Nat) : SS := L.foldl SS.step (SS.init n regs)
def scn (L : List Iv) (regs : Nat) : SS := scnN L regs (grt L + 1).toNat
/-- What may be handed in. -/
structure Good (L : List Iv) : Prop where
  reg : ∀ x ∈ L, 0 ≤ x.1 ∧ x.1 < 262144
  ft : ∀ x ∈ L, x.2.1 ≤ x.2.2
  up : ∀ i (h : i + 1 < L.length), L[i].2.1 < L[i + 1].2.1 ∨ (L[i].2.1 = L[i + 1].2.1 ∧ L[i].1 < L[i + 1].1)
  once : (L.map (·.1)).Nodup
end Go.Proofs.Ytpgbkkllnbahpaa
