import Derived.Test.YtjiaedckecfjbaaDoorCyE
import Derived.Test.YtjiaedckecfjbaaDoorCyF
import Derived.Test.YtjiaedckecfjbaaDoorCyG
set_option linter.unusedVariables false
set_option linter.unusedSimpArgs false
namespace Go.Proofs.YtjiaedckecfjbaaDoor
open Go.ChangeShapes Go.WideShapes Go.ChangeAt Go.RowKit Go.Maps

/-- An instruction of code: its registers as they are numbered. -/
structure Ri where
  op : Int
  a : Int
  b : Int
  c : Int
  n : Int
/-- A function of code. -/
structure Rf where
  name : ByteArray
  fr : Int
  fi : Int
  ct : Int
  pa : Int
def riv (x : Ri) : List Value := [.int .i64 x.op, .int .i64 x.a, .int .i64 x.b, .int .i64 x.c, .int .i64 x.n]
def rfv (f : Rf) : List Value := [.string f.name, .int .i64 f.fr, .int .i64 f.fi, .int .i64 f.ct, .int .i64 f.pa]
/-- A run of code. -/
structure Rv where
  nx : Int
  rg : List Int
  sw : Int → Int
  cs : Nat
  base : Int
  top : Int
  frames : Int
  tk : Int
  ln : Int → Option Int
  mm : Int → Int
  hc : Nat
  inp : List Int
  ev : List (Int × Int)
  fin : Int
  kd : Int
  vl : Int
  steps : Int
  words : Int
  deep : Int
  rests : Bool
def Rv.over (R : Rv) : Bool := R.rests || !decide (R.fin = 0)
def Rv.reg (R : Rv) (i : Int) : Int := R.rg.getD i.toNat 0
def Rv.set (R : Rv) (i x : Int) : Rv := { R with rg := R.rg.set i.toNat x }
def Rv.panic (R : Rv) (k x : Int) : Rv := { R with fin := 2, kd := k, vl := x }
def Rv.stuck (R : Rv) (k : Int) : Rv := { R with fin := 3, kd := k }
def Rv.tell (R : Rv) (k x : Int) : Rv := if R.ev.length = 1048576 then { R with rests := true } else { R with ev := R.ev ++ [(k, x)] }
/-- A frame begins. -/
def Rv.push (R : Rv) (f : Rf) (back : Int) : Rv := { R with base := R.top, top := R.top + f.fr, sw := upd (upd R.sw R.top back) (R.top + 1) R.base, cs := R.cs + 2, frames := R.frames + 1, deep := max R.deep (R.frames + 1), nx := f.fi }
def Rv.call (S : Int) (f : Rf) (R : Rv) (back : Int) : Rv := if f.fr > S - R.top then R.panic 7 0 else R.push f back
/-- A frame ends. -/
def Rv.back (R : Rv) : Rv := { R with base := R.sw (R.base + 1), top := R.base, frames := R.frames - 1, nx := R.sw R.base, fin := if R.sw (R.base + 1) = -1 then 1 else R.fin }
def Rv.alloc (room : Int) (R : Rv) (a k : Int) : Rv := if k ≥ room - R.tk then R.panic 8 0 else { R.set a (R.tk + 1) with tk := R.tk + k + 1, ln := upd R.ln (R.tk + 1) (some k), hc := R.hc + 1, words := R.tk + k + 1 }
def Rv.take (R : Rv) (a : Int) : Rv := match R.inp with | [] => R.panic 5 0 | y :: I => { R.set a y with inp := I }
def bad01 (a : Int) : Prop := ¬ (a = 0 ∨ a = 1)
instance (a : Int) : Decidable (bad01 a) := inferInstanceAs (Decidable (¬ _))
/-- Why an instruction can't be done. -/
def Rv.why (R : Rv) (x : Ri) : Option Int :=
  if x.op = 6 ∨ x.op = 7 then (if R.reg x.c = 0 then some 3 else none)
  else if x.op = 12 ∨ x.op = 13 then (if R.reg x.c < 0 then some 4 else none)
  else if x.op = 20 then (if bad01 (R.reg x.b) then some 5 else none)
  else if x.op = 28 then (if R.reg x.b < 0 then some 1 else none)
  else if x.op = 29 then (if R.reg x.b = 0 ∨ (R.ln (R.reg x.b)).isSome then none else some 1)
  else if x.op = 30 ∨ x.op = 31 then (if R.reg x.b = 0 then some 1 else match R.ln (R.reg x.b) with | none => some 1 | some k => if R.reg x.c < 0 ∨ R.reg x.c ≥ k then some 2 else none)
  else if x.op = 38 then (if bad01 (R.reg x.a) then some 5 else none)
  else none
/-- What it does, where it can be done. -/
def Rv.does (FS : List Rf) (S room : Int) (R : Rv) (x : Ri) : Rv :=
  if x.op = 1 then R.set x.a x.n
  else if x.op = 2 then R.set x.a (R.reg x.b)
  else if x.op ≤ 17 then R.set x.a (doIW (x.op - 1) (R.reg x.b) (R.reg x.c))
  else if x.op ≤ 20 then R.set x.a (doIW (x.op - 1) (R.reg x.b) 0)
  else if x.op = 21 then { R with nx := x.n }
  else if x.op = 22 then (if R.reg x.a = 0 then { R with nx := x.n } else R)
  else if x.op = 23 then (if R.reg x.a = 0 then R else { R with nx := x.n })
  else if x.op = 24 then R.set x.a (R.sw (R.base + x.n))
  else if x.op = 25 then { R with sw := upd R.sw (R.base + x.n) (R.reg x.a), cs := R.cs + 1 }
  else if x.op = 26 then (match FS[x.n.toNat]? with | none => R | some f => R.call S f R.nx)
  else if x.op = 27 then R.back
  else if x.op = 28 then R.alloc room x.a (R.reg x.b)
  else if x.op = 29 then R.set x.a ((R.ln (R.reg x.b)).getD 0)
  else if x.op = 30 then R.set x.a (R.mm (R.reg x.b + 1 + R.reg x.c))
  else if x.op = 31 then { R with mm := upd R.mm (R.reg x.b + 1 + R.reg x.c) (R.reg x.a), hc := R.hc + 1 }
  else if x.op = 32 then (if R.reg x.a = 0 then R.panic x.n 0 else R)
  else if x.op = 33 then (if R.reg x.a < 0 then R.panic x.n 0 else R)
  else if x.op = 34 then (if R.reg x.a < 0 ∨ R.reg x.a ≥ R.reg x.b then R.panic x.n 0 else R)
  else if x.op = 35 then R.panic x.n (if x.n = 6 then R.reg x.a else 0)
  else if x.op = 36 then R.take x.a
  else if x.op = 37 then R.tell 1 (R.reg x.a)
  else R.tell 2 (R.reg x.a)
def Rv.ins (FS : List Rf) (S room : Int) (R : Rv) (x : Ri) : Rv := match R.why x with | some k => R.stuck k | none => R.does FS S room x
def riZ : Ri := ⟨0, 0, 0, 0, 0⟩
def Rv.at (C : List Ri) (R : Rv) : Ri := C.getD R.nx.toNat riZ
def Rv.on (R : Rv) : Rv := { R with nx := R.nx + 1 }
def Rv.adv (C : List Ri) (FS : List Rf) (S room : Int) (R : Rv) : Rv := R.on.ins FS S room (R.at C)
/-- A step: whether it is made, and the run behind it. -/
def Rv.stp (C : List Ri) (FS : List Rf) (S room : Int) (R : Rv) : Bool × Rv :=
  if R.over then (false, R) else
  let R1 := R.adv C FS S room
  if R1.rests then (false, R1) else (true, { R1 with steps := R.steps + 1 })
/-- Ahead of any step. -/
def Rv.zero (I : List Int) : Rv := ⟨0, List.replicate 16 0, fun _ => 0, 0, -1, 0, 0, 0, fun _ => none, fun _ => 0, 0, I, [], 0, 0, 0, 0, 0, 0, false⟩
def Rv.start (FS : List Rf) (S : Int) (mn : Nat) (I : List Int) : Rv := match FS[mn]? with | none => Rv.zero I | some f => (Rv.zero I).call S f (-1)
end Go.Proofs.YtjiaedckecfjbaaDoor
