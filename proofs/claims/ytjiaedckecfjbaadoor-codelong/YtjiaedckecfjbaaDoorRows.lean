/-
  NARROWER THAN 'FOR EVERY INPUT', by the rows' own cells (each row's printed sentence says how): CodeBack: laid · CodeOneForm: laid · CodeLong: laid · CodeNames: laid · CodePlaces: laid · CodeFlip: laid.
  DERIVED. THE GIVEN ROWS OF THIS SEAT. 6 by the template 'for every input the law returns true; each argument reads behind the call as it read before'; 0 by the template 'total and deterministic' (their statements: YtjiaedckecfjbaaDoorTotals.lean).
  GIVEN WITH THE SEED: the statements are not yours to turn. If you find one false, say at which input.
  Laid BY PROGRAM, IN A SANDBOX (cutbox-rows.mjs): the forced cells as the released guide's own fill.sh prints them over the translation b3221b7a861b0cc6… (all of the seat's roots in one cut). By AI agents, Wed Nov 11 2026. No macro, syntax, notation, axiom, sorry.
-/
import Derived.Test.YtjiaedckecfjbaaDoorChecked
import GoSem.Claim
import GoSem.ClaimJoined
import GoSem.ClaimMapViews
import Derived.JoinedTies
import Derived.KernelRfl
namespace Go.Proofs.YtjiaedckecfjbaaDoor
/- THE CELL 'sum', in the pinned program and in every row, IS THE sha256 OF THE DUMP (.gsa) THAT YtjiaedckecfjbaaDoorProg.lean LOADS. Nothing in Lean hashes anything: it is a label: what it is worth is what the hold of that sum in a sandbox is worth. -/
noncomputable def Tryd.pinned : Pinned := { name := "ytjiaedckecfjbaadoor", sum := "b3221b7a861b0cc65b2b0845d451901e2207d1ddef6b176c9bfb96d94b1f1b9f", checked := Tryd.checked }
namespace Rows
def none {H : Type} : Left H := { results := [], args := [] }

/- WHAT THE LISTED PACKAGE-LEVEL VARIABLES READ AS WHEN THE CALL BEGINS. Each datum BY PROGRAM (the guide's laid-datum.mjs) off the statement by which the dump's own 'gosem.cut.vars' lays the variable. In a bare row this is a premise. The card (YtjiaedckecfjbaaDoorCards.lean) ties it to the program's text. -/
def laid_quern_lex_words {H : Type} : DataW H := .agg [.lit (.string [102, 117, 110, 99]), .lit (.string [118, 97, 114]), .lit (.string [105, 102]), .lit (.string [101, 108, 115, 101]), .lit (.string [102, 111, 114]), .lit (.string [114, 101, 116, 117, 114, 110]), .lit (.string [98, 114, 101, 97, 107]), .lit (.string [99, 111, 110, 116, 105, 110, 117, 101]), .lit (.string [112, 114, 105, 110, 116]), .lit (.string [112, 97, 110, 105, 99]), .lit (.string [105, 110, 112, 117, 116]), .lit (.string [108, 101, 110]), .lit (.string [109, 97, 107, 101]), .lit (.string [105, 110, 116]), .lit (.string [98, 111, 111, 108]), .lit (.string [116, 114, 117, 101]), .lit (.string [102, 97, 108, 115, 101]), .lit (.string [110, 105, 108])]
def laid_quern_lex_signs {H : Type} : DataW H := .agg [.lit (.string [40]), .lit (.string [41]), .lit (.string [123]), .lit (.string [125]), .lit (.string [91]), .lit (.string [93]), .lit (.string [44]), .lit (.string [59]), .lit (.string [61]), .lit (.string [61, 61]), .lit (.string [33, 61]), .lit (.string [60]), .lit (.string [60, 61]), .lit (.string [62]), .lit (.string [62, 61]), .lit (.string [43]), .lit (.string [45]), .lit (.string [42]), .lit (.string [47]), .lit (.string [37]), .lit (.string [38]), .lit (.string [124]), .lit (.string [94]), .lit (.string [38, 94]), .lit (.string [60, 60]), .lit (.string [62, 62]), .lit (.string [38, 38]), .lit (.string [124, 124]), .lit (.string [33])]

/-- 'quernlaw22.CodeBack': WHATEVER THE INPUT: true; the input reads as it did. -/
def codeBackSpec : ChangeSpec := { name := "codeBack", fn := fun _ => fun
  | [d] => { results := [.lit (.bool true)], args := [d] }
  | _ => none }
def codeBackRow : OpenClaim := { program := "ytjiaedckecfjbaadoor", sum := "b3221b7a861b0cc65b2b0845d451901e2207d1ddef6b176c9bfb96d94b1f1b9f", func := "quern/quernlaw22.CodeBack", spec := "codeBack", unfollowed := true, recurses := true, named := ["quern/lex.words", "quern/lex.signs"], apart := false, laid := [("quern/lex.words", laid_quern_lex_words), ("quern/lex.signs", laid_quern_lex_signs)] }
def CodeBackSaid : Prop := codeBackRow.holds Tryd.pinned (OpenSpec.ofChange codeBackSpec)

/-- ITS FALSE NEIGHBOUR: 'it returns false'. Refute it at one input. -/
def codeBackWrong : ChangeSpec := { name := "codeBack", fn := fun _ => fun
  | [d] => { results := [.lit (.bool false)], args := [d] }
  | _ => none }
def CodeBackWrongFalsely : Prop := codeBackRow.holds Tryd.pinned (OpenSpec.ofChange codeBackWrong)

/-- 'quernlaw22.CodeOneForm': WHATEVER THE INPUT: true; the input reads as it did. -/
def codeOneFormSpec : ChangeSpec := { name := "codeOneForm", fn := fun _ => fun
  | [d] => { results := [.lit (.bool true)], args := [d] }
  | _ => none }
def codeOneFormRow : OpenClaim := { program := "ytjiaedckecfjbaadoor", sum := "b3221b7a861b0cc65b2b0845d451901e2207d1ddef6b176c9bfb96d94b1f1b9f", func := "quern/quernlaw22.CodeOneForm", spec := "codeOneForm", unfollowed := true, recurses := true, named := ["quern/lex.words", "quern/lex.signs"], apart := false, laid := [("quern/lex.words", laid_quern_lex_words), ("quern/lex.signs", laid_quern_lex_signs)] }
def CodeOneFormSaid : Prop := codeOneFormRow.holds Tryd.pinned (OpenSpec.ofChange codeOneFormSpec)

/-- ITS FALSE NEIGHBOUR: 'it returns false'. Refute it at one input. -/
def codeOneFormWrong : ChangeSpec := { name := "codeOneForm", fn := fun _ => fun
  | [d] => { results := [.lit (.bool false)], args := [d] }
  | _ => none }
def CodeOneFormWrongFalsely : Prop := codeOneFormRow.holds Tryd.pinned (OpenSpec.ofChange codeOneFormWrong)

/-- 'quernlaw22.CodeLong': WHATEVER THE INPUT: true; the input reads as it did. -/
def codeLongSpec : ChangeSpec := { name := "codeLong", fn := fun _ => fun
  | [d1, d2] => { results := [.lit (.bool true)], args := [d1, d2] }
  | _ => none }
def codeLongRow : OpenClaim := { program := "ytjiaedckecfjbaadoor", sum := "b3221b7a861b0cc65b2b0845d451901e2207d1ddef6b176c9bfb96d94b1f1b9f", func := "quern/quernlaw22.CodeLong", spec := "codeLong", unfollowed := true, recurses := true, named := ["quern/lex.words", "quern/lex.signs"], apart := false, laid := [("quern/lex.words", laid_quern_lex_words), ("quern/lex.signs", laid_quern_lex_signs)] }
def CodeLongSaid : Prop := codeLongRow.holds Tryd.pinned (OpenSpec.ofChange codeLongSpec)

/-- ITS FALSE NEIGHBOUR: 'it returns false'. Refute it at one input. -/
def codeLongWrong : ChangeSpec := { name := "codeLong", fn := fun _ => fun
  | [d1, d2] => { results := [.lit (.bool false)], args := [d1, d2] }
  | _ => none }
def CodeLongWrongFalsely : Prop := codeLongRow.holds Tryd.pinned (OpenSpec.ofChange codeLongWrong)

/-- 'quernlaw22.CodeNames': WHATEVER THE INPUT: true; the input reads as it did. -/
def codeNamesSpec : ChangeSpec := { name := "codeNames", fn := fun _ => fun
  | [d1, d2, d3] => { results := [.lit (.bool true)], args := [d1, d2, d3] }
  | _ => none }
def codeNamesRow : OpenClaim := { program := "ytjiaedckecfjbaadoor", sum := "b3221b7a861b0cc65b2b0845d451901e2207d1ddef6b176c9bfb96d94b1f1b9f", func := "quern/quernlaw22.CodeNames", spec := "codeNames", unfollowed := true, recurses := true, named := ["quern/lex.words", "quern/lex.signs"], apart := false, laid := [("quern/lex.words", laid_quern_lex_words), ("quern/lex.signs", laid_quern_lex_signs)] }
def CodeNamesSaid : Prop := codeNamesRow.holds Tryd.pinned (OpenSpec.ofChange codeNamesSpec)

/-- ITS FALSE NEIGHBOUR: 'it returns false'. Refute it at one input. -/
def codeNamesWrong : ChangeSpec := { name := "codeNames", fn := fun _ => fun
  | [d1, d2, d3] => { results := [.lit (.bool false)], args := [d1, d2, d3] }
  | _ => none }
def CodeNamesWrongFalsely : Prop := codeNamesRow.holds Tryd.pinned (OpenSpec.ofChange codeNamesWrong)

/-- 'quernlaw22.CodePlaces': WHATEVER THE INPUT: true; the input reads as it did. -/
def codePlacesSpec : ChangeSpec := { name := "codePlaces", fn := fun _ => fun
  | [d1, d2, d3] => { results := [.lit (.bool true)], args := [d1, d2, d3] }
  | _ => none }
def codePlacesRow : OpenClaim := { program := "ytjiaedckecfjbaadoor", sum := "b3221b7a861b0cc65b2b0845d451901e2207d1ddef6b176c9bfb96d94b1f1b9f", func := "quern/quernlaw22.CodePlaces", spec := "codePlaces", unfollowed := true, recurses := true, named := ["quern/lex.words", "quern/lex.signs"], apart := false, laid := [("quern/lex.words", laid_quern_lex_words), ("quern/lex.signs", laid_quern_lex_signs)] }
def CodePlacesSaid : Prop := codePlacesRow.holds Tryd.pinned (OpenSpec.ofChange codePlacesSpec)

/-- ITS FALSE NEIGHBOUR: 'it returns false'. Refute it at one input. -/
def codePlacesWrong : ChangeSpec := { name := "codePlaces", fn := fun _ => fun
  | [d1, d2, d3] => { results := [.lit (.bool false)], args := [d1, d2, d3] }
  | _ => none }
def CodePlacesWrongFalsely : Prop := codePlacesRow.holds Tryd.pinned (OpenSpec.ofChange codePlacesWrong)

/-- 'quernlaw22.CodeFlip': WHATEVER THE INPUT: true; the input reads as it did. -/
def codeFlipSpec : ChangeSpec := { name := "codeFlip", fn := fun _ => fun
  | [d1, d2, d3] => { results := [.lit (.bool true)], args := [d1, d2, d3] }
  | _ => none }
def codeFlipRow : OpenClaim := { program := "ytjiaedckecfjbaadoor", sum := "b3221b7a861b0cc65b2b0845d451901e2207d1ddef6b176c9bfb96d94b1f1b9f", func := "quern/quernlaw22.CodeFlip", spec := "codeFlip", unfollowed := true, recurses := true, named := ["quern/lex.words", "quern/lex.signs"], apart := false, laid := [("quern/lex.words", laid_quern_lex_words), ("quern/lex.signs", laid_quern_lex_signs)] }
def CodeFlipSaid : Prop := codeFlipRow.holds Tryd.pinned (OpenSpec.ofChange codeFlipSpec)

/-- ITS FALSE NEIGHBOUR: 'it returns false'. Refute it at one input. -/
def codeFlipWrong : ChangeSpec := { name := "codeFlip", fn := fun _ => fun
  | [d1, d2, d3] => { results := [.lit (.bool false)], args := [d1, d2, d3] }
  | _ => none }
def CodeFlipWrongFalsely : Prop := codeFlipRow.holds Tryd.pinned (OpenSpec.ofChange codeFlipWrong)

/- THE SECOND FORM. 'bulk': how many values and letters a reading holds, each counted each time it is reached (what is shared counts as often as it is met; a slice's spare places count too). A statement '..UptoSaid' is the law's where the arguments, and the package variables that the reading takes, are together of bulk at most 1048576: NARROWER than '..Said'. Prove '..Said' where nothing that the law and all that it calls make is longer than what came in: it says more and counts as full. Else prove '..UptoSaid'. A law counts once. -/
mutual
def uptoBulk {H : Type} : DataW H → Nat
  | .lit (.string bytes) => bytes.length + 1
  | .lit _ => 1
  | .nil => 1
  | .ptr d => uptoBulk d + 1
  | .slice elems spare => uptoBulkAll elems + uptoBulkAll spare + 1
  | .agg parts => uptoBulkAll parts + 1
  | .iface _ d => uptoBulk d + 1
  | .map entries => uptoBulkEntries entries + 1
  | .held _ => 1
def uptoBulkAll {H : Type} : List (DataW H) → Nat
  | [] => 0
  | d :: r => uptoBulk d + uptoBulkAll r
def uptoBulkEntries {H : Type} : List (Lit × DataW H) → Nat
  | [] => 0
  | x :: r => uptoBulkEntry x + uptoBulkEntries r
def uptoBulkEntry {H : Type} : Lit × DataW H → Nat
  | (.string bytes, d) => bytes.length + uptoBulk d + 1
  | (_, d) => uptoBulk d + 1
 end
def uptoSmall : (H : Type) → List (DataW H) → Bool := fun _ ds => decide (uptoBulkAll ds ≤ 1048576)
def OpenSpec.upto (s : _root_.Go.ChangeSpec) : _root_.Go.OpenSpec := { _root_.Go.OpenSpec.ofChange s with cond := some uptoSmall }

/-- 'quernlaw22.CodeBack', WHERE WHAT IT READS IS OF BULK AT MOST 1048576: true; the input reads as it did. -/
def codeBackUptoRow : OpenClaim := { program := "ytjiaedckecfjbaadoor", sum := "b3221b7a861b0cc65b2b0845d451901e2207d1ddef6b176c9bfb96d94b1f1b9f", func := "quern/quernlaw22.CodeBack", spec := "codeBack", unfollowed := true, recurses := true, named := ["quern/lex.words", "quern/lex.signs"], apart := false, laid := [("quern/lex.words", laid_quern_lex_words), ("quern/lex.signs", laid_quern_lex_signs)], narrowed := true }
def CodeBackUptoSaid : Prop := codeBackUptoRow.holds Tryd.pinned (OpenSpec.upto codeBackSpec)

/-- 'quernlaw22.CodeOneForm', WHERE WHAT IT READS IS OF BULK AT MOST 1048576: true; the input reads as it did. -/
def codeOneFormUptoRow : OpenClaim := { program := "ytjiaedckecfjbaadoor", sum := "b3221b7a861b0cc65b2b0845d451901e2207d1ddef6b176c9bfb96d94b1f1b9f", func := "quern/quernlaw22.CodeOneForm", spec := "codeOneForm", unfollowed := true, recurses := true, named := ["quern/lex.words", "quern/lex.signs"], apart := false, laid := [("quern/lex.words", laid_quern_lex_words), ("quern/lex.signs", laid_quern_lex_signs)], narrowed := true }
def CodeOneFormUptoSaid : Prop := codeOneFormUptoRow.holds Tryd.pinned (OpenSpec.upto codeOneFormSpec)

/-- 'quernlaw22.CodeLong', WHERE WHAT IT READS IS OF BULK AT MOST 1048576: true; the input reads as it did. -/
def codeLongUptoRow : OpenClaim := { program := "ytjiaedckecfjbaadoor", sum := "b3221b7a861b0cc65b2b0845d451901e2207d1ddef6b176c9bfb96d94b1f1b9f", func := "quern/quernlaw22.CodeLong", spec := "codeLong", unfollowed := true, recurses := true, named := ["quern/lex.words", "quern/lex.signs"], apart := false, laid := [("quern/lex.words", laid_quern_lex_words), ("quern/lex.signs", laid_quern_lex_signs)], narrowed := true }
def CodeLongUptoSaid : Prop := codeLongUptoRow.holds Tryd.pinned (OpenSpec.upto codeLongSpec)

/-- 'quernlaw22.CodeNames', WHERE WHAT IT READS IS OF BULK AT MOST 1048576: true; the input reads as it did. -/
def codeNamesUptoRow : OpenClaim := { program := "ytjiaedckecfjbaadoor", sum := "b3221b7a861b0cc65b2b0845d451901e2207d1ddef6b176c9bfb96d94b1f1b9f", func := "quern/quernlaw22.CodeNames", spec := "codeNames", unfollowed := true, recurses := true, named := ["quern/lex.words", "quern/lex.signs"], apart := false, laid := [("quern/lex.words", laid_quern_lex_words), ("quern/lex.signs", laid_quern_lex_signs)], narrowed := true }
def CodeNamesUptoSaid : Prop := codeNamesUptoRow.holds Tryd.pinned (OpenSpec.upto codeNamesSpec)

/-- 'quernlaw22.CodePlaces', WHERE WHAT IT READS IS OF BULK AT MOST 1048576: true; the input reads as it did. -/
def codePlacesUptoRow : OpenClaim := { program := "ytjiaedckecfjbaadoor", sum := "b3221b7a861b0cc65b2b0845d451901e2207d1ddef6b176c9bfb96d94b1f1b9f", func := "quern/quernlaw22.CodePlaces", spec := "codePlaces", unfollowed := true, recurses := true, named := ["quern/lex.words", "quern/lex.signs"], apart := false, laid := [("quern/lex.words", laid_quern_lex_words), ("quern/lex.signs", laid_quern_lex_signs)], narrowed := true }
def CodePlacesUptoSaid : Prop := codePlacesUptoRow.holds Tryd.pinned (OpenSpec.upto codePlacesSpec)

/-- 'quernlaw22.CodeFlip', WHERE WHAT IT READS IS OF BULK AT MOST 1048576: true; the input reads as it did. -/
def codeFlipUptoRow : OpenClaim := { program := "ytjiaedckecfjbaadoor", sum := "b3221b7a861b0cc65b2b0845d451901e2207d1ddef6b176c9bfb96d94b1f1b9f", func := "quern/quernlaw22.CodeFlip", spec := "codeFlip", unfollowed := true, recurses := true, named := ["quern/lex.words", "quern/lex.signs"], apart := false, laid := [("quern/lex.words", laid_quern_lex_words), ("quern/lex.signs", laid_quern_lex_signs)], narrowed := true }
def CodeFlipUptoSaid : Prop := codeFlipUptoRow.holds Tryd.pinned (OpenSpec.upto codeFlipSpec)

end Rows
end Go.Proofs.YtjiaedckecfjbaaDoor
