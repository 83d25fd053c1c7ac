/-
  NARROWER THAN 'FOR EVERY INPUT', by the rows' own cells (each row's printed sentence says how): SSARunSplit: laid · SSARunGoes: laid · SSARunDeep: laid · SSARunTurns: laid · SSARunBoth: laid · SSARunInput: laid.
  DERIVED. THE GIVEN ROWS OF THIS SEAT. 6 by the template 'for every input the law returns true; each argument reads behind the call as it read before'; 0 by the template 'total and deterministic' (their statements: YtfbkopjncmkbiaaGreatDoorTotals.lean).
  GIVEN WITH THE SEED: the statements are not yours to turn. If you find one false, say at which input.
  Laid BY PROGRAM, IN A SANDBOX (cutbox-rows.mjs): the forced cells as the released guide's own fill.sh prints them over the translation 957004e4f782c69b… (all of the seat's roots in one cut). By AI agents, Wed Nov 11 2026. No macro, syntax, notation, axiom, sorry.
-/
import Derived.Test.YtfbkopjncmkbiaaGreatDoorChecked
import GoSem.Claim
import GoSem.ClaimJoined
import GoSem.ClaimMapViews
import Derived.JoinedTies
import Derived.KernelRfl
namespace Go.Proofs.YtfbkopjncmkbiaaGreatDoor
/- THE CELL 'sum', in the pinned program and in every row, IS THE sha256 OF THE DUMP (.gsa) THAT YtfbkopjncmkbiaaGreatDoorProg.lean LOADS. Nothing in Lean hashes anything: it is a label: what it is worth is what the hold of that sum in a sandbox is worth. -/
noncomputable def Tryz.pinned : Pinned := { name := "ytfbkopjncmkbiaagreatdoor", sum := "957004e4f782c69b23d206d67cce79dfd2bee856bd2c3136e63ae6d1d96c1184", checked := Tryz.checked }
namespace Rows
def none {H : Type} : Left H := { results := [], args := [] }

/- WHAT THE LISTED PACKAGE-LEVEL VARIABLES READ AS WHEN THE CALL BEGINS. Each datum BY PROGRAM (the guide's laid-datum.mjs) off the statement by which the dump's own 'gosem.cut.vars' lays the variable. In a bare row this is a premise. The card (YtfbkopjncmkbiaaGreatDoorCards.lean) ties it to the program's text. -/
def laid_quern_lex_words {H : Type} : DataW H := .agg [.lit (.string [102, 117, 110, 99]), .lit (.string [118, 97, 114]), .lit (.string [105, 102]), .lit (.string [101, 108, 115, 101]), .lit (.string [102, 111, 114]), .lit (.string [114, 101, 116, 117, 114, 110]), .lit (.string [98, 114, 101, 97, 107]), .lit (.string [99, 111, 110, 116, 105, 110, 117, 101]), .lit (.string [112, 114, 105, 110, 116]), .lit (.string [112, 97, 110, 105, 99]), .lit (.string [105, 110, 112, 117, 116]), .lit (.string [108, 101, 110]), .lit (.string [109, 97, 107, 101]), .lit (.string [105, 110, 116]), .lit (.string [98, 111, 111, 108]), .lit (.string [116, 114, 117, 101]), .lit (.string [102, 97, 108, 115, 101]), .lit (.string [110, 105, 108])]
def laid_quern_lex_signs {H : Type} : DataW H := .agg [.lit (.string [40]), .lit (.string [41]), .lit (.string [123]), .lit (.string [125]), .lit (.string [91]), .lit (.string [93]), .lit (.string [44]), .lit (.string [59]), .lit (.string [61]), .lit (.string [61, 61]), .lit (.string [33, 61]), .lit (.string [60]), .lit (.string [60, 61]), .lit (.string [62]), .lit (.string [62, 61]), .lit (.string [43]), .lit (.string [45]), .lit (.string [42]), .lit (.string [47]), .lit (.string [37]), .lit (.string [38]), .lit (.string [124]), .lit (.string [94]), .lit (.string [38, 94]), .lit (.string [60, 60]), .lit (.string [62, 62]), .lit (.string [38, 38]), .lit (.string [124, 124]), .lit (.string [33])]

/-- 'quernlaw10.SSARunSplit': WHATEVER THE INPUT: true; the input reads as it did. -/
def sSARunSplitSpec : ChangeSpec := { name := "sSARunSplit", fn := fun _ => fun
  | [d1, d2, d3, d4] => { results := [.lit (.bool true)], args := [d1, d2, d3, d4] }
  | _ => none }
def sSARunSplitRow : OpenClaim := { program := "ytfbkopjncmkbiaagreatdoor", sum := "957004e4f782c69b23d206d67cce79dfd2bee856bd2c3136e63ae6d1d96c1184", func := "quern/quernlaw10.SSARunSplit", spec := "sSARunSplit", unfollowed := true, recurses := true, named := ["quern/lex.words", "quern/lex.signs"], apart := false, laid := [("quern/lex.words", laid_quern_lex_words), ("quern/lex.signs", laid_quern_lex_signs)] }
def SSARunSplitSaid : Prop := sSARunSplitRow.holds Tryz.pinned (OpenSpec.ofChange sSARunSplitSpec)

/-- ITS FALSE NEIGHBOUR: 'it returns false'. Refute it at one input. -/
def sSARunSplitWrong : ChangeSpec := { name := "sSARunSplit", fn := fun _ => fun
  | [d1, d2, d3, d4] => { results := [.lit (.bool false)], args := [d1, d2, d3, d4] }
  | _ => none }
def SSARunSplitWrongFalsely : Prop := sSARunSplitRow.holds Tryz.pinned (OpenSpec.ofChange sSARunSplitWrong)

/-- 'quernlaw10.SSARunGoes': WHATEVER THE INPUT: true; the input reads as it did. -/
def sSARunGoesSpec : ChangeSpec := { name := "sSARunGoes", fn := fun _ => fun
  | [d1, d2, d3] => { results := [.lit (.bool true)], args := [d1, d2, d3] }
  | _ => none }
def sSARunGoesRow : OpenClaim := { program := "ytfbkopjncmkbiaagreatdoor", sum := "957004e4f782c69b23d206d67cce79dfd2bee856bd2c3136e63ae6d1d96c1184", func := "quern/quernlaw10.SSARunGoes", spec := "sSARunGoes", unfollowed := true, recurses := true, named := ["quern/lex.words", "quern/lex.signs"], apart := false, laid := [("quern/lex.words", laid_quern_lex_words), ("quern/lex.signs", laid_quern_lex_signs)] }
def SSARunGoesSaid : Prop := sSARunGoesRow.holds Tryz.pinned (OpenSpec.ofChange sSARunGoesSpec)

/-- ITS FALSE NEIGHBOUR: 'it returns false'. Refute it at one input. -/
def sSARunGoesWrong : ChangeSpec := { name := "sSARunGoes", fn := fun _ => fun
  | [d1, d2, d3] => { results := [.lit (.bool false)], args := [d1, d2, d3] }
  | _ => none }
def SSARunGoesWrongFalsely : Prop := sSARunGoesRow.holds Tryz.pinned (OpenSpec.ofChange sSARunGoesWrong)

/-- 'quernlaw10.SSARunDeep': WHATEVER THE INPUT: true; the input reads as it did. -/
def sSARunDeepSpec : ChangeSpec := { name := "sSARunDeep", fn := fun _ => fun
  | [d] => { results := [.lit (.bool true)], args := [d] }
  | _ => none }
def sSARunDeepRow : OpenClaim := { program := "ytfbkopjncmkbiaagreatdoor", sum := "957004e4f782c69b23d206d67cce79dfd2bee856bd2c3136e63ae6d1d96c1184", func := "quern/quernlaw10.SSARunDeep", spec := "sSARunDeep", unfollowed := true, recurses := true, named := ["quern/lex.words", "quern/lex.signs"], apart := false, laid := [("quern/lex.words", laid_quern_lex_words), ("quern/lex.signs", laid_quern_lex_signs)] }
def SSARunDeepSaid : Prop := sSARunDeepRow.holds Tryz.pinned (OpenSpec.ofChange sSARunDeepSpec)

/-- ITS FALSE NEIGHBOUR: 'it returns false'. Refute it at one input. -/
def sSARunDeepWrong : ChangeSpec := { name := "sSARunDeep", fn := fun _ => fun
  | [d] => { results := [.lit (.bool false)], args := [d] }
  | _ => none }
def SSARunDeepWrongFalsely : Prop := sSARunDeepRow.holds Tryz.pinned (OpenSpec.ofChange sSARunDeepWrong)

/-- 'quernlaw10.SSARunTurns': WHATEVER THE INPUT: true; the input reads as it did. -/
def sSARunTurnsSpec : ChangeSpec := { name := "sSARunTurns", fn := fun _ => fun
  | [d1, d2, d3] => { results := [.lit (.bool true)], args := [d1, d2, d3] }
  | _ => none }
def sSARunTurnsRow : OpenClaim := { program := "ytfbkopjncmkbiaagreatdoor", sum := "957004e4f782c69b23d206d67cce79dfd2bee856bd2c3136e63ae6d1d96c1184", func := "quern/quernlaw10.SSARunTurns", spec := "sSARunTurns", unfollowed := true, recurses := true, named := ["quern/lex.words", "quern/lex.signs"], apart := false, laid := [("quern/lex.words", laid_quern_lex_words), ("quern/lex.signs", laid_quern_lex_signs)] }
def SSARunTurnsSaid : Prop := sSARunTurnsRow.holds Tryz.pinned (OpenSpec.ofChange sSARunTurnsSpec)

/-- ITS FALSE NEIGHBOUR: 'it returns false'. Refute it at one input. -/
def sSARunTurnsWrong : ChangeSpec := { name := "sSARunTurns", fn := fun _ => fun
  | [d1, d2, d3] => { results := [.lit (.bool false)], args := [d1, d2, d3] }
  | _ => none }
def SSARunTurnsWrongFalsely : Prop := sSARunTurnsRow.holds Tryz.pinned (OpenSpec.ofChange sSARunTurnsWrong)

/-- 'quernlaw10.SSARunBoth': WHATEVER THE INPUT: true; the input reads as it did. -/
def sSARunBothSpec : ChangeSpec := { name := "sSARunBoth", fn := fun _ => fun
  | [d1, d2, d3] => { results := [.lit (.bool true)], args := [d1, d2, d3] }
  | _ => none }
def sSARunBothRow : OpenClaim := { program := "ytfbkopjncmkbiaagreatdoor", sum := "957004e4f782c69b23d206d67cce79dfd2bee856bd2c3136e63ae6d1d96c1184", func := "quern/quernlaw10.SSARunBoth", spec := "sSARunBoth", unfollowed := true, recurses := true, named := ["quern/lex.words", "quern/lex.signs"], apart := false, laid := [("quern/lex.words", laid_quern_lex_words), ("quern/lex.signs", laid_quern_lex_signs)] }
def SSARunBothSaid : Prop := sSARunBothRow.holds Tryz.pinned (OpenSpec.ofChange sSARunBothSpec)

/-- ITS FALSE NEIGHBOUR: 'it returns false'. Refute it at one input. -/
def sSARunBothWrong : ChangeSpec := { name := "sSARunBoth", fn := fun _ => fun
  | [d1, d2, d3] => { results := [.lit (.bool false)], args := [d1, d2, d3] }
  | _ => none }
def SSARunBothWrongFalsely : Prop := sSARunBothRow.holds Tryz.pinned (OpenSpec.ofChange sSARunBothWrong)

/-- 'quernlaw10.SSARunInput': WHATEVER THE INPUT: true; the input reads as it did. -/
def sSARunInputSpec : ChangeSpec := { name := "sSARunInput", fn := fun _ => fun
  | [d] => { results := [.lit (.bool true)], args := [d] }
  | _ => none }
def sSARunInputRow : OpenClaim := { program := "ytfbkopjncmkbiaagreatdoor", sum := "957004e4f782c69b23d206d67cce79dfd2bee856bd2c3136e63ae6d1d96c1184", func := "quern/quernlaw10.SSARunInput", spec := "sSARunInput", unfollowed := true, recurses := true, named := ["quern/lex.words", "quern/lex.signs"], apart := false, laid := [("quern/lex.words", laid_quern_lex_words), ("quern/lex.signs", laid_quern_lex_signs)] }
def SSARunInputSaid : Prop := sSARunInputRow.holds Tryz.pinned (OpenSpec.ofChange sSARunInputSpec)

/-- ITS FALSE NEIGHBOUR: 'it returns false'. Refute it at one input. -/
def sSARunInputWrong : ChangeSpec := { name := "sSARunInput", fn := fun _ => fun
  | [d] => { results := [.lit (.bool false)], args := [d] }
  | _ => none }
def SSARunInputWrongFalsely : Prop := sSARunInputRow.holds Tryz.pinned (OpenSpec.ofChange sSARunInputWrong)

/- THE SECOND FORM. 'bulk': how many values and letters a reading holds, each counted each time it is reached (what is shared counts as often as it is met; a slice's spare places count too). A statement '..UptoSaid' is the law's where the arguments, and the package variables that the reading takes, are together of bulk at most 1048576: NARROWER than '..Said'. Prove '..Said' where nothing that the law and all that it calls make is longer than what came in: it says more and counts as full. Else prove '..UptoSaid'. A law counts once. -/
mutual
def uptoBulk {H : Type} : DataW H → Nat
  | .lit (.string bytes) => bytes.length + 1
  | .lit _ => 1
  | .nil => 1
  | .ptr d => uptoBulk d + 1
  | .slice elems spare => uptoBulkAll elems + uptoBulkAll spare + 1
  | .agg parts => uptoBulkAll parts + 1
  | .iface _ d => uptoBulk d + 1
  | .map entries => uptoBulkEntries entries + 1
  | .held _ => 1
def uptoBulkAll {H : Type} : List (DataW H) → Nat
  | [] => 0
  | d :: r => uptoBulk d + uptoBulkAll r
def uptoBulkEntries {H : Type} : List (Lit × DataW H) → Nat
  | [] => 0
  | x :: r => uptoBulkEntry x + uptoBulkEntries r
def uptoBulkEntry {H : Type} : Lit × DataW H → Nat
  | (.string bytes, d) => bytes.length + uptoBulk d + 1
  | (_, d) => uptoBulk d + 1
 end
def uptoSmall : (H : Type) → List (DataW H) → Bool := fun _ ds => decide (uptoBulkAll ds ≤ 1048576)
def OpenSpec.upto (s : _root_.Go.ChangeSpec) : _root_.Go.OpenSpec := { _root_.Go.OpenSpec.ofChange s with cond := some uptoSmall }

/-- 'quernlaw10.SSARunSplit', WHERE WHAT IT READS IS OF BULK AT MOST 1048576: true; the input reads as it did. -/
def sSARunSplitUptoRow : OpenClaim := { program := "ytfbkopjncmkbiaagreatdoor", sum := "957004e4f782c69b23d206d67cce79dfd2bee856bd2c3136e63ae6d1d96c1184", func := "quern/quernlaw10.SSARunSplit", spec := "sSARunSplit", unfollowed := true, recurses := true, named := ["quern/lex.words", "quern/lex.signs"], apart := false, laid := [("quern/lex.words", laid_quern_lex_words), ("quern/lex.signs", laid_quern_lex_signs)], narrowed := true }
def SSARunSplitUptoSaid : Prop := sSARunSplitUptoRow.holds Tryz.pinned (OpenSpec.upto sSARunSplitSpec)

/-- 'quernlaw10.SSARunGoes', WHERE WHAT IT READS IS OF BULK AT MOST 1048576: true; the input reads as it did. -/
def sSARunGoesUptoRow : OpenClaim := { program := "ytfbkopjncmkbiaagreatdoor", sum := "957004e4f782c69b23d206d67cce79dfd2bee856bd2c3136e63ae6d1d96c1184", func := "quern/quernlaw10.SSARunGoes", spec := "sSARunGoes", unfollowed := true, recurses := true, named := ["quern/lex.words", "quern/lex.signs"], apart := false, laid := [("quern/lex.words", laid_quern_lex_words), ("quern/lex.signs", laid_quern_lex_signs)], narrowed := true }
def SSARunGoesUptoSaid : Prop := sSARunGoesUptoRow.holds Tryz.pinned (OpenSpec.upto sSARunGoesSpec)

/-- 'quernlaw10.SSARunDeep', WHERE WHAT IT READS IS OF BULK AT MOST 1048576: true; the input reads as it did. -/
def sSARunDeepUptoRow : OpenClaim := { program := "ytfbkopjncmkbiaagreatdoor", sum := "957004e4f782c69b23d206d67cce79dfd2bee856bd2c3136e63ae6d1d96c1184", func := "quern/quernlaw10.SSARunDeep", spec := "sSARunDeep", unfollowed := true, recurses := true, named := ["quern/lex.words", "quern/lex.signs"], apart := false, laid := [("quern/lex.words", laid_quern_lex_words), ("quern/lex.signs", laid_quern_lex_signs)], narrowed := true }
def SSARunDeepUptoSaid : Prop := sSARunDeepUptoRow.holds Tryz.pinned (OpenSpec.upto sSARunDeepSpec)

/-- 'quernlaw10.SSARunTurns', WHERE WHAT IT READS IS OF BULK AT MOST 1048576: true; the input reads as it did. -/
def sSARunTurnsUptoRow : OpenClaim := { program := "ytfbkopjncmkbiaagreatdoor", sum := "957004e4f782c69b23d206d67cce79dfd2bee856bd2c3136e63ae6d1d96c1184", func := "quern/quernlaw10.SSARunTurns", spec := "sSARunTurns", unfollowed := true, recurses := true, named := ["quern/lex.words", "quern/lex.signs"], apart := false, laid := [("quern/lex.words", laid_quern_lex_words), ("quern/lex.signs", laid_quern_lex_signs)], narrowed := true }
def SSARunTurnsUptoSaid : Prop := sSARunTurnsUptoRow.holds Tryz.pinned (OpenSpec.upto sSARunTurnsSpec)

/-- 'quernlaw10.SSARunBoth', WHERE WHAT IT READS IS OF BULK AT MOST 1048576: true; the input reads as it did. -/
def sSARunBothUptoRow : OpenClaim := { program := "ytfbkopjncmkbiaagreatdoor", sum := "957004e4f782c69b23d206d67cce79dfd2bee856bd2c3136e63ae6d1d96c1184", func := "quern/quernlaw10.SSARunBoth", spec := "sSARunBoth", unfollowed := true, recurses := true, named := ["quern/lex.words", "quern/lex.signs"], apart := false, laid := [("quern/lex.words", laid_quern_lex_words), ("quern/lex.signs", laid_quern_lex_signs)], narrowed := true }
def SSARunBothUptoSaid : Prop := sSARunBothUptoRow.holds Tryz.pinned (OpenSpec.upto sSARunBothSpec)

/-- 'quernlaw10.SSARunInput', WHERE WHAT IT READS IS OF BULK AT MOST 1048576: true; the input reads as it did. -/
def sSARunInputUptoRow : OpenClaim := { program := "ytfbkopjncmkbiaagreatdoor", sum := "957004e4f782c69b23d206d67cce79dfd2bee856bd2c3136e63ae6d1d96c1184", func := "quern/quernlaw10.SSARunInput", spec := "sSARunInput", unfollowed := true, recurses := true, named := ["quern/lex.words", "quern/lex.signs"], apart := false, laid := [("quern/lex.words", laid_quern_lex_words), ("quern/lex.signs", laid_quern_lex_signs)], narrowed := true }
def SSARunInputUptoSaid : Prop := sSARunInputUptoRow.holds Tryz.pinned (OpenSpec.upto sSARunInputSpec)

end Rows
end Go.Proofs.YtfbkopjncmkbiaaGreatDoor
