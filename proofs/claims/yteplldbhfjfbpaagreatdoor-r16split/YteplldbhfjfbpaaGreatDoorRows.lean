/-
  NARROWER THAN 'FOR EVERY INPUT', by the rows' own cells (each row's printed sentence says how): R16Depth: laid · R16Words: laid · R16Heap: laid · R16Errors: laid · R16Split: laid · R16Rests: laid.
  DERIVED. THE GIVEN ROWS OF THIS SEAT. 6 by the template 'for every input the law returns true; each argument reads behind the call as it read before'; 0 by the template 'total and deterministic' (their statements: YteplldbhfjfbpaaGreatDoorTotals.lean).
  GIVEN WITH THE SEED: the statements are not yours to turn. If you find one false, say at which input.
  Laid BY PROGRAM, IN A SANDBOX (cutbox-rows.mjs): the forced cells as the released guide's own fill.sh prints them over the translation a3e5a69620807a06… (all of the seat's roots in one cut). By AI agents, Wed Nov 11 2026. No macro, syntax, notation, axiom, sorry.
-/
import Derived.Test.YteplldbhfjfbpaaGreatDoorChecked
import GoSem.Claim
import GoSem.ClaimJoined
import GoSem.ClaimMapViews
import Derived.JoinedTies
import Derived.KernelRfl
namespace Go.Proofs.YteplldbhfjfbpaaGreatDoor
/- THE CELL 'sum', in the pinned program and in every row, IS THE sha256 OF THE DUMP (.gsa) THAT YteplldbhfjfbpaaGreatDoorProg.lean LOADS. Nothing in Lean hashes anything: it is a label: what it is worth is what the hold of that sum in a sandbox is worth. -/
noncomputable def Tryz.pinned : Pinned := { name := "yteplldbhfjfbpaagreatdoor", sum := "a3e5a69620807a068efe8b4a7f6c3d2f6adfd293bfe85ee3477be92d222324f5", checked := Tryz.checked }
namespace Rows
def none {H : Type} : Left H := { results := [], args := [] }

/- WHAT THE LISTED PACKAGE-LEVEL VARIABLES READ AS WHEN THE CALL BEGINS. Each datum BY PROGRAM (the guide's laid-datum.mjs) off the statement by which the dump's own 'gosem.cut.vars' lays the variable. In a bare row this is a premise. The card (YteplldbhfjfbpaaGreatDoorCards.lean) ties it to the program's text. -/
def laid_quern_lex_words {H : Type} : DataW H := .agg [.lit (.string [102, 117, 110, 99]), .lit (.string [118, 97, 114]), .lit (.string [105, 102]), .lit (.string [101, 108, 115, 101]), .lit (.string [102, 111, 114]), .lit (.string [114, 101, 116, 117, 114, 110]), .lit (.string [98, 114, 101, 97, 107]), .lit (.string [99, 111, 110, 116, 105, 110, 117, 101]), .lit (.string [112, 114, 105, 110, 116]), .lit (.string [112, 97, 110, 105, 99]), .lit (.string [105, 110, 112, 117, 116]), .lit (.string [108, 101, 110]), .lit (.string [109, 97, 107, 101]), .lit (.string [105, 110, 116]), .lit (.string [98, 111, 111, 108]), .lit (.string [116, 114, 117, 101]), .lit (.string [102, 97, 108, 115, 101]), .lit (.string [110, 105, 108])]
def laid_quern_lex_signs {H : Type} : DataW H := .agg [.lit (.string [40]), .lit (.string [41]), .lit (.string [123]), .lit (.string [125]), .lit (.string [91]), .lit (.string [93]), .lit (.string [44]), .lit (.string [59]), .lit (.string [61]), .lit (.string [61, 61]), .lit (.string [33, 61]), .lit (.string [60]), .lit (.string [60, 61]), .lit (.string [62]), .lit (.string [62, 61]), .lit (.string [43]), .lit (.string [45]), .lit (.string [42]), .lit (.string [47]), .lit (.string [37]), .lit (.string [38]), .lit (.string [124]), .lit (.string [94]), .lit (.string [38, 94]), .lit (.string [60, 60]), .lit (.string [62, 62]), .lit (.string [38, 38]), .lit (.string [124, 124]), .lit (.string [33])]

/-- 'quernlaw21.R16Depth': WHATEVER THE INPUT: true; the input reads as it did. -/
def r16DepthSpec : ChangeSpec := { name := "r16Depth", fn := fun _ => fun
  | [d1, d2, d3] => { results := [.lit (.bool true)], args := [d1, d2, d3] }
  | _ => none }
def r16DepthRow : OpenClaim := { program := "yteplldbhfjfbpaagreatdoor", sum := "a3e5a69620807a068efe8b4a7f6c3d2f6adfd293bfe85ee3477be92d222324f5", func := "quern/quernlaw21.R16Depth", spec := "r16Depth", unfollowed := true, recurses := true, named := ["quern/lex.words", "quern/lex.signs"], apart := false, laid := [("quern/lex.words", laid_quern_lex_words), ("quern/lex.signs", laid_quern_lex_signs)] }
def R16DepthSaid : Prop := r16DepthRow.holds Tryz.pinned (OpenSpec.ofChange r16DepthSpec)

/-- ITS FALSE NEIGHBOUR: 'it returns false'. Refute it at one input. -/
def r16DepthWrong : ChangeSpec := { name := "r16Depth", fn := fun _ => fun
  | [d1, d2, d3] => { results := [.lit (.bool false)], args := [d1, d2, d3] }
  | _ => none }
def R16DepthWrongFalsely : Prop := r16DepthRow.holds Tryz.pinned (OpenSpec.ofChange r16DepthWrong)

/-- 'quernlaw21.R16Words': WHATEVER THE INPUT: true; the input reads as it did. -/
def r16WordsSpec : ChangeSpec := { name := "r16Words", fn := fun _ => fun
  | [d1, d2, d3, d4] => { results := [.lit (.bool true)], args := [d1, d2, d3, d4] }
  | _ => none }
def r16WordsRow : OpenClaim := { program := "yteplldbhfjfbpaagreatdoor", sum := "a3e5a69620807a068efe8b4a7f6c3d2f6adfd293bfe85ee3477be92d222324f5", func := "quern/quernlaw21.R16Words", spec := "r16Words", unfollowed := true, recurses := true, named := ["quern/lex.words", "quern/lex.signs"], apart := false, laid := [("quern/lex.words", laid_quern_lex_words), ("quern/lex.signs", laid_quern_lex_signs)] }
def R16WordsSaid : Prop := r16WordsRow.holds Tryz.pinned (OpenSpec.ofChange r16WordsSpec)

/-- ITS FALSE NEIGHBOUR: 'it returns false'. Refute it at one input. -/
def r16WordsWrong : ChangeSpec := { name := "r16Words", fn := fun _ => fun
  | [d1, d2, d3, d4] => { results := [.lit (.bool false)], args := [d1, d2, d3, d4] }
  | _ => none }
def R16WordsWrongFalsely : Prop := r16WordsRow.holds Tryz.pinned (OpenSpec.ofChange r16WordsWrong)

/-- 'quernlaw21.R16Heap': WHATEVER THE INPUT: true; the input reads as it did. -/
def r16HeapSpec : ChangeSpec := { name := "r16Heap", fn := fun _ => fun
  | [d1, d2] => { results := [.lit (.bool true)], args := [d1, d2] }
  | _ => none }
def r16HeapRow : OpenClaim := { program := "yteplldbhfjfbpaagreatdoor", sum := "a3e5a69620807a068efe8b4a7f6c3d2f6adfd293bfe85ee3477be92d222324f5", func := "quern/quernlaw21.R16Heap", spec := "r16Heap", unfollowed := true, recurses := true, named := ["quern/lex.words", "quern/lex.signs"], apart := false, laid := [("quern/lex.words", laid_quern_lex_words), ("quern/lex.signs", laid_quern_lex_signs)] }
def R16HeapSaid : Prop := r16HeapRow.holds Tryz.pinned (OpenSpec.ofChange r16HeapSpec)

/-- ITS FALSE NEIGHBOUR: 'it returns false'. Refute it at one input. -/
def r16HeapWrong : ChangeSpec := { name := "r16Heap", fn := fun _ => fun
  | [d1, d2] => { results := [.lit (.bool false)], args := [d1, d2] }
  | _ => none }
def R16HeapWrongFalsely : Prop := r16HeapRow.holds Tryz.pinned (OpenSpec.ofChange r16HeapWrong)

/-- 'quernlaw21.R16Errors': WHATEVER THE INPUT: true; the input reads as it did. -/
def r16ErrorsSpec : ChangeSpec := { name := "r16Errors", fn := fun _ => fun
  | [d1, d2, d3] => { results := [.lit (.bool true)], args := [d1, d2, d3] }
  | _ => none }
def r16ErrorsRow : OpenClaim := { program := "yteplldbhfjfbpaagreatdoor", sum := "a3e5a69620807a068efe8b4a7f6c3d2f6adfd293bfe85ee3477be92d222324f5", func := "quern/quernlaw21.R16Errors", spec := "r16Errors", unfollowed := true, recurses := true, named := ["quern/lex.words", "quern/lex.signs"], apart := false, laid := [("quern/lex.words", laid_quern_lex_words), ("quern/lex.signs", laid_quern_lex_signs)] }
def R16ErrorsSaid : Prop := r16ErrorsRow.holds Tryz.pinned (OpenSpec.ofChange r16ErrorsSpec)

/-- ITS FALSE NEIGHBOUR: 'it returns false'. Refute it at one input. -/
def r16ErrorsWrong : ChangeSpec := { name := "r16Errors", fn := fun _ => fun
  | [d1, d2, d3] => { results := [.lit (.bool false)], args := [d1, d2, d3] }
  | _ => none }
def R16ErrorsWrongFalsely : Prop := r16ErrorsRow.holds Tryz.pinned (OpenSpec.ofChange r16ErrorsWrong)

/-- 'quernlaw21.R16Split': WHATEVER THE INPUT: true; the input reads as it did. -/
def r16SplitSpec : ChangeSpec := { name := "r16Split", fn := fun _ => fun
  | [d1, d2, d3, d4, d5] => { results := [.lit (.bool true)], args := [d1, d2, d3, d4, d5] }
  | _ => none }
def r16SplitRow : OpenClaim := { program := "yteplldbhfjfbpaagreatdoor", sum := "a3e5a69620807a068efe8b4a7f6c3d2f6adfd293bfe85ee3477be92d222324f5", func := "quern/quernlaw21.R16Split", spec := "r16Split", unfollowed := true, recurses := true, named := ["quern/lex.words", "quern/lex.signs"], apart := false, laid := [("quern/lex.words", laid_quern_lex_words), ("quern/lex.signs", laid_quern_lex_signs)] }
def R16SplitSaid : Prop := r16SplitRow.holds Tryz.pinned (OpenSpec.ofChange r16SplitSpec)

/-- ITS FALSE NEIGHBOUR: 'it returns false'. Refute it at one input. -/
def r16SplitWrong : ChangeSpec := { name := "r16Split", fn := fun _ => fun
  | [d1, d2, d3, d4, d5] => { results := [.lit (.bool false)], args := [d1, d2, d3, d4, d5] }
  | _ => none }
def R16SplitWrongFalsely : Prop := r16SplitRow.holds Tryz.pinned (OpenSpec.ofChange r16SplitWrong)

/-- 'quernlaw21.R16Rests': WHATEVER THE INPUT: true; the input reads as it did. -/
def r16RestsSpec : ChangeSpec := { name := "r16Rests", fn := fun _ => fun
  | [d1, d2] => { results := [.lit (.bool true)], args := [d1, d2] }
  | _ => none }
def r16RestsRow : OpenClaim := { program := "yteplldbhfjfbpaagreatdoor", sum := "a3e5a69620807a068efe8b4a7f6c3d2f6adfd293bfe85ee3477be92d222324f5", func := "quern/quernlaw21.R16Rests", spec := "r16Rests", unfollowed := true, recurses := true, named := ["quern/lex.words", "quern/lex.signs"], apart := false, laid := [("quern/lex.words", laid_quern_lex_words), ("quern/lex.signs", laid_quern_lex_signs)] }
def R16RestsSaid : Prop := r16RestsRow.holds Tryz.pinned (OpenSpec.ofChange r16RestsSpec)

/-- ITS FALSE NEIGHBOUR: 'it returns false'. Refute it at one input. -/
def r16RestsWrong : ChangeSpec := { name := "r16Rests", fn := fun _ => fun
  | [d1, d2] => { results := [.lit (.bool false)], args := [d1, d2] }
  | _ => none }
def R16RestsWrongFalsely : Prop := r16RestsRow.holds Tryz.pinned (OpenSpec.ofChange r16RestsWrong)

/- THE SECOND FORM. 'bulk': how many values and letters a reading holds, each counted each time it is reached (what is shared counts as often as it is met; a slice's spare places count too). A statement '..UptoSaid' is the law's where the arguments, and the package variables that the reading takes, are together of bulk at most 1048576: NARROWER than '..Said'. Prove '..Said' where nothing that the law and all that it calls make is longer than what came in: it says more and counts as full. Else prove '..UptoSaid'. A law counts once. -/
mutual
def uptoBulk {H : Type} : DataW H → Nat
  | .lit (.string bytes) => bytes.length + 1
  | .lit _ => 1
  | .nil => 1
  | .ptr d => uptoBulk d + 1
  | .slice elems spare => uptoBulkAll elems + uptoBulkAll spare + 1
  | .agg parts => uptoBulkAll parts + 1
  | .iface _ d => uptoBulk d + 1
  | .map entries => uptoBulkEntries entries + 1
  | .held _ => 1
def uptoBulkAll {H : Type} : List (DataW H) → Nat
  | [] => 0
  | d :: r => uptoBulk d + uptoBulkAll r
def uptoBulkEntries {H : Type} : List (Lit × DataW H) → Nat
  | [] => 0
  | x :: r => uptoBulkEntry x + uptoBulkEntries r
def uptoBulkEntry {H : Type} : Lit × DataW H → Nat
  | (.string bytes, d) => bytes.length + uptoBulk d + 1
  | (_, d) => uptoBulk d + 1
 end
def uptoSmall : (H : Type) → List (DataW H) → Bool := fun _ ds => decide (uptoBulkAll ds ≤ 1048576)
def OpenSpec.upto (s : _root_.Go.ChangeSpec) : _root_.Go.OpenSpec := { _root_.Go.OpenSpec.ofChange s with cond := some uptoSmall }

/-- 'quernlaw21.R16Depth', WHERE WHAT IT READS IS OF BULK AT MOST 1048576: true; the input reads as it did. -/
def r16DepthUptoRow : OpenClaim := { program := "yteplldbhfjfbpaagreatdoor", sum := "a3e5a69620807a068efe8b4a7f6c3d2f6adfd293bfe85ee3477be92d222324f5", func := "quern/quernlaw21.R16Depth", spec := "r16Depth", unfollowed := true, recurses := true, named := ["quern/lex.words", "quern/lex.signs"], apart := false, laid := [("quern/lex.words", laid_quern_lex_words), ("quern/lex.signs", laid_quern_lex_signs)], narrowed := true }
def R16DepthUptoSaid : Prop := r16DepthUptoRow.holds Tryz.pinned (OpenSpec.upto r16DepthSpec)

/-- 'quernlaw21.R16Words', WHERE WHAT IT READS IS OF BULK AT MOST 1048576: true; the input reads as it did. -/
def r16WordsUptoRow : OpenClaim := { program := "yteplldbhfjfbpaagreatdoor", sum := "a3e5a69620807a068efe8b4a7f6c3d2f6adfd293bfe85ee3477be92d222324f5", func := "quern/quernlaw21.R16Words", spec := "r16Words", unfollowed := true, recurses := true, named := ["quern/lex.words", "quern/lex.signs"], apart := false, laid := [("quern/lex.words", laid_quern_lex_words), ("quern/lex.signs", laid_quern_lex_signs)], narrowed := true }
def R16WordsUptoSaid : Prop := r16WordsUptoRow.holds Tryz.pinned (OpenSpec.upto r16WordsSpec)

/-- 'quernlaw21.R16Heap', WHERE WHAT IT READS IS OF BULK AT MOST 1048576: true; the input reads as it did. -/
def r16HeapUptoRow : OpenClaim := { program := "yteplldbhfjfbpaagreatdoor", sum := "a3e5a69620807a068efe8b4a7f6c3d2f6adfd293bfe85ee3477be92d222324f5", func := "quern/quernlaw21.R16Heap", spec := "r16Heap", unfollowed := true, recurses := true, named := ["quern/lex.words", "quern/lex.signs"], apart := false, laid := [("quern/lex.words", laid_quern_lex_words), ("quern/lex.signs", laid_quern_lex_signs)], narrowed := true }
def R16HeapUptoSaid : Prop := r16HeapUptoRow.holds Tryz.pinned (OpenSpec.upto r16HeapSpec)

/-- 'quernlaw21.R16Errors', WHERE WHAT IT READS IS OF BULK AT MOST 1048576: true; the input reads as it did. -/
def r16ErrorsUptoRow : OpenClaim := { program := "yteplldbhfjfbpaagreatdoor", sum := "a3e5a69620807a068efe8b4a7f6c3d2f6adfd293bfe85ee3477be92d222324f5", func := "quern/quernlaw21.R16Errors", spec := "r16Errors", unfollowed := true, recurses := true, named := ["quern/lex.words", "quern/lex.signs"], apart := false, laid := [("quern/lex.words", laid_quern_lex_words), ("quern/lex.signs", laid_quern_lex_signs)], narrowed := true }
def R16ErrorsUptoSaid : Prop := r16ErrorsUptoRow.holds Tryz.pinned (OpenSpec.upto r16ErrorsSpec)

/-- 'quernlaw21.R16Split', WHERE WHAT IT READS IS OF BULK AT MOST 1048576: true; the input reads as it did. -/
def r16SplitUptoRow : OpenClaim := { program := "yteplldbhfjfbpaagreatdoor", sum := "a3e5a69620807a068efe8b4a7f6c3d2f6adfd293bfe85ee3477be92d222324f5", func := "quern/quernlaw21.R16Split", spec := "r16Split", unfollowed := true, recurses := true, named := ["quern/lex.words", "quern/lex.signs"], apart := false, laid := [("quern/lex.words", laid_quern_lex_words), ("quern/lex.signs", laid_quern_lex_signs)], narrowed := true }
def R16SplitUptoSaid : Prop := r16SplitUptoRow.holds Tryz.pinned (OpenSpec.upto r16SplitSpec)

/-- 'quernlaw21.R16Rests', WHERE WHAT IT READS IS OF BULK AT MOST 1048576: true; the input reads as it did. -/
def r16RestsUptoRow : OpenClaim := { program := "yteplldbhfjfbpaagreatdoor", sum := "a3e5a69620807a068efe8b4a7f6c3d2f6adfd293bfe85ee3477be92d222324f5", func := "quern/quernlaw21.R16Rests", spec := "r16Rests", unfollowed := true, recurses := true, named := ["quern/lex.words", "quern/lex.signs"], apart := false, laid := [("quern/lex.words", laid_quern_lex_words), ("quern/lex.signs", laid_quern_lex_signs)], narrowed := true }
def R16RestsUptoSaid : Prop := r16RestsUptoRow.holds Tryz.pinned (OpenSpec.upto r16RestsSpec)

end Rows
end Go.Proofs.YteplldbhfjfbpaaGreatDoor
