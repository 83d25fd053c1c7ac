/-
  NARROWER THAN 'FOR EVERY INPUT', by the rows' own cells (each row's printed sentence says how): R16Grows: laid · R16Check: laid · R16Runs: laid · R16All: laid.
  DERIVED. THE GIVEN ROWS OF THIS SEAT. 4 by the template 'for every input the law returns true; each argument reads behind the call as it read before'; 0 by the template 'total and deterministic' (their statements: YtfofmmkihhnfmaaGreatDoorTotals.lean).
  GIVEN WITH THE SEED: the statements are not yours to turn. If you find one false, say at which input.
  Laid BY PROGRAM, IN A SANDBOX (cutbox-rows.mjs): the forced cells as the released guide's own fill.sh prints them over the translation fce09e36f78cb10e… (all of the seat's roots in one cut). By AI agents, Wed Nov 11 2026. No macro, syntax, notation, axiom, sorry.
-/
import Derived.Test.YtfofmmkihhnfmaaGreatDoorChecked
import GoSem.Claim
import GoSem.ClaimJoined
import GoSem.ClaimMapViews
import Derived.JoinedTies
import Derived.KernelRfl
namespace Go.Proofs.YtfofmmkihhnfmaaGreatDoor
/- THE CELL 'sum', in the pinned program and in every row, IS THE sha256 OF THE DUMP (.gsa) THAT YtfofmmkihhnfmaaGreatDoorProg.lean LOADS. Nothing in Lean hashes anything: it is a label: what it is worth is what the hold of that sum in a sandbox is worth. -/
noncomputable def Tryz.pinned : Pinned := { name := "ytfofmmkihhnfmaagreatdoor", sum := "fce09e36f78cb10eb71fad3eae4681ef3c668594bfc00ddc791695c5a8dd9313", checked := Tryz.checked }
namespace Rows
def none {H : Type} : Left H := { results := [], args := [] }

/- WHAT THE LISTED PACKAGE-LEVEL VARIABLES READ AS WHEN THE CALL BEGINS. Each datum BY PROGRAM (the guide's laid-datum.mjs) off the statement by which the dump's own 'gosem.cut.vars' lays the variable. In a bare row this is a premise. The card (YtfofmmkihhnfmaaGreatDoorCards.lean) ties it to the program's text. -/
def laid_quern_lex_words {H : Type} : DataW H := .agg [.lit (.string [102, 117, 110, 99]), .lit (.string [118, 97, 114]), .lit (.string [105, 102]), .lit (.string [101, 108, 115, 101]), .lit (.string [102, 111, 114]), .lit (.string [114, 101, 116, 117, 114, 110]), .lit (.string [98, 114, 101, 97, 107]), .lit (.string [99, 111, 110, 116, 105, 110, 117, 101]), .lit (.string [112, 114, 105, 110, 116]), .lit (.string [112, 97, 110, 105, 99]), .lit (.string [105, 110, 112, 117, 116]), .lit (.string [108, 101, 110]), .lit (.string [109, 97, 107, 101]), .lit (.string [105, 110, 116]), .lit (.string [98, 111, 111, 108]), .lit (.string [116, 114, 117, 101]), .lit (.string [102, 97, 108, 115, 101]), .lit (.string [110, 105, 108])]
def laid_quern_lex_signs {H : Type} : DataW H := .agg [.lit (.string [40]), .lit (.string [41]), .lit (.string [123]), .lit (.string [125]), .lit (.string [91]), .lit (.string [93]), .lit (.string [44]), .lit (.string [59]), .lit (.string [61]), .lit (.string [61, 61]), .lit (.string [33, 61]), .lit (.string [60]), .lit (.string [60, 61]), .lit (.string [62]), .lit (.string [62, 61]), .lit (.string [43]), .lit (.string [45]), .lit (.string [42]), .lit (.string [47]), .lit (.string [37]), .lit (.string [38]), .lit (.string [124]), .lit (.string [94]), .lit (.string [38, 94]), .lit (.string [60, 60]), .lit (.string [62, 62]), .lit (.string [38, 38]), .lit (.string [124, 124]), .lit (.string [33])]

/-- 'quernlaw21.R16Grows': WHATEVER THE INPUT: true; the input reads as it did. -/
def r16GrowsSpec : ChangeSpec := { name := "r16Grows", fn := fun _ => fun
  | [d1, d2, d3, d4, d5] => { results := [.lit (.bool true)], args := [d1, d2, d3, d4, d5] }
  | _ => none }
def r16GrowsRow : OpenClaim := { program := "ytfofmmkihhnfmaagreatdoor", sum := "fce09e36f78cb10eb71fad3eae4681ef3c668594bfc00ddc791695c5a8dd9313", func := "quern/quernlaw21.R16Grows", spec := "r16Grows", unfollowed := true, recurses := true, named := ["quern/lex.words", "quern/lex.signs"], apart := false, laid := [("quern/lex.words", laid_quern_lex_words), ("quern/lex.signs", laid_quern_lex_signs)] }
def R16GrowsSaid : Prop := r16GrowsRow.holds Tryz.pinned (OpenSpec.ofChange r16GrowsSpec)

/-- ITS FALSE NEIGHBOUR: 'it returns false'. Refute it at one input. -/
def r16GrowsWrong : ChangeSpec := { name := "r16Grows", fn := fun _ => fun
  | [d1, d2, d3, d4, d5] => { results := [.lit (.bool false)], args := [d1, d2, d3, d4, d5] }
  | _ => none }
def R16GrowsWrongFalsely : Prop := r16GrowsRow.holds Tryz.pinned (OpenSpec.ofChange r16GrowsWrong)

/-- 'quernlaw21.R16Check': WHATEVER THE INPUT: true; the input reads as it did. -/
def r16CheckSpec : ChangeSpec := { name := "r16Check", fn := fun _ => fun
  | [d] => { results := [.lit (.bool true)], args := [d] }
  | _ => none }
def r16CheckRow : OpenClaim := { program := "ytfofmmkihhnfmaagreatdoor", sum := "fce09e36f78cb10eb71fad3eae4681ef3c668594bfc00ddc791695c5a8dd9313", func := "quern/quernlaw21.R16Check", spec := "r16Check", unfollowed := true, recurses := true, named := ["quern/lex.words", "quern/lex.signs"], apart := false, laid := [("quern/lex.words", laid_quern_lex_words), ("quern/lex.signs", laid_quern_lex_signs)] }
def R16CheckSaid : Prop := r16CheckRow.holds Tryz.pinned (OpenSpec.ofChange r16CheckSpec)

/-- ITS FALSE NEIGHBOUR: 'it returns false'. Refute it at one input. -/
def r16CheckWrong : ChangeSpec := { name := "r16Check", fn := fun _ => fun
  | [d] => { results := [.lit (.bool false)], args := [d] }
  | _ => none }
def R16CheckWrongFalsely : Prop := r16CheckRow.holds Tryz.pinned (OpenSpec.ofChange r16CheckWrong)

/-- 'quernlaw21.R16Runs': WHATEVER THE INPUT: true; the input reads as it did. -/
def r16RunsSpec : ChangeSpec := { name := "r16Runs", fn := fun _ => fun
  | [d1, d2, d3, d4] => { results := [.lit (.bool true)], args := [d1, d2, d3, d4] }
  | _ => none }
def r16RunsRow : OpenClaim := { program := "ytfofmmkihhnfmaagreatdoor", sum := "fce09e36f78cb10eb71fad3eae4681ef3c668594bfc00ddc791695c5a8dd9313", func := "quern/quernlaw21.R16Runs", spec := "r16Runs", unfollowed := true, recurses := true, named := ["quern/lex.words", "quern/lex.signs"], apart := false, laid := [("quern/lex.words", laid_quern_lex_words), ("quern/lex.signs", laid_quern_lex_signs)] }
def R16RunsSaid : Prop := r16RunsRow.holds Tryz.pinned (OpenSpec.ofChange r16RunsSpec)

/-- ITS FALSE NEIGHBOUR: 'it returns false'. Refute it at one input. -/
def r16RunsWrong : ChangeSpec := { name := "r16Runs", fn := fun _ => fun
  | [d1, d2, d3, d4] => { results := [.lit (.bool false)], args := [d1, d2, d3, d4] }
  | _ => none }
def R16RunsWrongFalsely : Prop := r16RunsRow.holds Tryz.pinned (OpenSpec.ofChange r16RunsWrong)

/-- 'quernlaw21.R16All': WHATEVER THE INPUT: true; the input reads as it did. -/
def r16AllSpec : ChangeSpec := { name := "r16All", fn := fun _ => fun
  | [d1, d2, d3, d4, d5] => { results := [.lit (.bool true)], args := [d1, d2, d3, d4, d5] }
  | _ => none }
def r16AllRow : OpenClaim := { program := "ytfofmmkihhnfmaagreatdoor", sum := "fce09e36f78cb10eb71fad3eae4681ef3c668594bfc00ddc791695c5a8dd9313", func := "quern/quernlaw21.R16All", spec := "r16All", unfollowed := true, recurses := true, named := ["quern/lex.words", "quern/lex.signs"], apart := false, laid := [("quern/lex.words", laid_quern_lex_words), ("quern/lex.signs", laid_quern_lex_signs)] }
def R16AllSaid : Prop := r16AllRow.holds Tryz.pinned (OpenSpec.ofChange r16AllSpec)

/-- ITS FALSE NEIGHBOUR: 'it returns false'. Refute it at one input. -/
def r16AllWrong : ChangeSpec := { name := "r16All", fn := fun _ => fun
  | [d1, d2, d3, d4, d5] => { results := [.lit (.bool false)], args := [d1, d2, d3, d4, d5] }
  | _ => none }
def R16AllWrongFalsely : Prop := r16AllRow.holds Tryz.pinned (OpenSpec.ofChange r16AllWrong)

/- THE SECOND FORM. 'bulk': how many values and letters a reading holds, each counted each time it is reached (what is shared counts as often as it is met; a slice's spare places count too). A statement '..UptoSaid' is the law's where the arguments, and the package variables that the reading takes, are together of bulk at most 1048576: NARROWER than '..Said'. Prove '..Said' where nothing that the law and all that it calls make is longer than what came in: it says more and counts as full. Else prove '..UptoSaid'. A law counts once. -/
mutual
def uptoBulk {H : Type} : DataW H → Nat
  | .lit (.string bytes) => bytes.length + 1
  | .lit _ => 1
  | .nil => 1
  | .ptr d => uptoBulk d + 1
  | .slice elems spare => uptoBulkAll elems + uptoBulkAll spare + 1
  | .agg parts => uptoBulkAll parts + 1
  | .iface _ d => uptoBulk d + 1
  | .map entries => uptoBulkEntries entries + 1
  | .held _ => 1
def uptoBulkAll {H : Type} : List (DataW H) → Nat
  | [] => 0
  | d :: r => uptoBulk d + uptoBulkAll r
def uptoBulkEntries {H : Type} : List (Lit × DataW H) → Nat
  | [] => 0
  | x :: r => uptoBulkEntry x + uptoBulkEntries r
def uptoBulkEntry {H : Type} : Lit × DataW H → Nat
  | (.string bytes, d) => bytes.length + uptoBulk d + 1
  | (_, d) => uptoBulk d + 1
 end
def uptoSmall : (H : Type) → List (DataW H) → Bool := fun _ ds => decide (uptoBulkAll ds ≤ 1048576)
def OpenSpec.upto (s : _root_.Go.ChangeSpec) : _root_.Go.OpenSpec := { _root_.Go.OpenSpec.ofChange s with cond := some uptoSmall }

/-- 'quernlaw21.R16Grows', WHERE WHAT IT READS IS OF BULK AT MOST 1048576: true; the input reads as it did. -/
def r16GrowsUptoRow : OpenClaim := { program := "ytfofmmkihhnfmaagreatdoor", sum := "fce09e36f78cb10eb71fad3eae4681ef3c668594bfc00ddc791695c5a8dd9313", func := "quern/quernlaw21.R16Grows", spec := "r16Grows", unfollowed := true, recurses := true, named := ["quern/lex.words", "quern/lex.signs"], apart := false, laid := [("quern/lex.words", laid_quern_lex_words), ("quern/lex.signs", laid_quern_lex_signs)], narrowed := true }
def R16GrowsUptoSaid : Prop := r16GrowsUptoRow.holds Tryz.pinned (OpenSpec.upto r16GrowsSpec)

/-- 'quernlaw21.R16Check', WHERE WHAT IT READS IS OF BULK AT MOST 1048576: true; the input reads as it did. -/
def r16CheckUptoRow : OpenClaim := { program := "ytfofmmkihhnfmaagreatdoor", sum := "fce09e36f78cb10eb71fad3eae4681ef3c668594bfc00ddc791695c5a8dd9313", func := "quern/quernlaw21.R16Check", spec := "r16Check", unfollowed := true, recurses := true, named := ["quern/lex.words", "quern/lex.signs"], apart := false, laid := [("quern/lex.words", laid_quern_lex_words), ("quern/lex.signs", laid_quern_lex_signs)], narrowed := true }
def R16CheckUptoSaid : Prop := r16CheckUptoRow.holds Tryz.pinned (OpenSpec.upto r16CheckSpec)

/-- 'quernlaw21.R16Runs', WHERE WHAT IT READS IS OF BULK AT MOST 1048576: true; the input reads as it did. -/
def r16RunsUptoRow : OpenClaim := { program := "ytfofmmkihhnfmaagreatdoor", sum := "fce09e36f78cb10eb71fad3eae4681ef3c668594bfc00ddc791695c5a8dd9313", func := "quern/quernlaw21.R16Runs", spec := "r16Runs", unfollowed := true, recurses := true, named := ["quern/lex.words", "quern/lex.signs"], apart := false, laid := [("quern/lex.words", laid_quern_lex_words), ("quern/lex.signs", laid_quern_lex_signs)], narrowed := true }
def R16RunsUptoSaid : Prop := r16RunsUptoRow.holds Tryz.pinned (OpenSpec.upto r16RunsSpec)

/-- 'quernlaw21.R16All', WHERE WHAT IT READS IS OF BULK AT MOST 1048576: true; the input reads as it did. -/
def r16AllUptoRow : OpenClaim := { program := "ytfofmmkihhnfmaagreatdoor", sum := "fce09e36f78cb10eb71fad3eae4681ef3c668594bfc00ddc791695c5a8dd9313", func := "quern/quernlaw21.R16All", spec := "r16All", unfollowed := true, recurses := true, named := ["quern/lex.words", "quern/lex.signs"], apart := false, laid := [("quern/lex.words", laid_quern_lex_words), ("quern/lex.signs", laid_quern_lex_signs)], narrowed := true }
def R16AllUptoSaid : Prop := r16AllUptoRow.holds Tryz.pinned (OpenSpec.upto r16AllSpec)

end Rows
end Go.Proofs.YtfofmmkihhnfmaaGreatDoor
