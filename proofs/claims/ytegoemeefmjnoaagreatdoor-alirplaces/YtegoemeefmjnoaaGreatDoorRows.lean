/-
  NARROWER THAN 'FOR EVERY INPUT', by the rows' own cells (each row's printed sentence says how): AlirDeep: laid · AlirPlaces: laid · AlirInput: laid · AlirRests: laid · AlirGrows: laid.
  DERIVED. THE GIVEN ROWS OF THIS SEAT. 5 by the template 'for every input the law returns true; each argument reads behind the call as it read before'; 0 by the template 'total and deterministic' (their statements: YtegoemeefmjnoaaGreatDoorTotals.lean).
  GIVEN WITH THE SEED: the statements are not yours to turn. If you find one false, say at which input.
  Laid BY PROGRAM, IN A SANDBOX (cutbox-rows.mjs): the forced cells as the released guide's own fill.sh prints them over the translation 2c0a19090bdb2c3d… (all of the seat's roots in one cut). By AI agents, Wed Nov 11 2026. No macro, syntax, notation, axiom, sorry.
-/
import Derived.Test.YtegoemeefmjnoaaGreatDoorChecked
import GoSem.Claim
import GoSem.ClaimJoined
import GoSem.ClaimMapViews
import Derived.JoinedTies
import Derived.KernelRfl
namespace Go.Proofs.YtegoemeefmjnoaaGreatDoor
/- THE CELL 'sum', in the pinned program and in every row, IS THE sha256 OF THE DUMP (.gsa) THAT YtegoemeefmjnoaaGreatDoorProg.lean LOADS. Nothing in Lean hashes anything: it is a label: what it is worth is what the hold of that sum in a sandbox is worth. -/
noncomputable def Tryz.pinned : Pinned := { name := "ytegoemeefmjnoaagreatdoor", sum := "2c0a19090bdb2c3d2c1fa6e4e198fd62da1fb1bdda5bfb4a7319635fe37eecd1", checked := Tryz.checked }
namespace Rows
def none {H : Type} : Left H := { results := [], args := [] }

/- WHAT THE LISTED PACKAGE-LEVEL VARIABLES READ AS WHEN THE CALL BEGINS. Each datum BY PROGRAM (the guide's laid-datum.mjs) off the statement by which the dump's own 'gosem.cut.vars' lays the variable. In a bare row this is a premise. The card (YtegoemeefmjnoaaGreatDoorCards.lean) ties it to the program's text. -/
def laid_quern_lex_words {H : Type} : DataW H := .agg [.lit (.string [102, 117, 110, 99]), .lit (.string [118, 97, 114]), .lit (.string [105, 102]), .lit (.string [101, 108, 115, 101]), .lit (.string [102, 111, 114]), .lit (.string [114, 101, 116, 117, 114, 110]), .lit (.string [98, 114, 101, 97, 107]), .lit (.string [99, 111, 110, 116, 105, 110, 117, 101]), .lit (.string [112, 114, 105, 110, 116]), .lit (.string [112, 97, 110, 105, 99]), .lit (.string [105, 110, 112, 117, 116]), .lit (.string [108, 101, 110]), .lit (.string [109, 97, 107, 101]), .lit (.string [105, 110, 116]), .lit (.string [98, 111, 111, 108]), .lit (.string [116, 114, 117, 101]), .lit (.string [102, 97, 108, 115, 101]), .lit (.string [110, 105, 108])]
def laid_quern_lex_signs {H : Type} : DataW H := .agg [.lit (.string [40]), .lit (.string [41]), .lit (.string [123]), .lit (.string [125]), .lit (.string [91]), .lit (.string [93]), .lit (.string [44]), .lit (.string [59]), .lit (.string [61]), .lit (.string [61, 61]), .lit (.string [33, 61]), .lit (.string [60]), .lit (.string [60, 61]), .lit (.string [62]), .lit (.string [62, 61]), .lit (.string [43]), .lit (.string [45]), .lit (.string [42]), .lit (.string [47]), .lit (.string [37]), .lit (.string [38]), .lit (.string [124]), .lit (.string [94]), .lit (.string [38, 94]), .lit (.string [60, 60]), .lit (.string [62, 62]), .lit (.string [38, 38]), .lit (.string [124, 124]), .lit (.string [33])]

/-- 'quernlaw19.AlirDeep': WHATEVER THE INPUT: true; the input reads as it did. -/
def alirDeepSpec : ChangeSpec := { name := "alirDeep", fn := fun _ => fun
  | [d] => { results := [.lit (.bool true)], args := [d] }
  | _ => none }
def alirDeepRow : OpenClaim := { program := "ytegoemeefmjnoaagreatdoor", sum := "2c0a19090bdb2c3d2c1fa6e4e198fd62da1fb1bdda5bfb4a7319635fe37eecd1", func := "quern/quernlaw19.AlirDeep", spec := "alirDeep", unfollowed := true, recurses := true, named := ["quern/lex.words", "quern/lex.signs"], apart := false, laid := [("quern/lex.words", laid_quern_lex_words), ("quern/lex.signs", laid_quern_lex_signs)] }
def AlirDeepSaid : Prop := alirDeepRow.holds Tryz.pinned (OpenSpec.ofChange alirDeepSpec)

/-- ITS FALSE NEIGHBOUR: 'it returns false'. Refute it at one input. -/
def alirDeepWrong : ChangeSpec := { name := "alirDeep", fn := fun _ => fun
  | [d] => { results := [.lit (.bool false)], args := [d] }
  | _ => none }
def AlirDeepWrongFalsely : Prop := alirDeepRow.holds Tryz.pinned (OpenSpec.ofChange alirDeepWrong)

/-- 'quernlaw19.AlirPlaces': WHATEVER THE INPUT: true; the input reads as it did. -/
def alirPlacesSpec : ChangeSpec := { name := "alirPlaces", fn := fun _ => fun
  | [d1, d2, d3, d4] => { results := [.lit (.bool true)], args := [d1, d2, d3, d4] }
  | _ => none }
def alirPlacesRow : OpenClaim := { program := "ytegoemeefmjnoaagreatdoor", sum := "2c0a19090bdb2c3d2c1fa6e4e198fd62da1fb1bdda5bfb4a7319635fe37eecd1", func := "quern/quernlaw19.AlirPlaces", spec := "alirPlaces", unfollowed := true, recurses := true, named := ["quern/lex.words", "quern/lex.signs"], apart := false, laid := [("quern/lex.words", laid_quern_lex_words), ("quern/lex.signs", laid_quern_lex_signs)] }
def AlirPlacesSaid : Prop := alirPlacesRow.holds Tryz.pinned (OpenSpec.ofChange alirPlacesSpec)

/-- ITS FALSE NEIGHBOUR: 'it returns false'. Refute it at one input. -/
def alirPlacesWrong : ChangeSpec := { name := "alirPlaces", fn := fun _ => fun
  | [d1, d2, d3, d4] => { results := [.lit (.bool false)], args := [d1, d2, d3, d4] }
  | _ => none }
def AlirPlacesWrongFalsely : Prop := alirPlacesRow.holds Tryz.pinned (OpenSpec.ofChange alirPlacesWrong)

/-- 'quernlaw19.AlirInput': WHATEVER THE INPUT: true; the input reads as it did. -/
def alirInputSpec : ChangeSpec := { name := "alirInput", fn := fun _ => fun
  | [d1, d2] => { results := [.lit (.bool true)], args := [d1, d2] }
  | _ => none }
def alirInputRow : OpenClaim := { program := "ytegoemeefmjnoaagreatdoor", sum := "2c0a19090bdb2c3d2c1fa6e4e198fd62da1fb1bdda5bfb4a7319635fe37eecd1", func := "quern/quernlaw19.AlirInput", spec := "alirInput", unfollowed := true, recurses := true, named := ["quern/lex.words", "quern/lex.signs"], apart := false, laid := [("quern/lex.words", laid_quern_lex_words), ("quern/lex.signs", laid_quern_lex_signs)] }
def AlirInputSaid : Prop := alirInputRow.holds Tryz.pinned (OpenSpec.ofChange alirInputSpec)

/-- ITS FALSE NEIGHBOUR: 'it returns false'. Refute it at one input. -/
def alirInputWrong : ChangeSpec := { name := "alirInput", fn := fun _ => fun
  | [d1, d2] => { results := [.lit (.bool false)], args := [d1, d2] }
  | _ => none }
def AlirInputWrongFalsely : Prop := alirInputRow.holds Tryz.pinned (OpenSpec.ofChange alirInputWrong)

/-- 'quernlaw19.AlirRests': WHATEVER THE INPUT: true; the input reads as it did. -/
def alirRestsSpec : ChangeSpec := { name := "alirRests", fn := fun _ => fun
  | [d] => { results := [.lit (.bool true)], args := [d] }
  | _ => none }
def alirRestsRow : OpenClaim := { program := "ytegoemeefmjnoaagreatdoor", sum := "2c0a19090bdb2c3d2c1fa6e4e198fd62da1fb1bdda5bfb4a7319635fe37eecd1", func := "quern/quernlaw19.AlirRests", spec := "alirRests", unfollowed := true, recurses := true, named := ["quern/lex.words", "quern/lex.signs"], apart := false, laid := [("quern/lex.words", laid_quern_lex_words), ("quern/lex.signs", laid_quern_lex_signs)] }
def AlirRestsSaid : Prop := alirRestsRow.holds Tryz.pinned (OpenSpec.ofChange alirRestsSpec)

/-- ITS FALSE NEIGHBOUR: 'it returns false'. Refute it at one input. -/
def alirRestsWrong : ChangeSpec := { name := "alirRests", fn := fun _ => fun
  | [d] => { results := [.lit (.bool false)], args := [d] }
  | _ => none }
def AlirRestsWrongFalsely : Prop := alirRestsRow.holds Tryz.pinned (OpenSpec.ofChange alirRestsWrong)

/-- 'quernlaw19.AlirGrows': WHATEVER THE INPUT: true; the input reads as it did. -/
def alirGrowsSpec : ChangeSpec := { name := "alirGrows", fn := fun _ => fun
  | [d1, d2, d3, d4] => { results := [.lit (.bool true)], args := [d1, d2, d3, d4] }
  | _ => none }
def alirGrowsRow : OpenClaim := { program := "ytegoemeefmjnoaagreatdoor", sum := "2c0a19090bdb2c3d2c1fa6e4e198fd62da1fb1bdda5bfb4a7319635fe37eecd1", func := "quern/quernlaw19.AlirGrows", spec := "alirGrows", unfollowed := true, recurses := true, named := ["quern/lex.words", "quern/lex.signs"], apart := false, laid := [("quern/lex.words", laid_quern_lex_words), ("quern/lex.signs", laid_quern_lex_signs)] }
def AlirGrowsSaid : Prop := alirGrowsRow.holds Tryz.pinned (OpenSpec.ofChange alirGrowsSpec)

/-- ITS FALSE NEIGHBOUR: 'it returns false'. Refute it at one input. -/
def alirGrowsWrong : ChangeSpec := { name := "alirGrows", fn := fun _ => fun
  | [d1, d2, d3, d4] => { results := [.lit (.bool false)], args := [d1, d2, d3, d4] }
  | _ => none }
def AlirGrowsWrongFalsely : Prop := alirGrowsRow.holds Tryz.pinned (OpenSpec.ofChange alirGrowsWrong)

/- THE SECOND FORM. 'bulk': how many values and letters a reading holds, each counted each time it is reached (what is shared counts as often as it is met; a slice's spare places count too). A statement '..UptoSaid' is the law's where the arguments, and the package variables that the reading takes, are together of bulk at most 1048576: NARROWER than '..Said'. Prove '..Said' where nothing that the law and all that it calls make is longer than what came in: it says more and counts as full. Else prove '..UptoSaid'. A law counts once. -/
mutual
def uptoBulk {H : Type} : DataW H → Nat
  | .lit (.string bytes) => bytes.length + 1
  | .lit _ => 1
  | .nil => 1
  | .ptr d => uptoBulk d + 1
  | .slice elems spare => uptoBulkAll elems + uptoBulkAll spare + 1
  | .agg parts => uptoBulkAll parts + 1
  | .iface _ d => uptoBulk d + 1
  | .map entries => uptoBulkEntries entries + 1
  | .held _ => 1
def uptoBulkAll {H : Type} : List (DataW H) → Nat
  | [] => 0
  | d :: r => uptoBulk d + uptoBulkAll r
def uptoBulkEntries {H : Type} : List (Lit × DataW H) → Nat
  | [] => 0
  | x :: r => uptoBulkEntry x + uptoBulkEntries r
def uptoBulkEntry {H : Type} : Lit × DataW H → Nat
  | (.string bytes, d) => bytes.length + uptoBulk d + 1
  | (_, d) => uptoBulk d + 1
 end
def uptoSmall : (H : Type) → List (DataW H) → Bool := fun _ ds => decide (uptoBulkAll ds ≤ 1048576)
def OpenSpec.upto (s : _root_.Go.ChangeSpec) : _root_.Go.OpenSpec := { _root_.Go.OpenSpec.ofChange s with cond := some uptoSmall }

/-- 'quernlaw19.AlirDeep', WHERE WHAT IT READS IS OF BULK AT MOST 1048576: true; the input reads as it did. -/
def alirDeepUptoRow : OpenClaim := { program := "ytegoemeefmjnoaagreatdoor", sum := "2c0a19090bdb2c3d2c1fa6e4e198fd62da1fb1bdda5bfb4a7319635fe37eecd1", func := "quern/quernlaw19.AlirDeep", spec := "alirDeep", unfollowed := true, recurses := true, named := ["quern/lex.words", "quern/lex.signs"], apart := false, laid := [("quern/lex.words", laid_quern_lex_words), ("quern/lex.signs", laid_quern_lex_signs)], narrowed := true }
def AlirDeepUptoSaid : Prop := alirDeepUptoRow.holds Tryz.pinned (OpenSpec.upto alirDeepSpec)

/-- 'quernlaw19.AlirPlaces', WHERE WHAT IT READS IS OF BULK AT MOST 1048576: true; the input reads as it did. -/
def alirPlacesUptoRow : OpenClaim := { program := "ytegoemeefmjnoaagreatdoor", sum := "2c0a19090bdb2c3d2c1fa6e4e198fd62da1fb1bdda5bfb4a7319635fe37eecd1", func := "quern/quernlaw19.AlirPlaces", spec := "alirPlaces", unfollowed := true, recurses := true, named := ["quern/lex.words", "quern/lex.signs"], apart := false, laid := [("quern/lex.words", laid_quern_lex_words), ("quern/lex.signs", laid_quern_lex_signs)], narrowed := true }
def AlirPlacesUptoSaid : Prop := alirPlacesUptoRow.holds Tryz.pinned (OpenSpec.upto alirPlacesSpec)

/-- 'quernlaw19.AlirInput', WHERE WHAT IT READS IS OF BULK AT MOST 1048576: true; the input reads as it did. -/
def alirInputUptoRow : OpenClaim := { program := "ytegoemeefmjnoaagreatdoor", sum := "2c0a19090bdb2c3d2c1fa6e4e198fd62da1fb1bdda5bfb4a7319635fe37eecd1", func := "quern/quernlaw19.AlirInput", spec := "alirInput", unfollowed := true, recurses := true, named := ["quern/lex.words", "quern/lex.signs"], apart := false, laid := [("quern/lex.words", laid_quern_lex_words), ("quern/lex.signs", laid_quern_lex_signs)], narrowed := true }
def AlirInputUptoSaid : Prop := alirInputUptoRow.holds Tryz.pinned (OpenSpec.upto alirInputSpec)

/-- 'quernlaw19.AlirRests', WHERE WHAT IT READS IS OF BULK AT MOST 1048576: true; the input reads as it did. -/
def alirRestsUptoRow : OpenClaim := { program := "ytegoemeefmjnoaagreatdoor", sum := "2c0a19090bdb2c3d2c1fa6e4e198fd62da1fb1bdda5bfb4a7319635fe37eecd1", func := "quern/quernlaw19.AlirRests", spec := "alirRests", unfollowed := true, recurses := true, named := ["quern/lex.words", "quern/lex.signs"], apart := false, laid := [("quern/lex.words", laid_quern_lex_words), ("quern/lex.signs", laid_quern_lex_signs)], narrowed := true }
def AlirRestsUptoSaid : Prop := alirRestsUptoRow.holds Tryz.pinned (OpenSpec.upto alirRestsSpec)

/-- 'quernlaw19.AlirGrows', WHERE WHAT IT READS IS OF BULK AT MOST 1048576: true; the input reads as it did. -/
def alirGrowsUptoRow : OpenClaim := { program := "ytegoemeefmjnoaagreatdoor", sum := "2c0a19090bdb2c3d2c1fa6e4e198fd62da1fb1bdda5bfb4a7319635fe37eecd1", func := "quern/quernlaw19.AlirGrows", spec := "alirGrows", unfollowed := true, recurses := true, named := ["quern/lex.words", "quern/lex.signs"], apart := false, laid := [("quern/lex.words", laid_quern_lex_words), ("quern/lex.signs", laid_quern_lex_signs)], narrowed := true }
def AlirGrowsUptoSaid : Prop := alirGrowsUptoRow.holds Tryz.pinned (OpenSpec.upto alirGrowsSpec)

end Rows
end Go.Proofs.YtegoemeefmjnoaaGreatDoor
