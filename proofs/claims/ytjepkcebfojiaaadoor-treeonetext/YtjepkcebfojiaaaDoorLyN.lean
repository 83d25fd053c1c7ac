import Derived.Test.YtjepkcebfojiaaaDoorLyP
import Derived.Test.YtjepkcebfojiaaaDoorLyC
set_option linter.unusedVariables false
set_option linter.unusedSimpArgs false
namespace Go.Proofs.YtjepkcebfojiaaaDoor
open Go.ChangeShapes Go.WideShapes Go.ChangeAt Go.RowKit

def SN : List Nd := [⟨20, 0, 0, 0, 0, 0, 0, 1, [], []⟩, ⟨20, 0, 0, 0, 0, 0, 0, 2, [], []⟩, ⟨31, 0, 0, 0, 0, 0, 2, 0, [], [0, 1]⟩, ⟨5, 0, 0, 0, 0, 0, 0, 0, [120], [2]⟩, ⟨3, 0, 0, 0, 0, 0, 0, 0, [], [3]⟩, ⟨1, 0, 0, 0, 0, 0, 0, 0, [109, 97, 105, 110], [4]⟩]
def SMP : Tr := ⟨SN, [5]⟩
def SN2 : List Nd := [⟨20, 0, 0, 0, 0, 0, 1, 1, [], []⟩, ⟨20, 0, 0, 0, 0, 0, 0, 2, [], []⟩, ⟨31, 0, 0, 0, 0, 0, 2, 0, [], [0, 1]⟩, ⟨5, 0, 0, 0, 0, 0, 0, 0, [120], [2]⟩, ⟨3, 0, 0, 0, 0, 0, 0, 0, [], [3]⟩, ⟨1, 0, 0, 0, 0, 0, 0, 0, [109, 97, 105, 110], [4]⟩]
def SMP2 : Tr := ⟨SN2, [5]⟩
def STX : List UInt8 := [102, 117, 110, 99, 32, 109, 97, 105, 110, 40, 41, 32, 123, 10, 9, 120, 32, 61, 32, 49, 32, 45, 32, 50, 59, 10, 125, 10]
theorem smp_chk : chk SMP = true := by decide
theorem smp2_chk : chk SMP2 = false := by decide
theorem dcm1 : dcm 1 = [49] := by rw [dcm]; rfl
theorem dcm2 : dcm 2 = [50] := by rw [dcm]; rfl
theorem sm_ok0 : NdOK SN (SN[0]'(by decide)) := .inr (.inr (.inr (.inl ⟨rfl, by decide, by decide⟩)))
theorem sm_ok1 : NdOK SN (SN[1]'(by decide)) := .inr (.inr (.inr (.inl ⟨rfl, by decide, by decide⟩)))
theorem sm_ok2 : NdOK SN (SN[2]'(by decide)) := .inr (.inr (.inr (.inr ⟨rfl, 0, 1, 2, rfl, by decide, by decide, rfl, by decide⟩)))
theorem sm_ok3 : NdOK SN (SN[3]'(by decide)) := .inr (.inr (.inl rfl))
theorem sm_ok4 : NdOK SN (SN[4]'(by decide)) := .inr (.inl rfl)
theorem sm_ok5 : NdOK SN (SN[5]'(by decide)) := .inl ⟨rfl, rfl, by decide, 4, rfl⟩
theorem sm_18 : RunsOK SN 0 (⟨[102, 117, 110, 99, 32, 109, 97, 105, 110, 40, 41, 32, 123, 10, 9, 120, 32, 61, 32, 49, 32, 45, 32, 50, 59, 10, 125, 10], [], 0⟩ : Ps) (⟨[102, 117, 110, 99, 32, 109, 97, 105, 110, 40, 41, 32, 123, 10, 9, 120, 32, 61, 32, 49, 32, 45, 32, 50, 59, 10, 125, 10], [], 0⟩ : Ps) := .fin _ rfl
theorem sm_17 : RunsOK SN 1 (⟨[102, 117, 110, 99, 32, 109, 97, 105, 110, 40, 41, 32, 123, 10, 9, 120, 32, 61, 32, 49, 32, 45, 32, 50, 59, 10, 125], [⟨0, [10], 0⟩], 0⟩ : Ps) (⟨[102, 117, 110, 99, 32, 109, 97, 105, 110, 40, 41, 32, 123, 10, 9, 120, 32, 61, 32, 49, 32, 45, 32, 50, 59, 10, 125, 10], [], 0⟩ : Ps) := by
  have e : pstep SN (⟨[102, 117, 110, 99, 32, 109, 97, 105, 110, 40, 41, 32, 123, 10, 9, 120, 32, 61, 32, 49, 32, 45, 32, 50, 59, 10, 125], [⟨0, [10], 0⟩], 0⟩ : Ps) = (⟨[102, 117, 110, 99, 32, 109, 97, 105, 110, 40, 41, 32, 123, 10, 9, 120, 32, 61, 32, 49, 32, 45, 32, 50, 59, 10, 125, 10], [], 0⟩ : Ps) := rfl
  refine .more rfl ?_ (by decide) (by rw [e]; exact sm_18)
  exact .inl ⟨rfl, by decide⟩
theorem sm_16 : RunsOK SN 2 (⟨[102, 117, 110, 99, 32, 109, 97, 105, 110, 40, 41, 32, 123, 10, 9, 120, 32, 61, 32, 49, 32, 45, 32, 50, 59], [⟨4, [], 0⟩, ⟨0, [10], 0⟩], 1⟩ : Ps) (⟨[102, 117, 110, 99, 32, 109, 97, 105, 110, 40, 41, 32, 123, 10, 9, 120, 32, 61, 32, 49, 32, 45, 32, 50, 59, 10, 125, 10], [], 0⟩ : Ps) := by
  have e : pstep SN (⟨[102, 117, 110, 99, 32, 109, 97, 105, 110, 40, 41, 32, 123, 10, 9, 120, 32, 61, 32, 49, 32, 45, 32, 50, 59], [⟨4, [], 0⟩, ⟨0, [10], 0⟩], 1⟩ : Ps) = (⟨[102, 117, 110, 99, 32, 109, 97, 105, 110, 40, 41, 32, 123, 10, 9, 120, 32, 61, 32, 49, 32, 45, 32, 50, 59, 10, 125], [⟨0, [10], 0⟩], 0⟩ : Ps) := rfl
  refine .more rfl ?_ (by decide) (by rw [e]; exact sm_17)
  exact .inr (.inr (.inr ⟨rfl, 0, rfl, by decide⟩))
theorem sm_15 : RunsOK SN 3 (⟨[102, 117, 110, 99, 32, 109, 97, 105, 110, 40, 41, 32, 123, 10, 9, 120, 32, 61, 32, 49, 32, 45, 32, 50], [⟨0, [59], 0⟩, ⟨4, [], 0⟩, ⟨0, [10], 0⟩], 1⟩ : Ps) (⟨[102, 117, 110, 99, 32, 109, 97, 105, 110, 40, 41, 32, 123, 10, 9, 120, 32, 61, 32, 49, 32, 45, 32, 50, 59, 10, 125, 10], [], 0⟩ : Ps) := by
  have e : pstep SN (⟨[102, 117, 110, 99, 32, 109, 97, 105, 110, 40, 41, 32, 123, 10, 9, 120, 32, 61, 32, 49, 32, 45, 32, 50], [⟨0, [59], 0⟩, ⟨4, [], 0⟩, ⟨0, [10], 0⟩], 1⟩ : Ps) = (⟨[102, 117, 110, 99, 32, 109, 97, 105, 110, 40, 41, 32, 123, 10, 9, 120, 32, 61, 32, 49, 32, 45, 32, 50, 59], [⟨4, [], 0⟩, ⟨0, [10], 0⟩], 1⟩ : Ps) := rfl
  refine .more rfl ?_ (by decide) (by rw [e]; exact sm_16)
  exact .inl ⟨rfl, by decide⟩
theorem sm_14 : RunsOK SN 4 (⟨[102, 117, 110, 99, 32, 109, 97, 105, 110, 40, 41, 32, 123, 10, 9, 120, 32, 61, 32, 49, 32, 45, 32], [⟨0, [50], 0⟩, ⟨0, [59], 0⟩, ⟨4, [], 0⟩, ⟨0, [10], 0⟩], 1⟩ : Ps) (⟨[102, 117, 110, 99, 32, 109, 97, 105, 110, 40, 41, 32, 123, 10, 9, 120, 32, 61, 32, 49, 32, 45, 32, 50, 59, 10, 125, 10], [], 0⟩ : Ps) := by
  have e : pstep SN (⟨[102, 117, 110, 99, 32, 109, 97, 105, 110, 40, 41, 32, 123, 10, 9, 120, 32, 61, 32, 49, 32, 45, 32], [⟨0, [50], 0⟩, ⟨0, [59], 0⟩, ⟨4, [], 0⟩, ⟨0, [10], 0⟩], 1⟩ : Ps) = (⟨[102, 117, 110, 99, 32, 109, 97, 105, 110, 40, 41, 32, 123, 10, 9, 120, 32, 61, 32, 49, 32, 45, 32, 50], [⟨0, [59], 0⟩, ⟨4, [], 0⟩, ⟨0, [10], 0⟩], 1⟩ : Ps) := rfl
  refine .more rfl ?_ (by decide) (by rw [e]; exact sm_15)
  exact .inl ⟨rfl, by decide⟩
theorem sm_13 : RunsOK SN 5 (⟨[102, 117, 110, 99, 32, 109, 97, 105, 110, 40, 41, 32, 123, 10, 9, 120, 32, 61, 32, 49, 32, 45, 32], [⟨1, [], 1⟩, ⟨0, [59], 0⟩, ⟨4, [], 0⟩, ⟨0, [10], 0⟩], 1⟩ : Ps) (⟨[102, 117, 110, 99, 32, 109, 97, 105, 110, 40, 41, 32, 123, 10, 9, 120, 32, 61, 32, 49, 32, 45, 32, 50, 59, 10, 125, 10], [], 0⟩ : Ps) := by
  have e : pstep SN (⟨[102, 117, 110, 99, 32, 109, 97, 105, 110, 40, 41, 32, 123, 10, 9, 120, 32, 61, 32, 49, 32, 45, 32], [⟨1, [], 1⟩, ⟨0, [59], 0⟩, ⟨4, [], 0⟩, ⟨0, [10], 0⟩], 1⟩ : Ps) = (⟨[102, 117, 110, 99, 32, 109, 97, 105, 110, 40, 41, 32, 123, 10, 9, 120, 32, 61, 32, 49, 32, 45, 32], [⟨0, [50], 0⟩, ⟨0, [59], 0⟩, ⟨4, [], 0⟩, ⟨0, [10], 0⟩], 1⟩ : Ps) := by simp [pstep, ndOf, SN, ndParts, exParts, isSt, tp, dcm1, dcm2]
  refine .more rfl ?_ (by decide) (by rw [e]; exact sm_14)
  exact .inr (.inl ⟨rfl, 1, rfl, by decide, sm_ok1, by decide, by decide⟩)
theorem sm_12 : RunsOK SN 6 (⟨[102, 117, 110, 99, 32, 109, 97, 105, 110, 40, 41, 32, 123, 10, 9, 120, 32, 61, 32, 49], [⟨0, [32, 45, 32], 0⟩, ⟨1, [], 1⟩, ⟨0, [59], 0⟩, ⟨4, [], 0⟩, ⟨0, [10], 0⟩], 1⟩ : Ps) (⟨[102, 117, 110, 99, 32, 109, 97, 105, 110, 40, 41, 32, 123, 10, 9, 120, 32, 61, 32, 49, 32, 45, 32, 50, 59, 10, 125, 10], [], 0⟩ : Ps) := by
  have e : pstep SN (⟨[102, 117, 110, 99, 32, 109, 97, 105, 110, 40, 41, 32, 123, 10, 9, 120, 32, 61, 32, 49], [⟨0, [32, 45, 32], 0⟩, ⟨1, [], 1⟩, ⟨0, [59], 0⟩, ⟨4, [], 0⟩, ⟨0, [10], 0⟩], 1⟩ : Ps) = (⟨[102, 117, 110, 99, 32, 109, 97, 105, 110, 40, 41, 32, 123, 10, 9, 120, 32, 61, 32, 49, 32, 45, 32], [⟨1, [], 1⟩, ⟨0, [59], 0⟩, ⟨4, [], 0⟩, ⟨0, [10], 0⟩], 1⟩ : Ps) := rfl
  refine .more rfl ?_ (by decide) (by rw [e]; exact sm_13)
  exact .inl ⟨rfl, by decide⟩
theorem sm_11 : RunsOK SN 7 (⟨[102, 117, 110, 99, 32, 109, 97, 105, 110, 40, 41, 32, 123, 10, 9, 120, 32, 61, 32], [⟨0, [49], 0⟩, ⟨0, [32, 45, 32], 0⟩, ⟨1, [], 1⟩, ⟨0, [59], 0⟩, ⟨4, [], 0⟩, ⟨0, [10], 0⟩], 1⟩ : Ps) (⟨[102, 117, 110, 99, 32, 109, 97, 105, 110, 40, 41, 32, 123, 10, 9, 120, 32, 61, 32, 49, 32, 45, 32, 50, 59, 10, 125, 10], [], 0⟩ : Ps) := by
  have e : pstep SN (⟨[102, 117, 110, 99, 32, 109, 97, 105, 110, 40, 41, 32, 123, 10, 9, 120, 32, 61, 32], [⟨0, [49], 0⟩, ⟨0, [32, 45, 32], 0⟩, ⟨1, [], 1⟩, ⟨0, [59], 0⟩, ⟨4, [], 0⟩, ⟨0, [10], 0⟩], 1⟩ : Ps) = (⟨[102, 117, 110, 99, 32, 109, 97, 105, 110, 40, 41, 32, 123, 10, 9, 120, 32, 61, 32, 49], [⟨0, [32, 45, 32], 0⟩, ⟨1, [], 1⟩, ⟨0, [59], 0⟩, ⟨4, [], 0⟩, ⟨0, [10], 0⟩], 1⟩ : Ps) := rfl
  refine .more rfl ?_ (by decide) (by rw [e]; exact sm_12)
  exact .inl ⟨rfl, by decide⟩
theorem sm_10 : RunsOK SN 8 (⟨[102, 117, 110, 99, 32, 109, 97, 105, 110, 40, 41, 32, 123, 10, 9, 120, 32, 61, 32], [⟨1, [], 0⟩, ⟨0, [32, 45, 32], 0⟩, ⟨1, [], 1⟩, ⟨0, [59], 0⟩, ⟨4, [], 0⟩, ⟨0, [10], 0⟩], 1⟩ : Ps) (⟨[102, 117, 110, 99, 32, 109, 97, 105, 110, 40, 41, 32, 123, 10, 9, 120, 32, 61, 32, 49, 32, 45, 32, 50, 59, 10, 125, 10], [], 0⟩ : Ps) := by
  have e : pstep SN (⟨[102, 117, 110, 99, 32, 109, 97, 105, 110, 40, 41, 32, 123, 10, 9, 120, 32, 61, 32], [⟨1, [], 0⟩, ⟨0, [32, 45, 32], 0⟩, ⟨1, [], 1⟩, ⟨0, [59], 0⟩, ⟨4, [], 0⟩, ⟨0, [10], 0⟩], 1⟩ : Ps) = (⟨[102, 117, 110, 99, 32, 109, 97, 105, 110, 40, 41, 32, 123, 10, 9, 120, 32, 61, 32], [⟨0, [49], 0⟩, ⟨0, [32, 45, 32], 0⟩, ⟨1, [], 1⟩, ⟨0, [59], 0⟩, ⟨4, [], 0⟩, ⟨0, [10], 0⟩], 1⟩ : Ps) := by simp [pstep, ndOf, SN, ndParts, exParts, isSt, tp, dcm1, dcm2]
  refine .more rfl ?_ (by decide) (by rw [e]; exact sm_11)
  exact .inr (.inl ⟨rfl, 0, rfl, by decide, sm_ok0, by decide, by decide⟩)
theorem sm_9 : RunsOK SN 9 (⟨[102, 117, 110, 99, 32, 109, 97, 105, 110, 40, 41, 32, 123, 10, 9, 120, 32, 61, 32], [⟨1, [], 2⟩, ⟨0, [59], 0⟩, ⟨4, [], 0⟩, ⟨0, [10], 0⟩], 1⟩ : Ps) (⟨[102, 117, 110, 99, 32, 109, 97, 105, 110, 40, 41, 32, 123, 10, 9, 120, 32, 61, 32, 49, 32, 45, 32, 50, 59, 10, 125, 10], [], 0⟩ : Ps) := by
  have e : pstep SN (⟨[102, 117, 110, 99, 32, 109, 97, 105, 110, 40, 41, 32, 123, 10, 9, 120, 32, 61, 32], [⟨1, [], 2⟩, ⟨0, [59], 0⟩, ⟨4, [], 0⟩, ⟨0, [10], 0⟩], 1⟩ : Ps) = (⟨[102, 117, 110, 99, 32, 109, 97, 105, 110, 40, 41, 32, 123, 10, 9, 120, 32, 61, 32], [⟨1, [], 0⟩, ⟨0, [32, 45, 32], 0⟩, ⟨1, [], 1⟩, ⟨0, [59], 0⟩, ⟨4, [], 0⟩, ⟨0, [10], 0⟩], 1⟩ : Ps) := rfl
  refine .more rfl ?_ (by decide) (by rw [e]; exact sm_10)
  exact .inr (.inl ⟨rfl, 2, rfl, by decide, sm_ok2, by decide, by decide⟩)
theorem sm_8 : RunsOK SN 10 (⟨[102, 117, 110, 99, 32, 109, 97, 105, 110, 40, 41, 32, 123, 10, 9, 120], [⟨0, [32, 61, 32], 0⟩, ⟨1, [], 2⟩, ⟨0, [59], 0⟩, ⟨4, [], 0⟩, ⟨0, [10], 0⟩], 1⟩ : Ps) (⟨[102, 117, 110, 99, 32, 109, 97, 105, 110, 40, 41, 32, 123, 10, 9, 120, 32, 61, 32, 49, 32, 45, 32, 50, 59, 10, 125, 10], [], 0⟩ : Ps) := by
  have e : pstep SN (⟨[102, 117, 110, 99, 32, 109, 97, 105, 110, 40, 41, 32, 123, 10, 9, 120], [⟨0, [32, 61, 32], 0⟩, ⟨1, [], 2⟩, ⟨0, [59], 0⟩, ⟨4, [], 0⟩, ⟨0, [10], 0⟩], 1⟩ : Ps) = (⟨[102, 117, 110, 99, 32, 109, 97, 105, 110, 40, 41, 32, 123, 10, 9, 120, 32, 61, 32], [⟨1, [], 2⟩, ⟨0, [59], 0⟩, ⟨4, [], 0⟩, ⟨0, [10], 0⟩], 1⟩ : Ps) := rfl
  refine .more rfl ?_ (by decide) (by rw [e]; exact sm_9)
  exact .inl ⟨rfl, by decide⟩
theorem sm_7 : RunsOK SN 11 (⟨[102, 117, 110, 99, 32, 109, 97, 105, 110, 40, 41, 32, 123, 10, 9], [⟨0, [120], 0⟩, ⟨0, [32, 61, 32], 0⟩, ⟨1, [], 2⟩, ⟨0, [59], 0⟩, ⟨4, [], 0⟩, ⟨0, [10], 0⟩], 1⟩ : Ps) (⟨[102, 117, 110, 99, 32, 109, 97, 105, 110, 40, 41, 32, 123, 10, 9, 120, 32, 61, 32, 49, 32, 45, 32, 50, 59, 10, 125, 10], [], 0⟩ : Ps) := by
  have e : pstep SN (⟨[102, 117, 110, 99, 32, 109, 97, 105, 110, 40, 41, 32, 123, 10, 9], [⟨0, [120], 0⟩, ⟨0, [32, 61, 32], 0⟩, ⟨1, [], 2⟩, ⟨0, [59], 0⟩, ⟨4, [], 0⟩, ⟨0, [10], 0⟩], 1⟩ : Ps) = (⟨[102, 117, 110, 99, 32, 109, 97, 105, 110, 40, 41, 32, 123, 10, 9, 120], [⟨0, [32, 61, 32], 0⟩, ⟨1, [], 2⟩, ⟨0, [59], 0⟩, ⟨4, [], 0⟩, ⟨0, [10], 0⟩], 1⟩ : Ps) := rfl
  refine .more rfl ?_ (by decide) (by rw [e]; exact sm_8)
  exact .inl ⟨rfl, by decide⟩
theorem sm_6 : RunsOK SN 12 (⟨[102, 117, 110, 99, 32, 109, 97, 105, 110, 40, 41, 32, 123, 10, 9], [⟨1, [], 3⟩, ⟨4, [], 0⟩, ⟨0, [10], 0⟩], 1⟩ : Ps) (⟨[102, 117, 110, 99, 32, 109, 97, 105, 110, 40, 41, 32, 123, 10, 9, 120, 32, 61, 32, 49, 32, 45, 32, 50, 59, 10, 125, 10], [], 0⟩ : Ps) := by
  have e : pstep SN (⟨[102, 117, 110, 99, 32, 109, 97, 105, 110, 40, 41, 32, 123, 10, 9], [⟨1, [], 3⟩, ⟨4, [], 0⟩, ⟨0, [10], 0⟩], 1⟩ : Ps) = (⟨[102, 117, 110, 99, 32, 109, 97, 105, 110, 40, 41, 32, 123, 10, 9], [⟨0, [120], 0⟩, ⟨0, [32, 61, 32], 0⟩, ⟨1, [], 2⟩, ⟨0, [59], 0⟩, ⟨4, [], 0⟩, ⟨0, [10], 0⟩], 1⟩ : Ps) := rfl
  refine .more rfl ?_ (by decide) (by rw [e]; exact sm_7)
  exact .inr (.inl ⟨rfl, 3, rfl, by decide, sm_ok3, by decide, by decide⟩)
theorem sm_5 : RunsOK SN 13 (⟨[102, 117, 110, 99, 32, 109, 97, 105, 110, 40, 41, 32, 123], [⟨3, [], 0⟩, ⟨1, [], 3⟩, ⟨4, [], 0⟩, ⟨0, [10], 0⟩], 1⟩ : Ps) (⟨[102, 117, 110, 99, 32, 109, 97, 105, 110, 40, 41, 32, 123, 10, 9, 120, 32, 61, 32, 49, 32, 45, 32, 50, 59, 10, 125, 10], [], 0⟩ : Ps) := by
  have e : pstep SN (⟨[102, 117, 110, 99, 32, 109, 97, 105, 110, 40, 41, 32, 123], [⟨3, [], 0⟩, ⟨1, [], 3⟩, ⟨4, [], 0⟩, ⟨0, [10], 0⟩], 1⟩ : Ps) = (⟨[102, 117, 110, 99, 32, 109, 97, 105, 110, 40, 41, 32, 123, 10, 9], [⟨1, [], 3⟩, ⟨4, [], 0⟩, ⟨0, [10], 0⟩], 1⟩ : Ps) := rfl
  refine .more rfl ?_ (by decide) (by rw [e]; exact sm_6)
  exact .inr (.inr (.inl ⟨rfl, by decide⟩))
theorem sm_4 : RunsOK SN 14 (⟨[102, 117, 110, 99, 32, 109, 97, 105, 110, 40, 41, 32], [⟨0, [123], 0⟩, ⟨3, [], 0⟩, ⟨1, [], 3⟩, ⟨4, [], 0⟩, ⟨0, [10], 0⟩], 1⟩ : Ps) (⟨[102, 117, 110, 99, 32, 109, 97, 105, 110, 40, 41, 32, 123, 10, 9, 120, 32, 61, 32, 49, 32, 45, 32, 50, 59, 10, 125, 10], [], 0⟩ : Ps) := by
  have e : pstep SN (⟨[102, 117, 110, 99, 32, 109, 97, 105, 110, 40, 41, 32], [⟨0, [123], 0⟩, ⟨3, [], 0⟩, ⟨1, [], 3⟩, ⟨4, [], 0⟩, ⟨0, [10], 0⟩], 1⟩ : Ps) = (⟨[102, 117, 110, 99, 32, 109, 97, 105, 110, 40, 41, 32, 123], [⟨3, [], 0⟩, ⟨1, [], 3⟩, ⟨4, [], 0⟩, ⟨0, [10], 0⟩], 1⟩ : Ps) := rfl
  refine .more rfl ?_ (by decide) (by rw [e]; exact sm_5)
  exact .inl ⟨rfl, by decide⟩
theorem sm_3 : RunsOK SN 15 (⟨[102, 117, 110, 99, 32, 109, 97, 105, 110, 40, 41, 32], [⟨1, [], 4⟩, ⟨0, [10], 0⟩], 0⟩ : Ps) (⟨[102, 117, 110, 99, 32, 109, 97, 105, 110, 40, 41, 32, 123, 10, 9, 120, 32, 61, 32, 49, 32, 45, 32, 50, 59, 10, 125, 10], [], 0⟩ : Ps) := by
  have e : pstep SN (⟨[102, 117, 110, 99, 32, 109, 97, 105, 110, 40, 41, 32], [⟨1, [], 4⟩, ⟨0, [10], 0⟩], 0⟩ : Ps) = (⟨[102, 117, 110, 99, 32, 109, 97, 105, 110, 40, 41, 32], [⟨0, [123], 0⟩, ⟨3, [], 0⟩, ⟨1, [], 3⟩, ⟨4, [], 0⟩, ⟨0, [10], 0⟩], 1⟩ : Ps) := rfl
  refine .more rfl ?_ (by decide) (by rw [e]; exact sm_4)
  exact .inr (.inl ⟨rfl, 4, rfl, by decide, sm_ok4, by decide, by decide⟩)
theorem sm_2 : RunsOK SN 16 (⟨[102, 117, 110, 99, 32, 109, 97, 105, 110, 40], [⟨0, [41, 32], 0⟩, ⟨1, [], 4⟩, ⟨0, [10], 0⟩], 0⟩ : Ps) (⟨[102, 117, 110, 99, 32, 109, 97, 105, 110, 40, 41, 32, 123, 10, 9, 120, 32, 61, 32, 49, 32, 45, 32, 50, 59, 10, 125, 10], [], 0⟩ : Ps) := by
  have e : pstep SN (⟨[102, 117, 110, 99, 32, 109, 97, 105, 110, 40], [⟨0, [41, 32], 0⟩, ⟨1, [], 4⟩, ⟨0, [10], 0⟩], 0⟩ : Ps) = (⟨[102, 117, 110, 99, 32, 109, 97, 105, 110, 40, 41, 32], [⟨1, [], 4⟩, ⟨0, [10], 0⟩], 0⟩ : Ps) := rfl
  refine .more rfl ?_ (by decide) (by rw [e]; exact sm_3)
  exact .inl ⟨rfl, by decide⟩
theorem sm_1 : RunsOK SN 17 (⟨[], [⟨0, [102, 117, 110, 99, 32, 109, 97, 105, 110, 40], 0⟩, ⟨0, [41, 32], 0⟩, ⟨1, [], 4⟩, ⟨0, [10], 0⟩], 0⟩ : Ps) (⟨[102, 117, 110, 99, 32, 109, 97, 105, 110, 40, 41, 32, 123, 10, 9, 120, 32, 61, 32, 49, 32, 45, 32, 50, 59, 10, 125, 10], [], 0⟩ : Ps) := by
  have e : pstep SN (⟨[], [⟨0, [102, 117, 110, 99, 32, 109, 97, 105, 110, 40], 0⟩, ⟨0, [41, 32], 0⟩, ⟨1, [], 4⟩, ⟨0, [10], 0⟩], 0⟩ : Ps) = (⟨[102, 117, 110, 99, 32, 109, 97, 105, 110, 40], [⟨0, [41, 32], 0⟩, ⟨1, [], 4⟩, ⟨0, [10], 0⟩], 0⟩ : Ps) := rfl
  refine .more rfl ?_ (by decide) (by rw [e]; exact sm_2)
  exact .inl ⟨rfl, by decide⟩
theorem sm_0 : RunsOK SN 18 (⟨[], [⟨1, [], 5⟩], 0⟩ : Ps) (⟨[102, 117, 110, 99, 32, 109, 97, 105, 110, 40, 41, 32, 123, 10, 9, 120, 32, 61, 32, 49, 32, 45, 32, 50, 59, 10, 125, 10], [], 0⟩ : Ps) := by
  have e : pstep SN (⟨[], [⟨1, [], 5⟩], 0⟩ : Ps) = (⟨[], [⟨0, [102, 117, 110, 99, 32, 109, 97, 105, 110, 40], 0⟩, ⟨0, [41, 32], 0⟩, ⟨1, [], 4⟩, ⟨0, [10], 0⟩], 0⟩ : Ps) := rfl
  refine .more rfl ?_ (by decide) (by rw [e]; exact sm_1)
  exact .inr (.inl ⟨rfl, 5, rfl, by decide, sm_ok5, by decide, by decide⟩)
theorem smp_prints : PrintsOK SN [5] ⟨[], [], 0⟩ ⟨STX, [], 0⟩ := .cons sm_0 rfl (.nil _)
end Go.Proofs.YtjepkcebfojiaaaDoor
namespace Go.Proofs.YtjepkcebfojiaaaDoor
open Go.ChangeShapes Go.WideShapes Go.ChangeAt Go.RowKit

def smpArr (h : Nat) (o : Int) : Array Value := #[.int .i64 20, .int .i64 0, .int .i64 0, .int .i64 0, .int .i64 0, .int .i64 0, .int .i64 o, .int .i64 1, .string ⟨#[]⟩, .slice none 0 0, .int .i64 20, .int .i64 0, .int .i64 0, .int .i64 0, .int .i64 0, .int .i64 0, .int .i64 0, .int .i64 2, .string ⟨#[]⟩, .slice none 0 0, .int .i64 31, .int .i64 0, .int .i64 0, .int .i64 0, .int .i64 0, .int .i64 0, .int .i64 2, .int .i64 0, .string ⟨#[]⟩, .slice (some ⟨h + 1, 0, none⟩) 2 2, .int .i64 5, .int .i64 0, .int .i64 0, .int .i64 0, .int .i64 0, .int .i64 0, .int .i64 0, .int .i64 0, .string ⟨#[120]⟩, .slice (some ⟨h + 1 + 1, 0, none⟩) 1 1, .int .i64 3, .int .i64 0, .int .i64 0, .int .i64 0, .int .i64 0, .int .i64 0, .int .i64 0, .int .i64 0, .string ⟨#[]⟩, .slice (some ⟨h + 1 + 1 + 1, 0, none⟩) 1 1, .int .i64 1, .int .i64 0, .int .i64 0, .int .i64 0, .int .i64 0, .int .i64 0, .int .i64 0, .int .i64 0, .string ⟨#[109, 97, 105, 110]⟩, .slice (some ⟨h + 1 + 1 + 1 + 1, 0, none⟩) 1 1]
/-- The sample in memory, from block h + 1 on; o: what stands as its first node's operator. -/
structure SmpAt (w : World) (h : Nat) (o : Int) : Prop where
  b1 : w.heap[h + 1]? = some (.cells #[.int .i64 0, .int .i64 1] 3 (0, 0))
  b2 : w.heap[h + 1 + 1]? = some (.cells #[.int .i64 2] 3 (0, 0))
  b3 : w.heap[h + 1 + 1 + 1]? = some (.cells #[.int .i64 3] 3 (0, 0))
  b4 : w.heap[h + 1 + 1 + 1 + 1]? = some (.cells #[.int .i64 4] 3 (0, 0))
  b5 : w.heap[h + 1 + 1 + 1 + 1 + 1]? = some (.cells (smpArr h o) 39 (0, 0))
  b6 : w.heap[h + 1 + 1 + 1 + 1 + 1 + 1]? = some (.cells #[.int .i64 5] 3 (0, 0))
theorem SmpAt.below {w w' h o K} (s : SmpAt w h o) (hb : Below K w w') (hK : h + 6 < K) : SmpAt w' h o :=
  ⟨by rw [hb.block _ (by omega)]; exact s.b1, by rw [hb.block _ (by omega)]; exact s.b2, by rw [hb.block _ (by omega)]; exact s.b3, by rw [hb.block _ (by omega)]; exact s.b4, by rw [hb.block _ (by omega)]; exact s.b5, by rw [hb.block _ (by omega)]; exact s.b6⟩
theorem lt_of_heap {w : World} {g : Nat} {c : Obj} (h : w.heap[g]? = some c) : g < w.heap.size := (Array.getElem?_eq_some_iff.1 h).1
theorem ints_one {w : World} {g : Nat} {x : Int} (h : w.heap[g]? = some (.cells #[.int .i64 x] 3 (0, 0))) : Ints w (some ⟨g, 0, none⟩) 1 [x] :=
  ⟨by simp, by omega, fun _ => ⟨g, 0, rfl, lt_of_heap h, fun i hi => by
    obtain rfl : i = 0 := by simp at hi; omega
    exact cell_arr h rfl⟩⟩
theorem ints_two {w : World} {g : Nat} {x y : Int} (h : w.heap[g]? = some (.cells #[.int .i64 x, .int .i64 y] 3 (0, 0))) : Ints w (some ⟨g, 0, none⟩) 2 [x, y] :=
  ⟨by simp, by omega, fun _ => ⟨g, 0, rfl, lt_of_heap h, fun i hi => by
    match i, hi with
    | 0, _ => exact cell_arr h rfl
    | 1, _ => exact cell_arr h rfl
    | i + 2, hi => simp at hi; omega⟩⟩
def SNo (o : Int) : List Nd := [⟨20, 0, 0, 0, 0, 0, o, 1, [], []⟩, ⟨20, 0, 0, 0, 0, 0, 0, 2, [], []⟩, ⟨31, 0, 0, 0, 0, 0, 2, 0, [], [0, 1]⟩, ⟨5, 0, 0, 0, 0, 0, 0, 0, [120], [2]⟩, ⟨3, 0, 0, 0, 0, 0, 0, 0, [], [3]⟩, ⟨1, 0, 0, 0, 0, 0, 0, 0, [109, 97, 105, 110], [4]⟩]
theorem ints_nil (w : World) (a : Option Addr) (c : Nat) (h : c ≤ 9223372036854775807) : Ints w a c [] := Ints.ofNil rfl h
theorem SmpAt.nodes {w h o} (s : SmpAt w h o) : Nodes w (some ⟨h + 1 + 1 + 1 + 1 + 1, 0, none⟩) 6 (SNo o) := by
  refine ⟨by simp [SNo], by omega, fun _ => ⟨_, 0, rfl, lt_of_heap s.b5, fun i hi => ?_⟩⟩
  have hc : ∀ k v, (smpArr h o)[k]? = some v → w.cell? ⟨h + 1 + 1 + 1 + 1 + 1, k, none⟩ = some v := fun k v hv => cell_arr s.b5 hv
  match i, hi with
  | 0, _ => exact ⟨none, 0, hc 0 _ rfl, hc 1 _ rfl, hc 2 _ rfl, hc 3 _ rfl, hc 4 _ rfl, hc 5 _ rfl, hc 6 _ rfl, hc 7 _ rfl, hc 8 _ rfl, hc 9 _ rfl, ints_nil _ _ _ (by omega)⟩
  | 1, _ => exact ⟨none, 0, hc 10 _ rfl, hc 11 _ rfl, hc 12 _ rfl, hc 13 _ rfl, hc 14 _ rfl, hc 15 _ rfl, hc 16 _ rfl, hc 17 _ rfl, hc 18 _ rfl, hc 19 _ rfl, ints_nil _ _ _ (by omega)⟩
  | 2, _ => exact ⟨some ⟨h + 1, 0, none⟩, 2, hc 20 _ rfl, hc 21 _ rfl, hc 22 _ rfl, hc 23 _ rfl, hc 24 _ rfl, hc 25 _ rfl, hc 26 _ rfl, hc 27 _ rfl, hc 28 _ rfl, hc 29 _ rfl, ints_two s.b1⟩
  | 3, _ => exact ⟨some ⟨h + 1 + 1, 0, none⟩, 1, hc 30 _ rfl, hc 31 _ rfl, hc 32 _ rfl, hc 33 _ rfl, hc 34 _ rfl, hc 35 _ rfl, hc 36 _ rfl, hc 37 _ rfl, hc 38 _ rfl, hc 39 _ rfl, ints_one s.b2⟩
  | 4, _ => exact ⟨some ⟨h + 1 + 1 + 1, 0, none⟩, 1, hc 40 _ rfl, hc 41 _ rfl, hc 42 _ rfl, hc 43 _ rfl, hc 44 _ rfl, hc 45 _ rfl, hc 46 _ rfl, hc 47 _ rfl, hc 48 _ rfl, hc 49 _ rfl, ints_one s.b3⟩
  | 5, _ => exact ⟨some ⟨h + 1 + 1 + 1 + 1, 0, none⟩, 1, hc 50 _ rfl, hc 51 _ rfl, hc 52 _ rfl, hc 53 _ rfl, hc 54 _ rfl, hc 55 _ rfl, hc 56 _ rfl, hc 57 _ rfl, hc 58 _ rfl, hc 59 _ rfl, ints_one s.b4⟩
  | i + 6, hi => simp [SNo] at hi; omega

set_option maxRecDepth 20000 in
set_option maxHeartbeats 4000000 in
theorem sample_any (w : World) : Calls Tryd.prog 16 #[] w fun e w' => e = .returned (.agg #[.slice (some ⟨w.heap.size + 1 + 1 + 1 + 1 + 1, 0, none⟩) 6 6, .slice (some ⟨w.heap.size + 1 + 1 + 1 + 1 + 1 + 1, 0, none⟩) 1 1]) ∧ SmpAt w' w.heap.size 0 ∧ w'.heap.size = w.heap.size + 7 ∧ Below w.heap.size w w' := by
  go_enter Tryd.func16, Tryd.ntmps16
  go_wp2
  refine bodyPost_ret (v := .agg #[.slice (some ⟨w.heap.size + 1 + 1 + 1 + 1 + 1, 0, none⟩) 6 6, .slice (some ⟨w.heap.size + 1 + 1 + 1 + 1 + 1 + 1, 0, none⟩) 1 1]) (by simp [results, Tryd.results16, go_sem]) rfl ⟨rfl, ?_, by simp, ?_⟩
  · have al : ∀ (X : World) (ob : Obj) (k : Nat), k = X.heap.size → (X.alloc ob).heap[k]? = some ob := fun X ob k e => by rw [e]; exact heap_alloc_last X ob
    have ol : ∀ (X : World) (ob : Obj) (k : Nat) (c : Obj), X.heap[k]? = some c → (X.alloc ob).heap[k]? = some c := fun X ob k c e => by rw [heap_alloc_old X ob (lt_of_heap e)]; exact e
    exact ⟨ol _ _ _ _ (ol _ _ _ _ (ol _ _ _ _ (ol _ _ _ _ (ol _ _ _ _ (al _ _ _ (by simp)))))), ol _ _ _ _ (ol _ _ _ _ (ol _ _ _ _ (ol _ _ _ _ (al _ _ _ (by simp))))), ol _ _ _ _ (ol _ _ _ _ (ol _ _ _ _ (al _ _ _ (by simp)))), ol _ _ _ _ (ol _ _ _ _ (al _ _ _ (by simp))), ol _ _ _ _ (al _ _ _ (by simp)), al _ _ _ (by simp)⟩
  · exact (by repeat (first | refine Below.alloc ?_ (by first | omega | (simp; done) | (simp; omega)) _ | exact Below.refl _ _))
end Go.Proofs.YtjepkcebfojiaaaDoor
namespace Go.Proofs.YtjepkcebfojiaaaDoor
open Go.ChangeShapes Go.WideShapes Go.ChangeAt Go.RowKit

theorem OwnB.view {w B v n M} (h : OwnB w B v n M) : ∃ ao cap, v = .slice ao n cap ∧ (ao = none → cap = 0) ∧ Txt w ao cap M := by
  have hn := h.len
  subst hn
  rcases h.out.2 with ⟨rfl, hn⟩ | ⟨g, cap, cur, rfl, e2, e3, e4, e5, e6, e7⟩
  · have : M = [] := List.length_eq_zero_iff.1 hn
    subst this
    exact ⟨none, 0, rfl, fun _ => rfl, by simp, by omega, fun h => absurd rfl h⟩
  · refine ⟨_, cap, rfl, (fun h => by cases h), e4, e5, fun _ => ⟨g, 0, rfl, (Array.getElem?_eq_some_iff.1 e3).1, fun i hi => ?_⟩⟩
    have h1 := bvs_at M i hi
    rw [← e7, List.getElem?_take, if_pos (by omega)] at h1
    exact cell_arr e3 (by rw [Nat.zero_add, ← h1]; simp)
end Go.Proofs.YtjepkcebfojiaaaDoor
namespace Go.Proofs.YtjepkcebfojiaaaDoor
open Go.ChangeShapes Go.WideShapes Go.ChangeAt Go.RowKit

/-- All tables. -/
structure AllTab (w : World) : Prop where
  tab : Tab w
  lo : 1 < w.heap.size ∧ 3 < w.heap.size
  t1 : ∀ i, i < 4 → w.cell? ⟨1, i, none⟩ = some (.string (bs (TYPES.getD i [])))
  t2 : ∀ i, i < 23 → w.cell? ⟨3, i, none⟩ = some (.string (bs (OPS.getD i [])))
  tp : ∀ w', Below w.heap.size w w' → TabP w'
theorem AllTab.below {w w'} (h : AllTab w) (hb : Below w.heap.size w w') : AllTab w' :=
  ⟨h.tab.below hb h.tab.1, ⟨by have := h.lo.1; have := hb.size; omega, by have := h.lo.2; have := hb.size; omega⟩, fun i hi => cell_below hb h.lo.1 (h.t1 i hi), fun i hi => cell_below hb h.lo.2 (h.t2 i hi), fun w2 hb2 => h.tp w2 (hb.trans (hb2.mono hb.size))⟩

theorem num3_any (z : Int) (w : World) : Calls Tryd.prog 9 #[.int .i64 z] w fun e w' => e = .returned (.int .i64 z) ∧ w = w' := by
  go_enter Tryd.func9, Tryd.ntmps9
  go_wp2
  go_ret
  exact ⟨rfl, rfl⟩

theorem SmpAt.set {w h} (s : SmpAt w h 0) : SmpAt (w.setCell ⟨h + 1 + 1 + 1 + 1 + 1, 6, none⟩ (.int .i64 1)) h 1 :=
  ⟨by rw [heap_set_other (by omega)]; exact s.b1, by rw [heap_set_other (by omega)]; exact s.b2, by rw [heap_set_other (by omega)]; exact s.b3, by rw [heap_set_other (by omega)]; exact s.b4, by rw [heap_set_at s.b5]; rfl, by rw [heap_set_other (by omega)]; exact s.b6⟩

set_option maxRecDepth 20000 in
set_option maxHeartbeats 4000000 in
theorem alive3_any (w : World) (hA : AllTab w) : Calls Tryd.prog 7 #[] w fun e w' => e = .returned (.bool true) ∧ Below w.heap.size w w' := by
  have HA : Hid (AllTab w) := hA
  clear hA
  go_enter Tryd.func7, Tryd.ntmps7
  go_wp2_with fail
  refine (sample_any w).mono ?_
  rintro e w1 ⟨rfl, hs, hz, hb1⟩
  obtain ⟨h, hh⟩ : ∃ h, h = w.heap.size := ⟨_, rfl⟩
  rw [← hh] at hs hz ⊢
  have HHH : Hid (h = w.heap.size) := hh
  have hz1 : h + 7 ≤ w1.heap.size := by omega
  clear hz
  have hhl : w.heap.size ≤ w1.heap.size := hb1.size
  clear hh
  go_wp2_with fail
  have hbA : Below w.heap.size w (w1.alloc (.cells #[.slice (some ⟨h + 1 + 1 + 1 + 1 + 1, 0, none⟩) 6 6, .slice (some ⟨h + 1 + 1 + 1 + 1 + 1 + 1, 0, none⟩) 1 1] 25)) := hb1.alloc (by omega) _
  have hbw1 : Below w1.heap.size w1 (w1.alloc (.cells #[.slice (some ⟨h + 1 + 1 + 1 + 1 + 1, 0, none⟩) 6 6, .slice (some ⟨h + 1 + 1 + 1 + 1 + 1 + 1, 0, none⟩) 1 1] 25)) := (Below.refl _ _).alloc (Nat.le_refl _) _
  have AA := HA.out.below hbA
  have sA := hs.below hbw1 (by omega)
  refine (print_yes _ AA.tab AA.lo AA.t1 AA.t2 AA.tp _ 6 6 _ 1 1 SMP rfl rfl sA.nodes (ints_one sA.b6) (by omega) smp_chk ⟨STX, [], 0⟩ smp_prints).mono ?_
  rintro e w2 ⟨⟨v, n, rfl, hO⟩, hb2⟩
  have hs2 := hb2.size
  simp at hs2
  have f0 : w2.cell? ⟨w1.heap.size, 0, none⟩ = some (.slice (some ⟨h + 1 + 1 + 1 + 1 + 1, 0, none⟩) 6 6) := cell_below hb2 (by simp) (by simp)
  have f1 : w2.cell? ⟨w1.heap.size, 1, none⟩ = some (.slice (some ⟨h + 1 + 1 + 1 + 1 + 1 + 1, 0, none⟩) 1 1) := cell_below hb2 (by simp) (by simp)
  have hbA2 : Below w.heap.size w w2 := hbA.trans (hb2.mono (by simp; omega))
  have s2 := sA.below hb2 (by simp; omega)
  clear AA sA hs
  go_wp2_with fail
  refine (check_any w2 (HA.out.below hbA2).tab _ 6 6 _ 1 1 SMP rfl rfl s2.nodes (ints_one s2.b6) (by omega)).mono ?_
  rintro e w3 ⟨rfl, hb3⟩
  rw [smp_chk]
  have hs3 := hb3.size
  have g0 : w3.cell? ⟨w1.heap.size, 0, none⟩ = some (.slice (some ⟨h + 1 + 1 + 1 + 1 + 1, 0, none⟩) 6 6) := cell_below hb3 (by omega) f0
  have g1 : w3.cell? ⟨w1.heap.size, 1, none⟩ = some (.slice (some ⟨h + 1 + 1 + 1 + 1 + 1 + 1, 0, none⟩) 1 1) := cell_below hb3 (by omega) f1
  have hbA3 : Below w.heap.size w w3 := hbA2.trans (hb3.mono (by omega))
  have s3 := s2.below hb3 (by omega)
  have hO3 := hO.keep hb3
  have c6 : w3.cell? ⟨h + 1 + 1 + 1 + 1 + 1, 6, none⟩ = some (.int .i64 0) := cell_arr s3.b5 rfl
  have hfz : w3.frozen? ⟨h + 1 + 1 + 1 + 1 + 1, 6, none⟩ = false := fz_of s3.b5
  have hne : ¬ w1.heap.size = h + 1 + 1 + 1 + 1 + 1 := by omega
  have hne2 : ¬ h + 1 + 1 + 1 + 1 + 1 = w1.heap.size := by omega
  simp only [if_true]
  clear f0 f1 s2 hO
  go_wp2_with fail
  have s4 := s3.set
  have hbA4 : Below w.heap.size w (w3.setCell ⟨h + 1 + 1 + 1 + 1 + 1, 6, none⟩ (.int .i64 1)) := hbA3.setCell (p := ⟨h + 1 + 1 + 1 + 1 + 1, 6, none⟩) (by show w.heap.size ≤ h + 1 + 1 + 1 + 1 + 1; have := HHH.out; omega) _
  have hO4 : OwnB (w3.setCell ⟨h + 1 + 1 + 1 + 1 + 1, 6, none⟩ (.int .i64 1)) _ v n STX := ⟨hO3.len, own_move hO3.out fun g hg => heap_set_other (fun e => by have := (own_block hO3.out hg).1; simp at this; omega)⟩
  refine (check_any _ (HA.out.below hbA4).tab _ 6 6 _ 1 1 SMP2 rfl rfl s4.nodes (ints_one s4.b6) (by omega)).mono ?_
  rintro e w5 ⟨rfl, hb5⟩
  rw [smp2_chk]
  simp only [Bool.false_eq_true, if_false]
  have hO5 := hO4.keep hb5
  have hbA5 : Below w.heap.size w w5 := hbA4.trans (hb5.mono hbA4.size)
  obtain ⟨va, vc, rfl, _, hTx⟩ := hO5.view
  have hcv := hTx.conv n hO5.len
  obtain ⟨st, hst⟩ : ∃ st, st = bs STX := ⟨_, rfl⟩
  rw [← hst] at hcv
  have hstl : st.toList = STX := by rw [hst, bs_toList]
  unfold STX at hstl
  clear hst hO3 hO4 hO5 hTx s3 s4 c6 hfz g0 g1
  go_wp2_with (first | (go_at_call 9; refine (num3_any _ _).mono ?_; rintro e w' ⟨rfl, rfl⟩))
  go_ret
  exact ⟨rfl, hbA5⟩
end Go.Proofs.YtjepkcebfojiaaaDoor
