import Derived.Test.YthjjdfiaikibaabDmY
set_option linter.unusedVariables false
set_option linter.unusedSimpArgs false
namespace Go.Proofs.Ythjjdfiaikibaab
open Go.ChangeShapes Go.WideShapes Go.ChangeAt Go.RowKit Go.Maps

set_option maxHeartbeats 1000000 in
/-- The document's Reach answers as the program's. -/
theorem refReach_any (w : World) (ao : Option Addr) (n c : Nat) (Ls : List (List Int)) (hn : n = Ls.length) (h : IRow w ao c Ls) (hsz : n ≤ 100000000) :
    Calls Try.prog 13 #[.slice ao n c] w fun e w' => ∃ v, e = .returned v ∧ OwnBl w' w.heap.size v (reachP Ls).length (reachP Ls) ∧ Below w.heap.size w w' := by
  have hgd := refGood_any w ao n c Ls hn h
  by_cases hg : goodP Ls = true
  · rw [hg] at hgd
    have hwo := without_any w ao n c Ls hn h hg hsz (-1)
    have HR : Hid (reachP Ls = rch n (woP Ls (-1)) ∧ (reachP Ls).length = n) := by
      have e : reachP Ls = rch n (woP Ls (-1)) := by unfold reachP; rw [if_pos hg, rch_reach hg, hn]
      exact ⟨e, by rw [e, rch_len]⟩
    clear h hn hg
    go_enter Try.func13, Try.ntmps13
    go_wp2_with fail
    refine hgd.mono ?_
    rintro e w' ⟨rfl, rfl⟩
    go_wp2_with fail
    refine hwo.mono ?_
    rintro e w2 ⟨v, rfl, HO, hb⟩
    have HO' : Hid _ := HO
    have HB : Hid _ := hb
    clear HO hb hwo hgd
    go_wp2_with fail
    go_ret
    exact ⟨_, rfl, by rw [HR.out.2, HR.out.1]; exact HO'.out, HB.out⟩
  · have hg' : goodP Ls = false := by simpa using hg
    rw [hg'] at hgd
    have HR : Hid (reachP Ls = []) := by show _ = _; unfold reachP; rw [if_neg hg]
    clear h hn hg hg'
    go_enter Try.func13, Try.ntmps13
    go_wp2_with fail
    refine hgd.mono ?_
    rintro e w' ⟨rfl, rfl⟩
    go_wp2_with fail
    go_ret
    rw [HR.out]
    exact ⟨_, rfl, OwnBl.nil _ _, Below.refl _ _⟩
end Go.Proofs.Ythjjdfiaikibaab
