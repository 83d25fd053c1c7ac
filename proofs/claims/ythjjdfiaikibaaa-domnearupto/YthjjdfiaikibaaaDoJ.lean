import Derived.Test.YthjjdfiaikibaaaDoI
import Derived.Test.YthjjdfiaikibaaaDoH
set_option linter.unusedVariables false
set_option linter.unusedSimpArgs false
namespace Go.Proofs.Ythjjdfiaikibaaa
open Go.ChangeShapes Go.WideShapes Go.ChangeAt Go.RowKit Go.Maps

theorem dm_zero {Ls : List (List Int)} (hg : goodP Ls = true) {a : Int} (h : Dm Ls a 0) : a = 0 :=
  Classical.byContradiction fun q => h.2.2 (woP_spec hg (out := a) q).1
/-- The way up along the immediate dominators meets just the blocks that are over a block. -/
theorem ovr_dm {Ls : List (List Int)} (hg : goodP Ls = true) (a : Nat) : ∀ (k : Nat) (b : Nat) (m : Bool), (b : Int) ∈ (walkP Ls).bl → plc (walkP Ls).bl b < k → (ovr (treeP Ls) a k b m = true ↔ m = true ∨ Dm Ls a b)
  | 0, b, m, hb, hk => by have := plc_lt hb; omega
  | k + 1, b, m, hb, hk => by
    have hr := (walkP_wi hg).rng _ hb
    have hl := treeP_len hg
    have e : (treeP Ls).getD (b : Int).toNat 0 = gn (treeP Ls) b := by simp [gn]
    rw [ovr, e, hl]
    by_cases h0 : b = 0
    · subst h0
      rw [treeP_none hg (by omega) (.inr rfl), if_neg (by omega)]
      simp only [Bool.or_eq_true, decide_eq_true_eq]
      constructor
      · rintro (h | h)
        · exact .inl h
        · right; rw [h]; exact Dm.refl hg hb
      · rintro (h | h)
        · exact .inl h
        · right; have := dm_zero hg h; omega
    · have hI := treeP_some hg hb h0
      have hrd := (walkP_wi hg).rng _ hI.ov.1
      obtain ⟨d, hd⟩ : ∃ d : Nat, gn (treeP Ls) b = d := ⟨(gn (treeP Ls) b).toNat, by omega⟩
      rw [hd] at hI hrd ⊢
      rw [if_pos hrd]
      have hp := hI.ov.place hg
      have hp2 : plc (walkP Ls).bl d ≠ plc (walkP Ls).bl b := fun q => hI.ne (by rw [← (plc_lt hI.ov.1).2.2, q, (plc_lt hb).2.2])
      rw [ovr_dm hg a k d _ hI.ov.1 (by omega)]
      simp only [Bool.or_eq_true, decide_eq_true_eq]
      constructor
      · rintro ((h | h) | h)
        · exact .inl h
        · right; rw [h]; exact Dm.refl hg hb
        · exact .inr (h.trans hg hI.ov)
      · rintro (h | h)
        · exact .inl (.inl h)
        · by_cases hab : (a : Int) = b
          · exact .inl (.inr hab)
          · exact .inr (hI.near a h hab)
theorem over_ovb {Ls : List (List Int)} (hg : goodP Ls = true) {a b : Nat} (ha : (a : Int) ∈ (walkP Ls).bl) (hb : (b : Int) ∈ (walkP Ls).bl) : overP (treeP Ls) a b = !decide ((b : Int) ∈ woP Ls a) := by
  have h1 := (walkP_wi hg).rng _ ha
  have h2 := (walkP_wi hg).rng _ hb
  have hl := treeP_len hg
  have h3 := plc_lt hb
  have h4 := (walkP_wi hg).le
  have key := ovr_dm hg a (treeP Ls).length b false hb (by omega)
  unfold overP
  rw [if_pos (by rw [hl]; exact ⟨h1, h2⟩)]
  by_cases hw : (b : Int) ∈ woP Ls a
  · rw [decide_eq_true hw]
    cases e : ovr (treeP Ls) a (treeP Ls).length b false with
    | false => rfl
    | true => rw [e] at key; have := key.1 rfl; rcases this with q | q
              · cases q
              · exact absurd hw q.2.2
  · rw [decide_eq_false hw]
    exact key.2 (.inr ⟨ha, hb, hw⟩)
/-- Of what is not good the program tells nothing. -/
theorem tree_bad (w : World) (ao : Option Addr) (n c : Nat) (Ls : List (List Int)) (hn : n = Ls.length) (h : IRow w ao c Ls) (hg : goodP Ls = false) :
    Calls Try.prog 16 #[.slice ao n c] w fun e w' => e = .returned (.slice none 0 0) ∧ w' = w := by
  have hgd := good_any w ao n c Ls hn h
  rw [hg] at hgd
  clear h hg hn
  go_enter Try.func16, Try.ntmps16
  go_wp2_with fail
  refine hgd.mono ?_
  rintro e w' ⟨rfl, rfl⟩
  go_wp2_with fail
  go_ret
  exact ⟨rfl, rfl⟩
end Go.Proofs.Ythjjdfiaikibaaa
