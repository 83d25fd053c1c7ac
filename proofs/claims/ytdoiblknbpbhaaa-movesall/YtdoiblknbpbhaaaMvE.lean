import Derived.Test.YtdoiblknbpbhaaaMvD
set_option linter.unusedVariables false
set_option linter.unusedSimpArgs false
namespace Go.Proofs.Ytdoiblknbpbhaaa
open Go.ChangeShapes Go.WideShapes Go.ChangeAt Go.RowKit Go.Maps

/-- Which of the moves sets a place. -/
def ixP (L : List Lc) (p : Lc) : Int := if p ∈ L then (L.idxOf p : Int) else 0
theorem ixP_app {L : List Lc} {x : Lc} (hx : x ∉ L) (p : Lc) : ixP (L ++ [x]) p = if p = x then (L.length : Int) else ixP L p := by
  unfold ixP
  by_cases h : p = x
  · subst h
    simp [List.idxOf_append, hx]
  · rw [if_neg h]
    by_cases h2 : p ∈ L
    · simp [h2, List.idxOf_append]
    · simp [h2, h]
def tks (l : List Mv) (k : Nat) : List Lc := (l.take k).map Prod.fst
theorem tos_take {l : List Mv} {k : Nat} (hk : k < l.length) : tks l (k + 1) = tks l k ++ [l[k].1] := by
  unfold tks
  rw [List.take_succ_eq_append_getElem hk, List.map_append]
  rfl
theorem tks_len {l : List Mv} {k : Nat} (hk : k ≤ l.length) : (tks l k).length = k := by simp [tks]; omega
theorem tks_all (l : List Mv) : tks l l.length = l.map Prod.fst := by simp [tks]
theorem tks_sub (l : List Mv) (k : Nat) : (tks l k).Sublist (l.map Prod.fst) := (List.take_sublist k l).map _
theorem run_mk (w : World) (n : Int) : (Instr.makeMap 51 (some (.int .i64 n))).run Try.prog w = .ok (.map (some w.heap.size)) (w.alloc (.map #[] 0)) := by
  simp [Instr.makeMap, run_underlying Try.underlying51, asInt, asIntOf, Result.andThen, run_newObj]
set_option maxRecDepth 100000 in
set_option maxHeartbeats 4000000 in
theorem setters_any (w : World) {la : Option Addr} {ln lc : Nat} {l : List Mv} (hL : Mvs w la lc l) (hn : ln = l.length) (hsz : ln ≤ 1000000) :
    Calls Try.prog 22 #[.slice la ln lc] w fun e w' => (((l.map Prod.fst).Nodup ∧ ∃ mb, e = .returned (.tuple #[.map (some mb), .bool true]) ∧ MpL w' mb ln (fun p => decide (p ∈ l.map Prod.fst)) (ixP (l.map Prod.fst)) ∧ w.heap.size ≤ mb) ∨ (¬ (l.map Prod.fst).Nodup ∧ e = .returned (.tuple #[.map none, .bool false]))) ∧ Below w.heap.size w w' := by
  have HL : Hid (Mvs w la lc l) := hL
  have HN : Hid (ln = l.length) := hn
  have hmx : ln ≤ 9223372036854775807 := by omega
  have HM0 : Hid (MpL (w.alloc (.map #[] 0)) w.heap.size 0 (fun _ => false) (fun _ => 0)) := MpL.made w
  have HM1 : Hid (MpL (w.alloc (.map #[] 0)) w.heap.size 0 (fun p => decide (p ∈ tks l 0)) (ixP (tks l 0))) := by
    have e : (fun p => decide (p ∈ tks l 0)) = fun _ => false := by funext p; simp [tks]
    have e2 : ixP (tks l 0) = fun _ => 0 := by funext p; simp [tks, ixP]
    rw [e, e2]; exact HM0
  clear HM0
  have HB0 : Hid (Below w.heap.size w (w.alloc (.map #[] 0))) := by repeat (first | refine Below.alloc ?_ (by first | omega | (simp; done) | (simp; omega)) _ | refine Below.drew ?_ | exact Below.refl _ _)
  have hmk := run_mk w ln
  clear hL hn
  go_enter Try.func22, Try.ntmps22
  go_wp2_with fail
  clear hmk
  go_loopw [14] (fun v wr => ∃ k : Nat, k ≤ ln ∧ v = .int .i64 k ∧ Hid ((tks l k).Nodup) ∧ Hid (Below w.heap.size w wr) ∧ Hid (MpL wr w.heap.size k (fun p => decide (p ∈ tks l k)) (ixP (tks l k)))) (fun v _ => ln - (intOf v).toNat)
  case atStart => exact ⟨0, by omega, rfl, List.nodup_nil, HB0, HM1⟩
  case round =>
    clear HM1 HB0
    obtain ⟨k, hk, rfl, HP, HB, HM⟩ := hrel
    by_cases hlt : k < ln
    · have hkf : k < l.length := by have := HN.out; omega
      obtain ⟨b, o, rfl, hbl, c0, c1, c2, c3⟩ := (HL.out.below HB.out (Nat.le_refl _)).at hkf
      have hft := (HL.out.fit _ (List.getElem_mem hkf)).t
      have htk := tos_take hkf
      have HTL : Hid ((tks l k).length = k) := tks_len (by omega)
      generalize l[k] = m at c0 c1 c2 c3 hft htk
      obtain ⟨⟨m1, m2⟩, ⟨m3, m4⟩⟩ := m
      simp only at c0 c1 c2 c3 hft htk
      obtain ⟨W, hW⟩ : ∃ W, W = wr.alloc (.cells #[.int .i64 m1, .int .i64 m2, .int .i64 m3, .int .i64 m4] 36) := ⟨_, rfl⟩
      have hMW : MpL W w.heap.size k (fun p => decide (p ∈ tks l k)) (ixP (tks l k)) := HM.out.move (by rw [hW]; exact heap_alloc_old _ _ HM.out.lt)
      have HBW : Hid (Below w.heap.size w W) := by rw [hW]; exact HB.out.alloc (by have := HB.out.size; omega) _
      have hl2 := hMW.look2 hft
      have hmem : (decide ((m1, m2) ∈ tks l k) = true ∧ (m1, m2) ∈ tks l k) ∨ (decide ((m1, m2) ∈ tks l k) = false ∧ (m1, m2) ∉ tks l k) := by
        by_cases h : (m1, m2) ∈ tks l k <;> simp [h]
      have HTK : Hid (tks l (k + 1) = tks l k ++ [(m1, m2)]) := htk
      obtain ⟨w2, hup, hM2, hg2⟩ := hMW.put (by omega) hft (v := (k : Int)) (by unfold Fits; omega)
      have HM2 : Hid _ := hM2
      have HG2 : Hid _ := hg2
      simp only at hl2 hup
      clear hft htk hMW hM2 hg2
      rcases hmem with ⟨e, hm⟩ | ⟨e, hm⟩
      · rw [e] at hl2
        have HIN : Hid ((m1, m2) ∈ tks l k) := hm
        clear hm e hup
        subst hW
        go_wp2_with fail
        go_ret2
        refine ⟨.inr ⟨fun hnd => ?_, rfl⟩, HBW.out⟩
        have := hnd.sublist (tks_sub l (k + 1))
        rw [HTK.out, List.nodup_append] at this
        exact this.2.2 _ HIN.out _ (by simp) rfl
      · rw [e] at hl2
        have HIN : Hid ((m1, m2) ∉ tks l k) := hm
        clear hm e
        subst hW
        go_wp2_with fail
        go_roundw
        case rel =>
          refine ⟨k + 1, by omega, by go_num, ?_, ?_, ?_⟩
          · show (tks l (k + 1)).Nodup
            rw [HTK.out, List.nodup_append]
            exact ⟨HP.out, by simp, fun a ha b hb e => HIN.out (by simp at hb; rw [← hb, ← e]; exact ha)⟩
          · exact Below.grown HBW.out HG2.out (by have := HB.out.size; simp; omega) (fun j hj => by simp at hj; omega)
          · have e1 : (fun q => decide (q = (m1, m2)) || decide (q ∈ tks l k)) = fun p => decide (p ∈ tks l (k + 1)) := by
              funext q
              rw [HTK.out, Bool.eq_iff_iff]
              simp only [Bool.or_eq_true, decide_eq_true_eq, List.mem_append, List.mem_singleton]
              exact or_comm
            have e2 : (fun q => if q = (m1, m2) then (k : Int) else ixP (tks l k) q) = ixP (tks l (k + 1)) := by
              funext q
              rw [HTK.out, ixP_app HIN.out, HTL.out]
            have := HM2.out
            rw [e1, e2] at this
            exact this
        case measure => simp [intOf]; omega
    · have hkn : k = ln := by omega
      subst hkn
      have hnd := HP.out
      have hM := HM.out
      rw [HN.out, tks_all, ← HN.out] at hM
      rw [HN.out, tks_all] at hnd
      have HM3 : Hid _ := hM
      have HND : Hid _ := hnd
      clear hM hnd
      go_wp2_with fail
      go_ret2
      exact ⟨.inl ⟨HND.out, _, rfl, HM3.out, Nat.le_refl _⟩, HB.out⟩
end Go.Proofs.Ytdoiblknbpbhaaa
