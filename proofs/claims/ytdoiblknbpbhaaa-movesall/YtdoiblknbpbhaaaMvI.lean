import Derived.Test.YtdoiblknbpbhaaaMvH
import Derived.Deep.LoopGhost
import Derived.WalkMore
set_option linter.unusedVariables false
set_option linter.unusedSimpArgs false
namespace Go.Proofs.Ytdoiblknbpbhaaa
open Go.ChangeShapes Go.WideShapes Go.ChangeAt Go.RowKit Go.Maps

theorem ix_some {l : List Mv} {p : Lc} (h : p ∈ l.map Prod.fst) : ∃ s, ∃ hs : s < l.length, ixP (l.map Prod.fst) p = (s : Int) ∧ l[s].1 = p := by
  have h1 : (l.map Prod.fst).idxOf p < (l.map Prod.fst).length := List.idxOf_lt_length_of_mem h
  have h2 := List.getElem_idxOf h1
  rw [List.length_map] at h1
  refine ⟨(l.map Prod.fst).idxOf p, h1, by unfold ixP; rw [if_pos h], ?_⟩
  rw [List.getElem_map] at h2
  exact h2
theorem chain_next {t : Lc} {l A : List Mv} (h : Lf t l A) {i first : Nat} (hi : i < l.length) (hf : first < l.length) (hfst : i = first ∨ l[first] ∉ A) (hno : ∀ j, ∀ hj : j < l.length, j ≤ first → j ≠ i → l[j] ∈ A → fre A l[j] = false) :
    (∀ j, ∀ hj : j < l.length, j ≤ first → l[j].1 ≠ l[i].2 → l[j] ∈ A.erase l[i] → fre (A.erase l[i]) l[j] = false) ∧ l[first] ∉ A.erase l[i] := by
  refine ⟨fun j hj hjf hne hm => ?_, fun hm => ?_⟩
  · have h1 := h.nodup.mem_erase_iff.1 hm
    have h2 := hno j hj hjf (by rintro rfl; exact h1.1 rfl) h1.2
    cases e : fre (A.erase l[i]) l[j] with
    | false => rfl
    | true => exact absurd (new_free h e h2) hne
  · have h1 := h.nodup.mem_erase_iff.1 hm
    rcases hfst with rfl | h2
    · exact h1.1 rfl
    · exact h2 h1.2
/-- The sequence on its way: what is left and what was put are the document's behind some of its steps. -/
structure ChS (t : Lc) (w wr : World) (B sb gb sm rm : Nat) (la : Option Addr) (ln lc : Nat) (ov : Value) (l A out : List Mv) : Prop where
  q : SQ wr B sb gb sm rm la ln lc ov l A A out
  f : Lf t l A
  d : ∃ n, dn t n (lft l, []) = (A, out)
  o : out.length + A.length ≤ ln
  k : Kp B w wr
theorem ChS.keep {t w wr w' B sb gb sm rm la ln lc ov l A out} (H : ChS t w wr B sb gb sm rm la ln lc ov l A out) (hB : B ≤ w.heap.size) (hb : Below wr.heap.size wr w') : ChS t w w' B sb gb sm rm la ln lc ov l A out :=
  ⟨H.q.keep hb, H.f, H.d, H.o, H.k.trans (Kp.below (by have := H.k.bel.size; omega) hb)⟩
theorem ChS.put {t w wr w' B sb gb sm rm la ln lc ov ov' l A out} (H : ChS t w wr B sb gb sm rm la ln lc ov l A out) {i : Nat} (hi : i < l.length) (hm : l[i] ∈ A) (hf : fre A l[i] = true) (hb : ∀ j, ∀ hj : j < i, l[j]'(by omega) ∈ A → fre A (l[j]'(by omega)) = false)
    (hq : SQ w' B sb gb sm rm la ln lc ov' l (A.erase l[i]) (A.erase l[i]) (out ++ [l[i]])) (hk : Kp B wr w') : ChS t w w' B sb gb sm rm la ln lc ov' l (A.erase l[i]) (out ++ [l[i]]) := by
  obtain ⟨n, hn⟩ := H.d
  have h1 := List.length_erase_of_mem hm
  have h2 := List.length_pos_of_mem hm
  exact ⟨hq, H.f.erase _, ⟨n + 1, (dn_step hn).trans (put_step H.f hi hm hf hb)⟩, by have := H.o; simp; omega, H.k.trans hk⟩
set_option maxRecDepth 100000 in
set_option maxHeartbeats 8000000 in
theorem chains_any (w : World) {t : Lc} {B sb gb sm rm la ln lc ov l A out} (H : ChS t w w B sb gb sm rm la ln lc ov l A out) (hB : B ≤ w.heap.size) :
    Calls Try.prog 24 #[.pointer (some ⟨sb, 0, none⟩)] w fun e w' => e = .returned (.tuple #[]) ∧ ∃ ov' A' out', ChS t w w' B sb gb sm rm la ln lc ov' l A' out' ∧ ∀ j, ∀ hj : j < l.length, l[j] ∈ A' → fre A' l[j] = false := by
  have HH : Hid (∃ ov' A' out', ChS t w w B sb gb sm rm la ln lc ov' l A' out' ∧ ∀ j, ∀ hj : j < l.length, j < 0 → l[j] ∈ A' → fre A' l[j] = false) := ⟨ov, A, out, H, fun j _ h => by omega⟩
  have HN : Hid (ln = l.length) := H.q.n
  have HBB : Hid (B ≤ w.heap.size) := hB
  have hz := H.q.sz
  have x0 : w.cell? ⟨sb, 0, none⟩ = some (.slice la ln lc) := cell_arr H.q.box rfl
  clear H hB
  go_enter Try.func24, Try.ntmps24
  go_wp2_with fail
  go_loopw [12] (fun v wr => ∃ k : Nat, k ≤ ln ∧ v = .int .i64 k ∧ Hid (∃ ov' A' out', ChS t w wr B sb gb sm rm la ln lc ov' l A' out' ∧ ∀ j, ∀ hj : j < l.length, j < k → l[j] ∈ A' → fre A' l[j] = false)) (fun v _ => ln - (intOf v).toNat)
  case atStart => exact ⟨0, by omega, rfl, HH⟩
  case round =>
    clear HH x0
    obtain ⟨k, hk, rfl, HC⟩ := hrel
    by_cases hlt : k < ln
    · have hkf : k < l.length := by have := HN.out; omega
      obtain ⟨ov1, A1, out1, hC1, hC2⟩ := HC.out
      have HI0 : Hid (ChS t w wr B sb gb sm rm la ln lc ov1 l A1 out1 ∧ ∀ j, ∀ hj : j < l.length, j < k → l[j] ∈ A1 → fre A1 l[j] = false) := ⟨hC1, hC2⟩
      clear hC1 hC2 HC
      go_wp2_with fail
      go_step3
      go_wp2_with fail
      go_step3
      go_wp2_with fail
      go_loopg [3] A1.length (fun G v wr => ∃ (i : Nat) (A1 out1 : List Mv) (ov1 : Value), i ≤ k ∧ v = .int .i64 i ∧ G = A1.length ∧ Hid (ChS t w wr B sb gb sm rm la ln lc ov1 l A1 out1 ∧ (i = k ∨ l[k] ∉ A1) ∧ ∀ j, ∀ hj : j < l.length, j ≤ k → j ≠ i → l[j] ∈ A1 → fre A1 l[j] = false))
      case atStart => exact ⟨k, A1, out1, ov1, Nat.le_refl _, rfl, rfl, HI0.out.1, .inl rfl, fun j hj h1 h2 => HI0.out.2 j hj (by omega)⟩
      case round =>
        clear HI0
        obtain ⟨i, A2, out2, ov2, hik, rfl, rfl, HI⟩ := hrel
        have hif : i < l.length := by omega
        have hB1 : B ≤ wr.heap.size := by have := HI.out.1.k.bel.size; have := HBB.out; omega
        have hfr := free_any wr HI.out.1.q i hif
        by_cases hE : (decide (l[i] ∈ A2) && fre A2 l[i]) = true
        · rw [hE] at hfr
          have HFR : Hid (Calls Try.prog 33 #[.pointer (some ⟨sb, 0, none⟩), .int .i64 i] wr fun e w' => e = .returned (.bool true) ∧ Below wr.heap.size wr w') := hfr
          have hE2 : l[i] ∈ A2 ∧ fre A2 l[i] = true := by simpa using hE
          have HAM : Hid (l[i] ∈ A2) := hE2.1
          have HAF : Hid (fre A2 l[i] = true) := hE2.2
          have hne : l ≠ [] := by rintro rfl; simp at hif
          obtain ⟨b, o, rfl, hbB, _⟩ := HI.out.1.q.ar hne
          obtain ⟨m, hmi⟩ : ∃ m, l[i] = m := ⟨_, rfl⟩
          obtain ⟨⟨m1, m2⟩, ⟨m3, m4⟩⟩ := m
          have HMI : Hid (l[i] = ((m1, m2), (m3, m4))) := hmi
          have hfm := (HI.out.1.q.fit _ (List.getElem_mem hif))
          rw [hmi] at hfm
          have HFF : Hid (FitL (m3, m4)) := hfm.f
          have hca := HI.out.1.q.ca
          have HPT : Hid (∀ w1, Below wr.heap.size wr w1 → Calls Try.prog 34 #[.pointer (some ⟨sb, 0, none⟩), .int .i64 i, .agg #[.int .i64 m3, .int .i64 m4]] w1 fun e w' => e = .returned (.tuple #[]) ∧ ∃ ov', ChS t w w' B sb gb sm rm (some ⟨b, o, none⟩) ln lc ov' l (A2.erase l[i]) (out2 ++ [l[i]]) ∧ Kp B w1 w') := fun w1 hb1 => by
            have hC := HI.out.1.keep HBB.out hb1
            have hB2 : B ≤ w1.heap.size := by have := hb1.size; omega
            refine (put_any w1 hC.q hB2 (by have := hC.o; omega) hC.f.nodup hC.f.gd.nodup i hif HAM.out (m3, m4) HFF.out).mono ?_
            rintro e w' ⟨rfl, ov', hq, ho⟩
            have hkp := hC.q.kp hB2 ho
            have e1 : (l[i].1, ((m3, m4) : Lc)) = l[i] := by rw [HMI.out]
            rw [e1] at hq
            exact ⟨rfl, ov', hC.put hif HAM.out HAF.out (fun j hj hm => HI.out.2.2 j (by omega) (by omega) (by omega) hm) hq hkp, hkp⟩
          have HC5 : Hid ((∀ j, ∀ hj : j < l.length, j ≤ k → l[j].1 ≠ l[i].2 → l[j] ∈ A2.erase l[i] → fre (A2.erase l[i]) l[j] = false) ∧ l[k] ∉ A2.erase l[i]) := chain_next HI.out.1.f hif hkf HI.out.2.1 HI.out.2.2
          clear hfr hE hE2 hmi hfm hB1
          go_wp2_with (first
            | (go_at_call 33; refine HFR.out.mono ?_; rintro e w1 ⟨rfl, hb1⟩
               have HB1 : Hid (Below wr.heap.size wr w1) := hb1
               have hq1 := HI.out.1.q.keep hb1
               have x0 : w1.cell? ⟨sb, 0, none⟩ = some (.slice (some ⟨b, o, none⟩) ln lc) := cell_arr hq1.box rfl
               have hat : AtM w1 b o l := by
                 obtain ⟨b2, o2, e2, _, h2⟩ := hq1.ar hne
                 cases e2
                 exact h2
               obtain ⟨_, _, c2, c3⟩ := hat.cell i hif
               rw [HMI.out] at c2 c3
               simp only at c2 c3
               have hbx : Below wr.heap.size wr (w1.alloc (.cells #[.int .i64 m3, .int .i64 m4] 24)) := hb1.alloc (by have := hb1.size; omega) _
               have HPB : Hid (Below wr.heap.size wr (w1.alloc (.cells #[.int .i64 m3, .int .i64 m4] 24))) := hbx
               have HBX : Hid ((w1.alloc (.cells #[.int .i64 m3, .int .i64 m4] 24)).heap[w1.heap.size]? = some (.cells #[.int .i64 m3, .int .i64 m4] 24 (0, 0))) := heap_alloc_new _ _
               clear hb1 hq1 hat hbx)
            | (go_at_call 34; refine (HPT.out _ HPB.out).mono ?_; rintro e w2 ⟨rfl, ov3, hC3, hK3⟩
               have HC4 : Hid (ChS t w w2 B sb gb sm rm (some ⟨b, o, none⟩) ln lc ov3 l (A2.erase l[i]) (out2 ++ [l[i]]) ∧ True) := ⟨hC3, trivial⟩
               have hbx2 := hK3.bx _ _ HBX.out
               have v0 : w2.cell? ⟨w1.heap.size, 0, none⟩ = some (.int .i64 m3) := cell_arr hbx2 rfl
               have v1 : w2.cell? ⟨w1.heap.size, 1, none⟩ = some (.int .i64 m4) := cell_arr hbx2 rfl
               have v2 : w2.cell? ⟨sb, 2, none⟩ = some (.map (some sm)) := cell_arr hC3.q.box rfl
               have hlk : ∀ k, _ := fun k => (hC3.q.st.move (w' := w2.drewN k) rfl).look2 HFF.out
               simp only at hlk
               clear hC3 hK3 hbx2 x0 c2 c3 HBX HPB))
          by_cases hin : (m3, m4) ∈ l.map Prod.fst
          · obtain ⟨s, hs, es1, es2⟩ := ix_some hin
            have ES : Hid (l[s].1 = l[i].2) := by show l[s].1 = l[i].2; rw [es2, HMI.out]
            have HES : Hid _ := es2
            rw [es1] at hlk
            have hdi : decide ((m3, m4) ∈ l.map Prod.fst) = true := by simpa using hin
            rw [hdi] at hlk
            clear es1 es2 hin hdi
            by_cases hsk : s < k
            · have hd : decide ((s : Int) < (k : Int)) = true := by simpa using hsk
              go_quiet (fail)
              go_wp2_with fail
              go_roundg (A2.erase l[i]).length
              case rel => exact ⟨s, _, _, _, by omega, by first | rfl | go_num, rfl, HC4.out.1.keep HBB.out (below_drewN0 _ _), .inr HC5.out.2, fun j hj h1 h2 h3 => HC5.out.1 j hj h1 (fun e => h2 (HC4.out.1.f.gd.inj hj hs (by rw [e, ES.out]))) h3⟩
              case measure => have h1 := List.length_erase_of_mem HAM.out; have h2 := List.length_pos_of_mem HAM.out; omega
            · have hd : decide ((s : Int) < (k : Int)) = false := by simp; omega
              go_quiet (fail)
              go_wp2_with fail
              refine (by assumption : ∀ (a : Act) (w : World), Code.wp Try.prog (Code.region 10 _ false) _ a w → _) _ _ ?_
              go_wp2_with fail
              go_roundw
              case rel => exact ⟨k + 1, by omega, by go_num, ⟨ov3, _, _, (HC4.out.1.keep HBB.out (below_drewN0 _ _)), fun j hj h1 h2 => HC5.out.1 j hj (by omega) (fun e => by have hjs := HC4.out.1.f.gd.inj hj hs (by rw [e, ES.out]); subst hjs; exact HC5.out.2 ((show j = k by omega) ▸ h2)) h2⟩⟩
              case measure => simp [intOf]; omega
          · have hdi : decide ((m3, m4) ∈ l.map Prod.fst) = false := by simpa using hin
            rw [hdi] at hlk
            have HIN : Hid ((m3, m4) ∉ l.map Prod.fst) := hin
            clear hin hdi
            generalize ixP (l.map Prod.fst) (m3, m4) = ix at hlk
            go_quiet (fail)
            go_wp2_with fail
            refine (by assumption : ∀ (a : Act) (w : World), Code.wp Try.prog (Code.region 10 _ false) _ a w → _) _ _ ?_
            go_wp2_with fail
            go_roundw
            case rel => exact ⟨k + 1, by omega, by go_num, ⟨ov3, _, _, (HC4.out.1.keep HBB.out (below_drewN0 _ _)), fun j hj h1 h2 => HC5.out.1 j hj (by omega) (fun e => HIN.out (by have h5 := List.mem_map_of_mem (f := Prod.fst) (List.getElem_mem hj); rw [e, HMI.out] at h5; exact h5)) h2⟩⟩
            case measure => simp [intOf]; omega
        · have hE' : (decide (l[i] ∈ A2) && fre A2 l[i]) = false := by simpa using hE
          rw [hE'] at hfr
          have HFR : Hid (Calls Try.prog 33 #[.pointer (some ⟨sb, 0, none⟩), .int .i64 i] wr fun e w' => e = .returned (.bool false) ∧ Below wr.heap.size wr w') := hfr
          have HE : Hid ((decide (l[i] ∈ A2) && fre A2 l[i]) = false) := hE'
          clear hfr hE hE' hB1
          go_wp2_with (first
            | (go_at_call 33; refine HFR.out.mono ?_; rintro e w1 ⟨rfl, hb1⟩; have HB1 : Hid (Below wr.heap.size wr w1) := hb1; clear hb1))
          refine (by assumption : ∀ (a : Act) (w : World), Code.wp Try.prog (Code.region 10 _ false) _ a w → _) _ _ ?_
          go_wp2_with fail
          go_roundw
          case rel =>
            refine ⟨k + 1, by omega, by go_num, ⟨ov2, A2, out2, HI.out.1.keep HBB.out HB1.out, fun j hj h1 h2 => ?_⟩⟩
            by_cases e : j = i
            · subst e
              have := HE.out
              simpa [h2] using this
            · exact HI.out.2.2 j hj (by omega) e h2
          case measure => simp [intOf]; omega
    · obtain rfl : k = ln := by omega
      go_wp2_with fail
      refine bodyPost_end (v := .tuple #[]) (by simp [results, Try.results24, go_sem]) rfl ?_
      obtain ⟨ov1, A1, out1, hC1, hC2⟩ := HC.out
      exact ⟨rfl, ov1, A1, out1, hC1, fun j hj => hC2 j hj (by have := HN.out; omega)⟩
end Go.Proofs.Ytdoiblknbpbhaaa
