import Derived.Test.YtdoiblknbpbhaaaMvG
import Derived.Deep.OwnRows
import Derived.Laws.OwnMore
set_option linter.unusedVariables false
set_option linter.unusedSimpArgs false
namespace Go.Proofs.Ytdoiblknbpbhaaa
open Go.ChangeShapes Go.WideShapes Go.ChangeAt Go.RowKit Go.Maps

theorem below_new (w : World) (o : Obj) : Below w.heap.size w (w.alloc o) := (Below.refl _ _).alloc (Nat.le_refl _) _
/-- What lies below B stays, and every box that holds a place. -/
structure Kp (B : Nat) (w w' : World) : Prop where
  bel : Below B w w'
  bx : ∀ (g : Nat) (c : Array Value), w.heap[g]? = some (Obj.cells c 24 (0, 0)) → w'.heap[g]? = some (Obj.cells c 24 (0, 0))
theorem Kp.refl (B : Nat) (w : World) : Kp B w w := ⟨Below.refl _ _, fun _ _ h => h⟩
theorem Kp.trans {B : Nat} {a b c : World} (h : Kp B a b) (k : Kp B b c) : Kp B a c := ⟨h.bel.trans k.bel, fun g x hx => k.bx g x (h.bx g x hx)⟩
theorem Kp.below {B : Nat} {w w' : World} (hB : B ≤ w.heap.size) (h : Below w.heap.size w w') : Kp B w w' := ⟨h.mono hB, fun g c hc => (h.block g (Array.getElem?_eq_some_iff.1 hc).1).trans hc⟩
theorem SQ.kp {w w' : World} {B sb gb sm rm la ln lc ov l A R out} (H : SQ w B sb gb sm rm la ln lc ov l A R out) (hB : B ≤ w.heap.size) (ho : Only (SF sb gb rm ov) w w') : Kp B w w' := by
  refine ⟨ho.below hB fun k hk => ?_, fun g c hc => ?_⟩
  · rcases hk with rfl | rfl | rfl | hk
    · exact H.lo.1
    · exact H.lo.2.1
    · exact H.lo.2.2.2
    · exact (own_block H.ou.out hk).1
  · refine (ho.block g (Array.getElem?_eq_some_iff.1 hc).1 fun hk => ?_).trans hc
    rcases hk with rfl | rfl | rfl | hk
    · have := H.box
      rw [hc] at this
      injection this with this; injection this with _ this _; exact absurd this (by decide)
    · have := H.lf.out
      rw [hc] at this
      injection this with this; injection this with _ this _; exact absurd this (by decide)
    · obtain ⟨nr, h, _, hR⟩ := H.rd
      obtain ⟨es, cl, e⟩ := hR.isMap
      rw [hc] at e
      cases e
    · exact own_not H.ou.out hc (by decide) hk
theorem info_bool : (Try.prog.info? 4).map (fun i => (i.zero, i.size, i.bytes)) = some (some (.bool false), 1, 1) := by kernel_rfl
theorem SQ.set2 {w : World} {B sb gb sm rm la ln lc ov l A R out} (H : SQ w B sb gb sm rm la ln lc ov l A R out) (hl : l.Nodup) {i : Nat} (hi : i < l.length) :
    SQ (w.setCell ⟨gb, i, none⟩ (.bool true)) B sb gb sm rm la ln lc ov l (A ++ [l[i]]) R out ∧ Only (SF sb gb rm ov) w (w.setCell ⟨gb, i, none⟩ (.bool true)) := by
  obtain ⟨a1, a2, a3, a4, a5, a6, a7, a8, a9⟩ := H.apart
  have k2 : ∀ g, g ≠ gb → (w.setCell ⟨gb, i, none⟩ (.bool true)).heap[g]? = w.heap[g]? := fun g hg => heap_set_other hg
  obtain ⟨nr, h, h1, hR⟩ := H.rd
  have he : (lftB l A).set i true = lftB l (A ++ [l[i]]) := by
    refine List.ext_getElem (by simp [lftB]) fun j h1 h2 => ?_
    rw [List.getElem_set]
    simp only [lftB, List.getElem_map, List.mem_append, List.mem_singleton]
    have hj : j < l.length := by simpa [lftB] using h2
    by_cases e : i = j
    · subst e; simp
    · rw [if_neg e]
      have hne : l[j] ≠ l[i] := fun e2 => e ((List.getElem_inj (h₀ := hj) (h₁ := hi) hl).1 e2).symm
      simp [hne]
  have hs := H.lf.set i true
  rw [he] at hs
  exact ⟨⟨(k2 _ a1).trans H.box, hs, H.st.move (k2 _ a4.symm), ⟨nr, h, h1, hR.move (k2 _ a5.symm)⟩, H.ou.move fun g hg => k2 g (fun e => a7 (by rw [← e]; exact hg)), H.sr, H.lo, fun hn => by
    obtain ⟨b, o, e, h3, h4⟩ := H.ar hn
    exact ⟨b, o, e, h3, h4.move (k2 b (by have := H.lo.2.1; omega))⟩, H.fit, H.n, H.al, H.ca, H.sz⟩, (Only.of_set w ⟨gb, i, none⟩ _).mono fun k _ hk => .inr (.inl hk)⟩
theorem lft_take {l : List Mv} {k : Nat} (hk : k < l.length) : lft (l.take (k + 1)) = lft (l.take k) ++ (if stays l[k] = true then [] else [l[k]]) := by
  unfold lft
  rw [List.take_succ_eq_append_getElem hk, List.filter_append]
  congr 1
  by_cases h : stays l[k] = true
  · simp [h]
  · simp [h]
theorem lft_take_le (l : List Mv) (k : Nat) : (lft (l.take k)).length ≤ k := by
  unfold lft
  have := List.length_filter_le (fun m => !stays m) (l.take k)
  rw [List.length_take] at this
  omega
theorem cntR_app (A : List Mv) (m : Mv) : cntR (A ++ [m]) = fun q => if q = m.2 then cntR A m.2 + 1 else cntR A q := by
  funext q
  unfold cntR
  rw [List.map_append, List.count_append]
  simp only [List.map_cons, List.map_nil, cons_count, List.count_nil]
  by_cases e : q = m.2
  · subst e; rw [one_self, if_pos rfl]; omega
  · rw [one_ne (fun h => e h.symm), if_neg e]; omega
theorem made_bools (n : Nat) : madeCells #[.bool false] n = ((List.replicate n false).map Value.bool).toArray := by
  apply Array.ext'
  rw [toList_madeCells_one]
  simp
theorem seq0 {w W : World} {B sb gb sm rm : Nat} {la : Option Addr} {ln lc : Nat} {l : List Mv} (hB : B ≤ w.heap.size) (hn : ln = l.length) (hsz : ln ≤ 1000000) (hL : Mvs w la lc l) (har : l ≠ [] → ∃ b o, la = some ⟨b, o, none⟩ ∧ b < B ∧ AtM w b o l) (hM : MpL w sm ln (fun p => decide (p ∈ l.map Prod.fst)) (ixP (l.map Prod.fst))) (hms : B ≤ sm) (hb : Below w.heap.size w W)
    (h1 : W.heap[sb]? = some (.cells #[.slice la ln lc, .slice (some ⟨gb, 0, none⟩) ln ln, .map (some sm), .map (some rm), .slice none 0 0] 59 (0, 0))) (h2 : W.heap[gb]? = some (.cells (madeCells #[.bool false] ln) 4 (0, 0))) (h3 : W.heap[rm]? = some (.map #[] 0)) (hl : w.heap.size ≤ sb ∧ w.heap.size ≤ gb ∧ w.heap.size ≤ rm) :
    SQ W B sb gb sm rm la ln lc (.slice none 0 0) l (lft (l.take 0)) (lft (l.take 0)) [] ∧ Kp B w W ∧ ∃ nr h, nr ≤ 0 ∧ MpL W rm nr h (cntR (lft (l.take 0))) := by
  have hc : cntR (lft (l.take 0)) = fun _ => 0 := by funext q; simp [cntR, lft]
  have hR : MpL W rm 0 (fun _ => false) (cntR (lft (l.take 0))) := by
    rw [hc]
    exact ⟨.map [], ⟨#[], 0, h3, ⟨by simp, MapKept.stamped_empty 0, by simp⟩, Nat.le_refl _, rfl⟩, isMap_empty, fun p _ => ⟨rfl, rfl⟩⟩
  have hlt := hM.lt
  refine ⟨⟨h1, ⟨by simp [lftB]; exact hn.symm, ?_⟩, hM.move (hb.block _ hlt), ⟨0, _, by simp [lft], hR⟩, OwnM.nil _ _, by omega, ⟨by omega, by omega, hms, by omega⟩, fun hne => ?_, hL.fit, hn, by simp [lft], ⟨by have := hL.le; omega, hL.mx⟩, hsz⟩, Kp.below hB hb, 0, _, Nat.le_refl _, hR⟩
  · have e : lftB l (lft (l.take 0)) = List.replicate ln false := by
      rw [hn]; simp [lftB, lft]
      exact List.eq_replicate_iff.2 ⟨by simp, by simp⟩
    rw [e, ← made_bools]; exact h2
  · obtain ⟨b, o, e, h3, h4⟩ := har hne
    exact ⟨b, o, e, h3, h4.move (hb.block _ h4.lt)⟩
theorem seq0_a (w : World) {B sm : Nat} {la : Option Addr} {ln lc : Nat} {l : List Mv} (hB : B ≤ w.heap.size) (hn : ln = l.length) (hsz : ln ≤ 1000000) (hL : Mvs w la lc l) (har : l ≠ [] → ∃ b o, la = some ⟨b, o, none⟩ ∧ b < B ∧ AtM w b o l) (hM : MpL w sm ln (fun p => decide (p ∈ l.map Prod.fst)) (ixP (l.map Prod.fst))) (hms : B ≤ sm) :
    SQ ((((w.alloc (.cells (madeCells #[.bool false] ln) 4)).alloc (.map #[] 0)).alloc (.cells #[.slice la ln lc, .slice (some ⟨w.heap.size, 0, none⟩) ln ln, .map (some sm), .map (some (w.heap.size + 1)), .slice none 0 0] 59)).drew) B (w.heap.size + 1 + 1) w.heap.size sm (w.heap.size + 1) la ln lc (.slice none 0 0) l (lft (l.take 0)) (lft (l.take 0)) [] ∧ Kp B w ((((w.alloc (.cells (madeCells #[.bool false] ln) 4)).alloc (.map #[] 0)).alloc (.cells #[.slice la ln lc, .slice (some ⟨w.heap.size, 0, none⟩) ln ln, .map (some sm), .map (some (w.heap.size + 1)), .slice none 0 0] 59)).drew) ∧ ∃ nr h, nr ≤ 0 ∧ MpL ((((w.alloc (.cells (madeCells #[.bool false] ln) 4)).alloc (.map #[] 0)).alloc (.cells #[.slice la ln lc, .slice (some ⟨w.heap.size, 0, none⟩) ln ln, .map (some sm), .map (some (w.heap.size + 1)), .slice none 0 0] 59)).drew) (w.heap.size + 1) nr h (cntR (lft (l.take 0))) := by
  have e1 := heap_alloc_new w (.cells (madeCells #[.bool false] ln) 4)
  have e2 := heap_alloc_new (w.alloc (.cells (madeCells #[.bool false] ln) 4)) (.map #[] 0)
  refine seq0 hB hn hsz hL har hM hms (by repeat (first | refine Below.alloc ?_ (by first | omega | (simp; done) | (simp; omega)) _ | refine Below.drew ?_ | exact Below.refl _ _)) ?_ ?_ ?_ ⟨by omega, by omega, by omega⟩
  · have := heap_alloc_new ((w.alloc (.cells (madeCells #[.bool false] ln) 4)).alloc (.map #[] 0)) (.cells #[.slice la ln lc, .slice (some ⟨w.heap.size, 0, none⟩) ln ln, .map (some sm), .map (some (w.heap.size + 1)), .slice none 0 0] 59)
    have e4 : ((w.alloc (.cells (madeCells #[.bool false] ln) 4)).alloc (.map #[] 0)).heap.size = w.heap.size + 1 + 1 := by simp
    rw [e4] at this
    exact this
  · exact (heap_alloc_old _ _ (by simp; omega)).trans ((heap_alloc_old _ _ (by simp)).trans e1)
  · have e3 : (w.alloc (.cells (madeCells #[.bool false] ln) 4)).heap.size = w.heap.size + 1 := by simp
    rw [e3] at e2
    exact (heap_alloc_old _ _ (by simp)).trans e2
theorem seq0_b (w : World) {B sm : Nat} {la : Option Addr} {ln lc : Nat} {l : List Mv} (hB : B ≤ w.heap.size) (hn : ln = l.length) (hsz : ln ≤ 1000000) (hL : Mvs w la lc l) (har : l ≠ [] → ∃ b o, la = some ⟨b, o, none⟩ ∧ b < B ∧ AtM w b o l) (hM : MpL w sm ln (fun p => decide (p ∈ l.map Prod.fst)) (ixP (l.map Prod.fst))) (hms : B ≤ sm) :
    SQ ((((w.alloc (.map #[] 0)).alloc (.cells (madeCells #[.bool false] ln) 4)).alloc (.cells #[.slice la ln lc, .slice (some ⟨w.heap.size + 1, 0, none⟩) ln ln, .map (some sm), .map (some w.heap.size), .slice none 0 0] 59)).drew) B (w.heap.size + 1 + 1) (w.heap.size + 1) sm w.heap.size la ln lc (.slice none 0 0) l (lft (l.take 0)) (lft (l.take 0)) [] ∧ Kp B w ((((w.alloc (.map #[] 0)).alloc (.cells (madeCells #[.bool false] ln) 4)).alloc (.cells #[.slice la ln lc, .slice (some ⟨w.heap.size + 1, 0, none⟩) ln ln, .map (some sm), .map (some w.heap.size), .slice none 0 0] 59)).drew) ∧ ∃ nr h, nr ≤ 0 ∧ MpL ((((w.alloc (.map #[] 0)).alloc (.cells (madeCells #[.bool false] ln) 4)).alloc (.cells #[.slice la ln lc, .slice (some ⟨w.heap.size + 1, 0, none⟩) ln ln, .map (some sm), .map (some w.heap.size), .slice none 0 0] 59)).drew) w.heap.size nr h (cntR (lft (l.take 0))) := by
  have e1 := heap_alloc_new w (.map #[] 0)
  have e2 := heap_alloc_new (w.alloc (.map #[] 0)) (.cells (madeCells #[.bool false] ln) 4)
  refine seq0 hB hn hsz hL har hM hms (by repeat (first | refine Below.alloc ?_ (by first | omega | (simp; done) | (simp; omega)) _ | refine Below.drew ?_ | exact Below.refl _ _)) ?_ ?_ ?_ ⟨by omega, by omega, by omega⟩
  · have := heap_alloc_new ((w.alloc (.map #[] 0)).alloc (.cells (madeCells #[.bool false] ln) 4)) (.cells #[.slice la ln lc, .slice (some ⟨w.heap.size + 1, 0, none⟩) ln ln, .map (some sm), .map (some w.heap.size), .slice none 0 0] 59)
    have e4 : ((w.alloc (.map #[] 0)).alloc (.cells (madeCells #[.bool false] ln) 4)).heap.size = w.heap.size + 1 + 1 := by simp
    rw [e4] at this
    exact this
  · have e3 : (w.alloc (.map #[] 0)).heap.size = w.heap.size + 1 := by simp
    rw [e3] at e2
    exact (heap_alloc_old _ _ (by simp)).trans e2
  · exact (heap_alloc_old _ _ (by simp; omega)).trans ((heap_alloc_old _ _ (by simp)).trans e1)
set_option maxRecDepth 100000 in
set_option maxHeartbeats 4000000 in
theorem sequence_any (w : World) {B : Nat} (hB : B ≤ w.heap.size) {la : Option Addr} {ln lc : Nat} {l : List Mv} (hL : Mvs w la lc l) (hn : ln = l.length) (hsz : ln ≤ 1000000) (har : l ≠ [] → ∃ b o, la = some ⟨b, o, none⟩ ∧ b < B ∧ AtM w b o l) {sm : Nat} (hM : MpL w sm ln (fun p => decide (p ∈ l.map Prod.fst)) (ixP (l.map Prod.fst))) (hms : B ≤ sm) (hnd : l.Nodup) :
    Calls Try.prog 23 #[.slice la ln lc, .map (some sm)] w fun e w' => ∃ sb gb rm, e = .returned (.pointer (some ⟨sb, 0, none⟩)) ∧ SQ w' B sb gb sm rm la ln lc (.slice none 0 0) l (lft l) (lft l) [] ∧ Kp B w w' := by
  have hmk := run_mk
  have hml := run_make_row' (P := Try.prog) 57 4 (.bool false) 1 Try.underlying57 info_bool rfl .i64 .i64 ln (by omega) (by omega)
  have HN : Hid (ln = l.length) := hn
  have HL : Hid (Mvs w la lc l) := hL
  have HAR : Hid (l ≠ [] → ∃ b o, la = some ⟨b, o, none⟩ ∧ b < B ∧ AtM w b o l) := har
  have HM : Hid (MpL w sm ln (fun p => decide (p ∈ l.map Prod.fst)) (ixP (l.map Prod.fst))) := hM
  have HMS : Hid (B ≤ sm) := hms
  have HBB : Hid (B ≤ w.heap.size) := hB
  have HND : Hid l.Nodup := hnd
  have HSZ : Hid (ln ≤ 1000000) := hsz
  clear hn hL har hM hms hB hnd
  go_enter Try.func23, Try.ntmps23
  go_wp2_with fail
  go_region
  · have HQ0 : Hid (SQ ((((w.alloc (.cells (madeCells #[.bool false] ln) 4)).alloc (.map #[] 0)).alloc (.cells #[.slice la ln lc, .slice (some ⟨w.heap.size, 0, none⟩) ln ln, .map (some sm), .map (some (w.heap.size + 1)), .slice none 0 0] 59)).drew) B (w.heap.size + 1 + 1) w.heap.size sm (w.heap.size + 1) la ln lc (.slice none 0 0) l (lft (l.take 0)) (lft (l.take 0)) [] ∧ Kp B w ((((w.alloc (.cells (madeCells #[.bool false] ln) 4)).alloc (.map #[] 0)).alloc (.cells #[.slice la ln lc, .slice (some ⟨w.heap.size, 0, none⟩) ln ln, .map (some sm), .map (some (w.heap.size + 1)), .slice none 0 0] 59)).drew) ∧ ∃ nr h, nr ≤ 0 ∧ MpL ((((w.alloc (.cells (madeCells #[.bool false] ln) 4)).alloc (.map #[] 0)).alloc (.cells #[.slice la ln lc, .slice (some ⟨w.heap.size, 0, none⟩) ln ln, .map (some sm), .map (some (w.heap.size + 1)), .slice none 0 0] 59)).drew) (w.heap.size + 1) nr h (cntR (lft (l.take 0)))) := seq0_a w HBB.out HN.out HSZ.out HL.out HAR.out HM.out HMS.out
    obtain ⟨sb, hsb⟩ : ∃ s, s = w.heap.size + 1 + 1 := ⟨_, rfl⟩
    obtain ⟨gb, hgb⟩ : ∃ s, s = w.heap.size := ⟨_, rfl⟩
    obtain ⟨rm, hrm⟩ : ∃ s, s = (w.heap.size + 1) := ⟨_, rfl⟩
    obtain ⟨W0, hW0⟩ : ∃ W, W = ((((w.alloc (.cells (madeCells #[.bool false] ln) 4)).alloc (.map #[] 0)).alloc (.cells #[.slice la ln lc, .slice (some ⟨w.heap.size, 0, none⟩) ln ln, .map (some sm), .map (some (w.heap.size + 1)), .slice none 0 0] 59)).drew) := ⟨_, rfl⟩
    rw [← hW0] at HQ0 ⊢
    rw [← hsb, ← hrm, ← hgb] at HQ0
    rw [← hsb]
    clear hW0 hsb hgb hrm hmk hml HM
    go_wp2_with fail
    go_loopw [20] (fun v wr => ∃ k : Nat, k ≤ ln ∧ v = .int .i64 k ∧ Hid (SQ wr B sb gb sm rm la ln lc (.slice none 0 0) l (lft (l.take k)) (lft (l.take k)) [] ∧ Kp B w wr ∧ ∃ nr h, nr ≤ k ∧ MpL wr rm nr h (cntR (lft (l.take k))))) (fun v _ => ln - (intOf v).toNat)
    case atStart => exact ⟨0, by omega, rfl, HQ0⟩
    case round =>
      clear HQ0
      obtain ⟨k, hk, rfl, HQ⟩ := hrel
      by_cases hlt : k < ln
      · have hkf : k < l.length := by have := HN.out; omega
        have hne : l ≠ [] := by rintro rfl; simp at hkf
        obtain ⟨b, o, rfl, hbB, hAt⟩ := HQ.out.1.ar hne
        obtain ⟨c0, c1, c2, c3⟩ := hAt.cell k hkf
        have hbl := hAt.lt
        have hfm := (HL.out.fit _ (List.getElem_mem hkf))
        have hsb : sb < wr.heap.size := (Array.getElem?_eq_some_iff.1 HQ.out.1.box).1
        obtain ⟨m, hmi⟩ : ∃ m, l[k] = m := ⟨_, rfl⟩
        rw [hmi] at c0 c1 c2 c3 hfm
        obtain ⟨⟨m1, m2⟩, ⟨m3, m4⟩⟩ := m
        simp only at c0 c1 c2 c3
        have HMI : Hid (l[k] = ((m1, m2), (m3, m4))) := hmi
        have HFF : Hid (FitL (m3, m4)) := hfm.f
        obtain ⟨W1, hW1⟩ : ∃ W, W = wr.alloc (.cells #[.int .i64 m1, .int .i64 m2, .int .i64 m3, .int .i64 m4] 36) := ⟨_, rfl⟩
        obtain ⟨mbx, hmb⟩ : ∃ s, s = wr.heap.size := ⟨_, rfl⟩
        have HQ1 : Hid (SQ W1 B sb gb sm rm (some ⟨b, o, none⟩) ln lc (.slice none 0 0) l (lft (l.take k)) (lft (l.take k)) [] ∧ Kp B w W1 ∧ ∃ nr h, nr ≤ k ∧ MpL W1 rm nr h (cntR (lft (l.take k)))) := by
          obtain ⟨nr, h, hn, hR⟩ := HQ.out.2.2
          have hb1 : Below wr.heap.size wr W1 := by rw [hW1]; exact below_new _ _
          exact ⟨HQ.out.1.keep hb1, HQ.out.2.1.trans (Kp.below (by have := HQ.out.2.1.bel.size; have := HBB.out; omega) hb1), nr, h, hn, hR.move (hb1.block _ hR.lt)⟩
        have HK1 : Hid (W1.heap[mbx]? = some (.cells #[.int .i64 m1, .int .i64 m2, .int .i64 m3, .int .i64 m4] 36)) := by rw [hW1, hmb]; exact heap_alloc_new _ _
        obtain ⟨e1, d1⟩ : ∃ e, (m3 == m1) = e := ⟨_, rfl⟩
        obtain ⟨e2, d2⟩ : ∃ e, (m4 == m2) = e := ⟨_, rfl⟩
        have HST : Hid (stays ((m1, m2), (m3, m4)) = (e1 && e2)) := by
          show ((m3, m4) == (m1, m2)) = (e1 && e2)
          rw [← d1, ← d2]; rfl
        clear hfm hmi hAt
        by_cases hst : (e1 && e2) = true
        · have h12 : e1 = true ∧ e2 = true := by simpa using hst
          obtain ⟨rfl, rfl⟩ := h12
          clear hst
          go_wp2_with fail
          rw [← hW1]
          go_roundw
          case rel =>
            refine ⟨k + 1, by omega, by go_num, ?_⟩
            rw [lft_take hkf, HMI.out, HST.out]
            simp only [Bool.and_self, if_true, List.append_nil]
            obtain ⟨nr, h, hn, hR⟩ := HQ1.out.2.2
            exact ⟨HQ1.out.1, HQ1.out.2.1, nr, h, by omega, hR⟩
          case measure => simp [intOf]; omega
        · have hst' : (e1 && e2) = false := by simpa using hst
          have HST2 : Hid (lft (l.take (k + 1)) = lft (l.take k) ++ [((m1, m2), (m3, m4))]) := by
            show _ = _
            rw [lft_take hkf, HMI.out, HST.out, hst']; rfl
          have hmm : ((m1, m2), (m3, m4)) ∉ lft (l.take k) := by
            rw [← HMI.out]
            intro h
            have h1 := (List.mem_filter.1 h).1
            obtain ⟨j, hj, e⟩ := List.getElem_of_mem h1
            rw [List.getElem_take] at e
            rw [List.length_take] at hj
            have := (List.getElem_inj (h₀ := by omega) (h₁ := hkf) HND.out).1 e
            omega
          have y1 : W1.cell? ⟨sb, 1, none⟩ = some (.slice (some ⟨gb, 0, none⟩) ln ln) := cell_arr HQ1.out.1.box rfl
          have yl := HQ1.out.1.lf.cell (i := k) (by simp [lftB]; omega)
          have yz := HQ1.out.1.lf.fz k
          have ym2 : W1.cell? ⟨mbx, 2, none⟩ = some (.int .i64 m3) := cell_arr HK1.out rfl
          have ym3 : W1.cell? ⟨mbx, 3, none⟩ = some (.int .i64 m4) := cell_arr HK1.out rfl
          obtain ⟨W9, hW9⟩ : ∃ W, W = W1.setCell ⟨gb, k, none⟩ (.bool true) := ⟨_, rfl⟩
          have hgbx : gb ≠ mbx := by
            intro e
            have h1 := HQ1.out.1.lf.out
            rw [e, HK1.out] at h1
            injection h1 with h1; injection h1 with _ h1 _; exact absurd h1 (by decide)
          have HQ9 : Hid (SQ W9 B sb gb sm rm (some ⟨b, o, none⟩) ln lc (.slice none 0 0) l (lft (l.take (k + 1))) (lft (l.take k)) [] ∧ Only (SF sb gb rm (.slice none 0 0)) W1 W9) := by
            rw [hW9, HST2.out, ← HMI.out]; exact HQ1.out.1.set2 HND.out hkf
          have z3 : W9.cell? ⟨sb, 3, none⟩ = some (.map (some rm)) := cell_arr HQ9.out.1.box rfl
          have zk : W9.heap[mbx]? = some (.cells #[.int .i64 m1, .int .i64 m2, .int .i64 m3, .int .i64 m4] 36) := by rw [hW9]; exact (heap_set_other hgbx.symm).trans HK1.out
          have zm2 : W9.cell? ⟨mbx, 2, none⟩ = some (.int .i64 m3) := cell_arr zk rfl
          have zm3 : W9.cell? ⟨mbx, 3, none⟩ = some (.int .i64 m4) := cell_arr zk rfl
          obtain ⟨nr, hh, hn1, hR1⟩ := HQ1.out.2.2
          have hR9 : MpL W9 rm nr hh (cntR (lft (l.take k))) := hR1.move (by rw [hW9]; exact heap_set_other HQ1.out.1.apart.2.2.2.2.1.symm)
          have hlk := (hR9.move (w' := W9.drew) rfl).look HFF.out
          simp only at hlk
          obtain ⟨q, hq⟩ : ∃ q, cntR (lft (l.take k)) (m3, m4) = q := ⟨_, rfl⟩
          rw [hq] at hlk
          have hq1 : 0 ≤ q ∧ q ≤ 1000000 := by
            have h2 := List.count_le_length (a := (m3, m4)) (l := (lft (l.take k)).map Prod.snd)
            have h3 := HQ9.out.1.al
            have h4 := HQ9.out.1.sz
            rw [List.length_map] at h2
            unfold cntR at hq
            omega
          have hz2 := HQ9.out.1.sz
          obtain ⟨v0, st, we, h1, hen, hMe, hge, hst⟩ := (hR9.move (w' := W9.drew) rfl).entry (by omega) HFF.out
          have T0 : (fun w' : World => w'.cell? ⟨sb, 3, none⟩ = some (.map (some rm)) ∧ w'.cell? ⟨mbx, 2, none⟩ = some (.int .i64 m3) ∧ w'.cell? ⟨mbx, 3, none⟩ = some (.int .i64 m4) ∧ (Instr.lookup 51 (.map (some rm)) (.agg #[.int .i64 m3, .int .i64 m4]) false).run Try.prog w' = .ok (.int .i64 q) w') W9.drew := ⟨z3, zm2, zm3, hlk⟩
          have hap := HQ9.out.1.apart
          have kk : ∀ {a : Addr} {u : Value}, W9.cell? a = some u → a.block ≠ rm → we.cell? a = some u := fun {a u} h1 h2 => (World.cell?_of_block (hge.block a.block (block_lt_of_cell h1) (fun e => h2 (by cases e; rfl)))).trans h1
          have hmr : mbx ≠ rm := by
            rintro rfl
            obtain ⟨es, cl, e⟩ := hR9.isMap
            rw [zk] at e; cases e
          have hlk1 := hMe.look HFF.out
          rw [hq] at hlk1
          have T1 : (fun w' : World => w'.cell? ⟨sb, 3, none⟩ = some (.map (some rm)) ∧ w'.cell? ⟨mbx, 2, none⟩ = some (.int .i64 m3) ∧ w'.cell? ⟨mbx, 3, none⟩ = some (.int .i64 m4) ∧ (Instr.lookup 51 (.map (some rm)) (.agg #[.int .i64 m3, .int .i64 m4]) false).run Try.prog w' = .ok (.int .i64 q) w') we := ⟨kk z3 hap.2.2.1, kk zm2 hmr, kk zm3 hmr, hlk1⟩
          obtain ⟨w3, hes, hM3, hg3⟩ := hst we rfl (q + 1) (by unfold Fits; omega)
          have HF3 : Hid (SQ w3 B sb gb sm rm (some ⟨b, o, none⟩) ln lc (.slice none 0 0) l (lft (l.take (k + 1))) (lft (l.take (k + 1))) [] ∧ Kp B w w3 ∧ ∃ nr h, nr ≤ k + 1 ∧ MpL w3 rm nr h (cntR (lft (l.take (k + 1))))) := by
            have hge0 : W9.drew.grownBy w3 (some rm) := World.grownBy.trans hge hg3
            have hge' : W9.grownBy w3 (some rm) := ⟨hge0.os, hge0.tape, hge0.output, hge0.size, hge0.block⟩
            have e1 : (fun q' => if q' = (m3, m4) then q + 1 else cntR (lft (l.take k)) q') = cntR (lft (l.take (k + 1))) := by rw [HST2.out, cntR_app, ← hq]
            rw [e1] at hM3
            have hl1 := lft_take_le l (k + 1)
            have hl2 := lft_take_le l k
            obtain ⟨p1, p2⟩ := HQ9.out.1.put3 hM3 (by omega) (by omega) hge'
            have hB9 : B ≤ W1.heap.size := by have := HQ1.out.2.1.bel.size; have := HBB.out; omega
            have hB8 : B ≤ W9.heap.size := by have := HQ9.out.2.size; omega
            exact ⟨p1, (HQ1.out.2.1.trans (HQ1.out.1.kp hB9 HQ9.out.2)).trans (HQ9.out.1.kp hB8 p2), nr + 1, _, by omega, hM3⟩
          have hwr : IntKind.i64.wrap (q + 1) = q + 1 := by rw [IntKind.wrap_i64]; omega
          clear hR1 hR9 hMe hge hst hM3 hg3 kk hap hlk hlk1
          simp only at hen hes
          clear HQ HQ1
          subst hW1
          have hcs : e1 = false ∨ (e1 = true ∧ e2 = false) := by cases e1 <;> cases e2 <;> simp_all
          rcases hcs with rfl | ⟨rfl, rfl⟩
          · go_wp2_with fail
            rw [← hW9]
            clear hW9 y1 yl yz ym2 ym3 c0 c1 c2 c3
            rw [← hmb]
            clear hmb
            refine led_start (S := fun w' : World => w'.cell? ⟨sb, 3, none⟩ = some (.map (some rm)) ∧ w'.cell? ⟨mbx, 2, none⟩ = some (.int .i64 m3) ∧ w'.cell? ⟨mbx, 3, none⟩ = some (.int .i64 m4) ∧ (Instr.lookup 51 (.map (some rm)) (.agg #[.int .i64 m3, .int .i64 m4]) false).run Try.prog w' = .ok (.int .i64 q) w') (z := 10) (by kernel_rfl) ?_
            show led _ _ _ _ _ 11 _ _ _
            refine led_take (i := 0) (v := ?v0ax) rfl (by kernel_rfl) (by kernel_rfl) (by kernel_rfl) (by kernel_rfl) (fun _ _ _ h => h) (.inl ⟨by rfl, ?hy0ax⟩) T0 ?rest0ax
            case hy0ax =>
              rintro w' ⟨h1, h2, h3, h4⟩
              go_simp
              all_goals with_reducible rfl
            try simp only [Act.put, List.setIfInBounds_toArray, List.set_cons_zero, List.set_cons_succ]
            refine led_take (i := 1) (v := ?v1ax) rfl (by kernel_rfl) (by kernel_rfl) (by kernel_rfl) (by kernel_rfl) (fun _ _ _ h => h) (.inl ⟨by rfl, ?hy1ax⟩) T0 ?rest1ax
            case hy1ax =>
              rintro w' ⟨h1, h2, h3, h4⟩
              go_simp
              all_goals with_reducible rfl
            try simp only [Act.put, List.setIfInBounds_toArray, List.set_cons_zero, List.set_cons_succ]
            refine led_take (i := 2) (v := ?v2ax) rfl (by kernel_rfl) (by kernel_rfl) (by kernel_rfl) (by kernel_rfl) (fun _ _ _ h => h) (.inl ⟨by rfl, ?hy2ax⟩) T0 ?rest2ax
            case hy2ax =>
              rintro w' ⟨h1, h2, h3, h4⟩
              go_simp
              all_goals with_reducible rfl
            try simp only [Act.put, List.setIfInBounds_toArray, List.set_cons_zero, List.set_cons_succ]
            refine led_take (i := 3) (v := ?v3ax) rfl (by kernel_rfl) (by kernel_rfl) (by kernel_rfl) (by kernel_rfl) (fun _ _ _ h => h) (.inl ⟨by rfl, ?hy3ax⟩) T0 ?rest3ax
            case hy3ax =>
              rintro w' ⟨h1, h2, h3, h4⟩
              go_simp
              all_goals with_reducible rfl
            try simp only [Act.put, List.setIfInBounds_toArray, List.set_cons_zero, List.set_cons_succ]
            refine led_take (i := 4) (v := ?v4ax) rfl (by kernel_rfl) (by kernel_rfl) (by kernel_rfl) (by kernel_rfl) (fun _ _ _ h => h) (.inl ⟨by rfl, ?hy4ax⟩) T0 ?rest4ax
            case hy4ax =>
              rintro w' ⟨h1, h2, h3, h4⟩
              go_simp
              all_goals with_reducible rfl
            try simp only [Act.put, List.setIfInBounds_toArray, List.set_cons_zero, List.set_cons_succ]
            refine led_take (i := 5) (v := ?v5ax) rfl (by kernel_rfl) (by kernel_rfl) (by kernel_rfl) (by kernel_rfl) (fun _ _ _ h => h) (.inl ⟨by rfl, ?hy5ax⟩) T0 ?rest5ax
            case hy5ax =>
              rintro w' ⟨h1, h2, h3, h4⟩
              go_simp
              all_goals with_reducible rfl
            try simp only [Act.put, List.setIfInBounds_toArray, List.set_cons_zero, List.set_cons_succ]
            refine led_take (i := 6) (v := ?v6ax) rfl (by kernel_rfl) (by kernel_rfl) (by kernel_rfl) (by kernel_rfl) (fun _ _ _ h => h) (.inl ⟨by rfl, ?hy6ax⟩) T0 ?rest6ax
            case hy6ax =>
              rintro w' ⟨h1, h2, h3, h4⟩
              go_simp
              all_goals with_reducible rfl
            try simp only [Act.put, List.setIfInBounds_toArray, List.set_cons_zero, List.set_cons_succ]
            refine led_take (i := 7) (v := ?v7ax) rfl (by kernel_rfl) (by kernel_rfl) (by kernel_rfl) (by kernel_rfl) (fun _ _ _ h => h) (.inl ⟨by rfl, ?hy7ax⟩) T0 ?rest7ax
            case hy7ax =>
              rintro w' ⟨h1, h2, h3, h4⟩
              go_simp
              all_goals with_reducible rfl
            try simp only [Act.put, List.setIfInBounds_toArray, List.set_cons_zero, List.set_cons_succ]
            refine led_one (i := 8) rfl (by kernel_rfl) ?_
            intro K14 hK14
            rw [if_pos (by rfl)]
            go_simp
            refine hK14 _ _ (fun _ => T1) ?_
            clear hK14
            try simp only [Act.put, List.setIfInBounds_toArray, List.set_cons_zero, List.set_cons_succ]
            refine led_one (i := 9) rfl (by kernel_rfl) ?_
            intro K15 hK15
            rw [if_pos (by rfl)]
            go_simp
            refine hK15 _ _ (fun _ => T1) ?_
            clear hK15
            try simp only [Act.put, List.setIfInBounds_toArray, List.set_cons_zero, List.set_cons_succ]
            refine led_one (i := 10) rfl (by kernel_rfl) ?_
            intro K16 hK16
            rw [if_pos (by rfl)]
            go_simp
            refine hK16 _ _ (fun h => absurd rfl h) ?_
            clear hK16 T0 T1
            refine led_done (by kernel_rfl) ?_
            go_wp2_with fail
            go_roundw
            case rel => exact ⟨k + 1, by omega, by go_num, HF3⟩
            case measure => simp [intOf]; omega
          · go_wp2_with fail
            rw [← hW9]
            clear hW9 y1 yl yz ym2 ym3 c0 c1 c2 c3
            rw [← hmb]
            clear hmb
            refine led_start (S := fun w' : World => w'.cell? ⟨sb, 3, none⟩ = some (.map (some rm)) ∧ w'.cell? ⟨mbx, 2, none⟩ = some (.int .i64 m3) ∧ w'.cell? ⟨mbx, 3, none⟩ = some (.int .i64 m4) ∧ (Instr.lookup 51 (.map (some rm)) (.agg #[.int .i64 m3, .int .i64 m4]) false).run Try.prog w' = .ok (.int .i64 q) w') (z := 10) (by kernel_rfl) ?_
            show led _ _ _ _ _ 11 _ _ _
            refine led_take (i := 0) (v := ?v0ay) rfl (by kernel_rfl) (by kernel_rfl) (by kernel_rfl) (by kernel_rfl) (fun _ _ _ h => h) (.inl ⟨by rfl, ?hy0ay⟩) T0 ?rest0ay
            case hy0ay =>
              rintro w' ⟨h1, h2, h3, h4⟩
              go_simp
              all_goals with_reducible rfl
            try simp only [Act.put, List.setIfInBounds_toArray, List.set_cons_zero, List.set_cons_succ]
            refine led_take (i := 1) (v := ?v1ay) rfl (by kernel_rfl) (by kernel_rfl) (by kernel_rfl) (by kernel_rfl) (fun _ _ _ h => h) (.inl ⟨by rfl, ?hy1ay⟩) T0 ?rest1ay
            case hy1ay =>
              rintro w' ⟨h1, h2, h3, h4⟩
              go_simp
              all_goals with_reducible rfl
            try simp only [Act.put, List.setIfInBounds_toArray, List.set_cons_zero, List.set_cons_succ]
            refine led_take (i := 2) (v := ?v2ay) rfl (by kernel_rfl) (by kernel_rfl) (by kernel_rfl) (by kernel_rfl) (fun _ _ _ h => h) (.inl ⟨by rfl, ?hy2ay⟩) T0 ?rest2ay
            case hy2ay =>
              rintro w' ⟨h1, h2, h3, h4⟩
              go_simp
              all_goals with_reducible rfl
            try simp only [Act.put, List.setIfInBounds_toArray, List.set_cons_zero, List.set_cons_succ]
            refine led_take (i := 3) (v := ?v3ay) rfl (by kernel_rfl) (by kernel_rfl) (by kernel_rfl) (by kernel_rfl) (fun _ _ _ h => h) (.inl ⟨by rfl, ?hy3ay⟩) T0 ?rest3ay
            case hy3ay =>
              rintro w' ⟨h1, h2, h3, h4⟩
              go_simp
              all_goals with_reducible rfl
            try simp only [Act.put, List.setIfInBounds_toArray, List.set_cons_zero, List.set_cons_succ]
            refine led_take (i := 4) (v := ?v4ay) rfl (by kernel_rfl) (by kernel_rfl) (by kernel_rfl) (by kernel_rfl) (fun _ _ _ h => h) (.inl ⟨by rfl, ?hy4ay⟩) T0 ?rest4ay
            case hy4ay =>
              rintro w' ⟨h1, h2, h3, h4⟩
              go_simp
              all_goals with_reducible rfl
            try simp only [Act.put, List.setIfInBounds_toArray, List.set_cons_zero, List.set_cons_succ]
            refine led_take (i := 5) (v := ?v5ay) rfl (by kernel_rfl) (by kernel_rfl) (by kernel_rfl) (by kernel_rfl) (fun _ _ _ h => h) (.inl ⟨by rfl, ?hy5ay⟩) T0 ?rest5ay
            case hy5ay =>
              rintro w' ⟨h1, h2, h3, h4⟩
              go_simp
              all_goals with_reducible rfl
            try simp only [Act.put, List.setIfInBounds_toArray, List.set_cons_zero, List.set_cons_succ]
            refine led_take (i := 6) (v := ?v6ay) rfl (by kernel_rfl) (by kernel_rfl) (by kernel_rfl) (by kernel_rfl) (fun _ _ _ h => h) (.inl ⟨by rfl, ?hy6ay⟩) T0 ?rest6ay
            case hy6ay =>
              rintro w' ⟨h1, h2, h3, h4⟩
              go_simp
              all_goals with_reducible rfl
            try simp only [Act.put, List.setIfInBounds_toArray, List.set_cons_zero, List.set_cons_succ]
            refine led_take (i := 7) (v := ?v7ay) rfl (by kernel_rfl) (by kernel_rfl) (by kernel_rfl) (by kernel_rfl) (fun _ _ _ h => h) (.inl ⟨by rfl, ?hy7ay⟩) T0 ?rest7ay
            case hy7ay =>
              rintro w' ⟨h1, h2, h3, h4⟩
              go_simp
              all_goals with_reducible rfl
            try simp only [Act.put, List.setIfInBounds_toArray, List.set_cons_zero, List.set_cons_succ]
            refine led_one (i := 8) rfl (by kernel_rfl) ?_
            intro K14 hK14
            rw [if_pos (by rfl)]
            go_simp
            refine hK14 _ _ (fun _ => T1) ?_
            clear hK14
            try simp only [Act.put, List.setIfInBounds_toArray, List.set_cons_zero, List.set_cons_succ]
            refine led_one (i := 9) rfl (by kernel_rfl) ?_
            intro K15 hK15
            rw [if_pos (by rfl)]
            go_simp
            refine hK15 _ _ (fun _ => T1) ?_
            clear hK15
            try simp only [Act.put, List.setIfInBounds_toArray, List.set_cons_zero, List.set_cons_succ]
            refine led_one (i := 10) rfl (by kernel_rfl) ?_
            intro K16 hK16
            rw [if_pos (by rfl)]
            go_simp
            refine hK16 _ _ (fun h => absurd rfl h) ?_
            clear hK16 T0 T1
            refine led_done (by kernel_rfl) ?_
            go_wp2_with fail
            go_roundw
            case rel => exact ⟨k + 1, by omega, by go_num, HF3⟩
            case measure => simp [intOf]; omega
      · obtain rfl : k = ln := by omega
        have HQ2 := HQ.out
        rw [HN.out, List.take_length, ← HN.out] at HQ2
        have HQ3 : Hid _ := HQ2
        clear HQ2 HQ
        go_wp2_with fail
        go_ret
        exact ⟨sb, gb, rm, rfl, HQ3.out.1, HQ3.out.2.1⟩
  · have HQ0 : Hid (SQ ((((w.alloc (.map #[] 0)).alloc (.cells (madeCells #[.bool false] ln) 4)).alloc (.cells #[.slice la ln lc, .slice (some ⟨w.heap.size + 1, 0, none⟩) ln ln, .map (some sm), .map (some w.heap.size), .slice none 0 0] 59)).drew) B (w.heap.size + 1 + 1) (w.heap.size + 1) sm w.heap.size la ln lc (.slice none 0 0) l (lft (l.take 0)) (lft (l.take 0)) [] ∧ Kp B w ((((w.alloc (.map #[] 0)).alloc (.cells (madeCells #[.bool false] ln) 4)).alloc (.cells #[.slice la ln lc, .slice (some ⟨w.heap.size + 1, 0, none⟩) ln ln, .map (some sm), .map (some w.heap.size), .slice none 0 0] 59)).drew) ∧ ∃ nr h, nr ≤ 0 ∧ MpL ((((w.alloc (.map #[] 0)).alloc (.cells (madeCells #[.bool false] ln) 4)).alloc (.cells #[.slice la ln lc, .slice (some ⟨w.heap.size + 1, 0, none⟩) ln ln, .map (some sm), .map (some w.heap.size), .slice none 0 0] 59)).drew) w.heap.size nr h (cntR (lft (l.take 0)))) := seq0_b w HBB.out HN.out HSZ.out HL.out HAR.out HM.out HMS.out
    obtain ⟨sb, hsb⟩ : ∃ s, s = w.heap.size + 1 + 1 := ⟨_, rfl⟩
    obtain ⟨gb, hgb⟩ : ∃ s, s = (w.heap.size + 1) := ⟨_, rfl⟩
    obtain ⟨rm, hrm⟩ : ∃ s, s = w.heap.size := ⟨_, rfl⟩
    obtain ⟨W0, hW0⟩ : ∃ W, W = ((((w.alloc (.map #[] 0)).alloc (.cells (madeCells #[.bool false] ln) 4)).alloc (.cells #[.slice la ln lc, .slice (some ⟨w.heap.size + 1, 0, none⟩) ln ln, .map (some sm), .map (some w.heap.size), .slice none 0 0] 59)).drew) := ⟨_, rfl⟩
    rw [← hW0] at HQ0 ⊢
    rw [← hsb, ← hgb, ← hrm] at HQ0
    rw [← hsb]
    clear hW0 hsb hgb hrm hmk hml HM
    go_wp2_with fail
    go_loopw [20] (fun v wr => ∃ k : Nat, k ≤ ln ∧ v = .int .i64 k ∧ Hid (SQ wr B sb gb sm rm la ln lc (.slice none 0 0) l (lft (l.take k)) (lft (l.take k)) [] ∧ Kp B w wr ∧ ∃ nr h, nr ≤ k ∧ MpL wr rm nr h (cntR (lft (l.take k))))) (fun v _ => ln - (intOf v).toNat)
    case atStart => exact ⟨0, by omega, rfl, HQ0⟩
    case round =>
      clear HQ0
      obtain ⟨k, hk, rfl, HQ⟩ := hrel
      by_cases hlt : k < ln
      · have hkf : k < l.length := by have := HN.out; omega
        have hne : l ≠ [] := by rintro rfl; simp at hkf
        obtain ⟨b, o, rfl, hbB, hAt⟩ := HQ.out.1.ar hne
        obtain ⟨c0, c1, c2, c3⟩ := hAt.cell k hkf
        have hbl := hAt.lt
        have hfm := (HL.out.fit _ (List.getElem_mem hkf))
        have hsb : sb < wr.heap.size := (Array.getElem?_eq_some_iff.1 HQ.out.1.box).1
        obtain ⟨m, hmi⟩ : ∃ m, l[k] = m := ⟨_, rfl⟩
        rw [hmi] at c0 c1 c2 c3 hfm
        obtain ⟨⟨m1, m2⟩, ⟨m3, m4⟩⟩ := m
        simp only at c0 c1 c2 c3
        have HMI : Hid (l[k] = ((m1, m2), (m3, m4))) := hmi
        have HFF : Hid (FitL (m3, m4)) := hfm.f
        obtain ⟨W1, hW1⟩ : ∃ W, W = wr.alloc (.cells #[.int .i64 m1, .int .i64 m2, .int .i64 m3, .int .i64 m4] 36) := ⟨_, rfl⟩
        obtain ⟨mbx, hmb⟩ : ∃ s, s = wr.heap.size := ⟨_, rfl⟩
        have HQ1 : Hid (SQ W1 B sb gb sm rm (some ⟨b, o, none⟩) ln lc (.slice none 0 0) l (lft (l.take k)) (lft (l.take k)) [] ∧ Kp B w W1 ∧ ∃ nr h, nr ≤ k ∧ MpL W1 rm nr h (cntR (lft (l.take k)))) := by
          obtain ⟨nr, h, hn, hR⟩ := HQ.out.2.2
          have hb1 : Below wr.heap.size wr W1 := by rw [hW1]; exact below_new _ _
          exact ⟨HQ.out.1.keep hb1, HQ.out.2.1.trans (Kp.below (by have := HQ.out.2.1.bel.size; have := HBB.out; omega) hb1), nr, h, hn, hR.move (hb1.block _ hR.lt)⟩
        have HK1 : Hid (W1.heap[mbx]? = some (.cells #[.int .i64 m1, .int .i64 m2, .int .i64 m3, .int .i64 m4] 36)) := by rw [hW1, hmb]; exact heap_alloc_new _ _
        obtain ⟨e1, d1⟩ : ∃ e, (m3 == m1) = e := ⟨_, rfl⟩
        obtain ⟨e2, d2⟩ : ∃ e, (m4 == m2) = e := ⟨_, rfl⟩
        have HST : Hid (stays ((m1, m2), (m3, m4)) = (e1 && e2)) := by
          show ((m3, m4) == (m1, m2)) = (e1 && e2)
          rw [← d1, ← d2]; rfl
        clear hfm hmi hAt
        by_cases hst : (e1 && e2) = true
        · have h12 : e1 = true ∧ e2 = true := by simpa using hst
          obtain ⟨rfl, rfl⟩ := h12
          clear hst
          go_wp2_with fail
          rw [← hW1]
          go_roundw
          case rel =>
            refine ⟨k + 1, by omega, by go_num, ?_⟩
            rw [lft_take hkf, HMI.out, HST.out]
            simp only [Bool.and_self, if_true, List.append_nil]
            obtain ⟨nr, h, hn, hR⟩ := HQ1.out.2.2
            exact ⟨HQ1.out.1, HQ1.out.2.1, nr, h, by omega, hR⟩
          case measure => simp [intOf]; omega
        · have hst' : (e1 && e2) = false := by simpa using hst
          have HST2 : Hid (lft (l.take (k + 1)) = lft (l.take k) ++ [((m1, m2), (m3, m4))]) := by
            show _ = _
            rw [lft_take hkf, HMI.out, HST.out, hst']; rfl
          have hmm : ((m1, m2), (m3, m4)) ∉ lft (l.take k) := by
            rw [← HMI.out]
            intro h
            have h1 := (List.mem_filter.1 h).1
            obtain ⟨j, hj, e⟩ := List.getElem_of_mem h1
            rw [List.getElem_take] at e
            rw [List.length_take] at hj
            have := (List.getElem_inj (h₀ := by omega) (h₁ := hkf) HND.out).1 e
            omega
          have y1 : W1.cell? ⟨sb, 1, none⟩ = some (.slice (some ⟨gb, 0, none⟩) ln ln) := cell_arr HQ1.out.1.box rfl
          have yl := HQ1.out.1.lf.cell (i := k) (by simp [lftB]; omega)
          have yz := HQ1.out.1.lf.fz k
          have ym2 : W1.cell? ⟨mbx, 2, none⟩ = some (.int .i64 m3) := cell_arr HK1.out rfl
          have ym3 : W1.cell? ⟨mbx, 3, none⟩ = some (.int .i64 m4) := cell_arr HK1.out rfl
          obtain ⟨W9, hW9⟩ : ∃ W, W = W1.setCell ⟨gb, k, none⟩ (.bool true) := ⟨_, rfl⟩
          have hgbx : gb ≠ mbx := by
            intro e
            have h1 := HQ1.out.1.lf.out
            rw [e, HK1.out] at h1
            injection h1 with h1; injection h1 with _ h1 _; exact absurd h1 (by decide)
          have HQ9 : Hid (SQ W9 B sb gb sm rm (some ⟨b, o, none⟩) ln lc (.slice none 0 0) l (lft (l.take (k + 1))) (lft (l.take k)) [] ∧ Only (SF sb gb rm (.slice none 0 0)) W1 W9) := by
            rw [hW9, HST2.out, ← HMI.out]; exact HQ1.out.1.set2 HND.out hkf
          have z3 : W9.cell? ⟨sb, 3, none⟩ = some (.map (some rm)) := cell_arr HQ9.out.1.box rfl
          have zk : W9.heap[mbx]? = some (.cells #[.int .i64 m1, .int .i64 m2, .int .i64 m3, .int .i64 m4] 36) := by rw [hW9]; exact (heap_set_other hgbx.symm).trans HK1.out
          have zm2 : W9.cell? ⟨mbx, 2, none⟩ = some (.int .i64 m3) := cell_arr zk rfl
          have zm3 : W9.cell? ⟨mbx, 3, none⟩ = some (.int .i64 m4) := cell_arr zk rfl
          obtain ⟨nr, hh, hn1, hR1⟩ := HQ1.out.2.2
          have hR9 : MpL W9 rm nr hh (cntR (lft (l.take k))) := hR1.move (by rw [hW9]; exact heap_set_other HQ1.out.1.apart.2.2.2.2.1.symm)
          have hlk := (hR9.move (w' := W9.drew) rfl).look HFF.out
          simp only at hlk
          obtain ⟨q, hq⟩ : ∃ q, cntR (lft (l.take k)) (m3, m4) = q := ⟨_, rfl⟩
          rw [hq] at hlk
          have hq1 : 0 ≤ q ∧ q ≤ 1000000 := by
            have h2 := List.count_le_length (a := (m3, m4)) (l := (lft (l.take k)).map Prod.snd)
            have h3 := HQ9.out.1.al
            have h4 := HQ9.out.1.sz
            rw [List.length_map] at h2
            unfold cntR at hq
            omega
          have hz2 := HQ9.out.1.sz
          obtain ⟨v0, st, we, h1, hen, hMe, hge, hst⟩ := (hR9.move (w' := W9.drew) rfl).entry (by omega) HFF.out
          have T0 : (fun w' : World => w'.cell? ⟨sb, 3, none⟩ = some (.map (some rm)) ∧ w'.cell? ⟨mbx, 2, none⟩ = some (.int .i64 m3) ∧ w'.cell? ⟨mbx, 3, none⟩ = some (.int .i64 m4) ∧ (Instr.lookup 51 (.map (some rm)) (.agg #[.int .i64 m3, .int .i64 m4]) false).run Try.prog w' = .ok (.int .i64 q) w') W9.drew := ⟨z3, zm2, zm3, hlk⟩
          have hap := HQ9.out.1.apart
          have kk : ∀ {a : Addr} {u : Value}, W9.cell? a = some u → a.block ≠ rm → we.cell? a = some u := fun {a u} h1 h2 => (World.cell?_of_block (hge.block a.block (block_lt_of_cell h1) (fun e => h2 (by cases e; rfl)))).trans h1
          have hmr : mbx ≠ rm := by
            rintro rfl
            obtain ⟨es, cl, e⟩ := hR9.isMap
            rw [zk] at e; cases e
          have hlk1 := hMe.look HFF.out
          rw [hq] at hlk1
          have T1 : (fun w' : World => w'.cell? ⟨sb, 3, none⟩ = some (.map (some rm)) ∧ w'.cell? ⟨mbx, 2, none⟩ = some (.int .i64 m3) ∧ w'.cell? ⟨mbx, 3, none⟩ = some (.int .i64 m4) ∧ (Instr.lookup 51 (.map (some rm)) (.agg #[.int .i64 m3, .int .i64 m4]) false).run Try.prog w' = .ok (.int .i64 q) w') we := ⟨kk z3 hap.2.2.1, kk zm2 hmr, kk zm3 hmr, hlk1⟩
          obtain ⟨w3, hes, hM3, hg3⟩ := hst we rfl (q + 1) (by unfold Fits; omega)
          have HF3 : Hid (SQ w3 B sb gb sm rm (some ⟨b, o, none⟩) ln lc (.slice none 0 0) l (lft (l.take (k + 1))) (lft (l.take (k + 1))) [] ∧ Kp B w w3 ∧ ∃ nr h, nr ≤ k + 1 ∧ MpL w3 rm nr h (cntR (lft (l.take (k + 1))))) := by
            have hge0 : W9.drew.grownBy w3 (some rm) := World.grownBy.trans hge hg3
            have hge' : W9.grownBy w3 (some rm) := ⟨hge0.os, hge0.tape, hge0.output, hge0.size, hge0.block⟩
            have e1 : (fun q' => if q' = (m3, m4) then q + 1 else cntR (lft (l.take k)) q') = cntR (lft (l.take (k + 1))) := by rw [HST2.out, cntR_app, ← hq]
            rw [e1] at hM3
            have hl1 := lft_take_le l (k + 1)
            have hl2 := lft_take_le l k
            obtain ⟨p1, p2⟩ := HQ9.out.1.put3 hM3 (by omega) (by omega) hge'
            have hB9 : B ≤ W1.heap.size := by have := HQ1.out.2.1.bel.size; have := HBB.out; omega
            have hB8 : B ≤ W9.heap.size := by have := HQ9.out.2.size; omega
            exact ⟨p1, (HQ1.out.2.1.trans (HQ1.out.1.kp hB9 HQ9.out.2)).trans (HQ9.out.1.kp hB8 p2), nr + 1, _, by omega, hM3⟩
          have hwr : IntKind.i64.wrap (q + 1) = q + 1 := by rw [IntKind.wrap_i64]; omega
          clear hR1 hR9 hMe hge hst hM3 hg3 kk hap hlk hlk1
          simp only at hen hes
          clear HQ HQ1
          subst hW1
          have hcs : e1 = false ∨ (e1 = true ∧ e2 = false) := by cases e1 <;> cases e2 <;> simp_all
          rcases hcs with rfl | ⟨rfl, rfl⟩
          · go_wp2_with fail
            rw [← hW9]
            clear hW9 y1 yl yz ym2 ym3 c0 c1 c2 c3
            rw [← hmb]
            clear hmb
            refine led_start (S := fun w' : World => w'.cell? ⟨sb, 3, none⟩ = some (.map (some rm)) ∧ w'.cell? ⟨mbx, 2, none⟩ = some (.int .i64 m3) ∧ w'.cell? ⟨mbx, 3, none⟩ = some (.int .i64 m4) ∧ (Instr.lookup 51 (.map (some rm)) (.agg #[.int .i64 m3, .int .i64 m4]) false).run Try.prog w' = .ok (.int .i64 q) w') (z := 10) (by kernel_rfl) ?_
            show led _ _ _ _ _ 11 _ _ _
            refine led_take (i := 0) (v := ?v0bx) rfl (by kernel_rfl) (by kernel_rfl) (by kernel_rfl) (by kernel_rfl) (fun _ _ _ h => h) (.inl ⟨by rfl, ?hy0bx⟩) T0 ?rest0bx
            case hy0bx =>
              rintro w' ⟨h1, h2, h3, h4⟩
              go_simp
              all_goals with_reducible rfl
            try simp only [Act.put, List.setIfInBounds_toArray, List.set_cons_zero, List.set_cons_succ]
            refine led_take (i := 1) (v := ?v1bx) rfl (by kernel_rfl) (by kernel_rfl) (by kernel_rfl) (by kernel_rfl) (fun _ _ _ h => h) (.inl ⟨by rfl, ?hy1bx⟩) T0 ?rest1bx
            case hy1bx =>
              rintro w' ⟨h1, h2, h3, h4⟩
              go_simp
              all_goals with_reducible rfl
            try simp only [Act.put, List.setIfInBounds_toArray, List.set_cons_zero, List.set_cons_succ]
            refine led_take (i := 2) (v := ?v2bx) rfl (by kernel_rfl) (by kernel_rfl) (by kernel_rfl) (by kernel_rfl) (fun _ _ _ h => h) (.inl ⟨by rfl, ?hy2bx⟩) T0 ?rest2bx
            case hy2bx =>
              rintro w' ⟨h1, h2, h3, h4⟩
              go_simp
              all_goals with_reducible rfl
            try simp only [Act.put, List.setIfInBounds_toArray, List.set_cons_zero, List.set_cons_succ]
            refine led_take (i := 3) (v := ?v3bx) rfl (by kernel_rfl) (by kernel_rfl) (by kernel_rfl) (by kernel_rfl) (fun _ _ _ h => h) (.inl ⟨by rfl, ?hy3bx⟩) T0 ?rest3bx
            case hy3bx =>
              rintro w' ⟨h1, h2, h3, h4⟩
              go_simp
              all_goals with_reducible rfl
            try simp only [Act.put, List.setIfInBounds_toArray, List.set_cons_zero, List.set_cons_succ]
            refine led_take (i := 4) (v := ?v4bx) rfl (by kernel_rfl) (by kernel_rfl) (by kernel_rfl) (by kernel_rfl) (fun _ _ _ h => h) (.inl ⟨by rfl, ?hy4bx⟩) T0 ?rest4bx
            case hy4bx =>
              rintro w' ⟨h1, h2, h3, h4⟩
              go_simp
              all_goals with_reducible rfl
            try simp only [Act.put, List.setIfInBounds_toArray, List.set_cons_zero, List.set_cons_succ]
            refine led_take (i := 5) (v := ?v5bx) rfl (by kernel_rfl) (by kernel_rfl) (by kernel_rfl) (by kernel_rfl) (fun _ _ _ h => h) (.inl ⟨by rfl, ?hy5bx⟩) T0 ?rest5bx
            case hy5bx =>
              rintro w' ⟨h1, h2, h3, h4⟩
              go_simp
              all_goals with_reducible rfl
            try simp only [Act.put, List.setIfInBounds_toArray, List.set_cons_zero, List.set_cons_succ]
            refine led_take (i := 6) (v := ?v6bx) rfl (by kernel_rfl) (by kernel_rfl) (by kernel_rfl) (by kernel_rfl) (fun _ _ _ h => h) (.inl ⟨by rfl, ?hy6bx⟩) T0 ?rest6bx
            case hy6bx =>
              rintro w' ⟨h1, h2, h3, h4⟩
              go_simp
              all_goals with_reducible rfl
            try simp only [Act.put, List.setIfInBounds_toArray, List.set_cons_zero, List.set_cons_succ]
            refine led_take (i := 7) (v := ?v7bx) rfl (by kernel_rfl) (by kernel_rfl) (by kernel_rfl) (by kernel_rfl) (fun _ _ _ h => h) (.inl ⟨by rfl, ?hy7bx⟩) T0 ?rest7bx
            case hy7bx =>
              rintro w' ⟨h1, h2, h3, h4⟩
              go_simp
              all_goals with_reducible rfl
            try simp only [Act.put, List.setIfInBounds_toArray, List.set_cons_zero, List.set_cons_succ]
            refine led_one (i := 8) rfl (by kernel_rfl) ?_
            intro K14 hK14
            rw [if_pos (by rfl)]
            go_simp
            refine hK14 _ _ (fun _ => T1) ?_
            clear hK14
            try simp only [Act.put, List.setIfInBounds_toArray, List.set_cons_zero, List.set_cons_succ]
            refine led_one (i := 9) rfl (by kernel_rfl) ?_
            intro K15 hK15
            rw [if_pos (by rfl)]
            go_simp
            refine hK15 _ _ (fun _ => T1) ?_
            clear hK15
            try simp only [Act.put, List.setIfInBounds_toArray, List.set_cons_zero, List.set_cons_succ]
            refine led_one (i := 10) rfl (by kernel_rfl) ?_
            intro K16 hK16
            rw [if_pos (by rfl)]
            go_simp
            refine hK16 _ _ (fun h => absurd rfl h) ?_
            clear hK16 T0 T1
            refine led_done (by kernel_rfl) ?_
            go_wp2_with fail
            go_roundw
            case rel => exact ⟨k + 1, by omega, by go_num, HF3⟩
            case measure => simp [intOf]; omega
          · go_wp2_with fail
            rw [← hW9]
            clear hW9 y1 yl yz ym2 ym3 c0 c1 c2 c3
            rw [← hmb]
            clear hmb
            refine led_start (S := fun w' : World => w'.cell? ⟨sb, 3, none⟩ = some (.map (some rm)) ∧ w'.cell? ⟨mbx, 2, none⟩ = some (.int .i64 m3) ∧ w'.cell? ⟨mbx, 3, none⟩ = some (.int .i64 m4) ∧ (Instr.lookup 51 (.map (some rm)) (.agg #[.int .i64 m3, .int .i64 m4]) false).run Try.prog w' = .ok (.int .i64 q) w') (z := 10) (by kernel_rfl) ?_
            show led _ _ _ _ _ 11 _ _ _
            refine led_take (i := 0) (v := ?v0by) rfl (by kernel_rfl) (by kernel_rfl) (by kernel_rfl) (by kernel_rfl) (fun _ _ _ h => h) (.inl ⟨by rfl, ?hy0by⟩) T0 ?rest0by
            case hy0by =>
              rintro w' ⟨h1, h2, h3, h4⟩
              go_simp
              all_goals with_reducible rfl
            try simp only [Act.put, List.setIfInBounds_toArray, List.set_cons_zero, List.set_cons_succ]
            refine led_take (i := 1) (v := ?v1by) rfl (by kernel_rfl) (by kernel_rfl) (by kernel_rfl) (by kernel_rfl) (fun _ _ _ h => h) (.inl ⟨by rfl, ?hy1by⟩) T0 ?rest1by
            case hy1by =>
              rintro w' ⟨h1, h2, h3, h4⟩
              go_simp
              all_goals with_reducible rfl
            try simp only [Act.put, List.setIfInBounds_toArray, List.set_cons_zero, List.set_cons_succ]
            refine led_take (i := 2) (v := ?v2by) rfl (by kernel_rfl) (by kernel_rfl) (by kernel_rfl) (by kernel_rfl) (fun _ _ _ h => h) (.inl ⟨by rfl, ?hy2by⟩) T0 ?rest2by
            case hy2by =>
              rintro w' ⟨h1, h2, h3, h4⟩
              go_simp
              all_goals with_reducible rfl
            try simp only [Act.put, List.setIfInBounds_toArray, List.set_cons_zero, List.set_cons_succ]
            refine led_take (i := 3) (v := ?v3by) rfl (by kernel_rfl) (by kernel_rfl) (by kernel_rfl) (by kernel_rfl) (fun _ _ _ h => h) (.inl ⟨by rfl, ?hy3by⟩) T0 ?rest3by
            case hy3by =>
              rintro w' ⟨h1, h2, h3, h4⟩
              go_simp
              all_goals with_reducible rfl
            try simp only [Act.put, List.setIfInBounds_toArray, List.set_cons_zero, List.set_cons_succ]
            refine led_take (i := 4) (v := ?v4by) rfl (by kernel_rfl) (by kernel_rfl) (by kernel_rfl) (by kernel_rfl) (fun _ _ _ h => h) (.inl ⟨by rfl, ?hy4by⟩) T0 ?rest4by
            case hy4by =>
              rintro w' ⟨h1, h2, h3, h4⟩
              go_simp
              all_goals with_reducible rfl
            try simp only [Act.put, List.setIfInBounds_toArray, List.set_cons_zero, List.set_cons_succ]
            refine led_take (i := 5) (v := ?v5by) rfl (by kernel_rfl) (by kernel_rfl) (by kernel_rfl) (by kernel_rfl) (fun _ _ _ h => h) (.inl ⟨by rfl, ?hy5by⟩) T0 ?rest5by
            case hy5by =>
              rintro w' ⟨h1, h2, h3, h4⟩
              go_simp
              all_goals with_reducible rfl
            try simp only [Act.put, List.setIfInBounds_toArray, List.set_cons_zero, List.set_cons_succ]
            refine led_take (i := 6) (v := ?v6by) rfl (by kernel_rfl) (by kernel_rfl) (by kernel_rfl) (by kernel_rfl) (fun _ _ _ h => h) (.inl ⟨by rfl, ?hy6by⟩) T0 ?rest6by
            case hy6by =>
              rintro w' ⟨h1, h2, h3, h4⟩
              go_simp
              all_goals with_reducible rfl
            try simp only [Act.put, List.setIfInBounds_toArray, List.set_cons_zero, List.set_cons_succ]
            refine led_take (i := 7) (v := ?v7by) rfl (by kernel_rfl) (by kernel_rfl) (by kernel_rfl) (by kernel_rfl) (fun _ _ _ h => h) (.inl ⟨by rfl, ?hy7by⟩) T0 ?rest7by
            case hy7by =>
              rintro w' ⟨h1, h2, h3, h4⟩
              go_simp
              all_goals with_reducible rfl
            try simp only [Act.put, List.setIfInBounds_toArray, List.set_cons_zero, List.set_cons_succ]
            refine led_one (i := 8) rfl (by kernel_rfl) ?_
            intro K14 hK14
            rw [if_pos (by rfl)]
            go_simp
            refine hK14 _ _ (fun _ => T1) ?_
            clear hK14
            try simp only [Act.put, List.setIfInBounds_toArray, List.set_cons_zero, List.set_cons_succ]
            refine led_one (i := 9) rfl (by kernel_rfl) ?_
            intro K15 hK15
            rw [if_pos (by rfl)]
            go_simp
            refine hK15 _ _ (fun _ => T1) ?_
            clear hK15
            try simp only [Act.put, List.setIfInBounds_toArray, List.set_cons_zero, List.set_cons_succ]
            refine led_one (i := 10) rfl (by kernel_rfl) ?_
            intro K16 hK16
            rw [if_pos (by rfl)]
            go_simp
            refine hK16 _ _ (fun h => absurd rfl h) ?_
            clear hK16 T0 T1
            refine led_done (by kernel_rfl) ?_
            go_wp2_with fail
            go_roundw
            case rel => exact ⟨k + 1, by omega, by go_num, HF3⟩
            case measure => simp [intOf]; omega
      · obtain rfl : k = ln := by omega
        have HQ2 := HQ.out
        rw [HN.out, List.take_length, ← HN.out] at HQ2
        have HQ3 : Hid _ := HQ2
        clear HQ2 HQ
        go_wp2_with fail
        go_ret
        exact ⟨sb, gb, rm, rfl, HQ3.out.1, HQ3.out.2.1⟩
end Go.Proofs.Ytdoiblknbpbhaaa
