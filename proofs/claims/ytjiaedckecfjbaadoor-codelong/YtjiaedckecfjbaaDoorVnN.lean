import Derived.Test.YtjiaedckecfjbaaDoorVnR
import Derived.Test.YtjiaedckecfjbaaDoorVaX
import Derived.StringKeys
import Derived.Maps.OwnOps
import Derived.Maps.OwnSet
set_option linter.unusedVariables false
set_option linter.unusedSimpArgs false
namespace Go.Proofs.YtjiaedckecfjbaaDoor
open Go.ChangeShapes Go.WideShapes Go.ChangeAt Go.RowKit Go.Maps Go.WideMaps

/-- A name as it lies in the program. -/
def nml (s : ByteArray) : List UInt8 := s.data.toList
theorem bs_nml (s : ByteArray) : bs (nml s) = s := by simp [bs, nml]
theorem nml_inj {a b : ByteArray} (h : nml a = nml b) : a = b := by rw [← bs_nml a, h, bs_nml]
/-- How many names of the first ones are not met ahead of them. -/
def cdN (N : List (List UInt8)) : Nat → Nat
  | 0 => 0
  | k + 1 => if N.getD k [] ∈ N.take k then cdN N k else cdN N k + 1
theorem cdN_le (N : List (List UInt8)) : ∀ k, cdN N k ≤ k
  | 0 => Nat.le_refl _
  | k + 1 => by
    have := cdN_le N k
    unfold cdN
    split <;> omega
theorem cdN_eq (N : List (List UInt8)) : ∀ k, k ≤ N.length → (cdN N k = k ↔ (N.take k).Nodup)
  | 0, _ => by simp [cdN]
  | k + 1, hk => by
    have ih := cdN_eq N k (by omega)
    have hl := cdN_le N k
    have hg : N.getD k [] = N[k] := by simp [List.getD, show k < N.length by omega]
    rw [← List.take_append_getElem (show k < N.length by omega), List.nodup_append]
    unfold cdN
    rw [hg]
    split
    · next h =>
      constructor
      · intro e; omega
      · rintro ⟨_, _, h3⟩
        exact absurd rfl (h3 _ h _ (by simp))
    · next h =>
      constructor
      · intro e
        refine ⟨ih.1 (by omega), by simp, fun a ha b hb e2 => ?_⟩
        simp at hb
        subst hb; subst e2
        exact h ha
      · rintro ⟨h1, _, _⟩
        have := ih.2 h1
        omega
def namesP (FS : List Rf) : Bool := FS.all (fun f : Rf => nmOk (nml f.name)) && decide ((FS.map fun f : Rf => nml f.name).Nodup)
theorem below_newX (w : World) (X : Obj) : Below w.heap.size w (w.alloc X) := (Below.refl _ _).alloc (Nat.le_refl _) _
theorem law9 : Keyed Tryd.prog 9 := string_keyed Tryd.underlying9
theorem zeroI (w : World) : (zeroValue 3).run Tryd.prog w = .ok (.int .i64 0) w := by kernel_rfl
/-- The map of names that were met. -/
structure NM (w : World) (mb k : Nat) (N : List (List UInt8)) : Prop where
  out : ∃ D : DataW Value, w.ownsMap Tryd.prog 9 (plainElem Tryd.prog 3) mb k D ∧ size D = cdN N k ∧ ∀ s : List UInt8, has D (.string s) = decide (s ∈ N.take k)
theorem NM.start (w : World) (N : List (List UInt8)) : NM (w.alloc (.map #[] 0)) w.heap.size 0 N :=
  ⟨.map [], World.ownsMap_made _ _ _ _, rfl, fun s => by simp [has]⟩
theorem key9 {s : ByteArray} (hs : s.size ≤ 64) : keyOf Tryd.prog 9 (.string s) = some (.string (nml s)) := keyOf_string_mk Tryd.underlying9 (by unfold maxLen; omega)
theorem NM.next {w' : World} {mb k : Nat} {N : List (List UInt8)} {D : DataW Value} (hk : k < N.length) (h1 : size D = cdN N k) (h2 : ∀ s : List UInt8, has D (.string s) = decide (s ∈ N.take k)) (ht : Tidy D) (d : DataW Value) (h : w'.ownsMap Tryd.prog 9 (plainElem Tryd.prog 3) mb (k + 1) (D.put (.string N[k]) d)) : NM w' mb (k + 1) N := by
  have hg : N.getD k [] = N[k] := by simp [List.getD, hk]
  refine ⟨_, h, ?_, fun s => ?_⟩
  · rw [size_put ht, h2, h1]
    simp only [cdN, hg, decide_eq_true_eq]
  · by_cases e : s = N[k]
    · subst e
      rw [has_put_same ht.isMap (show WideAt.IsKeyLit (Lit.string _) from trivial)]
      have : N[k] ∈ N.take (k + 1) := by rw [← List.take_append_getElem hk, List.mem_append, List.mem_singleton]; exact .inr rfl
      exact (decide_eq_true this).symm
    · have hne : (Lit.string s) ≠ .string N[k] := fun q => e (by injection q)
      rw [has_put_other hne, h2, decide_eq_decide, ← List.take_append_getElem hk, List.mem_append, List.mem_singleton]
      exact ⟨fun q => .inl q, fun q => q.resolve_right e⟩
theorem own_map_moveN {w w' : World} {b c : Nat} {D : DataW Value} (h : w.ownsMap Tryd.prog 9 (plainElem Tryd.prog 3) b c D) (hk : w'.heap[b]? = w.heap[b]?) : w'.ownsMap Tryd.prog 9 (plainElem Tryd.prog 3) b c D := by
  obtain ⟨es, cl, h1, h2⟩ := h
  exact ⟨es, cl, hk.trans h1, h2⟩
theorem NM.keep {w w' : World} {mb k N} (h : NM w mb k N) (hb : Below w.heap.size w w') : NM w' mb k N := by
  obtain ⟨D, d1, d2, d3⟩ := h.out
  exact ⟨D, own_map_moveN d1 (hb.block _ d1.lt), d2, d3⟩
theorem fits1_any (w : World) (s : ByteArray) (r1 r2 r3 r4 : Int) :
    Calls Tryd.prog 37 #[.agg #[.string s, .int .i64 r1, .int .i64 r2, .int .i64 r3, .int .i64 r4]] w fun e w' => e = .returned (.string s) ∧ w' = w.alloc (.cells #[.string s, .int .i64 r1, .int .i64 r2, .int .i64 r3, .int .i64 r4] 40) := by
  go_enter Tryd.func37, Tryd.ntmps37
  go_wp2_with fail
  go_ret
  exact ⟨rfl, rfl⟩
set_option maxRecDepth 100000 in
set_option maxHeartbeats 4000000 in
theorem namesAll_any (w : World) (hTab : Tab w) (fa : Option Addr) (fn fc : Nat) (FS : List Rf) (hfn : fn = FS.length) (hF : StsG w fa fc 5 (FS.map rfv)) (hlen : fn ≤ 1000000) :
    Calls Tryd.prog 36 #[.slice fa fn fc, .func (.func 37) #[] #[]] w fun e w' => e = .returned (.bool (namesP FS)) ∧ Below w.heap.size w w' := by
  have hmm := @run_makeMap Tryd.prog
  have HT : Hid (Tab w) := hTab
  have HF : Hid (StsG w fa fc 5 (FS.map rfv)) := hF
  have HN : Hid (fn = FS.length) := hfn
  have HM0 : Hid (NM (w.alloc (.map #[] 0)) w.heap.size 0 (FS.map fun f : Rf => nml f.name)) := NM.start w _
  have HB0 : Hid (Below w.heap.size w (w.alloc (.map #[] 0))) := below_newX _ _
  clear hTab hF hfn
  go_enter Tryd.func36, Tryd.ntmps36
  go_wp2_with fail
  go_loopw [11] (fun v wr => ∃ k : Nat, k ≤ fn ∧ v = .int .i64 k ∧ Hid (NM wr w.heap.size k (FS.map fun f : Rf => nml f.name)) ∧ Hid (Below w.heap.size w wr) ∧ Hid ((FS.take k).all (fun f : Rf => nmOk (nml f.name)) = true)) (fun v _ => fn - (intOf v).toNat)
  case atStart => exact ⟨0, by omega, rfl, HM0.out, HB0.out, by show _ = true; simp⟩
  case round =>
    clear HM0 HB0
    obtain ⟨k, hk, rfl, HM, HB, HA⟩ := hrel
    by_cases hlt : k < fn
    · have hk2 : k < FS.length := by have := HN.out; omega
      obtain ⟨b, o, rfl, hlb, hqa⟩ := (HF.out.below HB.out (Nat.le_refl _)).at (j := k) (by simpa using hk2)
      have eg : (FS.map rfv).getD k [] = rfv FS[k] := by simp [List.getD, hk2]
      rw [eg] at hqa
      have c0 : wr.cell? ⟨b, o + k * 5, none⟩ = some (.string FS[k].name) := hqa 0 _ rfl
      have c1 : wr.cell? ⟨b, o + k * 5 + 1, none⟩ = some (.int .i64 FS[k].fr) := hqa 1 _ rfl
      have c2 : wr.cell? ⟨b, o + k * 5 + 2, none⟩ = some (.int .i64 FS[k].fi) := hqa 2 _ rfl
      have c3 : wr.cell? ⟨b, o + k * 5 + 3, none⟩ = some (.int .i64 FS[k].ct) := hqa 3 _ rfl
      have c4 : wr.cell? ⟨b, o + k * 5 + 4, none⟩ = some (.int .i64 FS[k].pa) := hqa 4 _ rfl
      clear hqa eg
      obtain ⟨s, hs⟩ : ∃ s, s = FS[k].name := ⟨_, rfl⟩
      rw [← hs] at c0
      have HS : Hid (s = FS[k].name) := hs
      generalize FS[k].fr = x1 at c1
      generalize FS[k].fi = x2 at c2
      generalize FS[k].ct = x3 at c3
      generalize FS[k].pa = x4 at c4
      clear hs
      have hfx : fn ≤ 9223372036854775807 := by omega
      obtain ⟨w5, hw5⟩ : ∃ w5, w5 = wr.alloc (.cells #[.string s, .int .i64 x1, .int .i64 x2, .int .i64 x3, .int .i64 x4] 40) := ⟨_, rfl⟩
      obtain ⟨kb, hkb⟩ : ∃ kb, kb = wr.heap.size := ⟨_, rfl⟩
      have hk5 : w5.heap[kb]? = some (.cells #[.string s, .int .i64 x1, .int .i64 x2, .int .i64 x3, .int .i64 x4] 40 (0, 0)) := by rw [hw5, hkb]; exact heap_alloc_new _ _
      have B5 : Below wr.heap.size wr w5 := by rw [hw5]; exact below_newX _ _
      have HM5 : Hid _ := HM.out.keep B5
      have HB5 : Hid (Below w.heap.size w w5) := HB.out.trans (B5.mono HB.out.size)
      have HFT : Hid (∀ W, Below w.heap.size w W → Calls Tryd.prog 48 #[.string s] W fun e w' => e = .returned (.bool (nmOk (nml s))) ∧ Below W.heap.size W w') := fun W h => by
        have := fits_any W (HT.out.below h HT.out.1) (nml s)
        rw [bs_nml] at this
        exact this
      have HC : Hid (∀ W, Below w5.heap.size w5 W → W.cell? ⟨kb, 0, none⟩ = some (.string s) ∧ W.cell? ⟨kb, 1, none⟩ = some (.int .i64 x1) ∧ W.cell? ⟨kb, 2, none⟩ = some (.int .i64 x2) ∧ W.cell? ⟨kb, 3, none⟩ = some (.int .i64 x3) ∧ W.cell? ⟨kb, 4, none⟩ = some (.int .i64 x4)) := fun W h => by
        have e := (h.block _ (Array.getElem?_eq_some_iff.1 hk5).1).trans hk5
        exact ⟨cell_arr e rfl, cell_arr e rfl, cell_arr e rfl, cell_arr e rfl, cell_arr e rfl⟩
      obtain ⟨q0, q1, q2, q3, q4⟩ := HC.out w5 (Below.refl _ _)
      have hNk : k < (FS.map fun f : Rf => nml f.name).length := by simpa using hk2
      have eNk : (FS.map fun f : Rf => nml f.name)[k] = nml s := by rw [List.getElem_map, HS.out]
      have HNK : Hid (k < (FS.map fun f : Rf => nml f.name).length) := hNk
      have HEK : Hid (∀ h : k < (FS.map fun f : Rf => nml f.name).length, (FS.map fun f : Rf => nml f.name)[k]'h = nml s) := fun _ => eNk
      clear HM HB B5 hk5 hNk eNk
      cases hR : nmOk (nml s) with
      | false =>
        have HNP : Hid (namesP FS = false) := by
          show _ = false
          unfold namesP
          have : FS.all (fun f : Rf => nmOk (nml f.name)) = false := by
            rw [← Bool.not_eq_true, List.all_eq_true]
            intro h
            have := h FS[k] (List.getElem_mem hk2)
            rw [← HS.out, hR] at this
            cases this
          rw [this]; rfl
        rw [hR] at HFT
        go_wp2_with fail
        rw [← hw5, ← hkb]
        clear hw5 hkb c0 c1 c2 c3 c4
        go_wp2_with (first
          | (go_at_call 48; refine (HFT.out w1 HB1.out).mono ?_; rintro e w2 ⟨rfl, hb2⟩)
          | (go_at_call 37; refine (fits1_any w5 _ _ _ _ _).mono ?_; rintro e w1 ⟨rfl, hw1⟩; have B1 : Below w5.heap.size w5 w1 := (by rw [hw1]; exact below_newX _ _); have HB1 := show Hid (Below w.heap.size w w1) from HB5.out.trans (B1.mono HB5.out.size); clear hw1))
        go_ret
        exact ⟨by rw [HNP.out]; rfl, HB1.out.trans (hb2.mono HB1.out.size)⟩
      | true =>
        have HA2 : Hid ((FS.take (k + 1)).all (fun f : Rf => nmOk (nml f.name)) = true) := by
          show _ = true
          rw [← List.take_append_getElem hk2, List.all_append, HA.out]
          simp only [List.all_cons, List.all_nil, Bool.and_true, Bool.true_and]
          rw [← HS.out]; exact hR
        have hsz : s.size ≤ 64 := by
          have := hR
          simp only [nmOk, Bool.and_eq_true, decide_eq_true_eq] at this
          have := this.1.1.1
          simpa [nml] using this
        have hkey := key9 hsz
        rw [hR] at HFT
        go_wp2_with fail
        rw [← hw5, ← hkb]
        clear hw5 hkb c0 c1 c2 c3 c4
        go_wp2_with (first
          | (at_mapUpdate; refine wpList_mapUpdate_own _ rfl _ _ _ 80 rfl 9 3 law9 Tryd.underlying80 _ w.heap.size k _ rfl d1 (by unfold maxLen; omega) _ _ _ rfl rfl hkey _ [] (plainElem_int Tryd.underlying3 (wrap64_wf _)) ?_; intro w6 h6 g6
             have HM6 := show Hid _ from NM.next HNK.out d2 d3 (d1.tidy law9) _ (by rw [HEK.out]; exact h6)
             have HB6 := show Hid (Below w.heap.size w w6) from HB3.out.grown g6 HB3.out.size (fun j hj => by cases hj; exact Nat.le_refl _)
             clear h6 g6)
          | (at_lookup; refine wpList_lookup_own_int _ rfl _ _ 80 rfl 9 3 .i64 law9 Tryd.underlying80 Tryd.underlying3 (zeroI _) w.heap.size k D rfl d1 _ _ rfl hkey ?_; intro z hat hwc; clear hat hwc)
          | (go_at_call 37; refine (fits1_any w2 _ _ _ _ _).mono ?_; rintro e w3 ⟨rfl, hw3⟩; have B3 : Below w2.heap.size w2 w3 := (by rw [hw3]; exact below_newX _ _); have HB3 := show Hid (Below w.heap.size w w3) from HB2.out.trans (B3.mono HB2.out.size); obtain ⟨D, d1, d2, d3⟩ := (HM2.out.keep B3).out; clear hw3)
          | (go_at_call 48; refine (HFT.out w1 HB1.out).mono ?_; rintro e w2 ⟨rfl, hb2⟩; have HB2 := show Hid (Below w.heap.size w w2) from HB1.out.trans (hb2.mono HB1.out.size); have HM2 := show Hid _ from HM1.out.keep hb2; obtain ⟨r0, r1, r2, r3, r4⟩ := HC.out w2 (B1.trans (hb2.mono B1.size)))
          | (go_at_call 37; refine (fits1_any w5 _ _ _ _ _).mono ?_; rintro e w1 ⟨rfl, hw1⟩; have B1 : Below w5.heap.size w5 w1 := (by rw [hw1]; exact below_newX _ _); have HB1 := show Hid (Below w.heap.size w w1) from HB5.out.trans (B1.mono HB5.out.size); have HM1 := show Hid _ from HM5.out.keep B1; clear hw1))
        go_roundw
        case rel => exact ⟨k + 1, by omega, by go_num, HM6.out, HB6.out, HA2.out⟩
        case measure => simp [intOf]; omega
    · have hkn : k = fn := by omega
      subst hkn
      obtain ⟨D, d1, d2, d3⟩ := HM.out.out
      have HNP : Hid (namesP FS = decide (size D = k)) := by
        show _ = _
        unfold namesP
        have h1 : FS.all (fun f : Rf => nmOk (nml f.name)) = true := by
          have := HA.out
          rwa [List.take_of_length_le (by have := HN.out; omega)] at this
        have h2 := cdN_eq (FS.map fun f : Rf => nml f.name) k (by have := HN.out; simp; omega)
        rw [List.take_of_length_le (by have := HN.out; simp; omega)] at h2
        rw [h1, Bool.true_and, decide_eq_decide, d2]
        exact h2.symm
      have hDk : size D ≤ k := by rw [d2]; exact cdN_le _ _
      generalize hz : size D = z at HNP hDk d2
      clear d2
      go_wp2_with (at_len; refine wpList_len_own _ rfl _ 80 rfl 9 3 Tryd.underlying80 _ w.heap.size k D rfl d1 ?_; rw [hz])
      go_ret
      refine ⟨?_, HB.out⟩
      rw [HNP.out]
      by_cases e : z = k
      · subst e; simp
      · have : ¬ (z : Int) = k := by omega
        simp [e, this]
end Go.Proofs.YtjiaedckecfjbaaDoor
