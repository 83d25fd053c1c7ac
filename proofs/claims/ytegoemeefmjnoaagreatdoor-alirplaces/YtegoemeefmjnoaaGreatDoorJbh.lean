import Derived.StringKeys
import Derived.Maps.OwnOps
import Derived.Maps.OwnSet
import Derived.Test.YtegoemeefmjnoaaGreatDoorJba
import Derived.Test.YtegoemeefmjnoaaGreatDoorJbg
set_option linter.unusedVariables false
set_option linter.unusedSimpArgs false
namespace Go.Proofs.YtegoemeefmjnoaaGreatDoor
open Go.ChangeShapes Go.WideShapes Go.ChangeAt Go.RowKit Go.Maps Go.WideMaps
def nml (s : ByteArray) : List UInt8 := s.data.toList
theorem bs_nml (s : ByteArray) : bs (nml s) = s := by simp [bs, nml]
def cdN (N : List (List UInt8)) : Nat -> Nat
 | 0 => 0
 | k + 1 => if N.getD k [] ∈ N.take k then cdN N k else cdN N k + 1
theorem cdN_le (N : List (List UInt8)) : ∀ k, cdN N k <= k
 | 0 => Nat.le_refl _
 | k + 1 => by
   have := cdN_le N k
   unfold cdN
   split <;> omega
theorem cdN_eq (N : List (List UInt8)) : ∀ k, k <= N.length -> (cdN N k = k ↔ (N.take k).Nodup)
 | 0, _ => by simp [cdN]
 | k + 1, hk => by
   have ih := cdN_eq N k (by omega)
   have hl := cdN_le N k
   have hg : N.getD k [] = N[k] := by simp [List.getD, show k < N.length by omega]
   rw [<- List.take_append_getElem (show k < N.length by omega), List.nodup_append]
   unfold cdN
   rw [hg]
   split
   ·next h =>
    constructor
    ·intro e; omega
    ·rintro ⟨_, _, h3⟩
     exact absurd rfl (h3 _ h _ (by simp))
   ·next h =>
    constructor
    ·intro e
     refine ⟨ih.1 (by omega), by simp, fun a ha b hb e2 => ?_⟩
     simp at hb
     subst hb; subst e2
     exact h ha
    ·rintro ⟨h1, _, _⟩
     have := ih.2 h1
     omega
def namesP (FS : List Lf) : Bool := FS.all (fun f : Lf => nmOk (nml f.name)) && decide ((FS.map fun f : Lf => nml f.name).Nodup)
theorem law9 : Keyed Tryz.prog 9 := string_keyed Tryz.underlying9
theorem zeroI (w : World) : (zeroValue 3).run Tryz.prog w = .ok (.int .i64 0) w := by kernel_rfl
structure NM (w : World) (mb k : Nat) (N : List (List UInt8)) : Prop where
 out : ∃ D : DataW Value, w.ownsMap Tryz.prog 9 (plainElem Tryz.prog 3) mb k D /\ size D = cdN N k /\ ∀ s : List UInt8, has D (.string s) = decide (s ∈ N.take k)
theorem NM.start (w : World) (N : List (List UInt8)) : NM (w.alloc (.map #[] 0)) w.heap.size 0 N :=
 ⟨.map [], World.ownsMap_made _ _ _ _, rfl, fun s => by simp [has]⟩
theorem key9 {s : ByteArray} (hs : s.size <= 64) : keyOf Tryz.prog 9 (.string s) = some (.string (nml s)) := keyOf_string_mk Tryz.underlying9 (by unfold maxLen; omega)
theorem NM.next {w' : World} {mb k : Nat} {N : List (List UInt8)} {D : DataW Value} (hk : k < N.length) (h1 : size D = cdN N k) (h2 : ∀ s : List UInt8, has D (.string s) = decide (s ∈ N.take k)) (ht : Tidy D) (d : DataW Value) (h : w'.ownsMap Tryz.prog 9 (plainElem Tryz.prog 3) mb (k + 1) (D.put (.string N[k]) d)) : NM w' mb (k + 1) N := by
 have hg : N.getD k [] = N[k] := by simp [List.getD, hk]
 refine ⟨_, h, ?_, fun s => ?_⟩
 ·rw [size_put ht, h2, h1]
  simp only [cdN, hg, decide_eq_true_eq]
 ·by_cases e : s = N[k]
  ·subst e
   rw [has_put_same ht.isMap (show WideAt.IsKeyLit (Lit.string _) from trivial)]
   have : N[k] ∈ N.take (k + 1) := by rw [<- List.take_append_getElem hk, List.mem_append, List.mem_singleton]; exact .inr rfl
   exact (decide_eq_true this).symm
  ·have hne : (Lit.string s) ≠ .string N[k] := fun q => e (by injection q)
   rw [has_put_other hne, h2, decide_eq_decide, <- List.take_append_getElem hk, List.mem_append, List.mem_singleton]
   exact ⟨fun q => .inl q, fun q => q.resolve_right e⟩
theorem own_map_moveN {w w' : World} {b c : Nat} {D : DataW Value} (h : w.ownsMap Tryz.prog 9 (plainElem Tryz.prog 3) b c D) (hk : w'.heap[b]? = w.heap[b]?) : w'.ownsMap Tryz.prog 9 (plainElem Tryz.prog 3) b c D := by
 obtain ⟨es, cl, h1, h2⟩ := h
 exact ⟨es, cl, hk.trans h1, h2⟩
theorem NM.keep {w w' : World} {mb k N} (h : NM w mb k N) (hb : Below w.heap.size w w') : NM w' mb k N := by
 obtain ⟨D, d1, d2, d3⟩ := h.out
 exact ⟨D, own_map_moveN d1 (hb.block _ d1.lt), d2, d3⟩
theorem fits1_any (w : World) (s : ByteArray) (pa : Option Addr) (pn pc : Nat) (r t : Int) (ba : Option Addr) (bn bc : Nat) :
 Calls Tryz.prog 60 #[.agg #[.string s, .slice pa pn pc, .int .i64 r, .int .i64 t, .slice ba bn bc]] w fun e w' => e = .returned (.string s) /\ w' = w.alloc (.cells #[.string s, .slice pa pn pc, .int .i64 r, .int .i64 t, .slice ba bn bc] 125) := by
 go_enter Tryz.func60, Tryz.ntmps60
 go_wp2_with fail
 go_ret
 exact ⟨rfl, rfl⟩
set_option maxRecDepth 100000 in
set_option maxHeartbeats 4000000 in
theorem namesAll_any (w : World) (hTab : Tab w) (fa : Option Addr) (fn fc : Nat) (FS : List Lf) (hfn : fn = FS.length) (hF : Lfs w fa fc FS) (hlen : fn <= 1000000) :
 Calls Tryz.prog 59 #[.slice fa fn fc, .func (.func 60) #[] #[]] w fun e w' => e = .returned (.bool (namesP FS)) /\ Below w.heap.size w w' := by
 have hmm := @run_makeMap Tryz.prog
 have HT : Hid (Tab w) := hTab
 have HF : Hid (Lfs w fa fc FS) := hF
 have HN : Hid (fn = FS.length) := hfn
 have HM0 : Hid (NM (w.alloc (.map #[] 0)) w.heap.size 0 (FS.map fun f : Lf => nml f.name)) := NM.start w _
 have HB0 : Hid (Below w.heap.size w (w.alloc (.map #[] 0))) := below_newL _ _
 clear hTab hF hfn
 go_enter Tryz.func59, Tryz.ntmps59
 go_wp2_with fail
 go_loopw [11] (fun v wr => ∃ k : Nat, k <= fn /\ v = .int .i64 k /\ Hid (NM wr w.heap.size k (FS.map fun f : Lf => nml f.name)) /\ Hid (Below w.heap.size w wr) /\ Hid ((FS.take k).all (fun f : Lf => nmOk (nml f.name)) = true)) (fun v _ => fn - (intOf v).toNat)
 case atStart => exact ⟨0, by omega, rfl, HM0.out, HB0.out, by show _ = true; simp⟩
 case round =>
  clear HM0 HB0
  obtain ⟨k, hk, rfl, HM, HB, HA⟩ := hrel
  by_cases hlt : k < fn
  ·have hk2 : k < FS.length := by have := HN.out; omega
   obtain ⟨b, o, xa, xc, ma, mc, rfl, hlb, c0, c1, c2, c3, c4, g1, g2⟩ := (HF.out.below HB.out (Nat.le_refl _)).at hk2
   obtain ⟨s, hs⟩ : ∃ s, s = FS[k].name := ⟨_, rfl⟩
   rw [<- hs] at c0
   have HS : Hid (s = FS[k].name) := hs
   generalize FS[k].params.length = xl at c1
   generalize FS[k].regs = r at c2
   generalize FS[k].result = t at c3
   generalize FS[k].blks.length = ml at c4
   clear hs g1 g2
   have hfx : fn <= 9223372036854775807 := by omega
   obtain ⟨w5, hw5⟩ : ∃ w5, w5 = wr.alloc (.cells #[.string s, .slice xa xl xc, .int .i64 r, .int .i64 t, .slice ma ml mc] 125) := ⟨_, rfl⟩
   obtain ⟨kb, hkb⟩ : ∃ kb, kb = wr.heap.size := ⟨_, rfl⟩
   have hk5 : w5.heap[kb]? = some (.cells #[.string s, .slice xa xl xc, .int .i64 r, .int .i64 t, .slice ma ml mc] 125 (0, 0)) := by rw [hw5, hkb]; exact heap_alloc_new _ _
   have B5 : Below wr.heap.size wr w5 := by rw [hw5]; exact below_newL _ _
   have HM5 : Hid _ := HM.out.keep B5
   have HB5 : Hid (Below w.heap.size w w5) := HB.out.trans (B5.mono HB.out.size)
   have HFT : Hid (∀ W, Below w.heap.size w W -> Calls Tryz.prog 76 #[.string s] W fun e w' => e = .returned (.bool (nmOk (nml s))) /\ Below W.heap.size W w') := fun W h => by
    have := fits_any W (HT.out.below h HT.out.1) (nml s)
    rw [bs_nml] at this
    exact this
   have HC : Hid (∀ W, Below w5.heap.size w5 W -> W.cell? ⟨kb, 0, none⟩ = some (.string s) /\ W.cell? ⟨kb, 1, none⟩ = some (.slice xa xl xc) /\ W.cell? ⟨kb, 2, none⟩ = some (.int .i64 r) /\ W.cell? ⟨kb, 3, none⟩ = some (.int .i64 t) /\ W.cell? ⟨kb, 4, none⟩ = some (.slice ma ml mc)) := fun W h => by
    have e := (h.block _ (gl hk5)).trans hk5
    exact ⟨cell_arr e rfl, cell_arr e rfl, cell_arr e rfl, cell_arr e rfl, cell_arr e rfl⟩
   obtain ⟨q0, q1, q2, q3, q4⟩ := HC.out w5 (Below.refl _ _)
   have hNk : k < (FS.map fun f : Lf => nml f.name).length := by simpa using hk2
   have eNk : (FS.map fun f : Lf => nml f.name)[k] = nml s := by rw [List.getElem_map, HS.out]
   have HNK : Hid (k < (FS.map fun f : Lf => nml f.name).length) := hNk
   have HEK : Hid (∀ h : k < (FS.map fun f : Lf => nml f.name).length, (FS.map fun f : Lf => nml f.name)[k]'h = nml s) := fun _ => eNk
   clear HM HB B5 hk5 hNk eNk
   cases hR : nmOk (nml s) with
   | false =>
     have HNP : Hid (namesP FS = false) := by
      show _ = false
      unfold namesP
      have : FS.all (fun f : Lf => nmOk (nml f.name)) = false := by
       rw [<- Bool.not_eq_true, List.all_eq_true]
       intro h
       have := h FS[k] (List.getElem_mem hk2)
       rw [<- HS.out, hR] at this
       cases this
      rw [this]; rfl
     rw [hR] at HFT
     go_wp2_with fail
     rw [<- hw5, <- hkb]
     clear hw5 hkb c0 c1 c2 c3 c4
     go_wp2_with (first
      | (go_at_call 76; refine (HFT.out w1 HB1.out).mono ?_; rintro e w2 ⟨rfl, hb2⟩)
      | (go_at_call 60; refine (fits1_any w5 _ _ _ _ _ _ _ _ _).mono ?_; rintro e w1 ⟨rfl, hw1⟩; have B1 : Below w5.heap.size w5 w1 := (by rw [hw1]; exact below_newL _ _); have HB1 := show Hid (Below w.heap.size w w1) from HB5.out.trans (B1.mono HB5.out.size); clear hw1))
     go_ret
     exact ⟨by rw [HNP.out]; rfl, HB1.out.trans (hb2.mono HB1.out.size)⟩
   | true =>
     have HA2 : Hid ((FS.take (k + 1)).all (fun f : Lf => nmOk (nml f.name)) = true) := by
      show _ = true
      rw [<- List.take_append_getElem hk2, List.all_append, HA.out]
      simp only [List.all_cons, List.all_nil, Bool.and_true, Bool.true_and]
      rw [<- HS.out]; exact hR
     have hsz : s.size <= 64 := by
      have := hR
      simp only [nmOk, Bool.and_eq_true, decide_eq_true_eq] at this
      have := this.1.1.1
      simpa [nml] using this
     have hkey := key9 hsz
     rw [hR] at HFT
     go_wp2_with fail
     rw [<- hw5, <- hkb]
     clear hw5 hkb c0 c1 c2 c3 c4
     go_wp2_with (first
      | (at_mapUpdate; refine wpList_mapUpdate_own _ rfl _ _ _ 143 rfl 9 3 law9 Tryz.underlying143 _ w.heap.size k _ rfl d1 (by unfold maxLen; omega) _ _ _ rfl rfl hkey _ [] (plainElem_int Tryz.underlying3 (wrap64_wf _)) ?_; intro w6 h6 g6
         have HM6 := show Hid _ from NM.next HNK.out d2 d3 (d1.tidy law9) _ (by rw [HEK.out]; exact h6)
         have HB6 := show Hid (Below w.heap.size w w6) from HB3.out.grown g6 HB3.out.size (fun j hj => by cases hj; exact Nat.le_refl _)
         clear h6 g6)
      | (at_lookup; refine wpList_lookup_own_int _ rfl _ _ 143 rfl 9 3 .i64 law9 Tryz.underlying143 Tryz.underlying3 (zeroI _) w.heap.size k D rfl d1 _ _ rfl hkey ?_; intro z hat hwc; clear hat hwc)
      | (go_at_call 60; refine (fits1_any w2 _ _ _ _ _ _ _ _ _).mono ?_; rintro e w3 ⟨rfl, hw3⟩; have B3 : Below w2.heap.size w2 w3 := (by rw [hw3]; exact below_newL _ _); have HB3 := show Hid (Below w.heap.size w w3) from HB2.out.trans (B3.mono HB2.out.size); obtain ⟨D, d1, d2, d3⟩ := (HM2.out.keep B3).out; clear hw3)
      | (go_at_call 76; refine (HFT.out w1 HB1.out).mono ?_; rintro e w2 ⟨rfl, hb2⟩; have HB2 := show Hid (Below w.heap.size w w2) from HB1.out.trans (hb2.mono HB1.out.size); have HM2 := show Hid _ from HM1.out.keep hb2; obtain ⟨r0, r1, r2, r3, r4⟩ := HC.out w2 (B1.trans (hb2.mono B1.size)))
      | (go_at_call 60; refine (fits1_any w5 _ _ _ _ _ _ _ _ _).mono ?_; rintro e w1 ⟨rfl, hw1⟩; have B1 : Below w5.heap.size w5 w1 := (by rw [hw1]; exact below_newL _ _); have HB1 := show Hid (Below w.heap.size w w1) from HB5.out.trans (B1.mono HB5.out.size); have HM1 := show Hid _ from HM5.out.keep B1; clear hw1))
     go_roundw
     case rel => exact ⟨k + 1, by omega, by go_num, HM6.out, HB6.out, HA2.out⟩
     case measure => simp [intOf]; omega
  ·have hkn : k = fn := by omega
   subst hkn
   obtain ⟨D, d1, d2, d3⟩ := HM.out.out
   have HNP : Hid (namesP FS = decide (size D = k)) := by
    show _ = _
    unfold namesP
    have h1 : FS.all (fun f : Lf => nmOk (nml f.name)) = true := by
     have := HA.out
     rwa [List.take_of_length_le (by have := HN.out; omega)] at this
    have h2 := cdN_eq (FS.map fun f : Lf => nml f.name) k (by have := HN.out; simp; omega)
    rw [List.take_of_length_le (by have := HN.out; simp; omega)] at h2
    rw [h1, Bool.true_and, decide_eq_decide, d2]
    exact h2.symm
   have hDk : size D <= k := by rw [d2]; exact cdN_le _ _
   generalize hz : size D = z at HNP hDk d2
   clear d2
   go_wp2_with (at_len; refine wpList_len_own _ rfl _ 143 rfl 9 3 Tryz.underlying143 _ w.heap.size k D rfl d1 ?_; rw [hz])
   go_ret
   refine ⟨?_, HB.out⟩
   rw [HNP.out]
   by_cases e : z = k
   ·subst e; simp
   ·have : ¬ (z : Int) = k := by omega
    simp [e, this]
end Go.Proofs.YtegoemeefmjnoaaGreatDoor
namespace Go.Proofs.YtegoemeefmjnoaaGreatDoor
open Go.ChangeShapes Go.WideShapes Go.ChangeAt Go.RowKit Go.Maps
def ff14 (L : List Lf) (f : Lf) : Bool := fo14 f && f.blks.all (cs14 L)
def ft14 (L : List Lf) (m : Int) : Bool := namesP L && (mn14 L m && L.all (ff14 L))
theorem Tab.one14 {w W : World} {A : Obj} (h : Tab w) (o : One14 w A W) : Tab W := h.below o.low h.1
set_option maxRecDepth 100000 in
set_option maxHeartbeats 4000000 in
theorem fits14_any (w : World) (hTab : Tab w) (fa : Option Addr) (fn fc : Nat) (L : List Lf) (hfn : fn = L.length) (hL : Lfs w fa fc L) (hlen : fn <= 1000000) (m : Int) (T : Bool) (hT : ft14 L m = T) :
 Calls Tryz.prog 48 #[.agg #[.slice fa fn fc, .int .i64 m]] w fun e w' => e = .returned (.bool T) /\ Below w.heap.size w w' := by
 subst hT
 have A0 : One14 w (.cells #[.slice fa fn fc, .int .i64 m] 110) (w.alloc (.cells #[.slice fa fn fc, .int .i64 m] 110)) := One14.start _ _
 have H1 : Hid (∀ W, One14 w (.cells #[.slice fa fn fc, .int .i64 m] 110) W -> ∀ T, namesP L = T -> Calls Tryz.prog 59 #[.slice fa fn fc, .func (.func 60) #[] #[]] W fun e w' => e = .returned (.bool T) /\ Below W.heap.size W w') := fun W h T hT => by subst hT; exact namesAll_any W (hTab.one14 h) fa fn fc L hfn (hL.below h.low (Nat.le_refl _)) hlen
 have H2 : Hid (∀ W, One14 w (.cells #[.slice fa fn fc, .int .i64 m] 110) W -> ∀ T, mn14 L m = T -> Calls Tryz.prog 61 #[.agg #[.slice fa fn fc, .int .i64 m]] W fun e w' => e = .returned (.bool T) /\ Below W.heap.size W w') := fun W h T hT => by subst hT; exact mainFits_any W (hL.below h.low (Nat.le_refl _)) hfn
 have H4 : Hid (∀ W, One14 w (.cells #[.slice fa fn fc, .int .i64 m] 110) W -> W.cell? ⟨w.heap.size, 0, none⟩ = some (.slice fa fn fc) /\ W.cell? ⟨w.heap.size, 1, none⟩ = some (.int .i64 m)) := fun W h => ⟨cell_arr h.one rfl, cell_arr h.one rfl⟩
 have HL : Hid (Lfs w fa fc L) := hL
 have HN : Hid (fn = L.length) := hfn
 unfold ft14
 clear hTab hL hfn
 cases q1 : namesP L with
 | false =>
   go_enter Tryz.func48, Tryz.ntmps48
   go_wp2_with (first
    | (go_at_call 59; refine (H1.out _ A0 _ q1).mono ?_; rintro e w1 ⟨rfl, hb1⟩; have A1 := A0.next hb1; obtain ⟨y0, y1⟩ := H4.out w1 A1))
   go_ret
   exact ⟨by simp, A1.low⟩
 | true =>
 cases q2 : mn14 L m with
 | false =>
   go_enter Tryz.func48, Tryz.ntmps48
   go_wp2_with (first
    | (go_at_call 59; refine (H1.out _ A0 _ q1).mono ?_; rintro e w1 ⟨rfl, hb1⟩; have A1 := A0.next hb1; obtain ⟨y0, y1⟩ := H4.out w1 A1)
    | (go_at_call 61; refine (H2.out _ A1 _ q2).mono ?_; rintro e w2 ⟨rfl, hb2⟩; have A2 := A1.next hb2; obtain ⟨z0, z1⟩ := H4.out w2 A2))
   go_ret
   exact ⟨by simp, A2.low⟩
 | true =>
   obtain ⟨T, hT⟩ : ∃ T, T = L.all (ff14 L) := ⟨_, rfl⟩
   have HT : Hid (T = L.all (ff14 L)) := hT
   rw [<- hT]
   clear hT
   go_enter Tryz.func48, Tryz.ntmps48
   go_wp2_with (first
    | (go_at_call 59; refine (H1.out _ A0 _ q1).mono ?_; rintro e w1 ⟨rfl, hb1⟩; have A1 := A0.next hb1; obtain ⟨y0, y1⟩ := H4.out w1 A1)
    | (go_at_call 61; refine (H2.out _ A1 _ q2).mono ?_; rintro e w2 ⟨rfl, hb2⟩; have A2 := A1.next hb2; obtain ⟨z0, z1⟩ := H4.out w2 A2))
   have HA2 : Hid _ := A2
   go_loopw [17] (fun v wr => ∃ k : Nat, k <= fn /\ v = .int .i64 k /\ Hid (∀ i (h : i < L.length), i < k -> ff14 L L[i] = true) /\ Hid (One14 w (.cells #[.slice fa fn fc, .int .i64 m] 110) wr)) (fun v _ => fn - (intOf v).toNat)
   case atStart => exact ⟨0, by omega, rfl, fun i _ h => by omega, HA2.out⟩
   case round =>
    clear y0 y1 z0 z1 A0 A1 A2 HA2 hb1 hb2 H1 H2
    obtain ⟨k, hk, rfl, HE, HO⟩ := hrel
    obtain ⟨wq, rfl⟩ : ∃ wq, wq = wr := ⟨_, rfl⟩
    have hs1 : w.heap.size < wq.heap.size := (gl HO.out.one)
    obtain ⟨f0, f1⟩ := H4.out wq HO.out
    by_cases hlt : k < fn
    ·have hk3 : k < L.length := by have := HN.out; omega
     have hkx : fn <= 9223372036854775807 := by omega
     obtain ⟨b, o, xa, xc, ma, mc, rfl, hlb, c0, c1, c2, c3, c4, g1, g2⟩ := (HL.out.below HO.out.low (Nat.le_refl _)).at hk3
     obtain ⟨X, hX⟩ : ∃ X, X = L[k] := ⟨_, rfl⟩
     rw [<- hX] at c0 c1 c2 c3 c4 g1 g2
     have HX : Hid (X = L[k]) := hX
     clear hX
     obtain ⟨W5, hW5⟩ : ∃ W5, W5 = wq.alloc (.cells #[.string X.name, .slice xa X.params.length xc, .int .i64 X.regs, .int .i64 X.result, .slice ma X.blks.length mc] 125) := ⟨_, rfl⟩
     have HB5 : Hid (Bx14 w wq (.cells #[.slice (some ⟨b, o, none⟩) fn fc, .int .i64 m] 110) (.cells #[.string X.name, .slice xa X.params.length xc, .int .i64 X.regs, .int .i64 X.result, .slice ma X.blks.length mc] 125) W5) := by
      show Bx14 w wq _ _ W5
      rw [hW5]; exact Bx14.start HO.out _
     have HC : Hid (∀ W, Bx14 w wq (.cells #[.slice (some ⟨b, o, none⟩) fn fc, .int .i64 m] 110) (.cells #[.string X.name, .slice xa X.params.length xc, .int .i64 X.regs, .int .i64 X.result, .slice ma X.blks.length mc] 125) W -> W.cell? ⟨w.heap.size, 0, none⟩ = some (.slice (some ⟨b, o, none⟩) fn fc) /\ W.cell? ⟨w.heap.size, 1, none⟩ = some (.int .i64 m) /\ W.cell? ⟨wq.heap.size, 0, none⟩ = some (.string X.name) /\ W.cell? ⟨wq.heap.size, 1, none⟩ = some (.slice xa X.params.length xc) /\ W.cell? ⟨wq.heap.size, 2, none⟩ = some (.int .i64 X.regs) /\ W.cell? ⟨wq.heap.size, 3, none⟩ = some (.int .i64 X.result) /\ W.cell? ⟨wq.heap.size, 4, none⟩ = some (.slice ma X.blks.length mc) /\ w.heap.size < W.heap.size /\ wq.heap.size < W.heap.size) := fun W h => ⟨cell_arr h.one.one rfl, cell_arr h.one.one rfl, cell_arr h.two rfl, cell_arr h.two rfl, cell_arr h.two rfl, cell_arr h.two rfl, cell_arr h.two rfl, (gl h.one.one), (gl h.two)⟩
     have H6 : Hid (∀ T, fo14 X = T -> Calls Tryz.prog 62 #[.agg #[.string X.name, .slice xa X.params.length xc, .int .i64 X.regs, .int .i64 X.result, .slice ma X.blks.length mc]] W5 fun e w' => e = .returned (.bool T) /\ Below W5.heap.size W5 w') := fun T hT => by
      subst hT
      exact formed_at W5 (g1.below HB5.out.low (Nat.le_refl _)) rfl (g2.below HB5.out.low (Nat.le_refl _)) rfl
     have H7 : Hid (∀ W, Below W5.heap.size W5 W -> ∀ T, X.blks.all (cs14 L) = T -> Calls Tryz.prog 63 #[.agg #[.string X.name, .slice xa X.params.length xc, .int .i64 X.regs, .int .i64 X.result, .slice ma X.blks.length mc], .slice (some ⟨b, o, none⟩) fn fc] W fun e w' => e = .returned (.bool T) /\ Below W.heap.size W w') := fun W h T hT => by
      subst hT
      have hb : Below wq.heap.size wq W := HB5.out.low.trans (h.mono HB5.out.low.size)
      exact callsFit_at W ((HL.out.below HO.out.low (Nat.le_refl _)).below hb (Nat.le_refl _)) HN.out (g2.below hb (Nat.le_refl _)) rfl
     have HFF : Hid (ff14 L X = false -> T = false) := fun h => by
      rw [HT.out, List.all_eq_false]
      exact ⟨L[k], List.getElem_mem hk3, by rw [<- HX.out, h]; simp⟩
     clear g1 g2
     obtain ⟨p0, p1, p2, p3, p4, p5, p6, p7, p8⟩ := HC.out W5 HB5.out
     cases r1 : fo14 X with
     | false =>
       have hTf : T = false := HFF.out (by unfold ff14; rw [r1]; rfl)
       subst hTf
       generalize X.name = x0, X.params.length = x1, X.regs = x2, X.result = x3, X.blks.length = x4 at *
       go_wp2_with fail
       rw [<- hW5]
       clear hW5 c0 c1 c2 c3 c4 f0 f1
       go_wp2_with (first | (go_at_call 62; refine (H6.out _ r1).mono ?_; rintro e w6 ⟨rfl, hb6⟩; have B6 := HB5.out.next hb6; obtain ⟨u0, u1, u2, u3, u4, u5, u6, u7, u8⟩ := HC.out w6 B6))
       go_ret
       exact ⟨by simp, B6.one.low⟩
     | true =>
       cases r2 : X.blks.all (cs14 L) with
       | false =>
         have hTf : T = false := HFF.out (by unfold ff14; rw [r1, r2]; rfl)
         subst hTf
         generalize X.name = x0, X.params.length = x1, X.regs = x2, X.result = x3, X.blks.length = x4 at *
         go_wp2_with fail
         rw [<- hW5]
         clear hW5 c0 c1 c2 c3 c4 f0 f1
         go_wp2_with (first
          | (go_at_call 63; refine (H7.out w6 hb6 _ r2).mono ?_; rintro e w7 ⟨rfl, hb7⟩; have B7 := B6.next hb7; obtain ⟨v0, v1, v2, v3, v4, v5, v6, v7, v8⟩ := HC.out w7 B7)
          | (go_at_call 62; refine (H6.out _ r1).mono ?_; rintro e w6 ⟨rfl, hb6⟩; have B6 := HB5.out.next hb6; obtain ⟨u0, u1, u2, u3, u4, u5, u6, u7, u8⟩ := HC.out w6 B6))
         go_ret
         exact ⟨by simp, B7.one.low⟩
       | true =>
         have HE2 : Hid (∀ i (h : i < L.length), i < k + 1 -> ff14 L L[i] = true) := fun i h1 h2 => by
          rcases Nat.lt_succ_iff_lt_or_eq.1 h2 with q | rfl
          ·exact HE.out i h1 q
          ·rw [<- HX.out]; unfold ff14; rw [r1, r2]; rfl
         clear HFF HE
         generalize X.name = x0, X.params.length = x1, X.regs = x2, X.result = x3, X.blks.length = x4 at *
         go_wp2_with fail
         rw [<- hW5]
         clear hW5 c0 c1 c2 c3 c4 f0 f1
         go_wp2_with (first
          | (go_at_call 63; refine (H7.out w6 hb6 _ r2).mono ?_; rintro e w7 ⟨rfl, hb7⟩; have B7 := B6.next hb7; obtain ⟨v0, v1, v2, v3, v4, v5, v6, v7, v8⟩ := HC.out w7 B7)
          | (go_at_call 62; refine (H6.out _ r1).mono ?_; rintro e w6 ⟨rfl, hb6⟩; have B6 := HB5.out.next hb6; obtain ⟨u0, u1, u2, u3, u4, u5, u6, u7, u8⟩ := HC.out w6 B6))
         go_roundw
         case rel => exact ⟨k + 1, by omega, by go_num, HE2.out, B7.one⟩
         case measure => simp [intOf]; omega
    ·have hkn : k = fn := by omega
     subst hkn
     have hTt : T = true := by
      rw [HT.out, List.all_eq_true]
      intro x hx
      obtain ⟨i, hi, rfl⟩ := List.getElem_of_mem hx
      exact HE.out i hi (by have := HN.out; omega)
     subst hTt
     go_wp2_with fail
     go_ret
     exact ⟨by simp, HO.out.low⟩
def slF (f : Af) : Bool := (decide (0 <= f.slots) && decide (f.slots <= 262144)) && svF f
def formA (FS : List Af) (m : Int) : Bool := FS.all slF && ft14 (FS.map nuF) m
def FewN (f : Af) : Prop := f.params.length <= 100000000 /\ f.blks.length <= 100000000 /\ ∀ b ∈ f.blks, b.body.length <= 100000000 /\ ∀ x ∈ b.body, x.args.length <= 100000000
set_option maxRecDepth 100000 in
set_option maxHeartbeats 8000000 in
theorem hasForm_any (w : World) (hTab : Tab w) {fa : Option Addr} {fn fc : Nat} {FS : List Af} (hF : Afs w fa fc FS) (hfn : fn = FS.length) (hlen : fn <= 1000000) (m : Int) (hfew : ∀ f ∈ FS, FewN f) :
 Calls Tryz.prog 34 #[.agg #[.slice fa fn fc, .int .i64 m]] w fun e w' => e = .returned (.bool (formA FS m)) /\ Below w.heap.size w w' := by
 obtain ⟨R, hR⟩ : ∃ R, R = formA FS m := ⟨_, rfl⟩
 rw [<- hR]
 obtain ⟨T, hT⟩ : ∃ T, T = ft14 (FS.map nuF) m := ⟨_, rfl⟩
 have HR : Hid (R = ((FS.drop 0).all slF && T)) := by rw [hT]; exact hR
 have HN : Hid (fn = FS.length) := hfn
 have HF : Hid (Afs w fa fc FS) := hF
 obtain ⟨W0, hW0⟩ : ∃ W, W = w.alloc (.cells #[.slice fa fn fc, .int .i64 m] 44) := ⟨_, rfl⟩
 obtain ⟨pb, hpb⟩ : ∃ p, p = w.heap.size := ⟨_, rfl⟩
 have b0 : Below w.heap.size w W0 := by rw [hW0]; exact below_newA w _
 have hx0 : W0.heap[pb]? = some (.cells #[.slice fa fn fc, .int .i64 m] 44 (0, 0)) := by rw [hW0, hpb]; exact heap_alloc_new w _
 have HPB : Hid (∀ W, Below W0.heap.size W0 W -> Below w.heap.size w W /\ W.cell? ⟨pb, 0, none⟩ = some (.slice fa fn fc) /\ W.cell? ⟨pb, 1, none⟩ = some (.int .i64 m) /\ pb < W.heap.size) := fun W hW => by
  have q := (hW.block pb (gl hx0)).trans hx0
  exact ⟨b0.trans (hW.mono b0.size), cell_arr q rfl, cell_arr q rfl, (gl q)⟩
 have HNU : Hid (FS.all slF = true -> ∀ W, Below w.heap.size w W -> Calls Tryz.prog 49 #[.agg #[.slice fa fn fc, .int .i64 m]] W fun e w' => ∃ ao c, e = .returned (.agg #[.slice ao fn c, .int .i64 m]) /\ Lfs w' ao c (FS.map nuF) /\ Below W.heap.size W w') := fun hall W hW => numbered_any W (hF.below hW (Nat.le_refl _)) hfn (by omega) m (fun f hf => by
  have := List.all_eq_true.1 hall f hf
  unfold slF at this
  simp at this
  exact this.1) hfew
 have HFT : Hid (∀ W ao c, Below w.heap.size w W -> Lfs W ao c (FS.map nuF) -> Calls Tryz.prog 48 #[.agg #[.slice ao fn c, .int .i64 m]] W fun e w' => e = .returned (.bool T) /\ Below W.heap.size W w') := fun W ao c hW hL => fits14_any W (hTab.below hW hTab.1) ao fn c _ (by rw [List.length_map]; exact hfn) hL hlen m T hT.symm
 have HSV : Hid (∀ W a1 c1 a2 c2 (f : Af), Lst EnB 5 W a2 c2 f.blks -> Calls Tryz.prog 47 #[.agg #[.string f.name, .slice a1 f.params.length c1, .int .i64 f.result, .int .i64 f.slots, .slice a2 f.blks.length c2]] W fun e w' => e = .returned (.bool (svF f)) /\ Below W.heap.size W w') := fun W a1 c1 a2 c2 f h => savesFit_any W f a1 c1 a2 c2 h
 have hmx : fn <= 9223372036854775807 := by omega
 obtain ⟨-, y0, y1, lpb⟩ := HPB.out W0 (Below.refl _ _)
 clear hR hT hfn hF hTab hfew b0 hx0
 go_enter Tryz.func34, Tryz.ntmps34
 go_upto_region 1 with fail
 rw [<- hW0, <- hpb]
 clear hW0 hpb
 go_wp2_with fail
 go_loopw [8] (fun v wr => ∃ k : Nat, k <= fn /\ v = .int .i64 (k : Int) /\ Hid (Below W0.heap.size W0 wr) /\ Hid (R = ((FS.drop k).all slF && T)) /\ Hid ((FS.take k).all slF = true)) (fun v _ => fn - (intOf v).toNat)
 case atStart => exact ⟨0, by omega, rfl, Below.refl _ _, HR, rfl⟩
 case round =>
  clear HR y0 y1 lpb
  obtain ⟨k, hkn, rfl, HW, HR, HA⟩ := hrel
  obtain ⟨wq, rfl⟩ : ∃ wq, wq = wr := ⟨_, rfl⟩
  obtain ⟨hbw, y0, y1, lpb⟩ := HPB.out wq HW.out
  have HBW : Hid _ := hbw
  clear hbw
  by_cases hlt : k < fn
  ·have hki : (k : Int) < (fn : Int) := by omega
   have hkF : k < FS.length := by rw [<- HN.out]; exact hlt
   obtain ⟨fb, fo, x1, z1, x2, z2, ea, hbl, i0, i1, i2, i3, i4, -, hBl⟩ := afs_at (HF.out.below HBW.out (Nat.le_refl _)) hkF
   subst ea
   have HR1 : Hid (R = (slF FS[k] && ((FS.drop (k + 1)).all slF && T))) := by
    have := HR.out
    rw [all_drop hkF, Bool.and_assoc] at this
    exact this
   have HA1 : Hid (slF FS[k] = true -> (FS.take (k + 1)).all slF = true) := fun h => by
    rw [List.take_succ_eq_append_getElem hkF, List.all_append, HA.out]
    simp [h]
   generalize FS[k] = f at i0 i1 i2 i3 i4 hBl HR1 HA1
   have HS1 : Hid (∀ W, Below wq.heap.size wq W -> Calls Tryz.prog 47 #[.agg #[.string f.name, .slice x1 f.params.length z1, .int .i64 f.result, .int .i64 f.slots, .slice x2 f.blks.length z2]] W fun e w' => e = .returned (.bool (svF f)) /\ Below W.heap.size W w') := fun W hW => HSV.out W x1 z1 x2 z2 f (hBl.below hW (Nat.le_refl _) (enB_below hW (Nat.le_refl _)))
   obtain ⟨sv, hsv⟩ : ∃ b, b = svF f := ⟨_, rfl⟩
   have HSF : Hid (slF f = ((decide (0 <= f.slots) && decide (f.slots <= 262144)) && sv)) := by rw [hsv]; rfl
   rw [<- hsv] at HS1
   obtain ⟨fnm, enm⟩ : ∃ n, n = f.name := ⟨_, rfl⟩
   obtain ⟨np, enp⟩ : ∃ n, n = f.params.length := ⟨_, rfl⟩
   obtain ⟨frs, ers⟩ : ∃ n, n = f.result := ⟨_, rfl⟩
   obtain ⟨fsl, esl⟩ : ∃ n, n = f.slots := ⟨_, rfl⟩
   obtain ⟨nb, enb⟩ : ∃ n, n = f.blks.length := ⟨_, rfl⟩
   rw [<- enm, <- enp, <- ers, <- esl, <- enb] at HS1
   rw [<- esl] at HSF i3
   rw [<- enm] at i0
   rw [<- enp] at i1
   rw [<- ers] at i2
   rw [<- enb] at i4
   have HBn : Hid (∀ Y, Below wq.heap.size wq (wq.alloc Y)) := below_newA wq
   clear hsv enm enp ers esl enb hBl hkF HR HA
   by_cases h1 : fsl < 0
   ·obtain rfl : R = false := by
     rw [HR1.out, HSF.out]
     simp [show ¬ 0 <= fsl by omega]
    go_wp2_with fail
    go_ret
    exact ⟨rfl, HBW.out.trans ((HBn.out _).mono HBW.out.size)⟩
   ·by_cases h2 : fsl <= 262144
    ·have h2' : ¬ 262144 < fsl := by omega
     have hs : slF f = sv := by rw [HSF.out]; simp [show 0 <= fsl by omega, h2]
     have HS2 : Hid (R = (sv && ((FS.drop (k + 1)).all slF && T)) /\ (sv = true -> (FS.take (k + 1)).all slF = true)) := ⟨by rw [HR1.out, hs], fun h => HA1.out (hs.trans h)⟩
     clear hs HSF HR1 HA1
     go_wp2_with fail
     refine Calls.mono (HS1.out _ (HBn.out _)) ?_
     rintro e w5 ⟨rfl, b5⟩
     have HB5 : Hid (Below wq.heap.size wq w5) := (HBn.out _).trans (b5.mono (HBn.out _).size)
     clear b5
     cases sv
     ·obtain rfl : R = false := by rw [HS2.out.1]; rfl
      go_wp2_with fail
      go_ret
      exact ⟨rfl, HBW.out.trans (HB5.out.mono HBW.out.size)⟩
     ·go_wp2_with fail
      go_roundw
      case rel => exact ⟨k + 1, by omega, by first | rfl | go_num, HW.out.trans (HB5.out.mono HW.out.size), by have := HS2.out.1; simp only [Bool.true_and] at this; exact this, HS2.out.2 (by trivial)⟩
      case measure => simp [intOf]; try omega
    ·have h2' : 262144 < fsl := by omega
     obtain rfl : R = false := by
      rw [HR1.out, HSF.out]
      simp [h2]
     go_wp2_with fail
     go_ret
     exact ⟨rfl, HBW.out.trans ((HBn.out _).mono HBW.out.size)⟩
  ·obtain rfl : k = fn := by omega
   have hnlt : decide ((k : Int) < (k : Int)) = false := by simp
   obtain rfl : R = T := by
    have := HR.out
    rw [all_end (by have := HN.out; omega), Bool.true_and] at this
    exact this
   have HNV : Hid _ := HNU.out (by have := HA.out; rw [List.take_of_length_le (by have := HN.out; omega)] at this; exact this) wq HBW.out
   clear HA HR HNU
   go_wp2_with (first
    | (go_at_call 49; refine Calls.mono HNV.out ?_; rintro e w5 ⟨ao, c, rfl, hl5, b5⟩; have HB5 : Hid _ := b5; have HL5 : Hid _ := hl5; have HBX : Hid (Below w.heap.size w w5) := HBW.out.trans (b5.mono HBW.out.size); clear b5 hl5)
    | (go_at_call 48; refine Calls.mono (HFT.out w5 ao c HBX.out HL5.out) ?_; rintro e w6 ⟨rfl, b6⟩; have HB6 : Hid _ := b6; clear b6))
   go_ret
   exact ⟨rfl, HBX.out.trans (HB6.out.mono HBX.out.size)⟩
theorem check_any (w : World) (hTab : Tab w) {fa : Option Addr} {fn fc : Nat} {FS : List Af} (hF : Afs w fa fc FS) (hfn : fn = FS.length) (hlen : fn <= 1000000) (m : Int) (hfew : ∀ f ∈ FS, FewN f) :
 Calls Tryz.prog 22 #[.agg #[.slice fa fn fc, .int .i64 m]] w fun e w' => e = .returned (.int .i64 (if formA FS m = true then 0 else 190)) /\ Below w.heap.size w w' := by
 have HBn : Hid (∀ Y, Below w.heap.size w (w.alloc Y)) := below_newA w
 have HH : Hid (∀ W, Below w.heap.size w W -> Calls Tryz.prog 34 #[.agg #[.slice fa fn fc, .int .i64 m]] W fun e w' => e = .returned (.bool (formA FS m)) /\ Below W.heap.size W w') := fun W hW => hasForm_any W (hTab.below hW hTab.1) (hF.below hW (Nat.le_refl _)) hfn hlen m hfew
 generalize formA FS m = b at HH
 clear hTab hF hfn hfew
 cases b
 ·go_enter Tryz.func22, Tryz.ntmps22
  go_wp2_with (go_at_call 34; refine Calls.mono (HH.out _ (HBn.out _)) ?_; rintro e w5 ⟨rfl, b5⟩; have HB5 : Hid _ := b5; clear b5)
  go_ret
  exact ⟨rfl, (HBn.out _).trans (HB5.out.mono (HBn.out _).size)⟩
 ·go_enter Tryz.func22, Tryz.ntmps22
  go_wp2_with (go_at_call 34; refine Calls.mono (HH.out _ (HBn.out _)) ?_; rintro e w5 ⟨rfl, b5⟩; have HB5 : Hid _ := b5; clear b5)
  go_ret
  exact ⟨rfl, (HBn.out _).trans (HB5.out.mono (HBn.out _).size)⟩
end Go.Proofs.YtegoemeefmjnoaaGreatDoor
