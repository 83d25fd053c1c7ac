import Derived.Deep.RegionHeld
import Derived.Test.YtdbkjjelaipcfaaGreatDoorJbk
set_option linter.unusedVariables false
set_option linter.unusedSimpArgs false
namespace Go.Proofs.YtdbkjjelaipcfaaGreatDoor
open Go.ChangeShapes Go.WideShapes Go.ChangeAt Go.RowKit Go.Maps
theorem ret_it {a b : Int} (h : a = b) : Ending.returned (.int .i64 a) = .returned (.int .i64 b) := by rw [h]
theorem reach_len {f : Fu} (hg : goodP (waysP f) = true) : (reachP (waysP f)).length = f.blks.length := by
 unfold reachP
 rw [if_pos hg, rch_len, waysP_len]
set_option maxRecDepth 100000 in
set_option maxHeartbeats 8000000 in
theorem rCheckF_any (w : World) {fa : Option Addr} {fn fc : Nat} {mn : Int} {s : ByteArray} {pa : Option Addr} {pn pc : Nat} {r : Int} {va : Option Addr} {vn vc : Nat} {ba : Option Addr} {bn bc : Nat} {FS : List Fu} {f : Fu} (X : RX w fa fn fc s pa pn pc r va vn vc ba bn bc FS f) (hfs : ∀ G ∈ FS, formP FS G = true) (hf : formP FS f = true) (hbn : bn <= 1000000) (hbulk : totK f f.blks.length <= 1000000000)
 (HU : phisP f = true -> reachedP f = true -> onceP f = true -> ∀ w', Below w.heap.size w w' -> Calls Tryz.prog 48 #[.agg #[.string s, .slice pa pn pc, .int .i64 r, .slice va vn vc, .slice ba bn bc]] w' fun e w'' => e = .returned (.bool (ruP f)) /\ Below w'.heap.size w' w'') :
 Calls Tryz.prog 21 #[.agg #[.slice fa fn fc, .int .i64 mn], .agg #[.string s, .slice pa pn pc, .int .i64 r, .slice va vn vc, .slice ba bn bc]] w fun e w' => e = .returned (.int .i64 (faultP FS f)) /\ Below w.heap.size w w' := by
 have hpos := (formP_blocks hf).1
 have hgd := ways_good hf
 have hnb : 0 < bn := by have := X.eb; omega
 have A0 : Aft w (.cells #[.slice fa fn fc, .int .i64 mn] 24) (.cells #[.string s, .slice pa pn pc, .int .i64 r, .slice va vn vc, .slice ba bn bc] 38) ((w.alloc (.cells #[.slice fa fn fc, .int .i64 mn] 24)).alloc (.cells #[.string s, .slice pa pn pc, .int .i64 r, .slice va vn vc, .slice ba bn bc] 38)) := Aft.refl _ _ _
 obtain ⟨V, hV⟩ : ∃ V, faultP FS f = V := ⟨_, rfl⟩
 rw [hV]
 have HV : Hid (faultP FS f = V) := hV
 have HAC : Hid (∀ w', Aft w (.cells #[.slice fa fn fc, .int .i64 mn] 24) (.cells #[.string s, .slice pa pn pc, .int .i64 r, .slice va vn vc, .slice ba bn bc] 38) w' -> w'.cell? ⟨w.heap.size, 0, none⟩ = some (.slice fa fn fc) /\ w'.cell? ⟨w.heap.size, 1, none⟩ = some (.int .i64 mn) /\ w'.cell? ⟨w.heap.size + 1, 0, none⟩ = some (.string s) /\ w'.cell? ⟨w.heap.size + 1, 1, none⟩ = some (.slice pa pn pc) /\ w'.cell? ⟨w.heap.size + 1, 2, none⟩ = some (.int .i64 r) /\ w'.cell? ⟨w.heap.size + 1, 3, none⟩ = some (.slice va vn vc) /\ w'.cell? ⟨w.heap.size + 1, 4, none⟩ = some (.slice ba bn bc) /\ w.heap.size + 1 < w'.heap.size) := fun w' h => aft_cells h
 obtain ⟨P1, hP1⟩ : ∃ P, predsP f = P := ⟨_, rfl⟩
 have H1 : Hid (∀ w', Aft w (.cells #[.slice fa fn fc, .int .i64 mn] 24) (.cells #[.string s, .slice pa pn pc, .int .i64 r, .slice va vn vc, .slice ba bn bc] 38) w' -> Calls Tryz.prog 42 #[.agg #[.string s, .slice pa pn pc, .int .i64 r, .slice va vn vc, .slice ba bn bc]] w' fun e w'' => e = .returned (.bool P1) /\ Below w'.heap.size w' w'') := fun w' h => by
  have := rPreds_any w' (s := s) (pa := pa) (pn := pn) (pc := pc) (r := r) (va := va) (vn := vn) (vc := vc) X.eb (X.hB.below h.low (Nat.le_refl _)) (ways_two hf) hbn hnb
  rw [rpP_eq hpos (fun b hb => (blockP_ways ((formP_blocks hf).2 b hb)).2), hP1] at this
  exact this
 have HP1 : Hid (predsP f = P1) := hP1
 have H2 : Hid (∀ w', Aft w (.cells #[.slice fa fn fc, .int .i64 mn] 24) (.cells #[.string s, .slice pa pn pc, .int .i64 r, .slice va vn vc, .slice ba bn bc] 38) w' -> Calls Tryz.prog 44 #[.agg #[.string s, .slice pa pn pc, .int .i64 r, .slice va vn vc, .slice ba bn bc]] w' fun e w'' => ∃ ao c, e = .returned (.slice ao bn c) /\ IRow w'' ao c (waysP f) /\ Below w'.heap.size w' w'') := fun w' h => by
  have := rWays_any w' (s := s) (pa := pa) (pn := pn) (pc := pc) (r := r) (va := va) (vn := vn) (vc := vc) X.eb (X.hB.below h.low (Nat.le_refl _)) hbn
  rw [<- X.eb] at this
  exact this
 have H3 : Hid (∀ w' ao c, IRow w' ao c (waysP f) -> Calls Tryz.prog 43 #[.slice ao bn c] w' fun e w'' => ∃ b' c', e = .returned (.slice (some ⟨b', 0, none⟩) bn c') /\ Hid (bn <= c' /\ b' < w''.heap.size /\ ∀ i (h : i < (reachP (waysP f)).length), w''.cell? ⟨b', i, none⟩ = some (.bool (reachP (waysP f))[i])) /\ Below w'.heap.size w' w'') := fun w' ao c hI => by
  refine (refReach_any w' ao bn c (waysP f) (by rw [waysP_len]; exact X.eb) hI (by omega)).mono ?_
  rintro e w'' ⟨v, rfl, ho, hb⟩
  have hl : (reachP (waysP f)).length = bn := by rw [reach_len hgd]; exact X.eb.symm
  obtain ⟨ao', c', e', h1, h2⟩ := own_slice ho.out
  obtain ⟨g, c2, e2, _, _, hB, hg⟩ := own_some ho.out (by rw [hl]; exact hnb)
  subst e'
  cases e2
  refine ⟨g, c', by rw [hl], ⟨by rw [<- hl]; exact h1, hg, fun i hi => ?_⟩, hb⟩
  have := own_cell ho.out i (by omega)
  rw [this]
  simp [hi]
 obtain ⟨P2, hP2⟩ : ∃ P, evr (fun _ (b : Bool) => b) 0 (reachP (waysP f)) = P := ⟨_, rfl⟩
 have HE2 : Hid (EvR (fun _ (b : Bool) => b) (reachP (waysP f)) 0 P2) := ⟨by simpa using hP2⟩
 have HP2 : Hid (reachedP f = P2) := by
  show _ = _
  rw [<- hP2, evr_plain (fun b : Bool => b)]
  rfl
 have HRL : Hid ((reachP (waysP f)).length = bn) := by show _ = _; rw [reach_len hgd]; exact X.eb.symm
 obtain ⟨P3, hP3⟩ : ∃ P, phisP f = P := ⟨_, rfl⟩
 have H4 : Hid (∀ w', Aft w (.cells #[.slice fa fn fc, .int .i64 mn] 24) (.cells #[.string s, .slice pa pn pc, .int .i64 r, .slice va vn vc, .slice ba bn bc] 38) w' -> Calls Tryz.prog 45 #[.agg #[.string s, .slice pa pn pc, .int .i64 r, .slice va vn vc, .slice ba bn bc]] w' fun e w'' => e = .returned (.bool P3) /\ Below w'.heap.size w' w'') := fun w' h => by
  have := rPhis_any w' (X.below h.low) hf
  rw [hP3] at this
  exact this
 have HP3 : Hid (phisP f = P3) := hP3
 have H5 : Hid (∀ w', Aft w (.cells #[.slice fa fn fc, .int .i64 mn] 24) (.cells #[.string s, .slice pa pn pc, .int .i64 r, .slice va vn vc, .slice ba bn bc] 38) w' -> Calls Tryz.prog 46 #[.agg #[.string s, .slice pa pn pc, .int .i64 r, .slice va vn vc, .slice ba bn bc]] w' fun e w'' => ∃ g, e = .returned (.slice (some ⟨g, 0, none⟩) vn vn) /\ T3 w'' g vn (qlK f f.blks.length) (cntAll f) /\ Below w'.heap.size w' w'') := fun w' h => rPlaces_any w' (X.below h.low) hf hbn hbulk
 obtain ⟨P4, hP4⟩ : ∃ P, evr (fun _ (x : Int) => decide (x = 1)) 0 (cntAll f) = P := ⟨_, rfl⟩
 have HE4 : Hid (EvR (fun _ (x : Int) => decide (x = 1)) (cntAll f) 0 P4) := ⟨by simpa using hP4⟩
 have HP4 : Hid (onceP f = P4) := by
  show _ = _
  rw [<- hP4, evr_plain (fun x : Int => decide (x = 1))]
  rfl
 obtain ⟨P5, hP5⟩ : ∃ P, typesP FS f = P := ⟨_, rfl⟩
 have H6 : Hid (∀ w', Aft w (.cells #[.slice fa fn fc, .int .i64 mn] 24) (.cells #[.string s, .slice pa pn pc, .int .i64 r, .slice va vn vc, .slice ba bn bc] 38) w' -> Calls Tryz.prog 47 #[.agg #[.slice fa fn fc, .int .i64 mn], .agg #[.string s, .slice pa pn pc, .int .i64 r, .slice va vn vc, .slice ba bn bc]] w' fun e w'' => e = .returned (.bool P5) /\ Below w'.heap.size w' w'') := fun w' h => by
  have := rTypes_all w' (mn := mn) (X.below h.low) hfs hf
  rw [hP5] at this
  exact this
 have HP5 : Hid (typesP FS f = P5) := hP5
 obtain ⟨P6, hP6⟩ : ∃ P, usesP f = P := ⟨_, rfl⟩
 have H7 : Hid (P3 = true -> P2 = true -> P4 = true -> ∀ w', Aft w (.cells #[.slice fa fn fc, .int .i64 mn] 24) (.cells #[.string s, .slice pa pn pc, .int .i64 r, .slice va vn vc, .slice ba bn bc] 38) w' -> Calls Tryz.prog 48 #[.agg #[.string s, .slice pa pn pc, .int .i64 r, .slice va vn vc, .slice ba bn bc]] w' fun e w'' => e = .returned (.bool P6) /\ Below w'.heap.size w' w'') := fun h3 h2 h4 w' h => by
  have e3 := hP3.trans h3
  have e2 := HP2.out.trans h2
  have e4 := HP4.out.trans h4
  have := HU e3 e2 e4 w' h.low
  rw [ruP_eq hf e3 e2 e4, hP6] at this
  exact this
 have HP6 : Hid (usesP f = P6) := hP6
 have hvx : vn <= 9223372036854775807 := by have := X.hV.le; have := X.hV.mx; have := X.ev; omega
 have HVN : Hid (vn = f.vals.length) := X.ev
 clear X hfs hf hbulk HU hpos hgd hV hP1 hP2 hP3 hP4 hP5 hP6
 cases P1
 ·have e : V = 91 := by rw [<- HV.out, faultP, if_pos HP1.out]
  have HEV : Hid (V = 91) := e
  clear e
  go_enter Tryz.func21, Tryz.ntmps21
  go_wp2_with (first | (go_at_call 42; refine (H1.out _ A0).mono ?_; rintro e w1 ⟨rfl, hb1⟩; have A1 := A0.next hb1; obtain ⟨x0, x1, y0, y1, y2, y3, y4, xs⟩ := HAC.out _ A1))
  go_ret
  exact ⟨ret_it HEV.out.symm, A1.low⟩
 go_enter Tryz.func21, Tryz.ntmps21
 go_wp2_with (first
  | (go_at_call 43; refine (H3.out _ _ _ hI2).mono ?_; rintro e w3 ⟨gb, gc, rfl, HRE, hb3⟩; have A3 := A2.next hb3; obtain ⟨x0, x1, y0, y1, y2, y3, y4, xs⟩ := HAC.out _ A3)
  | (go_at_call 44; refine (H2.out _ A1).mono ?_; rintro e w2 ⟨ao2, ac2, rfl, hI2, hb2⟩; have A2 := A1.next hb2)
  | (go_at_call 42; refine (H1.out _ A0).mono ?_; rintro e w1 ⟨rfl, hb1⟩; have A1 := A0.next hb1; obtain ⟨x0, x1, y0, y1, y2, y3, y4, xs⟩ := HAC.out _ A1))
 have HA3 : Hid _ := A3
 have hgx : bn <= gc /\ gb < w3.heap.size := ⟨HRE.out.1, HRE.out.2.1⟩
 clear A0 A1 A2 A3 hb1 hb2 hb3 hI2 H1 H2 H3
 go_loopw [6] (fun v wr => ∃ j : Nat, j <= bn /\ v = .int .i64 j /\ Hid (EvR (fun _ (b : Bool) => b) (reachP (waysP f)) j P2) /\ wr = w3) (fun v _ => bn - (intOf v).toNat)
 case atStart => exact ⟨0, by omega, rfl, HE2, rfl⟩
 case round =>
  clear HE2
  obtain ⟨j, hj, rfl, HP, rfl⟩ := hrel
  by_cases hjl : j < bn
  ·have hjf : j < (reachP (waysP f)).length := by have := HRL.out; omega
   have HN := HP.out.next hjf
   have cj := HRE.out.2.2 j hjf
   generalize (reachP (waysP f))[j] = bb at HN cj
   cases bb
   ·have e : V = 92 := by
     have h2 := HP2.out.trans (HN.2 rfl)
     rw [<- HV.out, faultP, if_neg (by rw [HP1.out]; simp), if_pos h2]
    have HEV : Hid (V = 92) := e
    clear e HN
    go_wp2_with fail
    go_ret
    exact ⟨ret_it HEV.out.symm, HA3.out.low⟩
   ·have HN1 : Hid _ := HN.1 rfl
    clear HN
    go_wp2_with fail
    go_roundw
    case rel => exact ⟨j + 1, by omega, by go_num, HN1, by first | trivial | rfl⟩
    case measure => simp [intOf]; omega
  ·obtain rfl : P2 = true := HP.out.fin (by have := HRL.out; omega)
   obtain rfl : bn = j := by omega
   have A3 := HA3.out
   clear HP HRE
   cases P3
   ·have e : V = 93 := by
     rw [<- HV.out, faultP, if_neg (by rw [HP1.out]; simp), if_neg (by rw [HP2.out]; simp), if_pos HP3.out]
    have HEV : Hid (V = 93) := e
    clear e
    go_wp2_with (first | (go_at_call 45; refine (H4.out _ A3).mono ?_; rintro e w4 ⟨rfl, hb4⟩; have A4 := A3.next hb4))
    go_ret
    exact ⟨ret_it HEV.out.symm, A4.low⟩
   go_wp2_with (first
    | (go_at_call 46; refine (H5.out _ A4).mono ?_; rintro e w5 ⟨pg, rfl, hT5, hb5⟩; have A5 := A4.next hb5; obtain ⟨x0, x1, y0, y1, y2, y3, y4, xs⟩ := HAC.out _ A5)
    | (go_at_call 45; refine (H4.out _ A3).mono ?_; rintro e w4 ⟨rfl, hb4⟩; have A4 := A3.next hb4; obtain ⟨x0, x1, y0, y1, y2, y3, y4, xs⟩ := HAC.out _ A4))
   have HA5 : Hid _ := A5
   have HT5 : Hid _ := hT5
   have hpl := hT5.lt
   clear A3 A4 A5 hb4 hb5 hT5 H4 H5 HA3 hgx
   go_loopw [8] (fun v wr => ∃ j : Nat, j <= vn /\ v = .int .i64 j /\ Hid (EvR (fun _ (x : Int) => decide (x = 1)) (cntAll f) j P4) /\ wr = w5) (fun v _ => vn - (intOf v).toNat)
   case atStart => exact ⟨0, by omega, rfl, HE4, rfl⟩
   case round =>
    clear HE4
    obtain ⟨j, hj', rfl, HP, rfl⟩ := hrel
    by_cases hjl' : j < vn
    ·have hjf : j < (cntAll f).length := by have := HT5.out.lo; omega
     have HN := HP.out.next hjf
     obtain ⟨_, _, t3, _, _, _⟩ := HT5.out.cell hjl'
     rw [show (cntAll f).getD j 0 = (cntAll f)[j] by simp [List.getD_eq_getElem?_getD, hjf]] at t3
     generalize (cntAll f)[j] = cc at HN t3
     by_cases hc1 : cc = 1
     ·have HN1 : Hid _ := HN.1 (by simpa using hc1)
      subst hc1
      clear HN
      go_wp2_with fail
      go_roundw
      case rel => exact ⟨j + 1, by omega, by go_num, HN1, by first | trivial | rfl⟩
      case measure => simp [intOf]; omega
     ·have e : V = 94 := by
       have h4 := HP4.out.trans (HN.2 (by simpa using hc1))
       rw [<- HV.out, faultP, if_neg (by rw [HP1.out]; simp), if_neg (by rw [HP2.out]; simp), if_neg (by rw [HP3.out]; simp), if_pos h4]
      have HEV : Hid (V = 94) := e
      clear e HN
      go_wp2_with fail
      go_ret
      exact ⟨ret_it HEV.out.symm, HA5.out.low⟩
    ·obtain rfl : P4 = true := HP.out.fin (by have := HT5.out.lo; omega)
     obtain rfl : vn = j := by omega
     have A5 := HA5.out
     clear HP HT5
     cases P5
     ·have e : V = 95 := by
       rw [<- HV.out, faultP, if_neg (by rw [HP1.out]; simp), if_neg (by rw [HP2.out]; simp), if_neg (by rw [HP3.out]; simp), if_neg (by rw [HP4.out]; simp), if_pos HP5.out]
      have HEV : Hid (V = 95) := e
      clear e
      go_wp2_with (first | (go_at_call 47; refine (H6.out _ A5).mono ?_; rintro e w6 ⟨rfl, hb6⟩; have A6 := A5.next hb6))
      go_ret
      exact ⟨ret_it HEV.out.symm, A6.low⟩
     have H7' : Hid (∀ w', Aft w (.cells #[.slice fa fn fc, .int .i64 mn] 24) (.cells #[.string s, .slice pa pn pc, .int .i64 r, .slice va vn vc, .slice ba bn bc] 38) w' -> Calls Tryz.prog 48 #[.agg #[.string s, .slice pa pn pc, .int .i64 r, .slice va vn vc, .slice ba bn bc]] w' fun e w'' => e = .returned (.bool P6) /\ Below w'.heap.size w' w'') := H7.out (by first | trivial | rfl) (by first | trivial | rfl) (by first | trivial | rfl)
     have e : V = if P6 = false then 96 else 0 := by
      rw [<- HV.out, faultP, if_neg (by rw [HP1.out]; simp), if_neg (by rw [HP2.out]; simp), if_neg (by rw [HP3.out]; simp), if_neg (by rw [HP4.out]; simp), if_neg (by rw [HP5.out]; simp), HP6.out]
     have HEV : Hid (V = if P6 = false then 96 else 0) := e
     clear e H7
     cases P6
     all_goals
      go_wp2_with (first
       | (go_at_call 48; refine (H7'.out _ A6).mono ?_; rintro e w7 ⟨rfl, hb7⟩; have A7 := A6.next hb7)
       | (go_at_call 47; refine (H6.out _ A5).mono ?_; rintro e w6 ⟨rfl, hb6⟩; have A6 := A5.next hb6; obtain ⟨x0, x1, y0, y1, y2, y3, y4, xs⟩ := HAC.out _ A6))
      go_ret
      exact ⟨ret_it (by rw [HEV.out]; rfl), A7.low⟩
structure UA (FS : List Fu) (f : Fu) : Prop where
 out : ∀ (w : World) {fa : Option Addr} {fn fc : Nat} {s : ByteArray} {pa : Option Addr} {pn pc : Nat} {r : Int} {va : Option Addr} {vn vc : Nat} {ba : Option Addr} {bn bc : Nat}, RX w fa fn fc s pa pn pc r va vn vc ba bn bc FS f -> phisP f = true -> reachedP f = true -> onceP f = true -> Calls Tryz.prog 48 #[.agg #[.string s, .slice pa pn pc, .int .i64 r, .slice va vn vc, .slice ba bn bc]] w fun e w' => e = .returned (.bool (ruP f)) /\ Below w.heap.size w w'
structure FiR (FS : List Fu) (k : Nat) (V : Int) : Prop where
 out : firstP FS (FS.drop k) = V
theorem FiR.next {FS k V} (h : FiR FS k V) (hk : k < FS.length) : (faultP FS FS[k] = 0 -> FiR FS (k + 1) V) /\ (¬ faultP FS FS[k] = 0 -> V = faultP FS FS[k]) := by
 have := h.out
 rw [List.drop_eq_getElem_cons hk] at this
 simp only [firstP] at this
 refine ⟨fun e => ⟨?_⟩, fun e => ?_⟩
 ·rw [if_pos e] at this; exact this
 ·rw [if_neg e] at this; exact this.symm
theorem FiR.fin {FS k V} (h : FiR FS k V) (hk : FS.length <= k) : V = 0 := by
 have := h.out
 rw [List.drop_of_length_le hk] at this
 exact this.symm
set_option maxRecDepth 100000 in
set_option maxHeartbeats 8000000 in
theorem rCheck9_any (w : World) {fa : Option Addr} {fn fc : Nat} {mn : Int} {FS : List Fu} (hF : Fus w fa fc FS) (ef : fn = FS.length) (hnl : ∀ f ∈ FS, (nml f.name).length <= 1000000000000000) (hfew : ∀ f ∈ FS, FewF f) (HU : (∀ G ∈ FS, formP FS G = true) -> ∀ f ∈ FS, UA FS f) :
 Calls Tryz.prog 11 #[.agg #[.slice fa fn fc, .int .i64 mn]] w fun e w' => e = .returned (.int .i64 (checkP FS mn)) /\ Below w.heap.size w w' := by
 have A0 : Af1 w (.cells #[.slice fa fn fc, .int .i64 mn] 24) (w.alloc (.cells #[.slice fa fn fc, .int .i64 mn] 24)) := Af1.refl _ _
 have hfx : fn <= 9223372036854775807 := by have := hF.le; have := hF.mx; omega
 obtain ⟨P, hP⟩ : ∃ P, formedP FS mn = P := ⟨_, rfl⟩
 have H1 : Hid (∀ w', Af1 w (.cells #[.slice fa fn fc, .int .i64 mn] 24) w' -> Calls Tryz.prog 20 #[.agg #[.slice fa fn fc, .int .i64 mn]] w' fun e w'' => e = .returned (.bool P) /\ Below w'.heap.size w' w'') := fun w' h => by
  have := rFormed_any w' (mn := mn) (hF.below h.low (Nat.le_refl _)) ef hnl
  rw [rfoP_eq, hP] at this
  exact this
 have HC : Hid (∀ w', Af1 w (.cells #[.slice fa fn fc, .int .i64 mn] 24) w' -> w'.cell? ⟨w.heap.size, 0, none⟩ = some (.slice fa fn fc) /\ w'.cell? ⟨w.heap.size, 1, none⟩ = some (.int .i64 mn)) := fun w' h => ⟨cell_arr h.one rfl, cell_arr h.one rfl⟩
 cases P
 ·rw [checkP, if_pos hP]
  clear hF ef hnl hfew HU hP
  go_enter Tryz.func11, Tryz.ntmps11
  go_wp2_with (first | (go_at_call 20; refine (H1.out _ A0).mono ?_; rintro e w1 ⟨rfl, hb1⟩; have A1 := A0.next hb1))
  go_ret
  exact ⟨rfl, A1.low⟩
 have hfs : ∀ G ∈ FS, formP FS G = true := by
  simp only [formedP, Bool.and_eq_true, List.all_eq_true] at hP
  exact hP.2.2
 rw [checkP, if_neg (by rw [hP]; simp)]
 obtain ⟨V, hV⟩ : ∃ V, firstP FS FS = V := ⟨_, rfl⟩
 rw [hV]
 have HV : Hid (FiR FS 0 V) := ⟨by simpa using hV⟩
 have HF : Hid (Fus w fa fc FS) := hF
 have HE : Hid (fn = FS.length) := ef
 have HFS : Hid (∀ G ∈ FS, formP FS G = true) := hfs
 have HFW : Hid (∀ f ∈ FS, FewF f) := hfew
 have HUA : Hid (∀ f ∈ FS, UA FS f) := HU hfs
 clear hF ef hnl hfew HU hP hfs hV
 go_enter Tryz.func11, Tryz.ntmps11
 go_wp2_with (first | (go_at_call 20; refine (H1.out _ A0).mono ?_; rintro e w1 ⟨rfl, hb1⟩; have A1 := A0.next hb1; obtain ⟨x0, x1⟩ := HC.out _ A1))
 have HA1 : Hid _ := A1
 clear A0 A1 hb1 H1
 go_loopw [3] (fun v wr => ∃ k : Nat, k <= fn /\ v = .int .i64 k /\ Hid (FiR FS k V) /\ Hid (Af1 w (.cells #[.slice fa fn fc, .int .i64 mn] 24) wr)) (fun v _ => fn - (intOf v).toNat)
 case atStart => exact ⟨0, by omega, rfl, HV, HA1⟩
 case round =>
  clear HV HA1 x0 x1
  obtain ⟨k, hk, rfl, HP, HA⟩ := hrel
  obtain ⟨x0, x1⟩ := HC.out _ HA.out
  have xs : w.heap.size < wr.heap.size := by have := HA.out.size; omega
  by_cases hlt : k < fn
  ·have hkf : k < FS.length := by have := HE.out; omega
   have HFw : Hid (Fus wr fa fc FS) := HF.out.below HA.out.low (Nat.le_refl _)
   obtain ⟨b', o', ka, kc, la, lc, ma, mc, rfl, hlt', c0, c1, c2, c3, c4, j1, j2, j3⟩ := HFw.out.at hkf
   have HN := HP.out.next hkf
   have hmem : FS[k] ∈ FS := List.getElem_mem hkf
   have hff := HFS.out _ hmem
   have hfw := HFW.out _ hmem
   have hua := HUA.out _ hmem
   obtain ⟨f, hf⟩ : ∃ f, f = FS[k] := ⟨_, rfl⟩
   rw [<- hf] at c0 c1 c2 c3 c4 j1 j2 j3 HN hff hfw hua
   obtain ⟨nm, hnm⟩ : ∃ l, l = f.name := ⟨_, rfl⟩
   obtain ⟨l1, hl1⟩ : ∃ l, l = f.params.length := ⟨_, rfl⟩
   obtain ⟨r, hr⟩ : ∃ l, l = f.result := ⟨_, rfl⟩
   obtain ⟨l2, hl2⟩ : ∃ l, l = f.vals.length := ⟨_, rfl⟩
   obtain ⟨l3, hl3⟩ : ∃ l, l = f.blks.length := ⟨_, rfl⟩
   rw [<- hnm] at c0
   rw [<- hl1] at c1
   rw [<- hr] at c2
   rw [<- hl2] at c3
   rw [<- hl3] at c4
   have HX : Hid (RX wr (some ⟨b', o', none⟩) fn fc nm ka l1 kc r la l2 lc ma l3 mc FS f) := ⟨HFw.out, HE.out, hl1, j1, hr, hl2, j2, hl3, j3⟩
   obtain ⟨E, hE⟩ : ∃ E, faultP FS f = E := ⟨_, rfl⟩
   rw [hE] at HN
   have HC2 : Hid (∀ w', Below wr.heap.size wr w' -> Calls Tryz.prog 21 #[.agg #[.slice (some ⟨b', o', none⟩) fn fc, .int .i64 mn], .agg #[.string nm, .slice ka l1 kc, .int .i64 r, .slice la l2 lc, .slice ma l3 mc]] w' fun e w'' => e = .returned (.int .i64 E) /\ Below w'.heap.size w' w'') := fun w' hb => by
    have := rCheckF_any w' (mn := mn) (HX.out.below hb) HFS.out hff (by rw [hl3]; exact hfw.blks) hfw.tot (fun h3 h2 h4 w'' hb' => hua.out w'' ((HX.out.below hb).below hb') h3 h2 h4)
    rw [hE] at this; exact this
   have HN1 : Hid (E = 0 -> FiR FS (k + 1) V) := HN.1
   have HN2 : Hid (¬ E = 0 -> V = E) := HN.2
   have hd : Below wr.heap.size wr wr.drew := (Below.refl _ _).drew
   have S0 : (fun w' : World => w'.cell? ⟨w.heap.size, 0, none⟩ = some (.slice (some ⟨b', o', none⟩) fn fc) /\ w'.cell? ⟨w.heap.size, 1, none⟩ = some (.int .i64 mn) /\ w'.cell? ⟨b', o' + k * 5, none⟩ = some (.string nm) /\ w'.cell? ⟨b', o' + k * 5 + 1, none⟩ = some (.slice ka l1 kc) /\ w'.cell? ⟨b', o' + k * 5 + 2, none⟩ = some (.int .i64 r) /\ w'.cell? ⟨b', o' + k * 5 + 3, none⟩ = some (.slice la l2 lc) /\ w'.cell? ⟨b', o' + k * 5 + 4, none⟩ = some (.slice ma l3 mc)) wr.drew := ⟨x0, x1, c0, c1, c2, c3, c4⟩
   have HS : Hid (∀ w1, Below wr.heap.size wr w1 -> (fun w' : World => w'.cell? ⟨w.heap.size, 0, none⟩ = some (.slice (some ⟨b', o', none⟩) fn fc) /\ w'.cell? ⟨w.heap.size, 1, none⟩ = some (.int .i64 mn) /\ w'.cell? ⟨b', o' + k * 5, none⟩ = some (.string nm) /\ w'.cell? ⟨b', o' + k * 5 + 1, none⟩ = some (.slice ka l1 kc) /\ w'.cell? ⟨b', o' + k * 5 + 2, none⟩ = some (.int .i64 r) /\ w'.cell? ⟨b', o' + k * 5 + 3, none⟩ = some (.slice la l2 lc) /\ w'.cell? ⟨b', o' + k * 5 + 4, none⟩ = some (.slice ma l3 mc)) w1) := fun w1 hb1 => ⟨(hb1.cell (p := ⟨w.heap.size, 0, none⟩) xs).trans x0, (hb1.cell (p := ⟨w.heap.size, 1, none⟩) xs).trans x1, (hb1.cell (p := ⟨b', o' + k * 5, none⟩) hlt').trans c0, (hb1.cell (p := ⟨b', o' + k * 5 + 1, none⟩) hlt').trans c1, (hb1.cell (p := ⟨b', o' + k * 5 + 2, none⟩) hlt').trans c2, (hb1.cell (p := ⟨b', o' + k * 5 + 3, none⟩) hlt').trans c3, (hb1.cell (p := ⟨b', o' + k * 5 + 4, none⟩) hlt').trans c4⟩
   clear hE HN hff hfw hua hnm hl1 hr hl2 hl3 j1 j2 j3 hf HP hmem
   by_cases h0 : E = 0
   ·subst h0
    go_wp2_with fail
    go_region_held (fun w' : World => w'.cell? ⟨w.heap.size, 0, none⟩ = some (.slice (some ⟨b', o', none⟩) fn fc) /\ w'.cell? ⟨w.heap.size, 1, none⟩ = some (.int .i64 mn) /\ w'.cell? ⟨b', o' + k * 5, none⟩ = some (.string nm) /\ w'.cell? ⟨b', o' + k * 5 + 1, none⟩ = some (.slice ka l1 kc) /\ w'.cell? ⟨b', o' + k * 5 + 2, none⟩ = some (.int .i64 r) /\ w'.cell? ⟨b', o' + k * 5 + 3, none⟩ = some (.slice la l2 lc) /\ w'.cell? ⟨b', o' + k * 5 + 4, none⟩ = some (.slice ma l3 mc)) (first | exact S0 | exact S1)
     (first | (go_at_call 21; refine (HC2.out _ hd).mono ?_; rintro e w1 ⟨rfl, hb1⟩; have hb3 := hd.trans (hb1.mono hd.size); have S1 := HS.out w1 hb3))
    go_wp2_with fail
    go_roundw
    case rel => exact ⟨k + 1, by omega, by go_num, HN1.out (by first | trivial | rfl), by first | exact HA.out.next hb3 | exact (HA.out.next hb3).drawn _⟩
    case measure => simp [intOf]; omega
   ·go_wp2_with fail
    go_region_held (fun w' : World => w'.cell? ⟨w.heap.size, 0, none⟩ = some (.slice (some ⟨b', o', none⟩) fn fc) /\ w'.cell? ⟨w.heap.size, 1, none⟩ = some (.int .i64 mn) /\ w'.cell? ⟨b', o' + k * 5, none⟩ = some (.string nm) /\ w'.cell? ⟨b', o' + k * 5 + 1, none⟩ = some (.slice ka l1 kc) /\ w'.cell? ⟨b', o' + k * 5 + 2, none⟩ = some (.int .i64 r) /\ w'.cell? ⟨b', o' + k * 5 + 3, none⟩ = some (.slice la l2 lc) /\ w'.cell? ⟨b', o' + k * 5 + 4, none⟩ = some (.slice ma l3 mc)) (first | exact S0 | exact S1)
     (first | (go_at_call 21; refine (HC2.out _ hd).mono ?_; rintro e w1 ⟨rfl, hb1⟩; have hb3 := hd.trans (hb1.mono hd.size); have S1 := HS.out w1 hb3))
    go_wp2_with fail
    go_ret
    exact ⟨ret_it (HN2.out h0).symm, by first | exact (HA.out.next hb3).low | exact below_drawn (HA.out.next hb3).low _⟩
  ·have HV0 : Hid (V = 0) := HP.out.fin (by have := HE.out; omega)
   obtain rfl : fn = k := by omega
   clear HP
   go_wp2_with fail
   go_ret
   exact ⟨ret_it HV0.out.symm, HA.out.low⟩
structure RW (w w' : World) (g c : Nat) (f : Fu) : Prop where
 ge : w.heap.size <= g
 lt : g < w'.heap.size
 out : ∀ w2, Below w.heap.size w w2 -> w2.heap[g]? = w'.heap[g]? -> IRow w2 (some ⟨g, 0, none⟩) c (waysP f)
theorem RW.next {w w' w'' g c f} (h : RW w w' g c f) (hb : Below w'.heap.size w' w'') : RW w w'' g c f :=
 ⟨h.ge, by have := hb.size; have := h.lt; omega, fun w2 h2 he => h.out w2 h2 (he.trans (hb.block g h.lt))⟩
theorem WyV.row2 {w w' f vs B v} (h : WyV w f f.blks.length vs) (ho : OwnV w' B v vs) (h0 : 0 < f.blks.length) (hB : w.heap.size <= B) : ∃ g c, v = .slice (some ⟨g, 0, none⟩) f.blks.length c /\ B <= g /\ RW w w' g c f := by
 have hl : (waysP f).length = f.blks.length := by simp [waysP]
 have hoo := ho.out
 rw [h.len] at hoo
 obtain ⟨g, c, e, h1, h2, h3, h4⟩ := own_some hoo h0
 subst e
 refine ⟨g, c, rfl, h3, by omega, h4, fun w2 hb he => ⟨by rw [hl]; exact h1, h2, fun _ => ⟨g, 0, rfl, ?_, fun i hi => ?_⟩⟩⟩
 ·by_cases hg : g < w2.heap.size
  ·exact hg
  ·rw [Array.getElem?_eq_none (by omega), Array.getElem?_eq_getElem h4] at he
   cases he
 ·have hi' : i < f.blks.length := by rw [<- hl]; exact hi
  obtain ⟨ma, mc, h5, h6⟩ := h.at' i hi' hi'
  have e7 : (waysP f)[i] = f.blks[i].ways := by simp [waysP]
  rw [e7, Nat.zero_add]
  exact ⟨ma, mc, by rw [cell_same he, own_cell hoo i (by omega)]; exact h5, h6.below hb (Nat.le_refl _)⟩
set_option maxRecDepth 100000 in
set_option maxHeartbeats 4000000 in
theorem rWays2_any (w0 w : World) {s : ByteArray} {pa : Option Addr} {pn pc : Nat} {r : Int} {va : Option Addr} {vn vc : Nat} {ba : Option Addr} {bn bc : Nat} {f : Fu} (eb : bn = f.blks.length) (hbk : Bks w0 ba bc f.blks) (hlow : Below w0.heap.size w0 w) (hn : bn <= 1000000) (hpos : 0 < f.blks.length) :
 Calls Tryz.prog 44 #[.agg #[.string s, .slice pa pn pc, .int .i64 r, .slice va vn vc, .slice ba bn bc]] w fun e w' => ∃ g c, e = .returned (.slice (some ⟨g, 0, none⟩) f.blks.length c) /\ w.heap.size <= g /\ RW w0 w' g c f /\ Below w.heap.size w w' := by
 have A0 : Af1 w (.cells #[.string s, .slice pa pn pc, .int .i64 r, .slice va vn vc, .slice ba bn bc] 38) (w.alloc (.cells #[.string s, .slice pa pn pc, .int .i64 r, .slice va vn vc, .slice ba bn bc] 38)) := ⟨Below.refl _ _⟩
 have HB : Hid (bn = f.blks.length) := eb
 have hbx : bn <= bc /\ bc <= 9223372036854775807 := by have := hbk.le; have := hbk.mx; omega
 have HK : Hid (Bks w0 ba bc f.blks) := hbk
 have HLO : Hid (Below w0.heap.size w0 w) := hlow
 have HPO : Hid (0 < f.blks.length) := hpos
 clear hbk eb hpos hlow
 go_enter Tryz.func44, Tryz.ntmps44
 go_wp2_with fail
 go_loopw [3, 4] (fun lv v wr => ∃ (k : Nat) (vs : List Value), k <= bn /\ v = .int .i64 k /\ Hid (OwnV wr (w.heap.size + 1) lv vs) /\ Hid (WyV w0 f k vs) /\ Hid (Af1 w (.cells #[.string s, .slice pa pn pc, .int .i64 r, .slice va vn vc, .slice ba bn bc] 38) wr)) (fun _ v _ => bn - (intOf v).toNat)
 case atStart => exact ⟨0, [], by omega, rfl, OwnV.nil _ _, WyV.nil _ _, A0⟩
 case round =>
  obtain ⟨k, vs, hk, rfl, HO, HV, HA⟩ := hrel
  have x4 : wr.cell? ⟨w.heap.size, 4, none⟩ = some (.slice ba bn bc) := cell_arr HA.out.one rfl
  have xs : w.heap.size < wr.heap.size := by have := HA.out.size; omega
  by_cases hlt : k < bn
  ·have hkf : k < f.blks.length := by have := HB.out; omega
   obtain ⟨b', o', ka, kc, la, lc, ma, mc, na, nc, rfl, hlt', c0, c1, c2, c3, c4, c5, g1, g2, g3, g4⟩ := HK.out.at hkf
   have c4' : wr.cell? ⟨b', o' + k * 6 + 4, none⟩ = some (.slice ma f.blks[k].ways.length mc) := by rw [(HLO.out.trans (HA.out.low.mono HLO.out.size)).cell (p := ⟨b', o' + k * 6 + 4, none⟩) hlt']; exact c4
   have HV' : Hid (WyV w0 f (k + 1) (vs ++ [.slice ma f.blks[k].ways.length mc])) := HV.out.more hkf g3
   generalize f.blks[k].ways.length = rl at c4' HV'
   have hbr : b' < wr.heap.size := by have := HLO.out.size; omega
   clear c0 c1 c2 c3 c4 c5 g1 g2 g3 g4
   obtain ⟨av, cv, ev, _, _⟩ := own_slice HO.out.out
   subst ev
   have HLK : Hid (vs.length = k) := HV.out.len
   have hlp : vs.length + 1 <= 1759218604441 := by rw [HLK.out]; omega
   have hsB : w.heap.size + 1 <= wr.heap.size := by omega
   obtain ⟨vl, hvl⟩ : ∃ vl, vl = vs.length := ⟨_, rfl⟩
   have HO2 := HO.out
   rw [<- hvl] at HO2
   have HVL : Hid (vl = vs.length) := hvl
   simp only [<- hvl]
   have HO3 : Hid _ := HO2
   have HLP : Hid (vs.length + 1 <= 1759218604441) := hlp
   clear HO HO2 hvl hlp
   go_wp2_with (first
    | (at_builtin; refine wpList_append_slG (w0 := wr) rfl _ _ rfl (w.heap.size + 1) (.slice av vl cv) vs ma rl mc rfl HO3.out rfl HLP.out hsB ?_; intro v6 w6 h6 g6
       obtain ⟨a6, c6, e6, _, _⟩ := own_slice h6.out
       subst e6
       have HO6 : Hid _ := h6
       have HA6 : Hid (Af1 w (.cells #[.string s, .slice pa pn pc, .int .i64 r, .slice va vn vc, .slice (some ⟨b', o', none⟩) bn bc] 38) w6) := ⟨HA.out.b.trans g6.bel⟩
       clear h6 g6)
    | go_in)
   go_roundw
   case rel => exact ⟨k + 1, vs ++ [.slice ma rl mc], by omega, by go_num, by have := HO6.out; rw [List.length_append, List.length_singleton] at this; exact this, HV', HA6⟩
   case measure => simp [intOf]; omega
  ·obtain rfl : k = bn := by omega
   have HV2 : Hid (WyV w0 f f.blks.length vs) := by rw [<- HB.out]; exact HV
   go_wp2_with fail
   go_ret
   obtain ⟨g, c, e, hgB, hI⟩ := HV2.out.row2 HO.out HPO.out (by have := HLO.out.size; omega)
   subst e
   exact ⟨g, c, rfl, by omega, hI, HA.out.low⟩
end Go.Proofs.YtdbkjjelaipcfaaGreatDoor
