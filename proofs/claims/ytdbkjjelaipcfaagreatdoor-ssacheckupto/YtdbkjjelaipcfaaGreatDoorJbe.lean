import Derived.Deep.RegionHeld3
import Derived.Test.YtdbkjjelaipcfaaGreatDoorJbd
set_option linter.unusedVariables false
set_option linter.unusedSimpArgs false
namespace Go.Proofs.YtdbkjjelaipcfaaGreatDoor
open Go.ChangeShapes Go.WideShapes Go.ChangeAt Go.RowKit Go.Maps
theorem led_firstF {P : Program} {ops : Array Oper} {Q : Exit -> Act -> World -> Prop} {S : World -> Prop} {z i : Nat} {oi : Oper} {v : Value} (hi : ops[i]? = some oi) (hsel : ∀ (j : Nat) (o : Oper) cs b, ops[j]? = some o -> o.op ≠ .select cs b) (hQ : ∀ c a w, Q (.panic c) (a.put oi.dst v) w -> Q (.panic c) a w) (hz : ops.size <= z) :
 ∀ (k : Nat) (l : Array Bool) (a : Act) (w : World), (∀ j oj, ops[j]? = some oj -> j ≠ i -> l.getD j true = false -> (∀ e ∈ oj.after, Region.binds .any e = true -> e.on ≠ i) -> oi.apart ops oj = true) -> i ∈ Region.ready .any ops l -> YieldsIf P ops S oi v a -> S w -> led P ops Q S z k (l.setIfInBounds i true) (a.put oi.dst v) w -> led P ops Q S z (k + 1) l a w := by
 intro k
 induction k with
 | zero =>
   intro l a w _ hr hy hS H
   refine ⟨fun h => absurd hr (by rw [h]; simp), fun j hj => ?_⟩
   by_cases e : j = i
   ·subst e
    exact hy.wpOp hi hS ⟨fun _ => hS, H⟩
   ·have h1 := ready_mono hj e
    rw [H.1] at h1
    simp at h1
 | succ k ih =>
   intro l a w hfree hr hy hS H
   refine ⟨fun h => absurd hr (by rw [h]; simp), fun j hj => ?_⟩
   by_cases e : j = i
   ·subst e
    exact hy.wpOp hi hS ⟨fun _ => hS, H⟩
   ·obtain ⟨hun, oj, hoj, hall⟩ := mem_ready.1 hj
    have hjz : j ≠ z := fun e2 => by have := (gl hoj); omega
    have hno : ∀ e ∈ oj.after, Region.binds .any e = true -> e.on ≠ i := fun x hx hb heq => by
     have h1 := hall x hx hb
     have h0 := (mem_ready.1 hr).1
     rw [heq] at h1
     rcases Nat.lt_or_ge i l.size with h' | h'
     ·simp [h'] at h0 h1; rw [h0] at h1; cases h1
     ·simp [Array.getElem?_eq_none h'] at h1
    have h2 := wpOp_putIf hoj (hfree j oj hoj e hun hno) (fun cs b => hsel i oi cs b hi) (fun cs b => hsel j oj cs b hoj) hQ hy (H.2 j (ready_mono hj e))
    refine wpOp_mono (fun a' w' h3 => ⟨fun _ => h3.2.1 hjz, ih (l.setIfInBounds j true) a' w' ?_ (ready_mono hr (Ne.symm e)) h3.1 (h3.2.1 hjz) ?_⟩) h2
    ·intro m om hm hmi hmun hmno
     refine hfree m om hm hmi ?_ hmno
     by_cases ejm : j = m
     ·subst ejm; exact hun
     ·rw [getD_set_ne true ejm] at hmun; exact hmun
    ·rw [Array.setIfInBounds_comm _ _ e]
     exact h3.2.2
theorem led_takeF {P : Program} {ops : Array Oper} {Q : Exit -> Act -> World -> Prop} {S : World -> Prop} {z i : Nat} {oi : Oper} {v : Value} {k : Nat} {l : Array Bool} {a : Act} {w : World} (hi : ops[i]? = some oi) (hs : Region.noSelect ops = true) (hf : Region.free .any ops l i = true) (hr : (Region.ready .any ops l).contains i = true) (hz : decide (ops.size <= z) = true)
 (hQ : ∀ c a w, Q (.panic c) (a.put oi.dst v) w -> Q (.panic c) a w) (hy : YieldsIf P ops S oi v a) (hS : S w) (h : led P ops Q S z k (l.setIfInBounds i true) (a.put oi.dst v) w) : led P ops Q S z (k + 1) l a w :=
 led_firstF hi (Region.noSelect_spec hs) hQ (of_decide_eq_true hz) k l a w (Region.free_spec hi hf) (by simpa using hr) hy hS h
theorem led_tF {P : Program} {ops : Array Oper} {Q : Exit -> Act -> World -> Prop} {S : World -> Prop} {z i : Nat} {oi : Oper} {v : Value} {k : Nat} {l : Array Bool} {a : Act} {w : World} (hi : ops[i]? = some oi) (hb : (Region.noSelect ops && (Region.free .any ops l i && ((Region.ready .any ops l).contains i && decide (ops.size <= z)))) = true) (hy : YieldsIf P ops S oi v a) (hS : S w) (h : led P ops Q S z k (l.setIfInBounds i true) (a.put oi.dst v) w) (hQ : ∀ c a w, Q (.panic c) (a.put oi.dst v) w -> Q (.panic c) a w := by exact fun _ _ _ h => h) : led P ops Q S z (k + 1) l a w := by
 obtain ⟨h1, hb⟩ := Bool.and_eq_true_iff.1 hb
 obtain ⟨h2, hb⟩ := Bool.and_eq_true_iff.1 hb
 obtain ⟨h3, h4⟩ := Bool.and_eq_true_iff.1 hb
 exact led_takeF hi h1 h2 h3 h4 hQ hy hS h
theorem led_nF {P : Program} {ops : Array Oper} {Q : Exit -> Act -> World -> Prop} {S : World -> Prop} {z : Nat} {oi : Oper} {v : Value} {k : Nat} {l : Array Bool} {a a' : Act} {w : World} (i : Nat) (hS : S w) (h : led P ops Q S z k (l.setIfInBounds i true) a' w) (hi : ops[i]? = some oi := by exact rfl) (hb : (Region.noSelect ops && (Region.free .any ops l i && ((Region.ready .any ops l).contains i && decide (ops.size <= z)))) = true := by kernel_rfl) (hy : YieldsIf P ops S oi v a := by exact .inl ⟨by rfl, by intro w' h; (repeat obtain ⟨_, h⟩ : _ /\ _ := h); go_simp; all_goals with_reducible rfl⟩) (ha : a.put oi.dst v = a' := by (try simp only [Act.put, zi, zz, zs]); exact rfl) (hQ : ∀ c a w, Q (.panic c) (a.put oi.dst v) w -> Q (.panic c) a w := by exact fun _ _ _ h => h) : led P ops Q S z (k + 1) l a w := by
 subst ha
 exact led_tF hi hb hy hS h hQ
def nmB (FS : List Fu) (i : Nat) (f : Fu) : Bool := nmOk (nml f.name) && (formP FS f && (FS.take i).all (fun g => !decide (g.name = f.name)))
def rfoP (FS : List Fu) (m : Int) : Bool := evr (nmB FS) 0 FS && mainP FS m
theorem rfoP_eq (FS : List Fu) (m : Int) : rfoP FS m = formedP FS m := by
 rw [Bool.eq_iff_iff]
 unfold rfoP formedP namesP
 simp only [Bool.and_eq_true, evr_iff, Nat.zero_add, nmB, List.all_eq_true, decide_eq_true_eq, Bool.not_eq_true', decide_eq_false_iff_not]
 constructor
 ·rintro ⟨h, hm⟩
  refine ⟨⟨fun f hf => ?_, ?_⟩, hm, fun f hf => ?_⟩
  ·obtain ⟨i, hi, rfl⟩ := List.mem_iff_getElem.1 hf
   exact (h i hi).1
  ·rw [List.nodup_iff_pairwise_ne, List.pairwise_iff_getElem]
   intro i j hi hj hij
   simp only [List.length_map] at hi hj
   simp only [List.getElem_map]
   intro e
   refine (h j hj).2.2 FS[i] ?_ (nml_inj e)
   rw [List.mem_take_iff_getElem]
   exact ⟨i, by omega, rfl⟩
  ·obtain ⟨i, hi, rfl⟩ := List.mem_iff_getElem.1 hf
   exact (h i hi).2.1
 ·rintro ⟨⟨h1, h2⟩, hm, h3⟩
  refine ⟨fun i hi => ⟨h1 _ (List.getElem_mem hi), h3 _ (List.getElem_mem hi), fun g hg e => ?_⟩, hm⟩
  rw [List.mem_take_iff_getElem] at hg
  obtain ⟨j, hj, rfl⟩ := hg
  rw [List.nodup_iff_pairwise_ne, List.pairwise_iff_getElem] at h2
  exact h2 j i (by simp; omega) (by simpa using hi) (by omega) (by simp [e])
set_option maxRecDepth 100000 in
set_option maxHeartbeats 8000000 in
theorem rFormed_any (w : World) {fa : Option Addr} {fn fc : Nat} {mn : Int} {FS : List Fu} (hF : Fus w fa fc FS) (ef : fn = FS.length) (hnl : ∀ f ∈ FS, (nml f.name).length <= 1000000000000000) :
 Calls Tryz.prog 20 #[.agg #[.slice fa fn fc, .int .i64 mn]] w fun e w' => e = .returned (.bool (rfoP FS mn)) /\ Below w.heap.size w w' := by
 unfold rfoP
 obtain ⟨RA, hRA⟩ : ∃ R, evr (nmB FS) 0 FS = R := ⟨_, rfl⟩
 rw [hRA]
 have HA0 : Hid (EvR (nmB FS) FS 0 RA) := ⟨by simpa using hRA⟩
 have HF : Hid (Fus w fa fc FS) := hF
 have HE : Hid (fn = FS.length) := ef
 have HNL : Hid (∀ f ∈ FS, (nml f.name).length <= 1000000000000000) := hnl
 have hfx : fn <= 9223372036854775807 := by have := hF.le; have := hF.mx; omega
 have A0 : Af1 w (.cells #[.slice fa fn fc, .int .i64 mn] 24) (w.alloc (.cells #[.slice fa fn fc, .int .i64 mn] 24)) := Af1.refl _ _
 obtain ⟨RM, hRM⟩ : ∃ R, mainP FS mn = R := ⟨_, rfl⟩
 rw [hRM]
 have HRM : Hid (mainP FS mn = RM) := hRM
 clear hRA hF ef hnl hRM
 go_enter Tryz.func20, Tryz.ntmps20
 go_wp2_with fail
 go_loopw [3] (fun v wr => ∃ k : Nat, k <= fn /\ v = .int .i64 k /\ Hid (EvR (nmB FS) FS k RA) /\ Hid (Af1 w (.cells #[.slice fa fn fc, .int .i64 mn] 24) wr)) (fun v _ => fn - (intOf v).toNat)
 case atStart => exact ⟨0, by omega, rfl, HA0, A0⟩
 case round =>
  clear HA0 A0
  obtain ⟨k, hk, rfl, HP, HA⟩ := hrel
  have x0 : wr.cell? ⟨w.heap.size, 0, none⟩ = some (.slice fa fn fc) := cell_arr HA.out.one rfl
  have x1 : wr.cell? ⟨w.heap.size, 1, none⟩ = some (.int .i64 mn) := cell_arr HA.out.one rfl
  have xs : w.heap.size < wr.heap.size := by have := HA.out.size; omega
  by_cases hlt : k < fn
  ·have hkf : k < FS.length := by have := HE.out; omega
   have HFw : Hid (Fus wr fa fc FS) := HF.out.below HA.out.low (Nat.le_refl _)
   obtain ⟨b', o', ka, kc, la, lc, ma, mc, rfl, hlt', c0, c1, c2, c3, c4, j1, j2, j3⟩ := HFw.out.at hkf
   have HN := HP.out.next hkf
   have hln := HNL.out _ (List.getElem_mem hkf)
   obtain ⟨f, hf⟩ : ∃ f, f = FS[k] := ⟨_, rfl⟩
   rw [<- hf] at c0 c1 c2 c3 c4 j1 j2 j3 HN hln
   obtain ⟨nm, hnm⟩ : ∃ l, l = f.name := ⟨_, rfl⟩
   obtain ⟨l1, hl1⟩ : ∃ l, l = f.params.length := ⟨_, rfl⟩
   obtain ⟨r, hr⟩ : ∃ l, l = f.result := ⟨_, rfl⟩
   obtain ⟨l2, hl2⟩ : ∃ l, l = f.vals.length := ⟨_, rfl⟩
   obtain ⟨l3, hl3⟩ : ∃ l, l = f.blks.length := ⟨_, rfl⟩
   rw [<- hnm] at c0 hln
   rw [<- hl1] at c1
   rw [<- hr] at c2
   rw [<- hl2] at c3
   rw [<- hl3] at c4
   have HX : Hid (RX wr (some ⟨b', o', none⟩) fn fc nm ka l1 kc r la l2 lc ma l3 mc FS f) := ⟨HFw.out, HE.out, hl1, j1, hr, hl2, j2, hl3, j3⟩
   obtain ⟨E1, hE1⟩ : ∃ E, nmOk (nml nm) = E := ⟨_, rfl⟩
   obtain ⟨E2, hE2⟩ : ∃ E, formP FS f = E := ⟨_, rfl⟩
   obtain ⟨E3, hE3⟩ : ∃ E, evr (fun _ g => !decide (Fu.name g = nm)) 0 (FS.take k) = E := ⟨_, rfl⟩
   have hnb : nmB FS k f = (E1 && (E2 && E3)) := by
    unfold nmB
    rw [<- hE3, evr_plain (fun g => !decide (Fu.name g = nm)), <- hE1, <- hE2, hnm]
   rw [hnb] at HN
   have HC1 : Hid (∀ w', Calls Tryz.prog 40 #[.string nm] w' fun e w'' => e = .returned (.bool E1) /\ Below w'.heap.size w' w'') := fun w' => rName_any w' (nml nm) nm (bs_nml nm).symm hln E1 hE1
   have HC2 : Hid (∀ w', Below wr.heap.size wr w' -> Calls Tryz.prog 41 #[.agg #[.slice (some ⟨b', o', none⟩) fn fc, .int .i64 mn], .agg #[.string nm, .slice ka l1 kc, .int .i64 r, .slice la l2 lc, .slice ma l3 mc]] w' fun e w'' => e = .returned (.bool E2) /\ Below w'.heap.size w' w'') := fun w' hb => by
    have := rFunc_any w' (mn := mn) (HX.out.below hb)
    rw [hE2] at this; exact this
   have HN1 : Hid (E1 = true -> E2 = true -> E3 = true -> EvR (nmB FS) FS (k + 1) RA) := fun h1 h2 h3 => HN.1 (by rw [h1, h2, h3]; rfl)
   have HN2 : Hid ((E1 && (E2 && E3)) = false -> RA = false) := HN.2
   have HE3 : Hid (EvR (fun _ g => !decide (Fu.name g = nm)) (FS.take k) 0 E3) := ⟨by simpa using hE3⟩
   have hd : Below wr.heap.size wr wr.drew := (Below.refl _ _).drew
   have S0 : (fun w' : World => w'.cell? ⟨w.heap.size, 0, none⟩ = some (.slice (some ⟨b', o', none⟩) fn fc) /\ w'.cell? ⟨w.heap.size, 1, none⟩ = some (.int .i64 mn) /\ w'.cell? ⟨b', o' + k * 5, none⟩ = some (.string nm) /\ w'.cell? ⟨b', o' + k * 5 + 1, none⟩ = some (.slice ka l1 kc) /\ w'.cell? ⟨b', o' + k * 5 + 2, none⟩ = some (.int .i64 r) /\ w'.cell? ⟨b', o' + k * 5 + 3, none⟩ = some (.slice la l2 lc) /\ w'.cell? ⟨b', o' + k * 5 + 4, none⟩ = some (.slice ma l3 mc)) wr.drew := ⟨x0, x1, c0, c1, c2, c3, c4⟩
   have HS : Hid (∀ w1, Below wr.heap.size wr w1 -> (fun w' : World => w'.cell? ⟨w.heap.size, 0, none⟩ = some (.slice (some ⟨b', o', none⟩) fn fc) /\ w'.cell? ⟨w.heap.size, 1, none⟩ = some (.int .i64 mn) /\ w'.cell? ⟨b', o' + k * 5, none⟩ = some (.string nm) /\ w'.cell? ⟨b', o' + k * 5 + 1, none⟩ = some (.slice ka l1 kc) /\ w'.cell? ⟨b', o' + k * 5 + 2, none⟩ = some (.int .i64 r) /\ w'.cell? ⟨b', o' + k * 5 + 3, none⟩ = some (.slice la l2 lc) /\ w'.cell? ⟨b', o' + k * 5 + 4, none⟩ = some (.slice ma l3 mc)) w1) := fun w1 hb1 => ⟨(hb1.cell (p := ⟨w.heap.size, 0, none⟩) xs).trans x0, (hb1.cell (p := ⟨w.heap.size, 1, none⟩) xs).trans x1, (hb1.cell (p := ⟨b', o' + k * 5, none⟩) hlt').trans c0, (hb1.cell (p := ⟨b', o' + k * 5 + 1, none⟩) hlt').trans c1, (hb1.cell (p := ⟨b', o' + k * 5 + 2, none⟩) hlt').trans c2, (hb1.cell (p := ⟨b', o' + k * 5 + 3, none⟩) hlt').trans c3, (hb1.cell (p := ⟨b', o' + k * 5 + 4, none⟩) hlt').trans c4⟩
   have HNM : Hid (nm = FS[k].name) := by show _ = _; rw [hnm, hf]
   clear hE1 hE2 hE3 hnb HN hln hnm hl1 hr hl2 hl3 j1 j2 j3 hf HP
   cases E1
   ·go_wp2_with fail
    refine led_start (S := fun w' : World => w'.cell? ⟨w.heap.size, 0, none⟩ = some (.slice (some ⟨b', o', none⟩) fn fc) /\ w'.cell? ⟨w.heap.size, 1, none⟩ = some (.int .i64 mn) /\ w'.cell? ⟨b', o' + k * 5, none⟩ = some (.string nm) /\ w'.cell? ⟨b', o' + k * 5 + 1, none⟩ = some (.slice ka l1 kc) /\ w'.cell? ⟨b', o' + k * 5 + 2, none⟩ = some (.int .i64 r) /\ w'.cell? ⟨b', o' + k * 5 + 3, none⟩ = some (.slice la l2 lc) /\ w'.cell? ⟨b', o' + k * 5 + 4, none⟩ = some (.slice ma l3 mc)) (z := 100) (by kernel_rfl) ?_
    refine led_nF 0 S0 ?_
    refine led_nF 1 S0 ?_
    refine led_nF 2 S0 ?_
    refine led_nF 3 S0 ?_
    refine led_nF 4 S0 ?_
    refine led_nF 5 S0 ?_
    refine led_one (i := 6) rfl (by kernel_rfl) ?_
    intro K6 hK6
    rw [if_pos (by rfl)]
    go_simp
    refine (HC1.out _).mono ?_
    rintro e w1 ⟨rfl, hb1⟩
    have hb3 := hd.trans (hb1.mono hd.size)
    have S1 := HS.out w1 hb3
    refine hK6 _ _ (fun _ => S1) ?_
    clear hK6 S0
    try simp only [Act.put, zi, zz, zs]
    refine led_nF 7 S1 ?_
    refine led_nF 8 S1 ?_
    refine led_tF (i := 9) (v := undef) rfl (by kernel_rfl) (.inr ⟨by kernel_rfl, rfl⟩) S1 ?_
    try simp only [Act.put, List.getElem_toArray, List.getElem_cons_succ, List.getElem_cons_zero, List.setIfInBounds_toArray, List.set_cons_zero, List.set_cons_succ]
    refine led_tF (i := 10) (v := undef) rfl (by kernel_rfl) (.inr ⟨by kernel_rfl, rfl⟩) S1 ?_
    try simp only [Act.put, List.getElem_toArray, List.getElem_cons_succ, List.getElem_cons_zero, List.setIfInBounds_toArray, List.set_cons_zero, List.set_cons_succ]
    refine led_tF (i := 11) (v := undef) rfl (by kernel_rfl) (.inr ⟨by kernel_rfl, rfl⟩) S1 ?_
    try simp only [Act.put, List.getElem_toArray, List.getElem_cons_succ, List.getElem_cons_zero, List.setIfInBounds_toArray, List.set_cons_zero, List.set_cons_succ]
    refine led_tF (i := 12) (v := undef) rfl (by kernel_rfl) (.inr ⟨by kernel_rfl, rfl⟩) S1 ?_
    try simp only [Act.put, List.getElem_toArray, List.getElem_cons_succ, List.getElem_cons_zero, List.setIfInBounds_toArray, List.set_cons_zero, List.set_cons_succ]
    refine led_tF (i := 13) (v := undef) rfl (by kernel_rfl) (.inr ⟨by kernel_rfl, rfl⟩) S1 ?_
    try simp only [Act.put, List.getElem_toArray, List.getElem_cons_succ, List.getElem_cons_zero, List.setIfInBounds_toArray, List.set_cons_zero, List.set_cons_succ]
    refine led_tF (i := 14) (v := undef) rfl (by kernel_rfl) (.inr ⟨by kernel_rfl, rfl⟩) S1 ?_
    try simp only [Act.put, List.getElem_toArray, List.getElem_cons_succ, List.getElem_cons_zero, List.setIfInBounds_toArray, List.set_cons_zero, List.set_cons_succ]
    refine led_tF (i := 15) (v := undef) rfl (by kernel_rfl) (.inr ⟨by kernel_rfl, rfl⟩) S1 ?_
    try simp only [Act.put, List.getElem_toArray, List.getElem_cons_succ, List.getElem_cons_zero, List.setIfInBounds_toArray, List.set_cons_zero, List.set_cons_succ]
    refine led_tF (i := 16) (v := undef) rfl (by kernel_rfl) (.inr ⟨by kernel_rfl, rfl⟩) S1 ?_
    try simp only [Act.put, List.getElem_toArray, List.getElem_cons_succ, List.getElem_cons_zero, List.setIfInBounds_toArray, List.set_cons_zero, List.set_cons_succ]
    refine led_nF 17 S1 ?_
    refine led_done (by kernel_rfl) ?_
    go_wp2_with fail
    go_ret
    exact ⟨ret_bl (by rw [HN2.out rfl]; rfl), by first | exact (HA.out.next hb3).low | exact below_drawn (HA.out.next hb3).low _⟩
   cases E2
   ·go_wp2_with fail
    go_region_held3 (fun w' : World => w'.cell? ⟨w.heap.size, 0, none⟩ = some (.slice (some ⟨b', o', none⟩) fn fc) /\ w'.cell? ⟨w.heap.size, 1, none⟩ = some (.int .i64 mn) /\ w'.cell? ⟨b', o' + k * 5, none⟩ = some (.string nm) /\ w'.cell? ⟨b', o' + k * 5 + 1, none⟩ = some (.slice ka l1 kc) /\ w'.cell? ⟨b', o' + k * 5 + 2, none⟩ = some (.int .i64 r) /\ w'.cell? ⟨b', o' + k * 5 + 3, none⟩ = some (.slice la l2 lc) /\ w'.cell? ⟨b', o' + k * 5 + 4, none⟩ = some (.slice ma l3 mc)) (first | exact S0 | exact S1 | exact S2)
     (first
      | (go_at_call 41; refine (HC2.out _ hb3).mono ?_; rintro e w2 ⟨rfl, hb2⟩; have hb4 := hb3.trans (hb2.mono hb3.size); have S2 := HS.out w2 hb4)
      | (go_at_call 40; refine (HC1.out _).mono ?_; rintro e w1 ⟨rfl, hb1⟩; have hb3 := hd.trans (hb1.mono hd.size); have S1 := HS.out w1 hb3))
    go_wp2_with fail
    go_ret
    exact ⟨ret_bl (by rw [HN2.out rfl]; rfl), by first | exact (HA.out.next hb4).low | exact below_drawn (HA.out.next hb4).low _⟩
   go_wp2_with fail
   go_region_held3 (fun w' : World => w'.cell? ⟨w.heap.size, 0, none⟩ = some (.slice (some ⟨b', o', none⟩) fn fc) /\ w'.cell? ⟨w.heap.size, 1, none⟩ = some (.int .i64 mn) /\ w'.cell? ⟨b', o' + k * 5, none⟩ = some (.string nm) /\ w'.cell? ⟨b', o' + k * 5 + 1, none⟩ = some (.slice ka l1 kc) /\ w'.cell? ⟨b', o' + k * 5 + 2, none⟩ = some (.int .i64 r) /\ w'.cell? ⟨b', o' + k * 5 + 3, none⟩ = some (.slice la l2 lc) /\ w'.cell? ⟨b', o' + k * 5 + 4, none⟩ = some (.slice ma l3 mc)) (first | exact S0 | exact S1 | exact S2)
    (first
     | (go_at_call 41; refine (HC2.out _ hb3).mono ?_; rintro e w2 ⟨rfl, hb2⟩; have hb4 := hb3.trans (hb2.mono hb3.size); have S2 := HS.out w2 hb4)
     | (go_at_call 40; refine (HC1.out _).mono ?_; rintro e w1 ⟨rfl, hb1⟩; have hb3 := hd.trans (hb1.mono hd.size); have S1 := HS.out w1 hb3))
   have HA2 : Hid (Af1 w _ w2) := HA.out.next hb4
   have HF2 : Hid (Fus w2 (some ⟨b', o', none⟩) fc FS) := HFw.out.below hb4 (Nat.le_refl _)
   have HXS : Hid (w.heap.size < w2.heap.size) := by have := hb4.size; show _ < _; omega
   have hkx : k <= 9223372036854775807 := by omega
   clear S0 S1 S2 HS HC1 HC2 hd hb1 hb2 hb3 hb4 HX HFw c0 c1 c2 c3 c4 x0 x1 xs hlt'
   go_wp2_with fail
   go_loopw [4] (fun v wr => ∃ j : Nat, j <= k /\ v = .int .i64 j /\ Hid (EvR (fun _ g => !decide (Fu.name g = nm)) (FS.take k) j E3) /\ Hid (Below w2.heap.size w2 wr)) (fun v _ => k - (intOf v).toNat)
   case atStart => exact ⟨0, by omega, rfl, HE3, by first | exact Below.refl _ _ | exact below_drawn (Below.refl _ _) _⟩
   case round =>
    obtain ⟨j, hj, rfl, HPj, HB⟩ := hrel
    have x0 : wr.cell? ⟨w.heap.size, 0, none⟩ = some (.slice (some ⟨b', o', none⟩) fn fc) := (HB.out.cell (p := ⟨w.heap.size, 0, none⟩) HXS.out).trans (cell_arr HA2.out.one rfl)
    have xs : w.heap.size < wr.heap.size := by have := HB.out.size; have := HXS.out; omega
    by_cases hjl : j < k
    ·have hjf : j < FS.length := by have := HE.out; omega
     obtain ⟨_, _, _, _, _, _, _, _, e1, hq1, n1, _⟩ := (HF2.out.below HB.out (Nat.le_refl _)).at hjf
     obtain ⟨rfl, rfl⟩ : b' = _ /\ o' = _ := by simpa using e1
     obtain ⟨_, _, _, _, _, _, _, _, e2, hq2, n2, _⟩ := (HF2.out.below HB.out (Nat.le_refl _)).at hkf
     obtain ⟨rfl, rfl⟩ : b' = _ /\ o' = _ := by simpa using e2
     rw [<- HNM.out] at n2
     have HN := HPj.out.next (by rw [List.length_take]; omega)
     rw [List.getElem_take] at HN
     have hjn : j < fn := by omega
     generalize FS[j].name = nj at n1 HN
     have HQ1 : Hid (¬ nj = nm -> EvR (fun _ g => !decide (Fu.name g = nm)) (FS.take k) (j + 1) E3) := fun h => HN.1 (by simpa using h)
     have HQ2 : Hid (nj = nm -> E3 = false) := fun h => HN.2 (by simpa using h)
     clear HN e1 e2
     by_cases hnn : nj = nm
     ·subst hnn
      go_wp2_with fail
      go_quiet (fail)
      go_wp2_with fail
      go_ret
      exact ⟨ret_bl (by rw [HN2.out (by rw [HQ2.out (by first | trivial | rfl)]; rfl)]; rfl), by first | exact (HA2.out.next HB.out).low | exact below_drawn (HA2.out.next HB.out).low _⟩
     ·have hnq : (nj.toList == nm.toList) = false := by
       have h1 : nj.toList = nml nj := by rw [<- bs_nml nj, bs_toList, bs_nml]
       have h2 : nm.toList = nml nm := by rw [<- bs_nml nm, bs_toList, bs_nml]
       rw [h1, h2]
       simp only [beq_eq_false_iff_ne, ne_eq]
       exact fun h => hnn (nml_inj h)
      go_wp2_with fail
      go_quiet (fail)
      go_wp2_with fail
      go_roundw
      case rel => exact ⟨j + 1, by omega, by go_num, HQ1.out hnn, by first | exact HB.out | exact below_drawn HB.out _⟩
      case measure => simp [intOf]; omega
    ·obtain rfl : E3 = true := HPj.out.fin (by rw [List.length_take]; omega)
     obtain rfl : k = j := by omega
     clear HPj
     go_wp2_with fail
     go_roundw
     case rel => exact ⟨k + 1, by omega, by go_num, HN1.out (by first | trivial | rfl) (by first | trivial | rfl) (by first | trivial | rfl), HA2.out.next HB.out⟩
     case measure => simp [intOf]; omega
  ·obtain rfl : RA = true := HP.out.fin (by have := HE.out; omega)
   obtain rfl : fn = k := by omega
   clear HP hlt hk
   by_cases h1 : mn < 0
   ·have e : RM = false := by rw [<- HRM.out]; unfold mainP wi; rw [decide_eq_false (by omega), Bool.false_and]
    have q1 : decide (0 <= mn) = false := by simp; omega
    go_wp2_with fail
    go_ret
    exact ⟨ret_bl (by first | rfl | (rw [e]; rfl) | simp [e]), HA.out.low⟩
   have q1 : decide (0 <= mn) = true := by simp; omega
   by_cases h2 : mn < fn
   ·obtain ⟨m, rfl⟩ : ∃ m : Nat, mn = m := ⟨mn.toNat, by omega⟩
    have hmf : m < FS.length := by have := HE.out; omega
    have hmn : m < fn := by omega
    obtain ⟨b', o', ka, kc, la, lc, ma, mc, rfl, hlt', _, c1, c2, _⟩ := (HF.out.below HA.out.low (Nat.le_refl _)).at hmf
    have e : RM = (decide (FS[m].params.length = 0) && decide (FS[m].result = 0)) := by
     rw [<- HRM.out]
     unfold mainP
     rw [show wi FS.length (m : Int) = true by simp [wi]; omega, Bool.true_and, Int.toNat_natCast, show FS.getD m noF = FS[m] by simp [List.getD_eq_getElem?_getD, hmf]]
    generalize FS[m].params.length = pl at c1 e
    generalize FS[m].result = rr at c2 e
    have q2 : decide ((m : Int) < fn) = true := by simp; omega
    have HEE : Hid (RM = (decide (pl = 0) && decide (rr = 0))) := e
    clear e h1
    by_cases h3 : pl = 0
    ·subst h3
     by_cases h4 : rr = 0
     ·subst h4
      go_wp2_with fail
      go_ret
      exact ⟨ret_bl (by rw [HEE.out]; rfl), HA.out.low⟩
     ·go_wp2_with fail
      go_ret
      exact ⟨ret_bl (by rw [HEE.out]; simp [h4]), HA.out.low⟩
    ·go_wp2_with fail
     go_ret
     exact ⟨ret_bl (by rw [HEE.out]; simp [h3]), HA.out.low⟩
   ·have e : RM = false := by rw [<- HRM.out]; unfold mainP wi; rw [decide_eq_false (by have := HE.out; omega), Bool.false_and]
    have q2 : decide (mn < (fn : Int)) = false := by simp; omega
    go_wp2_with fail
    go_ret
    exact ⟨ret_bl (by first | rfl | (rw [e]; rfl) | simp [e]), HA.out.low⟩
end Go.Proofs.YtdbkjjelaipcfaaGreatDoor
