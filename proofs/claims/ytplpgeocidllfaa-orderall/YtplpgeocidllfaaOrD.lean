import Derived.Test.YtplpgeocidllfaaOrC
set_option linter.unusedVariables false
set_option linter.unusedSimpArgs false
namespace Go.Proofs.Ytplpgeocidllfaa
open Go.ChangeShapes Go.WideShapes Go.ChangeAt Go.RowKit Go.Maps

/-- In whatever order a region goes on: the condition holds until number z is done. -/
def lec (P : Program) (ops : Array Oper) (Q : Exit → Act → World → Prop) (S : World → Prop) (z : Nat) : Nat → Array Bool → Act → World → Prop
  | 0, l, a, w => Region.ready .any ops l = [] ∧ Q .normal a w
  | k + 1, l, a, w => (Region.ready .any ops l = [] → Q .normal a w) ∧ ∀ i ∈ Region.ready .any ops l, wpOp P ops Q i (fun a' w' => ((l.setIfInBounds i true).getD z true = false → S w') ∧ lec P ops Q S z k (l.setIfInBounds i true) a' w') a w
theorem lec_any {P : Program} {ops : Array Oper} {Q : Exit → Act → World → Prop} {S : World → Prop} {z : Nat} : ∀ (k : Nat) (l : Array Bool) (a : Act) (w : World), lec P ops Q S z k l a w → wpAny P .any ops Q k l a w
  | 0, _, _, _, h => h
  | k + 1, _, _, _, h => ⟨h.1, fun i hi => wpOp_mono (fun a' w' h' => lec_any k _ a' w' h'.2) (h.2 i hi)⟩
theorem getD_set_le {l : Array Bool} {i z : Nat} (h : (l.setIfInBounds i true).getD z true = false) : l.getD z true = false := by
  by_cases e : i = z
  · subst e
    rcases Nat.lt_or_ge i l.size with h' | h'
    · simp [Array.getD, h'] at h
    · simp [Array.getD, h'] at h
  · rw [getD_set_ne true e] at h; exact h
/-- An operation that reads registers alone is taken first. -/
theorem lec_firstP {P : Program} {ops : Array Oper} {Q : Exit → Act → World → Prop} {S : World → Prop} {z i : Nat} {oi : Oper} {v : Value} (hi : ops[i]? = some oi) (hsel : ∀ (j : Nat) (o : Oper) cs b, ops[j]? = some o → o.op ≠ .select cs b) (hQ : ∀ c a w, Q (.panic c) (a.put oi.dst v) w → Q (.panic c) a w) (hzi : i ≠ z) :
    ∀ (k : Nat) (l : Array Bool) (a : Act) (w : World), (∀ j oj, ops[j]? = some oj → j ≠ i → l.getD j true = false → (∀ e ∈ oj.after, Region.binds .any e = true → e.on ≠ i) → oi.apart ops oj = true) → i ∈ Region.ready .any ops l → YieldsIf P ops (fun _ => True) oi v a → (l.getD z true = false → S w) → lec P ops Q S z k (l.setIfInBounds i true) (a.put oi.dst v) w → lec P ops Q S z (k + 1) l a w := by
  intro k
  induction k with
  | zero =>
    intro l a w _ hr hy hS H
    refine ⟨fun h => absurd hr (by rw [h]; simp), fun j hj => ?_⟩
    by_cases e : j = i
    · subst e
      exact hy.wpOp hi trivial ⟨fun h => hS (getD_set_le h), H⟩
    · have h1 := ready_mono hj e
      rw [H.1] at h1
      simp at h1
  | succ k ih =>
    intro l a w hfree hr hy hS H
    refine ⟨fun h => absurd hr (by rw [h]; simp), fun j hj => ?_⟩
    by_cases e : j = i
    · subst e
      exact hy.wpOp hi trivial ⟨fun h => hS (getD_set_le h), H⟩
    · obtain ⟨hun, oj, hoj, hall⟩ := mem_ready.1 hj
      have hno : ∀ e ∈ oj.after, Region.binds .any e = true → e.on ≠ i := fun x hx hb heq => by
        have h1 := hall x hx hb
        have h0 := (mem_ready.1 hr).1
        rw [heq] at h1
        rcases Nat.lt_or_ge i l.size with h' | h'
        · simp [h'] at h0 h1; rw [h0] at h1; cases h1
        · simp [Array.getElem?_eq_none h'] at h1
      have h2 := wpOp_putIf hoj (hfree j oj hoj e hun hno) (fun cs b => hsel i oi cs b hi) (fun cs b => hsel j oj cs b hoj) hQ hy (H.2 j (ready_mono hj e))
      refine wpOp_mono (fun a' w' h3 => ?_) h2
      have h4 : (l.setIfInBounds j true).getD z true = false → S w' := fun hz => by
        exact h3.2.1 (by rw [Array.setIfInBounds_comm _ _ (Ne.symm e), getD_set_ne true hzi]; exact hz)
      refine ⟨h4, ih (l.setIfInBounds j true) a' w' ?_ (ready_mono hr (Ne.symm e)) h3.1 h4 ?_⟩
      · intro m om hm hmi hmun hmno
        refine hfree m om hm hmi ?_ hmno
        by_cases ejm : j = m
        · subst ejm; exact hun
        · rw [getD_set_ne true ejm] at hmun; exact hmun
      · rw [Array.setIfInBounds_comm _ _ e]
        exact h3.2.2
/-- An operation that reads memory is taken first. -/
theorem lec_firstS {P : Program} {ops : Array Oper} {Q : Exit → Act → World → Prop} {S : World → Prop} {z i : Nat} {oi : Oper} {v : Value} (hi : ops[i]? = some oi) (hsel : ∀ (j : Nat) (o : Oper) cs b, ops[j]? = some o → o.op ≠ .select cs b) (hQ : ∀ c a w, Q (.panic c) (a.put oi.dst v) w → Q (.panic c) a w) (hz : waitsFor ops z i = true) (hzi : i ≠ z) :
    ∀ (k : Nat) (l : Array Bool) (a : Act) (w : World), (∀ j oj, ops[j]? = some oj → j ≠ i → l.getD j true = false → (∀ e ∈ oj.after, Region.binds .any e = true → e.on ≠ i) → oi.apart ops oj = true) → i ∈ Region.ready .any ops l → YieldsIf P ops S oi v a → S w → l.getD z true = false → lec P ops Q S z k (l.setIfInBounds i true) (a.put oi.dst v) w → lec P ops Q S z (k + 1) l a w := by
  intro k
  induction k with
  | zero =>
    intro l a w _ hr hy hS hzl H
    refine ⟨fun h => absurd hr (by rw [h]; simp), fun j hj => ?_⟩
    by_cases e : j = i
    · subst e
      exact hy.wpOp hi hS ⟨fun _ => hS, H⟩
    · have h1 := ready_mono hj e
      rw [H.1] at h1
      simp at h1
  | succ k ih =>
    intro l a w hfree hr hy hS hzl H
    refine ⟨fun h => absurd hr (by rw [h]; simp), fun j hj => ?_⟩
    by_cases e : j = i
    · subst e
      exact hy.wpOp hi hS ⟨fun _ => hS, H⟩
    · have hjz : j ≠ z := fun e2 => not_yet hz hr (e2 ▸ hj)
      obtain ⟨hun, oj, hoj, hall⟩ := mem_ready.1 hj
      have hno : ∀ e ∈ oj.after, Region.binds .any e = true → e.on ≠ i := fun x hx hb heq => by
        have h1 := hall x hx hb
        have h0 := (mem_ready.1 hr).1
        rw [heq] at h1
        rcases Nat.lt_or_ge i l.size with h' | h'
        · simp [h'] at h0 h1; rw [h0] at h1; cases h1
        · simp [Array.getElem?_eq_none h'] at h1
      have h2 := wpOp_putIf hoj (hfree j oj hoj e hun hno) (fun cs b => hsel i oi cs b hi) (fun cs b => hsel j oj cs b hoj) hQ hy (H.2 j (ready_mono hj e))
      refine wpOp_mono (fun a' w' h3 => ?_) h2
      have h4 : S w' := h3.2.1 (by rw [getD_set_ne true hjz, getD_set_ne true hzi]; exact hzl)
      refine ⟨fun _ => h4, ih (l.setIfInBounds j true) a' w' ?_ (ready_mono hr (Ne.symm e)) h3.1 h4 (by rw [getD_set_ne true hjz]; exact hzl) ?_⟩
      · intro m om hm hmi hmun hmno
        refine hfree m om hm hmi ?_ hmno
        by_cases ejm : j = m
        · subst ejm; exact hun
        · rw [getD_set_ne true ejm] at hmun; exact hmun
      · rw [Array.setIfInBounds_comm _ _ e]
        exact h3.2.2
theorem lec_takeP {P : Program} {ops : Array Oper} {Q : Exit → Act → World → Prop} {S : World → Prop} {z i : Nat} {oi : Oper} {v : Value} {k : Nat} {l : Array Bool} {a : Act} {w : World} (hi : ops[i]? = some oi) (hs : Region.noSelect ops = true) (hf : Region.free .any ops l i = true) (hr : (Region.ready .any ops l).contains i = true) (hz : (i != z) = true)
    (hQ : ∀ c a w, Q (.panic c) (a.put oi.dst v) w → Q (.panic c) a w) (hy : YieldsIf P ops (fun _ => True) oi v a) (hS : S w) (h : lec P ops Q S z k (l.setIfInBounds i true) (a.put oi.dst v) w) : lec P ops Q S z (k + 1) l a w := by
  simp only [bne_iff_ne, ne_eq] at hz
  exact lec_firstP hi (Region.noSelect_spec hs) hQ hz k l a w (Region.free_spec hi hf) (by simpa using hr) hy (fun _ => hS) h
theorem lec_takeS {P : Program} {ops : Array Oper} {Q : Exit → Act → World → Prop} {S : World → Prop} {z i : Nat} {oi : Oper} {v : Value} {k : Nat} {l : Array Bool} {a : Act} {w : World} (hi : ops[i]? = some oi) (hs : Region.noSelect ops = true) (hf : Region.free .any ops l i = true) (hr : (Region.ready .any ops l).contains i = true) (hz : (waitsFor ops z i && i != z) = true) (hzl : l.getD z true = false)
    (hQ : ∀ c a w, Q (.panic c) (a.put oi.dst v) w → Q (.panic c) a w) (hy : YieldsIf P ops S oi v a) (hS : S w) (h : lec P ops Q S z k (l.setIfInBounds i true) (a.put oi.dst v) w) : lec P ops Q S z (k + 1) l a w := by
  simp only [Bool.and_eq_true, bne_iff_ne, ne_eq] at hz
  exact lec_firstS hi (Region.noSelect_spec hs) hQ hz.1 hz.2 k l a w (Region.free_spec hi hf) (by simpa using hr) hy hS hzl h
theorem lec_one {P : Program} {ops : Array Oper} {Q : Exit → Act → World → Prop} {S : World → Prop} {z i : Nat} {oi : Oper} {k : Nat} {l : Array Bool} {a : Act} {w : World} (hi : ops[i]? = some oi) (hr : Region.ready .any ops l = [i])
    (h : ∀ K' : Act → World → Prop, (∀ a' w', ((l.setIfInBounds i true).getD z true = false → S w') → lec P ops Q S z k (l.setIfInBounds i true) a' w' → K' a' w') → if Region.wanted oi (yielded ops a.tmps) = true then Oper.wp P oi a w K' Q else K' (a.put oi.dst undef) w) : lec P ops Q S z (k + 1) l a w := by
  refine ⟨fun h0 => absurd h0 (by rw [hr]; simp), fun j hj => ?_⟩
  rw [hr] at hj
  simp at hj
  subst hj
  exact wpOp_step hi fun K' hK => h K' fun a' w' h1 h2 => hK a' w' ⟨h1, h2⟩
theorem lec_done {P : Program} {ops : Array Oper} {Q : Exit → Act → World → Prop} {S : World → Prop} {z : Nat} {l : Array Bool} {a : Act} {w : World} (hr : Region.ready .any ops l = []) (h : Q .normal a w) : lec P ops Q S z 0 l a w := ⟨hr, h⟩
theorem lec_start {P : Program} {id : Nat} {ops : Array Oper} {Q : Exit → Act → World → Prop} {S : World → Prop} {z : Nat} {a : Act} {w : World} (hm : P.follows .mixedOrders = true) (h : lec P ops Q S z ops.size (Array.replicate ops.size false) a w.drew) : (Code.region id ops true).wp P Q a w :=
  wp_region_any hm (lec_any _ _ _ _ h)

/-- A list of which the first and the last k have changed places. -/
def rvK (L : List Int) (k : Nat) : List Int := (List.range L.length).map fun q => if q < k ∨ L.length - 1 - q < k then L.getD (L.length - 1 - q) 0 else L.getD q 0
theorem rvK_len (L : List Int) (k : Nat) : (rvK L k).length = L.length := by simp [rvK]
theorem rvK_zero (L : List Int) : rvK L 0 = L := by
  refine List.ext_getElem (rvK_len _ _) fun i h1 h2 => ?_
  simp [rvK, h2]
theorem rvK_end {L : List Int} {k j : Nat} (hj : j + 1 + k = L.length) (h : j ≤ k) : rvK L k = L.reverse := by
  refine List.ext_getElem (by simp [rvK]) fun i h1 h2 => ?_
  have hi : i < L.length := by simpa [rvK] using h1
  simp only [rvK, List.getElem_map, List.getElem_range, List.getElem_reverse]
  by_cases e : i < k ∨ L.length - 1 - i < k
  · rw [if_pos e, List.getD, List.getElem?_eq_getElem (by omega)]; rfl
  · have e2 : i = L.length - 1 - i := by omega
    rw [if_neg e, List.getD, List.getElem?_eq_getElem hi]
    simp only [Option.getD_some]
    congr 1
theorem rvK_at {L : List Int} {k q : Nat} (hq : q < L.length) (h1 : k ≤ q) (h2 : q + k < L.length) : (rvK L k)[q]? = some (L.getD q 0) := by
  simp only [rvK, List.getElem?_map, List.getElem?_range hq, Option.map_some]
  rw [if_neg (by omega)]
theorem rvK_step {L : List Int} {k j : Nat} (hj : j + 1 + k = L.length) (h : k < j) : ((rvK L k).set k (L.getD j 0)).set j (L.getD k 0) = rvK L (k + 1) := by
  refine List.ext_getElem (by simp [rvK]) fun i h1 h2 => ?_
  have hi : i < L.length := by simpa [rvK] using h2
  rw [List.getElem_set, List.getElem_set]
  simp only [rvK, List.getElem_map, List.getElem_range]
  by_cases e1 : j = i
  · subst e1
    rw [if_pos rfl, if_pos (by omega)]
    congr 1
    omega
  · rw [if_neg e1]
    by_cases e2 : k = i
    · subst e2
      rw [if_pos rfl, if_pos (by omega)]
      congr 1
      omega
    · rw [if_neg e2]
      by_cases e3 : i < k ∨ L.length - 1 - i < k
      · rw [if_pos e3, if_pos (by omega)]
      · rw [if_neg e3, if_neg (by omega)]
theorem OwnI.set {w : World} {B g c n : Nat} {L : List Int} (h : OwnI w B (.slice (some ⟨g, 0, none⟩) n c) n L) (q : Nat) (hq : q < n) (u : Int) : OwnI (w.setCell ⟨g, q, none⟩ (.int .i64 u)) B (.slice (some ⟨g, 0, none⟩) n c) n (L.set q u) :=
  ⟨by simpa using h.len, by have := own_set h.out q (by omega) (.int .i64 u); rw [ivs, ← List.map_set] at this; exact this⟩
set_option maxRecDepth 100000 in
set_option maxHeartbeats 4000000 in
theorem reverse_any (w : World) (B g n c : Nat) (L : List Int) (h : OwnI w B (.slice (some ⟨g, 0, none⟩) n c) n L) (hp : 0 < n) :
    Calls Try.prog 22 #[.slice (some ⟨g, 0, none⟩) n c] w fun e w' => e = .returned (.tuple #[]) ∧ OwnI w' B (.slice (some ⟨g, 0, none⟩) n c) n L.reverse ∧ Only (fun b => b = g) w w' := by
  obtain ⟨_, _, e9, hc1, hc2, _, _⟩ := own_some h.out hp
  cases e9
  have HL : Hid (n = L.length) := h.len
  have H0 : Hid (OwnI w B (.slice (some ⟨g, 0, none⟩) n c) n (rvK L 0) ∧ Only (fun b => b = g) w w) := ⟨by rw [rvK_zero]; exact h, Only.refl _ _⟩
  clear h
  go_enter Try.func22, Try.ntmps22
  go_wp2_with fail
  go_loopg [2, 3] n (fun q iv jv wr => ∃ k j : Nat, j + 1 + k = n ∧ k ≤ j + 1 ∧ q = n - k ∧ iv = .int .i64 (k : Int) ∧ jv = .int .i64 (j : Int) ∧ Hid (OwnI wr B (.slice (some ⟨g, 0, none⟩) n c) n (rvK L k) ∧ Only (fun b => b = g) w wr))
  case atStart => exact ⟨0, n - 1, by omega, by omega, by omega, rfl, by congr 1; omega, H0.out⟩
  case round =>
    clear H0
    obtain ⟨k, j, hj, hkj, rfl, rfl, rfl, HH⟩ := hrel
    by_cases hlt : k < j
    · obtain ⟨x, hx⟩ : ∃ x, x = L.getD k 0 := ⟨_, rfl⟩
      obtain ⟨y, hy⟩ : ∃ y, y = L.getD j 0 := ⟨_, rfl⟩
      have kx : wr.cell? ⟨g, k, none⟩ = some (.int .i64 x) := by
        have := own_cell HH.out.1.out k (by omega)
        rw [this, ivs, List.getElem?_map, rvK_at (by have := HL.out; omega) (Nat.le_refl _) (by have := HL.out; omega), hx]; rfl
      have ky : wr.cell? ⟨g, j, none⟩ = some (.int .i64 y) := by
        have := own_cell HH.out.1.out j (by omega)
        rw [this, ivs, List.getElem?_map, rvK_at (by have := HL.out; omega) (by omega) (by have := HL.out; omega), hy]; rfl
      have fz : ∀ q, wr.frozen? ⟨g, q, none⟩ = false := fun q => own_fz HH.out.1.out q
      have o1 := HH.out.1.set k (by omega) y
      have o2 := o1.set j (by omega) x
      have fz1 : wr.frozen? ⟨g, k, none⟩ = false := fz k
      have fz2 : wr.frozen? ⟨g, j, none⟩ = false := fz j
      rw [hx, hy, rvK_step (by have := HL.out; omega) hlt, ← hx, ← hy] at o2
      have u2 : Only (fun b => b = g) w ((wr.setCell ⟨g, k, none⟩ (.int .i64 y)).setCell ⟨g, j, none⟩ (.int .i64 x)) := (HH.out.2.trans (Only.of_set wr ⟨g, k, none⟩ (.int .i64 y)) fun i _ e => e).trans (Only.of_set (wr.setCell ⟨g, k, none⟩ (.int .i64 y)) ⟨g, j, none⟩ (.int .i64 x)) fun i _ e => e
      have HN : Hid (OwnI ((wr.setCell ⟨g, k, none⟩ (.int .i64 y)).setCell ⟨g, j, none⟩ (.int .i64 x)).drew B (.slice (some ⟨g, 0, none⟩) n c) n (rvK L (k + 1)) ∧ Only (fun b => b = g) w ((wr.setCell ⟨g, k, none⟩ (.int .i64 y)).setCell ⟨g, j, none⟩ (.int .i64 x)).drew) :=
        ⟨⟨o2.len, own_move o2.out fun _ _ => rfl⟩, u2.os, u2.tape, u2.output, u2.size, u2.block⟩
      have S0 : (fun w' : World => w'.cell? ⟨g, k, none⟩ = some (.int .i64 x) ∧ w'.cell? ⟨g, j, none⟩ = some (.int .i64 y)) wr.drew := ⟨kx, ky⟩
      have hkn : k < n := by omega
      have hjn : j < n := by omega
      clear o1 o2 hx hy fz u2
      go_wp2_with fail
      refine lec_start (S := fun w' : World => w'.cell? ⟨g, k, none⟩ = some (.int .i64 x) ∧ w'.cell? ⟨g, j, none⟩ = some (.int .i64 y)) (z := 13) (by kernel_rfl) ?_
      show lec _ _ _ _ _ 16 _ _ _
      try simp only [List.size_toArray, List.length_cons, List.length_nil, Array.replicate]
      refine lec_takeP (i := 0) (v := ?v0) rfl (by kernel_rfl) (by kernel_rfl) (by kernel_rfl) (by kernel_rfl) (fun _ _ _ h => h) (.inl ⟨by rfl, ?hy0⟩) S0 ?rest0
      case hy0 =>
        rintro w' _
        go_simp
        all_goals with_reducible rfl
      try simp only [Act.put, List.getElem_toArray, List.getElem_cons_succ, List.getElem_cons_zero, List.setIfInBounds_toArray, List.set_cons_zero, List.set_cons_succ]
      refine lec_takeP (i := 1) (v := ?v1) rfl (by kernel_rfl) (by kernel_rfl) (by kernel_rfl) (by kernel_rfl) (fun _ _ _ h => h) (.inl ⟨by rfl, ?hy1⟩) S0 ?rest1
      case hy1 =>
        rintro w' _
        go_simp
        all_goals with_reducible rfl
      try simp only [Act.put, List.getElem_toArray, List.getElem_cons_succ, List.getElem_cons_zero, List.setIfInBounds_toArray, List.set_cons_zero, List.set_cons_succ]
      refine lec_takeP (i := 2) (v := ?v2) rfl (by kernel_rfl) (by kernel_rfl) (by kernel_rfl) (by kernel_rfl) (fun _ _ _ h => h) (.inl ⟨by rfl, ?hy2⟩) S0 ?rest2
      case hy2 =>
        rintro w' _
        go_simp
        all_goals with_reducible rfl
      try simp only [Act.put, List.getElem_toArray, List.getElem_cons_succ, List.getElem_cons_zero, List.setIfInBounds_toArray, List.set_cons_zero, List.set_cons_succ]
      refine lec_takeP (i := 3) (v := ?v3) rfl (by kernel_rfl) (by kernel_rfl) (by kernel_rfl) (by kernel_rfl) (fun _ _ _ h => h) (.inl ⟨by rfl, ?hy3⟩) S0 ?rest3
      case hy3 =>
        rintro w' _
        go_simp
        all_goals with_reducible rfl
      try simp only [Act.put, List.getElem_toArray, List.getElem_cons_succ, List.getElem_cons_zero, List.setIfInBounds_toArray, List.set_cons_zero, List.set_cons_succ]
      refine lec_takeP (i := 4) (v := ?v4) rfl (by kernel_rfl) (by kernel_rfl) (by kernel_rfl) (by kernel_rfl) (fun _ _ _ h => h) (.inl ⟨by rfl, ?hy4⟩) S0 ?rest4
      case hy4 =>
        rintro w' _
        go_simp
        all_goals with_reducible rfl
      try simp only [Act.put, List.getElem_toArray, List.getElem_cons_succ, List.getElem_cons_zero, List.setIfInBounds_toArray, List.set_cons_zero, List.set_cons_succ]
      refine lec_takeP (i := 5) (v := ?v5) rfl (by kernel_rfl) (by kernel_rfl) (by kernel_rfl) (by kernel_rfl) (fun _ _ _ h => h) (.inl ⟨by rfl, ?hy5⟩) S0 ?rest5
      case hy5 =>
        rintro w' _
        go_simp
        all_goals with_reducible rfl
      try simp only [Act.put, List.getElem_toArray, List.getElem_cons_succ, List.getElem_cons_zero, List.setIfInBounds_toArray, List.set_cons_zero, List.set_cons_succ]
      refine lec_takeP (i := 6) (v := ?v6) rfl (by kernel_rfl) (by kernel_rfl) (by kernel_rfl) (by kernel_rfl) (fun _ _ _ h => h) (.inl ⟨by rfl, ?hy6⟩) S0 ?rest6
      case hy6 =>
        rintro w' _
        go_simp
        all_goals with_reducible rfl
      try simp only [Act.put, List.getElem_toArray, List.getElem_cons_succ, List.getElem_cons_zero, List.setIfInBounds_toArray, List.set_cons_zero, List.set_cons_succ]
      refine lec_takeS (i := 7) (v := ?v7) rfl (by kernel_rfl) (by kernel_rfl) (by kernel_rfl) (by kernel_rfl) (by kernel_rfl) (fun _ _ _ h => h) (.inl ⟨by rfl, ?hy7⟩) S0 ?rest7
      case hy7 =>
        rintro w' ⟨h1, h2⟩
        go_simp
        all_goals with_reducible rfl
      try simp only [Act.put, List.getElem_toArray, List.getElem_cons_succ, List.getElem_cons_zero, List.setIfInBounds_toArray, List.set_cons_zero, List.set_cons_succ]
      refine lec_takeP (i := 8) (v := ?v8) rfl (by kernel_rfl) (by kernel_rfl) (by kernel_rfl) (by kernel_rfl) (fun _ _ _ h => h) (.inl ⟨by rfl, ?hy8⟩) S0 ?rest8
      case hy8 =>
        rintro w' _
        go_simp
        all_goals with_reducible rfl
      try simp only [Act.put, List.getElem_toArray, List.getElem_cons_succ, List.getElem_cons_zero, List.setIfInBounds_toArray, List.set_cons_zero, List.set_cons_succ]
      refine lec_takeP (i := 9) (v := ?v9) rfl (by kernel_rfl) (by kernel_rfl) (by kernel_rfl) (by kernel_rfl) (fun _ _ _ h => h) (.inl ⟨by rfl, ?hy9⟩) S0 ?rest9
      case hy9 =>
        rintro w' _
        go_simp
        all_goals with_reducible rfl
      try simp only [Act.put, List.getElem_toArray, List.getElem_cons_succ, List.getElem_cons_zero, List.setIfInBounds_toArray, List.set_cons_zero, List.set_cons_succ]
      refine lec_takeP (i := 10) (v := ?v10) rfl (by kernel_rfl) (by kernel_rfl) (by kernel_rfl) (by kernel_rfl) (fun _ _ _ h => h) (.inl ⟨by rfl, ?hy10⟩) S0 ?rest10
      case hy10 =>
        rintro w' _
        go_simp
        all_goals with_reducible rfl
      try simp only [Act.put, List.getElem_toArray, List.getElem_cons_succ, List.getElem_cons_zero, List.setIfInBounds_toArray, List.set_cons_zero, List.set_cons_succ]
      refine lec_takeS (i := 11) (v := ?v11) rfl (by kernel_rfl) (by kernel_rfl) (by kernel_rfl) (by kernel_rfl) (by kernel_rfl) (fun _ _ _ h => h) (.inl ⟨by rfl, ?hy11⟩) S0 ?rest11
      case hy11 =>
        rintro w' ⟨h1, h2⟩
        go_simp
        all_goals with_reducible rfl
      try simp only [Act.put, List.getElem_toArray, List.getElem_cons_succ, List.getElem_cons_zero, List.setIfInBounds_toArray, List.set_cons_zero, List.set_cons_succ]
      refine lec_takeP (i := 12) (v := ?v12) rfl (by kernel_rfl) (by kernel_rfl) (by kernel_rfl) (by kernel_rfl) (fun _ _ _ h => h) (.inl ⟨by rfl, ?hy12⟩) S0 ?rest12
      case hy12 =>
        rintro w' _
        go_simp
        all_goals with_reducible rfl
      try simp only [Act.put, List.getElem_toArray, List.getElem_cons_succ, List.getElem_cons_zero, List.setIfInBounds_toArray, List.set_cons_zero, List.set_cons_succ]
      clear S0
      refine lec_one (i := 13) rfl (by kernel_rfl) ?_
      intro K13 hK13
      rw [if_pos (by rfl)]
      go_simp
      refine hK13 _ _ (fun h => by simp at h) ?_
      clear hK13
      try simp only [Act.put, List.getElem_toArray, List.getElem_cons_succ, List.getElem_cons_zero, List.setIfInBounds_toArray, List.set_cons_zero, List.set_cons_succ]
      refine lec_one (i := 14) rfl (by kernel_rfl) ?_
      intro K14 hK14
      rw [if_pos (by rfl)]
      go_simp
      refine hK14 _ _ (fun h => by simp at h) ?_
      clear hK14
      try simp only [Act.put, List.getElem_toArray, List.getElem_cons_succ, List.getElem_cons_zero, List.setIfInBounds_toArray, List.set_cons_zero, List.set_cons_succ]
      refine lec_one (i := 15) rfl (by kernel_rfl) ?_
      intro K15 hK15
      rw [if_pos (by rfl)]
      go_simp
      refine hK15 _ _ (fun h => by simp at h) ?_
      clear hK15
      try simp only [Act.put, List.getElem_toArray, List.getElem_cons_succ, List.getElem_cons_zero, List.setIfInBounds_toArray, List.set_cons_zero, List.set_cons_succ]
      refine lec_done (by kernel_rfl) ?_
      go_wp2_with fail
      go_roundg (n - (k + 1))
      case rel => exact ⟨k + 1, j - 1, by omega, by omega, rfl, by go_num, by congr 1; omega, HN.out⟩
      case measure => omega
    · have he : rvK L k = L.reverse := rvK_end (j := j) (by have := HL.out; omega) (by omega)
      have HF : Hid _ := HH.out
      rw [he] at HF
      have hlt2 : ¬ (k : Int) < (j : Int) := by omega
      clear he HH
      go_wp2_with fail
      first
      | exact bodyPost_end (v := .tuple #[]) (by simp [results, Try.results22, go_sem]) rfl ⟨rfl, HF.out.1, HF.out.2⟩
      | exact bodyPost_ret (v := .tuple #[]) (by simp [results, Try.results22, go_sem]) rfl ⟨rfl, HF.out.1, HF.out.2⟩
end Go.Proofs.Ytplpgeocidllfaa
