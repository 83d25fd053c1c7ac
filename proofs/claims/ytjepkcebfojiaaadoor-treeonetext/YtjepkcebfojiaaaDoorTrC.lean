import Derived.Test.YtjepkcebfojiaaaDoorTrB
set_option linter.unusedVariables false
set_option linter.unusedSimpArgs false
namespace Go.Proofs.YtjepkcebfojiaaaDoor
open Go.ChangeShapes Go.WideShapes Go.ChangeAt Go.RowKit

/-- A node in block b from p on. -/
structure NdAt (w : World) (b p : Nat) (n : Nd) : Prop where
  out : ∃ (ka : Option Addr) (kc : Nat), w.cell? ⟨b, p, none⟩ = some (.int .i64 n.kind) ∧ w.cell? ⟨b, p + 1, none⟩ = some (.int .i64 n.at_) ∧ w.cell? ⟨b, p + 2, none⟩ = some (.int .i64 n.wh) ∧ w.cell? ⟨b, p + 3, none⟩ = some (.int .i64 n.close)
    ∧ w.cell? ⟨b, p + 4, none⟩ = some (.int .i64 n.decl) ∧ w.cell? ⟨b, p + 5, none⟩ = some (.int .i64 n.typ) ∧ w.cell? ⟨b, p + 6, none⟩ = some (.int .i64 n.op) ∧ w.cell? ⟨b, p + 7, none⟩ = some (.int .i64 n.val)
    ∧ w.cell? ⟨b, p + 8, none⟩ = some (.string (bs n.name)) ∧ w.cell? ⟨b, p + 9, none⟩ = some (.slice ka n.kids.length kc) ∧ Ints w ka kc n.kids
/-- A slice of nodes that holds N. -/
structure Nodes (w : World) (ao : Option Addr) (cap : Nat) (N : List Nd) : Prop where
  le : N.length ≤ cap
  mx : cap ≤ 9223372036854775807
  out : N ≠ [] → ∃ b o, ao = some ⟨b, o, none⟩ ∧ b < w.heap.size ∧ ∀ i (h : i < N.length), NdAt w b (o + i * 10) N[i]
theorem NdAt.below {w w' b p n K} (h : NdAt w b p n) (hb : Below K w w') (hK : w.heap.size ≤ K) (hlt : b < w.heap.size) : NdAt w' b p n := by
  obtain ⟨ka, kc, c0, c1, c2, c3, c4, c5, c6, c7, c8, c9, hI⟩ := h.out
  have hc : ∀ q, w'.cell? ⟨b, q, none⟩ = w.cell? ⟨b, q, none⟩ := fun q => hb.cell (p := ⟨b, q, none⟩) (by show b < K; omega)
  exact ⟨ka, kc, by rw [hc]; exact c0, by rw [hc]; exact c1, by rw [hc]; exact c2, by rw [hc]; exact c3, by rw [hc]; exact c4, by rw [hc]; exact c5, by rw [hc]; exact c6, by rw [hc]; exact c7, by rw [hc]; exact c8, by rw [hc]; exact c9, hI.below hb hK⟩
theorem Nodes.below {w w' ao cap N K} (h : Nodes w ao cap N) (hb : Below K w w') (hK : w.heap.size ≤ K) : Nodes w' ao cap N :=
  ⟨h.le, h.mx, fun hn => by
    obtain ⟨b, o, e, hl, hA⟩ := h.out hn
    exact ⟨b, o, e, by have := hb.size; omega, fun i hi => (hA i hi).below hb hK hl⟩⟩
theorem Nodes.kind {w ao cap N} (h : Nodes w ao cap N) (j : Nat) (hj : j < N.length) : ∃ b o, ao = some ⟨b, o, none⟩ ∧ w.cell? ⟨b, o + j * 10, none⟩ = some (.int .i64 (kd N j)) := by
  obtain ⟨b, o, e, _, hA⟩ := h.out (by intro e; simp [e] at hj)
  obtain ⟨_, _, c0, _⟩ := (hA j hj).out
  exact ⟨b, o, e, by rw [c0]; simp [kd, hj]⟩

structure AllT (N : List Nd) (p : Int → Bool) (L : List Int) (j : Nat) (R : Bool) : Prop where
  out : allK N p (L.drop j) = R
theorem AllT.next {N p L j R} (h : AllT N p L j R) (hj : j < L.length) : (p (kd N L[j]) = true → AllT N p L (j + 1) R) ∧ (p (kd N L[j]) = false → R = false) := by
  have := h.out
  rw [List.drop_eq_getElem_cons hj] at this
  simp only [allK, List.all_cons] at this
  refine ⟨fun e => ⟨?_⟩, fun e => ?_⟩
  · rw [e] at this; simpa [allK] using this
  · rw [e] at this; simpa using this.symm
theorem AllT.fin {N p L j R} (h : AllT N p L j R) (hj : L.length ≤ j) : R = true := by
  have := h.out
  rw [List.drop_of_length_le hj] at this
  simpa [allK] using this.symm

set_option maxHeartbeats 1000000 in
theorem all_isFunc (w : World) (no : Option Addr) (nc nn : Nat) (N : List Nd) (hnn : nn = N.length) (hN : Nodes w no nc N) (a : Option Addr) (c n : Nat) (L : List Int) (hn : n = L.length) (hL : Ints w a c L) (hr : ∀ x ∈ L, 0 ≤ x ∧ x < N.length) :
    Calls Tryd.prog 25 #[.slice no nn nc, .slice a n c, .func (.func 26) #[] #[]] w fun e w' => e = .returned (.bool (allK N (isK 1) L)) ∧ w = w' := by
  obtain ⟨R, hR⟩ : ∃ R, R = allK N (isK 1) L := ⟨_, rfl⟩
  rw [← hR]
  have HA : AllT N (isK 1) L 0 R := ⟨by rw [hR]; simp⟩
  clear hR
  have HN1 : Hid (n = L.length) := hn
  have HN2 : Hid (nn = N.length) := hnn
  have HRR : Hid (∀ x ∈ L, 0 ≤ x ∧ x < N.length) := hr
  have b1 : n ≤ 9223372036854775807 := by have := hL.le; have := hL.mx; omega
  have b2 : nn ≤ 9223372036854775807 := by have := hN.le; have := hN.mx; omega
  clear hn hnn hr
  go_enter Tryd.func25, Tryd.ntmps25
  go_wp2
  go_loop [11] (fun v => ∃ j : Nat, j ≤ n ∧ v = .int .i64 j ∧ AllT N (isK 1) L j R) (fun v => n - (intOf v).toNat)
  case atStart => exact ⟨0, by omega, rfl, HA⟩
  case round =>
    obtain ⟨j, hj, rfl, HT⟩ := hrel
    by_cases hlt : j < n
    · obtain ⟨g1, o1, rfl, k1⟩ := hL.out (by intro e; have := HN1.out; simp [e] at this; omega)
      have p1 := k1.cell j (HN1.out ▸ hlt)
      have HX := HT.next (HN1.out ▸ hlt)
      have hx := HRR.out _ (List.getElem_mem (l := L) (n := j) (HN1.out ▸ hlt))
      obtain ⟨x, e⟩ : ∃ x : Nat, L[j]'(HN1.out ▸ hlt) = (x : Int) := ⟨(L[j]'(HN1.out ▸ hlt)).toNat, by omega⟩
      rw [e] at p1 HX hx
      have hxn : x < nn := by have := HN2.out; omega
      obtain ⟨g2, o2, rfl, p2⟩ := hN.kind x (HN2.out ▸ hxn)
      obtain ⟨kk, hk⟩ : ∃ kk, kk = kd N (x : Int) := ⟨_, rfl⟩
      rw [← hk] at p2 HX
      have HXX : Hid _ := HX
      clear hk HX k1 e hx
      cases hp : (isK 1) kk
      · go_wp2_with (first | (go_at_call 26; refine (isFunc_any _ _).mono ?_; rintro e w' ⟨rfl, rfl⟩; rw [hp]))
        go_ret
        exact ⟨ret_b (HXX.out.2 hp).symm, rfl⟩
      · go_wp2_with (first | (go_at_call 26; refine (isFunc_any _ _).mono ?_; rintro e w' ⟨rfl, rfl⟩; rw [hp]))
        go_round
        case rel => exact ⟨j + 1, by omega, by go_num, HXX.out.1 hp⟩
        case measure => simp [intOf]; omega
    · have HF : R = true := HT.fin (by have := HN1.out; omega)
      go_wp2
      go_ret
      exact ⟨rfl, rfl⟩

set_option maxHeartbeats 1000000 in
theorem all_isParam (w : World) (no : Option Addr) (nc nn : Nat) (N : List Nd) (hnn : nn = N.length) (hN : Nodes w no nc N) (a : Option Addr) (c n : Nat) (L : List Int) (hn : n = L.length) (hL : Ints w a c L) (hr : ∀ x ∈ L, 0 ≤ x ∧ x < N.length) :
    Calls Tryd.prog 25 #[.slice no nn nc, .slice a n c, .func (.func 37) #[] #[]] w fun e w' => e = .returned (.bool (allK N (isK 2) L)) ∧ w = w' := by
  obtain ⟨R, hR⟩ : ∃ R, R = allK N (isK 2) L := ⟨_, rfl⟩
  rw [← hR]
  have HA : AllT N (isK 2) L 0 R := ⟨by rw [hR]; simp⟩
  clear hR
  have HN1 : Hid (n = L.length) := hn
  have HN2 : Hid (nn = N.length) := hnn
  have HRR : Hid (∀ x ∈ L, 0 ≤ x ∧ x < N.length) := hr
  have b1 : n ≤ 9223372036854775807 := by have := hL.le; have := hL.mx; omega
  have b2 : nn ≤ 9223372036854775807 := by have := hN.le; have := hN.mx; omega
  clear hn hnn hr
  go_enter Tryd.func25, Tryd.ntmps25
  go_wp2
  go_loop [11] (fun v => ∃ j : Nat, j ≤ n ∧ v = .int .i64 j ∧ AllT N (isK 2) L j R) (fun v => n - (intOf v).toNat)
  case atStart => exact ⟨0, by omega, rfl, HA⟩
  case round =>
    obtain ⟨j, hj, rfl, HT⟩ := hrel
    by_cases hlt : j < n
    · obtain ⟨g1, o1, rfl, k1⟩ := hL.out (by intro e; have := HN1.out; simp [e] at this; omega)
      have p1 := k1.cell j (HN1.out ▸ hlt)
      have HX := HT.next (HN1.out ▸ hlt)
      have hx := HRR.out _ (List.getElem_mem (l := L) (n := j) (HN1.out ▸ hlt))
      obtain ⟨x, e⟩ : ∃ x : Nat, L[j]'(HN1.out ▸ hlt) = (x : Int) := ⟨(L[j]'(HN1.out ▸ hlt)).toNat, by omega⟩
      rw [e] at p1 HX hx
      have hxn : x < nn := by have := HN2.out; omega
      obtain ⟨g2, o2, rfl, p2⟩ := hN.kind x (HN2.out ▸ hxn)
      obtain ⟨kk, hk⟩ : ∃ kk, kk = kd N (x : Int) := ⟨_, rfl⟩
      rw [← hk] at p2 HX
      have HXX : Hid _ := HX
      clear hk HX k1 e hx
      cases hp : (isK 2) kk
      · go_wp2_with (first | (go_at_call 37; refine (isParam_any _ _).mono ?_; rintro e w' ⟨rfl, rfl⟩; rw [hp]))
        go_ret
        exact ⟨ret_b (HXX.out.2 hp).symm, rfl⟩
      · go_wp2_with (first | (go_at_call 37; refine (isParam_any _ _).mono ?_; rintro e w' ⟨rfl, rfl⟩; rw [hp]))
        go_round
        case rel => exact ⟨j + 1, by omega, by go_num, HXX.out.1 hp⟩
        case measure => simp [intOf]; omega
    · have HF : R = true := HT.fin (by have := HN1.out; omega)
      go_wp2
      go_ret
      exact ⟨rfl, rfl⟩

set_option maxHeartbeats 1000000 in
theorem all_isBlock (w : World) (no : Option Addr) (nc nn : Nat) (N : List Nd) (hnn : nn = N.length) (hN : Nodes w no nc N) (a : Option Addr) (c n : Nat) (L : List Int) (hn : n = L.length) (hL : Ints w a c L) (hr : ∀ x ∈ L, 0 ≤ x ∧ x < N.length) :
    Calls Tryd.prog 25 #[.slice no nn nc, .slice a n c, .func (.func 38) #[] #[]] w fun e w' => e = .returned (.bool (allK N (isK 3) L)) ∧ w = w' := by
  obtain ⟨R, hR⟩ : ∃ R, R = allK N (isK 3) L := ⟨_, rfl⟩
  rw [← hR]
  have HA : AllT N (isK 3) L 0 R := ⟨by rw [hR]; simp⟩
  clear hR
  have HN1 : Hid (n = L.length) := hn
  have HN2 : Hid (nn = N.length) := hnn
  have HRR : Hid (∀ x ∈ L, 0 ≤ x ∧ x < N.length) := hr
  have b1 : n ≤ 9223372036854775807 := by have := hL.le; have := hL.mx; omega
  have b2 : nn ≤ 9223372036854775807 := by have := hN.le; have := hN.mx; omega
  clear hn hnn hr
  go_enter Tryd.func25, Tryd.ntmps25
  go_wp2
  go_loop [11] (fun v => ∃ j : Nat, j ≤ n ∧ v = .int .i64 j ∧ AllT N (isK 3) L j R) (fun v => n - (intOf v).toNat)
  case atStart => exact ⟨0, by omega, rfl, HA⟩
  case round =>
    obtain ⟨j, hj, rfl, HT⟩ := hrel
    by_cases hlt : j < n
    · obtain ⟨g1, o1, rfl, k1⟩ := hL.out (by intro e; have := HN1.out; simp [e] at this; omega)
      have p1 := k1.cell j (HN1.out ▸ hlt)
      have HX := HT.next (HN1.out ▸ hlt)
      have hx := HRR.out _ (List.getElem_mem (l := L) (n := j) (HN1.out ▸ hlt))
      obtain ⟨x, e⟩ : ∃ x : Nat, L[j]'(HN1.out ▸ hlt) = (x : Int) := ⟨(L[j]'(HN1.out ▸ hlt)).toNat, by omega⟩
      rw [e] at p1 HX hx
      have hxn : x < nn := by have := HN2.out; omega
      obtain ⟨g2, o2, rfl, p2⟩ := hN.kind x (HN2.out ▸ hxn)
      obtain ⟨kk, hk⟩ : ∃ kk, kk = kd N (x : Int) := ⟨_, rfl⟩
      rw [← hk] at p2 HX
      have HXX : Hid _ := HX
      clear hk HX k1 e hx
      cases hp : (isK 3) kk
      · go_wp2_with (first | (go_at_call 38; refine (isBlock_any _ _).mono ?_; rintro e w' ⟨rfl, rfl⟩; rw [hp]))
        go_ret
        exact ⟨ret_b (HXX.out.2 hp).symm, rfl⟩
      · go_wp2_with (first | (go_at_call 38; refine (isBlock_any _ _).mono ?_; rintro e w' ⟨rfl, rfl⟩; rw [hp]))
        go_round
        case rel => exact ⟨j + 1, by omega, by go_num, HXX.out.1 hp⟩
        case measure => simp [intOf]; omega
    · have HF : R = true := HT.fin (by have := HN1.out; omega)
      go_wp2
      go_ret
      exact ⟨rfl, rfl⟩

set_option maxHeartbeats 1000000 in
theorem all_isCall (w : World) (no : Option Addr) (nc nn : Nat) (N : List Nd) (hnn : nn = N.length) (hN : Nodes w no nc N) (a : Option Addr) (c n : Nat) (L : List Int) (hn : n = L.length) (hL : Ints w a c L) (hr : ∀ x ∈ L, 0 ≤ x ∧ x < N.length) :
    Calls Tryd.prog 25 #[.slice no nn nc, .slice a n c, .func (.func 40) #[] #[]] w fun e w' => e = .returned (.bool (allK N (isK 25) L)) ∧ w = w' := by
  obtain ⟨R, hR⟩ : ∃ R, R = allK N (isK 25) L := ⟨_, rfl⟩
  rw [← hR]
  have HA : AllT N (isK 25) L 0 R := ⟨by rw [hR]; simp⟩
  clear hR
  have HN1 : Hid (n = L.length) := hn
  have HN2 : Hid (nn = N.length) := hnn
  have HRR : Hid (∀ x ∈ L, 0 ≤ x ∧ x < N.length) := hr
  have b1 : n ≤ 9223372036854775807 := by have := hL.le; have := hL.mx; omega
  have b2 : nn ≤ 9223372036854775807 := by have := hN.le; have := hN.mx; omega
  clear hn hnn hr
  go_enter Tryd.func25, Tryd.ntmps25
  go_wp2
  go_loop [11] (fun v => ∃ j : Nat, j ≤ n ∧ v = .int .i64 j ∧ AllT N (isK 25) L j R) (fun v => n - (intOf v).toNat)
  case atStart => exact ⟨0, by omega, rfl, HA⟩
  case round =>
    obtain ⟨j, hj, rfl, HT⟩ := hrel
    by_cases hlt : j < n
    · obtain ⟨g1, o1, rfl, k1⟩ := hL.out (by intro e; have := HN1.out; simp [e] at this; omega)
      have p1 := k1.cell j (HN1.out ▸ hlt)
      have HX := HT.next (HN1.out ▸ hlt)
      have hx := HRR.out _ (List.getElem_mem (l := L) (n := j) (HN1.out ▸ hlt))
      obtain ⟨x, e⟩ : ∃ x : Nat, L[j]'(HN1.out ▸ hlt) = (x : Int) := ⟨(L[j]'(HN1.out ▸ hlt)).toNat, by omega⟩
      rw [e] at p1 HX hx
      have hxn : x < nn := by have := HN2.out; omega
      obtain ⟨g2, o2, rfl, p2⟩ := hN.kind x (HN2.out ▸ hxn)
      obtain ⟨kk, hk⟩ : ∃ kk, kk = kd N (x : Int) := ⟨_, rfl⟩
      rw [← hk] at p2 HX
      have HXX : Hid _ := HX
      clear hk HX k1 e hx
      cases hp : (isK 25) kk
      · go_wp2_with (first | (go_at_call 40; refine (isCall_any _ _).mono ?_; rintro e w' ⟨rfl, rfl⟩; rw [hp]))
        go_ret
        exact ⟨ret_b (HXX.out.2 hp).symm, rfl⟩
      · go_wp2_with (first | (go_at_call 40; refine (isCall_any _ _).mono ?_; rintro e w' ⟨rfl, rfl⟩; rw [hp]))
        go_round
        case rel => exact ⟨j + 1, by omega, by go_num, HXX.out.1 hp⟩
        case measure => simp [intOf]; omega
    · have HF : R = true := HT.fin (by have := HN1.out; omega)
      go_wp2
      go_ret
      exact ⟨rfl, rfl⟩

set_option maxHeartbeats 1000000 in
theorem all_isElse (w : World) (no : Option Addr) (nc nn : Nat) (N : List Nd) (hnn : nn = N.length) (hN : Nodes w no nc N) (a : Option Addr) (c n : Nat) (L : List Int) (hn : n = L.length) (hL : Ints w a c L) (hr : ∀ x ∈ L, 0 ≤ x ∧ x < N.length) :
    Calls Tryd.prog 25 #[.slice no nn nc, .slice a n c, .func (.func 42) #[] #[]] w fun e w' => e = .returned (.bool (allK N isEl L)) ∧ w = w' := by
  obtain ⟨R, hR⟩ : ∃ R, R = allK N isEl L := ⟨_, rfl⟩
  rw [← hR]
  have HA : AllT N isEl L 0 R := ⟨by rw [hR]; simp⟩
  clear hR
  have HN1 : Hid (n = L.length) := hn
  have HN2 : Hid (nn = N.length) := hnn
  have HRR : Hid (∀ x ∈ L, 0 ≤ x ∧ x < N.length) := hr
  have b1 : n ≤ 9223372036854775807 := by have := hL.le; have := hL.mx; omega
  have b2 : nn ≤ 9223372036854775807 := by have := hN.le; have := hN.mx; omega
  clear hn hnn hr
  go_enter Tryd.func25, Tryd.ntmps25
  go_wp2
  go_loop [11] (fun v => ∃ j : Nat, j ≤ n ∧ v = .int .i64 j ∧ AllT N isEl L j R) (fun v => n - (intOf v).toNat)
  case atStart => exact ⟨0, by omega, rfl, HA⟩
  case round =>
    obtain ⟨j, hj, rfl, HT⟩ := hrel
    by_cases hlt : j < n
    · obtain ⟨g1, o1, rfl, k1⟩ := hL.out (by intro e; have := HN1.out; simp [e] at this; omega)
      have p1 := k1.cell j (HN1.out ▸ hlt)
      have HX := HT.next (HN1.out ▸ hlt)
      have hx := HRR.out _ (List.getElem_mem (l := L) (n := j) (HN1.out ▸ hlt))
      obtain ⟨x, e⟩ : ∃ x : Nat, L[j]'(HN1.out ▸ hlt) = (x : Int) := ⟨(L[j]'(HN1.out ▸ hlt)).toNat, by omega⟩
      rw [e] at p1 HX hx
      have hxn : x < nn := by have := HN2.out; omega
      obtain ⟨g2, o2, rfl, p2⟩ := hN.kind x (HN2.out ▸ hxn)
      obtain ⟨kk, hk⟩ : ∃ kk, kk = kd N (x : Int) := ⟨_, rfl⟩
      rw [← hk] at p2 HX
      have HXX : Hid _ := HX
      clear hk HX k1 e hx
      cases hp : isEl kk
      · go_wp2_with (first | (go_at_call 42; refine (isElse_any _ _).mono ?_; rintro e w' ⟨rfl, rfl⟩; rw [hp]))
        go_ret
        exact ⟨ret_b (HXX.out.2 hp).symm, rfl⟩
      · go_wp2_with (first | (go_at_call 42; refine (isElse_any _ _).mono ?_; rintro e w' ⟨rfl, rfl⟩; rw [hp]))
        go_round
        case rel => exact ⟨j + 1, by omega, by go_num, HXX.out.1 hp⟩
        case measure => simp [intOf]; omega
    · have HF : R = true := HT.fin (by have := HN1.out; omega)
      go_wp2
      go_ret
      exact ⟨rfl, rfl⟩

set_option maxHeartbeats 1000000 in
theorem all_isStatement (w : World) (no : Option Addr) (nc nn : Nat) (N : List Nd) (hnn : nn = N.length) (hN : Nodes w no nc N) (a : Option Addr) (c n : Nat) (L : List Int) (hn : n = L.length) (hL : Ints w a c L) (hr : ∀ x ∈ L, 0 ≤ x ∧ x < N.length) :
    Calls Tryd.prog 25 #[.slice no nn nc, .slice a n c, .func (.func 39) #[] #[]] w fun e w' => e = .returned (.bool (allK N isSt L)) ∧ w = w' := by
  obtain ⟨R, hR⟩ : ∃ R, R = allK N isSt L := ⟨_, rfl⟩
  rw [← hR]
  have HA : AllT N isSt L 0 R := ⟨by rw [hR]; simp⟩
  clear hR
  have HN1 : Hid (n = L.length) := hn
  have HN2 : Hid (nn = N.length) := hnn
  have HRR : Hid (∀ x ∈ L, 0 ≤ x ∧ x < N.length) := hr
  have b1 : n ≤ 9223372036854775807 := by have := hL.le; have := hL.mx; omega
  have b2 : nn ≤ 9223372036854775807 := by have := hN.le; have := hN.mx; omega
  clear hn hnn hr
  go_enter Tryd.func25, Tryd.ntmps25
  go_wp2
  go_loop [11] (fun v => ∃ j : Nat, j ≤ n ∧ v = .int .i64 j ∧ AllT N isSt L j R) (fun v => n - (intOf v).toNat)
  case atStart => exact ⟨0, by omega, rfl, HA⟩
  case round =>
    obtain ⟨j, hj, rfl, HT⟩ := hrel
    by_cases hlt : j < n
    · obtain ⟨g1, o1, rfl, k1⟩ := hL.out (by intro e; have := HN1.out; simp [e] at this; omega)
      have p1 := k1.cell j (HN1.out ▸ hlt)
      have HX := HT.next (HN1.out ▸ hlt)
      have hx := HRR.out _ (List.getElem_mem (l := L) (n := j) (HN1.out ▸ hlt))
      obtain ⟨x, e⟩ : ∃ x : Nat, L[j]'(HN1.out ▸ hlt) = (x : Int) := ⟨(L[j]'(HN1.out ▸ hlt)).toNat, by omega⟩
      rw [e] at p1 HX hx
      have hxn : x < nn := by have := HN2.out; omega
      obtain ⟨g2, o2, rfl, p2⟩ := hN.kind x (HN2.out ▸ hxn)
      obtain ⟨kk, hk⟩ : ∃ kk, kk = kd N (x : Int) := ⟨_, rfl⟩
      rw [← hk] at p2 HX
      have HXX : Hid _ := HX
      clear hk HX k1 e hx
      cases hp : isSt kk
      · go_wp2_with (first | (go_at_call 39; refine (isStatement_any _ _).mono ?_; rintro e w' ⟨rfl, rfl⟩; rw [hp]))
        go_ret
        exact ⟨ret_b (HXX.out.2 hp).symm, rfl⟩
      · go_wp2_with (first | (go_at_call 39; refine (isStatement_any _ _).mono ?_; rintro e w' ⟨rfl, rfl⟩; rw [hp]))
        go_round
        case rel => exact ⟨j + 1, by omega, by go_num, HXX.out.1 hp⟩
        case measure => simp [intOf]; omega
    · have HF : R = true := HT.fin (by have := HN1.out; omega)
      go_wp2
      go_ret
      exact ⟨rfl, rfl⟩

set_option maxHeartbeats 1000000 in
theorem all_isExpression (w : World) (no : Option Addr) (nc nn : Nat) (N : List Nd) (hnn : nn = N.length) (hN : Nodes w no nc N) (a : Option Addr) (c n : Nat) (L : List Int) (hn : n = L.length) (hL : Ints w a c L) (hr : ∀ x ∈ L, 0 ≤ x ∧ x < N.length) :
    Calls Tryd.prog 25 #[.slice no nn nc, .slice a n c, .func (.func 41) #[] #[]] w fun e w' => e = .returned (.bool (allK N isEx L)) ∧ w = w' := by
  obtain ⟨R, hR⟩ : ∃ R, R = allK N isEx L := ⟨_, rfl⟩
  rw [← hR]
  have HA : AllT N isEx L 0 R := ⟨by rw [hR]; simp⟩
  clear hR
  have HN1 : Hid (n = L.length) := hn
  have HN2 : Hid (nn = N.length) := hnn
  have HRR : Hid (∀ x ∈ L, 0 ≤ x ∧ x < N.length) := hr
  have b1 : n ≤ 9223372036854775807 := by have := hL.le; have := hL.mx; omega
  have b2 : nn ≤ 9223372036854775807 := by have := hN.le; have := hN.mx; omega
  clear hn hnn hr
  go_enter Tryd.func25, Tryd.ntmps25
  go_wp2
  go_loop [11] (fun v => ∃ j : Nat, j ≤ n ∧ v = .int .i64 j ∧ AllT N isEx L j R) (fun v => n - (intOf v).toNat)
  case atStart => exact ⟨0, by omega, rfl, HA⟩
  case round =>
    obtain ⟨j, hj, rfl, HT⟩ := hrel
    by_cases hlt : j < n
    · obtain ⟨g1, o1, rfl, k1⟩ := hL.out (by intro e; have := HN1.out; simp [e] at this; omega)
      have p1 := k1.cell j (HN1.out ▸ hlt)
      have HX := HT.next (HN1.out ▸ hlt)
      have hx := HRR.out _ (List.getElem_mem (l := L) (n := j) (HN1.out ▸ hlt))
      obtain ⟨x, e⟩ : ∃ x : Nat, L[j]'(HN1.out ▸ hlt) = (x : Int) := ⟨(L[j]'(HN1.out ▸ hlt)).toNat, by omega⟩
      rw [e] at p1 HX hx
      have hxn : x < nn := by have := HN2.out; omega
      obtain ⟨g2, o2, rfl, p2⟩ := hN.kind x (HN2.out ▸ hxn)
      obtain ⟨kk, hk⟩ : ∃ kk, kk = kd N (x : Int) := ⟨_, rfl⟩
      rw [← hk] at p2 HX
      have HXX : Hid _ := HX
      clear hk HX k1 e hx
      cases hp : isEx kk
      · go_wp2_with (first | (go_at_call 41; refine (isExpr_any _ _).mono ?_; rintro e w' ⟨rfl, rfl⟩; rw [hp]))
        go_ret
        exact ⟨ret_b (HXX.out.2 hp).symm, rfl⟩
      · go_wp2_with (first | (go_at_call 41; refine (isExpr_any _ _).mono ?_; rintro e w' ⟨rfl, rfl⟩; rw [hp]))
        go_round
        case rel => exact ⟨j + 1, by omega, by go_num, HXX.out.1 hp⟩
        case measure => simp [intOf]; omega
    · have HF : R = true := HT.fin (by have := HN1.out; omega)
      go_wp2
      go_ret
      exact ⟨rfl, rfl⟩
end Go.Proofs.YtjepkcebfojiaaaDoor
