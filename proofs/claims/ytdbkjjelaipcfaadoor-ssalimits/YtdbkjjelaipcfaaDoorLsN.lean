import Derived.Test.YtdbkjjelaipcfaaDoorLsK
import Derived.Test.YtdbkjjelaipcfaaDoorLsO
set_option linter.unusedVariables false
set_option linter.unusedSimpArgs false
namespace Go.Proofs.YtdbkjjelaipcfaaDoor
open Go.ChangeShapes Go.WideShapes Go.ChangeAt Go.RowKit Go.Maps

/-- A slice of pairs of numbers. -/
structure Prs (w : World) (ao : Option Addr) (cap : Nat) (L : List (Int × Int)) : Prop where
  le : L.length ≤ cap
  mx : cap ≤ 9223372036854775807
  out : L ≠ [] → ∃ b o, ao = some ⟨b, o, none⟩ ∧ b < w.heap.size ∧ ∀ i (h : i < L.length), w.cell? ⟨b, o + i * 2, none⟩ = some (.int .i64 L[i].1) ∧ w.cell? ⟨b, o + i * 2 + 1, none⟩ = some (.int .i64 L[i].2)
theorem Prs.below {w w' ao cap L K} (h : Prs w ao cap L) (hb : Below K w w') (hK : w.heap.size ≤ K) : Prs w' ao cap L :=
  ⟨h.le, h.mx, fun hn => by
    obtain ⟨b, o, e, h1, h2⟩ := h.out hn
    refine ⟨b, o, e, by have := hb.size; omega, fun i hi => ?_⟩
    have hc : ∀ q, w'.cell? ⟨b, q, none⟩ = w.cell? ⟨b, q, none⟩ := fun q => hb.cell (p := ⟨b, q, none⟩) (by show b < K; omega)
    rw [hc, hc]; exact h2 i hi⟩
theorem Prs.at {w ao cap L} (h : Prs w ao cap L) {i : Nat} (hi : i < L.length) : ∃ b o, ao = some ⟨b, o, none⟩ ∧ b < w.heap.size ∧ w.cell? ⟨b, o + i * 2, none⟩ = some (.int .i64 L[i].1) ∧ w.cell? ⟨b, o + i * 2 + 1, none⟩ = some (.int .i64 L[i].2) := by
  obtain ⟨b, o, e, h1, h2⟩ := h.out (by intro e; rw [e] at hi; simp at hi)
  exact ⟨b, o, e, h1, (h2 i hi).1, (h2 i hi).2⟩
theorem holds_at (w : World) (x1 x2 y1 y2 : Int) (R : Bool) (hR : holdsP (x1, x2) (y1, y2) = R) : Calls Tryd.prog 77 #[.agg #[.int .i64 x1, .int .i64 x2], .agg #[.int .i64 y1, .int .i64 y2]] w fun e w' => e = .returned (.bool R) ∧ Below w.heap.size w w' := by
  subst hR
  have hnew : Below w.heap.size w ((w.alloc (.cells #[.int .i64 x1, .int .i64 x2] 100)).alloc (.cells #[.int .i64 y1, .int .i64 y2] 100)) := ((Below.refl _ _).alloc (Nat.le_refl _) _).alloc (by simp) _
  unfold holdsP
  by_cases h : x1 ≤ y1
  · go_enter Tryd.func77, Tryd.ntmps77
    go_wp2_with fail
    go_ret
    exact ⟨by simp [h], hnew⟩
  · go_enter Tryd.func77, Tryd.ntmps77
    go_wp2_with fail
    go_ret
    exact ⟨by simp; omega, hnew⟩
/-- Is a value there at the end of a block? -/
def thereP (P R : List (Int × Int)) (v k : Int) : Bool := if (P.getD v.toNat (0, 0)).1 = -1 then true else holdsP (R.getD (P.getD v.toNat (0, 0)).1.toNat (0, 0)) (R.getD k.toNat (0, 0))
set_option maxRecDepth 100000 in
set_option maxHeartbeats 2000000 in
theorem isThere_any (w : World) (qa : Option Addr) (qn qc : Nat) (ra : Option Addr) (rn rc : Nat) (P R : List (Int × Int)) (eq : qn = P.length) (er : rn = R.length) (hP : Prs w qa qc P) (hR : Prs w ra rc R) (v k : Nat) (hv : v < qn) (hk : k < rn) (hs : (P.getD v (0, 0)).1 = -1 ∨ (0 ≤ (P.getD v (0, 0)).1 ∧ (P.getD v (0, 0)).1 < rn)) :
    Calls Tryd.prog 52 #[.agg #[.slice qa qn qc, .slice ra rn rc], .int .i64 v, .int .i64 k] w fun e w' => e = .returned (.bool (thereP P R v k)) ∧ Below w.heap.size w w' := by
  have hv' : v < P.length := by omega
  have hk' : k < R.length := by omega
  have bq : qn ≤ 9223372036854775807 := by have := hP.le; have := hP.mx; omega
  have br : rn ≤ 9223372036854775807 := by have := hR.le; have := hR.mx; omega
  have her : Hid (rn = R.length) := er
  clear eq er
  obtain ⟨b1, o1, rfl, l1, p1, p2⟩ := hP.at hv'
  obtain ⟨b2, o2, rfl, l2, q1, q2⟩ := hR.at hk'
  have ev : P.getD (v : Int).toNat (0, 0) = P[v] := by simp [hv']
  have ev' : P.getD v (0, 0) = P[v] := by simp [hv']
  have ek : R.getD (k : Int).toNat (0, 0) = R[k] := by simp [hk']
  unfold thereP
  rw [ev, ek]
  rw [ev'] at hs
  have A0 : Af1 w (.cells #[.slice (some ⟨b1, o1, none⟩) qn qc, .slice (some ⟨b2, o2, none⟩) rn rc] 75) (w.alloc (.cells #[.slice (some ⟨b1, o1, none⟩) qn qc, .slice (some ⟨b2, o2, none⟩) rn rc] 75)) := Af1.refl _ _
  have c1 := (A0.low.cell (p := ⟨b1, o1 + v * 2, none⟩) l1).trans p1
  generalize P[v].1 = t at c1 hs
  rcases hs with rfl | ⟨h0, h1⟩
  · rw [if_pos rfl]
    clear hP hR p1 p2 q1 q2
    go_enter Tryd.func52, Tryd.ntmps52
    go_wp2_with fail
    go_quiet (fail)
    go_wp2_with fail
    go_ret
    exact ⟨rfl, below_drawn A0.low _⟩
  · rw [if_neg (by omega)]
    obtain ⟨p, rfl⟩ : ∃ p : Nat, t = p := ⟨t.toNat, by omega⟩
    have hp : p < rn := by omega
    have hp' : p < R.length := by have := her.out; omega
    obtain ⟨b3, o3, e3, _, u1, u2⟩ := hR.at hp'
    cases e3
    have ep : R.getD (p : Int).toNat (0, 0) = R[p] := by simp [hp']
    rw [ep]
    obtain ⟨⟨x1, x2⟩, hx⟩ : ∃ x, x = R[p] := ⟨_, rfl⟩
    obtain ⟨⟨y1, y2⟩, hy⟩ : ∃ y, y = R[k] := ⟨_, rfl⟩
    rw [← hx] at u1 u2 ⊢
    rw [← hy] at q1 q2 ⊢
    simp only at u1 u2 q1 q2
    have hd : Below (w.alloc (.cells #[.slice (some ⟨b1, o1, none⟩) qn qc, .slice (some ⟨b2, o2, none⟩) rn rc] 75)).heap.size (w.alloc (.cells #[.slice (some ⟨b1, o1, none⟩) qn qc, .slice (some ⟨b2, o2, none⟩) rn rc] 75)) (w.alloc (.cells #[.slice (some ⟨b1, o1, none⟩) qn qc, .slice (some ⟨b2, o2, none⟩) rn rc] 75)).drew := (Below.refl _ _).drew
    have HS : Hid (∀ w1, Af1 w (.cells #[.slice (some ⟨b1, o1, none⟩) qn qc, .slice (some ⟨b2, o2, none⟩) rn rc] 75) w1 → (fun w' : World => w'.cell? ⟨w.heap.size, 1, none⟩ = some (.slice (some ⟨b2, o2, none⟩) rn rc) ∧ w'.cell? ⟨b2, o2 + p * 2, none⟩ = some (.int .i64 x1) ∧ w'.cell? ⟨b2, o2 + p * 2 + 1, none⟩ = some (.int .i64 x2) ∧ w'.cell? ⟨b2, o2 + k * 2, none⟩ = some (.int .i64 y1) ∧ w'.cell? ⟨b2, o2 + k * 2 + 1, none⟩ = some (.int .i64 y2)) w1) := fun w1 h => ⟨cell_arr h.one rfl, (h.low.cell (p := ⟨b2, o2 + p * 2, none⟩) l2).trans u1, (h.low.cell (p := ⟨b2, o2 + p * 2 + 1, none⟩) l2).trans u2, (h.low.cell (p := ⟨b2, o2 + k * 2, none⟩) l2).trans q1, (h.low.cell (p := ⟨b2, o2 + k * 2 + 1, none⟩) l2).trans q2⟩
    have S0 := HS.out _ (A0.next hd)
    generalize hRR : holdsP (x1, x2) (y1, y2) = Rv
    have nm1 : ¬ (p : Int) = -1 := by omega
    have HA : Hid _ := A0
    clear hP hR p1 p2 q1 q2 u1 u2 hx hy ev ev' ek ep
    go_enter Tryd.func52, Tryd.ntmps52
    go_wp2_with fail
    go_region_held (fun w' => w'.cell? ⟨w.heap.size, 1, none⟩ = some (.slice (some ⟨b2, o2, none⟩) rn rc) ∧ w'.cell? ⟨b2, o2 + p * 2, none⟩ = some (.int .i64 x1) ∧ w'.cell? ⟨b2, o2 + p * 2 + 1, none⟩ = some (.int .i64 x2) ∧ w'.cell? ⟨b2, o2 + k * 2, none⟩ = some (.int .i64 y1) ∧ w'.cell? ⟨b2, o2 + k * 2 + 1, none⟩ = some (.int .i64 y2)) (first | exact S0 | exact S1)
      (first | (go_at_call 77; refine (holds_at _ _ _ _ _ _ hRR).mono ?_; rintro e w1 ⟨rfl, hb1⟩; have A1 := (HA.out.next hd).next hb1; have S1 := HS.out w1 A1))
    all_goals go_wp2_with fail
    all_goals go_ret
    all_goals first | exact ⟨rfl, A1.low⟩ | exact ⟨by simp, A1.low⟩
end Go.Proofs.YtdbkjjelaipcfaaDoor
namespace Go.Proofs.YtdbkjjelaipcfaaDoor
open Go.ChangeShapes Go.WideShapes Go.ChangeAt Go.RowKit Go.Maps

/-- Is a value there ahead of a place? -/
def aheadP (P R : List (Int × Int)) (v : Int) (b at_ : Int) : Bool := if (P.getD v.toNat (0, 0)).1 = b then decide ((P.getD v.toNat (0, 0)).2 < at_) else thereP P R v b
set_option maxRecDepth 100000 in
set_option maxHeartbeats 2000000 in
theorem isAhead_any (w : World) (qa : Option Addr) (qn qc : Nat) (ra : Option Addr) (rn rc : Nat) (P R : List (Int × Int)) (eq : qn = P.length) (er : rn = R.length) (hP : Prs w qa qc P) (hR : Prs w ra rc R) (v k : Nat) (at_ : Int) (hv : v < qn) (hk : k < rn) (hs : (P.getD v (0, 0)).1 = -1 ∨ (0 ≤ (P.getD v (0, 0)).1 ∧ (P.getD v (0, 0)).1 < rn)) :
    Calls Tryd.prog 55 #[.agg #[.slice qa qn qc, .slice ra rn rc], .int .i64 v, .agg #[.int .i64 k, .int .i64 at_]] w fun e w' => e = .returned (.bool (aheadP P R v k at_)) ∧ Below w.heap.size w w' := by
  have hv' : v < P.length := by omega
  have bq : qn ≤ 9223372036854775807 := by have := hP.le; have := hP.mx; omega
  obtain ⟨b1, o1, e1, l1, p1, p2⟩ := hP.at hv'
  have A0 : Aft w (.cells #[.slice qa qn qc, .slice ra rn rc] 75) (.cells #[.int .i64 (k : Int), .int .i64 at_] 78) ((w.alloc (.cells #[.slice qa qn qc, .slice ra rn rc] 75)).alloc (.cells #[.int .i64 (k : Int), .int .i64 at_] 78)) := Aft.refl _ _ _
  have HT : Hid (∀ w', Aft w (.cells #[.slice qa qn qc, .slice ra rn rc] 75) (.cells #[.int .i64 (k : Int), .int .i64 at_] 78) w' → Calls Tryd.prog 52 #[.agg #[.slice qa qn qc, .slice ra rn rc], .int .i64 v, .int .i64 k] w' fun e w'' => e = .returned (.bool (thereP P R v k)) ∧ Below w'.heap.size w' w'') := fun w' h => isThere_any w' qa qn qc ra rn rc P R eq er (hP.below h.low (Nat.le_refl _)) (hR.below h.low (Nat.le_refl _)) v k hv hk hs
  have ev : P.getD (v : Int).toNat (0, 0) = P[v] := by simp [hv']
  unfold aheadP
  rw [ev]
  have c1 := (A0.low.cell (p := ⟨b1, o1 + v * 2, none⟩) l1).trans p1
  have c2 := (A0.low.cell (p := ⟨b1, o1 + v * 2 + 1, none⟩) l1).trans p2
  generalize P[v].1 = t at c1
  generalize P[v].2 = u at c2
  generalize thereP P R v k = Rv at HT
  subst e1
  have HA : Hid _ := A0
  clear eq er hP hR p1 p2 ev hs
  by_cases h : t = k
  · subst h
    rw [if_pos rfl]
    go_enter Tryd.func55, Tryd.ntmps55
    go_wp2_with fail
    go_quiet (fail)
    go_wp2_with fail
    go_quiet (fail)
    go_wp2_with fail
    go_ret
    refine ⟨rfl, ?_⟩
    repeat refine below_drawn ?_ _
    exact HA.out.low
  · rw [if_neg h]
    have h' : (t == (k : Int)) = false := by simp [h]
    clear h
    go_enter Tryd.func55, Tryd.ntmps55
    go_wp2_with fail
    go_quiet (fail)
    go_wp2_with (go_at_call 52; refine (HT.out _ (HA.out.drawn _)).mono ?_; rintro e w1 ⟨rfl, hb1⟩)
    go_ret
    exact ⟨rfl, ((HA.out.drawn _).next hb1).low⟩
end Go.Proofs.YtdbkjjelaipcfaaDoor
namespace Go.Proofs.YtdbkjjelaipcfaaDoor
open Go.ChangeShapes Go.WideShapes Go.ChangeAt Go.RowKit Go.Maps

/-- The cells of pairs. -/
def pvs (L : List (Int × Int)) : List Value := L.flatMap fun p => [.int .i64 p.1, .int .i64 p.2]
theorem pvs_len (L : List (Int × Int)) : (pvs L).length = L.length * 2 := by
  induction L with
  | nil => rfl
  | cons x xs ih => simp only [pvs, List.flatMap_cons, List.length_append] at ih ⊢; rw [ih]; simp; omega
theorem pvs_at (L : List (Int × Int)) : ∀ i (h : i < L.length), (pvs L)[i * 2]? = some (.int .i64 L[i].1) ∧ (pvs L)[i * 2 + 1]? = some (.int .i64 L[i].2) := by
  induction L with
  | nil => intro i h; simp at h
  | cons x xs ih =>
    intro i h
    cases i with
    | zero => simp [pvs]
    | succ i =>
      have := ih i (by simpa using h)
      have e : pvs (x :: xs) = .int .i64 x.1 :: .int .i64 x.2 :: pvs xs := rfl
      rw [e, show (i + 1) * 2 = i * 2 + 1 + 1 by omega]
      simpa using this
theorem pvs_set (L : List (Int × Int)) : ∀ i (a b : Int), i < L.length → pvs (L.set i (a, b)) = ((pvs L).set (i * 2) (.int .i64 a)).set (i * 2 + 1) (.int .i64 b) := by
  induction L with
  | nil => intro i a b h; simp at h
  | cons x xs ih =>
    intro i a b h
    have e : ∀ (y : Int × Int) ys, pvs (y :: ys) = .int .i64 y.1 :: .int .i64 y.2 :: pvs ys := fun _ _ => rfl
    cases i with
    | zero => simp [e]
    | succ i =>
      have := ih i a b (by simpa using h)
      rw [List.set_cons_succ, e, e, this, show (i + 1) * 2 = i * 2 + 1 + 1 by omega]
      simp
/-- A row of pairs of the call's own. -/
structure Pl (w : World) (g n : Nat) (t : TypeId) (L : List (Int × Int)) : Prop where
  row : w.heap[g]? = some (.cells (pvs L).toArray t (0, 0))
  len : L.length = n
theorem Pl.keep {w w' : World} {g n t L} (h : Pl w g n t L) (hb : Below w.heap.size w w') : Pl w' g n t L :=
  ⟨(hb.block _ (Array.getElem?_eq_some_iff.1 h.row).1).trans h.row, h.len⟩
theorem Pl.cell {w : World} {g n t L} (h : Pl w g n t L) {i : Nat} (hi : i < n) : (∃ v, w.cell? ⟨g, i * 2, none⟩ = some v) ∧ (∃ v, w.cell? ⟨g, i * 2 + 1, none⟩ = some v) ∧ w.frozen? ⟨g, i * 2, none⟩ = false ∧ w.frozen? ⟨g, i * 2 + 1, none⟩ = false ∧ g < w.heap.size := by
  have hi' : i < L.length := by have := h.len; omega
  obtain ⟨h1, h2⟩ := pvs_at L i hi'
  exact ⟨⟨_, cell_arr h.row (by simpa using h1)⟩, ⟨_, cell_arr h.row (by simpa using h2)⟩, fz_of h.row, fz_of h.row, (Array.getElem?_eq_some_iff.1 h.row).1⟩
theorem Pl.put {w : World} {g n t L} (h : Pl w g n t L) {i : Nat} (hi : i < n) (a b : Int) : Pl ((w.setCell ⟨g, i * 2, none⟩ (.int .i64 a)).setCell ⟨g, i * 2 + 1, none⟩ (.int .i64 b)) g n t (L.set i (a, b)) := by
  have hi' : i < L.length := by have := h.len; omega
  refine ⟨?_, by simpa using h.len⟩
  have h1 := heap_set_at (i := i * 2) (v := .int .i64 a) h.row
  have h2 := heap_set_at (i := i * 2 + 1) (v := .int .i64 b) h1
  rw [h2, pvs_set L i a b hi']
  simp
theorem Pl.prs {w : World} {g n t L} (h : Pl w g n t L) (hn : n ≤ 9223372036854775807) : Prs w (some ⟨g, 0, none⟩) n L := by
  refine ⟨by rw [h.len]; exact Nat.le_refl _, hn, fun _ => ⟨g, 0, rfl, (Array.getElem?_eq_some_iff.1 h.row).1, fun i hi => ?_⟩⟩
  obtain ⟨h1, h2⟩ := pvs_at L i hi
  rw [Nat.zero_add]
  exact ⟨cell_arr h.row (by simpa using h1), cell_arr h.row (by simpa using h2)⟩
end Go.Proofs.YtdbkjjelaipcfaaDoor
