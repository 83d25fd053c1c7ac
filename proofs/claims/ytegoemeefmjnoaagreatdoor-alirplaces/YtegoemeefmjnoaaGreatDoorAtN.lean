import Derived.Test.YtegoemeefmjnoaaGreatDoorAtK
set_option linter.unusedVariables false
set_option linter.unusedSimpArgs false
namespace Go.Proofs.YtegoemeefmjnoaaGreatDoor
open Go.ChangeShapes Go.WideShapes Go.ChangeAt Go.RowKit Go.Maps

set_option maxRecDepth 100000 in
theorem withinP_any (w : World) (n : Int) : Calls Tryz.prog 28 #[.int .i64 n, .int .i64 16] w fun e w' => e = .returned (.int .i64 ((wn n : Nat) : Int)) ∧ w = w' := by
  obtain ⟨r, hr⟩ : ∃ r, r = n.tmod 16 := ⟨_, rfl⟩
  have h1 : ((wn n : Nat) : Int) = if r < 0 then r + 16 else r := by
    unfold wn
    have e := Int.tmod_eq_emod (a := n) (b := 16)
    rw [hr, e]
    split <;> split <;> omega
  have hb : -16 < r ∧ r < 16 := by
    have e := Int.tmod_eq_emod (a := n) (b := 16)
    rw [hr, e]
    split <;> omega
  have HR : Hid (r = n.tmod 16) := hr
  by_cases hz : r < 0
  · rw [if_pos hz] at h1
    have q : decide (r < 0) = true := decide_eq_true hz
    have m : IntKind.i64.wrap (r + 16) = r + 16 := by rw [IntKind.wrap_i64]; omega
    have HH : Hid (((wn n : Nat) : Int) = r + 16) := h1
    clear h1 hb hz hr
    go_enter Tryz.func28, Tryz.ntmps28
    go_upto_region 2 with fail
    rw [← HR.out]
    go_wp2_with fail
    go_ret
    rw [HH.out]
    exact ⟨rfl, rfl⟩
  · rw [if_neg hz] at h1
    have q : decide (r < 0) = false := decide_eq_false hz
    have HH : Hid (((wn n : Nat) : Int) = r) := h1
    clear h1 hb hz hr
    go_enter Tryz.func28, Tryz.ntmps28
    go_upto_region 2 with fail
    rw [← HR.out]
    go_wp2_with fail
    go_ret
    rw [HH.out]
    exact ⟨rfl, rfl⟩
set_option maxRecDepth 100000 in
theorem whereP_any (w : World) (k : Nat) (hk : k < 16) : Calls Tryz.prog 15 #[.int .i64 (k : Int)] w fun e w' => e = .returned (.agg #[.int .i64 (whP k).1, .int .i64 (whP k).2]) ∧ Below w.heap.size w w' := by
  have HR : Hid (∀ W n, Calls Tryz.prog 9 #[.int .i64 n] W fun e w' => e = .returned (.agg #[.int .i64 1, .int .i64 n]) ∧ w' = W.alloc (.cells #[.int .i64 1, .int .i64 n] 24)) := regA_any
  have HS : Hid (∀ W n, Calls Tryz.prog 10 #[.int .i64 n] W fun e w' => e = .returned (.agg #[.int .i64 2, .int .i64 n]) ∧ w' = W.alloc (.cells #[.int .i64 2, .int .i64 n] 24)) := slotA_any
  by_cases q : k < 8
  · have e : whP k = (1, (k : Int)) := if_pos q
    rw [e]
    have q1 : decide ((k : Int) < 8) = true := by simp; omega
    clear q e hk
    go_enter Tryz.func15, Tryz.ntmps15
    go_wp2_with (first
      | (go_at_call 9; refine (HR.out _ _).mono ?_; rintro e w' ⟨rfl, rfl⟩)
      | (go_at_call 10; refine (HS.out _ _).mono ?_; rintro e w' ⟨rfl, rfl⟩))
    refine bodyPost_ret (v := .agg #[.int .i64 1, .int .i64 (k : Int)]) ?_ rfl ⟨rfl, ?_⟩
    · exact results_cell_row Tryz.results15 _ _ w.heap.size 24 _ (0, 0) _ rfl ((heap_alloc_old _ _ (by simp)).trans (heap_alloc_new w _)) Tryz.underlying24 rfl (by kernel_rfl)
    · exact (below_newA w _).trans ((below_newA _ _).mono (by simp))
  · have e : whP k = (2, (k : Int) - 8) := if_neg q
    rw [e]
    have q1 : decide ((k : Int) < 8) = false := by simp; omega
    have m : IntKind.i64.wrap ((k : Int) - 8) = (k : Int) - 8 := by rw [IntKind.wrap_i64]; omega
    clear q e hk
    go_enter Tryz.func15, Tryz.ntmps15
    go_wp2_with (first
      | (go_at_call 9; refine (HR.out _ _).mono ?_; rintro e w' ⟨rfl, rfl⟩)
      | (go_at_call 10; refine (HS.out _ _).mono ?_; rintro e w' ⟨rfl, rfl⟩))
    refine bodyPost_ret (v := .agg #[.int .i64 2, .int .i64 ((k : Int) - 8)]) ?_ rfl ⟨rfl, ?_⟩
    · exact results_cell_row Tryz.results15 _ _ w.heap.size 24 _ (0, 0) _ rfl ((heap_alloc_old _ _ (by simp)).trans (heap_alloc_new w _)) Tryz.underlying24 rfl (by kernel_rfl)
    · exact (below_newA w _).trans ((below_newA _ _).mono (by simp))
/-- A list of Puts. -/
def ptc (p : Pt) : List Value := [.int .i64 p.to_, .int .i64 p.from_, .int .i64 p.num, .bool p.isN]
def Pts (w : World) (a : Option Addr) (c : Nat) (l : List Pt) : Prop := StsG w a c 4 (l.map ptc)
theorem Pts.at {w a c l} (h : Pts w a c l) {j : Nat} (hj : j < l.length) : ∃ b o, a = some ⟨b, o, none⟩ ∧ b < w.heap.size ∧ w.cell? ⟨b, o + j * 4, none⟩ = some (.int .i64 l[j].to_) ∧ w.cell? ⟨b, o + j * 4 + 1, none⟩ = some (.int .i64 l[j].from_) ∧ w.cell? ⟨b, o + j * 4 + 2, none⟩ = some (.int .i64 l[j].num) ∧ w.cell? ⟨b, o + j * 4 + 3, none⟩ = some (.bool l[j].isN) := by
  obtain ⟨b, o, e, hl, hc⟩ := StsG.at h (j := j) (by simpa using hj)
  have hg : (l.map ptc).getD j [] = ptc l[j] := by simp [List.getD, hj]
  rw [hg] at hc
  exact ⟨b, o, e, hl, hc 0 _ rfl, hc 1 _ rfl, hc 2 _ rfl, hc 3 _ rfl⟩
/-- The places of an instruction, in a block of their own; its saves. -/
def LcK (w : World) (a : Option Addr) (c : Nat) (L : List (Int × Int)) : Prop := (L = [] ∧ a = none ∧ c = 0) ∨ ∃ g, a = some ⟨g, 0, none⟩ ∧ c = L.length ∧ w.heap[g]? = some (.cells (L.map lov).flatten.toArray 24 (0, 0))
def SvK (w : World) (a : Option Addr) (c : Nat) (S : List Int) : Prop := (S = [] ∧ a = none ∧ c = 0) ∨ ∃ g A, S ≠ [] ∧ a = some ⟨g, 0, none⟩ ∧ S.length ≤ c ∧ c ≤ 9223372036854775807 ∧ w.heap[g]? = some (.cells A 3 (0, 0)) ∧ ∀ i (h : i < S.length), A[i]? = some (.int .i64 S[i])
def PlE (w : World) (cs : List Value) (x : Ai) : Prop := ∃ a1 c1 a2 c2, cs = aiv x a1 c1 a2 c2 ∧ LcK w a1 c1 x.args ∧ SvK w a2 c2 x.saves
theorem LcK.kp {T B w w' a c L} (h : LcK w a c L) (k : Kp T B w w') (hT : (24 : TypeId) ∉ T) : LcK w' a c L := by
  rcases h with h | ⟨g, h1, h2, h3⟩
  · exact .inl h
  · exact .inr ⟨g, h1, h2, (k.old g (Array.getElem?_eq_some_iff.1 h3).1 (.inr ⟨_, _, h3, hT⟩)).trans h3⟩
theorem SvK.kp {T B w w' a c S} (h : SvK w a c S) (k : Kp T B w w') (hT : (3 : TypeId) ∉ T) : SvK w' a c S := by
  rcases h with h | ⟨g, A, h0, h1, h2, h3, h4, h5⟩
  · exact .inl h
  · exact .inr ⟨g, A, h0, h1, h2, h3, (k.old g (Array.getElem?_eq_some_iff.1 h4).1 (.inr ⟨_, _, h4, hT⟩)).trans h4, h5⟩
theorem PlE.kp {T B w w'} (k : Kp T B w w') (hT : (24 : TypeId) ∉ T) (hT2 : (3 : TypeId) ∉ T) (cs : List Value) (x : Ai) (h : PlE w cs x) : PlE w' cs x := by
  obtain ⟨a1, c1, a2, c2, e, h1, h2⟩ := h
  exact ⟨a1, c1, a2, c2, e, h1.kp k hT, h2.kp k hT2⟩
theorem LcK.locs {w a c L} (h : LcK w a c L) (hm : L.length ≤ 9223372036854775807) : Locs w a c L := by
  rcases h with ⟨rfl, rfl, rfl⟩ | ⟨g, rfl, rfl, h3⟩
  · exact locs_none w
  · exact locs_exact h3 rfl hm
theorem SvK.ints {w a c S} (h : SvK w a c S) : Ints w a c S := by
  rcases h with ⟨rfl, rfl, rfl⟩ | ⟨g, A, _, rfl, h2, h3, h4, h5⟩
  · exact ints_noneA w
  · exact ⟨h2, h3, fun _ => ⟨g, 0, rfl, (Array.getElem?_eq_some_iff.1 h4).1, fun i hi => by rw [Nat.zero_add]; exact cell_arr h4 (h5 i hi)⟩⟩
theorem PlE.en {w cs x} (h : PlE w cs x) (hm : x.args.length ≤ 9223372036854775807) : EnI w cs x := by
  obtain ⟨a1, c1, a2, c2, e, h1, h2⟩ := h
  exact ⟨a1, c1, a2, c2, e, h1.locs hm, h2.ints⟩
theorem RowE.lst {w B v} {N : List Ai} (h : RowE PlE 29 6 w B v N) (hm : ∀ x ∈ N, x.args.length ≤ 9223372036854775807) : ∃ ao c, v = .slice ao N.length c ∧ Lst EnI 6 w ao c N := by
  obtain ⟨xs, h1, h2, h3⟩ := h.out
  have hone : ∀ u ∈ xs.flatten, u.oneCell' = true := fun u hu => by
    obtain ⟨cs, hcs, hu'⟩ := List.mem_flatten.1 hu
    obtain ⟨i, hi, e⟩ := List.mem_iff_getElem.1 hcs
    obtain ⟨a1, c1, a2, c2, e2, _, _⟩ := h3 i (by omega)
    have e3 : xs.getD i [] = xs[i] := by simp [List.getD, hi]
    rw [e3, e] at e2
    rw [e2] at hu'
    simp only [aiv, List.mem_cons, List.not_mem_nil, or_false] at hu'
    rcases hu' with rfl | rfl | rfl | rfl | rfl | rfl <;> rfl
  obtain ⟨ao, c, ev, hs⟩ := row_sts h1 hone
  rw [h2] at ev
  exact ⟨ao, c, ev, xs, h2, hs, fun i hi => (h3 i hi).en (hm _ (List.getElem_mem hi))⟩
/-- What is held. -/
def HbA (w : World) (g : Nat) (H : List Int) : Prop := w.heap[g]? = some (.cells (H.map (Value.int .i64)).toArray 55 (0, 0))
theorem HbA.cell {w g H} (h : HbA w g H) {k : Nat} (hk : k < H.length) : w.cell? ⟨g, k, none⟩ = some (.int .i64 (H.getD k 0)) := cell_arr h (by simp [hk, List.getD])
theorem HbA.set {w g H} (h : HbA w g H) (k : Nat) (x : Int) : HbA (w.setCell ⟨g, k, none⟩ (.int .i64 x)) g (H.set k x) := by
  have := heap_set_at (i := k) (v := .int .i64 x) h
  unfold HbA
  rw [this, List.setIfInBounds_toArray, List.map_set]
/-- The list while it is made, and what is held. -/
structure PlS (w0 w : World) (hb : Nat) (v : Value) (N : List Ai) (H : List Int) : Prop where
  low : Only (fun k => k = hb) w0 w
  lt : hb < w0.heap.size
  row : RowE PlE 29 6 w w0.heap.size v N
  hd : HbA w hb H
theorem RowE.belowP {w w' B v N} (h : RowE PlE 29 6 w B v N) (b : Below w.heap.size w w') : RowE PlE 29 6 w' B v N :=
  h.kp (Kp.of_below (T := []) b) (by simp) (PlE.kp (Kp.of_below (T := []) (B := 0) b) (by simp) (by simp))
theorem PlS.below {w0 w w' hb v N H} (h : PlS w0 w hb v N H) (b : Below w.heap.size w w') : PlS w0 w' hb v N H :=
  ⟨h.low.trans (Only.of_below b _) fun i _ hf => hf, h.lt, h.row.belowP b, (b.block _ (Array.getElem?_eq_some_iff.1 h.hd).1).trans h.hd⟩
theorem PlS.setH {w0 w hb v N H} (h : PlS w0 w hb v N H) (k : Nat) (x : Int) : PlS w0 (w.setCell ⟨hb, k, none⟩ (.int .i64 x)) hb v N (H.set k x) := by
  have kp : Kp [55] 0 w (w.setCell ⟨hb, k, none⟩ (.int .i64 x)) := Kp.set h.hd (by simp) (Nat.zero_le _) _
  obtain ⟨xs, h1, h2, h3⟩ := h.row.out
  refine ⟨h.low.trans (Only.of_set w ⟨hb, k, none⟩ _) fun i _ hf => hf, h.lt, ⟨xs, h1.move fun g hg => heap_set_other (by have := (own_block h1.out hg).1; have := h.lt; omega), h2, fun i hi => PlE.kp kp (by simp) (by simp) _ _ (h3 i hi)⟩, h.hd.set k x⟩
/-- One instruction more. -/
theorem PlS.push {w0 w hb v N H} (h : PlS w0 w hb v N H) {w2 w' : World} (b : Below w.heap.size w w2) {xs : List (List Value)} (hr : Row w2 w0.heap.size 29 6 v xs) (hl : xs.length = N.length) (hE : ∀ i (h : i < N.length), PlE w (xs.getD i []) N[i]) {cs : List Value} {x : Ai} (hx : PlE w2 cs x) {v' : Value} (r' : Row w' w0.heap.size 29 6 v' (xs ++ [cs])) (g : GI w0.heap.size w2 w' v v') : PlS w0 w' hb v' (N ++ [x]) H := by
  have h2 := h.below b
  have kp : Kp [29] w0.heap.size w2 w' := Kp.gi g hr (by simp)
  refine ⟨⟨g.bel.os.trans h2.low.os, g.bel.tape.trans h2.low.tape, g.bel.output.trans h2.low.output, Nat.le_trans h2.low.size g.bel.size, fun k hk hn => (g.bel.block k hk).trans (h2.low.block k hk hn)⟩, h.lt, RowE.push r' hl (fun i hi => PlE.kp kp (by simp) (by simp) _ _ (PlE.kp (Kp.of_below (T := []) (B := 0) b) (by simp) (by simp) _ _ (hE i hi))) (PlE.kp kp (by simp) (by simp) _ _ hx), (kp.old hb (Array.getElem?_eq_some_iff.1 h2.hd).1 (.inl h.lt)).trans h2.hd⟩
/-- Other memory is written: blocks of instructions or numbers that are not the list's. -/
theorem PlS.only {w0 w hb v N H} (h : PlS w0 w hb v N H) (hs : ∀ x ∈ N, x.saves = []) {F : Nat → Prop} {w' : World} (ho : Only F w w') (hF : ∀ k, F k → k < w.heap.size → w0.heap.size ≤ k ∧ v.ownBlock ≠ some k ∧ ∃ A t, w.heap[k]? = some (.cells A t (0, 0)) ∧ (t = 29 ∨ t = 3)) : PlS w0 w' hb v N H := by
  have hbl := (Array.getElem?_eq_some_iff.1 h.hd).1
  obtain ⟨xs, h1, h2, h3⟩ := h.row.out
  refine ⟨h.low.trans ho fun i hi hf => ?_, h.lt, ⟨xs, h1.move fun g hg => ho.block g (own_block h1.out hg).2 fun hf => (hF g hf (own_block h1.out hg).2).2.1 hg, h2, fun i hi => ?_⟩, (ho.block hb hbl fun hf => ?_).trans h.hd⟩
  · have := (hF i hf (Nat.lt_of_lt_of_le hi h.low.size)).1
    omega
  · obtain ⟨a1, c1, a2, c2, e, q1, q2⟩ := h3 i hi
    refine ⟨a1, c1, a2, c2, e, ?_, ?_⟩
    · rcases q1 with q | ⟨g, r1, r2, r3⟩
      · exact .inl q
      · have hg := (Array.getElem?_eq_some_iff.1 r3).1
        refine .inr ⟨g, r1, r2, (ho.block g hg fun hf => ?_).trans r3⟩
        obtain ⟨A, t, z1, z2⟩ := (hF g hf hg).2.2
        rw [r3] at z1
        cases z1
        rcases z2 with z | z <;> exact absurd z (by decide)
    · rcases q2 with q | ⟨g, A, r0, _⟩
      · exact .inl q
      · exact absurd (hs _ (List.getElem_mem hi)) r0
  · have := (hF hb hf hbl).1
    have := h.lt
    omega
/-- What another list's making leaves. -/
theorem PlS.over {w0 w w' hb v N H v2 N2 H2} (h : PlS w0 w hb v N H) (h2 : PlS w w' hb v2 N2 H2) : PlS w0 w' hb v N H2 := by
  have kp : Kp [55] 0 w w' := ⟨h2.low.size, fun g hg q => h2.low.block g hg (by
    rintro rfl
    rcases q with q | ⟨A, t, q1, q2⟩
    · omega
    · rw [h.hd] at q1
      cases q1
      exact q2 (by simp))⟩
  obtain ⟨xs, h3, h4, h5⟩ := h.row.out
  exact ⟨h.low.trans h2.low fun i _ hf => hf, h.lt, ⟨xs, h3.move fun g hg => h2.low.block g (own_block h3.out hg).2 (by have := (own_block h3.out hg).1; have := h.lt; omega), h4, fun i hi => PlE.kp kp (by simp) (by simp) _ _ (h5 i hi)⟩, h2.hd⟩
/-- Two lists become one. -/
theorem PlS.both {w0 w w1 hb v N H v2 N2} (h : PlS w0 w hb v N H) {B2 : Nat} (h2 : RowE PlE 29 6 w B2 v2 N2) {xs ys : List (List Value)} (hr : Row w w0.heap.size 29 6 v xs) (hl : xs.length = N.length) (hE : ∀ i (h : i < N.length), PlE w (xs.getD i []) N[i]) (hl2 : ys.length = N2.length) (hE2 : ∀ i (h : i < N2.length), PlE w (ys.getD i []) N2[i]) {v' : Value} (r' : Row w1 w0.heap.size 29 6 v' (xs ++ ys)) (g : GI w0.heap.size w w1 v v') : PlS w0 w1 hb v' (N ++ N2) H := by
  have kp : Kp [29] w0.heap.size w w1 := Kp.gi g hr (by simp)
  refine ⟨⟨g.bel.os.trans h.low.os, g.bel.tape.trans h.low.tape, g.bel.output.trans h.low.output, Nat.le_trans h.low.size g.bel.size, fun k hk hn => (g.bel.block k hk).trans (h.low.block k hk hn)⟩, h.lt, ⟨xs ++ ys, r', by simp [hl, hl2], fun i hi => ?_⟩, (kp.old hb (Array.getElem?_eq_some_iff.1 h.hd).1 (.inl h.lt)).trans h.hd⟩
  refine PlE.kp kp (by simp) (by simp) _ _ ?_
  by_cases q : i < N.length
  · have e1 : (xs ++ ys).getD i [] = xs.getD i [] := by simp [List.getD, List.getElem?_append_left (show i < xs.length by omega)]
    rw [e1, List.getElem_append_left q]
    exact hE i q
  · have hi2 : i - N.length < N2.length := by simp at hi; omega
    have e1 : (xs ++ ys).getD i [] = ys.getD (i - N.length) [] := by simp [List.getD, List.getElem?_append_right (show xs.length ≤ i by omega), hl]
    rw [e1, List.getElem_append_right (by omega)]
    exact hE2 _ hi2
end Go.Proofs.YtegoemeefmjnoaaGreatDoor
