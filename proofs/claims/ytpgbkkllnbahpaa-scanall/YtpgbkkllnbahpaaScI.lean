import Derived.Test.YtpgbkkllnbahpaaScC
set_option linter.unusedVariables false
set_option linter.unusedSimpArgs false
namespace Go.Proofs.Ytpgbkkllnbahpaa
open Go.ChangeShapes Go.WideShapes Go.ChangeAt Go.RowKit Go.Maps

theorem seg_ins {C A D cs : List Value} {p z n : Nat} (hA : A.length = p) (hz : cs.length = z) (hC : C.take n = A ++ D) (hn : n = p + D.length) (hl : n + z ≤ C.length) : (seg (seg C (p + z) D) p cs).take (n + z) = A ++ cs ++ D := by
  have e1 : C.take p = A := by
    have := congrArg (List.take p) hC
    rw [List.take_take, Nat.min_eq_left (by omega), List.take_append_of_le_length (by omega)] at this
    rw [this, List.take_of_length_le (by omega)]
  have e2 : (seg C (p + z) D).take p = A := by rw [seg_take (by omega) (by omega), e1]
  have e3 : (seg C (p + z) D).drop (p + cs.length) = D ++ C.drop (p + z + D.length) := by
    unfold seg
    rw [List.append_assoc, List.drop_append, hz]
    have : (C.take (p + z)).length = p + z := by simp; omega
    rw [List.drop_of_length_le (by omega), this]
    simp
  show ((seg C (p + z) D).take p ++ cs ++ (seg C (p + z) D).drop (p + cs.length)).take (n + z) = _
  rw [e2, e3, ← List.append_assoc, List.take_append_of_le_length (by simp; omega), List.take_of_length_le (by simp; omega)]
theorem seg_ins2 {C A D cs : List Value} {p z : Nat} (hA : A.length = p) (hz : cs.length = z) (hC : C.take p = A) (hl : p + z + D.length ≤ C.length) : (seg (seg C p cs) (p + z) D).take (p + z + D.length) = A ++ cs ++ D := by
  have e1 : (seg C p cs).take (p + z) = A ++ cs := by
    unfold seg
    rw [hC, List.take_append_of_le_length (by simp; omega), List.take_of_length_le (by simp; omega)]
  show ((seg C p cs).take (p + z) ++ D ++ (seg C p cs).drop (p + z + D.length)).take _ = _
  rw [e1, List.take_append_of_le_length (by simp; omega), List.take_of_length_le (by simp; omega)]
theorem flat_at_mem {xs : List (List Value)} (h1 : ∀ x ∈ xs, ∀ u ∈ x, u.oneCell' = true) : ∀ u ∈ xs.flatten, u.oneCell' = true := fun u hu => by
  obtain ⟨x, hx, hux⟩ := List.mem_flatten.1 hu
  exact h1 x hx u hux
theorem flat_drop {xs : List (List Value)} {z : Nat} (h : ∀ x ∈ xs, x.length = z) (i : Nat) (hi : i ≤ xs.length) : xs.flatten.drop (i * z) = (xs.drop i).flatten := by
  have e : xs.flatten = (xs.take i).flatten ++ (xs.drop i).flatten := by rw [← List.flatten_append, List.take_append_drop]
  have hl : (xs.take i).flatten.length = i * z := by rw [flat_len _ fun x hx => h x (List.mem_of_mem_take hx), List.length_take, Nat.min_eq_left hi]
  rw [e, List.drop_left' hl]
theorem flat_take {xs : List (List Value)} {z : Nat} (h : ∀ x ∈ xs, x.length = z) (i : Nat) (hi : i ≤ xs.length) : xs.flatten.take (i * z) = (xs.take i).flatten := by
  have e : xs.flatten = (xs.take i).flatten ++ (xs.drop i).flatten := by rw [← List.flatten_append, List.take_append_drop]
  have hl : (xs.take i).flatten.length = i * z := by rw [flat_len _ fun x hx => h x (List.mem_of_mem_take hx), List.length_take, Nat.min_eq_left hi]
  rw [e, List.take_left' hl]
theorem setRow_twice (w : World) (g : Nat) (a b : Array Value) {cur : Array Value} {e : TypeId} {f : Nat × Nat} (h : w.heap[g]? = some (.cells cur e f)) : ((w.setRow g a).setRow g b).heap[g]? = some (.cells b e f) := setRow_heap _ g a b e f (setRow_heap w g cur a e f h)
theorem info_iv : (Try.prog.info? 35).map (fun i => (i.zero, i.size, i.bytes)) = some (some (.agg #[.int .i64 0, .int .i64 0, .int .i64 0]), 3, 24) := by kernel_rfl

set_option maxRecDepth 100000 in
set_option maxHeartbeats 4000000 in
theorem insert_int (w : World) (B : Nat) (v : Value) (xs : List (List Value)) (h : Row w B 3 1 v xs) (i : Nat) (hi : i ≤ xs.length) (vb : Nat) (cs : List Value) (hcl : cs.length = 1) (hv : w.heap[vb]? = some (.cells cs.toArray 3 (0, 0))) (hne : v.ownBlock ≠ some vb)
    (h1 : ∀ x ∈ xs, ∀ u ∈ x, u.oneCell' = true) (h2 : ∀ u ∈ cs, u.oneCell' = true) (hl : xs.length + 1 ≤ 1000000000) (hB : B ≤ w.heap.size) :
    Calls Try.prog 34 #[v, .int .i64 i, .slice (some ⟨vb, 0, none⟩) 1 1] w fun e w' => ∃ v', e = .returned v' ∧ Row w' B 3 1 v' (xs.take i ++ cs :: xs.drop i) ∧ GI B w w' v v' := by
  obtain ⟨i0, hi0, hz0, hz1, hz2⟩ := info_parts info3i
  obtain ⟨ao, c, rfl, hnc, hcm⟩ := own_slice h.out
  have hnews : ∀ (W : World), W.heap[vb]? = some (.cells cs.toArray 3 (0, 0)) → ∀ j u, cs[j]? = some u → W.cell? ((⟨vb, 0, none⟩ : Addr).add j) = some u := fun W hW j u hu => by
    rw [add_none, Nat.zero_add]
    simp only [World.cell?, hW]
    simpa using hu
  by_cases hin : i = xs.length
  · subst hin
    obtain ⟨v', w', hr, q2, q3, q4⟩ := run_append_where (P := Try.prog) (w := w) B 51 51 3 i0 (.int .i64 0) 1 8 Try.underlying51 hi0 hz0 hz1 hz2 rfl (by decide) _ xs.length xs.flatten h.out ⟨vb, 0, none⟩ 1 1 (by omega) cs (by omega) (hnews w hv) h2 (by unfold maxLen; omega) (by omega) hB
    have HR : Hid (Row w' B 3 1 v' (xs.take xs.length ++ cs :: xs.drop xs.length)) := ⟨by simpa using q2, fun y hy => by
      simp at hy
      rcases hy with q | q
      · exact h.len y q
      · rw [q]; exact hcl⟩
    have HG : Hid (GI B w w' (.slice ao xs.length c) v') := by
      refine ⟨(Below.refl _ _).grown q3 hB (fun k hk => (own_block h.out hk).1), fun b h5 h6 => grown_at q3 h5 h6, fun b hb => ?_⟩
      rcases q4.out with ⟨g', cap, e1, e2⟩ | ⟨e1, _⟩
      · rw [e2] at hb; rw [e1]; exact .inl hb
      · rw [e1] at hb; cases hb; right; exact Nat.le_refl _
    have hnil : ao = none → xs.length = 0 := fun e => by
      subst e
      rcases h.out.2 with ⟨_, q⟩ | ⟨_, _, _, q, _⟩
      · exact q
      · cases q
    clear hnews q2 q3 q4 h1 h2
    have HX : Hid (∃ n, n = xs.length) := ⟨_, rfl⟩
    generalize hn : xs.length = n at *
    cases ao with
    | none =>
      obtain rfl := hnil rfl
      go_enter Try.func34, Try.ntmps34
      go_wp2_with (at_builtin; refine wpList_append_run rfl _ _ 51 51 rfl _ _ rfl rfl hr ?_)
      all_goals
        go_ret
        first
          | exact ⟨_, rfl, HR.out, HG.out⟩
          | (have e : c = n := by omega
             exact ⟨_, rfl, HR.out, by have := HG.out; rw [e] at this; exact this⟩)
    | some a =>
      obtain ⟨ab, ao, asp⟩ := a
      go_enter Try.func34, Try.ntmps34
      go_wp2_with (at_builtin; refine wpList_append_run rfl _ _ 51 51 rfl _ _ rfl rfl hr ?_)
      all_goals
        go_ret
        first
          | exact ⟨_, rfl, HR.out, HG.out⟩
          | (have e : c = n := by omega
             exact ⟨_, rfl, HR.out, by have := HG.out; rw [e] at this; exact this⟩)
  · have hlt : i < xs.length := by omega
    obtain ⟨b, _, e, _, _, hBb, hbw⟩ := own_some h.out (by omega)
    cases e
    obtain ⟨cur, g1, g2, g3, g4, g5, g6⟩ := row_cur h rfl
    have hvb : vb ≠ b := fun e => hne (by rw [e]; rfl)
    have hvw : vb < w.heap.size := (Array.getElem?_eq_some_iff.1 hv).1
    have hfl := flat_len xs h.len
    have hA : (xs.take i).flatten.length = i * 1 := by rw [flat_len _ fun x hx => h.len x (List.mem_of_mem_take hx)]; simp; omega
    have hD : (xs.drop i).flatten.length = (xs.length - i) * 1 := by rw [flat_len _ fun x hx => h.len x (List.mem_of_mem_drop hx)]; simp
    have hAD : xs.flatten = (xs.take i).flatten ++ (xs.drop i).flatten := by rw [← List.flatten_append, List.take_append_drop]
    have hD1 : ∀ u ∈ (xs.drop i).flatten, u.oneCell' = true := flat_at_mem fun x hx => h1 x (List.mem_of_mem_drop hx)
    have hsz : (Try.prog.info? 3).map (·.size) = some 1 := by rw [hi0]; simp [hz1]
    have hrl : ∀ x ∈ xs.take i ++ cs :: xs.drop i, x.length = 1 := fun x hx => by
      simp at hx
      rcases hx with q | q | q
      · exact h.len x (List.mem_of_mem_take q)
      · rw [q]; exact hcl
      · exact h.len x (List.mem_of_mem_drop q)
    have hrn : (xs.take i ++ cs :: xs.drop i).length = xs.length + 1 := by simp; omega
    have hrf : (xs.take i ++ cs :: xs.drop i).flatten = (xs.take i).flatten ++ cs ++ (xs.drop i).flatten := by simp
    have hsrc : ∀ j u, (xs.drop i).flatten[j]? = some u → w.cell? ((⟨b, i * 1, none⟩ : Addr).add j) = some u := fun j u hu => by
      have hj : j < (xs.drop i).flatten.length := (List.getElem?_eq_some_iff.1 hu).1
      rw [add_none, own_cell h.out _ (by omega), hAD, List.getElem?_append_right (by omega), hA, show i * 1 + j - i * 1 = j by omega, hu]
    obtain ⟨n, hn⟩ : ∃ n, n = xs.length := ⟨_, rfl⟩
    rw [← hn] at g6 hD hfl hrn g3 hlt ⊢
    by_cases hroom : n + 1 ≤ c
    · -- in place
      obtain ⟨w1, hw1⟩ : ∃ w1, w1 = w.drew.setRow b (seg cur.toList (i * 1 + 1) (xs.drop i).flatten).toArray := ⟨_, rfl⟩
      obtain ⟨w2, hw2⟩ : ∃ w2, w2 = w1.setRow b (seg (seg cur.toList (i * 1 + 1) (xs.drop i).flatten) (i * 1) cs).toArray := ⟨_, rfl⟩
      have hcs : cur.toList.length = c * 1 := by simpa using g2
      have hs1 : (seg cur.toList (i * 1 + 1) (xs.drop i).flatten).length = c * 1 := by rw [seg_len (by omega), hcs]
      have hs2 : (seg (seg cur.toList (i * 1 + 1) (xs.drop i).flatten) (i * 1) cs).length = c * 1 := by rw [seg_len (by omega), hs1]
      have k1 : w1.heap[b]? = some (.cells (seg cur.toList (i * 1 + 1) (xs.drop i).flatten).toArray 3 (0, 0)) := by rw [hw1]; exact setRow_heap w.drew b cur _ _ _ g1
      have k2 : w2.heap[b]? = some (.cells (seg (seg cur.toList (i * 1 + 1) (xs.drop i).flatten) (i * 1) cs).toArray 3 (0, 0)) := by rw [hw2]; exact setRow_heap w1 b _ _ _ _ k1
      have kv : w1.heap[vb]? = some (.cells cs.toArray 3 (0, 0)) := by rw [hw1, setRow_other _ _ _ _ hvb]; exact hv
      have HG : Hid (GI B w w2 (.slice (some ⟨b, 0, none⟩) n c) (.slice (some ⟨b, 0, none⟩) (n + 1) c)) := by
        have hk : ∀ k, k ≠ b → w2.heap[k]? = w.heap[k]? := fun k hk => by rw [hw2, setRow_other _ _ _ _ hk, hw1, setRow_other _ _ _ _ hk]; rfl
        refine ⟨⟨by rw [hw2, hw1]; rfl, by rw [hw2, hw1]; rfl, by rw [hw2, hw1]; rfl, by rw [hw2, hw1]; simp [World.setRow], fun k hk' => hk k (by omega)⟩, fun k _ hk' => hk k (fun e => hk' (by rw [e]; rfl)), fun k hk' => .inl hk'⟩
      have HR : Hid (Row w2 B 3 1 (.slice (some ⟨b, 0, none⟩) (n + 1) c) (xs.take i ++ cs :: xs.drop i)) := by
        have := row_mk (B := B) (c := c) hrl k2 (by simpa using hs2) (by omega) g4 g5 (by
          rw [hrf, hrn]
          simp only
          rw [show (n + 1) * 1 = n * 1 + 1 by omega]
          exact seg_ins hA hcl (by rw [g6, hAD]) (by omega) (by omega))
        rwa [hrn] at this
      have hcp1 : ∀ ty dc sc, (Builtin.copy_ #[51, 51] ty #[.slice (some ⟨b, (i + 1) * 1, none⟩) (n - i) dc, .slice (some ⟨b, i * 1, none⟩) (n + 1 - i) sc]).run Try.prog w.drew = .ok (goInt (Nat.min (n + 1 - i) (n - i))) w1 := fun ty dc sc => by
        have hmn : Nat.min (n + 1 - i) (n - i) = n - i := by simp only [Nat.min_def]; split <;> omega
        rw [run_copy_z (P := Try.prog) (w := w.drew) 51 ty 3 1 Try.underlying51 hsz b ((i + 1) * 1) (n - i) dc ⟨b, i * 1, none⟩ (n + 1 - i) sc cur (xs.drop i).flatten g1 (by rw [hD, hmn]) (fun j u hu => hsrc j u hu) (by omega) hD1, hw1, show (i + 1) * 1 = i * 1 + 1 by omega]
      have hcp2 : ∀ ty dc, (Builtin.copy_ #[51, 51] ty #[.slice (some ⟨b, i * 1, none⟩) (n + 1 - i) dc, .slice (some ⟨vb, 0, none⟩) 1 1]).run Try.prog w1 = .ok (goInt (Nat.min 1 (n + 1 - i))) w2 := fun ty dc => by
        have hmn : Nat.min 1 (n + 1 - i) = 1 := by simp only [Nat.min_def]; split <;> omega
        rw [run_copy_z (P := Try.prog) (w := w1) 51 ty 3 1 Try.underlying51 hsz b (i * 1) (n + 1 - i) dc ⟨vb, 0, none⟩ 1 1 _ cs k1 (by rw [hcl, hmn]) (hnews w1 kv) (by simp only [List.size_toArray]; omega) h2, hw2]
      have hov : ∀ lb cb, (callFunc 37 #[.slice (some ⟨vb, 0, none⟩) 1 1, .slice (some ⟨b, (i + 1) * 1, none⟩) lb cb]).run Try.prog w = .ok (.value (.bool false)) w := fun lb cb => by
        rw [run_callFunc_extern Try.func37 (by kernel_rfl) (by kernel_rfl) (by kernel_rfl) (e := Extern.SlicesOverlaps.overlaps #[51, 51] #[4]) (by kernel_rfl),
          Lib.run_overlaps_apart w 51 4 3 Try.underlying51 1 (fun _ => rfl) ⟨vb, 0, none⟩ ⟨b, (i + 1) * 1, none⟩ 1 1 lb cb hvb 3 3 1 (c * 1) (by simp [World.shape?, hv, hcl]) (by simp [World.shape?, g1, g2]) (by omega) (by simp [World.frozen?, hv]) (by simp [World.frozen?, hv])]
        rfl
      clear hnews hsrc hrl hrf hAD hfl hA hD hD1 h1 h2 g6 h k1 k2 kv hs1 hs2 hcs hw1 hw2 g1 hv hsz hrn
      have hin2 : i ≤ n := by omega
      have hl2 : n ≤ 1000000000 := by omega
      clear hn hi hin hl hnc hne
      have q1 : ¬ ((i : Int) = (n : Int)) := by omega
      have q2 : ¬ ((c : Int) < (n : Int) + 1) := by omega
      have q3 : ¬ (c = i) := by omega
      have q4 : ¬ (c = i + 1) := by omega
      have hw1 : IntKind.i64.wrap ((i : Int) + 1) = (i : Int) + 1 := by rw [IntKind.wrap_i64]; omega
      have htn : ((i : Int) + 1).toNat = i + 1 := by omega
      have hb1 : (0 : Int) ≤ (i : Int) + 1 := by omega
      have hb3 : (i : Int) ≤ (n : Int) + 1 := by omega
      have hb4 : (i : Int) ≤ (n : Int) := by omega
      try simp only [Nat.mul_one] at hcp1 hcp2 hov
      try simp only [Nat.mul_one] at hcpA hcpB
      have mixed : Try.prog.follows .mixedOrders = true := by kernel_rfl
      go_enter Try.func34, Try.ntmps34
      go_wp2_with (simp only [hov])
      go_region_law_o (refine step_copy_run rfl _ _ 51 51 rfl _ _ (by simp [Act.eval, Act.put]) (by simp [Act.eval, Act.put]) (hcp1 _ _ _) ?_)
      go_wp2_with (at_builtin; refine wpList_copy_run rfl _ _ 51 51 rfl _ _ rfl rfl (hcp2 _ _) ?_)
      go_ret
      exact ⟨_, rfl, HR.out, HG.out⟩
    · -- in a new row
      have hold : (Builtin.firstCells i0.size i (.slice (some ⟨b, 0, none⟩) i c)).run Try.prog w.drew = .ok (xs.take i).flatten.toArray w.drew := by
        rw [hz1]
        exact run_firstCells_some w.drew 1 i ⟨b, 0, none⟩ i c (xs.take i).flatten hA (fun j u hu => by
          have hj : j < (xs.take i).flatten.length := (List.getElem?_eq_some_iff.1 hu).1
          rw [add_none, Nat.zero_add]
          show w.cell? _ = _
          rw [own_cell h.out _ (by omega), hAD, List.getElem?_append_left hj, hu])
      obtain ⟨G, hG⟩ : ∃ G, G = grownCap w (n + 1) c 3 := ⟨_, rfl⟩
      obtain ⟨ROW, hROW⟩ : ∃ ROW : Array Value, ROW = (xs.take i).flatten.toArray ++ Builtin.zeroCells (Value.cells (.int .i64 0)) (n + 1 - i) ++ Builtin.zeroCells (Value.cells (.int .i64 0)) (G - (n + 1)) := ⟨_, rfl⟩
      obtain ⟨w1, hw1⟩ : ∃ w1, w1 = w.drew.alloc (.cells ROW 3) := ⟨_, rfl⟩
      have hik : i + (n + 1 - i) = n + 1 := by omega
      have hkk : (n : Int) + 1 - (i : Int) = ((n + 1 - i : Nat) : Int) := by omega
      have hrz : ∀ ty, (Builtin.append_ #[51, 3] ty #[.slice (some ⟨b, 0, none⟩) i c, .int .i64 ((n : Int) + 1 - (i : Int))]).run Try.prog w = .ok (.slice (some ⟨w.heap.size, 0, none⟩) (n + 1) G) w1 := fun ty => by
        have q := Lib.run_append_grow_zeros (P := Try.prog) w 51 3 ty 3 i0 _ .i64 .i64 Try.underlying51 Try.underlying3 hi0 hz0 (some ⟨b, 0, none⟩) i c (xs.take i).flatten hold (n + 1 - i) (by omega) (by omega) (by omega) (by omega) (by rw [hz2]; omega) (by rw [hz2, hik]; exact growslice_fits (by omega) (by omega))
        rw [hik] at q
        rw [hkk, q, hw1, hROW, hG]
      have hGn : n + 1 ≤ G := by rw [hG]; exact grownCap_ge w _ _ _
      have hGm : G ≤ 9223372036854775807 := by
        have := grownCap_le_maxLen w (n + 1) c 3 (by unfold maxLen; omega)
        rw [← hG] at this
        unfold maxLen at this
        omega
      have hRs : ROW.size = G * 1 := by
        rw [hROW]
        simp only [Array.size_append, List.size_toArray, hA, size_zeroCells, show (Value.cells (.int .i64 0)).size = 1 from rfl]
        omega
      have hRt : ROW.toList.take (i * 1) = (xs.take i).flatten := by
        rw [hROW]
        simp only [Array.toList_append, List.append_assoc]
        rw [List.take_append_of_le_length (by omega), List.take_of_length_le (by omega)]
      have hRl : ROW.toList.length = G * 1 := by simpa using hRs
      have k1 : w1.heap[w.heap.size]? = some (.cells ROW 3 (0, 0)) := by rw [hw1]; exact heap_alloc_new w.drew _
      have kold : ∀ k, k < w.heap.size → w1.heap[k]? = w.heap[k]? := fun k hk => by rw [hw1]; exact heap_alloc_old w.drew _ hk
      obtain ⟨w2, hw2⟩ : ∃ w2, w2 = w1.setRow w.heap.size (seg ROW.toList (i * 1) cs).toArray := ⟨_, rfl⟩
      have k2 : w2.heap[w.heap.size]? = some (.cells (seg ROW.toList (i * 1) cs).toArray 3 (0, 0)) := by rw [hw2]; exact setRow_heap w1 _ _ _ _ _ k1
      have k2o : ∀ k, k < w.heap.size → w2.heap[k]? = w.heap[k]? := fun k hk => by rw [hw2, setRow_other _ _ _ _ (by omega), kold k hk]
      obtain ⟨w3, hw3⟩ : ∃ w3, w3 = w2.drew.setRow w.heap.size (seg (seg ROW.toList (i * 1) cs) (i * 1 + 1) (xs.drop i).flatten).toArray := ⟨_, rfl⟩
      have hs1 : (seg ROW.toList (i * 1) cs).length = G * 1 := by rw [seg_len (by omega), hRl]
      have hs2 : (seg (seg ROW.toList (i * 1) cs) (i * 1 + 1) (xs.drop i).flatten).length = G * 1 := by rw [seg_len (by omega), hs1]
      have k3 : w3.heap[w.heap.size]? = some (.cells (seg (seg ROW.toList (i * 1) cs) (i * 1 + 1) (xs.drop i).flatten).toArray 3 (0, 0)) := by rw [hw3]; exact setRow_heap w2.drew _ _ _ _ _ k2
      have k3o : ∀ k, k < w.heap.size → w3.heap[k]? = w.heap[k]? := fun k hk => by rw [hw3, setRow_other _ _ _ _ (by omega)]; exact k2o k hk
      have HG : Hid (GI B w w3 (.slice (some ⟨b, 0, none⟩) n c) (.slice (some ⟨w.heap.size, 0, none⟩) (n + 1) G)) := by
        refine ⟨⟨by rw [hw3, hw2, hw1]; rfl, by rw [hw3, hw2, hw1]; rfl, by rw [hw3, hw2, hw1]; rfl, by have := (Array.getElem?_eq_some_iff.1 k3).1; omega, fun k hk' => k3o k (by omega)⟩, fun k hk _ => k3o k hk, fun k hk' => .inr (by simp [Value.ownBlock] at hk'; omega)⟩
      have HR : Hid (Row w3 B 3 1 (.slice (some ⟨w.heap.size, 0, none⟩) (n + 1) G) (xs.take i ++ cs :: xs.drop i)) := by
        have := row_mk (B := B) (c := G) hrl k3 (by simpa using hs2) (by omega) hGm hB (by
          rw [hrf, hrn]
          simp only
          rw [show (n + 1) * 1 = i * 1 + 1 + (xs.drop i).flatten.length by omega]
          exact seg_ins2 hA hcl hRt (by omega))
        rwa [hrn] at this
      have hcpA : ∀ ty dc, (Builtin.copy_ #[51, 51] ty #[.slice (some ⟨w.heap.size, i * 1, none⟩) (n + 1 - i) dc, .slice (some ⟨vb, 0, none⟩) 1 1]).run Try.prog w1 = .ok (goInt (Nat.min 1 (n + 1 - i))) w2 := fun ty dc => by
        have hmn : Nat.min 1 (n + 1 - i) = 1 := by simp only [Nat.min_def]; split <;> omega
        rw [run_copy_z (P := Try.prog) (w := w1) 51 ty 3 1 Try.underlying51 hsz w.heap.size (i * 1) (n + 1 - i) dc ⟨vb, 0, none⟩ 1 1 _ cs k1 (by rw [hcl, hmn]) (hnews w1 ((kold vb hvw).trans hv)) (by omega) h2, hw2]
      have hcpB : ∀ ty dc sc, (Builtin.copy_ #[51, 51] ty #[.slice (some ⟨w.heap.size, (i + 1) * 1, none⟩) (n - i) dc, .slice (some ⟨b, i * 1, none⟩) (n - i) sc]).run Try.prog w2.drew = .ok (goInt (Nat.min (n - i) (n - i))) w3 := fun ty dc sc => by
        have hmn : Nat.min (n - i) (n - i) = n - i := by simp only [Nat.min_def]; split <;> omega
        rw [run_copy_z (P := Try.prog) (w := w2.drew) 51 ty 3 1 Try.underlying51 hsz w.heap.size ((i + 1) * 1) (n - i) dc ⟨b, i * 1, none⟩ (n - i) sc _ (xs.drop i).flatten k2 (by rw [hD, hmn]) (fun j u hu => by
          rw [← hsrc j u hu, add_none]
          exact World.cell?_of_block (w := w) (a := ⟨b, i * 1 + j, none⟩) (k2o b hbw)) (by simp only [List.size_toArray]; omega) hD1, hw3, show (i + 1) * 1 = i * 1 + 1 by omega]
      clear hnews hsrc hrl hrf hAD hfl hA hD hD1 h1 h2 g6 h k1 k2 k3 kold k2o k3o hs1 hs2 hw1 hw2 hw3 g1 hv hsz hold hROW hRs hRt hRl hG hik hkk hrn
      have hin2 : i ≤ n := by omega
      have hl2 : n ≤ 1000000000 := by omega
      clear hn hi hin hl hnc hne
      have q1 : ¬ ((i : Int) = (n : Int)) := by omega
      have q2 : (c : Int) < (n : Int) + 1 := by omega
      have q3 : ¬ (c = i) := by omega
      have q4 : ¬ (G = i + 1) := by omega
      have q5 : ¬ (G = i) := by omega
      have hw1 : IntKind.i64.wrap ((i : Int) + 1) = (i : Int) + 1 := by rw [IntKind.wrap_i64]; omega
      have htn : ((i : Int) + 1).toNat = i + 1 := by omega
      have hb1 : (0 : Int) ≤ (i : Int) + 1 := by omega
      have hb3 : (i : Int) ≤ (n : Int) + 1 := by omega
      have hb4 : (i : Int) ≤ (n : Int) := by omega
      try simp only [Nat.mul_one] at hcp1 hcp2 hov
      try simp only [Nat.mul_one] at hcpA hcpB
      have mixed : Try.prog.follows .mixedOrders = true := by kernel_rfl
      go_enter Try.func34, Try.ntmps34
      go_wp2_with (first
        | (at_builtin; refine wpList_append_run rfl _ _ 51 3 rfl _ _ rfl rfl (hrz _) ?_)
        | (at_builtin; refine wpList_copy_run rfl _ _ 51 51 rfl _ _ rfl rfl (hcpA _ _) ?_))
      go_region_law_o (refine step_copy_run rfl _ _ 51 51 rfl (.slice (some ⟨w.heap.size, i + 1, none⟩) (n - i) (G - (i + 1))) (.slice (some ⟨b, i, none⟩) (n - i) (c - i)) (by simp [Act.eval, Act.put]) (by simp [Act.eval, Act.put]) (hcpB _ _ _) ?_)
      go_wp2
      go_ret
      exact ⟨_, rfl, HR.out, HG.out⟩

set_option maxRecDepth 100000 in
set_option maxHeartbeats 4000000 in
theorem insert_iv (w : World) (B : Nat) (v : Value) (xs : List (List Value)) (h : Row w B 35 3 v xs) (i : Nat) (hi : i ≤ xs.length) (vb : Nat) (cs : List Value) (hcl : cs.length = 3) (hv : w.heap[vb]? = some (.cells cs.toArray 35 (0, 0))) (hne : v.ownBlock ≠ some vb)
    (h1 : ∀ x ∈ xs, ∀ u ∈ x, u.oneCell' = true) (h2 : ∀ u ∈ cs, u.oneCell' = true) (hl : xs.length + 1 ≤ 1000000000) (hB : B ≤ w.heap.size) :
    Calls Try.prog 36 #[v, .int .i64 i, .slice (some ⟨vb, 0, none⟩) 1 1] w fun e w' => ∃ v', e = .returned v' ∧ Row w' B 35 3 v' (xs.take i ++ cs :: xs.drop i) ∧ GI B w w' v v' := by
  obtain ⟨i0, hi0, hz0, hz1, hz2⟩ := info_parts info_iv
  obtain ⟨ao, c, rfl, hnc, hcm⟩ := own_slice h.out
  have hnews : ∀ (W : World), W.heap[vb]? = some (.cells cs.toArray 35 (0, 0)) → ∀ j u, cs[j]? = some u → W.cell? ((⟨vb, 0, none⟩ : Addr).add j) = some u := fun W hW j u hu => by
    rw [add_none, Nat.zero_add]
    simp only [World.cell?, hW]
    simpa using hu
  by_cases hin : i = xs.length
  · subst hin
    obtain ⟨v', w', hr, q2, q3, q4⟩ := run_append_where (P := Try.prog) (w := w) B 22 22 35 i0 (.agg #[.int .i64 0, .int .i64 0, .int .i64 0]) 3 24 Try.underlying22 hi0 hz0 hz1 hz2 rfl (by decide) _ xs.length xs.flatten h.out ⟨vb, 0, none⟩ 1 1 (by omega) cs (by omega) (hnews w hv) h2 (by unfold maxLen; omega) (by omega) hB
    have HR : Hid (Row w' B 35 3 v' (xs.take xs.length ++ cs :: xs.drop xs.length)) := ⟨by simpa using q2, fun y hy => by
      simp at hy
      rcases hy with q | q
      · exact h.len y q
      · rw [q]; exact hcl⟩
    have HG : Hid (GI B w w' (.slice ao xs.length c) v') := by
      refine ⟨(Below.refl _ _).grown q3 hB (fun k hk => (own_block h.out hk).1), fun b h5 h6 => grown_at q3 h5 h6, fun b hb => ?_⟩
      rcases q4.out with ⟨g', cap, e1, e2⟩ | ⟨e1, _⟩
      · rw [e2] at hb; rw [e1]; exact .inl hb
      · rw [e1] at hb; cases hb; right; exact Nat.le_refl _
    have hnil : ao = none → xs.length = 0 := fun e => by
      subst e
      rcases h.out.2 with ⟨_, q⟩ | ⟨_, _, _, q, _⟩
      · exact q
      · cases q
    clear hnews q2 q3 q4 h1 h2
    have HX : Hid (∃ n, n = xs.length) := ⟨_, rfl⟩
    generalize hn : xs.length = n at *
    cases ao with
    | none =>
      obtain rfl := hnil rfl
      go_enter Try.func36, Try.ntmps36
      go_wp2_with (at_builtin; refine wpList_append_run rfl _ _ 22 22 rfl _ _ rfl rfl hr ?_)
      all_goals
        go_ret
        first
          | exact ⟨_, rfl, HR.out, HG.out⟩
          | (have e : c = n := by omega
             exact ⟨_, rfl, HR.out, by have := HG.out; rw [e] at this; exact this⟩)
    | some a =>
      obtain ⟨ab, ao, asp⟩ := a
      go_enter Try.func36, Try.ntmps36
      go_wp2_with (at_builtin; refine wpList_append_run rfl _ _ 22 22 rfl _ _ rfl rfl hr ?_)
      all_goals
        go_ret
        first
          | exact ⟨_, rfl, HR.out, HG.out⟩
          | (have e : c = n := by omega
             exact ⟨_, rfl, HR.out, by have := HG.out; rw [e] at this; exact this⟩)
  · have hlt : i < xs.length := by omega
    obtain ⟨b, _, e, _, _, hBb, hbw⟩ := own_some h.out (by omega)
    cases e
    obtain ⟨cur, g1, g2, g3, g4, g5, g6⟩ := row_cur h rfl
    have hvb : vb ≠ b := fun e => hne (by rw [e]; rfl)
    have hvw : vb < w.heap.size := (Array.getElem?_eq_some_iff.1 hv).1
    have hfl := flat_len xs h.len
    have hA : (xs.take i).flatten.length = i * 3 := by rw [flat_len _ fun x hx => h.len x (List.mem_of_mem_take hx)]; simp; omega
    have hD : (xs.drop i).flatten.length = (xs.length - i) * 3 := by rw [flat_len _ fun x hx => h.len x (List.mem_of_mem_drop hx)]; simp
    have hAD : xs.flatten = (xs.take i).flatten ++ (xs.drop i).flatten := by rw [← List.flatten_append, List.take_append_drop]
    have hD1 : ∀ u ∈ (xs.drop i).flatten, u.oneCell' = true := flat_at_mem fun x hx => h1 x (List.mem_of_mem_drop hx)
    have hsz : (Try.prog.info? 35).map (·.size) = some 3 := by rw [hi0]; simp [hz1]
    have hrl : ∀ x ∈ xs.take i ++ cs :: xs.drop i, x.length = 3 := fun x hx => by
      simp at hx
      rcases hx with q | q | q
      · exact h.len x (List.mem_of_mem_take q)
      · rw [q]; exact hcl
      · exact h.len x (List.mem_of_mem_drop q)
    have hrn : (xs.take i ++ cs :: xs.drop i).length = xs.length + 1 := by simp; omega
    have hrf : (xs.take i ++ cs :: xs.drop i).flatten = (xs.take i).flatten ++ cs ++ (xs.drop i).flatten := by simp
    have hsrc : ∀ j u, (xs.drop i).flatten[j]? = some u → w.cell? ((⟨b, i * 3, none⟩ : Addr).add j) = some u := fun j u hu => by
      have hj : j < (xs.drop i).flatten.length := (List.getElem?_eq_some_iff.1 hu).1
      rw [add_none, own_cell h.out _ (by omega), hAD, List.getElem?_append_right (by omega), hA, show i * 3 + j - i * 3 = j by omega, hu]
    obtain ⟨n, hn⟩ : ∃ n, n = xs.length := ⟨_, rfl⟩
    rw [← hn] at g6 hD hfl hrn g3 hlt ⊢
    by_cases hroom : n + 1 ≤ c
    · -- in place
      obtain ⟨w1, hw1⟩ : ∃ w1, w1 = w.drew.setRow b (seg cur.toList (i * 3 + 3) (xs.drop i).flatten).toArray := ⟨_, rfl⟩
      obtain ⟨w2, hw2⟩ : ∃ w2, w2 = w1.setRow b (seg (seg cur.toList (i * 3 + 3) (xs.drop i).flatten) (i * 3) cs).toArray := ⟨_, rfl⟩
      have hcs : cur.toList.length = c * 3 := by simpa using g2
      have hs1 : (seg cur.toList (i * 3 + 3) (xs.drop i).flatten).length = c * 3 := by rw [seg_len (by omega), hcs]
      have hs2 : (seg (seg cur.toList (i * 3 + 3) (xs.drop i).flatten) (i * 3) cs).length = c * 3 := by rw [seg_len (by omega), hs1]
      have k1 : w1.heap[b]? = some (.cells (seg cur.toList (i * 3 + 3) (xs.drop i).flatten).toArray 35 (0, 0)) := by rw [hw1]; exact setRow_heap w.drew b cur _ _ _ g1
      have k2 : w2.heap[b]? = some (.cells (seg (seg cur.toList (i * 3 + 3) (xs.drop i).flatten) (i * 3) cs).toArray 35 (0, 0)) := by rw [hw2]; exact setRow_heap w1 b _ _ _ _ k1
      have kv : w1.heap[vb]? = some (.cells cs.toArray 35 (0, 0)) := by rw [hw1, setRow_other _ _ _ _ hvb]; exact hv
      have HG : Hid (GI B w w2 (.slice (some ⟨b, 0, none⟩) n c) (.slice (some ⟨b, 0, none⟩) (n + 1) c)) := by
        have hk : ∀ k, k ≠ b → w2.heap[k]? = w.heap[k]? := fun k hk => by rw [hw2, setRow_other _ _ _ _ hk, hw1, setRow_other _ _ _ _ hk]; rfl
        refine ⟨⟨by rw [hw2, hw1]; rfl, by rw [hw2, hw1]; rfl, by rw [hw2, hw1]; rfl, by rw [hw2, hw1]; simp [World.setRow], fun k hk' => hk k (by omega)⟩, fun k _ hk' => hk k (fun e => hk' (by rw [e]; rfl)), fun k hk' => .inl hk'⟩
      have HR : Hid (Row w2 B 35 3 (.slice (some ⟨b, 0, none⟩) (n + 1) c) (xs.take i ++ cs :: xs.drop i)) := by
        have := row_mk (B := B) (c := c) hrl k2 (by simpa using hs2) (by omega) g4 g5 (by
          rw [hrf, hrn]
          simp only
          rw [show (n + 1) * 3 = n * 3 + 3 by omega]
          exact seg_ins hA hcl (by rw [g6, hAD]) (by omega) (by omega))
        rwa [hrn] at this
      have hcp1 : ∀ ty dc sc, (Builtin.copy_ #[22, 22] ty #[.slice (some ⟨b, (i + 1) * 3, none⟩) (n - i) dc, .slice (some ⟨b, i * 3, none⟩) (n + 1 - i) sc]).run Try.prog w.drew = .ok (goInt (Nat.min (n + 1 - i) (n - i))) w1 := fun ty dc sc => by
        have hmn : Nat.min (n + 1 - i) (n - i) = n - i := by simp only [Nat.min_def]; split <;> omega
        rw [run_copy_z (P := Try.prog) (w := w.drew) 22 ty 35 3 Try.underlying22 hsz b ((i + 1) * 3) (n - i) dc ⟨b, i * 3, none⟩ (n + 1 - i) sc cur (xs.drop i).flatten g1 (by rw [hD, hmn]) (fun j u hu => hsrc j u hu) (by omega) hD1, hw1, show (i + 1) * 3 = i * 3 + 3 by omega]
      have hcp2 : ∀ ty dc, (Builtin.copy_ #[22, 22] ty #[.slice (some ⟨b, i * 3, none⟩) (n + 1 - i) dc, .slice (some ⟨vb, 0, none⟩) 1 1]).run Try.prog w1 = .ok (goInt (Nat.min 1 (n + 1 - i))) w2 := fun ty dc => by
        have hmn : Nat.min 1 (n + 1 - i) = 1 := by simp only [Nat.min_def]; split <;> omega
        rw [run_copy_z (P := Try.prog) (w := w1) 22 ty 35 3 Try.underlying22 hsz b (i * 3) (n + 1 - i) dc ⟨vb, 0, none⟩ 1 1 _ cs k1 (by rw [hcl, hmn]) (hnews w1 kv) (by simp only [List.size_toArray]; omega) h2, hw2]
      have hov : ∀ lb cb, (callFunc 39 #[.slice (some ⟨vb, 0, none⟩) 1 1, .slice (some ⟨b, (i + 1) * 3, none⟩) lb cb]).run Try.prog w = .ok (.value (.bool false)) w := fun lb cb => by
        rw [run_callFunc_extern Try.func39 (by kernel_rfl) (by kernel_rfl) (by kernel_rfl) (e := Extern.SlicesOverlaps.overlaps #[22, 22] #[4]) (by kernel_rfl),
          Lib.run_overlaps_apart w 22 4 35 Try.underlying22 3 (fun _ => rfl) ⟨vb, 0, none⟩ ⟨b, (i + 1) * 3, none⟩ 1 1 lb cb hvb 35 35 3 (c * 3) (by simp [World.shape?, hv, hcl]) (by simp [World.shape?, g1, g2]) (by omega) (by simp [World.frozen?, hv]) (by simp [World.frozen?, hv])]
        rfl
      clear hnews hsrc hrl hrf hAD hfl hA hD hD1 h1 h2 g6 h k1 k2 kv hs1 hs2 hcs hw1 hw2 g1 hv hsz hrn
      have hin2 : i ≤ n := by omega
      have hl2 : n ≤ 1000000000 := by omega
      clear hn hi hin hl hnc hne
      have q1 : ¬ ((i : Int) = (n : Int)) := by omega
      have q2 : ¬ ((c : Int) < (n : Int) + 1) := by omega
      have q3 : ¬ (c = i) := by omega
      have q4 : ¬ (c = i + 1) := by omega
      have hw1 : IntKind.i64.wrap ((i : Int) + 1) = (i : Int) + 1 := by rw [IntKind.wrap_i64]; omega
      have htn : ((i : Int) + 1).toNat = i + 1 := by omega
      have hb1 : (0 : Int) ≤ (i : Int) + 1 := by omega
      have hb3 : (i : Int) ≤ (n : Int) + 1 := by omega
      have hb4 : (i : Int) ≤ (n : Int) := by omega
      try simp only [Nat.mul_one] at hcp1 hcp2 hov
      try simp only [Nat.mul_one] at hcpA hcpB
      have mixed : Try.prog.follows .mixedOrders = true := by kernel_rfl
      go_enter Try.func36, Try.ntmps36
      go_wp2_with (simp only [hov])
      go_region_law_o (refine step_copy_run rfl _ _ 22 22 rfl _ _ (by simp [Act.eval, Act.put]) (by simp [Act.eval, Act.put]) (hcp1 _ _ _) ?_)
      go_wp2_with (at_builtin; refine wpList_copy_run rfl _ _ 22 22 rfl _ _ rfl rfl (hcp2 _ _) ?_)
      go_ret
      exact ⟨_, rfl, HR.out, HG.out⟩
    · -- in a new row
      have hold : (Builtin.firstCells i0.size i (.slice (some ⟨b, 0, none⟩) i c)).run Try.prog w.drew = .ok (xs.take i).flatten.toArray w.drew := by
        rw [hz1]
        exact run_firstCells_some w.drew 3 i ⟨b, 0, none⟩ i c (xs.take i).flatten hA (fun j u hu => by
          have hj : j < (xs.take i).flatten.length := (List.getElem?_eq_some_iff.1 hu).1
          rw [add_none, Nat.zero_add]
          show w.cell? _ = _
          rw [own_cell h.out _ (by omega), hAD, List.getElem?_append_left hj, hu])
      obtain ⟨G, hG⟩ : ∃ G, G = grownCap w (n + 1) c 35 := ⟨_, rfl⟩
      obtain ⟨ROW, hROW⟩ : ∃ ROW : Array Value, ROW = (xs.take i).flatten.toArray ++ Builtin.zeroCells (Value.cells (.agg #[.int .i64 0, .int .i64 0, .int .i64 0])) (n + 1 - i) ++ Builtin.zeroCells (Value.cells (.agg #[.int .i64 0, .int .i64 0, .int .i64 0])) (G - (n + 1)) := ⟨_, rfl⟩
      obtain ⟨w1, hw1⟩ : ∃ w1, w1 = w.drew.alloc (.cells ROW 35) := ⟨_, rfl⟩
      have hik : i + (n + 1 - i) = n + 1 := by omega
      have hkk : (n : Int) + 1 - (i : Int) = ((n + 1 - i : Nat) : Int) := by omega
      have hrz : ∀ ty, (Builtin.append_ #[22, 3] ty #[.slice (some ⟨b, 0, none⟩) i c, .int .i64 ((n : Int) + 1 - (i : Int))]).run Try.prog w = .ok (.slice (some ⟨w.heap.size, 0, none⟩) (n + 1) G) w1 := fun ty => by
        have q := Lib.run_append_grow_zeros (P := Try.prog) w 22 3 ty 35 i0 _ .i64 .i64 Try.underlying22 Try.underlying3 hi0 hz0 (some ⟨b, 0, none⟩) i c (xs.take i).flatten hold (n + 1 - i) (by omega) (by omega) (by omega) (by omega) (by rw [hz2]; omega) (by rw [hz2, hik]; exact growslice_fits (by omega) (by omega))
        rw [hik] at q
        rw [hkk, q, hw1, hROW, hG]
      have hGn : n + 1 ≤ G := by rw [hG]; exact grownCap_ge w _ _ _
      have hGm : G ≤ 9223372036854775807 := by
        have := grownCap_le_maxLen w (n + 1) c 35 (by unfold maxLen; omega)
        rw [← hG] at this
        unfold maxLen at this
        omega
      have hRs : ROW.size = G * 3 := by
        rw [hROW]
        simp only [Array.size_append, List.size_toArray, hA, size_zeroCells, show (Value.cells (.agg #[.int .i64 0, .int .i64 0, .int .i64 0])).size = 3 from rfl]
        omega
      have hRt : ROW.toList.take (i * 3) = (xs.take i).flatten := by
        rw [hROW]
        simp only [Array.toList_append, List.append_assoc]
        rw [List.take_append_of_le_length (by omega), List.take_of_length_le (by omega)]
      have hRl : ROW.toList.length = G * 3 := by simpa using hRs
      have k1 : w1.heap[w.heap.size]? = some (.cells ROW 35 (0, 0)) := by rw [hw1]; exact heap_alloc_new w.drew _
      have kold : ∀ k, k < w.heap.size → w1.heap[k]? = w.heap[k]? := fun k hk => by rw [hw1]; exact heap_alloc_old w.drew _ hk
      obtain ⟨w2, hw2⟩ : ∃ w2, w2 = w1.setRow w.heap.size (seg ROW.toList (i * 3) cs).toArray := ⟨_, rfl⟩
      have k2 : w2.heap[w.heap.size]? = some (.cells (seg ROW.toList (i * 3) cs).toArray 35 (0, 0)) := by rw [hw2]; exact setRow_heap w1 _ _ _ _ _ k1
      have k2o : ∀ k, k < w.heap.size → w2.heap[k]? = w.heap[k]? := fun k hk => by rw [hw2, setRow_other _ _ _ _ (by omega), kold k hk]
      obtain ⟨w3, hw3⟩ : ∃ w3, w3 = w2.drew.setRow w.heap.size (seg (seg ROW.toList (i * 3) cs) (i * 3 + 3) (xs.drop i).flatten).toArray := ⟨_, rfl⟩
      have hs1 : (seg ROW.toList (i * 3) cs).length = G * 3 := by rw [seg_len (by omega), hRl]
      have hs2 : (seg (seg ROW.toList (i * 3) cs) (i * 3 + 3) (xs.drop i).flatten).length = G * 3 := by rw [seg_len (by omega), hs1]
      have k3 : w3.heap[w.heap.size]? = some (.cells (seg (seg ROW.toList (i * 3) cs) (i * 3 + 3) (xs.drop i).flatten).toArray 35 (0, 0)) := by rw [hw3]; exact setRow_heap w2.drew _ _ _ _ _ k2
      have k3o : ∀ k, k < w.heap.size → w3.heap[k]? = w.heap[k]? := fun k hk => by rw [hw3, setRow_other _ _ _ _ (by omega)]; exact k2o k hk
      have HG : Hid (GI B w w3 (.slice (some ⟨b, 0, none⟩) n c) (.slice (some ⟨w.heap.size, 0, none⟩) (n + 1) G)) := by
        refine ⟨⟨by rw [hw3, hw2, hw1]; rfl, by rw [hw3, hw2, hw1]; rfl, by rw [hw3, hw2, hw1]; rfl, by have := (Array.getElem?_eq_some_iff.1 k3).1; omega, fun k hk' => k3o k (by omega)⟩, fun k hk _ => k3o k hk, fun k hk' => .inr (by simp [Value.ownBlock] at hk'; omega)⟩
      have HR : Hid (Row w3 B 35 3 (.slice (some ⟨w.heap.size, 0, none⟩) (n + 1) G) (xs.take i ++ cs :: xs.drop i)) := by
        have := row_mk (B := B) (c := G) hrl k3 (by simpa using hs2) (by omega) hGm hB (by
          rw [hrf, hrn]
          simp only
          rw [show (n + 1) * 3 = i * 3 + 3 + (xs.drop i).flatten.length by omega]
          exact seg_ins2 hA hcl hRt (by omega))
        rwa [hrn] at this
      have hcpA : ∀ ty dc, (Builtin.copy_ #[22, 22] ty #[.slice (some ⟨w.heap.size, i * 3, none⟩) (n + 1 - i) dc, .slice (some ⟨vb, 0, none⟩) 1 1]).run Try.prog w1 = .ok (goInt (Nat.min 1 (n + 1 - i))) w2 := fun ty dc => by
        have hmn : Nat.min 1 (n + 1 - i) = 1 := by simp only [Nat.min_def]; split <;> omega
        rw [run_copy_z (P := Try.prog) (w := w1) 22 ty 35 3 Try.underlying22 hsz w.heap.size (i * 3) (n + 1 - i) dc ⟨vb, 0, none⟩ 1 1 _ cs k1 (by rw [hcl, hmn]) (hnews w1 ((kold vb hvw).trans hv)) (by omega) h2, hw2]
      have hcpB : ∀ ty dc sc, (Builtin.copy_ #[22, 22] ty #[.slice (some ⟨w.heap.size, (i + 1) * 3, none⟩) (n - i) dc, .slice (some ⟨b, i * 3, none⟩) (n - i) sc]).run Try.prog w2.drew = .ok (goInt (Nat.min (n - i) (n - i))) w3 := fun ty dc sc => by
        have hmn : Nat.min (n - i) (n - i) = n - i := by simp only [Nat.min_def]; split <;> omega
        rw [run_copy_z (P := Try.prog) (w := w2.drew) 22 ty 35 3 Try.underlying22 hsz w.heap.size ((i + 1) * 3) (n - i) dc ⟨b, i * 3, none⟩ (n - i) sc _ (xs.drop i).flatten k2 (by rw [hD, hmn]) (fun j u hu => by
          rw [← hsrc j u hu, add_none]
          exact World.cell?_of_block (w := w) (a := ⟨b, i * 3 + j, none⟩) (k2o b hbw)) (by simp only [List.size_toArray]; omega) hD1, hw3, show (i + 1) * 3 = i * 3 + 3 by omega]
      clear hnews hsrc hrl hrf hAD hfl hA hD hD1 h1 h2 g6 h k1 k2 k3 kold k2o k3o hs1 hs2 hw1 hw2 hw3 g1 hv hsz hold hROW hRs hRt hRl hG hik hkk hrn
      have hin2 : i ≤ n := by omega
      have hl2 : n ≤ 1000000000 := by omega
      clear hn hi hin hl hnc hne
      have q1 : ¬ ((i : Int) = (n : Int)) := by omega
      have q2 : (c : Int) < (n : Int) + 1 := by omega
      have q3 : ¬ (c = i) := by omega
      have q4 : ¬ (G = i + 1) := by omega
      have q5 : ¬ (G = i) := by omega
      have hw1 : IntKind.i64.wrap ((i : Int) + 1) = (i : Int) + 1 := by rw [IntKind.wrap_i64]; omega
      have htn : ((i : Int) + 1).toNat = i + 1 := by omega
      have hb1 : (0 : Int) ≤ (i : Int) + 1 := by omega
      have hb3 : (i : Int) ≤ (n : Int) + 1 := by omega
      have hb4 : (i : Int) ≤ (n : Int) := by omega
      try simp only [Nat.mul_one] at hcp1 hcp2 hov
      try simp only [Nat.mul_one] at hcpA hcpB
      have mixed : Try.prog.follows .mixedOrders = true := by kernel_rfl
      go_enter Try.func36, Try.ntmps36
      go_wp2_with (first
        | (at_builtin; refine wpList_append_run rfl _ _ 22 3 rfl _ _ rfl rfl (hrz _) ?_)
        | (at_builtin; refine wpList_copy_run rfl _ _ 22 22 rfl _ _ rfl rfl (hcpA _ _) ?_))
      go_region_law_o (refine step_copy_run rfl _ _ 22 22 rfl (.slice (some ⟨w.heap.size, (i + 1) * 3, none⟩) (n - i) (G - (i + 1))) (.slice (some ⟨b, i * 3, none⟩) (n - i) (c - i)) (by simp [Act.eval, Act.put]) (by simp [Act.eval, Act.put]) (hcpB _ _ _) ?_)
      go_wp2
      go_ret
      exact ⟨_, rfl, HR.out, HG.out⟩
end Go.Proofs.Ytpgbkkllnbahpaa
