import Derived.Test.YtpgbkkllnbahpaaScI
set_option linter.unusedVariables false
set_option linter.unusedSimpArgs false
namespace Go.Proofs.Ytpgbkkllnbahpaa
open Go.ChangeShapes Go.WideShapes Go.ChangeAt Go.RowKit Go.Maps

theorem seg_del {C D zs : List Value} {n z : Nat} (hz : zs.length = z) (hD : D.length = n) (hl : n + z ≤ C.length) : (seg (seg C 0 D) n zs).take n = D := by
  have e : (seg C 0 D).take n = D := by
    unfold seg
    simp only [List.take_zero, List.nil_append]
    rw [List.take_append_of_le_length (by omega), List.take_of_length_le (by omega)]
  rw [seg_take (by rw [seg_len (by omega)]; omega) (Nat.le_refl _), e]

set_option maxRecDepth 100000 in
set_option maxHeartbeats 4000000 in
theorem delete_int (w : World) (B : Nat) (v : Value) (xs : List (List Value)) (h : Row w B 3 1 v xs) (hp : 0 < xs.length) (h1 : ∀ x ∈ xs, ∀ u ∈ x, u.oneCell' = true) (hl : xs.length ≤ 1000000000) (hB : B ≤ w.heap.size) :
    Calls Try.prog 32 #[v, .int .i64 0, .int .i64 1] w fun e w' => ∃ v', e = .returned v' ∧ Row w' B 3 1 v' xs.tail ∧ GI B w w' v v' := by
  obtain ⟨i0, hi0, hz0, hz1, hz2⟩ := info_parts info3i
  obtain ⟨b, c, rfl, hnc, hcm, hBb, hbw⟩ := own_some h.out hp
  obtain ⟨cur, g1, g2, g3, g4, g5, g6⟩ := row_cur h rfl
  have hfl := flat_len xs h.len
  have hT : xs.tail.flatten.length = (xs.length - 1) * 1 := by rw [flat_len _ fun x hx => h.len x (List.mem_of_mem_tail hx)]; simp
  have hAD : xs.flatten = (xs.take 1).flatten ++ xs.tail.flatten := by rw [← List.flatten_append, ← List.drop_one, List.take_append_drop]
  have hA : (xs.take 1).flatten.length = 1 := by rw [flat_len _ fun x hx => h.len x (List.mem_of_mem_take hx)]; simp; omega
  have hT1 : ∀ u ∈ xs.tail.flatten, u.oneCell' = true := flat_at_mem fun x hx => h1 x (List.mem_of_mem_tail hx)
  have hsrc : ∀ j u, xs.tail.flatten[j]? = some u → w.cell? ((⟨b, 1, none⟩ : Addr).add j) = some u := fun j u hu => by
    have hj : j < xs.tail.flatten.length := (List.getElem?_eq_some_iff.1 hu).1
    rw [add_none, own_cell h.out _ (by omega), hAD, List.getElem?_append_right (by omega), hA, show 1 + j - 1 = j by omega, hu]
  have hcl : cur.toList.length = c * 1 := by simpa using g2
  have hrl : ∀ x ∈ xs.tail, x.length = 1 := fun x hx => h.len x (List.mem_of_mem_tail hx)
  have hrn : xs.tail.length = xs.length - 1 := by simp
  obtain ⟨n, hn⟩ : ∃ n, n = xs.length := ⟨_, rfl⟩
  rw [← hn] at hT hrn hp hnc g3 hl ⊢
  obtain ⟨w1, hw1⟩ : ∃ w1, w1 = w.drew.setRow b (seg cur.toList 0 xs.tail.flatten).toArray := ⟨_, rfl⟩
  obtain ⟨w2, hw2⟩ : ∃ w2, w2 = w1.setRow b (seg (seg cur.toList 0 xs.tail.flatten) ((n - 1) * 1) (Value.cells (.int .i64 0)).toList).toArray := ⟨_, rfl⟩
  have hzl : (Value.cells (.int .i64 0)).toList.length = 1 := rfl
  have hs1 : (seg cur.toList 0 xs.tail.flatten).length = c * 1 := by rw [seg_len (by omega), hcl]
  have hs2 : (seg (seg cur.toList 0 xs.tail.flatten) ((n - 1) * 1) (Value.cells (.int .i64 0)).toList).length = c * 1 := by rw [seg_len (by omega), hs1]
  have k1 : w1.heap[b]? = some (.cells (seg cur.toList 0 xs.tail.flatten).toArray 3 (0, 0)) := by rw [hw1]; exact setRow_heap w.drew b cur _ _ _ g1
  have k2 : w2.heap[b]? = some (.cells (seg (seg cur.toList 0 xs.tail.flatten) ((n - 1) * 1) (Value.cells (.int .i64 0)).toList).toArray 3 (0, 0)) := by rw [hw2]; exact setRow_heap w1 b _ _ _ _ k1
  have HG : Hid (GI B w w2 (.slice (some ⟨b, 0, none⟩) n c) (.slice (some ⟨b, 0, none⟩) (n - 1) c)) := by
    have hk : ∀ k, k ≠ b → w2.heap[k]? = w.heap[k]? := fun k hk => by rw [hw2, setRow_other _ _ _ _ hk, hw1, setRow_other _ _ _ _ hk]; rfl
    refine ⟨⟨by rw [hw2, hw1]; rfl, by rw [hw2, hw1]; rfl, by rw [hw2, hw1]; rfl, by rw [hw2, hw1]; simp [World.setRow], fun k hk' => hk k (by omega)⟩, fun k _ hk' => hk k (fun e => hk' (by rw [e]; rfl)), fun k hk' => .inl hk'⟩
  have HR : Hid (Row w2 B 3 1 (.slice (some ⟨b, 0, none⟩) (n - 1) c) xs.tail) := by
    have := row_mk (B := B) (c := c) hrl k2 (by simpa using hs2) (by omega) g4 g5 (by
      rw [hrn]
      simp only
      exact seg_del hzl hT (by omega))
    rwa [hrn] at this
  have hap : ∀ ty a sc, (n = 1 ∨ a = ⟨b, 1, none⟩) → (Builtin.append_ #[51, 51] ty #[.slice (some ⟨b, 0, none⟩) 0 c, .slice (some a) (n - 1) sc]).run Try.prog w.drew = .ok (.slice (some ⟨b, 0, none⟩) (n - 1) c) w1 := fun ty a sc ha => by
    have q := run_append_room (P := Try.prog) w.drew 51 ty 3 i0 Try.underlying51 hi0 b 0 c cur g1 a (n - 1) sc xs.tail.flatten (by rw [hT, hz1]) (fun j u hu => by
      rcases ha with ha | ha
      · have hj : j < xs.tail.flatten.length := (List.getElem?_eq_some_iff.1 hu).1
        omega
      · rw [ha]; exact hsrc j u hu) hT1 (by omega) (by omega)
    simp only [Nat.zero_add, Nat.zero_mul] at q
    rw [q, hw1]
    simp [seg]
  have hclr : ∀ ty sc, (Builtin.clear_ #[51] ty #[.slice (some ⟨b, (n - 1) * 1, none⟩) 1 sc]).run Try.prog w1 = .ok (.tuple #[]) w2 := fun ty sc => by
    rw [run_clear_z (P := Try.prog) (w := w1) 51 ty 3 (.int .i64 0) Try.underlying51 (fun _ => rfl) b ((n - 1) * 1) sc _ k1 (by simp only [List.size_toArray, hs1]; show (n - 1) * 1 + 1 ≤ _; omega) (by kernel_rfl) (by simp [Value.cells]; try rfl), hw2]
  clear hsrc hrl hAD hfl hA hT hT1 h1 g6 h k1 k2 hs1 hs2 hcl hw1 hw2 g1 hrn hzl
  clear hn
  try simp only [Nat.mul_one] at hclr
  have q1 : ¬ (c = n - 1) := by omega
  have q2 : (0 : Int) ≤ (n : Int) := by omega
  have q3 : (1 : Int) ≤ (n : Int) := by omega
  have q4 : (n : Int) ≤ (c : Int) := by omega
  have q5 : n - (n - 1) = 1 := by omega
  have mixed : Try.prog.follows .mixedOrders = true := by kernel_rfl
  by_cases hc1 : c = 1
  · have hn1 : n = 1 := by omega
    subst hn1
    subst hc1
    have hclr2 : ∀ ty sc, (Builtin.clear_ #[51] ty #[.slice (some ⟨b, 0, none⟩) 1 sc]).run Try.prog w1 = .ok (.tuple #[]) w2 := hclr
    clear hclr
    go_enter Try.func32, Try.ntmps32
    go_wp2_with fail
    go_region_law_o (refine step_append_run rfl _ _ 51 51 rfl (.slice (some ⟨b, 0, none⟩) 0 1) (.slice (some ⟨b, 0, none⟩) 0 0) (by simp [Act.eval, Act.put]) (by simp [Act.eval, Act.put]) (hap _ _ _ (.inl (by trivial))) ?_)
    go_wp2_with (at_builtin; refine wpList_clear_run rfl _ 51 rfl _ rfl (hclr2 _ _) ?_)
    go_ret
    exact ⟨_, rfl, HR.out, HG.out⟩
  · go_enter Try.func32, Try.ntmps32
    go_wp2_with fail
    go_region_law_o (refine step_append_run rfl _ _ 51 51 rfl (.slice (some ⟨b, 0, none⟩) 0 c) (.slice (some ⟨b, 1, none⟩) (n - 1) (c - 1)) (by simp [Act.eval, Act.put]) (by simp [Act.eval, Act.put]) (hap _ _ _ (.inr rfl)) ?_)
    go_wp2_with (at_builtin; refine wpList_clear_run rfl _ 51 rfl _ rfl (hclr _ _) ?_)
    go_ret
    exact ⟨_, rfl, HR.out, HG.out⟩

set_option maxRecDepth 100000 in
set_option maxHeartbeats 4000000 in
theorem delete_iv (w : World) (B : Nat) (v : Value) (xs : List (List Value)) (h : Row w B 35 3 v xs) (hp : 0 < xs.length) (h1 : ∀ x ∈ xs, ∀ u ∈ x, u.oneCell' = true) (hl : xs.length ≤ 1000000000) (hB : B ≤ w.heap.size) :
    Calls Try.prog 29 #[v, .int .i64 0, .int .i64 1] w fun e w' => ∃ v', e = .returned v' ∧ Row w' B 35 3 v' xs.tail ∧ GI B w w' v v' := by
  obtain ⟨i0, hi0, hz0, hz1, hz2⟩ := info_parts info_iv
  obtain ⟨b, c, rfl, hnc, hcm, hBb, hbw⟩ := own_some h.out hp
  obtain ⟨cur, g1, g2, g3, g4, g5, g6⟩ := row_cur h rfl
  have hfl := flat_len xs h.len
  have hT : xs.tail.flatten.length = (xs.length - 1) * 3 := by rw [flat_len _ fun x hx => h.len x (List.mem_of_mem_tail hx)]; simp
  have hAD : xs.flatten = (xs.take 1).flatten ++ xs.tail.flatten := by rw [← List.flatten_append, ← List.drop_one, List.take_append_drop]
  have hA : (xs.take 1).flatten.length = 3 := by rw [flat_len _ fun x hx => h.len x (List.mem_of_mem_take hx)]; simp; omega
  have hT1 : ∀ u ∈ xs.tail.flatten, u.oneCell' = true := flat_at_mem fun x hx => h1 x (List.mem_of_mem_tail hx)
  have hsrc : ∀ j u, xs.tail.flatten[j]? = some u → w.cell? ((⟨b, 3, none⟩ : Addr).add j) = some u := fun j u hu => by
    have hj : j < xs.tail.flatten.length := (List.getElem?_eq_some_iff.1 hu).1
    rw [add_none, own_cell h.out _ (by omega), hAD, List.getElem?_append_right (by omega), hA, show 3 + j - 3 = j by omega, hu]
  have hcl : cur.toList.length = c * 3 := by simpa using g2
  have hrl : ∀ x ∈ xs.tail, x.length = 3 := fun x hx => h.len x (List.mem_of_mem_tail hx)
  have hrn : xs.tail.length = xs.length - 1 := by simp
  obtain ⟨n, hn⟩ : ∃ n, n = xs.length := ⟨_, rfl⟩
  rw [← hn] at hT hrn hp hnc g3 hl ⊢
  obtain ⟨w1, hw1⟩ : ∃ w1, w1 = w.drew.setRow b (seg cur.toList 0 xs.tail.flatten).toArray := ⟨_, rfl⟩
  obtain ⟨w2, hw2⟩ : ∃ w2, w2 = w1.setRow b (seg (seg cur.toList 0 xs.tail.flatten) ((n - 1) * 3) (Value.cells (.agg #[.int .i64 0, .int .i64 0, .int .i64 0])).toList).toArray := ⟨_, rfl⟩
  have hzl : (Value.cells (.agg #[.int .i64 0, .int .i64 0, .int .i64 0])).toList.length = 3 := rfl
  have hs1 : (seg cur.toList 0 xs.tail.flatten).length = c * 3 := by rw [seg_len (by omega), hcl]
  have hs2 : (seg (seg cur.toList 0 xs.tail.flatten) ((n - 1) * 3) (Value.cells (.agg #[.int .i64 0, .int .i64 0, .int .i64 0])).toList).length = c * 3 := by rw [seg_len (by omega), hs1]
  have k1 : w1.heap[b]? = some (.cells (seg cur.toList 0 xs.tail.flatten).toArray 35 (0, 0)) := by rw [hw1]; exact setRow_heap w.drew b cur _ _ _ g1
  have k2 : w2.heap[b]? = some (.cells (seg (seg cur.toList 0 xs.tail.flatten) ((n - 1) * 3) (Value.cells (.agg #[.int .i64 0, .int .i64 0, .int .i64 0])).toList).toArray 35 (0, 0)) := by rw [hw2]; exact setRow_heap w1 b _ _ _ _ k1
  have HG : Hid (GI B w w2 (.slice (some ⟨b, 0, none⟩) n c) (.slice (some ⟨b, 0, none⟩) (n - 1) c)) := by
    have hk : ∀ k, k ≠ b → w2.heap[k]? = w.heap[k]? := fun k hk => by rw [hw2, setRow_other _ _ _ _ hk, hw1, setRow_other _ _ _ _ hk]; rfl
    refine ⟨⟨by rw [hw2, hw1]; rfl, by rw [hw2, hw1]; rfl, by rw [hw2, hw1]; rfl, by rw [hw2, hw1]; simp [World.setRow], fun k hk' => hk k (by omega)⟩, fun k _ hk' => hk k (fun e => hk' (by rw [e]; rfl)), fun k hk' => .inl hk'⟩
  have HR : Hid (Row w2 B 35 3 (.slice (some ⟨b, 0, none⟩) (n - 1) c) xs.tail) := by
    have := row_mk (B := B) (c := c) hrl k2 (by simpa using hs2) (by omega) g4 g5 (by
      rw [hrn]
      simp only
      exact seg_del hzl hT (by omega))
    rwa [hrn] at this
  have hap : ∀ ty a sc, (n = 1 ∨ a = ⟨b, 3, none⟩) → (Builtin.append_ #[22, 22] ty #[.slice (some ⟨b, 0, none⟩) 0 c, .slice (some a) (n - 1) sc]).run Try.prog w.drew = .ok (.slice (some ⟨b, 0, none⟩) (n - 1) c) w1 := fun ty a sc ha => by
    have q := run_append_room (P := Try.prog) w.drew 22 ty 35 i0 Try.underlying22 hi0 b 0 c cur g1 a (n - 1) sc xs.tail.flatten (by rw [hT, hz1]) (fun j u hu => by
      rcases ha with ha | ha
      · have hj : j < xs.tail.flatten.length := (List.getElem?_eq_some_iff.1 hu).1
        omega
      · rw [ha]; exact hsrc j u hu) hT1 (by omega) (by omega)
    simp only [Nat.zero_add, Nat.zero_mul] at q
    rw [q, hw1]
    simp [seg]
  have hclr : ∀ ty sc, (Builtin.clear_ #[22] ty #[.slice (some ⟨b, (n - 1) * 3, none⟩) 1 sc]).run Try.prog w1 = .ok (.tuple #[]) w2 := fun ty sc => by
    rw [run_clear_z (P := Try.prog) (w := w1) 22 ty 35 (.agg #[.int .i64 0, .int .i64 0, .int .i64 0]) Try.underlying22 (fun _ => rfl) b ((n - 1) * 3) sc _ k1 (by simp only [List.size_toArray, hs1]; show (n - 1) * 3 + 3 ≤ _; omega) (by kernel_rfl) (by simp [Value.cells]; try rfl), hw2]
  clear hsrc hrl hAD hfl hA hT hT1 h1 g6 h k1 k2 hs1 hs2 hcl hw1 hw2 g1 hrn hzl
  clear hn
  try simp only [Nat.mul_one] at hclr
  have q1 : ¬ (c = n - 1) := by omega
  have q2 : (0 : Int) ≤ (n : Int) := by omega
  have q3 : (1 : Int) ≤ (n : Int) := by omega
  have q4 : (n : Int) ≤ (c : Int) := by omega
  have q5 : n - (n - 1) = 1 := by omega
  have mixed : Try.prog.follows .mixedOrders = true := by kernel_rfl
  by_cases hc1 : c = 1
  · have hn1 : n = 1 := by omega
    subst hn1
    subst hc1
    have hclr2 : ∀ ty sc, (Builtin.clear_ #[22] ty #[.slice (some ⟨b, 0, none⟩) 1 sc]).run Try.prog w1 = .ok (.tuple #[]) w2 := hclr
    clear hclr
    go_enter Try.func29, Try.ntmps29
    go_wp2_with fail
    go_region_law_o (refine step_append_run rfl _ _ 22 22 rfl (.slice (some ⟨b, 0, none⟩) 0 1) (.slice (some ⟨b, 0, none⟩) 0 0) (by simp [Act.eval, Act.put]) (by simp [Act.eval, Act.put]) (hap _ _ _ (.inl (by trivial))) ?_)
    go_wp2_with (at_builtin; refine wpList_clear_run rfl _ 22 rfl _ rfl (hclr2 _ _) ?_)
    go_ret
    exact ⟨_, rfl, HR.out, HG.out⟩
  · go_enter Try.func29, Try.ntmps29
    go_wp2_with fail
    go_region_law_o (refine step_append_run rfl _ _ 22 22 rfl (.slice (some ⟨b, 0, none⟩) 0 c) (.slice (some ⟨b, 3, none⟩) (n - 1) (c - 1)) (by simp [Act.eval, Act.put]) (by simp [Act.eval, Act.put]) (hap _ _ _ (.inr rfl)) ?_)
    go_wp2_with (at_builtin; refine wpList_clear_run rfl _ 22 rfl _ rfl (hclr _ _) ?_)
    go_ret
    exact ⟨_, rfl, HR.out, HG.out⟩
end Go.Proofs.Ytpgbkkllnbahpaa
