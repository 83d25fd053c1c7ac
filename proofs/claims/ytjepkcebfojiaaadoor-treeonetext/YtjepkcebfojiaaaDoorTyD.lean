import Derived.Test.YtjepkcebfojiaaaDoorTyC
set_option linter.unusedVariables false
set_option linter.unusedSimpArgs false
namespace Go.Proofs.YtjepkcebfojiaaaDoor
open Go.ChangeShapes Go.WideShapes Go.ChangeAt Go.RowKit

/-- The numbers below a node, in order. -/
def sf (N : List Nd) : Nat → Int → List Int
  | 0, _ => []
  | f + 1, k => if (ndOf N k).kind = 20 then [(ndOf N k).val] else (ndOf N k).kids.flatMap (sf N f)
def sq (N : List Nd) (k : Int) : List Int := sf N (k.toNat + 1) k
theorem flat_congr2 {f g : Int → List Int} : ∀ {l : List Int}, (∀ x ∈ l, f x = g x) → l.flatMap f = l.flatMap g
  | [], _ => rfl
  | x :: l, h => by rw [List.flatMap_cons, List.flatMap_cons, h x (by simp), flat_congr2 fun y hy => h y (by simp [hy])]
theorem sf_fuel {N : List Nd} (hF : FitK N) : ∀ (f g : Nat) (k : Int), 0 ≤ k → k < N.length → k.toNat < f → k.toNat < g → sf N f k = sf N g k
  | 0, _, _, _, _, h, _ => absurd h (by omega)
  | _, 0, _, _, _, _, h => absurd h (by omega)
  | f + 1, g + 1, k, h0, h1, hf, hg => by
    have hk : k.toNat < N.length := by omega
    have e : ndOf N k = N[k.toNat] := by simp [ndOf, List.getD, hk]
    simp only [sf]
    split
    · rfl
    · refine flat_congr2 fun x hx => ?_
      rw [e] at hx
      have := hF k.toNat hk x hx
      exact sf_fuel hF f g x (by omega) (by omega) (by omega) (by omega)
theorem sq_eq {N : List Nd} (hF : FitK N) (i : Nat) (hi : i < N.length) : sq N (i : Int) = if N[i].kind = 20 then [N[i].val] else N[i].kids.flatMap (sq N) := by
  have e : ndOf N (i : Int) = N[i] := by simp [ndOf, List.getD, hi]
  unfold sq
  rw [sf, e]
  split
  · rfl
  · refine flat_congr2 fun x hx => ?_
    have := hF i hi x hx
    exact sf_fuel hF _ _ x (by omega) (by omega) (by omega) (by omega)
def vals (R : List Nd) : List Int := (R.filter fun n => decide (n.kind = 20)).map Nd.val
theorem stk_seq {N : List Nd} (hF : FitK N) (hK : ∀ n ∈ N, n.kind = 20 → n.kids = []) : ∀ (R : List Nd) (l : List Int) (i : Nat) (F : List Int), N.drop i = R → i ≤ N.length → stk l i (R.map Nd.kids) = some F → F.flatMap (sq N) = l.flatMap (sq N) ++ vals R
  | [], l, i, F, _, _, h => by
    simp [stk] at h
    subst h
    simp [vals]
  | n :: R, l, i, F, hd, hi, h => by
    have hi' : i < N.length := by
      rcases Nat.lt_or_ge i N.length with h | h
      · exact h
      · rw [List.drop_of_length_le h] at hd; cases hd
    have hd2 := List.drop_eq_getElem_cons hi'
    rw [hd] at hd2
    obtain ⟨rfl, hR⟩ := List.cons.inj hd2
    obtain ⟨h1, h2, h3⟩ := stk_cons h
    have := stk_seq hF hK R _ (i + 1) F hR.symm (by omega) h3
    rw [this, List.flatMap_append]
    have e2 : l.flatMap (sq N) = (l.take (l.length - N[i].kids.length)).flatMap (sq N) ++ N[i].kids.flatMap (sq N) := by
      conv => lhs; rw [← List.take_append_drop (l.length - N[i].kids.length) l, List.flatMap_append]
      rw [h2]
    rw [e2]
    have e3 : [((i : Nat) : Int)].flatMap (sq N) = sq N (i : Int) := by simp
    rw [e3, sq_eq hF i hi']
    by_cases hk : N[i].kind = 20
    · rw [if_pos hk, hK _ (List.getElem_mem hi') hk]
      simp [vals, hk]
    · rw [if_neg hk]
      simp [vals, hk]
theorem run_nl {N : List Nd} : ∀ {k t l o S'}, RunsOKx N k ⟨t, l ++ [tp [10]], o⟩ S' → S'.text.getLast? = some 10 := by
  intro k
  induction k with
  | zero =>
    intro t l o S' h
    rcases h.inv with ⟨_, _, e⟩ | ⟨n, p, r, e, _⟩
    · simp at e
    · omega
  | succ k ih =>
    intro t l o S' h
    rcases h.inv with ⟨e, _⟩ | ⟨n, p, r, e, e1, _, _, hR⟩
    · omega
    obtain rfl : k = n := by omega
    cases l with
    | nil =>
      have es : pstep N ⟨t, [] ++ [tp [10]], o⟩ = ⟨t ++ [10], [], o⟩ := by simp [pstep, tp]
      rw [es] at hR
      rcases hR.inv with ⟨_, rfl, _⟩ | ⟨_, _, _, _, e2, _⟩
      · simp
      · cases e2
    | cons a l =>
      have : ∃ t' l' o', pstep N ⟨t, (a :: l) ++ [tp [10]], o⟩ = ⟨t', l' ++ [tp [10]], o'⟩ := by
        unfold pstep
        simp only [List.cons_append]
        repeat' split
        all_goals first
          | exact ⟨_, l, _, rfl⟩
          | exact ⟨_, tp [40] :: wp a.node :: tp [41] :: l, _, rfl⟩
          | exact ⟨_, ndParts N (ndOf N a.node) ++ l, _, by rw [List.append_assoc]⟩
      obtain ⟨t', l', o', e2⟩ := this
      rw [e2] at hR
      exact ih hR
/-- What the tokens of so many functions are. -/
theorem lx_prints {N : List Nd} (hF : FitK N) (hOK : ∀ (i : Nat) (h : i < N.length), NdOKx N N[i]) : ∀ {F s S' K}, PrintsOKx N F s S' → (∀ f ∈ F, 0 ≤ f ∧ f < N.length ∧ kd N f = 1) → LB s.text K → (∀ c, s.text.getLast? = some c → c = 10) → (∀ p ∈ K, 1 ≤ p.1 ∧ p.1 ≤ 69) → cnt 40 K = cnt 41 K → cnt 42 K = cnt 43 K → cnt 44 K = cnt 45 K →
    ∃ K', LB S'.text K' ∧ (∀ q, CT q = true → cnt q K' = cnt q K + (F.map (wt (fun n => wq n q) N)).sum) ∧ cnt 40 K' = cnt 41 K' ∧ cnt 42 K' = cnt 43 K' ∧ cnt 44 K' = cnt 45 K' ∧ nums K' = nums K ++ F.flatMap (sq N) ∧ ∀ p ∈ K', 1 ≤ p.1 ∧ p.1 ≤ 69 := by
  have hN : NP N (sq N) wq := ⟨fun i hi => by
    obtain ⟨own, h1, h2⟩ := node_pt (hOK i hi) (sq N)
    rw [← sq_eq hF i hi] at h1
    exact ⟨own, h1, h2⟩⟩
  intro F
  induction F with
  | nil =>
    intro s S' K h _ h1 _ h2 h3 h4 h5
    rw [h.done]
    exact ⟨K, h1, fun q _ => by simp, h3, h4, h5, by simp, h2⟩
  | cons f F ih =>
    intro s S' K h hf h1 hl h2 h3 h4 h5
    obtain ⟨k, s1, hR, _, hP⟩ := h.inv
    obtain ⟨f0, f1, f2⟩ := hf f (by simp)
    obtain ⟨K', g1, g2, g3, g4, g5, g6, g7, _⟩ := lx_run hF hN hR (K := K) (own := []) (ks := [f]) (ns := sq N f ++ []) ⟨h1, ⟨true, fun c hc => by rw [hl c hc]; simp [lok], PT.wp f (PT.nil _ _)⟩, h2, by simp⟩
    have hlast : s1.text.getLast? = some 10 := by
      rcases hR.inv with ⟨_, _, e⟩ | ⟨n, p, r, _, e, _, _, hR2⟩
      · cases e
      · cases e
        have ek : (ndOf N f).kind = 1 := by
          obtain ⟨j, rfl⟩ : ∃ j : Nat, f = (j : Int) := ⟨f.toNat, by omega⟩
          have hj : j < N.length := by omega
          rw [show ndOf N (j : Int) = N[j] by simp [ndOf, List.getD, hj]]
          have := kd_at (N := N) j hj
          rw [← this]; exact f2
        have es : pstep N ⟨s.text, [wp f], s.opn⟩ = ⟨s.text, fnParts (ndOf N f), s.opn⟩ := by simp [pstep, wp, ndParts, ek]
        rw [es] at hR2
        have ef : ∃ l, fnParts (ndOf N f) = l ++ [tp [10]] := ⟨_, by unfold fnParts; exact (by rw [List.append_assoc, show ∀ (a b c : Pt), [a, b, c] = [a, b] ++ [c] from fun _ _ _ => rfl, ← List.append_assoc, ← List.append_assoc])⟩
        obtain ⟨l, ef⟩ := ef
        rw [ef] at hR2
        exact run_nl hR2
    simp only [cnt_nil, Nat.add_zero] at g2 g3 g4 g5
    obtain ⟨K2, j1, j2, j3, j4, j5, j6, j7⟩ := ih hP (fun x hx => hf x (by simp [hx])) g1 (fun c hc => by rw [hlast] at hc; cases hc; rfl) g7 (by omega) (by omega) (by omega)
    refine ⟨K2, j1, fun q hq => ?_, j3, j4, j5, ?_, j7⟩
    · rw [j2 q hq, g2 q hq]
      simp only [List.map_cons, List.map_nil, List.sum_cons, List.sum_nil]
      omega
    · rw [j6, g6]; simp
/-- The tokens of a tree's text. -/
structure Wants (N : List Nd) (ts : List T) : Prop where
  ct : ∀ q, CT q = true → cnt q (ts.map kv) = (N.map fun n => wq n q).sum
  p1 : cnt 40 (ts.map kv) = cnt 41 (ts.map kv)
  p2 : cnt 42 (ts.map kv) = cnt 43 (ts.map kv)
  p3 : cnt 44 (ts.map kv) = cnt 45 (ts.map kv)
  ns : nums (ts.map kv) = vals N
  rg : ∀ t ∈ ts, 1 ≤ t.kind ∧ t.kind ≤ 69
theorem prints_lex {T0 : Tr} (hc : chk T0 = true) (hv : ∀ n ∈ T0.nodes, n.val ≤ 9223372036854775807) (hn : T0.nodes.length ≤ 1000000) {S' : Ps} (hP : PrintsOKx T0.nodes T0.funcs ⟨[], [], 0⟩ S') : ∃ ts, Lexes 0 S'.text ts 0 0 ∧ Wants T0.nodes ts := by
  obtain ⟨h1, h2, h3⟩ := chk_stk hc
  have hr := (stk_lt _ _ _ _ h1 (by simp)).1
  have hF := chk_fit hc
  obtain ⟨K, g1, g2, g3, g4, g5, g6, g7⟩ := lx_prints hF (chk_ok hc hv hn) hP (fun f hf => by
    have := hr f hf
    simp at this
    refine ⟨this.1, this.2, ?_⟩
    have := allK_mem h3 hf
    simpa [isK] using this) LB.nil (fun c hc => by simp at hc) (by simp) rfl rfl rfl
  obtain ⟨ts, e, hL⟩ := g1.done
  refine ⟨ts, hL, ?_⟩
  subst e
  refine ⟨fun q hq => ?_, g3, g4, g5, ?_, fun t ht => g7 (kv t) (List.mem_map.2 ⟨t, ht, rfl⟩)⟩
  · rw [g2 q hq, cnt_nil, Nat.zero_add]
    exact chk_sum hc _
  · rw [g6]
    have := stk_seq hF (fun n hn hk => by
      have := (h2 n hn).2
      simp [kfit, hk] at this
      exact this) T0.nodes [] 0 T0.funcs rfl (by omega) h1
    simpa [nums] using this
end Go.Proofs.YtjepkcebfojiaaaDoor
