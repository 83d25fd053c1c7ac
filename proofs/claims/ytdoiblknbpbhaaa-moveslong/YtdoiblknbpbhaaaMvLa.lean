import Derived.Test.YtdoiblknbpbhaaaMvV
set_option linter.unusedVariables false
set_option linter.unusedSimpArgs false
namespace Go.Proofs.Ytdoiblknbpbhaaa

/-- Where the chain's, or the circle's, number k gets from. -/
def nx (n : Nat) (c : Bool) (k : Nat) : Nat := if (c && decide (k + 1 = n)) = true then 0 else k + 1
def kx (n : Nat) (r : Bool) (i : Nat) : Nat := if r = true then n - 1 - i else i
def lnk (n : Nat) (r c : Bool) (i : Nat) : Mv := ((1, (kx n r i : Int)), (1, (nx n c (kx n r i) : Int)))
def lng (n : Nat) (r c : Bool) (k : Nat) : List Mv := (List.range k).map (lnk n r c)
theorem lng_len (n : Nat) (r c : Bool) (k : Nat) : (lng n r c k).length = k := by simp [lng]
theorem lng_succ (n : Nat) (r c : Bool) (k : Nat) : lng n r c (k + 1) = lng n r c k ++ [lnk n r c k] := by simp [lng, List.range_succ]
theorem kx_lt {n : Nat} {r : Bool} {i : Nat} (hi : i < n) : kx n r i < n := by unfold kx; split <;> omega
theorem kx_inj {n : Nat} {r : Bool} {i j : Nat} (hi : i < n) (hj : j < n) (e : kx n r i = kx n r j) : i = j := by unfold kx at e; split at e <;> omega
theorem lng_mem {n : Nat} {r c : Bool} {m : Mv} (h : m ∈ lng n r c n) : ∃ k, k < n ∧ m = ((1, (k : Int)), (1, (nx n c k : Int))) := by
  obtain ⟨i, hi, rfl⟩ := List.mem_map.1 h
  exact ⟨kx n r i, kx_lt (by simpa using hi), rfl⟩
theorem lng_has {n : Nat} {r c : Bool} {k : Nat} (hk : k < n) : ((1, (k : Int)), (1, (nx n c k : Int))) ∈ lng n r c n := by
  refine List.mem_map.2 ⟨kx n r k, by simpa using kx_lt hk, ?_⟩
  have : kx n r (kx n r k) = k := by unfold kx; split <;> omega
  unfold lnk
  rw [this]
def tL : Lc := (2, 3)
theorem lng_gd (n : Nat) (r c : Bool) : Gd tL (lng n r c n) := by
  refine ⟨?_, fun h => ?_⟩
  · unfold lng
    rw [List.map_map]
    refine List.pairwise_map.2 (List.pairwise_iff_getElem.2 fun i j hi hj hij e => ?_)
    simp only [List.getElem_range, Function.comp, lnk, Prod.mk.injEq, true_and] at e
    simp at hi hj
    have := kx_inj hi hj (by exact_mod_cast e)
    omega
  · obtain ⟨m, hm, e⟩ := List.mem_map.1 h
    obtain ⟨k, _, rfl⟩ := lng_mem hm
    simp [tL] at e
theorem lng_lft {n : Nat} (hn : 2 ≤ n) (r c : Bool) : lft (lng n r c n) = lng n r c n := by
  unfold lft
  refine List.filter_eq_self.2 fun m hm => ?_
  obtain ⟨k, hk, rfl⟩ := lng_mem hm
  unfold stays nx
  simp
  split <;> omega
theorem count_app (L : List Mv) (m : Mv) (t : Lc) : ((L ++ [m]).map Prod.fst).count t = (L.map Prod.fst).count t + one m.1 t := by
  rw [List.map_append, List.count_append]
  simp only [List.map_cons, List.map_nil, cons_count, List.count_nil, Nat.zero_add]
/-- The chain on its way. -/
structure HI1 (n : Nat) (r : Bool) (left out : List Mv) : Prop where
  gd : Gd tL left
  sub : ∀ m ∈ left, m ∈ lng n r false n
  len : out.length + left.length = n
theorem HI1.step {n : Nat} {r : Bool} {left out : List Mv} (H : HI1 n r left out) : HI1 n r (ds tL (left, out)).1 (ds tL (left, out)).2 := by
  by_cases hne : left = []
  · subst hne; exact H
  · have hg := (ds_less (out := out) H.gd hne).1
    rcases fre_cases (fre left) left with hf | ⟨X, m, Y, rfl, h1, h2⟩
    · exfalso
      have hb := none_free H.gd.nd hf
      have up : ∀ m ∈ left, ∃ m' ∈ left, m'.1.2 = m.1.2 + 1 := fun m hm => by
        obtain ⟨k, hk, rfl⟩ := lng_mem (H.sub m hm)
        have h3 : 0 < (left.map Prod.snd).count ((1, (nx n false k : Int)) : Lc) := List.count_pos_iff.2 (List.mem_map.2 ⟨_, hm, rfl⟩)
        rw [hb] at h3
        obtain ⟨m', hm', e⟩ := List.mem_map.1 (List.count_pos_iff.1 h3)
        exact ⟨m', hm', by rw [e]; simp [nx]⟩
      have far : ∀ j : Nat, ∃ m ∈ left, (j : Int) ≤ m.1.2 := fun j => by
        induction j with
        | zero =>
          obtain ⟨m, hm⟩ := List.exists_mem_of_ne_nil left hne
          obtain ⟨k, hk, rfl⟩ := lng_mem (H.sub m hm)
          exact ⟨_, hm, by simp⟩
        | succ j ih =>
          obtain ⟨m, hm, hj⟩ := ih
          obtain ⟨m', hm', e⟩ := up m hm
          exact ⟨m', hm', by rw [e]; omega⟩
      obtain ⟨m, hm, hj⟩ := far n
      obtain ⟨k, hk, rfl⟩ := lng_mem (H.sub m hm)
      simp at hj
      omega
    · rw [ds_put h1 h2] at hg ⊢
      have := H.len
      simp only [List.length_append, List.length_cons] at this
      refine ⟨hg, fun x hx => H.sub x ?_, by simp; omega⟩
      rcases List.mem_append.1 hx with hx | hx
      · simp [hx]
      · simp [hx]
theorem HI1.run {n : Nat} {r : Bool} : ∀ (k : Nat) (left out : List Mv), HI1 n r left out → HI1 n r (dn tL k (left, out)).1 (dn tL k (left, out)).2
  | 0, _, _, H => H
  | k + 1, _, _, H => HI1.run k _ _ H.step
theorem long_chain {n : Nat} (hn : 2 ≤ n) (r : Bool) : (ord tL (lng n r false n)).length = n := by
  have g := lng_gd n r false
  have hl := lng_lft hn r false
  have H := HI1.run (n := n) (r := r) (3 * (lft (lng n r false n)).length) (lft (lng n r false n)) [] ⟨g.lft, fun m hm => (List.mem_filter.1 hm).1, by rw [hl, lng_len]; simp⟩
  rw [ord_run g] at H
  have := H.len
  simpa using this
/-- The circle on its way, behind the move to the temporary. -/
structure HI2 (n : Nat) (r : Bool) (k0 : Nat) (left out : List Mv) : Prop where
  gd : Gd tL left
  sub : ∀ m ∈ left, m = ((1, (k0 : Int)), tL) ∨ (m ∈ lng n r true n ∧ m.1 ≠ (1, (k0 : Int)))
  len : out.length + left.length = n + 1
theorem nx_mod {n k : Nat} (hk : k < n) : nx n true k = (k + 1) % n := by
  unfold nx
  by_cases e : k + 1 = n
  · simp [e]
  · simp [e]
    rw [Nat.mod_eq_of_lt (by omega)]
theorem HI2.step {n k0 : Nat} (hk0 : k0 < n) {r : Bool} {left out : List Mv} (H : HI2 n r k0 left out) : HI2 n r k0 (ds tL (left, out)).1 (ds tL (left, out)).2 := by
  by_cases hne : left = []
  · subst hne; exact H
  · have hg := (ds_less (out := out) H.gd hne).1
    rcases fre_cases (fre left) left with hf | ⟨X, m, Y, rfl, h1, h2⟩
    · exfalso
      have hb := none_free H.gd.nd hf
      have hnt : tL ∉ left.map Prod.snd := by
        have := hb tL
        rw [List.count_eq_zero_of_not_mem H.gd.nt] at this
        exact List.count_eq_zero.1 this
      have all : ∀ m ∈ left, m ∈ lng n r true n ∧ m.1 ≠ (1, (k0 : Int)) := fun m hm => by
        rcases H.sub m hm with e | e
        · exact absurd (List.mem_map.2 ⟨m, hm, by rw [e]⟩) hnt
        · exact e
      have far : ∀ (k : Nat), k < n → ((1, (k : Int)) : Lc) ∈ left.map Prod.fst → ∀ j : Nat, ((1, (((k + j) % n : Nat) : Int)) : Lc) ∈ left.map Prod.fst := fun k hk hm j => by
        induction j with
        | zero => rw [Nat.add_zero, Nat.mod_eq_of_lt hk]; exact hm
        | succ j ih =>
          obtain ⟨m, hm', e⟩ := List.mem_map.1 ih
          obtain ⟨k', hk', rfl⟩ := lng_mem (all m hm').1
          have hk2 : k' = (k + j) % n := by simp only [Prod.mk.injEq, true_and] at e; exact_mod_cast e
          have h3 : 0 < (left.map Prod.snd).count ((1, (nx n true k' : Int)) : Lc) := List.count_pos_iff.2 (List.mem_map.2 ⟨_, hm', rfl⟩)
          rw [hb] at h3
          have h4 := List.count_pos_iff.1 h3
          rw [nx_mod hk', hk2, Nat.mod_add_mod] at h4
          exact h4
      obtain ⟨m, hm⟩ := List.exists_mem_of_ne_nil left hne
      obtain ⟨k, hk, rfl⟩ := lng_mem (all m hm).1
      have := far k hk (List.mem_map.2 ⟨_, hm, rfl⟩) (k0 + (n - k))
      have e : (k + (k0 + (n - k))) % n = k0 := by
        rw [show k + (k0 + (n - k)) = k0 + n by omega, Nat.add_mod_right, Nat.mod_eq_of_lt hk0]
      rw [e] at this
      obtain ⟨m', hm', e'⟩ := List.mem_map.1 this
      exact (all m' hm').2 e'
    · rw [ds_put h1 h2] at hg ⊢
      have := H.len
      simp only [List.length_append, List.length_cons] at this
      refine ⟨hg, fun x hx => H.sub x ?_, by simp; omega⟩
      rcases List.mem_append.1 hx with hx | hx
      · simp [hx]
      · simp [hx]
theorem HI2.run {n k0 : Nat} (hk0 : k0 < n) {r : Bool} : ∀ (k : Nat) (left out : List Mv), HI2 n r k0 left out → HI2 n r k0 (dn tL k (left, out)).1 (dn tL k (left, out)).2
  | 0, _, _, H => H
  | k + 1, _, _, H => HI2.run hk0 k _ _ (H.step hk0)
theorem long_circle {n : Nat} (hn : 2 ≤ n) (r : Bool) : (ord tL (lng n r true n)).length = n + 1 := by
  have g := lng_gd n r true
  have hl := lng_lft hn r true
  have hr := ord_run g
  rw [hl, lng_len] at hr
  obtain ⟨i, hi⟩ : ∃ i, 3 * n = i + 1 := ⟨3 * n - 1, by omega⟩
  rw [hi] at hr
  have hbusy : ∀ m ∈ lng n r true n, fre (lng n r true n) m = false := fun m hm => by
    obtain ⟨k, hk, rfl⟩ := lng_mem hm
    have h : rd (lng n r true n) ((1, (k : Int)) : Lc) = true := by
      refine List.any_eq_true.2 ⟨((1, ((if k = 0 then n - 1 else k - 1 : Nat) : Int)), (1, (nx n true (if k = 0 then n - 1 else k - 1) : Int))), lng_has (by split <;> omega), ?_⟩
      simp only [beq_iff_eq, Prod.mk.injEq, true_and]
      rw [nx_mod (by split <;> omega)]
      by_cases e : k = 0
      · subst e
        rw [if_pos rfl, show n - 1 + 1 = n by omega, Nat.mod_self]
      · rw [if_neg e, show k - 1 + 1 = k by omega, Nat.mod_eq_of_lt hk]
    simp [fre, h]
  obtain ⟨m, rest, hmr⟩ := List.exists_cons_of_ne_nil (show lng n r true n ≠ [] from fun e => by have := lng_len n r true n; rw [e] at this; simp at this; omega)
  have hdn : dn tL (i + 1) (lng n r true n, []) = dn tL i (ds tL (lng n r true n, [])) := rfl
  rw [hdn, hmr, ds_temp (by rw [← hmr]; exact hbusy), ← hmr] at hr
  obtain ⟨k0, hk0, rfl⟩ := lng_mem (show m ∈ lng n r true n by rw [hmr]; simp)
  have hgd : Gd tL (((1, (k0 : Int)), tL) :: rest) := by
    have g2 := g
    rw [hmr] at g2
    exact ⟨by simpa using g2.nd, by simpa using g2.nt⟩
  have hlen : rest.length + 1 = n := by have := lng_len n r true n; rw [hmr] at this; simpa using this
  have H := HI2.run hk0 (r := r) i (((1, (k0 : Int)), tL) :: rest) [(tL, (1, (nx n true k0 : Int)))] ⟨hgd, fun x hx => by
    rcases List.mem_cons.1 hx with rfl | hx
    · exact .inl rfl
    · refine .inr ⟨by rw [hmr]; simp [hx], fun e => ?_⟩
      have := hgd.nd
      rw [List.map_cons, List.nodup_cons] at this
      exact this.1 (List.mem_map.2 ⟨x, hx, e⟩), by simp; omega⟩
  simp only [List.nil_append] at hr
  rw [hr] at H
  have := H.len
  simpa using this
end Go.Proofs.Ytdoiblknbpbhaaa
