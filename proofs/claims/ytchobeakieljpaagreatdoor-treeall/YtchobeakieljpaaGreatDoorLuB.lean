import Derived.Test.YtchobeakieljpaaGreatDoorLuA
import Derived.Test.YtchobeakieljpaaGreatDoorTrH
set_option linter.unusedVariables false
set_option linter.unusedSimpArgs false
namespace Go.Proofs.YtchobeakieljpaaGreatDoor
open Go.ChangeShapes Go.WideShapes Go.ChangeAt Go.RowKit

/-- The kids of a node, by its number. -/
def ks (K : List (List Int)) (f : Int) : List Int := (K[f.toNat]?).getD []
def poN (K : List (List Int)) : Nat → Int → List Int
  | 0, _ => []
  | d + 1, f => (ks K f).flatMap (poN K d) ++ [f]
/-- The walk of a node: kids ahead of their own. -/
def po (K : List (List Int)) (f : Int) : List Int := poN K (f.toNat + 1) f
def Lwr (K : List (List Int)) : Prop := ∀ (i : Nat) (h : i < K.length), ∀ x ∈ K[i], 0 ≤ x ∧ x < (i : Int)
theorem ks_at {K : List (List Int)} (i : Nat) (h : i < K.length) : ks K (i : Int) = K[i] := by simp [ks, h]
theorem ks_low {K} (h : Lwr K) {f x : Int} (hx : x ∈ ks K f) : 0 ≤ x ∧ x.toNat < f.toNat := by
  unfold ks at hx
  by_cases hf : f.toNat < K.length
  · rw [List.getElem?_eq_getElem hf] at hx
    have := h f.toNat hf x (by simpa using hx)
    omega
  · rw [List.getElem?_eq_none (by omega)] at hx
    cases hx
theorem flat_congr {l : List Int} {p q : Int → List Int} (h : ∀ x ∈ l, p x = q x) : l.flatMap p = l.flatMap q := by
  induction l with
  | nil => rfl
  | cons a l ih =>
    rw [List.flatMap_cons, List.flatMap_cons, h a (by simp), ih (fun x hx => h x (by simp [hx]))]
theorem poN_any {K} (h : Lwr K) : ∀ (d d' : Nat) (f : Int), f.toNat < d → f.toNat < d' → poN K d f = poN K d' f
  | 0, _, f, h1, _ => by omega
  | d + 1, 0, f, _, h2 => by omega
  | d + 1, d' + 1, f, h1, h2 => by
    rw [poN, poN, flat_congr fun x hx => poN_any h d d' x (by have := ks_low h hx; omega) (by have := ks_low h hx; omega)]
theorem po_eq {K} (h : Lwr K) (f : Int) : po K f = (ks K f).flatMap (po K) ++ [f] := by
  rw [po, poN, flat_congr fun x hx => poN_any h f.toNat (x.toNat + 1) x (by have := ks_low h hx; omega) (by omega)]
  rfl
def runK (K : List (List Int)) : List Int → List Int → Option (List Int)
  | l, [] => some l
  | l, i :: r => if (ks K i).length ≤ l.length ∧ l.drop (l.length - (ks K i).length) = ks K i then runK K (l.take (l.length - (ks K i).length) ++ [i]) r else none
theorem runK_app {K} : ∀ (a b l : List Int), runK K l (a ++ b) = (runK K l a).bind fun m => runK K m b
  | [], b, l => by simp [runK]
  | i :: a, b, l => by
    simp only [List.cons_append, runK]
    split
    · exact runK_app a b _
    · rfl
theorem stk_runK {K : List (List Int)} : ∀ (K0 : List (List Int)) (i : Nat) (l : List Int), K.drop i = K0 → stk l i K0 = runK K l ((List.range' i K0.length).map fun j : Nat => (j : Int))
  | [], i, l, _ => by simp [stk, runK]
  | k :: K0, i, l, h => by
    have hi : i < K.length := by
      by_cases hi : i < K.length
      · exact hi
      · rw [List.drop_eq_nil_of_le (by omega)] at h; cases h
    rw [List.drop_eq_getElem_cons hi] at h
    injection h with h1 h2
    have e : ks K (i : Int) = k := by rw [ks_at i hi]; exact h1
    rw [List.length_cons, List.range'_succ, List.map_cons, stk, runK, e, stk_runK K0 (i + 1) _ h2]
theorem runK_flat {K} {d : Nat} (H : ∀ (f : Int) (l : List Int), f.toNat < d → runK K l (po K f) = some (l ++ [f])) : ∀ (m l : List Int), (∀ x ∈ m, x.toNat < d) → runK K l (m.flatMap (po K)) = some (l ++ m)
  | [], l, _ => by simp [runK]
  | x :: m, l, h => by
    rw [List.flatMap_cons, runK_app, H x l (h x (by simp))]
    show runK K (l ++ [x]) _ = _
    rw [runK_flat H m _ (fun y hy => h y (by simp [hy]))]
    simp
theorem runK_po {K} (h : Lwr K) : ∀ (d : Nat) (f : Int) (l : List Int), f.toNat < d → runK K l (po K f) = some (l ++ [f])
  | 0, f, l, hf => by omega
  | d + 1, f, l, hf => by
    rw [po_eq h, runK_app, runK_flat (runK_po h d) (ks K f) l (fun x hx => by have := ks_low h hx; omega)]
    show runK K (l ++ ks K f) [f] = _
    rw [runK, if_pos ⟨by simp, by simp⟩, runK]
    simp
theorem runK_inv {K} (h : Lwr K) : ∀ (r l s : List Int), runK K l r = some s → s.flatMap (po K) = l.flatMap (po K) ++ r
  | [], l, s, hr => by simp [runK] at hr; simp [hr]
  | i :: r, l, s, hr => by
    rw [runK] at hr
    split at hr
    · rename_i hc
      have ih := runK_inv h r _ s hr
      rw [ih]
      have e : l = l.take (l.length - (ks K i).length) ++ ks K i := by
        have := (List.take_append_drop (l.length - (ks K i).length) l).symm
        rw [hc.2] at this
        exact this
      generalize l.take (l.length - (ks K i).length) = l0 at *
      rw [e, List.flatMap_append, List.flatMap_append, List.flatMap_cons, List.flatMap_nil, List.append_nil, po_eq h i]
      simp
    · cases hr
/-- The numbers ahead of a. -/
def rg (a : Nat) : List Int := (List.range a).map fun j : Nat => (j : Int)
theorem rg_at (n j : Nat) (x : Int) (h : (rg n)[j]? = some x) : x = (j : Int) ∧ j < n := by
  unfold rg at h
  rw [List.getElem?_map] at h
  by_cases hj : j < n
  · rw [List.getElem?_eq_getElem (by simpa using hj)] at h
    simp at h
    exact ⟨h.symm, hj⟩
  · rw [List.getElem?_eq_none (by simpa using hj)] at h
    cases h
theorem rg_len (n : Nat) : (rg n).length = n := by simp [rg]
theorem rg_succ (n : Nat) : rg (n + 1) = rg n ++ [(n : Int)] := by simp [rg, List.range_succ]
theorem stk_po {K F} (h : Lwr K) : stk [] 0 K = some F ↔ F.flatMap (po K) = rg K.length := by
  have e : stk [] 0 K = runK K [] (rg K.length) := by
    rw [stk_runK (K := K) K 0 [] (by simp), rg, List.range_eq_range']
  rw [e]
  constructor
  · intro hr
    have := runK_inv h _ _ _ hr
    simpa using this
  · intro hf
    have hb : ∃ d, ∀ x ∈ F, x.toNat < d := by
      refine ⟨(F.map Int.toNat).sum + 1, fun x hx => ?_⟩
      have := sum_le (List.mem_map.2 ⟨x, hx, rfl⟩ : x.toNat ∈ F.map Int.toNat)
      omega
    obtain ⟨d, hd⟩ := hb
    have := runK_flat (runK_po h d) F [] hd
    rw [hf] at this
    simpa using this
theorem po_lt {K} (h : Lwr K) : ∀ (d : Nat) (f x : Int), f.toNat < d → 0 ≤ f → x ∈ po K f → 0 ≤ x ∧ x ≤ f
  | 0, f, x, hf, _, _ => by omega
  | d + 1, f, x, hf, h0, hx => by
    rw [po_eq h] at hx
    rcases List.mem_append.1 hx with hx | hx
    · obtain ⟨y, hy, hxy⟩ := List.mem_flatMap.1 hx
      have h1 := ks_low h hy
      have := po_lt h d y x (by omega) h1.1 hxy
      omega
    · simp at hx
      omega

/-- What the document's check asks. -/
structure RChk (T : Tr) : Prop where
  low : Lwr (T.nodes.map Nd.kids)
  tot : total (T.nodes.map Nd.kids) ≤ T.nodes.length
  nod : ∀ n ∈ T.nodes, rKidsB T.nodes n = true ∧ ffit n = true
  fns : ∀ f ∈ T.funcs, 0 ≤ f ∧ f < T.nodes.length ∧ kd T.nodes f = 1
  pos : T.funcs.flatMap (po (T.nodes.map Nd.kids)) = rg T.nodes.length
theorem chk_vk {T : Tr} (h : chk T = true) (i : Nat) (hi : i < T.nodes.length) : VK T.nodes[i].kind := by
  obtain ⟨h1, h2, h3⟩ := chk_stk h
  have hh := stk_has _ _ _ _ h1 (i : Int) (.inr ⟨by omega, by simp; omega⟩)
  rw [← kd_at i hi]
  rcases hh with hF | ⟨ks, hks, hx⟩
  · exact vk_k (allK_mem h3 hF) (.inl ⟨by omega, by omega⟩)
  · obtain ⟨n, hn, rfl⟩ := List.mem_map.1 hks
    exact kfit_kid (h2 n hn).2 hx
theorem rKids_vk {N : List Nd} {n : Nd} (h : rKidsB N n = true) : VK n.kind := by
  unfold rKidsB at h
  simp only [Bool.and_eq_true, decide_eq_true_eq] at h
  have h1 := h.1.1.1
  unfold VK
  by_cases hc : (1 ≤ n.kind ∧ n.kind ≤ 14) ∨ (20 ≤ n.kind ∧ n.kind ≤ 31)
  · exact hc
  · exfalso
    apply h1
    unfold rMany
    repeat rw [if_neg (by omega)]
theorem rchk_iff (T : Tr) : chk T = true ↔ RChk T := by
  constructor
  · intro h
    obtain ⟨h1, h2, h3⟩ := chk_stk h
    have hlow : Lwr (T.nodes.map Nd.kids) := fun i hi x hx => by
      have := stk_kid _ _ _ _ h1 (by simp) i hi x hx
      omega
    refine ⟨hlow, ?_, fun n hn => ?_, fun f hf => ?_, ?_⟩
    · have := stk_total _ _ _ _ h1
      simp at this
      omega
    · obtain ⟨i, hi, rfl⟩ := List.mem_iff_getElem.1 hn
      exact ⟨by rw [rKids_kfit (chk_vk h i hi)]; exact (h2 _ hn).2, (h2 _ hn).1⟩
    · have := (stk_lt _ _ _ _ h1 (by simp)).1 f hf
      simp at this
      have h4 := allK_mem h3 hf
      exact ⟨by omega, by omega, by simpa [isK] using h4⟩
    · have := (stk_po hlow).1 h1
      simpa using this
  · rintro ⟨hlow, _, hn, hf, hp⟩
    have h1 : stk [] 0 (T.nodes.map Nd.kids) = some T.funcs := (stk_po hlow).2 (by simpa using hp)
    have h2 := cloop_of (N := T.nodes) T.nodes [] 0 T.funcs h1 (fun n hn' => ⟨(hn n hn').2, by rw [← rKids_kfit (rKids_vk (hn n hn').1)]; exact (hn n hn').1⟩)
    unfold chk
    rw [h2]
    simp [allK, isK]
    exact fun f hf' => (hf f hf').2.2

/-- What is left of a node's walk, from its j-th kid on. -/
def rest (K : List (List Int)) (f : Int) (j : Nat) : List Int := ((ks K f).drop j).flatMap (po K)
/-- What is left of a walk: frames, the uppermost one first. -/
def RR (K : List (List Int)) : List (Int × Nat) → List Int
  | [] => []
  | (f, j) :: S => rest K f j ++ ([f] ++ RR K S)
def MM (K : List (List Int)) : List (Int × Nat) → Nat
  | [] => 0
  | (f, j) :: S => 2 * (rest K f j).length + 1 + MM K S
/-- Frames are of nodes, each below the one under it. -/
def Frs (K : List (List Int)) (n D : Nat) : List (Int × Nat) → Prop
  | [] => True
  | (f, j) :: S => 0 ≤ f ∧ f.toNat < n ∧ j ≤ (ks K f).length ∧ S.length + f.toNat ≤ D ∧ Frs K n D S
theorem rest_end {K f j} (h : (ks K f).length ≤ j) : rest K f j = [] := by simp [rest, List.drop_eq_nil_of_le h]
theorem rest_push {K} (hl : Lwr K) {f : Int} {j : Nat} (h : j < (ks K f).length) : rest K f j = rest K (ks K f)[j] 0 ++ ([(ks K f)[j]] ++ rest K f (j + 1)) := by
  unfold rest
  rw [List.drop_eq_getElem_cons h, List.flatMap_cons, po_eq hl (ks K f)[j], List.drop_zero]
  simp
theorem RR_push {K} (hl : Lwr K) {f : Int} {j : Nat} {S} (h : j < (ks K f).length) : RR K (((ks K f)[j], 0) :: (f, j + 1) :: S) = RR K ((f, j) :: S) := by
  simp only [RR, rest_push hl h]
  simp
theorem MM_push {K} (hl : Lwr K) {f : Int} {j : Nat} {S} (h : j < (ks K f).length) : MM K (((ks K f)[j], 0) :: (f, j + 1) :: S) < MM K ((f, j) :: S) := by
  simp only [MM, rest_push hl h]
  simp
  omega
theorem Frs_push {K n D} (hl : Lwr K) {f : Int} {j : Nat} {S} (h : j < (ks K f).length) (hF : Frs K n D ((f, j) :: S)) : Frs K n D (((ks K f)[j], 0) :: (f, j + 1) :: S) := by
  obtain ⟨h1, h2, h3, h4, h5⟩ := hF
  have := ks_low hl (List.getElem_mem h)
  refine ⟨by omega, by omega, by omega, by simp; omega, h1, h2, by omega, h4, h5⟩
theorem po_rest {K} (hl : Lwr K) (f : Int) : RR K [(f, 0)] = po K f := by simp [RR, rest, po_eq hl f]
end Go.Proofs.YtchobeakieljpaaGreatDoor
namespace Go.Proofs.YtchobeakieljpaaGreatDoor
open Go.ChangeShapes Go.WideShapes Go.ChangeAt Go.RowKit

theorem chk_no {T : Tr} (h : ¬ RChk T) : chk T = false := by
  rw [← Bool.not_eq_true, rchk_iff]
  exact h
theorem total_app (A B : List (List Int)) : total (A ++ B) = total A + total B := by simp [total]
theorem tot_le (N : List Nd) (i : Nat) : total ((N.take i).map Nd.kids) ≤ total (N.map Nd.kids) := by
  have e : N.map Nd.kids = (N.take i).map Nd.kids ++ (N.drop i).map Nd.kids := by rw [← List.map_append, List.take_append_drop]
  rw [e, total_app]
  omega
theorem tot_step (N : List Nd) (i : Nat) (h : i < N.length) : total ((N.take (i + 1)).map Nd.kids) = total ((N.take i).map Nd.kids) + (N[i]).kids.length := by
  rw [List.take_succ_eq_append_getElem h, List.map_append, total_app]
  simp [total]
/-- The first i nodes are right. -/
structure RP1 (T : Tr) (i tot : Nat) : Prop where
  ttl : tot = total ((T.nodes.take i).map Nd.kids)
  le : tot ≤ T.nodes.length
  low : ∀ (j : Nat) (h : j < T.nodes.length), j < i → ∀ x ∈ (T.nodes[j]).kids, 0 ≤ x ∧ x < (j : Int)
  nod : ∀ (j : Nat) (h : j < T.nodes.length), j < i → rKidsB T.nodes T.nodes[j] = true ∧ ffit T.nodes[j] = true
theorem RP1.zero (T : Tr) : RP1 T 0 0 := ⟨by simp [total], by omega, fun j h hj => by omega, fun j h hj => by omega⟩
theorem RP1.many {T i tot} (h : RP1 T i tot) (hi : i < T.nodes.length) {kl : Nat} (hk : kl = (T.nodes[i]).kids.length) (hb : T.nodes.length < tot + kl) : chk T = false := chk_no fun hR => by
  have h1 := tot_step T.nodes i hi
  have h2 := tot_le T.nodes (i + 1)
  have h3 := hR.tot
  have h4 := h.ttl
  omega
theorem RP1.range {T : Tr} {i : Nat} (hi : i < T.nodes.length) {x : Int} (hx : x ∈ (T.nodes[i]).kids) (hb : x < 0 ∨ (i : Int) ≤ x) : chk T = false := chk_no fun hR => by
  have := hR.low i (by simpa using hi) x (by simpa using hx)
  omega
theorem RP1.bad {T : Tr} {i : Nat} (hi : i < T.nodes.length) (hb : rKidsB T.nodes T.nodes[i] = false ∨ ffit T.nodes[i] = false) : chk T = false := chk_no fun hR => by
  have := hR.nod _ (List.getElem_mem hi)
  rcases hb with h | h
  · rw [h] at this; cases this.1
  · rw [h] at this; cases this.2
theorem RP1.next {T i tot} (h : RP1 T i tot) (hi : i < T.nodes.length) {kl : Nat} (hk : kl = (T.nodes[i]).kids.length) (hb : tot + kl ≤ T.nodes.length) (hr : ∀ x ∈ (T.nodes[i]).kids, 0 ≤ x ∧ x < (i : Int)) (h1 : rKidsB T.nodes T.nodes[i] = true) (h2 : ffit T.nodes[i] = true) : RP1 T (i + 1) (tot + kl) := by
  refine ⟨by rw [tot_step T.nodes i hi, ← h.ttl, hk], hb, fun j hj hji => ?_, fun j hj hji => ?_⟩
  · by_cases e : j = i
    · subst e; exact hr
    · exact h.low j hj (by omega)
  · by_cases e : j = i
    · subst e; exact ⟨h1, h2⟩
    · exact h.nod j hj (by omega)
/-- The first q functions' walks are the first numbers. -/
structure RP2 (T : Tr) (q at_ : Nat) : Prop where
  low : Lwr (T.nodes.map Nd.kids)
  tot : total (T.nodes.map Nd.kids) ≤ T.nodes.length
  nod : ∀ n ∈ T.nodes, rKidsB T.nodes n = true ∧ ffit n = true
  fns : ∀ f ∈ T.funcs.take q, 0 ≤ f ∧ f < T.nodes.length ∧ kd T.nodes f = 1
  pos : (T.funcs.take q).flatMap (po (T.nodes.map Nd.kids)) = rg at_
  le : at_ ≤ T.nodes.length
theorem RP1.fin {T i tot} (h : RP1 T i tot) (hi : T.nodes.length ≤ i) : RP2 T 0 0 := by
  refine ⟨fun j hj x hx => ?_, ?_, fun n hn => ?_, by simp, by simp [rg], by omega⟩
  · have hj' : j < T.nodes.length := by simpa using hj
    exact h.low j hj' (by omega) x (by simpa using hx)
  · have := h.ttl
    rw [List.take_of_length_le hi] at this
    have := h.le
    omega
  · obtain ⟨j, hj, rfl⟩ := List.mem_iff_getElem.1 hn
    exact h.nod j hj (by omega)
theorem RP2.func {T : Tr} {q : Nat} (hq : q < T.funcs.length) (hb : ¬ (0 ≤ T.funcs[q] ∧ T.funcs[q] < T.nodes.length ∧ kd T.nodes T.funcs[q] = 1)) : chk T = false := chk_no fun hR => hb (hR.fns _ (List.getElem_mem hq))
theorem RP2.bad {T q at_} (h : RP2 T q at_) (hq : q < T.funcs.length) {j : Nat} {x : Int} (hx : (po (T.nodes.map Nd.kids) T.funcs[q])[j]? = some x) (hne : ¬ x = (at_ : Int) + j) : chk T = false := chk_no fun hR => by
  have hp := hR.pos
  have e : T.funcs = T.funcs.take q ++ T.funcs[q] :: T.funcs.drop (q + 1) := by rw [← List.drop_eq_getElem_cons hq, List.take_append_drop]
  have e2 : T.funcs.flatMap (po (T.nodes.map Nd.kids)) = rg at_ ++ (po (T.nodes.map Nd.kids) T.funcs[q] ++ (T.funcs.drop (q + 1)).flatMap (po (T.nodes.map Nd.kids))) := by
    conv => lhs; rw [e]
    rw [List.flatMap_append, List.flatMap_cons, h.pos]
  rw [e2] at hp
  have h1 : (rg T.nodes.length)[at_ + j]? = some x := by
    rw [← hp, List.getElem?_append_right (by rw [rg_len]; omega), rg_len, Nat.add_sub_cancel_left, List.getElem?_append_left (by rw [List.getElem?_eq_some_iff] at hx; exact hx.1)]
    exact hx
  have := (rg_at _ _ _ h1).1
  omega
theorem RP2.next {T q at_} (h : RP2 T q at_) (hq : q < T.funcs.length) (hf : 0 ≤ T.funcs[q] ∧ T.funcs[q] < T.nodes.length ∧ kd T.nodes T.funcs[q] = 1) {l : List Int} {m : Nat} (hl : l = (po (T.nodes.map Nd.kids) T.funcs[q]).take (T.nodes.length + 1)) (hm : m = l.length) (ha : ∀ j, j < m → l[j]? = some ((at_ : Int) + j)) : RP2 T (q + 1) (at_ + m) := by
  have hmem : ∀ x ∈ l, x < T.nodes.length := fun x hx => by
    rw [hl] at hx
    have := po_lt h.low (T.funcs[q].toNat + 1) T.funcs[q] x (by omega) hf.1 (List.mem_of_mem_take hx)
    omega
  have hml : m ≤ T.nodes.length := by
    by_cases hc : T.nodes.length < m
    · have h1 := ha T.nodes.length hc
      have := hmem _ (List.mem_of_getElem? h1)
      omega
    · omega
  have hle : l = po (T.nodes.map Nd.kids) T.funcs[q] := by
    have : l.length ≤ T.nodes.length := by omega
    rw [hl, List.length_take] at this
    rw [hl, List.take_of_length_le (by omega)]
  have hpos : 0 < m := by
    rw [hm, hle, po_eq h.low]
    simp
  refine ⟨h.low, h.tot, h.nod, fun f hf' => ?_, ?_, ?_⟩
  · rw [List.take_succ_eq_append_getElem hq] at hf'
    rcases List.mem_append.1 hf' with hf' | hf'
    · exact h.fns f hf'
    · simp at hf'; rw [hf']; exact hf
  · rw [List.take_succ_eq_append_getElem hq, List.flatMap_append, h.pos, List.flatMap_cons, List.flatMap_nil, List.append_nil, ← hle]
    refine List.ext_getElem? fun j => ?_
    by_cases hj : j < at_
    · rw [List.getElem?_append_left (by rw [rg_len]; exact hj)]
      simp [rg, hj, show j < at_ + m by omega]
    · rw [List.getElem?_append_right (by rw [rg_len]; omega), rg_len]
      by_cases hj2 : j < at_ + m
      · rw [ha (j - at_) (by omega)]
        simp [rg, hj2]
        omega
      · rw [List.getElem?_eq_none (by omega), List.getElem?_eq_none (by rw [rg_len]; omega)]
  · have h1 := ha (m - 1) (by omega)
    have := hmem _ (List.mem_of_getElem? h1)
    omega
theorem RP2.fin {T q at_} (h : RP2 T q at_) (hq : T.funcs.length ≤ q) : chk T = decide (at_ = T.nodes.length) := by
  have e : T.funcs.take q = T.funcs := List.take_of_length_le hq
  by_cases ha : at_ = T.nodes.length
  · rw [(rchk_iff T).2 ⟨h.low, h.tot, h.nod, by rw [← e]; exact h.fns, by rw [← ha, ← h.pos, e]⟩]
    simp [ha]
  · rw [chk_no fun hR => ?_]
    · simp [ha]
    · have h1 := hR.pos
      rw [← e, h.pos] at h1
      have := congrArg List.length h1
      rw [rg_len, rg_len] at this
      exact ha this
end Go.Proofs.YtchobeakieljpaaGreatDoor
namespace Go.Proofs.YtchobeakieljpaaGreatDoor
open Go.ChangeShapes Go.WideShapes Go.ChangeAt Go.RowKit

/-- The first j kids are right. -/
structure RKT (N : List Nd) (nd : Nd) (j : Nat) (R : Bool) : Prop where
  ok : ∀ i, i < j → rWant nd.kind nd.kids.length i (kd N (nd.kids.getD i 0)) = true
  res : rKidsB N nd = R
theorem RKT.hit {N nd j R} (h : RKT N nd j R) (hj : j < nd.kids.length) (hf : rWant nd.kind nd.kids.length j (kd N (nd.kids.getD j 0)) = false) : false = R := by
  rw [← h.res]
  symm
  unfold rKidsB
  rw [Bool.and_eq_false_iff]
  right
  rw [← Bool.not_eq_true, List.all_eq_true]
  intro ha
  have := ha j (by simpa using hj)
  rw [hf] at this
  cases this
theorem RKT.next {N nd j R} (h : RKT N nd j R) (hf : rWant nd.kind nd.kids.length j (kd N (nd.kids.getD j 0)) = true) : RKT N nd (j + 1) R := ⟨fun i hi => by
  rcases Nat.lt_succ_iff_lt_or_eq.1 hi with h1 | rfl
  · exact h.ok i h1
  · exact hf, h.res⟩
theorem RKT.fin {N nd j R} (h : RKT N nd j R) (hj : nd.kids.length ≤ j) {lo hi : Int} (e : rMany nd.kind = (lo, hi)) (h1 : ¬ hi = -2) (h2 : ¬ (nd.kids.length : Int) < lo) (h3 : ¬ (0 ≤ hi ∧ hi < nd.kids.length)) : true = R := by
  rw [← h.res]
  symm
  unfold rKidsB
  rw [e]
  simp only [Bool.and_eq_true, decide_eq_true_eq, Bool.or_eq_true, List.all_eq_true]
  refine ⟨⟨⟨h1, by omega⟩, by omega⟩, fun i hi => h.ok i (by have hil : i < nd.kids.length := (by simpa using hi); omega)⟩
theorem rKids_no {N nd} {R : Bool} (hR : rKidsB N nd = R) {lo hi : Int} (e : rMany nd.kind = (lo, hi)) (h : hi = -2 ∨ (nd.kids.length : Int) < lo ∨ (0 ≤ hi ∧ hi < nd.kids.length)) : false = R := by
  rw [← hR]
  symm
  unfold rKidsB
  rw [e, Bool.and_eq_false_iff]
  left
  rw [← Bool.not_eq_true]
  simp only [Bool.and_eq_true, decide_eq_true_eq, Bool.or_eq_true]
  omega

set_option maxRecDepth 10000 in
set_option maxHeartbeats 4000000 in
theorem rKids_any (w : World) (no : Option Addr) (nc nn : Nat) (fo : Option Addr) (fc fn : Nat) (N : List Nd) (hnn : nn = N.length) (hN : Nodes w no nc N) (nd : Nd) (ka : Option Addr) (kc : Nat) (s : ByteArray) (kl : Nat) (hK : Ints w ka kc nd.kids) (hrg : ∀ x ∈ nd.kids, 0 ≤ x ∧ x < nn) (hkl : kl = nd.kids.length) (hb : kl ≤ 1000000000) (hnb : nn ≤ 1000000000) (R : Bool) (hR : rKidsB N nd = R) :
    Calls Tryz.prog 32 #[.agg #[.slice no nn nc, .slice fo fn fc], .agg #[.int .i64 nd.kind, .int .i64 nd.at_, .int .i64 nd.wh, .int .i64 nd.close, .int .i64 nd.decl, .int .i64 nd.typ, .int .i64 nd.op, .int .i64 nd.val, .string s, .slice ka kl kc]] w fun e w' => e = .returned (.bool R) ∧ Below w.heap.size w w' := by
  have HNN : Hid (nn = N.length) := hnn
  have HKL : Hid (kl = nd.kids.length) := hkl
  have HRG : Hid _ := hrg
  have HR : Hid (rKidsB N nd = R) := hR
  have hl : nn ≤ nc := by have := hN.le; omega
  have hl2 : kl ≤ kc := by have := hK.le; omega
  clear hnn hkl hrg hR
  obtain ⟨lo, hi, hlh⟩ : ∃ lo hi, rMany nd.kind = (lo, hi) := ⟨_, _, rfl⟩
  have HLH : Hid (rMany nd.kind = (lo, hi)) := hlh
  have MANY : ∀ w, Calls Tryz.prog 52 #[.int .i64 nd.kind] w fun e w' => e = .returned (.tuple #[.int .i64 lo, .int .i64 hi]) ∧ w = w' := fun w => by
    have := rMany_any nd.kind w
    rw [hlh] at this
    exact this
  clear hlh
  by_cases c1 : hi = -2
  · subst c1
    go_enter Tryz.func32, Tryz.ntmps32
    go_wp2_with (first | (go_at_call 52; refine (MANY _).mono ?_; rintro e w' ⟨rfl, rfl⟩))
    go_ret
    exact ⟨ret_b (rKids_no HR.out HLH.out (.inl rfl)), ((Below.refl _ _).alloc (Nat.le_refl _) _).alloc (by simp) _⟩
  by_cases c2 : (kl : Int) < lo
  · go_enter Tryz.func32, Tryz.ntmps32
    go_wp2_with (first | (go_at_call 52; refine (MANY _).mono ?_; rintro e w' ⟨rfl, rfl⟩))
    go_ret
    exact ⟨ret_b (rKids_no HR.out HLH.out (.inr (.inl (by have := HKL.out; omega)))), ((Below.refl _ _).alloc (Nat.le_refl _) _).alloc (by simp) _⟩
  by_cases c3 : 0 ≤ hi ∧ hi < (kl : Int)
  · obtain ⟨c3a, c3b⟩ := c3
    go_enter Tryz.func32, Tryz.ntmps32
    go_wp2_with (first | (go_at_call 52; refine (MANY _).mono ?_; rintro e w' ⟨rfl, rfl⟩))
    go_ret
    exact ⟨ret_b (rKids_no HR.out HLH.out (.inr (.inr (by have := HKL.out; omega)))), ((Below.refl _ _).alloc (Nat.le_refl _) _).alloc (by simp) _⟩
  have HC3 : Hid (¬ (0 ≤ hi ∧ hi < (kl : Int))) := c3
  have HS0 : RKT N nd 0 R := ⟨fun i hi => by omega, HR.out⟩
  by_cases c4 : 0 ≤ hi
  all_goals
    try (have c5 : decide (hi < (kl : Int)) = false := by simp; omega)
    have b1 : (hi == -2) = false := by simpa using c1
    have b2 : decide ((kl : Int) < lo) = false := by simpa using c2
    clear c3
    go_enter Tryz.func32, Tryz.ntmps32
    go_wp2_with (first | (go_at_call 52; refine (MANY _).mono ?_; rintro e w' ⟨rfl, rfl⟩))
    obtain ⟨w0, hw0⟩ : ∃ w0, w0 = (w.alloc (.cells #[.slice no nn nc, .slice fo fn fc] 27)).alloc (.cells #[.int .i64 nd.kind, .int .i64 nd.at_, .int .i64 nd.wh, .int .i64 nd.close, .int .i64 nd.decl, .int .i64 nd.typ, .int .i64 nd.op, .int .i64 nd.val, .string s, .slice ka kl kc] 39) := ⟨_, rfl⟩
    have hb0 : Below w.heap.size w w0 := by rw [hw0]; exact ((Below.refl _ _).alloc (Nat.le_refl _) _).alloc (by simp) _
    have t0 : w0.cell? ⟨w.heap.size, 0, none⟩ = some (.slice no nn nc) := by rw [hw0]; simp
    have n0 : w0.cell? ⟨w.heap.size + 1, 0, none⟩ = some (.int .i64 nd.kind) := by rw [hw0]; simp
    have n9 : w0.cell? ⟨w.heap.size + 1, 9, none⟩ = some (.slice ka kl kc) := by rw [hw0]; simp
    rw [← hw0]
    clear hw0
    clear b1 b2

    go_loopw [8] (fun v wr => ∃ j q : Nat, j ≤ kl ∧ v = .int .i64 j ∧ RKT N nd j R ∧ wr = w0.drewN q) (fun v _ => kl - (intOf v).toNat)
    case atStart => exact ⟨0, 0, by omega, rfl, HS0, rfl⟩
    case round =>
      obtain ⟨j, q, hj, rfl, HJ, hwr⟩ := hrel
      have hbq : Below w.heap.size w wr := by rw [hwr]; exact Below.drewN' hb0 q
      have t0q : wr.cell? ⟨w.heap.size, 0, none⟩ = some (.slice no nn nc) := by rw [hwr]; simpa using t0
      have n0q : wr.cell? ⟨w.heap.size + 1, 0, none⟩ = some (.int .i64 nd.kind) := by rw [hwr]; simpa using n0
      have n9q : wr.cell? ⟨w.heap.size + 1, 9, none⟩ = some (.slice ka kl kc) := by rw [hwr]; simpa using n9
      have HWR : Hid (wr = w0.drewN q) := hwr
      clear hwr t0 n0 n9
      by_cases hlt : j < kl
      · obtain ⟨kb, ko, rfl, hKA⟩ := (hK.below hbq (Nat.le_refl _)).out (by intro e; have := HKL.out; simp [e] at this; omega)
        have hkc := hKA.cell j (by have := HKL.out; omega)
        obtain ⟨x, hx⟩ : ∃ x, x = nd.kids[j]'(by have := HKL.out; omega) := ⟨_, rfl⟩
        obtain ⟨hx0, hx1⟩ := HRG.out x (by rw [hx]; exact List.getElem_mem _)
        rw [← hx] at hkc
        have HX : Hid (x = nd.kids.getD j 0) := by
          show x = _
          rw [hx]
          have : j < nd.kids.length := by have := HKL.out; omega
          simp [List.getD, this]
        obtain ⟨m, rfl⟩ : ∃ m : Nat, x = (m : Int) := ⟨x.toNat, by omega⟩
        have hmn : m < nn := by omega
        obtain ⟨b, o, rfl, hbl, hAt⟩ := (hN.below hbq (Nat.le_refl _)).out (by intro e; have := HNN.out; simp [e] at this; omega)
        obtain ⟨ka2, kc2, c0, c1, c2, c3, c4, c5, c6, c7, c8, c9, hK2⟩ := (hAt m (by have := HNN.out; omega)).out
        obtain ⟨kk, hkk⟩ : ∃ kk, kk = (N[m]'(by have := HNN.out; omega)).kind := ⟨_, rfl⟩
        rw [← hkk] at c0
        have HKD : Hid (kk = kd N (nd.kids.getD j 0)) := by
          show kk = _
          rw [← HX.out, hkk, kd]
          have : m < N.length := by have := HNN.out; omega
          simp [this]
        obtain ⟨V, hV⟩ : ∃ V, rWant nd.kind kl j kk = V := ⟨_, rfl⟩
        have WANT : ∀ w, Calls Tryz.prog 53 #[.int .i64 nd.kind, .int .i64 kl, .int .i64 j, .int .i64 kk] w fun e w' => e = .returned (.bool V) ∧ w = w' := fun w => by rw [← hV]; exact rWant_any nd.kind kl j kk hlt hb w
        have HV : Hid (rWant nd.kind nd.kids.length j (kd N (nd.kids.getD j 0)) = V) := by
          show _ = V
          rw [← hV, ← HKD.out, HKL.out]
        clear hx hkk hV hAt c1 c2 c3 c4 c5 c6 c7 c8 c9 hK2 hKA
        cases V
        · go_wp2_with fail
          go_quiet (first | (go_at_call 53; exact Calls.quiet_of_same ((WANT _).mono fun _ _ h => ⟨h.1, h.2.symm⟩)))
          go_wp2_with fail
          go_ret
          exact ⟨ret_b (HJ.hit (by have := HKL.out; omega) HV.out), Below.drewN' hbq _⟩
        · go_wp2_with fail
          go_quiet (first | (go_at_call 53; exact Calls.quiet_of_same ((WANT _).mono fun _ _ h => ⟨h.1, h.2.symm⟩)))
          go_wp2_with fail
          go_roundw
          case rel => exact ⟨j + 1, _, by omega, by go_num, HJ.next HV.out, by rw [HWR.out]; exact World.drewN_drewN _ _ _⟩
          case measure => simp [intOf]; omega
      · obtain rfl : j = kl := by omega
        go_wp2_with fail
        go_ret
        exact ⟨ret_b (HJ.fin (by have := HKL.out; omega) HLH.out c1 (by have := HKL.out; omega) (by have := HKL.out; have := HC3.out; omega)), hbq⟩
end Go.Proofs.YtchobeakieljpaaGreatDoor
