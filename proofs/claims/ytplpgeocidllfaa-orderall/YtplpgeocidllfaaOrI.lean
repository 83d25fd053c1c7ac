import Derived.Test.YtplpgeocidllfaaOrH
set_option linter.unusedVariables false
set_option linter.unusedSimpArgs false
namespace Go.Proofs.Ytplpgeocidllfaa
open Go.ChangeShapes Go.WideShapes Go.ChangeAt Go.RowKit Go.Maps

/-- A row of n numbers, as it lies. -/
def IR (w : World) (g n : Nat) (f : Nat → Int) : Prop := w.heap[g]? = some (.cells ((List.range n).map fun i => Value.int .i64 (f i)).toArray 3 (0, 0))
theorem IR.cell {w : World} {g n : Nat} {f : Nat → Int} (h : IR w g n f) {i : Nat} (hi : i < n) : w.cell? ⟨g, i, none⟩ = some (.int .i64 (f i)) := cell_arr h (by simp [hi])
theorem IR.fz {w : World} {g n : Nat} {f : Nat → Int} (h : IR w g n f) (i : Nat) : w.frozen? ⟨g, i, none⟩ = false := fz_of h
theorem IR.lt {w : World} {g n : Nat} {f : Nat → Int} (h : IR w g n f) : g < w.heap.size := (Array.getElem?_eq_some_iff.1 h).1
def updN (f : Nat → Int) (x : Nat) (v : Int) : Nat → Int := fun y => if y = x then v else f y
theorem IR.set {w : World} {g n : Nat} {f : Nat → Int} (h : IR w g n f) (i : Nat) (v : Int) : IR (w.setCell ⟨g, i, none⟩ (.int .i64 v)) g n (updN f i v) := by
  unfold IR at h ⊢
  rw [heap_set_at h]
  congr 2
  refine Array.ext (by simp) fun j h1 h2 => ?_
  simp only [List.setIfInBounds_toArray, List.getElem_toArray, List.getElem_set, List.getElem_map, List.getElem_range, updN]
  by_cases e : i = j
  · subst e; simp
  · rw [if_neg e, if_neg (Ne.symm e)]
theorem IR.move {w w' : World} {g n : Nat} {f : Nat → Int} (h : IR w g n f) (hk : w'.heap[g]? = w.heap[g]?) : IR w' g n f := hk.trans h
theorem IR.made (w : World) (n : Nat) : IR (w.alloc (.cells (madeCells #[.int .i64 0] n) 3)) w.heap.size n (fun _ => 0) := by
  unfold IR
  rw [heap_alloc_new]
  congr 2
  have : (madeCells #[Value.int .i64 0] n).toList = List.replicate n (.int .i64 0) := toList_madeCells_one _ _
  refine Array.ext' ?_
  rw [this]
  refine List.ext_getElem (by simp) fun i h1 h2 => ?_
  simp

def topW (way : List (Int × Nat)) : Int := match way.getLast? with
  | none => -1
  | some p => p.1
theorem topW_nil : topW [] = -1 := rfl
theorem topW_snoc (st : List (Int × Nat)) (p : Int × Nat) : topW (st ++ [p]) = p.1 := by simp [topW]
/-- The document's three rows along a visit. -/
structure RI (Ls : List (List Int)) (s : OS) (sf nf ff : Nat → Int) : Prop where
  sv : ∀ x : Nat, x < Ls.length → (sf x = 0 ↔ (x : Int) ∉ s.vis)
  un : ∀ x : Nat, x < Ls.length → (x : Int) ∉ s.vis → nf x = 0
  wy : ∀ (b l : Nat), ((b : Int), l) ∈ s.way → nf b = ((rowOf Ls (b : Int)).length : Int) - l
  ch : ∀ st (b l : Nat) post, s.way = st ++ ((b : Int), l) :: post → ff b = topW st
theorem OI.way_nd {Ls : List (List Int)} {s : OS} (h : OI Ls s) : (s.way.map Prod.fst).Nodup := by
  have h1 := h.perm.nodup_iff.1 h.nd
  exact (List.nodup_append.1 h1).1
theorem OI.way_vis {Ls : List (List Int)} {s : OS} (h : OI Ls s) {p : Int × Nat} (hp : p ∈ s.way) : p.1 ∈ s.vis := h.perm.mem_iff.2 (by simp; exact .inl ⟨p.2, hp⟩)
theorem RI.zero {Ls : List (List Int)} (hg : goodP Ls = true) : RI Ls (os0 Ls) (updN (fun _ => 0) 0 1) (fun _ => 0) (updN (fun _ => 0) 0 (-1)) := by
  refine ⟨?_, fun _ _ _ => rfl, ?_, ?_⟩
  · intro x hx
    simp only [updN, os0, List.mem_singleton]
    by_cases e : x = 0
    · subst e; simp
    · rw [if_neg e]; simp; omega
  · intro b l h
    simp only [os0, List.mem_singleton, Prod.mk.injEq] at h
    obtain ⟨h1, h2⟩ := h
    rw [h1, h2]; simp
  · intro st b l post e
    simp only [os0] at e
    rcases st with _ | ⟨x, st⟩
    · simp at e
      obtain ⟨⟨h1, _⟩, _⟩ := e
      have : b = 0 := by omega
      subst this
      rfl
    · simp at e
theorem RI.pop {Ls : List (List Int)} {vis : List Int} {st : List (Int × Nat)} {b : Nat} {out : List Int} {sf nf ff : Nat → Int} (h : RI Ls ⟨vis, st ++ [((b : Int), 0)], out⟩ sf nf ff) (hb : (b : Int) ∈ vis) : RI Ls ⟨vis, st, out ++ [(b : Int)]⟩ (updN sf b 2) nf ff ∧ ff b = topW st := by
  refine ⟨⟨?_, h.un, fun c l hc => h.wy c l (by simp; exact .inl hc), fun st' c l post e => h.ch st' c l (post ++ [((b : Int), 0)]) (by simp only at e ⊢; rw [e]; simp)⟩, h.ch st b 0 [] rfl⟩
  intro x hx
  unfold updN
  by_cases e : x = b
  · subst e; simp [hb]
  · rw [if_neg e]; exact h.sv x hx
theorem RI.old {Ls : List (List Int)} {vis : List Int} {st : List (Int × Nat)} {b l : Nat} {out : List Int} {sf nf ff : Nat → Int} (hO : OI Ls ⟨vis, st ++ [((b : Int), l + 1)], out⟩) (h : RI Ls ⟨vis, st ++ [((b : Int), l + 1)], out⟩ sf nf ff) : RI Ls ⟨vis, st ++ [((b : Int), l)], out⟩ sf (updN nf b (nf b + 1)) ff := by
  have hb : (b : Int) ∈ vis := hO.way_vis (p := ((b : Int), l + 1)) (by simp)
  have hnd := hO.way_nd
  simp only [List.map_append, List.map_cons, List.map_nil] at hnd
  have hns := (List.nodup_append.1 hnd).2.2
  refine ⟨h.sv, ?_, ?_, ?_⟩
  · intro x hx hv
    unfold updN
    rw [if_neg (fun e => hv (by rw [e]; exact hb))]
    exact h.un x hx hv
  · intro c k hc
    simp only [List.mem_append, List.mem_singleton, Prod.mk.injEq] at hc
    unfold updN
    rcases hc with hc | ⟨e1, e2⟩
    · rw [if_neg (fun e => hns (c : Int) (List.mem_map_of_mem (f := Prod.fst) hc) (b : Int) (by simp) (by rw [e]))]
      exact h.wy c k (by simp; exact .inl hc)
    · have e3 : c = b := by omega
      subst e3 e2
      rw [if_pos rfl, h.wy c (k + 1) (by simp)]
      omega
  · intro st' c k post e
    rcases List.eq_nil_or_concat post with hp | ⟨post', z, hp⟩
    · subst hp
      obtain ⟨e1, e2⟩ := List.append_inj' e rfl
      simp only [List.cons.injEq, Prod.mk.injEq, and_true] at e2
      have e3 : c = b := by omega
      subst e3 e1
      exact h.ch st c (l + 1) [] rfl
    · rw [List.concat_eq_append] at hp
      subst hp
      rw [show st' ++ ((c : Int), k) :: (post' ++ [z]) = (st' ++ ((c : Int), k) :: post') ++ [z] by simp] at e
      obtain ⟨e1, e2⟩ := List.append_inj' e rfl
      exact h.ch st' c k (post' ++ [((b : Int), l + 1)]) (by simp only [e1]; simp)
theorem RI.new {Ls : List (List Int)} {vis : List Int} {st : List (Int × Nat)} {b l x : Nat} {out : List Int} {sf nf ff : Nat → Int} (hO : OI Ls ⟨vis, st ++ [((b : Int), l + 1)], out⟩) (h : RI Ls ⟨vis, st ++ [((b : Int), l + 1)], out⟩ sf nf ff) (hx : (x : Int) ∉ vis) (hxn : x < Ls.length) :
    RI Ls ⟨vis ++ [(x : Int)], st ++ [((b : Int), l)] ++ [((x : Int), (rowOf Ls (x : Int)).length)], out⟩ (updN sf x 1) (updN nf b (nf b + 1)) (updN ff x b) := by
  have h1 := RI.old hO h
  have hb : (b : Int) ∈ vis := hO.way_vis (p := ((b : Int), l + 1)) (by simp)
  have hbx : x ≠ b := fun e => hx (by rw [e]; exact hb)
  have hwv : ∀ p ∈ st ++ [((b : Int), l)], p.1 ∈ vis := by
    intro p hp
    simp only [List.mem_append, List.mem_singleton] at hp
    rcases hp with hp | rfl
    · exact hO.way_vis (p := p) (by simp; exact .inl hp)
    · exact hb
  refine ⟨?_, ?_, ?_, ?_⟩
  · intro y hy
    simp only [updN, List.mem_append, List.mem_singleton]
    by_cases e : y = x
    · subst e; simp
    · rw [if_neg e, h1.sv y hy]
      have : ¬ ((y : Int) = x) := by omega
      simp [this]
  · intro y hy hv
    simp only [List.mem_append, List.mem_singleton, not_or] at hv
    exact h1.un y hy hv.1
  · intro c k hc
    simp only [List.mem_append, List.mem_singleton, Prod.mk.injEq] at hc
    rcases hc with (hc | ⟨e1, e2⟩) | ⟨e1, e2⟩
    · exact h1.wy c k (by simp; exact .inl hc)
    · exact h1.wy c k (by simp; exact .inr ⟨by omega, e2⟩)
    · have e3 : c = x := by omega
      subst e3 e2
      have h2 := h1.un c hxn hx
      rw [h2]
      omega
  · intro st' c k post e
    rcases List.eq_nil_or_concat post with hp | ⟨post', z, hp⟩
    · subst hp
      obtain ⟨e1, e2⟩ := List.append_inj' e rfl
      simp only [List.cons.injEq, Prod.mk.injEq, and_true] at e2
      have e3 : c = x := by omega
      subst e3 e1
      rw [topW_snoc]
      simp [updN]
    · rw [List.concat_eq_append] at hp
      subst hp
      rw [show st' ++ ((c : Int), k) :: (post' ++ [z]) = (st' ++ ((c : Int), k) :: post') ++ [z] by simp] at e
      obtain ⟨e1, e2⟩ := List.append_inj' e rfl
      have hcx : c ≠ x := fun e3 => hx (by rw [← e3]; exact hwv ((c : Int), k) (by simp only [e1]; simp))
      unfold updN
      rw [if_neg hcx]
      exact h1.ch st' c k post' e1
/-- append(l, x...). -/
theorem run_append_manyI {w : World} (B : Nat) (ty : TypeId) (v : Value) (n : Nat) (L : List Int) (hown : OwnI w B v n L) (xo : Option Addr) (m c : Nat) (M : List Int) (hm : m = M.length) (hI : Ints w xo c M) (hz : M = [] → xo = none ∧ c = 0) (hl : n + m ≤ 17592186044416) (hB : B ≤ w.heap.size) :
    ∃ v' w', (Builtin.append_ #[27, 27] ty #[v, .slice xo m c]).run Try.prog w = .ok v' w' ∧ OwnI w' B v' (n + m) (L ++ M) ∧ GI B w w' v v' := by
  obtain ⟨i0, hi, hz0, hz1, hz2⟩ := info_parts info3i
  by_cases he : M = []
  · obtain ⟨e1, e2⟩ := hz he
    subst e1 e2 he
    simp at hm
    subst hm
    exact ⟨_, _, run_append_owned_none (P := Try.prog) (w := w) B 27 ty 3 i0 1 Try.underlying27 hi v n (ivs L) hown.out, by simpa using hown, ⟨Below.refl _ _, fun _ _ _ => rfl, fun _ h => .inl h⟩⟩
  · obtain ⟨b, o, e, hA⟩ := hI.out he
    subst e
    have hp : 0 < m := by rw [hm]; exact List.length_pos_iff.2 he
    have hc : ∀ j u, (ivs M)[j]? = some u → w.cell? ((⟨b, o, none⟩ : Addr).add j) = some u := by
      intro j u hj
      have hjl : j < M.length := by
        have := (List.getElem?_eq_some_iff.1 hj).1
        simpa [ivs] using this
      have := hA.cell j hjl
      rw [add_none, this]
      simp [ivs, hjl] at hj
      rw [hj]
    obtain ⟨v', w', hr, h2, h3, h4⟩ := run_append_where (P := Try.prog) (w := w) B 27 ty 3 i0 (.int .i64 0) 1 8 Try.underlying27 hi hz0 hz1 hz2 rfl (by decide) v n (ivs L) hown.out ⟨b, o, none⟩ m c hp (ivs M) (by simp [ivs, hm]) hc (ivs_one M) (by unfold maxLen; omega) (by omega) hB
    refine ⟨v', w', hr, ⟨by simp [hm, hown.len], by simpa [ivs] using h2⟩, ⟨(Below.refl _ _).grown h3 hB (fun k hk => (own_block hown.out hk).1), fun g h5 h6 => grown_at h3 h5 h6, fun g hg => ?_⟩⟩
    rcases h4.out with ⟨g', cap, e1, e2⟩ | ⟨e1, _⟩
    · subst e1 e2; exact .inl hg
    · rw [e1] at hg; cases hg; right; exact Nat.le_refl _
theorem wpList_append_manyI {w : World} {ops : Array Oper} {rest : List Oper} {op : Oper} {a : Act} {Q : Exit → Act → World → Prop} (hw : Region.wanted op (yielded ops a.tmps) = true) (s x : Operand)
    (ho : op.op = .call { callee := .builtin .append, args := #[s, x], argTypes := #[27, 27] })
    (B : Nat) (v : Value) (n : Nat) (L : List Int) (hs : a.eval s = v) (hown : OwnI w B v n L) (xo : Option Addr) (m c : Nat) (M : List Int) (hm : m = M.length) (hI : Ints w xo c M) (hz : M = [] → xo = none ∧ c = 0) (hx : a.eval x = .slice xo m c) (hl : n + m ≤ 17592186044416) (hB : B ≤ w.heap.size)
    (h : ∀ v' w', OwnI w' B v' (n + m) (L ++ M) → GI B w w' v v' → wpList Try.prog ops Q rest (a.put op.dst v') w') : wpList Try.prog ops Q (op :: rest) a w := by
  obtain ⟨v', w', hr, h1, h2⟩ := run_append_manyI B op.type v n L hown xo m c M hm hI hz hl hB
  refine wpList_step fun K hK => ?_
  rw [if_pos hw]
  unfold Oper.wp execOp
  simp only [ho, resolve, invoke, builtin, Sem.run_bind, Sem.run_pure, Result.andThen_ok, List.map_toArray, List.map_cons, List.map_nil, hs, hx, hr]
  exact hK _ _ (h v' w' h1 h2)
end Go.Proofs.Ytplpgeocidllfaa
