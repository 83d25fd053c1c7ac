import Derived.Test.YtddcpbidlbiamaaHpD
set_option linter.unusedVariables false
namespace Go.Proofs.Ytddcpbidlbiamaa
open Go.ChangeShapes Go.WideShapes Go.ChangeAt Go.RowKit

theorem set_same {α : Type} {l : List α} {i : Nat} {u : α} (h : l[i]? = some u) : l.set i u = l := by
  apply List.ext_getElem?
  intro j
  rw [List.getElem?_set]
  split
  · rename_i e
    subst e
    obtain ⟨hi, e⟩ := List.getElem?_eq_some_iff.1 h
    rw [if_pos hi, h]
  · rfl
theorem ids_cons (x : RB) (L : List RB) : idsOf (x :: L) = x.ids ++ idsOf L := by simp [idsOf]
theorem ids_set_mem {N : Nat} {L : List RB} : ∀ (k : Nat) (hk : k < L.length) (x : RB), (∀ g ∈ x.ids, g ∈ (L[k]).ids ∨ N ≤ g) → ∀ g ∈ idsOf (L.set k x), g ∈ idsOf L ∨ N ≤ g := by
  intro k hk x hx g hg
  obtain ⟨y, hy, hgy⟩ := List.mem_flatMap.1 hg
  rcases List.mem_or_eq_of_mem_set hy with h | rfl
  · exact .inl (List.mem_flatMap.2 ⟨y, h, hgy⟩)
  · rcases hx g hgy with h | h
    · exact .inl (List.mem_flatMap.2 ⟨_, List.getElem_mem hk, h⟩)
    · exact .inr h
theorem ids_set_nod {N : Nat} : ∀ (L : List RB), (idsOf L).Nodup → (∀ g ∈ idsOf L, g < N) → ∀ (k : Nat) (hk : k < L.length) (x : RB), x.ids.Nodup → (∀ g ∈ x.ids, g ∈ (L[k]).ids ∨ N ≤ g) → (idsOf (L.set k x)).Nodup := by
  intro L
  induction L with
  | nil => intro _ _ k hk; simp at hk
  | cons y L ih =>
    intro hn hN k hk x hxn hx
    rw [ids_cons, List.nodup_append] at hn
    obtain ⟨n1, n2, n3⟩ := hn
    have hN1 : ∀ g ∈ y.ids, g < N := fun g hg => hN g (by rw [ids_cons]; simp [hg])
    have hN2 : ∀ g ∈ idsOf L, g < N := fun g hg => hN g (by rw [ids_cons]; simp [hg])
    cases k with
    | zero =>
      rw [List.set_cons_zero, ids_cons, List.nodup_append]
      refine ⟨hxn, n2, fun a ha b hb e => ?_⟩
      subst e
      rcases hx a ha with h | h
      · exact n3 a h a hb rfl
      · have := hN2 a hb; omega
    | succ k =>
      rw [List.set_cons_succ, ids_cons, List.nodup_append]
      refine ⟨n1, ih n2 hN2 k (by simpa using hk) x hxn (by simpa using hx), fun a ha b hb e => ?_⟩
      subst e
      rcases ids_set_mem (N := N) k (by simpa using hk) x (by simpa using hx) a hb with h | h
      · exact n3 a ha a h rfl
      · have := hN1 a ha; omega
theorem ids_of_nod {L : List RB} (h : (idsOf L).Nodup) {k : Nat} (hk : k < L.length) : (L[k]).ids.Nodup := by
  induction L generalizing k with
  | nil => simp at hk
  | cons y L ih =>
    rw [ids_cons, List.nodup_append] at h
    cases k with
    | zero => exact h.1
    | succ k => exact ih h.2.1 (by simpa using hk)
/-- Rows of two blocks are two rows. -/
theorem ids_apart {L : List RB} (h : (idsOf L).Nodup) {k l : Nat} (hk : k < L.length) (hl : l < L.length) (hne : l ≠ k) : ∀ g ∈ (L[l]).ids, g ∉ (L[k]).ids := by
  induction L generalizing k l with
  | nil => simp at hk
  | cons y L ih =>
    rw [ids_cons, List.nodup_append] at h
    intro g hg hg2
    have up : ∀ m (hm : m < L.length), g ∈ (L[m]).ids → g ∈ idsOf L := fun m hm hx => List.mem_flatMap.2 ⟨_, List.getElem_mem hm, hx⟩
    match k, l with
    | 0, 0 => exact hne rfl
    | 0, l + 1 => exact h.2.2 g hg2 g (up l (by simpa using hl) hg) rfl
    | k + 1, 0 => exact h.2.2 g hg g (up k (by simpa using hk) hg2) rfl
    | k + 1, l + 1 => exact ih h.2.1 (k := k) (l := l) (by simpa using hk) (by simpa using hl) (by omega) g hg hg2

/-- One block's lists are turned: w3 is w but for that block's rows, its cells in the blocks' row, and new memory. -/
theorem RH.turn {w w3 : World} {B r tk v L c c'} (H : RH w B r tk v L c) {k : Nat} (hk : k < L.length) (x : RB) (hc : c ≤ c')
    (hO : Only (fun q => v.ownBlock = some q ∨ q ∈ (L[k]).ids) w w3) (hrow : w3.ownsRow B 59 5 v L.length (rbs (L.set k x))) (hx : RBo w3 B x) (hn : x.ids.Nodup) (hi : ∀ g ∈ x.ids, g ∈ (L[k]).ids ∨ w.heap.size ≤ g)
    (h1 : x.ns.length ≤ 4096) (h2 : x.ks.length ≤ c') (h3 : x.ws.length ≤ c') :
    RH w3 B r tk v (L.set k x) c' ∧ Only (RF r v L) w w3 ∧ ∀ q, RF r v (L.set k x) q → RF r v L q ∨ w.heap.size ≤ q := by
  have hkm : ∀ g ∈ (L[k]).ids, g ∈ idsOf L := fun g hg => List.mem_flatMap.2 ⟨_, List.getElem_mem hk, hg⟩
  have hrl := (H.lt r (.inl rfl)).2
  refine ⟨⟨?_, by simpa using hrow, ?_, ?_, H.bas, by simp; have := H.len; omega, ?_⟩, ?_, ?_⟩
  · refine (hO.block r hrl ?_).trans H.box
    rintro (h | h)
    · exact H.vr h
    · exact H.ir (hkm r h)
  · intro y hy
    obtain ⟨l, hl, rfl⟩ := List.getElem_of_mem hy
    simp at hl
    rw [List.getElem_set]
    split
    · exact hx
    · rename_i hne
      have hne : l ≠ k := fun e => hne e.symm
      have ho := H.own _ (List.getElem_mem hl)
      refine ho.move fun g hg => hO.block g (ho.lt g hg).2 ?_
      rintro (h | h)
      · exact H.iv (List.mem_flatMap.2 ⟨_, List.getElem_mem hl, hg⟩) h
      · exact ids_apart H.nod hk hl hne g hg h
  · exact ids_set_nod L H.nod (fun g hg => (H.lt g (.inr (.inr hg))).2) k hk x hn hi
  · intro y hy
    rcases List.mem_or_eq_of_mem_set hy with h | rfl
    · have := H.bd y h; omega
    · exact ⟨h1, h2, h3⟩
  · refine hO.mono ?_
    rintro q _ (h | h)
    · exact .inr (.inl h)
    · exact .inr (.inr (hkm q h))
  · rintro q (h | h | h)
    · exact .inl (.inl h)
    · exact .inl (.inr (.inl h))
    · rcases ids_set_mem k hk x hi q h with h | h
      · exact .inl (.inr (.inr h))
      · exact .inr h

theorem mem_vn {x : RB} {g : Nat} (h : x.vn.ownBlock = some g) : g ∈ x.ids := by simp [RB.ids, h]
theorem mem_va {x : RB} {g : Nat} (h : x.va.ownBlock = some g) : g ∈ x.ids := by simp [RB.ids, h]
theorem mem_vf {x : RB} {g : Nat} (h : x.vf.ownBlock = some g) : g ∈ x.ids := by simp [RB.ids, h]
theorem nod_tol {α : Type} (o : Option α) : o.toList.Nodup := by cases o <;> simp
theorem tri_nod {a b c : Option Nat} : (a.toList ++ (b.toList ++ c.toList)).Nodup ↔ (∀ g, a = some g → b ≠ some g) ∧ (∀ g, a = some g → c ≠ some g) ∧ (∀ g, b = some g → c ≠ some g) := by
  cases a <;> cases b <;> cases c <;> simp [Option.toList] <;> omega
theorem ids_nod {x : RB} : x.ids.Nodup ↔ (∀ g, x.vn.ownBlock = some g → x.va.ownBlock ≠ some g) ∧ (∀ g, x.vn.ownBlock = some g → x.vf.ownBlock ≠ some g) ∧ (∀ g, x.va.ownBlock = some g → x.vf.ownBlock ≠ some g) := tri_nod
theorem ids_mem {x : RB} {g : Nat} : g ∈ x.ids ↔ x.vn.ownBlock = some g ∨ x.va.ownBlock = some g ∨ x.vf.ownBlock = some g := by simp [RB.ids]

theorem OwnI.set {w B g n cp l} (h : OwnI w B (.slice (some ⟨g, 0, none⟩) n cp) n l) {q : Nat} (hq : q < l.length) (y : Int) : OwnI (w.setCell ⟨g, q, none⟩ (.int .i64 y)) B (.slice (some ⟨g, 0, none⟩) n cp) n (l.set q y) := by
  have hl := h.len
  refine ⟨by simp; exact hl, ?_⟩
  have := own_set h.out q (by omega) (.int .i64 y)
  have e : (ivs l).set q (.int .i64 y) = ivs (l.set q y) := by simp [ivs, List.map_set]
  rwa [e] at this
theorem OwnI.seto {w B v n l} (h : OwnI w B v n l) {g q : Nat} (hne : v.ownBlock ≠ some g) (u : Value) : OwnI (w.setCell ⟨g, q, none⟩ u) B v n l := h.move fun b hb => heap_set_other (fun e => hne (by rw [hb, e]))

/-- A word of the first ones is written over. -/
theorem RH.putNear {w : World} {B r tk v L c} (H : RH w B r tk v L c) {k : Nat} (hk : k < L.length) {gn cn m : Nat} (hv : (L[k]).vn = .slice (some ⟨gn, 0, none⟩) (L[k]).ns.length cn) (hm : m < (L[k]).ns.length) (y : Int) :
    RH (w.setCell ⟨gn, m, none⟩ (.int .i64 y)) B r tk v (L.set k { L[k] with ns := (L[k]).ns.set m y }) c ∧ Only (RF r v L) w (w.setCell ⟨gn, m, none⟩ (.int .i64 y)) ∧ ∀ q, RF r v (L.set k { L[k] with ns := (L[k]).ns.set m y }) q → RF r v L q ∨ w.heap.size ≤ q := by
  have ho := H.own _ (List.getElem_mem hk)
  have hb := H.bd _ (List.getElem_mem hk)
  have hnd := ids_nod.1 (ids_of_nod H.nod hk)
  have hvb : (L[k]).vn.ownBlock = some gn := by rw [hv]; rfl
  have h1 := ho.n
  rw [hv] at h1
  refine H.turn hk _ (Nat.le_refl _) ((Only.of_set _ _ _).mono ?_) ?_ ⟨?_, ?_, ?_⟩ (ids_of_nod H.nod hk) (fun g hg => .inl hg) (by simpa using hb.1) hb.2.1 hb.2.2
  · rintro q _ rfl
    exact .inr (mem_vn hvb)
  · have : rbs (L.set k { L[k] with ns := (L[k]).ns.set m y }) = rbs L := by
      rw [← rbs_set L k hk 0 (by omega) { L[k] with ns := (L[k]).ns.set m y } (.int .i64 (L[k]).a) rfl]
      exact set_same (by rw [rbs_at L k hk 0 (by omega)]; rfl)
    rw [this]
    exact own_move H.row fun g hg => heap_set_other (fun e => H.iv (List.mem_flatMap.2 ⟨_, List.getElem_mem hk, mem_vn hvb⟩) (by rw [hg, e]))
  · have := h1.set hm y
    rw [hv]
    simpa using this
  · exact ho.k.seto (fun e => hnd.1 gn hvb e) _
  · exact ho.f.seto (fun e => hnd.2.1 gn hvb e) _
/-- A far word is written over. -/
theorem RH.putFar {w : World} {B r tk v L c} (H : RH w B r tk v L c) {k : Nat} (hk : k < L.length) {gf cf m : Nat} (hv : (L[k]).vf = .slice (some ⟨gf, 0, none⟩) (L[k]).ws.length cf) (hm : m < (L[k]).ws.length) (y : Int) :
    RH (w.setCell ⟨gf, m, none⟩ (.int .i64 y)) B r tk v (L.set k { L[k] with ws := (L[k]).ws.set m y }) c ∧ Only (RF r v L) w (w.setCell ⟨gf, m, none⟩ (.int .i64 y)) ∧ ∀ q, RF r v (L.set k { L[k] with ws := (L[k]).ws.set m y }) q → RF r v L q ∨ w.heap.size ≤ q := by
  have ho := H.own _ (List.getElem_mem hk)
  have hb := H.bd _ (List.getElem_mem hk)
  have hnd := ids_nod.1 (ids_of_nod H.nod hk)
  have hvb : (L[k]).vf.ownBlock = some gf := by rw [hv]; rfl
  have h1 := ho.f
  rw [hv] at h1
  refine H.turn hk _ (Nat.le_refl _) ((Only.of_set _ _ _).mono ?_) ?_ ⟨?_, ?_, ?_⟩ (ids_of_nod H.nod hk) (fun g hg => .inl hg) hb.1 hb.2.1 (by simpa using hb.2.2)
  · rintro q _ rfl
    exact .inr (mem_vf hvb)
  · have : rbs (L.set k { L[k] with ws := (L[k]).ws.set m y }) = rbs L := by
      rw [← rbs_set L k hk 0 (by omega) { L[k] with ws := (L[k]).ws.set m y } (.int .i64 (L[k]).a) rfl]
      exact set_same (by rw [rbs_at L k hk 0 (by omega)]; rfl)
    rw [this]
    exact own_move H.row fun g hg => heap_set_other (fun e => H.iv (List.mem_flatMap.2 ⟨_, List.getElem_mem hk, mem_vf hvb⟩) (by rw [hg, e]))
  · exact ho.n.seto (fun e => hnd.2.1 gf e hvb) _
  · exact ho.k.seto (fun e => hnd.2.2 gf e hvb) _
  · have := h1.set hm y
    rw [hv]
    simpa using this
end Go.Proofs.Ytddcpbidlbiamaa
