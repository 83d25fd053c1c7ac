import Derived.Test.YtddcpbidlbiamaaHpC
set_option linter.unusedVariables false
namespace Go.Proofs.Ytddcpbidlbiamaa
open Go.ChangeShapes Go.WideShapes Go.ChangeAt Go.RowKit

/-- A block of the document's heap: its address, its length; its three lists and where they lie. -/
structure RB where
  a : Int
  n : Int
  vn : Value
  va : Value
  vf : Value
  ns : List Int
  ks : List Int
  ws : List Int
def RB.cells (x : RB) : List Value := [.int .i64 x.a, .int .i64 x.n, x.vn, x.va, x.vf]
def rbs (L : List RB) : List Value := L.flatMap RB.cells
theorem rbs_app (L M : List RB) : rbs (L ++ M) = rbs L ++ rbs M := by simp [rbs]
theorem rbs_len (L : List RB) : (rbs L).length = L.length * 5 := by
  induction L with
  | nil => simp [rbs]
  | cons u us ih => simp [rbs, RB.cells] at ih ⊢; omega
theorem rbs_at (L : List RB) : ∀ (k : Nat) (hk : k < L.length) (j : Nat), j < 5 → (rbs L)[k * 5 + j]? = (L[k]).cells[j]? := by
  induction L with
  | nil => intro k hk; simp at hk
  | cons u us ih =>
    intro k hk j hj
    have e : rbs (u :: us) = u.cells ++ rbs us := by simp [rbs]
    have l5 : u.cells.length = 5 := rfl
    rw [e]
    cases k with
    | zero => simp only [Nat.zero_mul, Nat.zero_add]; rw [List.getElem?_append_left (by omega)]; rfl
    | succ k =>
      rw [List.getElem?_append_right (by omega), l5, show (k + 1) * 5 + j - 5 = k * 5 + j by omega, ih k (by simpa using hk) j hj]
      rfl
theorem rbs_set (L : List RB) : ∀ (k : Nat) (hk : k < L.length) (j : Nat) (hj : j < 5) (x : RB) (u : Value), x.cells = (L[k]).cells.set j u → (rbs L).set (k * 5 + j) u = rbs (L.set k x) := by
  induction L with
  | nil => intro k hk; simp at hk
  | cons y us ih =>
    intro k hk j hj x u hx
    have e : ∀ z us, rbs (z :: us) = z.cells ++ rbs us := fun z us => by simp [rbs]
    have l5 : y.cells.length = 5 := rfl
    rw [e]
    cases k with
    | zero =>
      simp only [Nat.zero_mul, Nat.zero_add, List.set_cons_zero, e]
      rw [List.set_append_left _ _ (by omega)]
      simp at hx
      rw [hx]
    | succ k =>
      rw [List.set_append_right _ _ (by omega), l5, show (k + 1) * 5 + j - 5 = k * 5 + j by omega, List.set_cons_succ, e, ih k (by simpa using hk) j hj x u (by simpa using hx)]

structure RBo (w : World) (B : Nat) (x : RB) : Prop where
  n : OwnI w B x.vn x.ns.length x.ns
  k : OwnI w B x.va x.ks.length x.ks
  f : OwnI w B x.vf x.ws.length x.ws
def RB.ids (x : RB) : List Nat := x.vn.ownBlock.toList ++ (x.va.ownBlock.toList ++ x.vf.ownBlock.toList)
def idsOf (L : List RB) : List Nat := L.flatMap RB.ids
theorem OwnI.move {w w' B v n L} (h : OwnI w B v n L) (hk : ∀ g, v.ownBlock = some g → w'.heap[g]? = w.heap[g]?) : OwnI w' B v n L := ⟨h.len, own_move h.out hk⟩
theorem RBo.move {w w' B x} (h : RBo w B x) (hk : ∀ g, g ∈ x.ids → w'.heap[g]? = w.heap[g]?) : RBo w' B x :=
  ⟨h.n.move fun g hg => hk g (by simp [RB.ids, hg]), h.k.move fun g hg => hk g (by simp [RB.ids, hg]), h.f.move fun g hg => hk g (by simp [RB.ids, hg])⟩
theorem RBo.lt {w B x} (h : RBo w B x) : ∀ g ∈ x.ids, B ≤ g ∧ g < w.heap.size := by
  intro g hg
  simp [RB.ids] at hg
  rcases hg with hg | hg | hg
  · exact own_block h.n.out hg
  · exact own_block h.k.out hg
  · exact own_block h.f.out hg

/-- The document's heap at block r: its blocks L, their row at v. -/
structure RH (w : World) (B r : Nat) (tk : Int) (v : Value) (L : List RB) (c : Nat) : Prop where
  box : w.heap[r]? = some (.cells #[v, .int .i64 tk] 57 (0, 0))
  row : w.ownsRow B 59 5 v L.length (rbs L)
  own : ∀ x ∈ L, RBo w B x
  nod : (idsOf L).Nodup
  bas : B ≤ r
  len : L.length ≤ c
  bd : ∀ x ∈ L, x.ns.length ≤ 4096 ∧ x.ks.length ≤ c ∧ x.ws.length ≤ c
/-- Its blocks of memory. -/
def RF (r : Nat) (v : Value) (L : List RB) (k : Nat) : Prop := k = r ∨ v.ownBlock = some k ∨ k ∈ idsOf L
theorem RH.move {w w' B r tk v L c} (H : RH w B r tk v L c) (hk : ∀ g, RF r v L g → w'.heap[g]? = w.heap[g]?) : RH w' B r tk v L c :=
  ⟨(hk r (.inl rfl)).trans H.box, own_move H.row fun g hg => hk g (.inr (.inl hg)), fun x hx => (H.own x hx).move fun g hg => hk g (.inr (.inr (List.mem_flatMap.2 ⟨x, hx, hg⟩))), H.nod, H.bas, H.len, H.bd⟩
theorem RH.lt {w B r tk v L c} (H : RH w B r tk v L c) : ∀ g, RF r v L g → B ≤ g ∧ g < w.heap.size := by
  rintro g (rfl | hg | hg)
  · exact ⟨H.bas, (Array.getElem?_eq_some_iff.1 H.box).1⟩
  · exact own_block H.row hg
  · obtain ⟨x, hx, hg⟩ := List.mem_flatMap.1 hg
    exact (H.own x hx).lt g hg
theorem RH.mono {w B r tk v L c c'} (H : RH w B r tk v L c) (hc : c ≤ c') : RH w B r tk v L c' := ⟨H.box, H.row, H.own, H.nod, H.bas, by have := H.len; omega, fun x hx => ⟨(H.bd x hx).1, by have := (H.bd x hx).2; omega, by have := (H.bd x hx).2; omega⟩⟩
/-- What kind of row each of its blocks is. -/
theorem ints_at {w : World} {B : Nat} {v : Value} {n : Nat} {l : List Int} (h : OwnI w B v n l) {g : Nat} (hg : v.ownBlock = some g) : ∃ cur, w.heap[g]? = some (.cells cur 3 (0, 0)) := by
  rcases h.out.2 with ⟨rfl, _⟩ | ⟨g', cap, cur, rfl, e2, e3, _⟩
  · simp [Value.ownBlock] at hg
  · simp [Value.ownBlock] at hg
    subst hg
    exact ⟨cur, e3⟩
theorem RBo.ints {w B x} (h : RBo w B x) {g : Nat} (hg : g ∈ x.ids) : ∃ cur, w.heap[g]? = some (.cells cur 3 (0, 0)) := by
  simp [RB.ids] at hg
  rcases hg with hg | hg | hg
  · exact ints_at h.n hg
  · exact ints_at h.k hg
  · exact ints_at h.f hg
theorem RH.ints {w B r tk v L c} (H : RH w B r tk v L c) {g : Nat} (hg : g ∈ idsOf L) : ∃ cur, w.heap[g]? = some (.cells cur 3 (0, 0)) := by
  obtain ⟨x, hx, hg⟩ := List.mem_flatMap.1 hg
  exact (H.own x hx).ints hg
theorem RH.vr {w B r tk v L c} (H : RH w B r tk v L c) : v.ownBlock ≠ some r := own_not H.row H.box (by decide)
theorem RH.ir {w B r tk v L c} (H : RH w B r tk v L c) : r ∉ idsOf L := fun h => by
  obtain ⟨cur, e⟩ := H.ints h
  rw [H.box] at e
  cases e
theorem row_at {w : World} {B e s n xs} {v : Value} (h : w.ownsRow B e s v n xs) {g : Nat} (hg : v.ownBlock = some g) : ∃ cur, w.heap[g]? = some (.cells cur e (0, 0)) := by
  rcases h.2 with ⟨rfl, _⟩ | ⟨g', cap, cur, rfl, e2, e3, _⟩
  · simp [Value.ownBlock] at hg
  · simp [Value.ownBlock] at hg
    subst hg
    exact ⟨cur, e3⟩
theorem RH.iv {w B r tk v L c} (H : RH w B r tk v L c) {g : Nat} (hg : g ∈ idsOf L) : v.ownBlock ≠ some g := fun h => by
  obtain ⟨cur, e⟩ := H.ints hg
  obtain ⟨cur', e'⟩ := row_at H.row h
  rw [e'] at e
  cases e

/-- Block k of the row, cell by cell. -/
theorem RH.cells {w B r tk g n cp L c} (H : RH w B r tk (.slice (some ⟨g, 0, none⟩) n cp) L c) (hn : n = L.length) {k : Nat} (hk : k < L.length) :
    w.cell? ⟨g, k * 5, none⟩ = some (.int .i64 (L[k]).a) ∧ w.cell? ⟨g, k * 5 + 1, none⟩ = some (.int .i64 (L[k]).n) ∧ w.cell? ⟨g, k * 5 + 2, none⟩ = some (L[k]).vn ∧ w.cell? ⟨g, k * 5 + 3, none⟩ = some (L[k]).va ∧ w.cell? ⟨g, k * 5 + 4, none⟩ = some (L[k]).vf := by
  subst hn
  have h := fun j (hj : j < 5) => (own_cell H.row (k * 5 + j) (by omega)).trans (rbs_at L k hk j hj)
  exact ⟨h 0 (by omega), h 1 (by omega), h 2 (by omega), h 3 (by omega), h 4 (by omega)⟩

/-- The blocks' addresses: one behind the other, from behind t on; t' addresses are taken at their end. -/
def Lay : Int → List RB → Int → Prop
  | t, [], t' => t = t'
  | t, x :: L, t' => x.a = t + 1 ∧ 0 ≤ x.n ∧ Lay (t + x.n + 1) L t'
theorem Lay.le {L : List RB} : ∀ {t t' : Int}, Lay t L t' → t ≤ t' := by
  induction L with
  | nil => intro t t' h; have h : t = t' := h; omega
  | cons x L ih => intro t t' h; have := ih h.2.2; have := h.2.1; omega
theorem Lay.mem {L : List RB} : ∀ {t t' : Int}, Lay t L t' → ∀ x ∈ L, t + 1 ≤ x.a ∧ 0 ≤ x.n ∧ x.a + x.n ≤ t' := by
  induction L with
  | nil => intro t t' h x hx; simp at hx
  | cons y L ih =>
    intro t t' h x hx
    obtain ⟨h1, h2, h3⟩ := h
    rcases List.mem_cons.1 hx with rfl | hx
    · have := h3.le; omega
    · have := ih h3 x hx; omega
theorem Lay.sorted {L : List RB} : ∀ {t t' : Int}, Lay t L t' → L.Pairwise fun x y => x.a + x.n < y.a := by
  induction L with
  | nil => intro t t' h; exact .nil
  | cons y L ih =>
    intro t t' h
    obtain ⟨h1, h2, h3⟩ := h
    exact .cons (fun x hx => by have := h3.mem x hx; omega) (ih h3)
theorem Lay.snoc {L : List RB} {x : RB} : ∀ {t t' : Int}, Lay t L t' → x.a = t' + 1 → 0 ≤ x.n → Lay t (L ++ [x]) (t' + x.n + 1) := by
  induction L with
  | nil => intro t t' h ha hn; have h : t = t' := h; subst h; exact ⟨ha, hn, rfl⟩
  | cons y L ih => intro t t' h ha hn; exact ⟨h.1, h.2.1, ih h.2.2 ha hn⟩
theorem Lay.set {L : List RB} : ∀ {t t' : Int}, Lay t L t' → ∀ (k : Nat) (hk : k < L.length) (x : RB), x.a = (L[k]).a → x.n = (L[k]).n → Lay t (L.set k x) t' := by
  induction L with
  | nil => intro t t' h k hk; simp at hk
  | cons y L ih =>
    intro t t' h k hk x hx hn
    cases k with
    | zero => simp at hx hn; exact ⟨hx.trans h.1, by rw [hn]; exact h.2.1, by rw [hn]; exact h.2.2⟩
    | succ k => exact ⟨h.1, h.2.1, ih h.2.2 k (by simpa using hk) x (by simpa using hx) (by simpa using hn)⟩
theorem Lay.lt {L : List RB} {t t' : Int} (h : Lay t L t') {i j : Nat} (hij : i < j) (hj : j < L.length) : (L[i]).a + (L[i]).n < (L[j]).a := List.pairwise_iff_getElem.1 h.sorted i j (by omega) hj hij
theorem Lay.mono_a {L : List RB} {t t' : Int} (h : Lay t L t') {i j : Nat} (hij : i < j) (hj : j < L.length) : (L[i]).a < (L[j]).a := by
  have := h.lt hij hj
  have := (h.mem _ (List.getElem_mem (show i < L.length by omega))).2.1
  omega
theorem Lay.inj {L : List RB} {t t' : Int} (h : Lay t L t') {i j : Nat} (hi : i < L.length) (hj : j < L.length) (e : (L[i]).a = (L[j]).a) : i = j := by
  rcases Nat.lt_trichotomy i j with h1 | h1 | h1
  · have := h.mono_a h1 hj; omega
  · exact h1
  · have := h.mono_a h1 hi; omega

/-- How long the block of an address is. -/
def lnOf (L : List RB) (a : Int) : Option Int := (L.find? fun x => x.a == a).map RB.n
theorem lnOf_none {L : List RB} {a : Int} (h : ∀ x ∈ L, x.a ≠ a) : lnOf L a = none := by
  unfold lnOf
  rw [List.find?_eq_none.2 (fun x hx => by simpa using h x hx)]
  rfl
theorem lnOf_some {L : List RB} {t t' : Int} (hL : Lay t L t') {k : Nat} (hk : k < L.length) : lnOf L (L[k]).a = some (L[k]).n := by
  unfold lnOf
  cases e : L.find? (fun x => x.a == (L[k]).a) with
  | none => have := List.find?_eq_none.1 e L[k] (List.getElem_mem hk); simp at this
  | some x =>
    have h1 := List.find?_some e
    obtain ⟨j, hj, e2⟩ := List.getElem_of_mem (List.mem_of_find?_eq_some e)
    subst e2
    simp at h1
    have := hL.inj hj hk h1
    subst this
    rfl
/-- There is a block of that address, or none. -/
theorem at_or (L : List RB) (a : Int) : (∃ k, ∃ hk : k < L.length, (L[k]).a = a) ∨ ∀ x ∈ L, x.a ≠ a := by
  by_cases h : ∃ x ∈ L, x.a = a
  · obtain ⟨x, hx, e⟩ := h
    obtain ⟨k, hk, e2⟩ := List.getElem_of_mem hx
    exact .inl ⟨k, hk, by rw [e2]; exact e⟩
  · exact .inr fun x hx e => h ⟨x, hx, e⟩
theorem lnOf_snoc {L : List RB} {t t' : Int} (hL : Lay t L t') {x : RB} (hx : x.a = t' + 1) : lnOf (L ++ [x]) = upd (lnOf L) (t' + 1) (some x.n) := by
  funext y
  unfold upd lnOf
  rw [List.find?_append]
  by_cases e : y = t' + 1
  · rw [if_pos e]
    have : L.find? (fun z => z.a == y) = none := List.find?_eq_none.2 fun z hz => by have := hL.mem z hz; simp; omega
    rw [this]
    simp [hx, e]
  · rw [if_neg e]
    have : ¬ x.a = y := by omega
    simp [this]
theorem lnOf_set {L : List RB} : ∀ (k : Nat) (hk : k < L.length) (x : RB), x.a = (L[k]).a → x.n = (L[k]).n → lnOf (L.set k x) = lnOf L := by
  intro k hk x ha hn
  funext y
  unfold lnOf
  induction L generalizing k with
  | nil => simp at hk
  | cons z L ih =>
    cases k with
    | zero =>
      simp at ha hn
      simp only [List.set_cons_zero, List.find?_cons, ha]
      split
      · simp [hn]
      · rfl
    | succ k =>
      simp only [List.set_cons_succ, List.find?_cons]
      split
      · rfl
      · exact ih k (by simpa using hk) (by simpa using ha) (by simpa using hn)

/-- A word that was set far from the block's beginning. -/
def look : List Int → List Int → Int → Int
  | k :: ks, w :: ws, i => if k = i then w else look ks ws i
  | _, _, _ => 0
def RB.val (x : RB) (i : Int) : Int := if i < 4096 then x.ns.getD i.toNat 0 else look x.ks x.ws i
end Go.Proofs.Ytddcpbidlbiamaa
