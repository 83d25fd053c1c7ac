import Derived.Test.YtchobeakieljpaaGreatDoorLzO
import Derived.Test.YtchobeakieljpaaGreatDoorLuB
set_option linter.unusedVariables false
set_option linter.unusedSimpArgs false
namespace Go.Proofs.YtchobeakieljpaaGreatDoor
open Go.ChangeShapes Go.WideShapes Go.ChangeAt Go.RowKit

/-- The row of one node's lent kids. -/
structure Kd where
  g : Nat
  c : Nat
  l : List Int
def Kd.v (k : Kd) : Value := .slice (some ⟨k.g, 0, none⟩) k.l.length k.c
/-- Where a lent tree lies. -/
structure Sh where
  B : Nat
  E : Nat
  xb : Nat
  nb : Nat
  nc : Nat
  fb : Nat
  fc : Nat
  n : Nat
  fn : Nat
  kv : Value
/-- Blocks from E on, and those below B, stay. -/
structure Tch (B E : Nat) (w w' : World) : Prop where
  bel : Below B w w'
  blk : ∀ g, E ≤ g → g < w.heap.size → w'.heap[g]? = w.heap[g]?
theorem Tch.refl (B E : Nat) (w : World) : Tch B E w w := ⟨Below.refl _ _, fun _ _ _ => rfl⟩
theorem Tch.trans {B E a b c} (h : Tch B E a b) (k : Tch B E b c) : Tch B E a c := ⟨h.bel.trans k.bel, fun g h1 h2 => (k.blk g h1 (by have := h.bel.size; omega)).trans (h.blk g h1 h2)⟩
theorem Tch.setCell {B E a b} (h : Tch B E a b) {g j : Nat} (h1 : B ≤ g) (h2 : g < E) (u : Value) : Tch B E a (b.setCell ⟨g, j, none⟩ u) :=
  ⟨h.bel.setCell (p := ⟨g, j, none⟩) h1 u, fun k h3 h4 => (heap_set_other (by omega)).trans (h.blk k h3 h4)⟩
theorem Tch.below {B E a b c} (h : Tch B E a b) (hb : Below b.heap.size b c) (hB : B ≤ b.heap.size) : Tch B E a c :=
  ⟨h.bel.trans (hb.mono hB), fun k h3 h4 => (hb.block k (by have := h.bel.size; omega)).trans (h.blk k h3 h4)⟩
theorem Tch.grown {B E a b c} (h : Tch B E a b) {g : Nat} (hg : b.grownBy c (some g)) (h1 : B ≤ g) (h2 : g < E) (hB : B ≤ b.heap.size) : Tch B E a c :=
  ⟨h.bel.grown hg hB (fun k hk => by cases hk; exact h1), fun k h3 h4 => (grown_at hg (by have := h.bel.size; omega) (fun e => by cases e; omega)).trans (h.blk k h3 h4)⟩
theorem Tch.drew {B E a b} (h : Tch B E a b) : Tch B E a b.drew := ⟨h.bel.drew, h.blk⟩
theorem Tch.drewN {B E a b} (h : Tch B E a b) (q : Nat) : Tch B E a (b.drewN q) := ⟨Below.drewN' h.bel q, fun g h1 h2 => by rw [← h.blk g h1 h2]; exact (Below.drewN' (Below.refl b.heap.size b) q).block g (by have := h.bel.size; omega)⟩

/-- A tree that is lent: its lists have room behind them. -/
structure Lnt (w : World) (s : Sh) (M : List (Nd × Value)) (C : List Kd) (FC : List Int) : Prop where
  ln : s.n + 2 = M.length
  lk : s.n = C.length
  lf : s.fn + 5 = FC.length
  rn : w.ownsRow s.B 39 10 (.slice (some ⟨s.nb, 0, none⟩) (s.n + 2) s.nc) (s.n + 2) (ncs M)
  rk : w.ownsRow s.B 25 1 s.kv s.n (C.map Kd.v)
  kid : ∀ k ∈ C, OwnI w s.B k.v k.l.length k.l
  apt : C.Pairwise fun p q => p.g ≠ q.g
  fun_ : OwnI w s.B (.slice (some ⟨s.fb, 0, none⟩) (s.fn + 5) s.fc) (s.fn + 5) FC
  fap : ∀ k ∈ C, k.g ≠ s.fb
  box : w.heap[s.xb]? = some (.cells #[.slice (some ⟨s.nb, 0, none⟩) s.n s.nc, .slice (some ⟨s.fb, 0, none⟩) s.fn s.fc, .slice (some ⟨s.nb, 0, none⟩) (s.n + 2) s.nc, .slice (some ⟨s.fb, 0, none⟩) (s.fn + 5) s.fc, s.kv] 48 (0, 0))
  bot : s.B ≤ s.xb
  top : s.nb < s.E ∧ s.fb < s.E ∧ s.xb < s.E ∧ s.E ≤ w.heap.size ∧ (∀ g, s.kv.ownBlock = some g → g < s.E) ∧ ∀ k ∈ C, k.g < s.E

theorem Lnt.keep {w w' s M C FC} (h : Lnt w s M C FC) (hb : Below w.heap.size w w') : Lnt w' s M C FC :=
  ⟨h.ln, h.lk, h.lf, own_keep h.rn hb.block, own_keep h.rk hb.block, fun k hk => (h.kid k hk).keep hb, h.apt, h.fun_.keep hb, h.fap, (hb.block _ (by have := h.top; omega)).trans h.box, h.bot, by have t := h.top; have := hb.size; exact ⟨t.1, t.2.1, t.2.2.1, by omega, t.2.2.2.2.1, t.2.2.2.2.2⟩⟩
theorem Lnt.drew {w s M C FC} (h : Lnt w s M C FC) : Lnt w.drew s M C FC := h.keep (Below.refl _ _).drew
theorem Lnt.drewN {w s M C FC} (h : Lnt w s M C FC) (q : Nat) : Lnt (w.drewN q) s M C FC := h.keep (Below.drewN' (Below.refl _ _) q)
theorem Kd.own (k : Kd) : k.v.ownBlock = some k.g := rfl
theorem Lnt.kb {w s M C FC} (h : Lnt w s M C FC) {k : Kd} (hk : k ∈ C) : s.B ≤ k.g ∧ k.g < w.heap.size := own_block (h.kid k hk).out k.own
/-- A kid's block is none of the other rows. -/
theorem Lnt.kne {w s M C FC} (h : Lnt w s M C FC) {k : Kd} (hk : k ∈ C) : k.g ≠ s.nb ∧ s.kv.ownBlock ≠ some k.g ∧ k.g ≠ s.xb := by
  refine ⟨fun e => ?_, fun e => ?_, fun e => ?_⟩
  · exact own_apart (h.kid k hk).out h.rn (by decide) k.g k.own (by rw [e]; rfl)
  · exact own_apart (h.kid k hk).out h.rk (by decide) k.g k.own e
  · exact own_not (h.kid k hk).out h.box (by decide) (by rw [← e]; exact k.own)
theorem Lnt.fne {w s M C FC} (h : Lnt w s M C FC) : s.fb ≠ s.nb ∧ s.kv.ownBlock ≠ some s.fb ∧ s.fb ≠ s.xb := by
  refine ⟨fun e => ?_, fun e => ?_, fun e => ?_⟩
  · exact own_apart h.fun_.out h.rn (by decide) s.fb rfl (by rw [e]; rfl)
  · exact own_apart h.fun_.out h.rk (by decide) s.fb rfl e
  · exact own_not h.fun_.out h.box (by decide) (by rw [← e]; rfl)
theorem Lnt.nne {w s M C FC} (h : Lnt w s M C FC) : s.kv.ownBlock ≠ some s.nb ∧ s.nb ≠ s.xb := by
  refine ⟨fun e => ?_, fun e => ?_⟩
  · exact own_apart h.rn h.rk (by decide) s.nb rfl e
  · exact own_not h.rn h.box (by decide) (by rw [← e]; rfl)
theorem Kd.set_v (k : Kd) (j : Nat) (y : Int) : Kd.v { k with l := k.l.set j y } = k.v := by simp [Kd.v]
/-- A number put among one node's lent kids. -/
theorem Lnt.putKid {w s M C FC} (h : Lnt w s M C FC) (i : Nat) (hi : i < C.length) (j : Nat) (y : Int) :
    Lnt (w.setCell ⟨(C[i]).g, j, none⟩ (.int .i64 y)) s M (C.set i { C[i] with l := (C[i]).l.set j y }) FC := by
  have hm := List.getElem_mem hi
  obtain ⟨n1, n2, n3⟩ := h.kne hm
  have hv : (C.set i { C[i] with l := (C[i]).l.set j y }).map Kd.v = C.map Kd.v := by
    rw [List.map_set, Kd.set_v]
    refine List.ext_getElem (by simp) fun q h1 h2 => ?_
    rw [List.getElem_set]
    split
    · next e => subst e; simp
    · rfl
  have ha := List.pairwise_iff_getElem.1 h.apt
  refine ⟨h.ln, by simpa using h.lk, h.lf, ?_, ?_, ?_, ?_, ?_, ?_, ?_, h.bot, ?_⟩
  · exact own_move h.rn fun g hg => heap_set_other (fun e => n1 (by cases hg; exact e.symm))
  · rw [hv]
    exact own_move h.rk fun g hg => heap_set_other (fun e => n2 (by rw [← e]; exact hg))
  · intro k hk
    obtain ⟨q, hq, rfl⟩ := List.mem_iff_getElem.1 hk
    have hq' : q < C.length := by simpa using hq
    rw [List.getElem_set]
    split
    · next e =>
      refine ⟨rfl, ?_⟩
      have h1 := own_set (h.kid _ hm).out j (.int .i64 y)
      show World.ownsRow _ s.B _ 1 (Kd.v { C[i] with l := (C[i]).l.set j y }) ((C[i]).l.set j y).length (ivs ((C[i]).l.set j y))
      rw [Kd.set_v, List.length_set, ivs, List.map_set]
      exact h1
    · next e =>
      have hk2 := h.kid C[q] (List.getElem_mem hq')
      refine ⟨hk2.len, own_move hk2.out fun g hg => heap_set_other fun e2 => ?_⟩
      have hg' : g = (C[q]).g := by have := hg; rw [Kd.own] at this; cases this; rfl
      rcases Nat.lt_or_gt_of_ne e with hlt | hlt
      · exact ha i q hi hq' hlt (by omega)
      · exact ha q i hq' hi hlt (by omega)
  · rw [List.pairwise_iff_getElem]
    intro p q hp hq hpq
    have e : ∀ (r : Nat) (hr : r < (C.set i { C[i] with l := (C[i]).l.set j y }).length), ((C.set i { C[i] with l := (C[i]).l.set j y })[r]).g = (C[r]'(by simpa using hr)).g := by
      intro r hr
      rw [List.getElem_set]
      split
      · next e => subst e; rfl
      · rfl
    rw [e p hp, e q hq]
    exact ha p q (by simpa using hp) (by simpa using hq) hpq
  · exact ⟨h.fun_.len, own_move h.fun_.out fun g hg => heap_set_other (fun e => h.fap _ hm (by cases hg; exact e.symm))⟩
  · intro k hk
    rcases List.mem_or_eq_of_mem_set hk with hk | rfl
    · exact h.fap k hk
    · exact h.fap C[i] hm
  · rw [heap_set_other (Ne.symm n3)]
    exact h.box
  · obtain ⟨t1, t2, t3, t4, t5, t6⟩ := h.top
    refine ⟨t1, t2, t3, by simpa [World.setCell] using t4, t5, fun k hk => ?_⟩
    rcases List.mem_or_eq_of_mem_set hk with hk | rfl
    · exact t6 k hk
    · exact t6 C[i] hm
theorem Lnt.putFun {w s M C FC} (h : Lnt w s M C FC) (j : Nat) (y : Int) : Lnt (w.setCell ⟨s.fb, j, none⟩ (.int .i64 y)) s M C (FC.set j y) := by
  obtain ⟨n1, n2, n3⟩ := h.fne
  refine ⟨h.ln, h.lk, by simpa using h.lf, ?_, ?_, fun k hk => ?_, h.apt, ?_, h.fap, ?_, h.bot, by simpa [World.setCell] using h.top⟩
  · exact own_move h.rn fun g hg => heap_set_other (fun e => n1 (by cases hg; exact e.symm))
  · exact own_move h.rk fun g hg => heap_set_other (fun e => n2 (by rw [← e]; exact hg))
  · exact ⟨rfl, own_move (h.kid k hk).out fun g hg => heap_set_other (fun e => h.fap k hk (by rw [Kd.own] at hg; cases hg; exact e))⟩
  · refine ⟨by simpa using h.lf, ?_⟩
    have h1 := own_set h.fun_.out j (.int .i64 y)
    rw [ivs, List.map_set]
    exact h1
  · rw [heap_set_other (Ne.symm n3)]
    exact h.box
theorem Lnt.putNode {w w' s M C FC} (h : Lnt w s M C FC) (i : Nat) (p : Nd × Value) (hr : w'.ownsRow s.B 39 10 (.slice (some ⟨s.nb, 0, none⟩) (s.n + 2) s.nc) (s.n + 2) (ncs (M.set i p))) (hg : w.grownBy w' (some s.nb)) (hs : w'.heap.size = w.heap.size) : Lnt w' s (M.set i p) C FC := by
  have hb : ∀ g, g < w.heap.size → g ≠ s.nb → w'.heap[g]? = w.heap[g]? := fun g h1 h2 => grown_at hg h1 (fun e => h2 (by cases e; rfl))
  obtain ⟨n1, n2⟩ := h.nne
  refine ⟨by simpa using h.ln, h.lk, h.lf, hr, own_move h.rk fun g hg => ?_, fun k hk => ⟨rfl, own_move (h.kid k hk).out fun g hg => ?_⟩, h.apt, ⟨h.fun_.len, own_move h.fun_.out fun g hg => ?_⟩, h.fap, ?_, h.bot, by rw [hs]; exact h.top⟩
  · exact hb g (own_block h.rk hg).2 (fun e => n1 (by rw [← e]; exact hg))
  · exact hb g (own_block (h.kid k hk).out hg).2 (fun e => (h.kne hk).1 (by rw [Kd.own] at hg; cases hg; exact e))
  · exact hb g (own_block h.fun_.out hg).2 (fun e => h.fne.1 (by cases hg; exact e))
  · rw [hb _ (by have := h.top; omega) (Ne.symm n2)]; exact h.box
/-- The nodes of a lent tree, each with its kids. -/
structure Lnk (M : List (Nd × Value)) (C : List Kd) (i : Nat) : Prop where
  out : ∀ (q : Nat) (h : q < M.length) (hc : q < C.length), q < i → (M[q]).2 = .slice (some ⟨(C[q]).g, 0, none⟩) (M[q]).1.kids.length (C[q]).c ∧ (M[q]).1.kids.length ≤ (C[q]).l.length ∧ (C[q]).l.take (M[q]).1.kids.length = (M[q]).1.kids
theorem ncs_take (M : List (Nd × Value)) : ∀ n, ncs (M.take n) = (ncs M).take (n * 10) := by
  induction M with
  | nil => intro n; simp [ncs]
  | cons a M ih =>
    intro n
    have e : ∀ (a : Nd × Value) l, ncs (a :: l) = nc a.1 a.2 ++ ncs l := fun a l => by simp [ncs]
    cases n with
    | zero => simp [ncs]
    | succ n =>
      rw [List.take_succ_cons, e, e, ih n, List.take_append, List.take_of_length_le (l := nc a.1 a.2) (by simp [nc]; omega)]
      congr 2
      simp [nc]
      omega
theorem own_pre10 {w : World} {B g n c m : Nat} {M : List (Nd × Value)} (h : w.ownsRow B 39 10 (.slice (some ⟨g, 0, none⟩) n c) n (ncs M)) (hl : n = M.length) (hm : m ≤ n) : w.ownsRow B 39 10 (.slice (some ⟨g, 0, none⟩) m c) m (ncs (M.take m)) := by
  refine ⟨by rw [ncs_len]; simp; omega, ?_⟩
  rcases h.2 with ⟨e, hn⟩ | ⟨g', cap, cur, e, e2, e3, e4, e5, e6, e7⟩
  · cases e
  · cases e
    right
    refine ⟨g, c, cur, rfl, e2, e3, by omega, e5, e6, ?_⟩
    have : cur.toList.take (m * 10) = (cur.toList.take (n * 10)).take (m * 10) := by rw [List.take_take]; congr 1; omega
    rw [this, e7, ncs_take]
theorem Lnt.cm {w s M C FC} (h : Lnt w s M C FC) (hL : Lnk M C s.n) : CM w s.B (.slice (some ⟨s.nb, 0, none⟩) s.n s.nc) s.n (M.take s.n) := by
  have hl := h.ln
  have hk := h.lk
  refine ⟨by simp; omega, own_pre10 h.rn h.ln (by omega), fun p hp => ?_⟩
  obtain ⟨q, hq, rfl⟩ := List.mem_iff_getElem.1 hp
  have hq1 : q < M.length := by simp at hq; omega
  have hq2 : q < C.length := by simp at hq; omega
  rw [List.getElem_take]
  obtain ⟨a1, a2, a3⟩ := hL.out q hq1 hq2 (by omega)
  have h1 := (h.kid C[q] (List.getElem_mem hq2))
  have h2 := OwnI.take (show OwnI w s.B (.slice (some ⟨(C[q]).g, 0, none⟩) (C[q]).l.length (C[q]).c) (C[q]).l.length (C[q]).l from h1) (M[q]).1.kids.length a2
  rw [a1]
  rw [a3] at h2
  exact h2
end Go.Proofs.YtchobeakieljpaaGreatDoor
namespace Go.Proofs.YtchobeakieljpaaGreatDoor
open Go.ChangeShapes Go.WideShapes Go.ChangeAt Go.RowKit

/-- What an append does to memory: its own row alone, or a new one. -/
structure GI (B : Nat) (w0 w' : World) (v v' : Value) : Prop where
  bel : Below B w0 w'
  blk : ∀ g, g < w0.heap.size → v.ownBlock ≠ some g → w'.heap[g]? = w0.heap[g]?
  own : ∀ g, v'.ownBlock = some g → v.ownBlock = some g ∨ w0.heap.size ≤ g
theorem GI.size {B w0 w' v v'} (h : GI B w0 w' v v') : w0.heap.size ≤ w'.heap.size := h.bel.size
theorem OwnI.gi {B B' w0 w' v v' u m L} (h : OwnI w0 B' u m L) (g : GI B w0 w' v v') (hne : ∀ b, u.ownBlock = some b → v.ownBlock ≠ some b) : OwnI w' B' u m L :=
  ⟨h.len, own_move h.out fun b hb => g.blk b (own_block h.out hb).2 (hne b hb)⟩
theorem OwnI.giA {B B' w0 w' v v' u m L} (h : OwnI w0 B' u m L) (g : GI B w0 w' v v') (hne : ∀ b, u.ownBlock = some b → v.ownBlock ≠ some b) : ∀ b, u.ownBlock = some b → v'.ownBlock ≠ some b := by
  intro b hb hv
  rcases g.own b hv with h1 | h1
  · exact hne b hb h1
  · have := (own_block h.out hb).2; omega
theorem OwnI.alloc0 {w B v n L} (h : OwnI w B v n L) (ob : Obj) : OwnI (w.alloc ob) B v n L := ⟨h.len, own_move h.out fun b hb => heap_alloc_old _ _ (own_block h.out hb).2⟩
theorem gi_of {w0 w' : World} {B : Nat} {ob : Obj} {v v' : Value} {n m : Nat} {e s xs} (hown : w0.ownsRow B e s v n xs) (hB : B ≤ w0.heap.size) (h2 : (w0.alloc ob).grownBy w' v.ownBlock) (h3 : Grew (w0.alloc ob) w' v v' n m) : GI B w0 w' v v' := by
  refine ⟨((Below.refl _ _).alloc hB _).grown h2 (by simp; omega) (fun k hk => (own_block hown hk).1), fun g h4 h5 => ?_, fun g hg => ?_⟩
  · rw [grown_at h2 (by simp; omega) h5, heap_alloc_old _ _ h4]
  · cases h3 with
    | room g' cap e1 e2 => subst e1 e2; exact .inl hg
    | new e1 _ => rw [e1] at hg; cases hg; right; simp
/-- append(l, x): the one number in a new row behind all others. -/
theorem wpList_append_intG {w0 : World} {ops : Array Oper} {rest : List Oper} {op : Oper} {a : Act} {Q : Exit → Act → World → Prop} (hgd : op.guard = none) (s x : Operand)
    (ho : op.op = .call { callee := .builtin .append, args := #[s, x], argTypes := #[25, 25] })
    (B : Nat) (v : Value) (n : Nat) (L : List Int) (y : Int) (hs : a.eval s = v) (hown : OwnI w0 B v n L) (hx : a.eval x = .slice (some ⟨w0.heap.size, 0, none⟩) 1 1)
    (hl : n + 1 ≤ 17592186044416) (hB : B ≤ w0.heap.size)
    (h : ∀ v' w', OwnI w' B v' (n + 1) (L ++ [y]) → GI B w0 w' v v' → wpList Tryz.prog ops Q rest (a.put op.dst v') w') : wpList Tryz.prog ops Q (op :: rest) a (w0.alloc (.cells #[.int .i64 y] 3)) := by
  obtain ⟨i0, hi, hz0, hz1, hz2⟩ := info_parts info3i
  refine wpList_append_where hgd s x 25 ho B 3 i0 (.int .i64 0) 1 8 Tryz.underlying25 hi hz0 hz1 hz2 rfl (by decide) v n (ivs L) hs (hown.out.alloc _) ⟨w0.heap.size, 0, none⟩ 1 1 (by omega) [.int .i64 y] hx rfl (cell_one_newI _ _ _) (fun u hu => by simp at hu; subst hu; rfl) (by unfold maxLen; omega) (by omega) (by simp; omega) ?_
  intro v' w' h1 h2 h3
  exact h v' w' ⟨by simp; exact hown.len, by simpa [ivs] using h1⟩ (gi_of hown.out hB h2 h3)
/-- The same in a statement that draws its order. -/
theorem step_append_intG {w : World} {ops : Array Oper} {op : Oper} {a : Act} {K : Act → World → Prop} {Q : Exit → Act → World → Prop} {E : Prop} (hgd : op.guard = none) (s x : Operand)
    (ho : op.op = .call { callee := .builtin .append, args := #[s, x], argTypes := #[25, 25] })
    (B : Nat) (v : Value) (n : Nat) (L : List Int) (y : Int) (hs : a.eval s = v) (hown : OwnI w B v n L) (g : Nat) (hx : a.eval x = .slice (some ⟨g, 0, none⟩) 1 1) (hc : w.cell? ⟨g, 0, none⟩ = some (.int .i64 y))
    (hl : n + 1 ≤ 17592186044416) (hB : B ≤ w.heap.size)
    (h : ∀ v' w', OwnI w' B v' (n + 1) (L ++ [y]) → GI B w w' v v' → K (a.put op.dst v') w') : if Region.wanted op (yielded ops a.tmps) = true then Oper.wp Tryz.prog op a w K Q else E := by
  have hw : Region.wanted op (yielded ops a.tmps) = true := by simp [Region.wanted, hgd]
  rw [if_pos hw]
  obtain ⟨i0, hi, hz0, hz1, hz2⟩ := info_parts info3i
  obtain ⟨v', w', hr, h2, h3, h4⟩ := run_append_where (P := Tryz.prog) (w := w) B 25 op.type 3 i0 (.int .i64 0) 1 8 Tryz.underlying25 hi hz0 hz1 hz2 rfl (by decide) v n (ivs L) hown.out ⟨g, 0, none⟩ 1 1 (by omega) [.int .i64 y] rfl (fun j u hj => by
    match j, hj with
    | 0, hj => simp at hj; subst hj; simpa [Addr.add] using hc
    | j + 1, hj => simp at hj) (fun u hu => by simp at hu; subst hu; rfl) (by unfold maxLen; omega) (by omega) hB
  unfold Oper.wp execOp
  simp only [ho, resolve, invoke, builtin, Sem.run_bind, Sem.run_pure, Result.andThen_ok, List.map_toArray, List.map_cons, List.map_nil, hs, hx, hr]
  refine h v' w' ⟨by simp; exact hown.len, by simpa [ivs] using h2⟩ ⟨?_, fun b h5 h6 => grown_at h3 h5 h6, fun b hb => ?_⟩
  · exact (Below.refl _ _).grown h3 hB (fun k hk => (own_block hown.out hk).1)
  · cases h4 with
    | room g' cap e1 e2 => subst e1 e2; exact .inl hb
    | new e1 _ => rw [e1] at hb; cases hb; right; exact Nat.le_refl _

/-- The state of the document's walk. -/
structure WK (wr : World) (B : Nat) (K : List (List Int)) (n D : Nat) (f0 : Int) (vo vn vx : Value) (m k : Nat) (S : List (Int × Nat)) (O : List Int) : Prop where
  oo : OwnI wr B vo m O
  on : OwnI wr B vn k (S.map Prod.fst).reverse
  ox : OwnI wr B vx k (S.map fun p => (p.2 : Int)).reverse
  a1 : ∀ g, vo.ownBlock = some g → vn.ownBlock ≠ some g
  a2 : ∀ g, vo.ownBlock = some g → vx.ownBlock ≠ some g
  a3 : ∀ g, vn.ownBlock = some g → vx.ownBlock ≠ some g
  frs : Frs K n D S
  eq : O ++ RR K S = po K f0
  ln : m ≤ n
  low : Lwr K
end Go.Proofs.YtchobeakieljpaaGreatDoor
namespace Go.Proofs.YtchobeakieljpaaGreatDoor
open Go.ChangeShapes Go.WideShapes Go.ChangeAt Go.RowKit

/-- The marks behind a lent list. -/
def MK : List Int := [-71, -72, -73, -74, -75]
theorem MK_at (k : Nat) (h : k < 5) : MK[k]? = some (-71 - (k : Int)) := by
  rcases (by omega : k = 0 ∨ k = 1 ∨ k = 2 ∨ k = 3 ∨ k = 4) with rfl | rfl | rfl | rfl | rfl <;> rfl
theorem MK_take (k : Nat) (h : k < 5) : MK.take (k + 1) = MK.take k ++ [-71 - (k : Int)] := by
  rcases (by omega : k = 0 ∨ k = 1 ∨ k = 2 ∨ k = 3 ∨ k = 4) with rfl | rfl | rfl | rfl | rfl <;> rfl
structure Nums (w w' : World) (n : Nat) (L : List Int) (e : Ending) : Prop where
  out : ∃ g cp, e = .returned (.slice (some ⟨g, 0, none⟩) (n + 5) cp) ∧ OwnI w' w.heap.size (.slice (some ⟨g, 0, none⟩) (n + 5) cp) (n + 5) (L ++ MK)
  bel : Below w.heap.size w w'
theorem OwnI.blkOf {w B v n L} (h : OwnI w B v n L) (hn : 0 < n) : ∃ g c, v = .slice (some ⟨g, 0, none⟩) n c := by
  rcases h.out.2 with ⟨_, h0⟩ | ⟨g, cap, cur, rfl, _⟩
  · omega
  · exact ⟨g, cap, rfl⟩
set_option maxRecDepth 10000 in
set_option maxHeartbeats 2000000 in
theorem numbers_any (w : World) (a : Option Addr) (c n : Nat) (L : List Int) (hL : n = L.length) (hI : Ints w a c L) (hz : a = none → c = 0) (hn : n ≤ 1000000000) :
    Calls Tryz.prog 31 #[.slice a n c] w fun e w' => Nums w w' n L e := by
  have HL : Hid (n = L.length) := hL
  clear hL
  go_enter Tryz.func31, Tryz.ntmps31
  go_wp2_with (first | (at_builtin; refine wpList_copy_ints rfl _ _ rfl w.heap.size ?_ a n c L ?_ HL.out hI hz (by omega) (Nat.le_refl _) ?_; (next => rfl); (next => rfl); intro v1 w1 HO1 hb1 hv1))
  clear hv1
  go_loopw [3, 4] (fun v k wr => ∃ i : Nat, i ≤ 5 ∧ k = .int .i64 i ∧ OwnI wr w.heap.size v (n + i) (L ++ MK.take i) ∧ Below w.heap.size w wr) (fun _ k _ => 5 - (intOf k).toNat)
  case atStart => exact ⟨0, by omega, rfl, by simpa using HO1, hb1⟩
  case round =>
    obtain ⟨i, hi, rfl, HO, hb⟩ := hrel
    have hs := hb.size
    obtain ⟨va, vc, rfl⟩ := own_slice HO.out
    by_cases hlt : i < 5
    · have hA1 : n + i + 1 ≤ 17592186044416 := by omega
      have hsub : (-71 : Int) - (i : Int) = -71 - (i : Int) := rfl
      go_wp2_with (first | (at_builtin; refine wpList_append_int rfl _ _ rfl w.heap.size _ (n + i) (L ++ MK.take i) (-71 - (i : Int)) ?_ HO ?_ hA1 hs ?_; (next => rfl); (next => rfl); intro v5 w5 HO5 hb5))
      have HO6 : OwnI w5 w.heap.size v5 (n + (i + 1)) (L ++ MK.take (i + 1)) := by rw [MK_take i hlt, ← List.append_assoc]; exact HO5
      go_roundw
      case rel => exact ⟨i + 1, by omega, by go_num, HO6, hb.trans (hb5.mono (by omega))⟩
      case measure => simp [intOf]; omega
    · obtain rfl : i = 5 := by omega
      obtain ⟨g, cp, hv⟩ := HO.blkOf (by omega)
      cases hv
      go_wp2_with fail
      go_ret
      exact ⟨⟨g, _, rfl, HO⟩, hb⟩
set_option maxRecDepth 10000 in
set_option maxHeartbeats 2000000 in
theorem marked_any (w : World) (a a2 : Option Addr) (c c2 n m : Nat) (L : List Int) (hL : n = L.length) (hm : m = n + 5) (hC : Ints w a c (L ++ MK)) (hI : Ints w a2 c2 L) (hn : n ≤ 1000000000) :
    Calls Tryz.prog 35 #[.slice a m c, .slice a2 n c2] w fun e w' => e = .returned (.bool true) ∧ ∃ q, w' = w.drewN q := by
  have HL : Hid (n = L.length) := hL
  have hc1 : n + 5 ≤ c := by have := hC.le; simp [MK] at this; omega
  have hc2 : n ≤ c2 := by have := hI.le; omega
  clear hL
  subst hm
  go_enter Tryz.func35, Tryz.ntmps35
  go_wp2_with fail
  go_loopw [5] (fun k wr => ∃ i q : Nat, i ≤ n + 5 ∧ k = .int .i64 i ∧ wr = w.drewN q) (fun k _ => n + 5 - (intOf k).toNat)
  case atStart => exact ⟨0, 0, by omega, rfl, rfl⟩
  case round =>
    obtain ⟨i, q, hi, rfl, rfl⟩ := hrel
    by_cases hlt : i < n
    · obtain ⟨b, o, rfl, hA⟩ := hC.out (by simp [MK])
      have hx := hA.cell i (by have := HL.out; simp; omega)
      rw [List.getElem_append_left (by have := HL.out; omega)] at hx
      obtain ⟨b2, o2, rfl, hA2⟩ := hI.out (by intro e; have := HL.out; simp [e] at this; omega)
      have hy := hA2.cell i (by have := HL.out; omega)
      obtain ⟨x, hxx⟩ : ∃ x, x = L[i]'(by have := HL.out; omega) := ⟨_, rfl⟩
      rw [← hxx] at hx hy
      clear hxx
      have hlt5 : i < n + 5 := by omega
      have hg1 : ¬ n ≤ i := by omega
      go_wp2_with fail
      go_quiet (fail)
      go_wp2_with fail
      go_roundw
      case rel => exact ⟨i + 1, _, by omega, by go_num, by first | rfl | exact World.drewN_drewN _ _ _⟩
      case measure => simp [intOf]; omega
    · by_cases hlt5 : i < n + 5
      · obtain ⟨k, hk⟩ : ∃ k, i = n + k := ⟨i - n, by omega⟩
        obtain ⟨b, o, rfl, hA⟩ := hC.out (by simp [MK])
        have hx := hA.cell i (by have := HL.out; simp [MK]; omega)
        have e1 : (L ++ MK)[i]'(by have := HL.out; simp [MK]; omega) = -71 - (k : Int) := by
          have h1 : (L ++ MK)[i]? = some (-71 - (k : Int)) := by
            rw [List.getElem?_append_right (by have := HL.out; omega), ← HL.out, hk, Nat.add_sub_cancel_left]
            exact MK_at k (by omega)
          exact (List.getElem?_eq_some_iff.1 h1).2
        rw [e1] at hx
        clear e1
        have e2 : (-71 : Int) - (i : Int) + (n : Int) = -71 - (k : Int) := by omega
        have hge : (n : Int) ≤ (i : Int) := by omega
        have hl1 : ¬ (i : Int) < (n : Int) := by omega
        have hk5 : k < 5 := by omega
        clear hk
        go_wp2_with fail
        go_quiet (fail)
        go_wp2_with fail
        go_roundw
        case rel => exact ⟨i + 1, _, by omega, by go_num, by first | rfl | exact World.drewN_drewN _ _ _⟩
        case measure => simp [intOf]; omega
      · obtain rfl : i = n + 5 := by omega
        go_wp2_with fail
        go_ret
        exact ⟨rfl, q, rfl⟩
set_option maxRecDepth 10000 in
set_option maxHeartbeats 2000000 in
theorem lnode_any (w : World) (nd : Nd) (s s2 : ByteArray) (hs : s = s2) (ka ka2 : Option Addr) (kl kl2 kc kc2 : Nat) :
    Calls Tryz.prog 36 #[.agg #[.int .i64 nd.kind, .int .i64 nd.at_, .int .i64 nd.wh, .int .i64 nd.close, .int .i64 nd.decl, .int .i64 nd.typ, .int .i64 nd.op, .int .i64 nd.val, .string s, .slice ka kl kc], .agg #[.int .i64 nd.kind, .int .i64 nd.at_, .int .i64 nd.wh, .int .i64 nd.close, .int .i64 nd.decl, .int .i64 nd.typ, .int .i64 nd.op, .int .i64 nd.val, .string s2, .slice ka2 kl2 kc2]] w fun e w' => e = .returned (.bool true) ∧ Below w.heap.size w w' := by
  subst hs
  go_enter Tryz.func36, Tryz.ntmps36
  go_wp2_with fail
  go_ret
  exact ⟨by simp, ((Below.refl _ _).alloc (Nat.le_refl _) _).alloc (by simp) _⟩
end Go.Proofs.YtchobeakieljpaaGreatDoor
namespace Go.Proofs.YtchobeakieljpaaGreatDoor
open Go.ChangeShapes Go.WideShapes Go.ChangeAt Go.RowKit

theorem infoS : (Tryz.prog.info? 25).map (fun i => (i.zero, i.size, i.bytes)) = some (some (.slice none 0 0), 1, 24) := by kernel_rfl
theorem own_base {w : World} {B B' e s n xs} {v : Value} (h : w.ownsRow B e s v n xs) (hB : B' ≤ B) : w.ownsRow B' e s v n xs := by
  refine ⟨h.1, h.2.imp id ?_⟩
  rintro ⟨g, cap, cur, e1, e2, e3⟩
  exact ⟨g, cap, cur, e1, by omega, e3⟩
/-- append(kids, c): the one slice in a new row behind all others. -/
theorem wpList_append_kv {w0 : World} {ops : Array Oper} {rest : List Oper} {op : Oper} {a : Act} {Q : Exit → Act → World → Prop} (hgd : op.guard = none) (s x : Operand)
    (ho : op.op = .call { callee := .builtin .append, args := #[s, x], argTypes := #[46, 46] })
    (B : Nat) (v : Value) (n g : Nat) (C : List Kd) (k : Kd) (y : Value) (hy : y = k.v) (hs : a.eval s = v) (hown : w0.ownsRow B 25 1 v n (C.map Kd.v)) (hx : a.eval x = .slice (some ⟨g, 0, none⟩) 1 1) (hg : g = w0.heap.size)
    (hl : n + 1 ≤ 1000000000) (hB : B ≤ w0.heap.size)
    (h : ∀ v' w', w'.ownsRow B 25 1 v' (n + 1) ((C ++ [k]).map Kd.v) → GI B w0 w' v v' → wpList Tryz.prog ops Q rest (a.put op.dst v') w') : wpList Tryz.prog ops Q (op :: rest) a (w0.alloc (.cells #[y] 25)) := by
  subst hg hy
  obtain ⟨i0, hi, hz0, hz1, hz2⟩ := info_parts infoS
  refine wpList_append_where hgd s x 46 ho B 25 i0 (.slice none 0 0) 1 24 Tryz.underlying46 hi hz0 hz1 hz2 rfl (by decide) v n (C.map Kd.v) hs (hown.alloc _) ⟨w0.heap.size, 0, none⟩ 1 1 (by omega) [k.v] hx rfl (cell_one_newI _ _ _) (fun u hu => by simp at hu; subst hu; rfl) (by unfold maxLen; omega) (by omega) (by simp; omega) ?_
  intro v' w' h1 h2 h3
  exact h v' w' (by simpa using h1) (gi_of hown hB h2 h3)
/-- append(nodes, n, m). -/
theorem wpList_append_node2 {w0 : World} {ops : Array Oper} {rest : List Oper} {op : Oper} {a : Act} {Q : Exit → Act → World → Prop} {C : Array Value} (hgd : op.guard = none) (s x : Operand)
    (ho : op.op = .call { callee := .builtin .append, args := #[s, x], argTypes := #[24, 24] })
    (B : Nat) (v : Value) (n g : Nat) (P : List (Nd × Value)) (n1 n2 : Nd) (hs : a.eval s = v) (hown : w0.ownsRow B 39 10 v n (ncs P)) (hx : a.eval x = .slice (some ⟨g, 0, none⟩) 2 2) (hg : g = w0.heap.size) (hC : C.toList = nc n1 (.slice none 0 0) ++ nc n2 (.slice none 0 0))
    (hl : n + 2 ≤ 1000000000) (hB : B ≤ w0.heap.size)
    (h : ∀ v' w', w'.ownsRow B 39 10 v' (n + 2) (ncs (P ++ [(n1, .slice none 0 0), (n2, .slice none 0 0)])) → GI B w0 w' v v' → wpList Tryz.prog ops Q rest (a.put op.dst v') w') : wpList Tryz.prog ops Q (op :: rest) a (w0.alloc (.cells C 39)) := by
  subst hg
  obtain ⟨i0, hi, hz0, hz1, hz2⟩ := info_parts infoN
  refine wpList_append_where hgd s x 24 ho B 39 i0 _ 10 104 Tryz.underlying24 hi hz0 hz1 hz2 rfl (by decide) v n (ncs P) hs (hown.alloc _) ⟨w0.heap.size, 0, none⟩ 2 2 (by omega) (nc n1 (.slice none 0 0) ++ nc n2 (.slice none 0 0)) hx rfl (fun j u hj => ?_) (fun u hu => ?_) (by unfold maxLen; omega) (by omega) (by simp; omega) ?_
  · have e : (⟨w0.heap.size, 0, none⟩ : Addr).add j = ⟨w0.heap.size, j, none⟩ := by unfold Addr.add; split <;> simp_all
    rw [e, ← hC] at *
    simpa using hj
  · rcases List.mem_append.1 hu with hu | hu
    · exact nc_one n1 none 0 0 u hu
    · exact nc_one n2 none 0 0 u hu
  · intro v' w' h1 h2 h3
    refine h v' w' ?_ (gi_of hown hB h2 h3)
    rw [ncs_app]
    simpa [ncs] using h1
/-- append(nodes, n), with what it does to memory. -/
theorem wpList_append_nodeG {w0 : World} {ops : Array Oper} {rest : List Oper} {op : Oper} {a : Act} {Q : Exit → Act → World → Prop} {C : Array Value} (hgd : op.guard = none) (s x : Operand)
    (ho : op.op = .call { callee := .builtin .append, args := #[s, x], argTypes := #[24, 24] })
    (B : Nat) (v : Value) (n g : Nat) (P : List (Nd × Value)) (nd : Nd) (ka : Option Addr) (kl kc : Nat) (hs : a.eval s = v) (hown : w0.ownsRow B 39 10 v n (ncs P)) (hx : a.eval x = .slice (some ⟨g, 0, none⟩) 1 1) (hg : g = w0.heap.size) (hC : C.toList = nc nd (.slice ka kl kc))
    (hl : n + 1 ≤ 1000000000) (hB : B ≤ w0.heap.size)
    (h : ∀ v' w', w'.ownsRow B 39 10 v' (n + 1) (ncs (P ++ [(nd, .slice ka kl kc)])) → GI B w0 w' v v' → wpList Tryz.prog ops Q rest (a.put op.dst v') w') : wpList Tryz.prog ops Q (op :: rest) a (w0.alloc (.cells C 39)) := by
  subst hg
  obtain ⟨i0, hi, hz0, hz1, hz2⟩ := info_parts infoN
  refine wpList_append_where hgd s x 24 ho B 39 i0 _ 10 104 Tryz.underlying24 hi hz0 hz1 hz2 rfl (by decide) v n (ncs P) hs (hown.alloc _) ⟨w0.heap.size, 0, none⟩ 1 1 (by omega) (nc nd (.slice ka kl kc)) hx rfl (fun j u hj => ?_) (nc_one nd ka kl kc) (by unfold maxLen; omega) (by omega) (by simp; omega) ?_
  · have e : (⟨w0.heap.size, 0, none⟩ : Addr).add j = ⟨w0.heap.size, j, none⟩ := by unfold Addr.add; split <;> simp_all
    rw [e, ← hC] at *
    simpa using hj
  · intro v' w' h1 h2 h3
    refine h v' w' ?_ (gi_of hown hB h2 h3)
    rw [ncs_app]
    simpa [ncs] using h1

/-- What lend has made so far: its box, the nodes' row, the row of kids. -/
structure LI (w wr : World) (h : Nat) (tc : Array Value) (M : List (Nd × Value)) (C : List Kd) (m c : Nat) (nv kv : Value) : Prop where
  lm : m = M.length
  lc : c = C.length
  rn : wr.ownsRow (h + 1) 39 10 nv m (ncs M)
  rk : wr.ownsRow (h + 1) 25 1 kv c (C.map Kd.v)
  kid : ∀ k ∈ C, OwnI wr (h + 1) k.v k.l.length k.l
  apt : C.Pairwise fun p q => p.g ≠ q.g
  box : wr.heap[h]? = some (.cells tc 27 (0, 0))
  var : wr.heap[h + 1]? = some (.cells #[.slice none 0 0, .slice none 0 0, nv, .slice none 0 0, kv] 48 (0, 0))
  bel : Below h w wr
theorem LI.keep {w wr w' h tc M C m c nv kv} (H : LI w wr h tc M C m c nv kv) (hb : Below wr.heap.size wr w') : LI w w' h tc M C m c nv kv := by
  have hv : h + 1 < wr.heap.size := (Array.getElem?_eq_some_iff.1 H.var).1
  exact ⟨H.lm, H.lc, own_keep H.rn hb.block, own_keep H.rk hb.block, fun k hk => (H.kid k hk).keep hb, H.apt, (hb.block _ (by omega)).trans H.box, (hb.block _ hv).trans H.var, H.bel.trans (hb.mono (by omega))⟩
/-- One more row of kids. -/
theorem LI.addKid {w wr w3 h tc M C m c nv kv v'} (H : LI w wr h tc M C m c nv kv) (k : Kd) (hk : OwnI wr (h + 1) k.v k.l.length k.l) (hne : ∀ q ∈ C, q.g ≠ k.g) (hr : w3.ownsRow (h + 1) 25 1 v' (c + 1) ((C ++ [k]).map Kd.v)) (hG : GI (h + 1) wr w3 kv v') :
    w3.heap[h + 1]? = some (.cells #[.slice none 0 0, .slice none 0 0, nv, .slice none 0 0, kv] 48 (0, 0)) ∧ LI w (w3.setCell ⟨h + 1, 4, none⟩ v') h tc M (C ++ [k]) m (c + 1) nv v' := by
  have hv : h + 1 < wr.heap.size := (Array.getElem?_eq_some_iff.1 H.var).1
  have hvar : w3.heap[h + 1]? = some (.cells #[.slice none 0 0, .slice none 0 0, nv, .slice none 0 0, kv] 48 (0, 0)) := (hG.blk _ hv (own_not H.rk H.var (by decide))).trans H.var
  have oneI : ∀ q : Kd, OwnI wr (h + 1) q.v q.l.length q.l → OwnI (w3.setCell ⟨h + 1, 4, none⟩ v') (h + 1) q.v q.l.length q.l := fun q hq =>
    ⟨rfl, own_move hq.out fun g hg => by
      rw [heap_set_other (fun e => own_not hq.out H.var (by decide) (by rw [← e]; exact hg))]
      exact hG.blk g (own_block hq.out hg).2 (own_apart hq.out H.rk (by decide) g hg)⟩
  refine ⟨hvar, H.lm, by simp; exact H.lc, ?_, own_move hr fun g hg => heap_set_other (fun e => own_not hr hvar (by decide) (by rw [← e]; exact hg)), ?_, ?_, ?_, ?_, ?_⟩
  · refine own_move H.rn fun g hg => ?_
    rw [heap_set_other (fun e => own_not H.rn H.var (by decide) (by rw [← e]; exact hg))]
    exact hG.blk g (own_block H.rn hg).2 (own_apart H.rn H.rk (by decide) g hg)
  · intro q hq
    rcases List.mem_append.1 hq with hq | hq
    · exact oneI q (H.kid q hq)
    · simp at hq; subst hq; exact oneI q hk
  · rw [List.pairwise_append]
    refine ⟨H.apt, by simp, fun q hq r hr => ?_⟩
    simp at hr
    subst hr
    exact hne q hq
  · rw [heap_set_other (by omega), hG.blk _ (by omega) (own_not H.rk H.box (by decide))]
    exact H.box
  · exact heap_set_at hvar
  · exact (H.bel.trans (hG.bel.mono (by omega))).setCell (p := ⟨h + 1, 4, none⟩) (by show h ≤ h + 1; omega) _
/-- One more node (or more). -/
theorem LI.addNode {w wr w3 h tc M C m c nv kv v' m' M'} (H : LI w wr h tc M C m c nv kv) (hm : m' = M'.length) (hr : w3.ownsRow (h + 1) 39 10 v' m' (ncs M')) (hG : GI (h + 1) wr w3 nv v') :
    w3.heap[h + 1]? = some (.cells #[.slice none 0 0, .slice none 0 0, nv, .slice none 0 0, kv] 48 (0, 0)) ∧ LI w (w3.setCell ⟨h + 1, 2, none⟩ v') h tc M' C m' c v' kv := by
  have hv : h + 1 < wr.heap.size := (Array.getElem?_eq_some_iff.1 H.var).1
  have hvar : w3.heap[h + 1]? = some (.cells #[.slice none 0 0, .slice none 0 0, nv, .slice none 0 0, kv] 48 (0, 0)) := (hG.blk _ hv (own_not H.rn H.var (by decide))).trans H.var
  refine ⟨hvar, hm, H.lc, own_move hr fun g hg => heap_set_other (fun e => own_not hr hvar (by decide) (by rw [← e]; exact hg)), ?_, fun q hq => ?_, H.apt, ?_, ?_, ?_⟩
  · refine own_move H.rk fun g hg => ?_
    rw [heap_set_other (fun e => own_not H.rk H.var (by decide) (by rw [← e]; exact hg))]
    exact hG.blk g (own_block H.rk hg).2 (own_apart H.rk H.rn (by decide) g hg)
  · refine ⟨rfl, own_move (H.kid q hq).out fun g hg => ?_⟩
    rw [heap_set_other (fun e => own_not (H.kid q hq).out H.var (by decide) (by rw [← e]; exact hg))]
    exact hG.blk g (own_block (H.kid q hq).out hg).2 (own_apart (H.kid q hq).out H.rn (by decide) g hg)
  · rw [heap_set_other (by omega), hG.blk _ (by omega) (own_not H.rn H.box (by decide))]
    exact H.box
  · exact heap_set_at hvar
  · exact (H.bel.trans (hG.bel.mono (by omega))).setCell (p := ⟨h + 1, 2, none⟩) (by show h ≤ h + 1; omega) _
theorem GI.alloc_pre {B : Nat} {w0 w' : World} {v v' : Value} (h : GI B w0 w' v v') : w0.heap.size ≤ w'.heap.size := h.bel.size
end Go.Proofs.YtchobeakieljpaaGreatDoor
namespace Go.Proofs.YtchobeakieljpaaGreatDoor
open Go.ChangeShapes Go.WideShapes Go.ChangeAt Go.RowKit

/-- The same rows, with other numbers in them. -/
structure Shp (C C' : List Kd) : Prop where
  len : C.length = C'.length
  out : ∀ q (h : q < C.length) (h' : q < C'.length), (C[q]).g = (C'[q]).g ∧ (C[q]).c = (C'[q]).c ∧ (C[q]).l.length = (C'[q]).l.length
theorem Shp.refl (C : List Kd) : Shp C C := ⟨rfl, fun q h h' => ⟨rfl, rfl, rfl⟩⟩
theorem Shp.trans {A B C : List Kd} (h : Shp A B) (k : Shp B C) : Shp A C := ⟨h.len.trans k.len, fun q h1 h3 => by
  have h2 : q < B.length := by rw [← h.len]; exact h1
  obtain ⟨a1, a2, a3⟩ := h.out q h1 h2
  obtain ⟨b1, b2, b3⟩ := k.out q h2 h3
  exact ⟨a1.trans b1, a2.trans b2, a3.trans b3⟩⟩
theorem Shp.set {C C' : List Kd} (h : Shp C C') (i : Nat) (hi : i < C'.length) (j : Nat) (y : Int) : Shp C (C'.set i { C'[i] with l := (C'[i]).l.set j y }) :=
  ⟨by simpa using h.len, fun q h1 h2 => by
    have h3 : q < C'.length := by simpa using h2
    rw [List.getElem_set]
    split
    · next e =>
      subst e
      have := h.out i h1 h3
      simpa using this
    · exact h.out q h1 h3⟩
/-- The first i nodes of a lent tree are those of another one. -/
structure FI (M : List (Nd × Value)) (C : List Kd) (U : List Nd) (i : Nat) : Prop where
  out : ∀ q (h : q < U.length) (hm : q < M.length) (hc : q < C.length), q < i → (M[q]).1 = U[q] ∧ (M[q]).2 = .slice (some ⟨(C[q]).g, 0, none⟩) (U[q]).kids.length (C[q]).c ∧ (U[q]).kids.length ≤ (C[q]).l.length ∧ (C[q]).l.take (U[q]).kids.length = (U[q]).kids
theorem FI.zero (M C U) : FI M C U 0 := ⟨fun q _ _ _ h => by omega⟩
theorem FI.setC {M C U i} (h : FI M C U i) (k : Kd) : FI M (C.set i k) U i := ⟨fun q h1 h2 h3 h4 => by
  have h3' : q < C.length := by simpa using h3
  rw [List.getElem_set_ne (by omega)]
  exact h.out q h1 h2 h3' h4⟩
theorem FI.next {M C U i} (h : FI M C U i) (hU : i < U.length) (hC : i < C.length) (v : Value) (hv : v = .slice (some ⟨(C[i]).g, 0, none⟩) (U[i]).kids.length (C[i]).c) (hl : (U[i]).kids.length ≤ (C[i]).l.length) (ht : (C[i]).l.take (U[i]).kids.length = (U[i]).kids) : FI (M.set i (U[i], v)) C U (i + 1) := ⟨fun q h1 h2 h3 h4 => by
  by_cases e : q = i
  · subst e
    simp
    exact ⟨hv, hl, ht⟩
  · have h2' : q < M.length := by simpa using h2
    rw [List.getElem_set_ne (by omega)]
    exact h.out q h1 h2' h3 (by omega)⟩
theorem FI.lnk {M C U n} (h : FI M C U n) (hU : U.length = n) : Lnk M C n := ⟨fun q h1 h2 h3 => by
  obtain ⟨a1, a2, a3, a4⟩ := h.out q (by omega) h1 h2 h3
  rw [a1]
  exact ⟨a2, a3, a4⟩⟩
theorem take_set_succ {l m : List Int} {j : Nat} (h : l.take j = m.take j) (hl : j < l.length) (hm : j < m.length) : (l.set j m[j]).take (j + 1) = m.take (j + 1) := by
  rw [List.take_succ_eq_append_getElem (by simpa using hl), List.take_succ_eq_append_getElem hm, List.take_set_of_le (Nat.le_refl _), h]
  simp
theorem Lnt.nodes {w s M C FC U} (h : Lnt w s M C FC) (hF : FI M C U s.n) (hU : U.length = s.n) : Nodes w (some ⟨s.nb, 0, none⟩) s.nc U := by
  obtain ⟨ao, cap, e, hN⟩ := (h.cm (hF.lnk hU)).nodes
  cases e
  have e : (M.take s.n).map Prod.fst = U := by
    refine List.ext_getElem (by simp; have := h.ln; omega) fun q h1 h2 => ?_
    have h3 : q < M.length := by simp at h1; omega
    have h4 : q < C.length := by have := h.lk; omega
    rw [List.getElem_map, List.getElem_take]
    exact (hF.out q h2 h3 h4 (by omega)).1
  rw [← e]
  exact hN
theorem Lnt.ints {w s M C FC F} (h : Lnt w s M C FC) (hF : FC.take s.fn = F) : Ints w (some ⟨s.fb, 0, none⟩) s.fc F := by
  have h1 := h.fun_.take s.fn (by omega)
  rw [hF] at h1
  obtain ⟨ao, cap, e, _, _, hI, _⟩ := h1.view
  cases e
  exact hI
theorem own1_cell {w : World} {B e g c n : Nat} {L : List Value} (h : w.ownsRow B e 1 (.slice (some ⟨g, 0, none⟩) n c) n L) (i : Nat) (hi : i < n) (v : Value) (hv : L[i]? = some v) : w.cell? ⟨g, i, none⟩ = some v := by
  rcases h.2 with ⟨e', _⟩ | ⟨g', cap, cur, e', e2, e3, e4, e5, e6, e7⟩
  · cases e'
  · cases e'
    have h1 : (cur.toList.take (n * 1))[i]? = some v := by rw [e7]; exact hv
    rw [List.getElem?_take, if_pos (by omega)] at h1
    have h2 : cur[i]? = some v := by simpa using h1
    simp [World.cell?, e3, h2]
theorem own_blkOf {w : World} {B e z n : Nat} {v : Value} {L : List Value} (h : w.ownsRow B e z v n L) (hn : 0 < n) : ∃ g c, v = .slice (some ⟨g, 0, none⟩) n c ∧ n ≤ c ∧ c ≤ 9223372036854775807 ∧ B ≤ g ∧ g < w.heap.size := by
  rcases h.2 with ⟨_, h0⟩ | ⟨g, cap, cur, e, e2, e3, e4, e5, e6, e7⟩
  · omega
  · exact ⟨g, cap, e, e4, by unfold maxLen at e5; omega, e2, (Array.getElem?_eq_some_iff.1 e3).1⟩
/-- What a lent tree is at first. -/
structure LT (M : List (Nd × Value)) (C : List Kd) (FC : List Int) (T : Tr) : Prop where
  fi : FI M C T.nodes T.nodes.length
  kl : ∀ q (h : q < T.nodes.length) (hc : q < C.length), (C[q]).l = (T.nodes[q]).kids ++ MK
  m1 : (M[T.nodes.length]?).map (fun p => p.1.kind) = some (-71)
  m2 : (M[T.nodes.length + 1]?).map (fun p => p.1.kind) = some (-72)
  fc : FC = T.funcs ++ MK
/-- Nodes that lie where nothing is written. -/
structure Ap (B E : Nat) (w : World) (no : Option Addr) (nc : Nat) (U : List Nd) (fo : Option Addr) (fc : Nat) (F : List Int) : Prop where
  nod : ∀ w', Tch B E w w' → Nodes w' no nc U
  fun_ : ∀ w', Tch B E w w' → Ints w' fo fc F
  row : U ≠ [] → ∀ w', Tch B E w w' → ∀ b o, no = some ⟨b, o, none⟩ → w'.heap[b]? = w.heap[b]?
theorem Ap.move {B E w w' no nc U fo fc F} (h : Ap B E w no nc U fo fc F) (ht : Tch B E w w') : Ap B E w' no nc U fo fc F := ⟨fun w2 h2 => h.nod w2 (ht.trans h2), fun w2 h2 => h.fun_ w2 (ht.trans h2), fun hU w2 h2 b o e => (h.row hU w2 (ht.trans h2) b o e).trans (h.row hU w' ht b o e).symm⟩
/-- Of what lay there ahead of the lent tree. -/
theorem Ap.old {B E w w0 no nc U fo fc F} (hN : Nodes w0 no nc U) (hF : Ints w0 fo fc F) (hb : Below w0.heap.size w0 w) (hB : w0.heap.size ≤ B) : Ap B E w no nc U fo fc F :=
  ⟨fun w' h => hN.below (hb.trans (h.bel.mono hB)) (Nat.le_refl _), fun w' h => hF.below (hb.trans (h.bel.mono hB)) (Nat.le_refl _), fun hU w' h b o e => by
    obtain ⟨b', o', e', hl, _⟩ := hN.out hU
    rw [e'] at e
    cases e
    rw [(hb.trans (h.bel.mono hB)).block _ hl, hb.block _ hl]⟩
/-- The kids of one node. -/
theorem Ap.kids {B E w no nc U fo fc F} (h : Ap B E w no nc U fo fc F) {w' : World} (ht : Tch B E w w') {i : Nat} (hi : i < U.length) {b o : Nat} (hno : no = some ⟨b, o, none⟩) {ka : Option Addr} {kl kc : Nat} (hc : w.cell? ⟨b, o + i * 10 + 9, none⟩ = some (.slice ka kl kc)) : w'.cell? ⟨b, o + i * 10 + 9, none⟩ = some (.slice ka kl kc) ∧ Ints w' ka kc (U[i]).kids := by
  have hU : U ≠ [] := by intro e; rw [e] at hi; simp at hi
  have hc' : w'.cell? ⟨b, o + i * 10 + 9, none⟩ = some (.slice ka kl kc) := (World.cell?_of_block (h.row hU w' ht b o hno)).trans hc
  refine ⟨hc', ?_⟩
  obtain ⟨b', o', e', _, hAt⟩ := (h.nod w' ht).out hU
  rw [hno] at e'
  cases e'
  obtain ⟨ka', kc', _, _, _, _, _, _, _, _, _, d9, hK⟩ := (hAt i hi).out
  rw [hc'] at d9
  cases d9
  exact hK
/-- Of a tree that was made behind it. -/
theorem Ap.new {B E B' w v fv n fn P F} (hC : CN w B' v n P) (hF : OwnI w B' fv fn F) (hE : E ≤ B') : ∃ no nc fo fc, v = .slice no n nc ∧ fv = .slice fo fn fc ∧ Ap B E w no nc (P.map Prod.fst) fo fc F := by
  obtain ⟨no, nc, rfl, _⟩ := hC.nodes
  obtain ⟨fo, fc, rfl, _, _, _, _⟩ := hF.view
  have ow : ∀ {w' : World} {e s n xs} {u : Value}, Tch B E w w' → w.ownsRow B' e s u n xs → w'.ownsRow B' e s u n xs := fun ht h => own_move h fun g hg => ht.blk g (by have := own_block h hg; omega) (own_block h hg).2
  refine ⟨no, nc, fo, fc, rfl, rfl, fun w' ht => ?_, fun w' ht => ?_, fun hU w' ht b o e => ?_⟩
  · have : CM w' B' (.slice no n nc) n P := ⟨hC.len, ow ht hC.own, fun p hp => ⟨(hC.kid p hp).len, ow ht (hC.kid p hp).out⟩⟩
    obtain ⟨_, _, e, h⟩ := this.nodes
    cases e
    exact h
  · have : OwnI w' B' (.slice fo fn fc) fn F := ⟨hF.len, ow ht hF.out⟩
    obtain ⟨_, _, e, _, _, h, _⟩ := this.view
    cases e
    exact h
  · have hn : 0 < n := by
      rw [hC.len]
      rcases Nat.eq_zero_or_pos P.length with h0 | h0
      · rw [List.length_eq_zero_iff.1 h0] at hU; exact absurd rfl hU
      · exact h0
    obtain ⟨g, c, e2, _, _, h3, h4⟩ := own_blkOf hC.own hn
    cases e2
    cases e
    exact ht.blk b (by omega) h4
end Go.Proofs.YtchobeakieljpaaGreatDoor
