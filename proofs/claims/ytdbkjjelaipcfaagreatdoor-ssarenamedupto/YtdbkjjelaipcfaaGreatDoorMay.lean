import Derived.Test.YtdbkjjelaipcfaaGreatDoorMaw
set_option linter.unusedVariables false
set_option linter.unusedSimpArgs false
namespace Go.Proofs.YtdbkjjelaipcfaaGreatDoor
open Go.ChangeShapes Go.WideShapes Go.ChangeAt Go.RowKit Go.Maps
theorem flat_len {α : Type} {z : Nat} : ∀ (xs : List (List α)), (∀ x ∈ xs, x.length = z) -> xs.flatten.length = xs.length * z
 | [], _ => by simp
 | x :: xs, h => by
   have h1 := flat_len xs fun y hy => h y (by simp [hy])
   have h2 := h x (by simp)
   simp only [List.flatten_cons, List.length_append, List.length_cons, h1, h2, Nat.add_mul]
   omega
theorem flat_at {α : Type} {z : Nat} : ∀ (xs : List (List α)), (∀ x ∈ xs, x.length = z) -> ∀ i (hi : i < xs.length) r, r < z -> xs.flatten[i * z + r]? = (xs[i])[r]?
 | [], _, i, hi, _, _ => by simp at hi
 | x :: xs, h, i, hi, r, hr => by
   have h2 := h x (by simp)
   cases i with
   | zero =>
     rw [List.flatten_cons, Nat.zero_mul, Nat.zero_add, List.getElem?_append_left (by omega)]
     rfl
   | succ i =>
     have h1 := flat_at xs (fun y hy => h y (by simp [hy])) i (by simpa using hi) r hr
     rw [List.flatten_cons, List.getElem?_append_right (by rw [h2, Nat.add_mul]; omega), h2, show (i + 1) * z + r - z = i * z + r by rw [Nat.add_mul]; omega, h1]
     rfl
structure IM (w : World) (B : Nat) (ao : Option Addr) (c : Nat) (L : List Int) : Prop where
 out : Ints w ao c (L ++ [-71, -72])
 ty : ∃ b cs, ao = some ⟨b, 0, none⟩ /\ B <= b /\ w.heap[b]? = some (.cells cs 3 (0, 0))
theorem Ints.pre {w ao c} {L M : List Int} (h : Ints w ao c (L ++ M)) : Ints w ao c L := by
 refine ⟨by have := h.le; simp at this; omega, h.mx, fun hne => ?_⟩
 obtain ⟨b, o, e, hA⟩ := h.out (by simp [hne])
 refine ⟨b, o, e, ?_, fun i hi => ?_⟩
 ·have h0 : 0 < L.length := List.length_pos_iff.2 hne
  have := block_lt_of_cell (hA.cell 0 (by simp; omega)); exact this
 ·have := hA.cell i (by simp; omega)
  rw [this, List.getElem_append_left hi]
theorem IM.ints {w B ao c L} (h : IM w B ao c L) : Ints w ao c L := h.out.pre
theorem IM.move {w w' : World} {B ao c L} (h : IM w B ao c L) (hk : ∀ b cs, B <= b -> w.heap[b]? = some (.cells cs 3 (0, 0)) -> w'.heap[b]? = w.heap[b]?) : IM w' B ao c L := by
 obtain ⟨b, cs, rfl, h1, h2⟩ := h.ty
 have e := hk b cs h1 h2
 refine ⟨⟨h.out.le, h.out.mx, fun hne => ?_⟩, b, cs, rfl, h1, e.trans h2⟩
 obtain ⟨b', o, e', hA⟩ := h.out.out hne
 cases e'
 refine ⟨b, 0, rfl, (Array.getElem?_eq_some_iff.1 (e.trans h2)).1, fun i hi => ?_⟩
 rw [<- hA.cell i hi]
 exact World.cell?_of_block (w := w) e
theorem IM.lower {w B B' ao c L} (h : IM w B ao c L) (hB : B' <= B) : IM w B' ao c L := by
 obtain ⟨b, cs, e, h1, h2⟩ := h.ty
 exact ⟨h.out, b, cs, e, by omega, h2⟩
theorem IM.below {w w' : World} {B ao c L} (h : IM w B ao c L) (hb : Below w.heap.size w w') : IM w' B ao c L := h.move fun b cs _ e => hb.block b (gl e)
structure VE (w : World) (B : Nat) (cs : List Value) (v : Vl) : Prop where
 out : ∃ a k, cs = [.int .i64 v.op, .int .i64 v.ty, .int .i64 v.imm, .slice a v.args.length k] /\ IM w B a k v.args
theorem VE.move {w w' : World} {B cs v} (h : VE w B cs v) (hk : ∀ b cs, B <= b -> w.heap[b]? = some (.cells cs 3 (0, 0)) -> w'.heap[b]? = w.heap[b]?) : VE w' B cs v := by
 obtain ⟨a, k, e, h1⟩ := h.out
 exact ⟨a, k, e, h1.move hk⟩
theorem VE.lower {w B B' cs v} (h : VE w B cs v) (hB : B' <= B) : VE w B' cs v := by
 obtain ⟨a, k, e, h1⟩ := h.out
 exact ⟨a, k, e, h1.lower hB⟩
theorem VE.len {w B cs v} (h : VE w B cs v) : cs.length = 4 := by
 obtain ⟨a, k, e, _⟩ := h.out
 rw [e]; rfl
structure BE (w : World) (B : Nat) (cs : List Value) (v : Bk) : Prop where
 out : ∃ a1 k1 a2 k2 a3 k3 a4 k4, cs = [.slice a1 v.phis.length k1, .slice a2 v.body.length k2, .int .i64 v.kind, .int .i64 v.val, .slice a3 v.ways.length k3, .slice a4 v.preds.length k4] /\ IM w B a1 k1 v.phis /\ IM w B a2 k2 v.body /\ IM w B a3 k3 v.ways /\ IM w B a4 k4 v.preds
theorem BE.move {w w' : World} {B cs v} (h : BE w B cs v) (hk : ∀ b cs, B <= b -> w.heap[b]? = some (.cells cs 3 (0, 0)) -> w'.heap[b]? = w.heap[b]?) : BE w' B cs v := by
 obtain ⟨a1, k1, a2, k2, a3, k3, a4, k4, e, h1, h2, h3, h4⟩ := h.out
 exact ⟨a1, k1, a2, k2, a3, k3, a4, k4, e, h1.move hk, h2.move hk, h3.move hk, h4.move hk⟩
theorem BE.lower {w B B' cs v} (h : BE w B cs v) (hB : B' <= B) : BE w B' cs v := by
 obtain ⟨a1, k1, a2, k2, a3, k3, a4, k4, e, h1, h2, h3, h4⟩ := h.out
 exact ⟨a1, k1, a2, k2, a3, k3, a4, k4, e, h1.lower hB, h2.lower hB, h3.lower hB, h4.lower hB⟩
theorem BE.len {w B cs v} (h : BE w B cs v) : cs.length = 6 := by
 obtain ⟨a1, k1, a2, k2, a3, k3, a4, k4, e, _⟩ := h.out
 rw [e]; rfl
structure Row (w : World) (B : Nat) (e : TypeId) (z : Nat) (v : Value) (xs : List (List Value)) : Prop where
 out : w.ownsRow B e z v xs.length xs.flatten
 len : ∀ x ∈ xs, x.length = z
theorem Row.nil (w : World) (B : Nat) (e : TypeId) (z : Nat) : Row w B e z (.slice none 0 0) [] := ⟨World.ownsRow_nil _ _ _ _, fun x hx => by simp at hx⟩
theorem Row.move {w w' : World} {B e z v xs} (h : Row w B e z v xs) (hk : ∀ g, v.ownBlock = some g -> w'.heap[g]? = w.heap[g]?) : Row w' B e z v xs := ⟨own_move h.out hk, h.len⟩
theorem Row.keep {w w' : World} {B e z v xs} (h : Row w B e z v xs) (hb : Below w.heap.size w w') : Row w' B e z v xs := h.move fun g hg => hb.block g (own_block h.out hg).2
theorem step_append_row {w : World} {ops : Array Oper} {op : Oper} {a : Act} {K : Act -> World -> Prop} {Q : Exit -> Act -> World -> Prop} {E : Prop} (hgd : op.guard = none) (s x : Operand) (T e : TypeId) (z : Nat) (zv : Value) (by_ : Nat)
 (ho : op.op = .call { callee := .builtin .append, args := #[s, x], argTypes := #[T, T] }) (hT : Tryz.prog.underlying T = some (.slice e)) (hi0 : (Tryz.prog.info? e).map (fun i => (i.zero, i.size, i.bytes)) = some (some zv, z, by_)) (hzc : zv.cells.size = z) (hz : 0 < z) (hby : 0 < by_ /\ by_ <= 1000)
 (B : Nat) (v : Value) (xs : List (List Value)) (hs : a.eval s = v) (hown : Row w B e z v xs) (g : Nat) (hx : a.eval x = .slice (some ⟨g, 0, none⟩) 1 1) (cs : List Value) (hcl : cs.length = z) (hc : ∀ j u, cs[j]? = some u -> w.cell? ((⟨g, 0, none⟩ : Addr).add j) = some u) (h1 : ∀ u ∈ cs, u.oneCell' = true)
 (hl : xs.length + 1 <= 1000000000) (hB : B <= w.heap.size)
 (h : ∀ v' w', Row w' B e z v' (xs ++ [cs]) -> GI B w w' v v' -> K (a.put op.dst v') w') : if Region.wanted op (yielded ops a.tmps) = true then Oper.wp Tryz.prog op a w K Q else E := by
 have hw : Region.wanted op (yielded ops a.tmps) = true := by simp [Region.wanted, hgd]
 rw [if_pos hw]
 obtain ⟨i0, hi, hz0, hz1, hz2⟩ := info_parts hi0
 obtain ⟨v', w', hr, h2, h3, h4⟩ := run_append_where (P := Tryz.prog) (w := w) B T op.type e i0 zv z by_ hT hi hz0 hz1 hz2 hzc hz v xs.length xs.flatten hown.out ⟨g, 0, none⟩ 1 1 (by omega) cs (by omega) hc h1 (by unfold maxLen; omega) (by have := hby.2; have : (xs.length + 1) * by_ <= 1000000000 * 1000 := Nat.mul_le_mul hl (by omega); omega) hB
 unfold Oper.wp execOp
 simp only [ho, resolve, invoke, builtin, Sem.run_bind, Sem.run_pure, Result.andThen_ok, List.map_toArray, List.map_cons, List.map_nil, hs, hx, hr]
 refine h v' w' ⟨by simpa using h2, fun y hy => ?_⟩ ⟨?_, fun b h5 h6 => grown_at h3 h5 h6, fun b hb => ?_⟩
 ·rcases List.mem_append.1 hy with q | q
  ·exact hown.len y q
  ·simp at q; rw [q]; exact hcl
 ·exact (Below.refl _ _).grown h3 hB (fun k hk => (own_block hown.out hk).1)
 ·rcases h4.out with ⟨g', cap, e1, e2⟩ | ⟨e1, _⟩
  ·subst e1 e2; exact .inl hb
  ·rw [e1] at hb; cases hb; right; exact Nat.le_refl _
structure VM (w : World) (B b c : Nat) (N : List Vl) : Prop where
 lo : B <= b
 le : N.length + 1 <= c
 mx : c <= 9223372036854775807
 ty : ∃ cs, w.heap[b]? = some (.cells cs 42 (0, 0))
 cell : ∀ i (h : i < N.length), ∃ a k, w.cell? ⟨b, i * 4, none⟩ = some (.int .i64 N[i].op) /\ w.cell? ⟨b, i * 4 + 1, none⟩ = some (.int .i64 N[i].ty) /\ w.cell? ⟨b, i * 4 + 2, none⟩ = some (.int .i64 N[i].imm) /\ w.cell? ⟨b, i * 4 + 3, none⟩ = some (.slice a N[i].args.length k) /\ IM w B a k N[i].args
 mark : w.cell? ⟨b, N.length * 4, none⟩ = some (.int .i64 (-71))
structure BM (w : World) (B b c : Nat) (N : List Bk) : Prop where
 lo : B <= b
 le : N.length + 1 <= c
 mx : c <= 9223372036854775807
 ty : ∃ cs, w.heap[b]? = some (.cells cs 46 (0, 0))
 cell : ∀ i (h : i < N.length), ∃ a1 k1 a2 k2 a3 k3 a4 k4, w.cell? ⟨b, i * 6, none⟩ = some (.slice a1 N[i].phis.length k1) /\ w.cell? ⟨b, i * 6 + 1, none⟩ = some (.slice a2 N[i].body.length k2) /\ w.cell? ⟨b, i * 6 + 2, none⟩ = some (.int .i64 N[i].kind) /\ w.cell? ⟨b, i * 6 + 3, none⟩ = some (.int .i64 N[i].val) /\ w.cell? ⟨b, i * 6 + 4, none⟩ = some (.slice a3 N[i].ways.length k3) /\ w.cell? ⟨b, i * 6 + 5, none⟩ = some (.slice a4 N[i].preds.length k4) /\ IM w B a1 k1 N[i].phis /\ IM w B a2 k2 N[i].body /\ IM w B a3 k3 N[i].ways /\ IM w B a4 k4 N[i].preds
 mark : w.cell? ⟨b, N.length * 6 + 2, none⟩ = some (.int .i64 (-71))
theorem VM.move {w w' : World} {B b c N} (h : VM w B b c N) (hk : ∀ b cs, B <= b -> w.heap[b]? = some (.cells cs 3 (0, 0)) -> w'.heap[b]? = w.heap[b]?) (hv : w'.heap[b]? = w.heap[b]?) : VM w' B b c N := by
 have hc : ∀ q, w'.cell? ⟨b, q, none⟩ = w.cell? ⟨b, q, none⟩ := fun q => World.cell?_of_block (w := w) hv
 obtain ⟨cs, hcs⟩ := h.ty
 refine ⟨h.lo, h.le, h.mx, ⟨cs, hv.trans hcs⟩, fun i hi => ?_, (hc _).trans h.mark⟩
 obtain ⟨a, k, c0, c1, c2, c3, hI⟩ := h.cell i hi
 exact ⟨a, k, (hc _).trans c0, (hc _).trans c1, (hc _).trans c2, (hc _).trans c3, hI.move hk⟩
theorem BM.move {w w' : World} {B b c N} (h : BM w B b c N) (hk : ∀ b cs, B <= b -> w.heap[b]? = some (.cells cs 3 (0, 0)) -> w'.heap[b]? = w.heap[b]?) (hv : w'.heap[b]? = w.heap[b]?) : BM w' B b c N := by
 have hc : ∀ q, w'.cell? ⟨b, q, none⟩ = w.cell? ⟨b, q, none⟩ := fun q => World.cell?_of_block (w := w) hv
 obtain ⟨cs, hcs⟩ := h.ty
 refine ⟨h.lo, h.le, h.mx, ⟨cs, hv.trans hcs⟩, fun i hi => ?_, (hc _).trans h.mark⟩
 obtain ⟨a1, k1, a2, k2, a3, k3, a4, k4, c0, c1, c2, c3, c4, c5, h1, h2, h3, h4⟩ := h.cell i hi
 exact ⟨a1, k1, a2, k2, a3, k3, a4, k4, (hc _).trans c0, (hc _).trans c1, (hc _).trans c2, (hc _).trans c3, (hc _).trans c4, (hc _).trans c5, h1.move hk, h2.move hk, h3.move hk, h4.move hk⟩
theorem VM.lower {w B B' b c N} (h : VM w B b c N) (hB : B' <= B) : VM w B' b c N := ⟨by have := h.lo; omega, h.le, h.mx, h.ty, fun i hi => by
 obtain ⟨a, k, c0, c1, c2, c3, hI⟩ := h.cell i hi
 exact ⟨a, k, c0, c1, c2, c3, hI.lower hB⟩, h.mark⟩
theorem BM.lower {w B B' b c N} (h : BM w B b c N) (hB : B' <= B) : BM w B' b c N := ⟨by have := h.lo; omega, h.le, h.mx, h.ty, fun i hi => by
 obtain ⟨a1, k1, a2, k2, a3, k3, a4, k4, c0, c1, c2, c3, c4, c5, h1, h2, h3, h4⟩ := h.cell i hi
 exact ⟨a1, k1, a2, k2, a3, k3, a4, k4, c0, c1, c2, c3, c4, c5, h1.lower hB, h2.lower hB, h3.lower hB, h4.lower hB⟩, h.mark⟩
theorem VM.lt {w B b c N} (h : VM w B b c N) : b < w.heap.size := by obtain ⟨cs, e⟩ := h.ty; exact (gl e)
theorem BM.lt {w B b c N} (h : BM w B b c N) : b < w.heap.size := by obtain ⟨cs, e⟩ := h.ty; exact (gl e)
theorem VM.vls {w B b c N} (h : VM w B b c N) : Vls w (some ⟨b, 0, none⟩) c N := ⟨by have := h.le; omega, h.mx, fun _ => ⟨b, 0, rfl, h.lt, fun i hi => by
 obtain ⟨a, k, c0, c1, c2, c3, hI⟩ := h.cell i hi
 exact ⟨a, k, by simpa using c0, by simpa using c1, by simpa using c2, by simpa using c3, hI.ints⟩⟩⟩
theorem BM.bks {w B b c N} (h : BM w B b c N) : Bks w (some ⟨b, 0, none⟩) c N := ⟨by have := h.le; omega, h.mx, fun _ => ⟨b, 0, rfl, h.lt, fun i hi => by
 obtain ⟨a1, k1, a2, k2, a3, k3, a4, k4, c0, c1, c2, c3, c4, c5, h1, h2, h3, h4⟩ := h.cell i hi
 exact ⟨a1, k1, a2, k2, a3, k3, a4, k4, by simpa using c0, by simpa using c1, by simpa using c2, by simpa using c3, by simpa using c4, by simpa using c5, h1.ints, h2.ints, h3.ints, h4.ints⟩⟩⟩
theorem Row.cell {w : World} {B e z b n c xs} (h : Row w B e z (.slice (some ⟨b, 0, none⟩) n c) xs) (hn : n = xs.length) {i : Nat} (hi : i < xs.length) {r : Nat} (hr : r < z) {u : Value} (hu : (xs[i])[r]? = some u) : w.cell? ⟨b, i * z + r, none⟩ = some u := by
 subst hn
 have hlt : i * z + r < xs.length * z := by
  have : (i + 1) * z <= xs.length * z := Nat.mul_le_mul_right z hi
  rw [Nat.add_mul] at this
  omega
 rw [own_cell h.out (i * z + r) hlt, flat_at xs h.len i hi r hr, hu]
theorem Row.some {w : World} {B e z v xs} (h : Row w B e z v xs) (hne : 0 < xs.length) : ∃ b c cs, v = .slice (some ⟨b, 0, none⟩) xs.length c /\ xs.length <= c /\ c <= 9223372036854775807 /\ B <= b /\ w.heap[b]? = some (.cells cs e (0, 0)) := by
 obtain ⟨g, c, e1, h1, h2, h3, h4⟩ := own_some h.out hne
 rcases h.out.2 with ⟨q, _⟩ | ⟨g2, cap, cur, q, _, p3, _⟩
 ·rw [e1] at q; cases q
 ·rw [e1] at q; cases q
  exact ⟨g, c, cur, e1, h1, h2, h3, p3⟩
theorem VM.of_row {w : World} {B : Nat} {v : Value} {xs : List (List Value)} {N : List Vl} (h : Row w B 42 4 v (xs ++ [[.int .i64 (-71), .int .i64 0, .int .i64 0, .slice none 0 0]])) (hl : xs.length = N.length) (hE : ∀ i (h : i < N.length) (h' : i < xs.length), VE w B xs[i] N[i]) : ∃ b c, v = .slice (some ⟨b, 0, none⟩) (N.length + 1) c /\ VM w B b c N := by
 obtain ⟨b, c, cs, rfl, h1, h2, h3, h4⟩ := h.some (by simp)
 have hn : (xs ++ [[Value.int .i64 (-71), .int .i64 0, .int .i64 0, .slice none 0 0]]).length = N.length + 1 := by simp [hl]
 refine ⟨b, c, by rw [hn], h3, by omega, h2, ⟨cs, h4⟩, fun i hi => ?_, ?_⟩
 ·obtain ⟨a, k, e, hI⟩ := (hE i hi (by omega)).out
  have ex : (xs ++ [[Value.int .i64 (-71), .int .i64 0, .int .i64 0, .slice none 0 0]])[i]'(by simp; omega) = xs[i]'(by omega) := List.getElem_append_left (by omega)
  have hc : ∀ r u, r < 4 -> (xs[i]'(by omega))[r]? = some u -> w.cell? ⟨b, i * 4 + r, none⟩ = some u := fun r u hr hu => h.cell rfl (by simp; omega) hr (by rw [ex]; exact hu)
  rw [e] at hc
  exact ⟨a, k, hc 0 _ (by omega) rfl, hc 1 _ (by omega) rfl, hc 2 _ (by omega) rfl, hc 3 _ (by omega) rfl, hI⟩
 ·have := h.cell rfl (i := xs.length) (by simp) (r := 0) (by omega) (u := .int .i64 (-71)) (by simp)
  rw [hl] at this
  exact this
theorem BM.of_row {w : World} {B : Nat} {v : Value} {xs : List (List Value)} {N : List Bk} (h : Row w B 46 6 v (xs ++ [[.slice none 0 0, .slice none 0 0, .int .i64 (-71), .int .i64 0, .slice none 0 0, .slice none 0 0]])) (hl : xs.length = N.length) (hE : ∀ i (h : i < N.length) (h' : i < xs.length), BE w B xs[i] N[i]) : ∃ b c, v = .slice (some ⟨b, 0, none⟩) (N.length + 1) c /\ BM w B b c N := by
 obtain ⟨b, c, cs, rfl, h1, h2, h3, h4⟩ := h.some (by simp)
 have hn : (xs ++ [[Value.slice none 0 0, .slice none 0 0, .int .i64 (-71), .int .i64 0, .slice none 0 0, .slice none 0 0]]).length = N.length + 1 := by simp [hl]
 refine ⟨b, c, by rw [hn], h3, by omega, h2, ⟨cs, h4⟩, fun i hi => ?_, ?_⟩
 ·obtain ⟨a1, k1, a2, k2, a3, k3, a4, k4, e, q1, q2, q3, q4⟩ := (hE i hi (by omega)).out
  have ex : (xs ++ [[Value.slice none 0 0, .slice none 0 0, .int .i64 (-71), .int .i64 0, .slice none 0 0, .slice none 0 0]])[i]'(by simp; omega) = xs[i]'(by omega) := List.getElem_append_left (by omega)
  have hc : ∀ r u, r < 6 -> (xs[i]'(by omega))[r]? = some u -> w.cell? ⟨b, i * 6 + r, none⟩ = some u := fun r u hr hu => h.cell rfl (by simp; omega) hr (by rw [ex]; exact hu)
  rw [e] at hc
  exact ⟨a1, k1, a2, k2, a3, k3, a4, k4, hc 0 _ (by omega) rfl, hc 1 _ (by omega) rfl, hc 2 _ (by omega) rfl, hc 3 _ (by omega) rfl, hc 4 _ (by omega) rfl, hc 5 _ (by omega) rfl, q1, q2, q3, q4⟩
 ·have := h.cell rfl (i := xs.length) (by simp) (r := 2) (by omega) (u := .int .i64 (-71)) (by simp)
  rw [hl] at this
  exact this
structure FE (w : World) (B : Nat) (cs : List Value) (f : Fu) : Prop where
 out : ∃ a k vb vc bb bc, cs = [.string f.name, .slice a f.params.length k, .int .i64 f.result, .slice (some ⟨vb, 0, none⟩) f.vals.length vc, .slice (some ⟨bb, 0, none⟩) f.blks.length bc] /\ IM w B a k f.params /\ VM w B vb vc f.vals /\ BM w B bb bc f.blks
theorem FE.len {w B cs v} (h : FE w B cs v) : cs.length = 5 := by
 obtain ⟨a, k, vb, vc, bb, bc, e, _⟩ := h.out
 rw [e]; rfl
theorem FE.move {w w' : World} {B cs f} (h : FE w B cs f) (hk : ∀ b cs t, B <= b -> w.heap[b]? = some (.cells cs t (0, 0)) -> t ≠ 38 -> w'.heap[b]? = w.heap[b]?) : FE w' B cs f := by
 obtain ⟨a, k, vb, vc, bb, bc, e, h1, h2, h3⟩ := h.out
 obtain ⟨c2, e2⟩ := h2.ty
 obtain ⟨c3, e3⟩ := h3.ty
 have hi : ∀ b cs, B <= b -> w.heap[b]? = some (.cells cs 3 (0, 0)) -> w'.heap[b]? = w.heap[b]? := fun b cs hb he => hk b cs _ hb he (by decide)
 exact ⟨a, k, vb, vc, bb, bc, e, h1.move hi, h2.move hi (hk vb _ _ h2.lo e2 (by decide)), h3.move hi (hk bb _ _ h3.lo e3 (by decide))⟩
theorem FE.lower {w B B' cs f} (h : FE w B cs f) (hB : B' <= B) : FE w B' cs f := by
 obtain ⟨a, k, vb, vc, bb, bc, e, h1, h2, h3⟩ := h.out
 exact ⟨a, k, vb, vc, bb, bc, e, h1.lower hB, h2.lower hB, h3.lower hB⟩
theorem FE.below {w w' : World} {B cs f} (h : FE w B cs f) (hb : Below w.heap.size w w') : FE w' B cs f := h.move fun b cs t _ e _ => hb.block b (gl e)
structure LM (w : World) (B b c : Nat) (FS : List Fu) : Prop where
 lo : B <= b
 le : FS.length + 1 <= c
 mx : c <= 9223372036854775807
 row : ∃ xs : List (List Value), xs.length = FS.length /\ (∀ i (h : i < FS.length) (h' : i < xs.length), FE w B xs[i] FS[i]) /\ ∀ i (h : i < xs.length) r u, r < 5 -> (xs[i])[r]? = some u -> w.cell? ⟨b, i * 5 + r, none⟩ = some u
 ty : ∃ cs, w.heap[b]? = some (.cells cs 38 (0, 0)) /\ (FS.length + 1) * 5 <= cs.size
 mark : w.cell? ⟨b, FS.length * 5, none⟩ = some (.string ⟨#[109, 97, 114, 107]⟩)
theorem LM.lt {w B b c N} (h : LM w B b c N) : b < w.heap.size := by obtain ⟨cs, e, _⟩ := h.ty; exact (gl e)
theorem LM.fus {w B b c FS} (h : LM w B b c FS) : Fus w (some ⟨b, 0, none⟩) c FS := ⟨by have := h.le; omega, h.mx, fun _ => ⟨b, 0, rfl, h.lt, fun i hi => by
 obtain ⟨xs, hl, hE, hc⟩ := h.row
 obtain ⟨a, k, vb, vc, bb, bc, e, h1, h2, h3⟩ := (hE i hi (by omega)).out
 have hc' := hc i (by omega)
 rw [e] at hc'
 have c0 := hc' 0 _ (by omega) rfl
 have c1 := hc' 1 _ (by omega) rfl
 have c2 := hc' 2 _ (by omega) rfl
 have c3 := hc' 3 _ (by omega) rfl
 have c4 := hc' 4 _ (by omega) rfl
 exact ⟨a, k, some ⟨vb, 0, none⟩, vc, some ⟨bb, 0, none⟩, bc, by simpa using c0, by simpa using c1, by simpa using c2, by simpa using c3, by simpa using c4, h1.ints, h2.vls, h3.bks⟩⟩⟩
theorem LM.below {w w' : World} {B b c FS} (h : LM w B b c FS) (hb : Below w.heap.size w w') : LM w' B b c FS := by
 have hv := hb.block b h.lt
 have hc : ∀ q, w'.cell? ⟨b, q, none⟩ = w.cell? ⟨b, q, none⟩ := fun q => World.cell?_of_block (w := w) hv
 obtain ⟨xs, hl, hE, hx⟩ := h.row
 obtain ⟨cs, e, hs⟩ := h.ty
 exact ⟨h.lo, h.le, h.mx, ⟨xs, hl, fun i hi hi' => (hE i hi hi').below hb, fun i hi r u hr hu => (hc _).trans (hx i hi r u hr hu)⟩, ⟨cs, hv.trans e, hs⟩, (hc _).trans h.mark⟩
theorem IM.of_own {w : World} {B B' : Nat} {v : Value} {n : Nat} {L : List Int} (h : OwnI w B v (n + 2) (L ++ [-71, -72])) (hB : B' <= B) : ∃ b c, v = .slice (some ⟨b, 0, none⟩) (n + 2) c /\ n + 2 <= c /\ c <= 9223372036854775807 /\ IM w B' (some ⟨b, 0, none⟩) c L := by
 obtain ⟨g, c, rfl, h1, h2, h3, h4⟩ := own_some h.out (by omega)
 obtain ⟨a', c', e, hI⟩ := h.ints
 cases e
 refine ⟨g, c, rfl, h1, h2, hI, ?_⟩
 rcases h.out.2 with ⟨q, _⟩ | ⟨g2, cap, cur, q, _, p3, _⟩
 ·cases q
 ·cases q
  exact ⟨g, cur, rfl, by omega, p3⟩
set_option maxRecDepth 100000 in
set_option maxHeartbeats 2000000 in
theorem room_any (w : World) {la : Option Addr} {n lc : Nat} {L : List Int} (hL : Ints w la lc L) (hn : n = L.length) (hsz : n <= 10000000) :
 Calls Tryz.prog 17 #[.slice la n lc] w fun e w' => ∃ xa xc, e = .returned (.slice xa n xc) /\ IM w' w.heap.size xa xc L /\ Below w.heap.size w w' := by
 have HL : Hid (Ints w la lc L) := hL
 have HN : Hid (n = L.length) := hn
 clear hL hn
 go_enter Tryz.func17, Tryz.ntmps17
 go_wp2_with (first
  | (at_builtin; refine wpList_append_twoW (w0 := w1) (by rfl) _ _ rfl w.heap.size (.slice a1 n c1) n L (-71) (-72) rfl HO1.out rfl (by omega) hB1 ?_; intro v2 w2 h2 g2
     obtain ⟨b2, c2, e2, hc2, hc3, hM⟩ := IM.of_own h2 (Nat.le_refl _)
     subst e2
     have HM : Hid _ := hM
     have HB2 : Hid (Below w.heap.size w w2) := HB1.out.trans g2.bel
     clear h2 g2 hM)
  | (at_builtin; refine wpList_step fun K hK => ?_; refine step_append_manyG rfl _ _ rfl w.heap.size (.slice none 0 0) 0 [] rfl (OwnI.nil _ _) la n lc L rfl HN.out HL.out (by omega) (Nat.le_refl _) ?_; intro v1 w1 h1 g1; refine hK _ _ ?_; clear hK
     rw [Nat.zero_add, List.nil_append] at h1
     obtain ⟨a1, c1, e1, _, _⟩ := own_slice h1.out
     subst e1
     have HO1 : Hid _ := h1
     have HB1 : Hid (Below w.heap.size w w1) := g1.bel
     have hB1 : w.heap.size <= w1.heap.size := g1.size
     clear h1 g1))
 go_ret
 exact ⟨_, _, rfl, HM.out, HB2.out⟩
theorem blk_type {w : World} {a b : Nat} {ca cb : Array Value} {ta tb : TypeId} {fa fb : Nat × Nat} (ha : w.heap[a]? = some (.cells ca ta fa)) (hb : w.heap[b]? = some (.cells cb tb fb)) (hne : ta ≠ tb) : a ≠ b := by
 rintro rfl
 rw [ha] at hb
 simp only [Option.some.injEq, Obj.cells.injEq] at hb
 exact hne hb.2.1
structure LV2 (wr wq : World) (A : Array Value) (gb : Nat) (s : ByteArray) (pa : Option Addr) (pn pc : Nat) (r : Int) (vv : Value) (ys : List (List Value)) (f : Fu) (k : Nat) : Prop where
 box : wq.heap[gb]? = some (.cells #[.string s, .slice pa pn pc, .int .i64 r, vv, .slice none 0 0] 38 (0, 0))
 src : wq.heap[wr.heap.size]? = some (.cells A 38 (0, 0))
 lo : wr.heap.size < gb
 row : Row wq wr.heap.size 42 4 vv ys
 len : ys.length = k
 el : ∀ i (h : i < ys.length) (h' : i < f.vals.length), VE wq wr.heap.size ys[i] f.vals[i]
 par : IM wq wr.heap.size pa pc f.params
 bel : Below wr.heap.size wr wq
structure LB2 (wr wq : World) (A : Array Value) (gb : Nat) (s : ByteArray) (pa : Option Addr) (pn pc : Nat) (r : Int) (vb vn vc : Nat) (bv : Value) (ys : List (List Value)) (f : Fu) (k : Nat) : Prop where
 box : wq.heap[gb]? = some (.cells #[.string s, .slice pa pn pc, .int .i64 r, .slice (some ⟨vb, 0, none⟩) vn vc, bv] 38 (0, 0))
 src : wq.heap[wr.heap.size]? = some (.cells A 38 (0, 0))
 lo : wr.heap.size < gb
 row : Row wq wr.heap.size 46 6 bv ys
 len : ys.length = k
 el : ∀ i (h : i < ys.length) (h' : i < f.blks.length), BE wq wr.heap.size ys[i] f.blks[i]
 par : IM wq wr.heap.size pa pc f.params
 vm : VM wq wr.heap.size vb vc f.vals
 bel : Below wr.heap.size wr wq
theorem LV2.keep {wr wq w' : World} {A gb s pa pn pc r vv ys f k} (h : LV2 wr wq A gb s pa pn pc r vv ys f k) (hb : Below wq.heap.size wq w') : LV2 wr w' A gb s pa pn pc r vv ys f k :=
 ⟨(hb.block _ (gl h.box)).trans h.box, (hb.block _ (gl h.src)).trans h.src, h.lo, h.row.keep hb, h.len, fun i hi hi' => (h.el i hi hi').move fun b cs _ e => hb.block b (gl e), h.par.below hb, h.bel.trans (hb.mono h.bel.size)⟩
theorem LB2.keep {wr wq w' : World} {A gb s pa pn pc r vb vn vc bv ys f k} (h : LB2 wr wq A gb s pa pn pc r vb vn vc bv ys f k) (hb : Below wq.heap.size wq w') : LB2 wr w' A gb s pa pn pc r vb vn vc bv ys f k := by
 have hi : ∀ b cs, wr.heap.size <= b -> wq.heap[b]? = some (.cells cs 3 (0, 0)) -> w'.heap[b]? = wq.heap[b]? := fun b cs _ e => hb.block b (gl e)
 exact ⟨(hb.block _ (gl h.box)).trans h.box, (hb.block _ (gl h.src)).trans h.src, h.lo, h.row.keep hb, h.len, fun i hi1 hi' => (h.el i hi1 hi').move hi, h.par.below hb, h.vm.move hi (hb.block _ h.vm.lt), h.bel.trans (hb.mono h.bel.size)⟩
theorem put_other {wr wq w2 : World} {e : TypeId} {z : Nat} {v v2 : Value} {xs : List (List Value)} {A : Array Value} {gb : Nat} {o : Nat} (hrow : Row wq wr.heap.size e z v xs) (g2 : GI wr.heap.size wq w2 v v2) (hbox : wq.heap[gb]? = some (.cells A 38 (0, 0))) {b : Nat} {cs : Array Value} {t : TypeId} (hb : wq.heap[b]? = some (.cells cs t (0, 0))) (h1 : e ≠ t) (h2 : t ≠ 38 \/ b ≠ gb) :
 (w2.setCell ⟨gb, o, none⟩ v2).heap[b]? = wq.heap[b]? := by
 have hne : b ≠ gb := by
  rcases h2 with q | q
  ·exact blk_type hb hbox q
  ·exact q
 rw [heap_set_other hne, g2.blk b (gl hb) (own_not hrow.out hb h1)]
theorem row_set_other {w : World} {B e z v xs} {gb o : Nat} {A : Array Value} {u : Value} (h : Row w B e z v xs) (hbox : w.heap[gb]? = some (.cells A 38 (0, 0))) (hne : e ≠ 38) : Row (w.setCell ⟨gb, o, none⟩ u) B e z v xs := h.move fun g hg => heap_set_other fun q => own_not h.out hbox hne (q ▸ hg)
theorem LV2.more {wr wq w2 : World} {A gb s pa pn pc r vv ys f k} {vv2 : Value} {cs : List Value} (h : LV2 wr wq A gb s pa pn pc r vv ys f k) (hk : k < f.vals.length) (hR : Row w2 wr.heap.size 42 4 vv2 (ys ++ [cs])) (g2 : GI wr.heap.size wq w2 vv vv2) (hE : VE wq wr.heap.size cs f.vals[k]) :
 LV2 wr (w2.setCell ⟨gb, 3, none⟩ vv2) A gb s pa pn pc r vv2 (ys ++ [cs]) f (k + 1) := by
 have hb2 : w2.heap[gb]? = wq.heap[gb]? := g2.blk gb (gl h.box) (own_not h.row.out h.box (by decide))
 have hi : ∀ b cs, wr.heap.size <= b -> wq.heap[b]? = some (.cells cs 3 (0, 0)) -> (w2.setCell ⟨gb, 3, none⟩ vv2).heap[b]? = wq.heap[b]? := fun b cs _ e => put_other h.row g2 h.box e (by decide) (.inl (by decide))
 refine ⟨?_, (put_other h.row g2 h.box h.src (by decide) (.inr (by have := h.lo; omega))).trans h.src, h.lo, row_set_other hR (hb2.trans h.box) (by decide), by simp [h.len], fun i h1 h2 => ?_, h.par.move hi, (h.bel.trans g2.bel).setCell (by show wr.heap.size <= gb; have := h.lo; omega) _⟩
 ·have := heap_set_at (i := 3) (v := vv2) (hb2.trans h.box)
  rw [this]; rfl
 ·by_cases q : i < ys.length
  ·rw [List.getElem_append_left q]
   exact (h.el i q h2).move hi
  ·have e : i = k := by simp at h1; have := h.len; omega
   subst e
   rw [List.getElem_append_right (by omega)]
   have e2 : [cs][i - ys.length]'(by simp at h1 ⊢; omega) = cs := by simp
   rw [e2]
   exact hE.move hi
theorem LB2.more {wr wq w2 : World} {A gb s pa pn pc r vb vn vc bv ys f k} {vv2 : Value} {cs : List Value} (h : LB2 wr wq A gb s pa pn pc r vb vn vc bv ys f k) (hk : k < f.blks.length) (hR : Row w2 wr.heap.size 46 6 vv2 (ys ++ [cs])) (g2 : GI wr.heap.size wq w2 bv vv2) (hE : BE wq wr.heap.size cs f.blks[k]) :
 LB2 wr (w2.setCell ⟨gb, 4, none⟩ vv2) A gb s pa pn pc r vb vn vc vv2 (ys ++ [cs]) f (k + 1) := by
 have hb2 : w2.heap[gb]? = wq.heap[gb]? := g2.blk gb (gl h.box) (own_not h.row.out h.box (by decide))
 have hi : ∀ b cs, wr.heap.size <= b -> wq.heap[b]? = some (.cells cs 3 (0, 0)) -> (w2.setCell ⟨gb, 4, none⟩ vv2).heap[b]? = wq.heap[b]? := fun b cs _ e => put_other h.row g2 h.box e (by decide) (.inl (by decide))
 obtain ⟨vcs, hvcs⟩ := h.vm.ty
 refine ⟨?_, (put_other h.row g2 h.box h.src (by decide) (.inr (by have := h.lo; omega))).trans h.src, h.lo, row_set_other hR (hb2.trans h.box) (by decide), by simp [h.len], fun i h1 h2 => ?_, h.par.move hi, h.vm.move hi (put_other h.row g2 h.box hvcs (by decide) (.inl (by decide))), (h.bel.trans g2.bel).setCell (by show wr.heap.size <= gb; have := h.lo; omega) _⟩
 ·have := heap_set_at (i := 4) (v := vv2) (hb2.trans h.box)
  rw [this]; rfl
 ·by_cases q : i < ys.length
  ·rw [List.getElem_append_left q]
   exact (h.el i q h2).move hi
  ·have e : i = k := by simp at h1; have := h.len; omega
   subst e
   rw [List.getElem_append_right (by omega)]
   have e2 : [cs][i - ys.length]'(by simp at h1 ⊢; omega) = cs := by simp
   rw [e2]
   exact hE.move hi
theorem LV2.done {wr wq w2 : World} {A gb s pa pn pc r vv ys f} {vv2 : Value} (h : LV2 wr wq A gb s pa pn pc r vv ys f f.vals.length) (hR : Row w2 wr.heap.size 42 4 vv2 (ys ++ [[.int .i64 (-71), .int .i64 0, .int .i64 0, .slice none 0 0]])) (g2 : GI wr.heap.size wq w2 vv vv2) :
 ∃ vb vc, vv2 = .slice (some ⟨vb, 0, none⟩) (f.vals.length + 1) vc /\ f.vals.length + 1 <= vc /\ vc <= 9223372036854775807 /\ LB2 wr (w2.setCell ⟨gb, 3, none⟩ (.slice (some ⟨vb, 0, none⟩) f.vals.length vc)) A gb s pa pn pc r vb f.vals.length vc (.slice none 0 0) [] f 0 := by
 have hb2 : w2.heap[gb]? = wq.heap[gb]? := g2.blk gb (gl h.box) (own_not h.row.out h.box (by decide))
 have hi0 : ∀ b cs, wr.heap.size <= b -> wq.heap[b]? = some (.cells cs 3 (0, 0)) -> w2.heap[b]? = wq.heap[b]? := fun b cs _ e => g2.blk b (gl e) (own_not h.row.out e (by decide))
 obtain ⟨vb, vc, rfl, hV⟩ := VM.of_row hR h.len fun i h1 h2 => (h.el i h2 h1).move hi0
 refine ⟨vb, vc, rfl, hV.le, hV.mx, ?_⟩
 obtain ⟨vcs, hvcs⟩ := hV.ty
 have hbx := hb2.trans h.box
 have hi1 : ∀ b cs, wr.heap.size <= b -> w2.heap[b]? = some (.cells cs 3 (0, 0)) -> (w2.setCell ⟨gb, 3, none⟩ (.slice (some ⟨vb, 0, none⟩) f.vals.length vc)).heap[b]? = w2.heap[b]? := fun b cs _ e => heap_set_other (blk_type e hbx (by decide))
 refine ⟨?_, ?_, h.lo, Row.nil _ _ _ _, rfl, fun i h1 => by simp at h1, (h.par.move hi0).move hi1, hV.move hi1 (heap_set_other (blk_type hvcs hbx (by decide))), (h.bel.trans g2.bel).setCell (by show wr.heap.size <= gb; have := h.lo; omega) _⟩
 ·have := heap_set_at (i := 3) (v := .slice (some ⟨vb, 0, none⟩) f.vals.length vc) hbx
  rw [this]; rfl
 ·rw [heap_set_other (by have := h.lo; omega), g2.blk _ (gl h.src) (own_not h.row.out h.src (by decide))]
  exact h.src
structure LF2 (wr wq : World) (A : Array Value) (gb : Nat) (cs : List Value) (f : Fu) : Prop where
 box : wq.heap[gb]? = some (.cells cs.toArray 38 (0, 0))
 fe : FE wq wr.heap.size cs f
 lo : wr.heap.size < gb
 bel : Below wr.heap.size wr wq
theorem LB2.done {wr wq w2 : World} {A gb pa pc vb vc bv ys f} {vv2 : Value} (h : LB2 wr wq A gb f.name pa f.params.length pc f.result vb f.vals.length vc bv ys f f.blks.length) (hR : Row w2 wr.heap.size 46 6 vv2 (ys ++ [[.slice none 0 0, .slice none 0 0, .int .i64 (-71), .int .i64 0, .slice none 0 0, .slice none 0 0]])) (g2 : GI wr.heap.size wq w2 bv vv2) :
 ∃ bb bc, vv2 = .slice (some ⟨bb, 0, none⟩) (f.blks.length + 1) bc /\ f.blks.length + 1 <= bc /\ bc <= 9223372036854775807 /\ LF2 wr (w2.setCell ⟨gb, 4, none⟩ (.slice (some ⟨bb, 0, none⟩) f.blks.length bc)) A gb [.string f.name, .slice pa f.params.length pc, .int .i64 f.result, .slice (some ⟨vb, 0, none⟩) f.vals.length vc, .slice (some ⟨bb, 0, none⟩) f.blks.length bc] f := by
 have hb2 : w2.heap[gb]? = wq.heap[gb]? := g2.blk gb (gl h.box) (own_not h.row.out h.box (by decide))
 have hi0 : ∀ b cs, wr.heap.size <= b -> wq.heap[b]? = some (.cells cs 3 (0, 0)) -> w2.heap[b]? = wq.heap[b]? := fun b cs _ e => g2.blk b (gl e) (own_not h.row.out e (by decide))
 obtain ⟨bb, bc, rfl, hV⟩ := BM.of_row hR h.len fun i h1 h2 => (h.el i h2 h1).move hi0
 refine ⟨bb, bc, rfl, hV.le, hV.mx, ?_⟩
 obtain ⟨bcs, hbcs⟩ := hV.ty
 obtain ⟨vcs, hvcs⟩ := h.vm.ty
 have hbx := hb2.trans h.box
 have hvc2 : w2.heap[vb]? = wq.heap[vb]? := g2.blk vb h.vm.lt (own_not h.row.out hvcs (by decide))
 have hi1 : ∀ b cs, wr.heap.size <= b -> w2.heap[b]? = some (.cells cs 3 (0, 0)) -> (w2.setCell ⟨gb, 4, none⟩ (.slice (some ⟨bb, 0, none⟩) f.blks.length bc)).heap[b]? = w2.heap[b]? := fun b cs _ e => heap_set_other (blk_type e hbx (by decide))
 refine ⟨?_, ⟨pa, pc, vb, vc, bb, bc, rfl, (h.par.move hi0).move hi1, (h.vm.move hi0 hvc2).move hi1 (heap_set_other (blk_type (hvc2.trans hvcs) hbx (by decide))), hV.move hi1 (heap_set_other (blk_type hbcs hbx (by decide)))⟩, h.lo, (h.bel.trans g2.bel).setCell (by show wr.heap.size <= gb; have := h.lo; omega) _⟩
 have := heap_set_at (i := 4) (v := .slice (some ⟨bb, 0, none⟩) f.blks.length bc) hbx
 rw [this]; rfl
structure LO (w wr : World) (fa : Option Addr) (fn fc : Nat) (mn : Int) (lv : Value) (xs : List (List Value)) (FS : List Fu) (k : Nat) : Prop where
 src : wr.heap[w.heap.size]? = some (.cells #[.slice fa fn fc, .int .i64 mn] 24 (0, 0))
 box : wr.heap[w.heap.size + 1]? = some (.cells #[lv, .int .i64 0] 32 (0, 0))
 row : Row wr w.heap.size 38 5 lv xs
 len : xs.length = k
 el : ∀ i (h : i < xs.length) (h' : i < FS.length), FE wr w.heap.size xs[i] FS[i]
 bel : Below w.heap.size w wr
theorem LO.keep {w wr w' : World} {fa fn fc mn lv xs FS k} (h : LO w wr fa fn fc mn lv xs FS k) (hb : Below wr.heap.size wr w') : LO w w' fa fn fc mn lv xs FS k :=
 ⟨(hb.block _ (gl h.src)).trans h.src, (hb.block _ (gl h.box)).trans h.box, h.row.keep hb, h.len, fun i hi hi' => (h.el i hi hi').below hb, h.bel.trans (hb.mono h.bel.size)⟩
theorem LO.more {w wq w2 : World} {fa fn fc mn lv xs FS k lv2 cs} (h : LO w wq fa fn fc mn lv xs FS k) (hk : k < FS.length) (hR : Row w2 w.heap.size 38 5 lv2 (xs ++ [cs])) (g2 : GI w.heap.size wq w2 lv lv2) (hE : FE wq w.heap.size cs FS[k]) :
 LO w (w2.setCell ⟨w.heap.size + 1, 0, none⟩ lv2) fa fn fc mn lv2 (xs ++ [cs]) FS (k + 1) := by
 have hbx : w2.heap[w.heap.size + 1]? = wq.heap[w.heap.size + 1]? := g2.blk _ (gl h.box) (own_not h.row.out h.box (by decide))
 have ht : ∀ b cs t, w.heap.size <= b -> wq.heap[b]? = some (.cells cs t (0, 0)) -> t ≠ 38 -> t ≠ 32 -> (w2.setCell ⟨w.heap.size + 1, 0, none⟩ lv2).heap[b]? = wq.heap[b]? := fun b cs t _ e h1 h2 => by
  rw [heap_set_other (blk_type e h.box h2), g2.blk b (gl e) (own_not h.row.out e (fun q => h1 q.symm))]
 have hF : ∀ {cs f}, FE wq w.heap.size cs f -> FE (w2.setCell ⟨w.heap.size + 1, 0, none⟩ lv2) w.heap.size cs f := fun {cs f} hf => by
  obtain ⟨a, k, vb, vc, bb, bc, e, h1, h2, h3⟩ := hf.out
  obtain ⟨c2, e2⟩ := h2.ty
  obtain ⟨c3, e3⟩ := h3.ty
  have hi : ∀ b cs, w.heap.size <= b -> wq.heap[b]? = some (.cells cs 3 (0, 0)) -> (w2.setCell ⟨w.heap.size + 1, 0, none⟩ lv2).heap[b]? = wq.heap[b]? := fun b cs hb he => ht b cs _ hb he (by decide) (by decide)
  exact ⟨a, k, vb, vc, bb, bc, e, h1.move hi, h2.move hi (ht vb _ _ h2.lo e2 (by decide) (by decide)), h3.move hi (ht bb _ _ h3.lo e3 (by decide) (by decide))⟩
 refine ⟨(ht _ _ _ (Nat.le_refl _) h.src (by decide) (by decide)).trans h.src, ?_, hR.move fun g hg => heap_set_other fun q => own_not hR.out (hbx.trans h.box) (by decide) (q ▸ hg), by simp [h.len], fun i h1 h2 => ?_, (h.bel.trans g2.bel).setCell (by show w.heap.size <= w.heap.size + 1; omega) _⟩
 ·have := heap_set_at (i := 0) (v := lv2) (hbx.trans h.box)
  rw [this]; rfl
 ·by_cases q : i < xs.length
  ·rw [List.getElem_append_left q]
   exact hF (h.el i q h2)
  ·have e : i = k := by simp at h1; have := h.len; omega
   subst e
   rw [List.getElem_append_right (by omega)]
   have e2 : [cs][i - xs.length]'(by simp at h1 ⊢; omega) = cs := by simp
   rw [e2]
   exact hF hE
theorem LO.done {w wq w2 : World} {fa fn fc mn lv xs FS lv2} (h : LO w wq fa fn fc mn lv xs FS FS.length) (hR : Row w2 w.heap.size 38 5 lv2 (xs ++ [[.string ⟨#[109, 97, 114, 107]⟩, .slice none 0 0, .int .i64 0, .slice none 0 0, .slice none 0 0]])) (g2 : GI w.heap.size wq w2 lv lv2) :
 ∃ b c, lv2 = .slice (some ⟨b, 0, none⟩) (FS.length + 1) c /\ FS.length + 1 <= c /\ c <= 9223372036854775807 /\ LM ((w2.setCell ⟨w.heap.size + 1, 0, none⟩ (.slice (some ⟨b, 0, none⟩) FS.length c)).setCell ⟨w.heap.size + 1, 1, none⟩ (.int .i64 mn)) w.heap.size b c FS /\ ((w2.setCell ⟨w.heap.size + 1, 0, none⟩ (.slice (some ⟨b, 0, none⟩) FS.length c)).setCell ⟨w.heap.size + 1, 1, none⟩ (.int .i64 mn)).heap[w.heap.size + 1]? = some (.cells #[.slice (some ⟨b, 0, none⟩) FS.length c, .int .i64 mn] 32 (0, 0)) /\ Below w.heap.size w ((w2.setCell ⟨w.heap.size + 1, 0, none⟩ (.slice (some ⟨b, 0, none⟩) FS.length c)).setCell ⟨w.heap.size + 1, 1, none⟩ (.int .i64 mn)) /\ w2.heap[w.heap.size]? = some (.cells #[.slice fa fn fc, .int .i64 mn] 24 (0, 0)) /\ w2.heap[w.heap.size + 1]? = some (.cells #[lv, .int .i64 0] 32 (0, 0)) := by
 have hbx : w2.heap[w.heap.size + 1]? = wq.heap[w.heap.size + 1]? := g2.blk _ (gl h.box) (own_not h.row.out h.box (by decide))
 have hsx : w2.heap[w.heap.size]? = wq.heap[w.heap.size]? := g2.blk _ (gl h.src) (own_not h.row.out h.src (by decide))
 have hn : (xs ++ [[Value.string ⟨#[109, 97, 114, 107]⟩, .slice none 0 0, .int .i64 0, .slice none 0 0, .slice none 0 0]]).length = FS.length + 1 := by simp [h.len]
 obtain ⟨b, c, cs, rfl, h1, h2, h3, h4⟩ := hR.some (by simp)
 have hnb : b ≠ w.heap.size + 1 := blk_type h4 (hbx.trans h.box) (by decide)
 have hcell : ∀ q u, w2.cell? ⟨b, q, none⟩ = some u -> ((w2.setCell ⟨w.heap.size + 1, 0, none⟩ (.slice (some ⟨b, 0, none⟩) FS.length c)).setCell ⟨w.heap.size + 1, 1, none⟩ (.int .i64 mn)).cell? ⟨b, q, none⟩ = some u := fun q u hu => by
  rw [<- hu]
  exact World.cell?_of_block (w := w2) ((heap_set_other hnb).trans (heap_set_other hnb))
 have hcs : (FS.length + 1) * 5 <= cs.size := by
  rcases hR.out.2 with ⟨q, _⟩ | ⟨g2', cap, cur, q, _, p3, p4, p5, p6, p7⟩
  ·cases q
  ·cases q
   rw [h4] at p3
   simp only [Option.some.injEq, Obj.cells.injEq] at p3
   obtain ⟨rfl, _⟩ := p3
   have := own_cell hR.out ((FS.length + 1) * 5 - 1) (by rw [hn]; omega)
   have hlt : ((FS.length + 1) * 5 - 1) < (xs ++ [[Value.string ⟨#[109, 97, 114, 107]⟩, .slice none 0 0, .int .i64 0, .slice none 0 0, .slice none 0 0]]).flatten.length := by rw [flat_len _ hR.len, hn]; omega
   rw [List.getElem?_eq_getElem hlt] at this
   simp only [World.cell?, h4] at this
   have := (gl this)
   omega
 have ht : ∀ b' cs t, w.heap.size <= b' -> wq.heap[b']? = some (.cells cs t (0, 0)) -> t ≠ 38 -> t ≠ 32 -> ((w2.setCell ⟨w.heap.size + 1, 0, none⟩ (.slice (some ⟨b, 0, none⟩) FS.length c)).setCell ⟨w.heap.size + 1, 1, none⟩ (.int .i64 mn)).heap[b']? = wq.heap[b']? := fun b' cs t _ e h1 h2 => by
  rw [heap_set_other (blk_type e h.box h2), heap_set_other (blk_type e h.box h2), g2.blk b' (gl e) (own_not h.row.out e (fun q => h1 q.symm))]
 refine ⟨b, c, by rw [hn], by omega, h2, ⟨h3, by omega, h2, ⟨xs, h.len, fun i hi hi' => ?_, fun i hi r u hr hu => hcell _ _ (hR.cell rfl (by simp; omega) hr (by rw [List.getElem_append_left hi]; exact hu))⟩, ⟨cs, (heap_set_other hnb).trans ((heap_set_other hnb).trans h4), hcs⟩, ?_⟩, ?_, ?_, hsx.trans h.src, hbx.trans h.box⟩
 ·obtain ⟨a, k, vb, vc, bb, bc, e, q1, q2, q3⟩ := (h.el i hi' hi).out
  obtain ⟨c2, e2⟩ := q2.ty
  obtain ⟨c3, e3⟩ := q3.ty
  have hi : ∀ b' cs, w.heap.size <= b' -> wq.heap[b']? = some (.cells cs 3 (0, 0)) -> _ := fun b' cs hb he => ht b' cs _ hb he (by decide) (by decide)
  exact ⟨a, k, vb, vc, bb, bc, e, q1.move hi, q2.move hi (ht vb _ _ q2.lo e2 (by decide) (by decide)), q3.move hi (ht bb _ _ q3.lo e3 (by decide) (by decide))⟩
 ·have := hR.cell rfl (i := xs.length) (by simp) (r := 0) (by omega) (u := .string ⟨#[109, 97, 114, 107]⟩) (by simp)
  rw [h.len] at this
  exact hcell _ _ this
 ·have e1 := heap_set_at (i := 0) (v := .slice (some ⟨b, 0, none⟩) FS.length c) (hbx.trans h.box)
  have e2 := heap_set_at (i := 1) (v := .int .i64 mn) e1
  rw [e2]; rfl
 ·exact ((h.bel.trans g2.bel).setCell (by show w.heap.size <= w.heap.size + 1; omega) _).setCell (by show w.heap.size <= w.heap.size + 1; omega) _
end Go.Proofs.YtdbkjjelaipcfaaGreatDoor
