import Derived.Test.YtjepkcebfojiaaaDoorLyQ
import Derived.Test.YtjepkcebfojiaaaDoorLyN
import Derived.Test.YtjepkcebfojiaaaDoorLyD
import Derived.Deep.RegionHeldLaw
import Derived.Test.YtjepkcebfojiaaaDoorLyP
set_option linter.unusedVariables false
set_option linter.unusedSimpArgs false
namespace Go.Proofs.YtjepkcebfojiaaaDoor
open Go.ChangeShapes Go.WideShapes Go.ChangeAt Go.RowKit

theorem CN.kidAt {w : World} {B g c n P} (h : CN w B (.slice (some ⟨g, 0, none⟩) n c) n P) (m : Nat) (hm : m < P.length) : w.cell? ⟨g, m * 10 + 9, none⟩ = some (P[m]).2 := by
  have hl := h.len
  rcases h.own.2 with ⟨e, _⟩ | ⟨g', cap, cur, e, e2, e3, e4, e5, e6, e7⟩
  · cases e
  · cases e
    have h1 := ncs_at P m hm 9 (by omega)
    rw [← e7, List.getElem?_take, if_pos (by omega)] at h1
    have : cur[m * 10 + 9]? = some (P[m]).2 := by
      rw [show (nc (P[m]).1 (P[m]).2)[9]? = some (P[m]).2 from rfl] at h1
      rw [← h1]
      simp
    simp [World.cell?, e3, this]
theorem OwnI.set_other {w : World} {B fv fn F} (h : OwnI w B fv fn F) {g : Nat} (hne : fv.ownBlock ≠ some g) (j : Nat) (u : Value) : OwnI (w.setCell ⟨g, j, none⟩ u) B fv fn F :=
  ⟨h.len, own_move h.out fun b hb => heap_set_other fun e => hne (by rw [← e]; exact hb)⟩
/-- A row lies not in a block of another type. -/
theorem own_not {w : World} {B e s v n M} (h : w.ownsRow B e s v n M) {ub : Nat} {c : Array Value} {t : TypeId} {f : Nat × Nat} (hb : w.heap[ub]? = some (.cells c t f)) (hne : e ≠ t) : v.ownBlock ≠ some ub := by
  intro hg
  rcases h.2 with ⟨rfl, _⟩ | ⟨g1, _, _, rfl, _, e3, _⟩
  · simp [Value.ownBlock] at hg
  · simp [Value.ownBlock] at hg
    subst hg
    rw [e3] at hb
    simp at hb
    exact hne hb.2.1

theorem CM.setBox {w : World} {B v n P} (h : CM w B v n P) {ub : Nat} {c : Array Value} {f : Nat × Nat} (hb : w.heap[ub]? = some (.cells c 25 f)) (j : Nat) (u : Value) : CM (w.setCell ⟨ub, j, none⟩ u) B v n P :=
  ⟨h.len, own_move h.own fun g hg => heap_set_other fun e => own_not h.own hb (by decide) (by rw [← e]; exact hg), fun p hp => ⟨(h.kid p hp).len, own_move (h.kid p hp).out fun g hg => heap_set_other fun e => own_not (h.kid p hp).out hb (by decide) (by rw [← e]; exact hg)⟩⟩
/-- A node more. -/
theorem CN.add0 {w w6 : World} {B g c n P v6} {C : Array Value} {t : TypeId} (h : CN w B (.slice (some ⟨g, 0, none⟩) n c) n P) (nd : Nd) (hk : nd.kids = []) (h6 : w6.ownsRow B 39 10 v6 (n + 1) (ncs (P ++ [(nd, .slice none 0 0)]))) (hG : (w.alloc (.cells C t)).grownBy w6 (some g)) : CM w6 B v6 (n + 1) (P ++ [(nd, .slice none 0 0)]) := by
  refine ⟨by simp; exact h.len, h6, fun p hp => ?_⟩
  rcases List.mem_append.1 hp with hp | hp
  · refine ⟨(h.kid p hp).len, own_move (h.kid p hp).out fun b hb => ?_⟩
    have hlt := (own_block (h.kid p hp).out hb).2
    rw [grown_at hG (by simp; omega) (fun e => own_apart (h.kid p hp).out h.own (by decide) b hb (by rw [← e]; rfl)), heap_alloc_old _ _ hlt]
  · simp at hp
    subst hp
    show OwnI w6 B (.slice none 0 0) nd.kids.length nd.kids
    rw [hk]
    exact OwnI.nil _ _
theorem check_no (w : World) (hTab : Tab w) {B B' n fn : Nat} {va fa : Option Addr} {vc fcc : Nat} {P : List (Nd × Value)} {F : List Int} (hM : CM w B (.slice va n vc) n P) (hF : OwnI w B' (.slice fa fn fcc) fn F) (hn : n ≤ 1000000000) (hc : chk ⟨P.map Prod.fst, F⟩ = false) :
    Calls Tryd.prog 15 #[.agg #[.slice va n vc, .slice fa fn fcc]] w fun e w' => e = .returned (.int .i64 30) ∧ Below w.heap.size w w' := by
  obtain ⟨a, c, e, hN⟩ := hM.nodes
  cases e
  obtain ⟨a2, c2, e2, _, _, hI, _⟩ := hF.view
  cases e2
  refine (check_any w hTab va vc n fa fcc fn ⟨P.map Prod.fst, F⟩ (by simp; exact hM.len) hF.len hN hI hn).mono ?_
  rintro e w' ⟨rfl, hb⟩
  rw [hc]
  exact ⟨rfl, hb⟩
theorem OwnI.grown0 {w w6 : World} {B fv fn F g} {ob : Obj} (h : OwnI w B fv fn F) (hG : (w.alloc ob).grownBy w6 (some g)) (hne : fv.ownBlock ≠ some g) : OwnI w6 B fv fn F :=
  ⟨h.len, own_move h.out fun b hb => by rw [grown_at hG (by simp; have := (own_block h.out hb).2; omega) (fun e => hne (by rw [e]; exact hb)), heap_alloc_old _ _ (own_block h.out hb).2]⟩
theorem CM.drew {w : World} {B v n P} (h : CM w B v n P) : CM w.drew B v n P := ⟨h.len, own_move h.own fun _ _ => rfl, fun p hp => ⟨(h.kid p hp).len, own_move (h.kid p hp).out fun _ _ => rfl⟩⟩
theorem OwnI.drew {w : World} {B v n L} (h : OwnI w B v n L) : OwnI w.drew B v n L := ⟨h.len, own_move h.out fun _ _ => rfl⟩
/-- append(l, x) of numbers, in a statement that draws its order. -/
theorem step_append_intW {w : World} {ops : Array Oper} {op : Oper} {a : Act} {K : Act → World → Prop} {Q : Exit → Act → World → Prop} {E : Prop} (hgd : op.guard = none) (s x : Operand)
    (ho : op.op = .call { callee := .builtin .append, args := #[s, x], argTypes := #[23, 23] })
    (B : Nat) (v : Value) (n : Nat) (L : List Int) (y : Int) (hs : a.eval s = v) (hown : OwnI w B v n L) (g : Nat) (hx : a.eval x = .slice (some ⟨g, 0, none⟩) 1 1) (hc : w.cell? ⟨g, 0, none⟩ = some (.int .i64 y))
    (hl : n + 1 ≤ 17592186044416) (hB : B ≤ w.heap.size)
    (h : ∀ v' w', OwnI w' B v' (n + 1) (L ++ [y]) → w.grownBy w' v.ownBlock → (∀ kg, v.ownBlock = some kg → ∀ (q : Nat) (z : Int), L[q]? = some z → w'.cell? ⟨kg, q, none⟩ = some (.int .i64 z)) → K (a.put op.dst v') w') : if Region.wanted op (yielded ops a.tmps) = true then Oper.wp Tryd.prog op a w K Q else E := by
  have hw : Region.wanted op (yielded ops a.tmps) = true := by simp [Region.wanted, hgd]
  rw [if_pos hw]
  obtain ⟨i0, hi, hz0, hz1, hz2⟩ := info_parts info3i
  obtain ⟨v', w', hr, h2, h3, h4⟩ := run_append_where (P := Tryd.prog) (w := w) B 23 op.type 3 i0 (.int .i64 0) 1 8 Tryd.underlying23 hi hz0 hz1 hz2 rfl (by decide) v n (ivs L) hown.out ⟨g, 0, none⟩ 1 1 (by omega) [.int .i64 y] rfl (fun j u hj => by
    match j, hj with
    | 0, hj => simp at hj; subst hj; simpa [Addr.add] using hc
    | j + 1, hj => simp at hj) (fun u hu => by simp at hu; subst hu; rfl) (by unfold maxLen; omega) (by omega) hB
  unfold Oper.wp execOp
  simp only [ho, resolve, invoke, builtin, Sem.run_bind, Sem.run_pure, Result.andThen_ok, List.map_toArray, List.map_cons, List.map_nil, hs, hx, hr]
  refine h v' w' ⟨by simp; exact hown.len, by simpa [ivs] using h2⟩ h3 fun kg hkg q z hq => ?_
  have ea : ∀ b j, (⟨b, 0, none⟩ : Addr).add j = ⟨b, j, none⟩ := fun b j => by unfold Addr.add; split <;> simp_all
  have hq2 : (ivs L)[q]? = some (.int .i64 z) := by simp [ivs, hq]
  rcases h4 with ⟨g', cap, e1, e2⟩ | ⟨e1, e2⟩
  · subst e1 e2
    simp [Value.ownBlock] at hkg
    subst hkg
    have := h2.cells (g := g') rfl q (.int .i64 z) (by rw [List.getElem?_append_left (by rw [List.getElem?_eq_some_iff] at hq2; exact hq2.1)]; exact hq2)
    rwa [ea] at this
  · have := hown.out.cells hkg q _ hq2
    rw [ea] at this
    rw [World.cell?_of_block (w := w) (e2.block kg (own_block hown.out hkg).2 (by simp))]
    exact this
theorem cell_setO {w : World} {g j b q : Nat} {u v : Value} (hne : ¬ b = g) (h : w.cell? ⟨b, q, none⟩ = some v) : (w.setCell ⟨g, j, none⟩ u).cell? ⟨b, q, none⟩ = some v := by
  rw [World.cell?_of_block (w := w) (heap_set_other hne)]
  exact h
theorem cell_setI {w : World} {g j : Nat} {u : Value} (h : w.cell? ⟨g, j, none⟩ = some u) (v : Value) : (w.setCell ⟨g, j, none⟩ v).cell? ⟨g, j, none⟩ = some v := by
  exact World.cell?_setCell_same w _ _ h
theorem wrap_sum (z p : Nat) (hz : z ≤ 120000) (hp : p < 9) : IntKind.i64.wrap (IntKind.i64.wrap ((z : Int) + 1) + (p : Int)) = (z : Int) + 1 + (p : Int) := by
  rw [IntWalk.i64_in ((z : Int) + 1) (by omega), IntWalk.i64_in _ (by omega)]
theorem CM.keep {w w' : World} {B v n P} (h : CM w B v n P) (hb : Below w.heap.size w w') : CM w' B v n P := ⟨h.len, own_keep h.own hb.block, fun p hp => (h.kid p hp).keep hb⟩
theorem set_ne {L : List Int} {q : Nat} (hq : q < L.length) {y : Int} (h : ¬ y = L[q]) : L.set q y ≠ L := by
  intro e
  have h1 : (L.set q y)[q]'(by simpa using hq) = L[q] := List.getElem_of_eq e _
  simp at h1
  exact h h1
theorem slot_nat (j : Int) (k : Nat) (h : ¬ k = 0) : ∃ q : Nat, j % (k : Int) = (q : Int) ∧ q < k := by
  have h1 := Int.emod_nonneg j (show (k : Int) ≠ 0 by omega)
  have h2 := Int.emod_lt_of_pos j (show (0 : Int) < k by omega)
  exact ⟨(j % (k : Int)).toNat, by omega, by omega⟩
theorem map_set_fst {P : List (Nd × Value)} {N : List Nd} (h : P.map Prod.fst = N) (i : Nat) (nd : Nd) (kv : Value) : (P.set i (nd, kv)).map Prod.fst = N.set i nd := by
  rw [List.map_set, h]

end Go.Proofs.YtjepkcebfojiaaaDoor
namespace Go.Proofs.YtjepkcebfojiaaaDoor
open Go.ChangeShapes Go.WideShapes Go.ChangeAt Go.RowKit

theorem split_two (K : List (List Int)) (i j : Nat) (hij : i < j) (hj : j < K.length) : ∃ A B C, K = A ++ (K[i]'(by omega)) :: (B ++ K[j] :: C) ∧ A.length = i ∧ i + 1 + B.length = j := by
  refine ⟨K.take i, (K.drop (i + 1)).take (j - i - 1), K.drop (j + 1), ?_, by simp; omega, by simp; omega⟩
  have e1 : K.drop i = K[i] :: K.drop (i + 1) := List.drop_eq_getElem_cons (by omega)
  have e2 : K.drop j = K[j] :: K.drop (j + 1) := List.drop_eq_getElem_cons hj
  have e3 : (K.drop (i + 1)).drop (j - i - 1) = K.drop j := by rw [List.drop_drop]; congr 1; omega
  have e4 := (List.take_append_drop (j - i - 1) (K.drop (i + 1)))
  rw [← e2, ← e3, e4, ← e1, List.take_append_drop]
theorem sw_comm (i j x : Int) : sw i j x = sw j i x := by
  unfold sw
  by_cases h1 : x = i
  · by_cases h2 : x = j
    · rw [if_pos h1, if_pos h2]; omega
    · rw [if_pos h1, if_neg h2, if_pos h1]
  · by_cases h2 : x = j
    · rw [if_neg h1, if_pos h2, if_pos h2]
    · rw [if_neg h1, if_neg h2, if_neg h2, if_neg h1]
theorem set_two {A B C : List (List Int)} {p q : List Int} {i j : Nat} (hA : A.length = i) (hB : i + 1 + B.length = j) : ((A ++ p :: (B ++ q :: C)).set i q).set j p = A ++ q :: (B ++ p :: C) := by
  rw [List.set_append_right _ _ (by omega), hA, Nat.sub_self, List.set_cons_zero, List.set_append_right _ _ (by omega), show j - A.length = B.length + 1 by omega, List.set_cons_succ, List.set_append_right _ _ (Nat.le_refl _), Nat.sub_self, List.set_cons_zero]
theorem chk_order1 {T : Tr} (h : chk T = true) (i j : Nat) (hj : j < T.nodes.length) (hij : i < j) (N' : List Nd)
    (hK : N'.map Nd.kids = (((T.nodes.map Nd.kids).set i ((T.nodes.map Nd.kids)[j]'(by simpa using hj))).set j ((T.nodes.map Nd.kids)[i]'(by simp; omega))).map (·.map (sw i j))) : chk ⟨N', T.funcs.map (sw i j)⟩ = false := by
  apply Bool.eq_false_iff.2
  intro h2
  have t1 := (chk_stk h).1
  have t2 := (chk_stk h2).1
  simp only at t2
  rw [hK] at t2
  obtain ⟨A, B, C, e, hA, hB⟩ := split_two (T.nodes.map Nd.kids) i j hij (by simpa using hj)
  generalize (T.nodes.map Nd.kids)[i]'(by simp; omega) = p at *
  generalize (T.nodes.map Nd.kids)[j]'(by simpa using hj) = q at *
  rw [e] at t1 t2
  rw [set_two hA hB] at t2
  refine stk_order A B C p q T.funcs i j hA hB t1 ?_
  simpa using t2
theorem chk_order {T : Tr} (h : chk T = true) (i j : Nat) (hi : i < T.nodes.length) (hj : j < T.nodes.length) (hne : i ≠ j) (N' : List Nd) (F' : List Int)
    (hK : N'.map Nd.kids = (((T.nodes.map Nd.kids).set i ((T.nodes.map Nd.kids)[j]'(by simpa using hj))).set j ((T.nodes.map Nd.kids)[i]'(by simpa using hi))).map (·.map (sw i j))) (hF : F' = T.funcs.map (sw i j)) : chk ⟨N', F'⟩ = false := by
  subst hF
  rcases Nat.lt_or_gt_of_ne hne with hlt | hlt
  · exact chk_order1 h i j hj hlt N' hK
  · have e : sw (i : Int) j = sw j i := funext fun x => sw_comm _ _ _
    rw [e] at hK ⊢
    refine chk_order1 h j i hi hlt N' ?_
    rw [hK, List.set_comm _ _ hne]

/-- What turn has done: the row's numbers exchanged, all other blocks as they were. -/
structure Trn (w w' : World) (B : Nat) (v : Value) (n : Nat) (L : List Int) : Prop where
  own : OwnI w' B v n L
  oth : ∀ b, v.ownBlock ≠ some b → w'.heap[b]? = w.heap[b]?
  bel : Below B w w'
/-- The first k numbers turned. -/
def tk1 (i j : Int) (L : List Int) (k : Nat) : List Int := (L.take k).map (sw i j) ++ L.drop k
theorem tk1_len (i j : Int) (L : List Int) (k : Nat) (h : k ≤ L.length) : (tk1 i j L k).length = L.length := by simp [tk1]; omega
theorem tk1_at (i j : Int) (L : List Int) (k : Nat) (h : k < L.length) : (tk1 i j L k)[k]? = some L[k] := by
  unfold tk1
  rw [List.getElem?_append_right (by simp; omega)]
  simp [Nat.min_eq_left (Nat.le_of_lt h), h]
theorem tk1_next (i j : Int) (L : List Int) (k : Nat) (h : k < L.length) : tk1 i j L (k + 1) = (tk1 i j L k).set k (sw i j L[k]) := by
  unfold tk1
  have hl : ((L.take k).map (sw i j)).length = k := by simp; omega
  rw [List.set_append_right _ _ (by omega), hl, Nat.sub_self, List.drop_eq_getElem_cons h, List.set_cons_zero, List.take_succ_eq_append_getElem h, List.map_append, List.append_assoc]
  rfl
theorem tk1_same (i j : Int) (L : List Int) (k : Nat) (h : k < L.length) (he : sw i j L[k] = L[k]) : tk1 i j L (k + 1) = tk1 i j L k := by
  rw [tk1_next i j L k h, he]
  refine List.ext_getElem? fun m => ?_
  rw [List.getElem?_set]
  split
  · next e => subst e; rw [if_pos (by rw [tk1_len _ _ _ _ (by omega)]; exact h), tk1_at _ _ _ _ h]
  · rfl

end Go.Proofs.YtjepkcebfojiaaaDoor
namespace Go.Proofs.YtjepkcebfojiaaaDoor
open Go.ChangeShapes Go.WideShapes Go.ChangeAt Go.RowKit

theorem row_cell {w : World} {B g c n : Nat} {P : List (Nd × Value)} (h : w.ownsRow B 39 10 (.slice (some ⟨g, 0, none⟩) n c) n (ncs P)) (hl : n = P.length) (m : Nat) (hm : m < P.length) (k : Nat) (hk : k < 10) : w.cell? ⟨g, m * 10 + k, none⟩ = (nc (P[m]).1 (P[m]).2)[k]? := by
  rcases h.2 with ⟨e, _⟩ | ⟨g', cap, cur, e, e2, e3, e4, e5, e6, e7⟩
  · cases e
  · cases e
    have h1 := ncs_at P m hm k hk
    rw [← e7, List.getElem?_take, if_pos (by omega)] at h1
    have h2 : (nc (P[m]).1 (P[m]).2)[k]? = some ((nc (P[m]).1 (P[m]).2)[k]'(by simp [nc]; omega)) := List.getElem?_eq_getElem _
    rw [h2] at h1 ⊢
    have : cur[m * 10 + k]? = some ((nc (P[m]).1 (P[m]).2)[k]'(by simp [nc]; omega)) := by rw [← h1]; simp
    simp [World.cell?, e3, this]
theorem row_fz {w : World} {B g c n : Nat} {e : TypeId} {z : Nat} {M : List Value} (h : w.ownsRow B e z (.slice (some ⟨g, 0, none⟩) n c) n M) (q : Nat) : w.frozen? ⟨g, q, none⟩ = false := by
  rcases h.2 with ⟨e, _⟩ | ⟨g', cap, cur, e, e2, e3, _⟩
  · cases e
  · cases e
    exact fz_of e3
/-- A whole node written into the row, cell by cell. -/
def put10 (w : World) (g i : Nat) (k a b c d e f v : Int) (s : ByteArray) (kv : Value) : World :=
  (((((((((w.setCell ⟨g, i * 10, none⟩ (.int .i64 k)).setCell ⟨g, i * 10 + 1, none⟩ (.int .i64 a)).setCell ⟨g, i * 10 + 2, none⟩ (.int .i64 b)).setCell ⟨g, i * 10 + 3, none⟩ (.int .i64 c)).setCell ⟨g, i * 10 + 4, none⟩ (.int .i64 d)).setCell ⟨g, i * 10 + 5, none⟩ (.int .i64 e)).setCell ⟨g, i * 10 + 6, none⟩ (.int .i64 f)).setCell ⟨g, i * 10 + 7, none⟩ (.int .i64 v)).setCell ⟨g, i * 10 + 8, none⟩ (.string s)).setCell ⟨g, i * 10 + 9, none⟩ kv
theorem set_shift {x l : List Value} (hx : x.length = 10) (i k : Nat) (u : Value) : (x ++ l).set ((i + 1) * 10 + k) u = x ++ l.set (i * 10 + k) u := by
  rw [List.set_append_right _ _ (by omega), show (i + 1) * 10 + k - x.length = i * 10 + k by omega]
theorem set_shift0 {x l : List Value} (hx : x.length = 10) (i : Nat) (u : Value) : (x ++ l).set ((i + 1) * 10) u = x ++ l.set (i * 10) u := set_shift hx i 0 u
theorem ncs_set10 (P : List (Nd × Value)) (nd : Nd) (kv : Value) : ∀ (i : Nat) (h : i < P.length), ncs (P.set i (nd, kv)) = ((((((((((ncs P).set (i * 10) (.int .i64 nd.kind)).set (i * 10 + 1) (.int .i64 nd.at_)).set (i * 10 + 2) (.int .i64 nd.wh)).set (i * 10 + 3) (.int .i64 nd.close)).set (i * 10 + 4) (.int .i64 nd.decl)).set (i * 10 + 5) (.int .i64 nd.typ)).set (i * 10 + 6) (.int .i64 nd.op)).set (i * 10 + 7) (.int .i64 nd.val)).set (i * 10 + 8) (.string (bs nd.name))).set (i * 10 + 9) kv := by
  induction P with
  | nil => intro i h; simp at h
  | cons t ts ih =>
    intro i h
    have e : ∀ (a : Nd × Value) l, ncs (a :: l) = nc a.1 a.2 ++ ncs l := fun a l => by simp [ncs]
    have hl : (nc t.1 t.2).length = 10 := by simp [nc]
    cases i with
    | zero =>
      rw [List.set_cons_zero, e, e]
      rfl
    | succ i =>
      rw [List.set_cons_succ, e, e, ih i (by simpa using h)]
      simp only [set_shift hl, set_shift0 hl]
theorem own_put10 {w : World} {B g c n : Nat} {P : List (Nd × Value)} (h : w.ownsRow B 39 10 (.slice (some ⟨g, 0, none⟩) n c) n (ncs P)) (i : Nat) (hi : i < P.length) (nd : Nd) (s : ByteArray) (hs : s = bs nd.name) (kv : Value) :
    (put10 w g i nd.kind nd.at_ nd.wh nd.close nd.decl nd.typ nd.op nd.val s kv).ownsRow B 39 10 (.slice (some ⟨g, 0, none⟩) n c) n (ncs (P.set i (nd, kv))) := by
  subst hs
  rw [ncs_set10 P nd kv i hi]
  exact own_set (own_set (own_set (own_set (own_set (own_set (own_set (own_set (own_set (own_set h _ _) _ _) _ _) _ _) _ _) _ _) _ _) _ _) _ _) _ _
theorem put10_other {w : World} {g i : Nat} {k a b c d e f v : Int} {s : ByteArray} {kv : Value} {q : Nat} (h : q ≠ g) : (put10 w g i k a b c d e f v s kv).heap[q]? = w.heap[q]? := by
  unfold put10
  rw [heap_set_other h, heap_set_other h, heap_set_other h, heap_set_other h, heap_set_other h, heap_set_other h, heap_set_other h, heap_set_other h, heap_set_other h, heap_set_other h]
theorem put10_below {w w0 : World} {B g i : Nat} {k a b c d e f v : Int} {s : ByteArray} {kv : Value} (hb : Below B w0 w) (h : B ≤ g) : Below B w0 (put10 w g i k a b c d e f v s kv) := by
  unfold put10
  have st : ∀ (X : World) (q : Nat) (u : Value), Below B w0 X → Below B w0 (X.setCell ⟨g, q, none⟩ u) := fun X q u hX => hX.setCell (p := ⟨g, q, none⟩) h u
  exact st _ _ _ (st _ _ _ (st _ _ _ (st _ _ _ (st _ _ _ (st _ _ _ (st _ _ _ (st _ _ _ (st _ _ _ (st _ _ _ hb)))))))))
theorem put10_size {w : World} {g i : Nat} {k a b c d e f v : Int} {s : ByteArray} {kv : Value} : (put10 w g i k a b c d e f v s kv).heap.size = w.heap.size := by
  unfold put10
  simp [World.setCell]

theorem ncs_setTD (P : List (Nd × Value)) : ∀ (j : Nat), j < P.length → ∀ (p : Nd × Value), ncs (P.set j p) = (ncs P).take (j * 10) ++ nc p.1 p.2 ++ (ncs P).drop (j * 10 + 10) := by
  induction P with
  | nil => intro j h; simp at h
  | cons u us ih =>
    intro j hj t
    have e : ∀ (x : Nd × Value) l, ncs (x :: l) = nc x.1 x.2 ++ ncs l := fun x l => by simp [ncs]
    have l4 : (nc u.1 u.2).length = 10 := by simp [nc]
    cases j with
    | zero => rw [List.set_cons_zero, e, e, Nat.zero_mul, List.take_zero, List.nil_append, Nat.zero_add, List.drop_append, l4, List.drop_of_length_le (l := nc u.1 u.2) (by omega)]; simp
    | succ j =>
      have := ih j (by simpa using hj) t
      rw [List.set_cons_succ, e, this, e]
      rw [List.take_append, List.drop_append, l4, List.take_of_length_le (l := nc u.1 u.2) (by rw [l4]; omega), List.drop_of_length_le (l := nc u.1 u.2) (by rw [l4]; omega)]
      rw [show (j + 1) * 10 - 10 = j * 10 by omega, show (j + 1) * 10 + 10 - 10 = j * 10 + 10 by omega]
      simp
/-- A whole node is written over node j of the row. -/
theorem wpList_store_node {ops : Array Oper} {rest : List Oper} {o : Oper} {a : Act} {w : World} {Q : Exit → Act → World → Prop} (hgd : o.guard = none) (x y : Operand) (ho : o.op = .store 39 x y)
    (B g c n : Nat) (P : List (Nd × Value)) (hown : w.ownsRow B 39 10 (.slice (some ⟨g, 0, none⟩) n c) n (ncs P)) (hl : n = P.length) (j : Nat) (hj : j < P.length) (nd : Nd) (s : ByteArray) (hs : s = bs nd.name) (ka : Option Addr) (kl kc : Nat)
    (hx : a.eval x = .pointer (some ⟨g, j * 10, none⟩)) (hy : a.eval y = .agg #[.int .i64 nd.kind, .int .i64 nd.at_, .int .i64 nd.wh, .int .i64 nd.close, .int .i64 nd.decl, .int .i64 nd.typ, .int .i64 nd.op, .int .i64 nd.val, .string s, .slice ka kl kc])
    (h : ∀ w', w'.ownsRow B 39 10 (.slice (some ⟨g, 0, none⟩) n c) n (ncs (P.set j (nd, .slice ka kl kc))) → w.grownBy w' (some g) → w'.heap.size = w.heap.size → wpList Tryd.prog ops Q rest (a.put o.dst undef) w') : wpList Tryd.prog ops Q (o :: rest) a w := by
  subst hs
  rcases hown.2 with ⟨e, hn⟩ | ⟨g', cap, cur, e, hbg, hg, hnc, hcm, hcs, htake⟩
  · cases e
  · cases e
    have e4 : (nc nd (.slice ka kl kc)).length = 10 := by simp [nc]
    have hlen : j * 10 + 0 + (nc nd (.slice ka kl kc)).length ≤ cur.size := by rw [e4]; omega
    have hst := run_storeCells_at (P := Tryd.prog) g (j * 10) 39 (nc nd (.slice ka kl kc)) 0 cur w hg hlen (nc_one nd ka kl kc)
    refine wpList_plain hgd fun _ hK => ?_
    obtain ⟨i0, hi, hz0, hz1, hz2⟩ := info_parts infoN
    unfold Oper.wp execOp
    have hrun : (storeVar 39 ⟨g, j * 10, none⟩ (.agg #[.int .i64 nd.kind, .int .i64 nd.at_, .int .i64 nd.wh, .int .i64 nd.close, .int .i64 nd.decl, .int .i64 nd.typ, .int .i64 nd.op, .int .i64 nd.val, .string (bs nd.name), .slice ka kl kc])).run Tryd.prog w = .ok () (w.setRow g (cur.toList.take (j * 10) ++ nc nd (.slice ka kl kc) ++ cur.toList.drop (j * 10 + 10)).toArray) := by
      simp only [Nat.add_zero, e4] at hst
      rw [← hst]
      simp [storeVar, sizeOf, typeInfo, hi, Value.cells, hz1, nc]
    simp only [ho, hx, hy, Instr.storeAt, Instr.sureAddr, Sem.run_bind, Sem.run_pure, Result.andThen_ok, hrun]
    refine hK _ _ (h _ ⟨?_, .inr ⟨g, c, _, rfl, hbg, setRow_heap w g cur _ _ _ hg, hnc, hcm, ?_, ?_⟩⟩ ⟨rfl, rfl, rfl, by simp, fun k _ hk => setRow_other w g k _ (fun e => hk (by rw [e]))⟩ (by simp))
    · rw [ncs_len, List.length_set, hl]
    · simp only [List.size_toArray, List.length_append, List.length_take, List.length_drop, Array.length_toList, e4]
      omega
    · have hm := take_mid cur.toList (nc nd (.slice ka kl kc)) (j * 10) (n * 10) (by rw [e4]; omega) (by simp; omega)
      rw [ncs_setTD P j hj, ← htake]
      rw [e4] at hm
      exact hm

theorem swap_at (P : List (Nd × Value)) (a b : Nat) (ha : a < P.length) (hb : b < P.length) (x : Nat) (hx : x < ((P.set a P[b]).set b P[a]).length) : ∃ (y : Nat) (hy : y < P.length), y = (if x = b then a else if x = a then b else x) ∧ ((P.set a P[b]).set b P[a])[x] = P[y] := by
  have hx' : x < P.length := by simpa using hx
  by_cases h1 : x = b
  · exact ⟨a, ha, by simp [h1], by simp [h1]⟩
  · by_cases h2 : x = a
    · subst h2
      exact ⟨b, hb, by simp [h1], by rw [List.getElem_set_ne (Ne.symm h1)]; simp⟩
    · exact ⟨x, hx', by simp [h1, h2], by rw [List.getElem_set_ne (Ne.symm h1), List.getElem_set_ne (Ne.symm h2)]⟩
/-- Two nodes exchanged. -/
theorem CN.swap {w w' : World} {B v n P} (h : CN w B v n P) (a b : Nat) (ha : a < P.length) (hb : b < P.length) (hrow : w'.ownsRow B 39 10 v n (ncs ((P.set a P[b]).set b P[a]))) (hold : ∀ q, q < w.heap.size → v.ownBlock ≠ some q → w'.heap[q]? = w.heap[q]?) : CN w' B v n ((P.set a P[b]).set b P[a]) := by
  refine ⟨by simpa using h.len, hrow, fun p hp => ?_, ?_⟩
  · obtain ⟨x, hx, rfl⟩ := List.mem_iff_getElem.1 hp
    obtain ⟨y, hy, _, e⟩ := swap_at P a b ha hb x hx
    rw [e]
    have hm := h.kid P[y] (List.getElem_mem hy)
    exact ⟨hm.len, own_move hm.out fun g hg => hold g (own_block hm.out hg).2 (own_apart hm.out h.own (by decide) g hg)⟩
  · rw [List.pairwise_iff_getElem]
    intro x z hx hz hlt g h1 h2
    obtain ⟨y1, hy1, e1, q1⟩ := swap_at P a b ha hb x hx
    obtain ⟨y2, hy2, e2, q2⟩ := swap_at P a b ha hb z hz
    rw [q1] at h1
    rw [q2] at h2
    refine h.apart hy1 hy2 ?_ g h1 h2
    intro e
    rw [e1, e2] at e
    split at e <;> split at e <;> (try split at e) <;> (try split at e) <;> omega
theorem swap_mem {P : List (Nd × Value)} {a b : Nat} {ha : a < P.length} {hb : b < P.length} {p : Nd × Value} (h : p ∈ (P.set a P[b]).set b P[a]) : p ∈ P := by
  obtain ⟨x, hx, rfl⟩ := List.mem_iff_getElem.1 h
  obtain ⟨y, hy, _, e⟩ := swap_at P a b ha hb x hx
  rw [e]
  exact List.getElem_mem hy
/-- turn upon another row. -/
theorem CN.trn {w w' : World} {B v n P fv fn F} (h : CN w B v n P) (ht : Trn w w' B fv fn F) (h1 : ∀ p ∈ P, ∀ g, p.2.ownBlock = some g → fv.ownBlock ≠ some g) (h2 : ∀ g, v.ownBlock = some g → fv.ownBlock ≠ some g) : CN w' B v n P :=
  ⟨h.len, own_move h.own fun g hg => ht.oth g (h2 g hg), fun p hp => ⟨(h.kid p hp).len, own_move (h.kid p hp).out fun g hg => ht.oth g (h1 p hp g hg)⟩, h.apt⟩
def tn (i j : Int) (p : Nd × Value) : Nd × Value := ({ p.1 with kids := p.1.kids.map (sw i j) }, p.2)
def tkP (i j : Int) (P : List (Nd × Value)) (k : Nat) : List (Nd × Value) := (P.take k).map (tn i j) ++ P.drop k
theorem tkP_len (i j : Int) (P : List (Nd × Value)) (k : Nat) (h : k ≤ P.length) : (tkP i j P k).length = P.length := by simp [tkP]; omega
theorem tkP_at (i j : Int) (P : List (Nd × Value)) (k : Nat) (h : k < P.length) (h' : k < (tkP i j P k).length) : (tkP i j P k)[k] = P[k] := by
  have : (tkP i j P k)[k]? = some P[k] := by
    unfold tkP
    rw [List.getElem?_append_right (by simp; omega)]
    simp [Nat.min_eq_left (Nat.le_of_lt h), h]
  rw [List.getElem?_eq_getElem h'] at this
  exact Option.some.inj this
theorem tkP_next (i j : Int) (P : List (Nd × Value)) (k : Nat) (h : k < P.length) : tkP i j P (k + 1) = (tkP i j P k).set k (tn i j P[k]) := by
  unfold tkP
  have hl : ((P.take k).map (tn i j)).length = k := by simp; omega
  rw [List.set_append_right _ _ (by omega), hl, Nat.sub_self, List.drop_eq_getElem_cons h, List.set_cons_zero, List.take_succ_eq_append_getElem h, List.map_append, List.append_assoc]
  rfl
theorem tkP_end (i j : Int) (P : List (Nd × Value)) (k : Nat) (h : P.length ≤ k) : tkP i j P k = P.map (tn i j) := by
  unfold tkP
  rw [List.take_of_length_le h, List.drop_of_length_le h]
  simp
theorem tkP_vals (i j : Int) (P : List (Nd × Value)) (k : Nat) : (tkP i j P k).map Prod.snd = P.map Prod.snd := by
  unfold tkP
  rw [List.map_append, List.map_map, show (Prod.snd ∘ tn i j) = Prod.snd from rfl, ← List.map_append, List.take_append_drop]
/-- turn upon one node's kids. -/
theorem CN.turned {w w' : World} {B v n P} (i j : Int) (h : CN w B v n P) (k : Nat) (hk : k < P.length) (ht : Trn w w' B (P[k]).2 (P[k]).1.kids.length ((P[k]).1.kids.map (sw i j))) : CN w' B v n (P.set k (tn i j P[k])) := by
  have hm := h.kid P[k] (List.getElem_mem hk)
  have hrow : w'.ownsRow B 39 10 v n (ncs (P.set k (tn i j P[k]))) := by
    have e : ncs (P.set k (tn i j P[k])) = ncs P := by
      rw [tn, ncs_set]
      refine List.ext_getElem? fun q => ?_
      rw [List.getElem?_set]
      split
      · next e =>
        subst e
        have := ncs_at P k hk 9 (by omega)
        rw [this, if_pos (by rw [ncs_len]; omega)]
        rfl
      · rfl
    rw [e]
    exact own_move h.own fun g hg => ht.oth g fun e2 => own_apart hm.out h.own (by decide) g e2 hg
  have hc := h.upd (w' := w') k hk (tn i j P[k]).1 (tn i j P[k]).2 hrow ⟨rfl, by
    have := ht.own.out
    simp only [tn, List.length_map]
    exact this⟩ (fun b _ h1 _ => ht.oth b h1)
  refine ⟨hc.len, hc.own, hc.kid, ?_⟩
  have hv : (P.set k (tn i j P[k])).map Prod.snd = P.map Prod.snd := by
    rw [List.map_set]
    refine List.ext_getElem (by simp) fun q h1 h2 => ?_
    rw [List.getElem_set]
    split
    · next e => subst e; simp [tn]
    · rfl
  have ha := h.apt
  have hp : ∀ Q : List (Nd × Value), (Q.Pairwise fun p q => ∀ g, p.2.ownBlock = some g → q.2.ownBlock ≠ some g) ↔ (Q.map Prod.snd).Pairwise fun p q => ∀ g, p.ownBlock = some g → q.ownBlock ≠ some g := fun Q => by rw [List.pairwise_map]
  rw [hp] at ha ⊢
  rw [hv]
  exact ha
theorem swap_kids {P : List (Nd × Value)} {N : List Nd} (h : P.map Prod.fst = N) (a b : Nat) (ha : a < P.length) (hb : b < P.length) (hA : a < (N.map Nd.kids).length) (hB : b < (N.map Nd.kids).length) :
    ((((P.set a P[b]).set b P[a]).map (tn a b)).map Prod.fst).map Nd.kids = (((N.map Nd.kids).set a (N.map Nd.kids)[b]).set b (N.map Nd.kids)[a]).map (·.map (sw a b)) := by
  subst h
  simp only [List.map_set, List.getElem_map, List.map_map]
  rfl
end Go.Proofs.YtjepkcebfojiaaaDoor
