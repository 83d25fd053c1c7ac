import Derived.Test.YtdgfkhdjlhgoaaaDoorTrOo
set_option linter.unusedVariables false
set_option linter.unusedSimpArgs false
namespace Go.Proofs.YtdgfkhdjlhgoaaaDoor
open Go.ChangeShapes Go.WideShapes Go.ChangeAt Go.RowKit

theorem split_two (K : List (List Int)) (i j : Nat) (hij : i < j) (hj : j < K.length) : ∃ A B C, K = A ++ (K[i]'(by omega)) :: (B ++ K[j] :: C) ∧ A.length = i ∧ i + 1 + B.length = j := by
  refine ⟨K.take i, (K.drop (i + 1)).take (j - i - 1), K.drop (j + 1), ?_, by simp; omega, by simp; omega⟩
  have e1 : K.drop i = K[i] :: K.drop (i + 1) := List.drop_eq_getElem_cons (by omega)
  have e2 : K.drop j = K[j] :: K.drop (j + 1) := List.drop_eq_getElem_cons hj
  have e3 : (K.drop (i + 1)).drop (j - i - 1) = K.drop j := by rw [List.drop_drop]; congr 1; omega
  have e4 := (List.take_append_drop (j - i - 1) (K.drop (i + 1)))
  rw [← e2, ← e3, e4, ← e1, List.take_append_drop]
theorem sw_comm (i j x : Int) : sw i j x = sw j i x := by
  unfold sw
  by_cases h1 : x = i
  · by_cases h2 : x = j
    · rw [if_pos h1, if_pos h2]; omega
    · rw [if_pos h1, if_neg h2, if_pos h1]
  · by_cases h2 : x = j
    · rw [if_neg h1, if_pos h2, if_pos h2]
    · rw [if_neg h1, if_neg h2, if_neg h2, if_neg h1]
theorem set_two {A B C : List (List Int)} {p q : List Int} {i j : Nat} (hA : A.length = i) (hB : i + 1 + B.length = j) : ((A ++ p :: (B ++ q :: C)).set i q).set j p = A ++ q :: (B ++ p :: C) := by
  rw [List.set_append_right _ _ (by omega), hA, Nat.sub_self, List.set_cons_zero, List.set_append_right _ _ (by omega), show j - A.length = B.length + 1 by omega, List.set_cons_succ, List.set_append_right _ _ (Nat.le_refl _), Nat.sub_self, List.set_cons_zero]
theorem chk_order1 {T : Tr} (h : chk T = true) (i j : Nat) (hj : j < T.nodes.length) (hij : i < j) (N' : List Nd)
    (hK : N'.map Nd.kids = (((T.nodes.map Nd.kids).set i ((T.nodes.map Nd.kids)[j]'(by simpa using hj))).set j ((T.nodes.map Nd.kids)[i]'(by simp; omega))).map (·.map (sw i j))) : chk ⟨N', T.funcs.map (sw i j)⟩ = false := by
  apply Bool.eq_false_iff.2
  intro h2
  have t1 := (chk_stk h).1
  have t2 := (chk_stk h2).1
  simp only at t2
  rw [hK] at t2
  obtain ⟨A, B, C, e, hA, hB⟩ := split_two (T.nodes.map Nd.kids) i j hij (by simpa using hj)
  generalize (T.nodes.map Nd.kids)[i]'(by simp; omega) = p at *
  generalize (T.nodes.map Nd.kids)[j]'(by simpa using hj) = q at *
  rw [e] at t1 t2
  rw [set_two hA hB] at t2
  refine stk_order A B C p q T.funcs i j hA hB t1 ?_
  simpa using t2
theorem chk_order {T : Tr} (h : chk T = true) (i j : Nat) (hi : i < T.nodes.length) (hj : j < T.nodes.length) (hne : i ≠ j) (N' : List Nd) (F' : List Int)
    (hK : N'.map Nd.kids = (((T.nodes.map Nd.kids).set i ((T.nodes.map Nd.kids)[j]'(by simpa using hj))).set j ((T.nodes.map Nd.kids)[i]'(by simpa using hi))).map (·.map (sw i j))) (hF : F' = T.funcs.map (sw i j)) : chk ⟨N', F'⟩ = false := by
  subst hF
  rcases Nat.lt_or_gt_of_ne hne with hlt | hlt
  · exact chk_order1 h i j hj hlt N' hK
  · have e : sw (i : Int) j = sw j i := funext fun x => sw_comm _ _ _
    rw [e] at hK ⊢
    refine chk_order1 h j i hi hlt N' ?_
    rw [hK, List.set_comm _ _ hne]

/-- What turn has done: the row's numbers exchanged, all other blocks as they were. -/
structure Trn (w w' : World) (B : Nat) (v : Value) (n : Nat) (L : List Int) : Prop where
  own : OwnI w' B v n L
  oth : ∀ b, v.ownBlock ≠ some b → w'.heap[b]? = w.heap[b]?
  bel : Below B w w'
/-- The first k numbers turned. -/
def tk1 (i j : Int) (L : List Int) (k : Nat) : List Int := (L.take k).map (sw i j) ++ L.drop k
theorem tk1_len (i j : Int) (L : List Int) (k : Nat) (h : k ≤ L.length) : (tk1 i j L k).length = L.length := by simp [tk1]; omega
theorem tk1_at (i j : Int) (L : List Int) (k : Nat) (h : k < L.length) : (tk1 i j L k)[k]? = some L[k] := by
  unfold tk1
  rw [List.getElem?_append_right (by simp; omega)]
  simp [Nat.min_eq_left (Nat.le_of_lt h), h]
theorem tk1_next (i j : Int) (L : List Int) (k : Nat) (h : k < L.length) : tk1 i j L (k + 1) = (tk1 i j L k).set k (sw i j L[k]) := by
  unfold tk1
  have hl : ((L.take k).map (sw i j)).length = k := by simp; omega
  rw [List.set_append_right _ _ (by omega), hl, Nat.sub_self, List.drop_eq_getElem_cons h, List.set_cons_zero, List.take_succ_eq_append_getElem h, List.map_append, List.append_assoc]
  rfl
theorem tk1_same (i j : Int) (L : List Int) (k : Nat) (h : k < L.length) (he : sw i j L[k] = L[k]) : tk1 i j L (k + 1) = tk1 i j L k := by
  rw [tk1_next i j L k h, he]
  refine List.ext_getElem? fun m => ?_
  rw [List.getElem?_set]
  split
  · next e => subst e; rw [if_pos (by rw [tk1_len _ _ _ _ (by omega)]; exact h), tk1_at _ _ _ _ h]
  · rfl

set_option maxRecDepth 10000 in
set_option maxHeartbeats 4000000 in
theorem turn_any (w : World) (B : Nat) (ao : Option Addr) (n cap : Nat) (L : List Int) (i j : Int) (hO : OwnI w B (.slice ao n cap) n L) (hn : n ≤ 1000000000) :
    Calls Tryd.prog 16 #[.slice ao n cap, .int .i64 i, .int .i64 j] w fun e w' => e = .returned (.tuple #[]) ∧ Trn w w' B (.slice ao n cap) n (L.map (sw i j)) := by
  have HN : Hid (n = L.length) := hO.len
  have hvw := hO.view
  obtain ⟨ao', cap', e, hcap, hcx, _, halt⟩ := hvw
  cases e
  go_enter Tryd.func16, Tryd.ntmps16
  go_wp2_with fail
  go_loopw [6] (fun c wr => ∃ k : Nat, k ≤ n ∧ c = .int .i64 k ∧ Trn w wr B (.slice ao n cap) n (tk1 i j L k)) (fun c _ => n - (intOf c).toNat)
  case atStart => exact ⟨0, by omega, rfl, by simpa [tk1] using hO, fun _ _ => rfl, Below.refl _ _⟩
  case round =>
    obtain ⟨k, hk, rfl, HT⟩ := hrel
    by_cases hlt : k < n
    · have hkL : k < L.length := by have := HN.out; omega
      obtain ⟨g, rfl, hBg, hgl⟩ : ∃ g, ao = some ⟨g, 0, none⟩ ∧ B ≤ g ∧ g < w.heap.size := by
        rcases halt with ⟨_, _, h, _⟩ | h
        · omega
        · exact h
      obtain ⟨x, hx⟩ : ∃ x, x = L[k] := ⟨_, rfl⟩
      have ck : wr.cell? ⟨g, k, none⟩ = some (.int .i64 x) := by
        have := HT.own.out.cells (g := g) rfl k (.int .i64 x) (by simp [ivs, tk1_at i j L k hkL, hx])
        rwa [show (⟨g, 0, none⟩ : Addr).add k = ⟨g, k, none⟩ by unfold Addr.add; split <;> simp_all] at this
      have cf : wr.frozen? ⟨g, k, none⟩ = false := by
        rcases HT.own.out.2 with ⟨e, _⟩ | ⟨g', cap', cur, e, e2, e3, _⟩
        · cases e
        · cases e
          exact fz_of e3
      have HX : Hid (x = L[k]) := hx
      have nxt : ∀ y, sw i j x = y → Trn w (wr.setCell ⟨g, k, none⟩ (.int .i64 y)) B (.slice (some ⟨g, 0, none⟩) n cap) n (tk1 i j L (k + 1)) := by
        intro y hy
        have h1 := own_set HT.own.out k (.int .i64 y)
        refine ⟨⟨by rw [tk1_len _ _ _ _ (by omega)]; exact HN.out, ?_⟩, fun b hb => ?_, HT.bel.setCell (p := ⟨g, k, none⟩) hBg _⟩
        · rw [tk1_next i j L k hkL, ivs, List.map_set, ← HX.out, hy]
          exact h1
        · rw [heap_set_other (fun e => hb (by rw [e]; rfl))]
          exact HT.oth b hb
      have HNX : Hid (∀ y, sw i j x = y → Trn w (wr.setCell ⟨g, k, none⟩ (.int .i64 y)) B (.slice (some ⟨g, 0, none⟩) n cap) n (tk1 i j L (k + 1))) := nxt
      clear hx nxt halt
      by_cases h1 : x = i
      · go_wp2_with fail
        go_roundw
        case rel => exact ⟨k + 1, by omega, by go_num, HNX.out j (by simp [sw, h1])⟩
        case measure => simp [intOf]; omega
      · by_cases h2 : x = j
        · go_wp2_with fail
          go_roundw
          case rel => exact ⟨k + 1, by omega, by go_num, HNX.out i (by simp [sw, h1, h2])⟩
          case measure => simp [intOf]; omega
        · go_wp2_with fail
          go_roundw
          case rel => exact ⟨k + 1, by omega, by go_num, by rw [tk1_same i j L k hkL (by rw [← HX.out]; simp [sw, h1, h2])]; exact HT⟩
          case measure => simp [intOf]; omega
    · obtain rfl : k = n := by omega
      go_wp2_with fail
      have e : tk1 i j L k = L.map (sw i j) := by
        have := HN.out
        unfold tk1
        rw [List.take_of_length_le (by omega), List.drop_of_length_le (by omega)]
        simp
      rw [e] at HT
      first
        | exact bodyPost_end (v := .tuple #[]) (by simp [results, Tryd.results16, go_sem]) rfl ⟨rfl, HT⟩
        | exact bodyPost_ret (v := .tuple #[]) (by simp [results, Tryd.results16, go_sem]) rfl ⟨rfl, HT⟩
end Go.Proofs.YtdgfkhdjlhgoaaaDoor
