import Derived.Test.YteiambniddddpaaDoorLxE
import Derived.Laws.CopyOwn
set_option linter.unusedVariables false
namespace Go.Proofs.YteiambniddddpaaDoor
open Go.ChangeShapes Go.WideShapes Go.ChangeAt Go.RowKit

theorem At.alloc {w b o M} (h : At w b o M) (ob : Obj) : At (w.alloc ob) b o M :=
  ⟨by have := h.1; simp; omega, fun i hi => by rw [World.cell?_alloc_past ob b (o + i) h.1]; exact h.2 i hi⟩
theorem Tab.alloc {w} (h : Tab w) (ob : Obj) : Tab (w.alloc ob) := by
  obtain ⟨h1, h2, h3⟩ := h
  exact ⟨by simp; omega, fun i hi => by rw [World.cell?_alloc_past ob _ i (by omega)]; exact h2 i hi, fun i hi => by rw [World.cell?_alloc_past ob _ i (by omega)]; exact h3 i hi⟩
theorem Tab.below {w w' B} (h : Tab w) (hb : Below B w w') (hB : 2 ≤ B) : Tab w' := by
  obtain ⟨h1, h2, h3⟩ := h
  have := hb.size
  exact ⟨by omega, fun i hi => by rw [hb.cell (p := ⟨1, i, none⟩) (by show 1 < B; omega)]; exact h2 i hi, fun i hi => by rw [hb.cell (p := ⟨0, i, none⟩) (by show 0 < B; omega)]; exact h3 i hi⟩
theorem At.below {w w' b o M B} (h : At w b o M) (hb : Below B w w') (hB : b < B) : At w' b o M :=
  ⟨by have := h.1; have := hb.size; omega, fun i hi => by rw [hb.cell (by exact hB)]; exact h.2 i hi⟩
theorem Txt.below {w w' ao cap L B} (h : Txt w ao cap L) (hb : Below B w w') (hB : w.heap.size ≤ B) : Txt w' ao cap L :=
  ⟨h.1, h.2.1, fun hn => by obtain ⟨b, o, e, hA⟩ := h.2.2 hn; exact ⟨b, o, e, hA.below hb (by have := hA.1; omega)⟩⟩

theorem nameTok_at (w : World) (hT : Tab w) (S : List UInt8) (s : ByteArray) (hs : s = bs S) (k : Int) (t : Tk) (ht : nameTk S = t) :
    Calls Tryd.prog 61 #[.string s, .int .i64 k] w fun e w' => e = .returned (.agg #[.int .i64 t.kind, .int .i64 k, .int .i64 t.val, .string (bs t.name)]) ∧ Below w.heap.size w w' := by
  subst hs ht
  exact nameTok_any w hT S k

theorem info33 : (Tryd.prog.info? 31).map (·.size) = some 4 := by kernel_rfl

theorem wpList_store_tok {ops : Array Oper} {rest : List Oper} {o : Oper} {a : Act} {w : World} {Q : Exit → Act → World → Prop} (hgd : o.guard = none) (x y : Operand) (ho : o.op = .store 31 x y)
    (g : Nat) (c0 c1 c2 : Int) (s : ByteArray) (hx : a.eval x = .pointer (some ⟨g, 0, none⟩)) (hy : a.eval y = .agg #[.int .i64 c0, .int .i64 c1, .int .i64 c2, .string s])
    (old : Array Value) (hg : w.heap[g]? = some (.cells old 31 (0, 0))) (hold : old.size = 4)
    (h : wpList Tryd.prog ops Q rest (a.put o.dst undef) (w.setRow g #[.int .i64 c0, .int .i64 c1, .int .i64 c2, .string s])) : wpList Tryd.prog ops Q (o :: rest) a w :=
  wpList_store_row hgd 31 x y ho g #[.int .i64 c0, .int .i64 c1, .int .i64 c2, .string s] hx hy 31 old hg info33 hold (by simp [Value.oneCell']) h

theorem results_tok {fn : Func} {p q r : Tmp} (h : fn.results = #[.cell p 31, .tmp q, .tmp r]) (tmps : Array Value) (w : World) (g : Nat) (t : TypeId) (cs : Array Value) (fr : Nat × Nat) (v1 v2 : Value)
    (hp : tmps.getD p undef = .pointer (some ⟨g, 0, none⟩)) (hq : tmps.getD q undef = v1) (hr : tmps.getD r undef = v2) (hg : w.heap[g]? = some (.cells cs t fr)) (hi : cs.size = 4) :
    (results fn tmps).run Tryd.prog w = .ok (.tuple #[.agg cs, v1, v2]) w := by
  have hp' : tmps[p]?.getD undef = .pointer (some ⟨g, 0, none⟩) := by simpa using hp
  have hq' : tmps[q]?.getD undef = v1 := by simpa using hq
  have hr' : tmps[r]?.getD undef = v2 := by simpa using hr
  simp [results, h, hp', hq', hr', asAddr, run_loadVar_row w g t 31 cs fr _ hg Tryd.underlying31 rfl (by rw [hi]; exact info33)]

theorem take_while_len {L : List UInt8} (p : UInt8 → Bool) : L.takeWhile p = L.take (L.takeWhile p).length := by
  induction L with
  | nil => rfl
  | cons c l ih => by_cases h : p c = true <;> simp [h]; exact ih

theorem row_next {L : List UInt8} {j k N : Nat} {x : UInt8} {p : UInt8 → Bool} (H : j - k + ((L.drop j).takeWhile p).length = N) (hk : k ≤ j) (HD : L.drop j = x :: L.drop (j + 1)) (hc : p x = true) : j + 1 - k + ((L.drop (j + 1)).takeWhile p).length = N := by
  rw [HD] at H
  simp [hc] at H
  omega
theorem row_stop {L : List UInt8} {j k N : Nat} {x : UInt8} {p : UInt8 → Bool} (H : j - k + ((L.drop j).takeWhile p).length = N) (HD : L.drop j = x :: L.drop (j + 1)) (hc : p x = false) : N = j - k := by
  rw [HD] at H
  simp [hc] at H
  omega
theorem row_end {L : List UInt8} {j k N : Nat} {p : UInt8 → Bool} (H : j - k + ((L.drop j).takeWhile p).length = N) (hj : L.length ≤ j) : N = j - k := by
  rw [List.drop_of_length_le hj] at H
  simp at H
  omega
theorem row_more {L : List UInt8} {j k N : Nat} {x : UInt8} {p : UInt8 → Bool} (H : j - k + ((L.drop j).takeWhile p).length = N) (hk : k ≤ j) (HD : L.drop j = x :: L.drop (j + 1)) (hc : p x = true) : j - k < N := by
  rw [HD] at H
  simp [hc] at H
  omega

def nameR (l : List UInt8) : Except Nat (Tk × Nat) := if 64 < (l.takeWhile isNm).length then .error 21 else .ok (nameTk (l.takeWhile isNm), (l.takeWhile isNm).length)

set_option maxHeartbeats 1000000 in
theorem name_any (w : World) (hT : Tab w) (b o cap : Nat) (L : List UInt8) (hA : At w b o L) (hc : L.length ≤ cap) (hm : cap ≤ 9223372036854775807) (k : Nat) (hk : k < L.length) :
    Calls Tryd.prog 43 #[.slice (some ⟨b, o, none⟩) L.length cap, .int .i64 k] w fun e w' => TokRes (nameR (L.drop k)) k e ∧ Below w.heap.size w w' := by
  obtain ⟨r, hr⟩ : ∃ r, nameR (L.drop k) = r := ⟨_, rfl⟩
  rw [hr]
  have Hr : Hid (nameR (L.drop k) = r) := hr
  clear hr
  obtain ⟨N, hN⟩ : ∃ N, ((L.drop k).takeWhile isNm).length = N := ⟨_, rfl⟩
  have HR : Hid (((L.drop k).takeWhile isNm).length = N) := hN
  clear hN
  have HT : Hid (Tab w) := hT
  clear hT
  obtain ⟨n, hn⟩ : ∃ n, n = L.length := ⟨_, rfl⟩
  rw [← hn] at hc hk ⊢
  have HN : Hid (n = L.length) := hn
  clear hn
  have hb := hA.1
  have HA : Hid (At w b o L) := hA
  clear hA
  go_enter Tryd.func43, Tryd.ntmps43
  go_wp2
  go_step3
  go_wp2
  go_step3
  go_wp2
  go_loop [7] (fun v => ∃ j : Nat, k ≤ j ∧ j ≤ n ∧ j - k ≤ 64 ∧ v = .int .i64 j ∧ Hid (j - k + ((L.drop j).takeWhile isNm).length = N)) (fun v => n - (intOf v).toNat)
  case atStart => exact ⟨k, by omega, by omega, by omega, rfl, by have := HR.out; show k - k + _ = N; omega⟩
  case round =>
    obtain ⟨j, hkj, hj, h64, rfl, HJ⟩ := hrel
    by_cases hlt : j < n
    · obtain ⟨x, hx⟩ : ∃ x, x = L[j]'(HN.out ▸ hlt) := ⟨_, rfl⟩
      have hcell := HA.out.2 j (HN.out ▸ hlt)
      rw [← hx] at hcell
      have HD : Hid (L.drop j = x :: L.drop (j + 1)) := by rw [hx]; exact List.drop_eq_getElem_cons _
      clear hx
      by_cases hn : isNm x = true
      · have HX : Hid (isNm x = true) := hn
        have hcl : cl x = 7 ∨ cl x = 6 := by simpa [isNm] using hn
        clear hn
        by_cases h5 : j - k = 64
        · have HE : Hid (r = .error 21) := by
            rw [← Hr.out]; unfold nameR
            rw [if_pos (by have := row_more HJ.out hkj HD.out HX.out; rw [HR.out]; omega)]; exact rfl
          have h6 : j = k + 64 := by omega
          subst h6
          rcases hcl with hcl | hcl
          all_goals
            go_wp2_with (go_at_call 39; refine (cls_any _ _).mono ?_; rintro e w' ⟨rfl, rfl⟩)
            (try rw [Exit.noGoto_ret])
            refine bodyPost_ret (v := .tuple #[tz, .int .i64 0, .int .i64 21]) (by simp [results, Tryd.results43, go_sem, tz]; rfl) rfl ⟨?_, (Below.refl _ _).alloc (Nat.le_refl _) _⟩
            rw [HE.out]
            exact ⟨0, rfl⟩
        · rcases hcl with hcl | hcl
          all_goals
            go_wp2_with (go_at_call 39; refine (cls_any _ _).mono ?_; rintro e w' ⟨rfl, rfl⟩)
            go_round
            case rel => exact ⟨j + 1, by omega, by omega, by omega, by go_num, row_next HJ.out hkj HD.out HX.out⟩
            case measure => simp [intOf]; omega
      · have hn' : isNm x = false := by simpa using hn
        have HX : Hid (isNm x = false) := hn'
        clear hn'
        have hcl : cl x = 4 ∨ cl x = 12 ∨ cl x = 8 ∨ cl x = 0 := by have := cl_cases x; simp [isNm] at hn; omega
        clear hn
        have HJE : Hid (N = j - k) := row_stop HJ.out HD.out HX.out
        obtain ⟨s, hs⟩ : ∃ s, s = bs ((L.drop k).take (j - k)) := ⟨_, rfl⟩
        have hcv : ∀ ob, (convert 23 9 (.slice (some ⟨b, o + k, none⟩) (j - k) (cap - k))).run Tryd.prog (w.alloc ob) = .ok (.string s) (w.alloc ob) := fun ob => by
          rw [hs]; exact ((HA.out.drop k).alloc ob).conv' (j - k) (cap - k) (by have := HN.out; simp; omega)
        have HS : Hid (s = bs ((L.drop k).take (j - k))) := hs
        clear hs
        obtain ⟨t, ht⟩ : ∃ t, nameTk ((L.drop k).take (j - k)) = t := ⟨_, rfl⟩
        have HE : Hid (r = .ok (t, j - k)) := by
          rw [← Hr.out]; unfold nameR
          rw [if_neg (by rw [HR.out, HJE.out]; omega), take_while_len, HR.out, HJE.out, ht, List.length_take, List.length_drop, Nat.min_eq_left (by have := HN.out; omega)]
          exact rfl
        have HTk : Hid (nameTk ((L.drop k).take (j - k)) = t) := ht
        clear ht
        rcases hcl with hcl | hcl | hcl | hcl
        all_goals
          go_wp2_with (first
            | (go_at_call 39; refine (cls_any _ _).mono ?_; rintro e w' ⟨rfl, rfl⟩)
            | (go_at_call 61; refine (nameTok_at _ (HT.out.alloc _) _ s HS.out k t HTk.out).mono ?_; rintro e u ⟨rfl, hb2⟩; have hg := (hb2.block w.heap.size (by simp)).trans (heap_alloc_last _ _))
            | (refine wpList_store_tok rfl (.tmp 4) (.tmp 35) rfl w.heap.size t.kind k t.val (bs t.name) rfl rfl _ hg rfl ?_))
          (try rw [Exit.noGoto_ret])
          refine bodyPost_ret (v := .tuple #[.agg #[.int .i64 t.kind, .int .i64 k, .int .i64 t.val, .string (bs t.name)], .int .i64 j, .int .i64 0]) ?_ rfl ?_
          · exact results_tok Tryd.results43 _ _ w.heap.size 31 _ (0, 0) _ _ rfl rfl rfl (setRow_heap _ _ _ _ _ _ hg) rfl
          refine ⟨?_, ?_⟩
          · rw [HE.out]
            exact ret_three rfl (by omega) rfl
          · exact below_setRow (((Below.refl _ _).alloc (Nat.le_refl _) _).trans (hb2.mono (by simp))) (Nat.le_refl _) _
    · have HJE : Hid (N = j - k) := row_end HJ.out (by have := HN.out; omega)
      obtain ⟨s, hs⟩ : ∃ s, s = bs ((L.drop k).take (j - k)) := ⟨_, rfl⟩
      have hcv : ∀ ob, (convert 23 9 (.slice (some ⟨b, o + k, none⟩) (j - k) (cap - k))).run Tryd.prog (w.alloc ob) = .ok (.string s) (w.alloc ob) := fun ob => by
        rw [hs]; exact ((HA.out.drop k).alloc ob).conv' (j - k) (cap - k) (by have := HN.out; simp; omega)
      have HS : Hid (s = bs ((L.drop k).take (j - k))) := hs
      clear hs
      obtain ⟨t, ht⟩ : ∃ t, nameTk ((L.drop k).take (j - k)) = t := ⟨_, rfl⟩
      have HE : Hid (r = .ok (t, j - k)) := by
        rw [← Hr.out]; unfold nameR
        rw [if_neg (by rw [HR.out, HJE.out]; omega), take_while_len, HR.out, HJE.out, ht, List.length_take, List.length_drop, Nat.min_eq_left (by have := HN.out; omega)]
        exact rfl
      have HTk : Hid (nameTk ((L.drop k).take (j - k)) = t) := ht
      clear ht
      go_wp2_with (first
        | (go_at_call 39; refine (cls_any _ _).mono ?_; rintro e w' ⟨rfl, rfl⟩)
        | (go_at_call 61; refine (nameTok_at _ (HT.out.alloc _) _ s HS.out k t HTk.out).mono ?_; rintro e u ⟨rfl, hb2⟩; have hg := (hb2.block w.heap.size (by simp)).trans (heap_alloc_last _ _))
        | (refine wpList_store_tok rfl (.tmp 4) (.tmp 35) rfl w.heap.size t.kind k t.val (bs t.name) rfl rfl _ hg rfl ?_))
      (try rw [Exit.noGoto_ret])
      refine bodyPost_ret (v := .tuple #[.agg #[.int .i64 t.kind, .int .i64 k, .int .i64 t.val, .string (bs t.name)], .int .i64 j, .int .i64 0]) ?_ rfl ?_
      · exact results_tok Tryd.results43 _ _ w.heap.size 31 _ (0, 0) _ _ rfl rfl rfl (setRow_heap _ _ _ _ _ _ hg) rfl
      refine ⟨?_, ?_⟩
      · rw [HE.out]
        exact ret_three rfl (by omega) rfl
      · exact below_setRow (((Below.refl _ _).alloc (Nat.le_refl _) _).trans (hb2.mono (by simp))) (Nat.le_refl _) _
end Go.Proofs.YteiambniddddpaaDoor
