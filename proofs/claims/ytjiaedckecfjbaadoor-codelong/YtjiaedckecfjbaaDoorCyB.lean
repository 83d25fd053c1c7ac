import Derived.Test.YtjiaedckecfjbaaDoorCyA
import Derived.Laws.CopyOwn
set_option linter.unusedVariables false
namespace Go.Proofs.YtjiaedckecfjbaaDoor
open Go.ChangeShapes Go.WideShapes Go.ChangeAt Go.RowKit

/-- A number read digit by digit. -/
def ns : Bool → Nat → List UInt8 → Option (Nat × Nat)
  | _, v, [] => some (v, 0)
  | s, v, c :: l => if cl c = 7 then (if (s = true ∧ v = 0) ∨ (9223372036854775807 - (c.toNat - 48)) / 10 < v then none else (ns true (10 * v + (c.toNat - 48)) l).map fun p => (p.1, p.2 + 1)) else some (v, 0)

theorem valOf_ge (l : List UInt8) : ∀ v : Nat, v ≤ valOf v l := by
  induction l with
  | nil => intro v; simp [valOf]
  | cons c l ih =>
    intro v
    have := ih (10 * v + (c.toNat - 48))
    simp only [valOf, List.foldl_cons] at this ⊢
    omega

theorem ns_pos (l : List UInt8) : ∀ v : Nat, 0 < v → v ≤ 9223372036854775807 → ns true v l = if 9223372036854775807 < valOf v (l.takeWhile isDg) then none else some (valOf v (l.takeWhile isDg), (l.takeWhile isDg).length) := by
  induction l with
  | nil => intro v h0 h1; show some (v, 0) = if 9223372036854775807 < v then none else some (v, 0); rw [if_neg (by omega)]
  | cons c l ih =>
    intro v h0 h1
    by_cases hc : cl c = 7
    · have hr : 48 ≤ c.toNat ∧ c.toNat ≤ 57 := by have := cl_cases c; omega
      have hd : isDg c = true := by simp [isDg, hc]
      have hv : v ≠ 0 := by omega
      simp only [ns, hc, if_true, List.takeWhile_cons, hd, List.length_cons]
      have e : valOf v (c :: List.takeWhile isDg l) = valOf (10 * v + (c.toNat - 48)) (l.takeWhile isDg) := rfl
      rw [e]
      by_cases hq : (9223372036854775807 - (c.toNat - 48)) / 10 < v
      · have := valOf_ge (l.takeWhile isDg) (10 * v + (c.toNat - 48))
        rw [if_pos (.inr hq), if_pos (by omega)]
      · rw [if_neg (by omega), ih _ (by omega) (by omega)]
        split <;> simp
    · have hd : isDg c = false := by simp [isDg, hc]
      simp only [ns, hc, if_false, List.takeWhile_cons, hd, Bool.false_eq_true]
      show some (v, 0) = if 9223372036854775807 < v then none else some (v, 0)
      rw [if_neg (by omega)]

theorem ns_eq (l : List UInt8) : ns false 0 l = (numVal (l.takeWhile isDg)).map fun v => (v, (l.takeWhile isDg).length) := by
  cases l with
  | nil => simp [ns, numVal, valOf]
  | cons c l =>
    by_cases hc : cl c = 7
    · have hr : 48 ≤ c.toNat ∧ c.toNat ≤ 57 := by have := cl_cases c; omega
      have hd : isDg c = true := by simp [isDg, hc]
      simp only [ns, hc, if_true, List.takeWhile_cons, hd, List.length_cons]
      rw [if_neg (by simp)]
      have e : valOf 0 (c :: List.takeWhile isDg l) = valOf (c.toNat - 48) (l.takeWhile isDg) := by simp [valOf]
      rw [show 10 * 0 + (c.toNat - 48) = c.toNat - 48 by omega]
      by_cases h0 : c = 48
      · subst h0
        cases l with
        | nil => simp [ns, numVal, valOf]
        | cons d l =>
          by_cases hd' : cl d = 7
          · have hd2 : isDg d = true := by simp [isDg, hd']
            simp [ns, numVal, hd', hd2]
          · have hd2 : isDg d = false := by simp [isDg, hd']
            simp [ns, numVal, hd', hd2, valOf]
      · have h1 : c.toNat ≠ 48 := fun e => h0 (UInt8.toNat_inj.1 e)
        rw [ns_pos l _ (by omega) (by omega)]
        simp only [numVal, e, List.head?_cons]
        have h2 : ¬ (some c = some (48 : UInt8)) := fun e => h0 (Option.some.inj e)
        simp only [h2, and_false, false_or]
        split <;> simp
    · have hd : isDg c = false := by simp [isDg, hc]
      simp [ns, hc, hd, numVal, valOf]

/-- What a call that reads a token answers. -/
def TokRes (r : Except Nat (Tk × Nat)) (k : Nat) (e : Ending) : Prop :=
  match r with
  | .error er => ∃ z : Int, e = .returned (.tuple #[tz, .int .i64 z, .int .i64 (er : Int)])
  | .ok p => e = .returned (.tuple #[tv p.1 k, .int .i64 ((k + p.2 : Nat) : Int), .int .i64 0])

def numS (s : Bool) (v : Nat) (l : List UInt8) (d : Nat) : Except Nat (Tk × Nat) := match ns s v l with | none => .error 22 | some p => .ok (⟨2, p.1, []⟩, d + p.2)

theorem numS_next {L : List UInt8} {j k v : Nat} {x : UInt8} {r : Except Nat (Tk × Nat)} (H : numS (decide (k < j)) v (L.drop j) (j - k) = r) (hk : k ≤ j) (HD : L.drop j = x :: L.drop (j + 1)) (hc : cl x = 7)
    (h1 : ¬ (k < j ∧ v = 0)) (h2 : ¬ (9223372036854775807 - (x.toNat - 48)) / 10 < v) : numS (decide (k < j + 1)) (10 * v + (x.toNat - 48)) (L.drop (j + 1)) (j + 1 - k) = r := by
  rw [← H, HD]
  have e : decide (k < j + 1) = true := by simp; omega
  rw [e]
  simp only [numS, ns, hc, if_true]
  rw [if_neg (by simp only [decide_eq_true_eq]; intro h; rcases h with h | h; exact h1 h; exact h2 h)]
  cases ns true (10 * v + (x.toNat - 48)) (L.drop (j + 1)) with
  | none => rfl
  | some p => simp; omega
theorem numS_stop {L : List UInt8} {j k v : Nat} {x : UInt8} {r : Except Nat (Tk × Nat)} (H : numS (decide (k < j)) v (L.drop j) (j - k) = r) (HD : L.drop j = x :: L.drop (j + 1)) (hc : cl x ≠ 7) : r = .ok (⟨2, v, []⟩, j - k) := by
  rw [← H, HD]; simp [numS, ns, hc]
theorem numS_end {L : List UInt8} {j k v : Nat} {r : Except Nat (Tk × Nat)} (H : numS (decide (k < j)) v (L.drop j) (j - k) = r) (hj : L.length ≤ j) : r = .ok (⟨2, v, []⟩, j - k) := by
  rw [← H, List.drop_of_length_le hj]; simp [numS, ns]
theorem numS_bad {L : List UInt8} {j k v : Nat} {x : UInt8} {r : Except Nat (Tk × Nat)} (H : numS (decide (k < j)) v (L.drop j) (j - k) = r) (HD : L.drop j = x :: L.drop (j + 1)) (hc : cl x = 7)
    (h : (k < j ∧ v = 0) ∨ (9223372036854775807 - (x.toNat - 48)) / 10 < v) : r = .error 22 := by
  rw [← H, HD]; simp only [numS, ns, hc, if_true]; rw [if_pos (by simpa using h)]

theorem ret_three {a b : Value} {c d : Int} {e f : Int} (h1 : a = b) (h2 : c = d) (h3 : e = f) : Ending.returned (.tuple #[a, .int .i64 c, .int .i64 e]) = .returned (.tuple #[b, .int .i64 d, .int .i64 f]) := by rw [h1, h2, h3]

set_option maxHeartbeats 1000000 in
theorem number_any (w : World) (b o cap : Nat) (L : List UInt8) (hA : At w b o L) (hm : L.length ≤ 9223372036854775807) (k : Nat) (hk : k ≤ L.length) (r : Except Nat (Tk × Nat)) (hr : numS false 0 (L.drop k) 0 = r) :
    Calls Tryd.prog 60 #[.slice (some ⟨b, o, none⟩) L.length cap, .int .i64 k] w fun e w' => TokRes r k e ∧ Below w.heap.size w w' := by
  have HR : Hid (numS (decide (k < k)) 0 (L.drop k) (k - k) = r) := by
    have e0 : decide (k < k) = false := by simp
    rw [e0, Nat.sub_self]; exact hr
  clear hr
  obtain ⟨n, hn⟩ : ∃ n, n = L.length := ⟨_, rfl⟩
  rw [← hn] at hm hk ⊢
  have HN : Hid (n = L.length) := hn
  clear hn
  have hb := hA.1
  have HA : Hid (At w b o L) := hA
  clear hA
  go_enter Tryd.func60, Tryd.ntmps60
  go_wp2
  go_step3
  go_wp2
  go_step3
  go_wp2
  go_loop [7, 8] (fun z v => ∃ j y : Nat, k ≤ j ∧ j ≤ n ∧ y ≤ 9223372036854775807 ∧ z = .int .i64 y ∧ v = .int .i64 j ∧ Hid (numS (decide (k < j)) y (L.drop j) (j - k) = r)) (fun _ v => n - (intOf v).toNat)
  case atStart => exact ⟨k, 0, by omega, hk, by omega, rfl, rfl, HR⟩
  case round =>
    obtain ⟨j, y, hkj, hj, hy, rfl, rfl, HJ⟩ := hrel
    by_cases hlt : j < n
    · obtain ⟨x, hx⟩ : ∃ x, x = L[j]'(HN.out ▸ hlt) := ⟨_, rfl⟩
      have hcell := HA.out.2 j (HN.out ▸ hlt)
      rw [← hx] at hcell
      have HD : Hid (L.drop j = x :: L.drop (j + 1)) := by rw [hx]; exact List.drop_eq_getElem_cons _
      clear hx
      by_cases hcl : cl x = 7
      · have hr : 48 ≤ x.toNat ∧ x.toNat ≤ 57 := by have := cl_cases x; omega
        obtain ⟨hr1, hr2⟩ := hr
        by_cases h1 : k < j ∧ y = 0
        · have HB : Hid ((k < j ∧ y = 0) ∨ (9223372036854775807 - (x.toNat - 48)) / 10 < y) := .inl h1
          obtain ⟨h1, rfl⟩ := h1
          go_wp2_with (go_at_call 57; refine (cls_any _ _).mono ?_; rintro e w' ⟨rfl, rfl⟩)
          (try rw [Exit.noGoto_ret])
          refine bodyPost_ret (v := .tuple #[tz, .int .i64 0, .int .i64 22]) (by simp [results, Tryd.results60, go_sem, tz]; rfl) rfl ⟨?_, (Below.refl _ _).alloc (Nat.le_refl _) _⟩
          rw [numS_bad HJ.out HD.out hcl (by first | exact HB.out | exact .inl ⟨by omega, rfl⟩)]
          exact ⟨0, rfl⟩
        · have H1 : Hid (¬ (k < j ∧ y = 0)) := h1
          have h5 : ¬ k < j ∨ (k < j ∧ ¬ y = 0) := by omega
          clear h1
          by_cases h2 : (9223372036854775807 - (x.toNat - 48)) / 10 < y
          · have HB : Hid ((k < j ∧ y = 0) ∨ (9223372036854775807 - (x.toNat - 48)) / 10 < y) := .inr h2
            rcases h5 with h3 | ⟨h3, h4⟩
            all_goals
              go_wp2_with (go_at_call 57; refine (cls_any _ _).mono ?_; rintro e w' ⟨rfl, rfl⟩)
              (try rw [Exit.noGoto_ret])
              refine bodyPost_ret (v := .tuple #[tz, .int .i64 0, .int .i64 22]) (by simp [results, Tryd.results60, go_sem, tz]; rfl) rfl ⟨?_, (Below.refl _ _).alloc (Nat.le_refl _) _⟩
              rw [numS_bad HJ.out HD.out hcl (by first | exact HB.out | exact .inl ⟨by omega, rfl⟩)]
              exact ⟨0, rfl⟩
          · have H3 : Hid (numS (decide (k < j + 1)) (10 * y + (x.toNat - 48)) (L.drop (j + 1)) (j + 1 - k) = r) := numS_next HJ.out hkj HD.out hcl H1.out h2
            rcases h5 with h3 | ⟨h3, h4⟩
            all_goals
              go_wp2_with (go_at_call 57; refine (cls_any _ _).mono ?_; rintro e w' ⟨rfl, rfl⟩)
              go_round
              case rel => exact ⟨j + 1, 10 * y + (x.toNat - 48), by omega, by omega, by omega, by go_num, by go_num, H3⟩
              case measure => simp [intOf]; omega
      · have hcl2 : cl x = 6 ∨ cl x = 4 ∨ cl x = 12 ∨ cl x = 8 ∨ cl x = 0 := by have := cl_cases x; omega
        have HC : Hid (cl x ≠ 7) := hcl
        clear hcl
        rcases hcl2 with hcl | hcl | hcl | hcl | hcl
        all_goals
          go_wp2_with (go_at_call 57; refine (cls_any _ _).mono ?_; rintro e w' ⟨rfl, rfl⟩)
          (try rw [Exit.noGoto_ret])
          refine bodyPost_ret (v := .tuple #[.agg #[.int .i64 2, .int .i64 k, .int .i64 y, .string .empty], .int .i64 j, .int .i64 0]) (by simp [results, Tryd.results60, go_sem]; rfl) rfl ⟨?_, (Below.refl _ _).alloc (Nat.le_refl _) _⟩
          rw [numS_stop HJ.out HD.out HC.out]
          exact ret_three rfl (by omega) rfl
    · go_wp2
      (try rw [Exit.noGoto_ret])
      refine bodyPost_ret (v := .tuple #[.agg #[.int .i64 2, .int .i64 k, .int .i64 y, .string .empty], .int .i64 j, .int .i64 0]) (by simp [results, Tryd.results60, go_sem]; rfl) rfl ⟨?_, (Below.refl _ _).alloc (Nat.le_refl _) _⟩
      rw [numS_end HJ.out (by have := HN.out; omega)]
      exact ret_three rfl (by omega) rfl
end Go.Proofs.YtjiaedckecfjbaaDoor
namespace Go.Proofs.YtjiaedckecfjbaaDoor
open Go.ChangeShapes Go.WideShapes Go.ChangeAt Go.RowKit

theorem At.alloc {w b o M} (h : At w b o M) (ob : Obj) : At (w.alloc ob) b o M :=
  ⟨by have := h.1; simp; omega, fun i hi => by rw [World.cell?_alloc_past ob b (o + i) h.1]; exact h.2 i hi⟩
theorem Tab.alloc {w} (h : Tab w) (ob : Obj) : Tab (w.alloc ob) := by
  obtain ⟨h1, h2, h3⟩ := h
  exact ⟨by simp; omega, fun i hi => by rw [World.cell?_alloc_past ob _ i (by omega)]; exact h2 i hi, fun i hi => by rw [World.cell?_alloc_past ob _ i (by omega)]; exact h3 i hi⟩
theorem Tab.below {w w' B} (h : Tab w) (hb : Below B w w') (hB : 2 ≤ B) : Tab w' := by
  obtain ⟨h1, h2, h3⟩ := h
  have := hb.size
  exact ⟨by omega, fun i hi => by rw [hb.cell (p := ⟨1, i, none⟩) (by show 1 < B; omega)]; exact h2 i hi, fun i hi => by rw [hb.cell (p := ⟨0, i, none⟩) (by show 0 < B; omega)]; exact h3 i hi⟩
theorem At.below {w w' b o M B} (h : At w b o M) (hb : Below B w w') (hB : b < B) : At w' b o M :=
  ⟨by have := h.1; have := hb.size; omega, fun i hi => by rw [hb.cell (by exact hB)]; exact h.2 i hi⟩
theorem Txt.below {w w' ao cap L B} (h : Txt w ao cap L) (hb : Below B w w') (hB : w.heap.size ≤ B) : Txt w' ao cap L :=
  ⟨h.1, h.2.1, fun hn => by obtain ⟨b, o, e, hA⟩ := h.2.2 hn; exact ⟨b, o, e, hA.below hb (by have := hA.1; omega)⟩⟩

theorem nameTok_at (w : World) (hT : Tab w) (S : List UInt8) (s : ByteArray) (hs : s = bs S) (k : Int) (t : Tk) (ht : nameTk S = t) :
    Calls Tryd.prog 63 #[.string s, .int .i64 k] w fun e w' => e = .returned (.agg #[.int .i64 t.kind, .int .i64 k, .int .i64 t.val, .string (bs t.name)]) ∧ Below w.heap.size w w' := by
  subst hs ht
  exact nameTok_any w hT S k

theorem info33 : (Tryd.prog.info? 99).map (·.size) = some 4 := by kernel_rfl

theorem wpList_store_tok {ops : Array Oper} {rest : List Oper} {o : Oper} {a : Act} {w : World} {Q : Exit → Act → World → Prop} (hgd : o.guard = none) (x y : Operand) (ho : o.op = .store 99 x y)
    (g : Nat) (c0 c1 c2 : Int) (s : ByteArray) (hx : a.eval x = .pointer (some ⟨g, 0, none⟩)) (hy : a.eval y = .agg #[.int .i64 c0, .int .i64 c1, .int .i64 c2, .string s])
    (old : Array Value) (hg : w.heap[g]? = some (.cells old 99 (0, 0))) (hold : old.size = 4)
    (h : wpList Tryd.prog ops Q rest (a.put o.dst undef) (w.setRow g #[.int .i64 c0, .int .i64 c1, .int .i64 c2, .string s])) : wpList Tryd.prog ops Q (o :: rest) a w :=
  wpList_store_row hgd 99 x y ho g #[.int .i64 c0, .int .i64 c1, .int .i64 c2, .string s] hx hy 99 old hg info33 hold (by simp [Value.oneCell']) h

theorem results_tok {fn : Func} {p q r : Tmp} (h : fn.results = #[.cell p 99, .tmp q, .tmp r]) (tmps : Array Value) (w : World) (g : Nat) (t : TypeId) (cs : Array Value) (fr : Nat × Nat) (v1 v2 : Value)
    (hp : tmps.getD p undef = .pointer (some ⟨g, 0, none⟩)) (hq : tmps.getD q undef = v1) (hr : tmps.getD r undef = v2) (hg : w.heap[g]? = some (.cells cs t fr)) (hi : cs.size = 4) :
    (results fn tmps).run Tryd.prog w = .ok (.tuple #[.agg cs, v1, v2]) w := by
  have hp' : tmps[p]?.getD undef = .pointer (some ⟨g, 0, none⟩) := by simpa using hp
  have hq' : tmps[q]?.getD undef = v1 := by simpa using hq
  have hr' : tmps[r]?.getD undef = v2 := by simpa using hr
  simp [results, h, hp', hq', hr', asAddr, run_loadVar_row w g t 99 cs fr _ hg Tryd.underlying99 rfl (by rw [hi]; exact info33)]

theorem take_while_len {L : List UInt8} (p : UInt8 → Bool) : L.takeWhile p = L.take (L.takeWhile p).length := by
  induction L with
  | nil => rfl
  | cons c l ih => by_cases h : p c = true <;> simp [h]; exact ih

theorem row_next {L : List UInt8} {j k N : Nat} {x : UInt8} {p : UInt8 → Bool} (H : j - k + ((L.drop j).takeWhile p).length = N) (hk : k ≤ j) (HD : L.drop j = x :: L.drop (j + 1)) (hc : p x = true) : j + 1 - k + ((L.drop (j + 1)).takeWhile p).length = N := by
  rw [HD] at H
  simp [hc] at H
  omega
theorem row_stop {L : List UInt8} {j k N : Nat} {x : UInt8} {p : UInt8 → Bool} (H : j - k + ((L.drop j).takeWhile p).length = N) (HD : L.drop j = x :: L.drop (j + 1)) (hc : p x = false) : N = j - k := by
  rw [HD] at H
  simp [hc] at H
  omega
theorem row_end {L : List UInt8} {j k N : Nat} {p : UInt8 → Bool} (H : j - k + ((L.drop j).takeWhile p).length = N) (hj : L.length ≤ j) : N = j - k := by
  rw [List.drop_of_length_le hj] at H
  simp at H
  omega
theorem row_more {L : List UInt8} {j k N : Nat} {x : UInt8} {p : UInt8 → Bool} (H : j - k + ((L.drop j).takeWhile p).length = N) (hk : k ≤ j) (HD : L.drop j = x :: L.drop (j + 1)) (hc : p x = true) : j - k < N := by
  rw [HD] at H
  simp [hc] at H
  omega

def nameR (l : List UInt8) : Except Nat (Tk × Nat) := if 64 < (l.takeWhile isNm).length then .error 21 else .ok (nameTk (l.takeWhile isNm), (l.takeWhile isNm).length)

set_option maxHeartbeats 1000000 in
theorem name_any (w : World) (hT : Tab w) (b o cap : Nat) (L : List UInt8) (hA : At w b o L) (hc : L.length ≤ cap) (hm : cap ≤ 9223372036854775807) (k : Nat) (hk : k < L.length) :
    Calls Tryd.prog 61 #[.slice (some ⟨b, o, none⟩) L.length cap, .int .i64 k] w fun e w' => TokRes (nameR (L.drop k)) k e ∧ Below w.heap.size w w' := by
  obtain ⟨r, hr⟩ : ∃ r, nameR (L.drop k) = r := ⟨_, rfl⟩
  rw [hr]
  have Hr : Hid (nameR (L.drop k) = r) := hr
  clear hr
  obtain ⟨N, hN⟩ : ∃ N, ((L.drop k).takeWhile isNm).length = N := ⟨_, rfl⟩
  have HR : Hid (((L.drop k).takeWhile isNm).length = N) := hN
  clear hN
  have HT : Hid (Tab w) := hT
  clear hT
  obtain ⟨n, hn⟩ : ∃ n, n = L.length := ⟨_, rfl⟩
  rw [← hn] at hc hk ⊢
  have HN : Hid (n = L.length) := hn
  clear hn
  have hb := hA.1
  have HA : Hid (At w b o L) := hA
  clear hA
  go_enter Tryd.func61, Tryd.ntmps61
  go_wp2
  go_step3
  go_wp2
  go_step3
  go_wp2
  go_loop [7] (fun v => ∃ j : Nat, k ≤ j ∧ j ≤ n ∧ j - k ≤ 64 ∧ v = .int .i64 j ∧ Hid (j - k + ((L.drop j).takeWhile isNm).length = N)) (fun v => n - (intOf v).toNat)
  case atStart => exact ⟨k, by omega, by omega, by omega, rfl, by have := HR.out; show k - k + _ = N; omega⟩
  case round =>
    obtain ⟨j, hkj, hj, h64, rfl, HJ⟩ := hrel
    by_cases hlt : j < n
    · obtain ⟨x, hx⟩ : ∃ x, x = L[j]'(HN.out ▸ hlt) := ⟨_, rfl⟩
      have hcell := HA.out.2 j (HN.out ▸ hlt)
      rw [← hx] at hcell
      have HD : Hid (L.drop j = x :: L.drop (j + 1)) := by rw [hx]; exact List.drop_eq_getElem_cons _
      clear hx
      by_cases hn : isNm x = true
      · have HX : Hid (isNm x = true) := hn
        have hcl : cl x = 7 ∨ cl x = 6 := by simpa [isNm] using hn
        clear hn
        by_cases h5 : j - k = 64
        · have HE : Hid (r = .error 21) := by
            rw [← Hr.out]; unfold nameR
            rw [if_pos (by have := row_more HJ.out hkj HD.out HX.out; rw [HR.out]; omega)]; exact rfl
          have h6 : j = k + 64 := by omega
          subst h6
          rcases hcl with hcl | hcl
          all_goals
            go_wp2_with (go_at_call 57; refine (cls_any _ _).mono ?_; rintro e w' ⟨rfl, rfl⟩)
            (try rw [Exit.noGoto_ret])
            refine bodyPost_ret (v := .tuple #[tz, .int .i64 0, .int .i64 21]) (by simp [results, Tryd.results61, go_sem, tz]; rfl) rfl ⟨?_, (Below.refl _ _).alloc (Nat.le_refl _) _⟩
            rw [HE.out]
            exact ⟨0, rfl⟩
        · rcases hcl with hcl | hcl
          all_goals
            go_wp2_with (go_at_call 57; refine (cls_any _ _).mono ?_; rintro e w' ⟨rfl, rfl⟩)
            go_round
            case rel => exact ⟨j + 1, by omega, by omega, by omega, by go_num, row_next HJ.out hkj HD.out HX.out⟩
            case measure => simp [intOf]; omega
      · have hn' : isNm x = false := by simpa using hn
        have HX : Hid (isNm x = false) := hn'
        clear hn'
        have hcl : cl x = 4 ∨ cl x = 12 ∨ cl x = 8 ∨ cl x = 0 := by have := cl_cases x; simp [isNm] at hn; omega
        clear hn
        have HJE : Hid (N = j - k) := row_stop HJ.out HD.out HX.out
        obtain ⟨s, hs⟩ : ∃ s, s = bs ((L.drop k).take (j - k)) := ⟨_, rfl⟩
        have hcv : ∀ ob, (convert 28 9 (.slice (some ⟨b, o + k, none⟩) (j - k) (cap - k))).run Tryd.prog (w.alloc ob) = .ok (.string s) (w.alloc ob) := fun ob => by
          rw [hs]; exact ((HA.out.drop k).alloc ob).conv' (j - k) (cap - k) (by have := HN.out; simp; omega)
        have HS : Hid (s = bs ((L.drop k).take (j - k))) := hs
        clear hs
        obtain ⟨t, ht⟩ : ∃ t, nameTk ((L.drop k).take (j - k)) = t := ⟨_, rfl⟩
        have HE : Hid (r = .ok (t, j - k)) := by
          rw [← Hr.out]; unfold nameR
          rw [if_neg (by rw [HR.out, HJE.out]; omega), take_while_len, HR.out, HJE.out, ht, List.length_take, List.length_drop, Nat.min_eq_left (by have := HN.out; omega)]
          exact rfl
        have HTk : Hid (nameTk ((L.drop k).take (j - k)) = t) := ht
        clear ht
        rcases hcl with hcl | hcl | hcl | hcl
        all_goals
          go_wp2_with (first
            | (go_at_call 57; refine (cls_any _ _).mono ?_; rintro e w' ⟨rfl, rfl⟩)
            | (go_at_call 63; refine (nameTok_at _ (HT.out.alloc _) _ s HS.out k t HTk.out).mono ?_; rintro e u ⟨rfl, hb2⟩; have hg := (hb2.block w.heap.size (by simp)).trans (heap_alloc_last _ _))
            | (refine wpList_store_tok rfl (.tmp 4) (.tmp 35) rfl w.heap.size t.kind k t.val (bs t.name) rfl rfl _ hg rfl ?_))
          (try rw [Exit.noGoto_ret])
          refine bodyPost_ret (v := .tuple #[.agg #[.int .i64 t.kind, .int .i64 k, .int .i64 t.val, .string (bs t.name)], .int .i64 j, .int .i64 0]) ?_ rfl ?_
          · exact results_tok Tryd.results61 _ _ w.heap.size 99 _ (0, 0) _ _ rfl rfl rfl (setRow_heap _ _ _ _ _ _ hg) rfl
          refine ⟨?_, ?_⟩
          · rw [HE.out]
            exact ret_three rfl (by omega) rfl
          · exact below_setRow (((Below.refl _ _).alloc (Nat.le_refl _) _).trans (hb2.mono (by simp))) (Nat.le_refl _) _
    · have HJE : Hid (N = j - k) := row_end HJ.out (by have := HN.out; omega)
      obtain ⟨s, hs⟩ : ∃ s, s = bs ((L.drop k).take (j - k)) := ⟨_, rfl⟩
      have hcv : ∀ ob, (convert 28 9 (.slice (some ⟨b, o + k, none⟩) (j - k) (cap - k))).run Tryd.prog (w.alloc ob) = .ok (.string s) (w.alloc ob) := fun ob => by
        rw [hs]; exact ((HA.out.drop k).alloc ob).conv' (j - k) (cap - k) (by have := HN.out; simp; omega)
      have HS : Hid (s = bs ((L.drop k).take (j - k))) := hs
      clear hs
      obtain ⟨t, ht⟩ : ∃ t, nameTk ((L.drop k).take (j - k)) = t := ⟨_, rfl⟩
      have HE : Hid (r = .ok (t, j - k)) := by
        rw [← Hr.out]; unfold nameR
        rw [if_neg (by rw [HR.out, HJE.out]; omega), take_while_len, HR.out, HJE.out, ht, List.length_take, List.length_drop, Nat.min_eq_left (by have := HN.out; omega)]
        exact rfl
      have HTk : Hid (nameTk ((L.drop k).take (j - k)) = t) := ht
      clear ht
      go_wp2_with (first
        | (go_at_call 57; refine (cls_any _ _).mono ?_; rintro e w' ⟨rfl, rfl⟩)
        | (go_at_call 63; refine (nameTok_at _ (HT.out.alloc _) _ s HS.out k t HTk.out).mono ?_; rintro e u ⟨rfl, hb2⟩; have hg := (hb2.block w.heap.size (by simp)).trans (heap_alloc_last _ _))
        | (refine wpList_store_tok rfl (.tmp 4) (.tmp 35) rfl w.heap.size t.kind k t.val (bs t.name) rfl rfl _ hg rfl ?_))
      (try rw [Exit.noGoto_ret])
      refine bodyPost_ret (v := .tuple #[.agg #[.int .i64 t.kind, .int .i64 k, .int .i64 t.val, .string (bs t.name)], .int .i64 j, .int .i64 0]) ?_ rfl ?_
      · exact results_tok Tryd.results61 _ _ w.heap.size 99 _ (0, 0) _ _ rfl rfl rfl (setRow_heap _ _ _ _ _ _ hg) rfl
      refine ⟨?_, ?_⟩
      · rw [HE.out]
        exact ret_three rfl (by omega) rfl
      · exact below_setRow (((Below.refl _ _).alloc (Nat.le_refl _) _).trans (hb2.mono (by simp))) (Nat.le_refl _) _
end Go.Proofs.YtjiaedckecfjbaaDoor
namespace Go.Proofs.YtjiaedckecfjbaaDoor
open Go.ChangeShapes Go.WideShapes Go.ChangeAt Go.RowKit

def signR (l : List UInt8) : Except Nat (Tk × Nat) := if (bst l 29).2 = 0 then .error 20 else .ok (⟨(bst l 29).1, 0, []⟩, (bst l 29).2)

theorem signs_len : ∀ i, i < 29 → (SIGNS.getD i []).length ≤ 2 ∧ 0 < (SIGNS.getD i []).length := by decide

theorem bst_small (l : List UInt8) : ∀ i, i ≤ 29 → (bst l i).1 ≤ 68 ∧ (bst l i).2 ≤ 2 ∧ (bst l i).2 ≤ l.length
  | 0, _ => by simp [bst]
  | i + 1, h => by
    have ih := bst_small l i (by omega)
    have := signs_len i (by omega)
    unfold bst
    split
    · rename_i hp
      have := (List.isPrefixOf_iff_prefix.1 hp.2).length_le
      simp only
      omega
    · exact ih

def z4 : Array Value := #[.int .i64 0, .int .i64 0, .int .i64 0, .string ⟨#[]⟩]

structure SA (l : List UInt8) (i K M : Nat) : Prop where
  out : bst l i = (K, M)
def SB (l : List UInt8) (i m : Nat) (s : ByteArray) (P : Bool) : Prop := s = bs (SIGNS.getD i []) ∧ m = (SIGNS.getD i []).length ∧ (SIGNS.getD i []).isPrefixOf l = P
structure SR (l : List UInt8) (r : Except Nat (Tk × Nat)) : Prop where
  out : signR l = r

theorem SA.hit {l i K M m s} (h : SA l i K M) (hb : SB l i m s true) (hm : M < m) : SA l (i + 1) (40 + i) m := by
  have h := h.out
  refine ⟨?_⟩
  unfold bst
  rw [h, if_pos ⟨by rw [← hb.2.1]; exact hm, hb.2.2⟩, hb.2.1]
theorem SA.miss {l i K M m s P} (h : SA l i K M) (hb : SB l i m s P) (hm : P = false ∨ ¬ M < m) : SA l (i + 1) K M := by
  have h := h.out
  refine ⟨?_⟩
  unfold bst
  rw [h, if_neg (by rw [← hb.2.1, hb.2.2]; rintro ⟨h1, h2⟩; rcases hm with e | e; rw [e] at h2; cases h2; exact e h1)]
theorem SA.none {l K r} (h : SA l 29 K 0) (hr : SR l r) : r = .error 20 := by
  have h := h.out; have hr := hr.out; unfold signR at hr; rw [← hr, h]; rfl
theorem SA.some {l K M r} (h : SA l 29 K M) (hr : SR l r) (hM : ¬ M = 0) : r = .ok (⟨K, 0, []⟩, M) := by
  have h := h.out; have hr := hr.out; unfold signR at hr; rw [← hr, h]; simp [hM]
theorem SA.small {l i K M} (h : SA l i K M) (hi : i ≤ 29) : K ≤ 68 ∧ M ≤ 2 ∧ M ≤ l.length := by
  have := bst_small l i hi
  rw [h.out] at this; exact this

theorem starts_sb (w : World) (b o c m' m i : Nat) (M : List UInt8) (s : ByteArray) (P : Bool) (hA : At w b o M) (hc : m' ≤ c) (hm : c ≤ 9223372036854775807) (hl : m' = M.length) (hi : i < 29) (hP : SB M i m s P) :
    Calls Tryd.prog 58 #[.slice (some ⟨b, o, none⟩) m' c, .string s] w fun e w' => e = .returned (.bool P) ∧ w' = w := by
  rw [hP.1]
  exact starts_at w b o c m' M _ P hA hc hm (by have := signs_len i hi; omega) hl hP.2.2

theorem At.drewN {w b o M} (h : At w b o M) (n : Nat) : At (w.drewN n) b o M := ⟨by simpa using h.1, fun i hi => by simpa using h.2 i hi⟩

theorem below_drewN {B : Nat} {a w : World} (h : Below B a w) (n : Nat) : Below B a (w.drewN n) := h.trans ⟨by rfl, by rfl, by rfl, by simp, fun k _ => by simp⟩

set_option maxHeartbeats 1000000 in
theorem sign_any (w : World) (hT : Tab w) (b o cap : Nat) (L : List UInt8) (hA : At w b o L) (hc : L.length ≤ cap) (hm : cap ≤ 9223372036854775807) (k : Nat) (hk : k < L.length) :
    Calls Tryd.prog 62 #[.slice (some ⟨b, o, none⟩) L.length cap, .int .i64 k] w fun e w' => TokRes (signR (L.drop k)) k e ∧ Below w.heap.size w w' := by
  obtain ⟨r, hr⟩ : ∃ r, signR (L.drop k) = r := ⟨_, rfl⟩
  rw [hr]
  have Hr : SR (L.drop k) r := ⟨hr⟩
  clear hr
  obtain ⟨n, hn⟩ : ∃ n, n = L.length := ⟨_, rfl⟩
  rw [← hn] at hc hk ⊢
  have HN : Hid (n = L.length) := hn
  clear hn
  go_enter Tryd.func62, Tryd.ntmps62
  go_wp2
  go_loopw [7, 8, 10] (fun z v c wr => ∃ i K M : Nat, i ≤ 29 ∧ c = .int .i64 i ∧ z = .int .i64 K ∧ v = .int .i64 M ∧ SA (L.drop k) i K M ∧ Below w.heap.size w wr ∧ wr.heap[w.heap.size]? = some (.cells z4 99 (0, 0))) (fun _ _ c _ => 29 - (intOf c).toNat)
  case atStart => exact ⟨0, 0, 0, by omega, rfl, rfl, rfl, ⟨rfl⟩, (Below.refl _ _).alloc (Nat.le_refl _) _, heap_alloc_last _ _⟩
  case round =>
    obtain ⟨i, K, M, hi, rfl, rfl, rfl, HB, hbl, hg⟩ := hrel
    obtain ⟨hs1, hs2, hs3⟩ := HB.small hi
    have HG : Hid (wr.heap[w.heap.size]? = some (.cells z4 99 (0, 0))) := hg
    clear hg
    have HS3 : Hid (M ≤ (L.drop k).length) := hs3
    clear hs3
    by_cases hlt : i < 29
    · have hcell := (hT.below hbl hT.1).2.2 i hlt
      have HA2 : At wr b o L := hA.below hbl hA.1
      obtain ⟨s, m, P, hm3, hm4, hsz, HS⟩ : ∃ s m P, m ≤ 2 ∧ 0 < m ∧ s.size = m ∧ SB (L.drop k) i m s P := ⟨_, _, _, (signs_len i hlt).1, (signs_len i hlt).2, bs_size _, rfl, rfl, rfl⟩
      rw [← HS.1] at hcell
      by_cases hgt : M < m
      · have hgI : (M : Int) < (m : Int) := by omega
        cases P
        · go_wp2_with fail
          go_quiet (first | (go_at_call 58; exact Calls.quiet_of_same (starts_sb _ b (o + k) (cap - k) (n - k) m i (L.drop k) s false ((HA2.drop k).drewN _) (by omega) (by omega) (by have := HN.out; simp; omega) hlt HS)))
          go_wp2_with fail
          go_roundw
          case rel => exact ⟨i + 1, K, M, by omega, by go_num, rfl, rfl, HB.miss HS (.inl rfl), below_drewN hbl _, by simpa using HG.out⟩
          case measure => simp [intOf]; omega
        · go_wp2_with fail
          go_quiet (first | (go_at_call 58; exact Calls.quiet_of_same (starts_sb _ b (o + k) (cap - k) (n - k) m i (L.drop k) s true ((HA2.drop k).drewN _) (by omega) (by omega) (by have := HN.out; simp; omega) hlt HS)))
          go_wp2_with fail
          go_quiet (fail)
          go_wp2_with fail
          go_roundw
          case rel => exact ⟨i + 1, 40 + i, m, by omega, by go_num, by go_num, rfl, HB.hit HS hgt, below_drewN hbl _, by simpa using HG.out⟩
          case measure => simp [intOf]; omega
      · have hd : decide ((M : Int) < (m : Int)) = false := by simp; omega
        have hgI : ¬ (M : Int) < (m : Int) := by omega
        go_wp2_with fail
        go_quiet (fail)
        go_wp2_with fail
        go_roundw
        case rel => exact ⟨i + 1, K, M, by omega, by go_num, rfl, rfl, HB.miss HS (.inr hgt), below_drewN hbl _, by simpa using HG.out⟩
        case measure => simp [intOf]; omega
    · have h29 : i = 29 := by omega
      subst h29
      have hg := HG.out
      have hMl : k + M ≤ n := by have := HS3.out; simp at this; have := HN.out; omega
      by_cases hM : M = 0
      · subst hM
        go_wp2_with (first | (refine wpList_store_tok rfl (.tmp 4) (.tmp 37) rfl w.heap.size 0 0 0 ⟨#[]⟩ rfl rfl _ hg rfl ?_) | fail)
        refine bodyPost_ret (v := .tuple #[tz, .int .i64 0, .int .i64 20]) ?_ rfl ?_
        · exact results_tok Tryd.results62 _ _ w.heap.size 99 _ (0, 0) _ _ rfl rfl rfl (setRow_heap _ _ _ _ _ _ hg) rfl
        refine ⟨?_, below_setRow hbl (Nat.le_refl _) _⟩
        rw [HB.none Hr]
        exact ⟨0, rfl⟩
      · go_wp2_with (first | (refine wpList_store_tok rfl (.tmp 4) (.tmp 40) rfl w.heap.size K k 0 ⟨#[]⟩ rfl rfl _ hg rfl ?_) | fail)
        refine bodyPost_ret (v := .tuple #[.agg #[.int .i64 K, .int .i64 k, .int .i64 0, .string ⟨#[]⟩], .int .i64 (k + M), .int .i64 0]) ?_ rfl ?_
        · exact results_tok Tryd.results62 _ _ w.heap.size 99 _ (0, 0) _ _ rfl rfl rfl (setRow_heap _ _ _ _ _ _ hg) rfl
        refine ⟨?_, below_setRow hbl (Nat.le_refl _) _⟩
        rw [HB.some Hr hM]
        exact ret_three rfl (by omega) rfl
end Go.Proofs.YtjiaedckecfjbaaDoor
namespace Go.Proofs.YtjiaedckecfjbaaDoor
open Go.ChangeShapes Go.WideShapes Go.ChangeAt Go.RowKit

structure TRL (l : List UInt8) (r : Except Nat (Tk × Nat)) : Prop where
  out : tk l = r

theorem TokRes.form {r k e} (h : TokRes r k e) : ∃ (K A V : Int) (S : ByteArray) (Z E : Int), e = .returned (.tuple #[.agg #[.int .i64 K, .int .i64 A, .int .i64 V, .string S], .int .i64 Z, .int .i64 E]) := by
  cases r with
  | error er => obtain ⟨z, h⟩ := h; exact ⟨0, 0, 0, .empty, z, er, h⟩
  | ok p => exact ⟨p.1.kind, k, p.1.val, bs p.1.name, _, _, h⟩

theorem tr_num {x : UInt8} {l r} (hc : cl x = 7) (h : TRL (x :: l) r) : numS false 0 (x :: l) 0 = r := by
  rw [← h.out]
  simp only [tk, hc, if_true, numS, ns_eq]
  cases numVal (List.takeWhile isDg (x :: l)) <;> simp
theorem tr_name {x : UInt8} {l r} (hc : cl x = 6) (h : TRL (x :: l) r) : nameR (x :: l) = r := by
  rw [← h.out]
  simp [tk, hc, nameR]
theorem tr_sign {x : UInt8} {l r} (hc : cl x ≠ 7) (hd : cl x ≠ 6) (h : TRL (x :: l) r) : signR (x :: l) = r := by
  rw [← h.out]
  unfold signR
  simp only [tk, hc, hd, if_false]

structure Name3 (L : List UInt8) (k : Nat) (r : Except Nat (Tk × Nat)) : Prop where
  name : cl (L.getD k 0) = 6 → nameR (L.drop k) = r
  num : cl (L.getD k 0) = 7 → numS false 0 (L.drop k) 0 = r
  sign : cl (L.getD k 0) ≠ 7 → cl (L.getD k 0) ≠ 6 → signR (L.drop k) = r

theorem name_at {w : World} (hT : Tab w) {b o cap n : Nat} {L : List UInt8} (hA : At w b o L) (hn : n = L.length) (hc : n ≤ cap) (hm : cap ≤ 9223372036854775807) {k : Nat} (hk : k < n) {r} (hr : nameR (L.drop k) = r) :
    Calls Tryd.prog 61 #[.slice (some ⟨b, o, none⟩) n cap, .int .i64 k] w fun e w' => TokRes r k e ∧ Below w.heap.size w w' := by
  subst hr hn; exact name_any w hT b o cap L hA hc hm k hk
theorem num_at {w : World} {b o cap n : Nat} {L : List UInt8} (hA : At w b o L) (hn : n = L.length) (hc : n ≤ cap) (hm : cap ≤ 9223372036854775807) {k : Nat} (hk : k < n) {r} (hr : numS false 0 (L.drop k) 0 = r) :
    Calls Tryd.prog 60 #[.slice (some ⟨b, o, none⟩) n cap, .int .i64 k] w fun e w' => TokRes r k e ∧ Below w.heap.size w w' := by
  subst hn; exact number_any w b o cap L hA (by omega) k (by omega) r hr
theorem sign_at {w : World} (hT : Tab w) {b o cap n : Nat} {L : List UInt8} (hA : At w b o L) (hn : n = L.length) (hc : n ≤ cap) (hm : cap ≤ 9223372036854775807) {k : Nat} (hk : k < n) {r} (hr : signR (L.drop k) = r) :
    Calls Tryd.prog 62 #[.slice (some ⟨b, o, none⟩) n cap, .int .i64 k] w fun e w' => TokRes r k e ∧ Below w.heap.size w w' := by
  subst hr hn; exact sign_any w hT b o cap L hA hc hm k hk

set_option maxHeartbeats 1000000 in
theorem token_any (w : World) (hT : Tab w) (b o cap n : Nat) (L : List UInt8) (hA : At w b o L) (hn : n = L.length) (hc : n ≤ cap) (hm : cap ≤ 9223372036854775807) (k : Nat) (hk : k < n) (r : Except Nat (Tk × Nat)) (hr : TRL (L.drop k) r) :
    Calls Tryd.prog 56 #[.slice (some ⟨b, o, none⟩) n cap, .int .i64 k] w fun e w' => TokRes r k e ∧ Below w.heap.size w w' := by
  have HN : Hid (n = L.length) := hn
  clear hn
  obtain ⟨x, hx⟩ : ∃ x, x = L[k]'(HN.out ▸ hk) := ⟨_, rfl⟩
  have hcell := hA.2 k (HN.out ▸ hk)
  rw [← hx] at hcell
  have HD : Hid (L.drop k = x :: L.drop (k + 1)) := by rw [hx]; exact List.drop_eq_getElem_cons _
  clear hx
  have hb := hA.1
  have hcl : cl x = 7 ∨ cl x = 6 ∨ cl x = 4 ∨ cl x = 12 ∨ cl x = 8 ∨ cl x = 0 := by have := cl_cases x; omega
  rcases hcl with hcl | hcl | hcl | hcl | hcl | hcl
  all_goals
    go_enter Tryd.func56, Tryd.ntmps56
    go_wp2_with (first
      | (go_at_call 57; refine (cls_any _ _).mono ?_; rintro e w' ⟨rfl, rfl⟩)
      | (go_at_call 60; refine (num_at (r := r) (hA.alloc _) HN.out hc hm hk (by rw [HD.out] at hr ⊢; exact tr_num hcl hr)).mono ?_; rintro e u ⟨hR, hb2⟩; obtain ⟨K, A, V, S, Z, E, rfl⟩ := hR.form; have hg := (hb2.block w.heap.size (by simp)).trans (heap_alloc_last _ _))
      | (go_at_call 61; refine (name_at (r := r) (hT.alloc _) (hA.alloc _) HN.out hc hm hk (by rw [HD.out] at hr ⊢; exact tr_name hcl hr)).mono ?_; rintro e u ⟨hR, hb2⟩; obtain ⟨K, A, V, S, Z, E, rfl⟩ := hR.form; have hg := (hb2.block w.heap.size (by simp)).trans (heap_alloc_last _ _))
      | (go_at_call 62; refine (sign_at (r := r) (hT.alloc _) (hA.alloc _) HN.out hc hm hk (by rw [HD.out] at hr ⊢; exact tr_sign (by omega) (by omega) hr)).mono ?_; rintro e u ⟨hR, hb2⟩; obtain ⟨K, A, V, S, Z, E, rfl⟩ := hR.form; have hg := (hb2.block w.heap.size (by simp)).trans (heap_alloc_last _ _))
      | (refine wpList_store_tok rfl _ _ rfl w.heap.size K A V S rfl rfl _ hg rfl ?_))
    refine bodyPost_ret (v := .tuple #[.agg #[.int .i64 K, .int .i64 A, .int .i64 V, .string S], .int .i64 Z, .int .i64 E]) ?_ rfl ?_
    · exact results_tok Tryd.results56 _ _ w.heap.size 99 _ (0, 0) _ _ rfl rfl rfl (setRow_heap _ _ _ _ _ _ hg) rfl
    exact ⟨hR, below_setRow (((Below.refl _ _).alloc (Nat.le_refl _) _).trans (hb2.mono (by simp))) (Nat.le_refl _) _⟩
end Go.Proofs.YtjiaedckecfjbaaDoor
namespace Go.Proofs.YtjiaedckecfjbaaDoor
open Go.ChangeShapes Go.WideShapes Go.ChangeAt Go.RowKit

def tc (t : T) : List Value := [.int .i64 t.kind, .int .i64 t.pos, .int .i64 t.val, .string (bs t.name)]
def tcs (ts : List T) : List Value := ts.flatMap tc

/-- A slice of tokens that holds ts, in a row of its own from block B on. -/
structure Own (w : World) (B : Nat) (v : Value) (ts : List T) : Prop where
  out : w.ownsRow B 99 4 v ts.length (tcs ts)

theorem tcs_snoc (ts : List T) (t : T) : tcs (ts ++ [t]) = tcs ts ++ tc t := by simp [tcs]

theorem own_keepL {w w' : World} {B e s v n xs} (h : w.ownsRow B e s v n xs) (hk : ∀ g, g < w.heap.size → w'.heap[g]? = w.heap[g]?) : w'.ownsRow B e s v n xs := by
  refine ⟨h.1, h.2.imp id ?_⟩
  rintro ⟨g, cap, cur, e1, e2, e3, e4⟩
  have hlt : g < w.heap.size := (Array.getElem?_eq_some_iff.1 e3).1
  exact ⟨g, cap, cur, e1, e2, (hk g hlt).trans e3, e4⟩

theorem own_blockL {w : World} {B e s v n xs} (h : w.ownsRow B e s v n xs) {g : Nat} (hg : v.ownBlock = some g) : B ≤ g ∧ g < w.heap.size := by
  rcases h.2 with ⟨rfl, _⟩ | ⟨g', cap, cur, rfl, e2, e3, e4⟩
  · simp [Value.ownBlock] at hg
  · simp [Value.ownBlock] at hg
    subst hg
    exact ⟨e2, (Array.getElem?_eq_some_iff.1 e3).1⟩

theorem cell_four_new (w : World) (a b c d : Value) (t : TypeId) : ∀ j u, [a, b, c, d][j]? = some u → (w.alloc (.cells #[a, b, c, d] t)).cell? ((⟨w.heap.size, 0, none⟩ : Addr).add j) = some u := by
  intro j u hj
  match j, hj with
  | 0, hj => simp at hj; subst hj; simp [Addr.add]
  | 1, hj => simp at hj; subst hj; simp [Addr.add]
  | 2, hj => simp at hj; subst hj; simp [Addr.add]
  | 3, hj => simp at hj; subst hj; simp [Addr.add]
  | j + 4, hj => simp at hj

theorem take_pos {l : List UInt8} {p : UInt8 → Bool} {x : UInt8} (hp : p x = true) : 0 < ((x :: l).takeWhile p).length := by simp [hp]
theorem tk_ok {l : List UInt8} {t m} (h : tk l = .ok (t, m)) : 0 < m ∧ m ≤ l.length := by
  cases l with
  | nil => simp [tk] at h
  | cons x l =>
    by_cases h7 : cl x = 7
    · have e := tr_num h7 ⟨h⟩
      rw [numS, ns_eq] at e
      have hp := take_pos (l := l) (p := isDg) (x := x) (by simp [isDg, h7])
      have hl := (List.takeWhile_prefix (p := isDg) (l := x :: l)).length_le
      cases hv : numVal (List.takeWhile isDg (x :: l)) with
      | none => rw [hv] at e; simp at e
      | some v => rw [hv] at e; simp at e; omega
    · by_cases h6 : cl x = 6
      · have e := tr_name h6 ⟨h⟩
        have hp := take_pos (l := l) (p := isNm) (x := x) (by simp [isNm, h6])
        have hl := (List.takeWhile_prefix (p := isNm) (l := x :: l)).length_le
        unfold nameR at e
        split at e
        · cases e
        · simp at e; omega
      · have e := tr_sign h7 h6 ⟨h⟩
        have hb := bst_small (x :: l) 29 (by omega)
        unfold signR at e
        split at e
        · cases e
        · simp at e; omega
theorem tk_err {l : List UInt8} {e} (h : tk l = .error e) : e = 20 ∨ e = 21 ∨ e = 22 := by
  cases l with
  | nil => simp [tk] at h; omega
  | cons x l =>
    by_cases h7 : cl x = 7
    · have e := tr_num h7 ⟨h⟩
      rw [numS] at e
      split at e <;> cases e
      simp
    · by_cases h6 : cl x = 6
      · have e := tr_name h6 ⟨h⟩
        unfold nameR at e
        split at e <;> cases e
        simp
      · have e := tr_sign h7 h6 ⟨h⟩
        unfold signR at e
        split at e <;> cases e
        simp

/-- What lies ahead of place j is read: ts. -/
structure LR (L : List UInt8) (j : Nat) (ts : List T) : Prop where
  out : ∀ ts' p e, Lexes j (L.drop j) ts' p e → Lexes 0 L (ts ++ ts') p e
theorem LR.zero (L : List UInt8) : LR L 0 [] := ⟨fun ts' p e h => by simpa using h⟩
structure SK (L : List UInt8) (j R : Nat) (b : Bool) : Prop where
  out : j + (sk false (L.drop j)).1 = R ∧ (sk false (L.drop j)).2 = b
theorem SK.eq {L j R b} (h : SK L j R b) : sk false (L.drop j) = (R - j, b) := by
  obtain ⟨h1, h2⟩ := h.out
  rw [← h2, ← h1]; simp
theorem LR.bad {L j R ts} (h : LR L j ts) (hs : SK L j R false) : Lexes 0 L ts R 20 := by
  have := h.out _ _ _ (.bad (k := j) hs.eq)
  have e : j + (R - j) = R := by have := hs.out.1; omega
  rwa [e, List.append_nil] at this
theorem LR.fin {L j ts} (h : LR L j ts) (hj : j ≤ L.length) (hs : SK L j L.length true) : Lexes 0 L ts 0 0 := by
  have := h.out _ _ _ (.fin (k := j) (by rw [hs.eq]; simp))
  rwa [List.append_nil] at this
theorem LR.err {L j R ts e} (h : LR L j ts) (hs : SK L j R true) (hR : R < L.length) (ht : TRL (L.drop R) (.error e)) : Lexes 0 L ts R e := by
  have e1 : j + (R - j) = R := by have := hs.out.1; omega
  have e2 : (L.drop j).drop (R - j) = L.drop R := by rw [List.drop_drop, e1]
  have := h.out _ _ _ (.err (k := j) hs.eq (by simp; omega) (by rw [e2]; exact ht.out))
  rwa [e1, List.append_nil] at this
theorem LR.tok {L j R ts t m} (h : LR L j ts) (hs : SK L j R true) (hR : R < L.length) (ht : TRL (L.drop R) (.ok (t, m))) : LR L (R + m) (ts ++ [⟨t.kind, R, t.val, t.name⟩]) := by
  have e1 : j + (R - j) = R := by have := hs.out.1; omega
  have e2 : (L.drop j).drop (R - j) = L.drop R := by rw [List.drop_drop, e1]
  refine ⟨fun ts' p e hl => ?_⟩
  have := h.out _ _ _ (.tok (k := j) hs.eq (by simp; omega) (by rw [e2]; exact ht.out) (by rw [e1, List.drop_drop, show j + (R - j + m) = R + m by omega]; exact hl))
  rw [e1] at this
  simpa using this

theorem blank_at {w : World} {ao : Option Addr} {cap n : Nat} {L : List UInt8} (hT : Txt w ao cap L) (hn : n = L.length) {k : Nat} (hk : k ≤ n) {R : Nat} {b : Bool} (hs : SK L k R b) :
    Calls Tryd.prog 55 #[.slice ao n cap, .int .i64 k] w fun e w' => e = .returned (.tuple #[.int .i64 (R : Int), .int .i64 (if b = true then 0 else 20)]) ∧ w = w' := by
  subst hn
  have := blank_any w ao cap L hT k hk
  rw [hs.out.1, hs.out.2] at this
  exact this.mono fun e w' h => ⟨h.1, h.2.symm⟩

theorem info33' : (Tryd.prog.info? 99).map (fun i => (i.zero, i.size, i.bytes)) = some (some (.agg #[.int .i64 0, .int .i64 0, .int .i64 0, .string ⟨#[]⟩]), 4, 40) := by kernel_rfl

/-- What Tokens answers. -/
structure Said (w : World) (L : List UInt8) (e : Ending) (w' : World) : Prop where
  out : ∃ ts p er v, Lexes 0 L ts p er ∧ e = .returned (.tuple #[v, .int .i64 (p : Int), .int .i64 (er : Int)]) ∧ Own w' w.heap.size v ts ∧ Below w.heap.size w w'

set_option maxRecDepth 10000 in
set_option maxHeartbeats 2000000 in
theorem tokens_any (w : World) (hTab : Tab w) (ao : Option Addr) (cap : Nat) (L : List UInt8) (hT : Txt w ao cap L) (hl : L.length ≤ 4194304) :
    Calls Tryd.prog 54 #[.slice ao L.length cap] w fun e w' => Said w L e w' := by
  obtain ⟨n, hn⟩ : ∃ n, n = L.length := ⟨_, rfl⟩
  rw [← hn] at hl ⊢
  have HN : Hid (n = L.length) := hn
  clear hn
  have hc1 : n ≤ cap := by have := hT.1; have := HN.out; omega
  have hc2 := hT.2.1
  obtain ⟨i0, hi, hz0, hz1, hz2⟩ := info_parts info33'
  go_enter Tryd.func54, Tryd.ntmps54
  go_wp2
  go_loopw [5, 6] (fun v c wr => ∃ (j : Nat) (ts : List T), j ≤ n ∧ ts.length ≤ j ∧ c = .int .i64 j ∧ Own wr w.heap.size v ts ∧ LR L j ts ∧ Below w.heap.size w wr) (fun _ c _ => n - (intOf c).toNat)
  case atStart => exact ⟨0, [], by omega, by simp, rfl, ⟨World.ownsRow_nil _ _ _ _⟩, LR.zero L, Below.refl _ _⟩
  case round =>
    obtain ⟨j, ts, hj, hts, rfl, hown, hLR, hbl⟩ := hrel
    have hT2 : Txt wr ao cap L := hT.below hbl (Nat.le_refl _)
    have hTab2 : Tab wr := hTab.below hbl hTab.1
    obtain ⟨R, b, HSK⟩ : ∃ R b, SK L j R b := ⟨_, _, rfl, rfl⟩
    have hRn : j ≤ R ∧ R ≤ n := by
      have := sk_le false (L.drop j); have := HSK.out.1; have := HN.out; simp at *; omega
    obtain ⟨hR1, hR2⟩ := hRn
    cases b
    · go_wp2_with (first | (go_at_call 55; refine (blank_at hT2 HN.out hj HSK).mono ?_; rintro e w' ⟨rfl, rfl⟩) | fail)
      go_ret3
      exact ⟨ts, R, 20, _, hLR.bad HSK, rfl, hown, hbl⟩
    · by_cases hRe : R = n
      · subst hRe
        go_wp2_with (first | (go_at_call 55; refine (blank_at hT2 HN.out hj HSK).mono ?_; rintro e w' ⟨rfl, rfl⟩) | fail)
        go_ret3
        exact ⟨ts, 0, 0, _, hLR.fin (by have := HN.out; omega) (by have := HN.out; subst this; exact HSK), rfl, hown, hbl⟩
      · have hRl : R < n := by omega
        obtain ⟨b, o, rfl, hA⟩ := hT2.at (HN.out ▸ hRl)
        obtain ⟨r, HTR⟩ : ∃ r, TRL (L.drop R) r := ⟨_, ⟨rfl⟩⟩
        cases r with
        | error er =>
          have her := tk_err HTR.out
          have her0 : ¬ (er : Int) = 0 := by omega
          have her1 : ((er : Int) == 0) = false := by simp; omega
          go_wp2_with (first
            | (go_at_call 55; refine (blank_at hT2 HN.out hj HSK).mono ?_; rintro e w' ⟨rfl, rfl⟩)
            | (go_at_call 56; refine (token_any _ (hTab2.alloc _) b o cap n L (hA.alloc _) HN.out hc1 hc2 R hRl _ HTR).mono ?_; rintro e u ⟨⟨z, rfl⟩, hb2⟩; have hg := (hb2.block wr.heap.size (by simp)).trans (heap_alloc_last _ _))
            | (refine wpList_store_tok rfl _ _ rfl wr.heap.size 0 0 0 .empty rfl rfl _ hg rfl ?_))
          go_ret3
          have hb3 : Below wr.heap.size wr (u.setRow wr.heap.size #[.int .i64 0, .int .i64 0, .int .i64 0, .string .empty]) := below_setRow (((Below.refl _ _).alloc (Nat.le_refl _) _).trans (hb2.mono (by simp))) (Nat.le_refl _) _
          exact ⟨ts, R, er, _, hLR.err HSK (HN.out ▸ hRl) HTR, rfl, ⟨own_keepL hown.out hb3.block⟩, hbl.trans (hb3.mono hbl.size)⟩
        | ok p =>
          obtain ⟨t, m⟩ := p
          have hm := tk_ok HTR.out
          have hm1 := hm.1
          have hm2 : R + m ≤ n := by have := hm.2; simp at this; have := HN.out; omega
          clear hm
          go_wp2_with (first
            | (go_at_call 55; refine (blank_at hT2 HN.out hj HSK).mono ?_; rintro e w' ⟨rfl, rfl⟩)
            | (go_at_call 56; refine (token_any _ (hTab2.alloc _) b o cap n L (hA.alloc _) HN.out hc1 hc2 R hRl _ HTR).mono ?_; rintro e u ⟨hR, hb2⟩; obtain rfl := (hR : e = .returned (.tuple #[.agg #[.int .i64 t.kind, .int .i64 R, .int .i64 t.val, .string (bs t.name)], .int .i64 ((R + m : Nat) : Int), .int .i64 0])); have hg := (hb2.block wr.heap.size (by simp)).trans (heap_alloc_last _ _))
            | (refine wpList_store_tok rfl _ _ rfl wr.heap.size t.kind R t.val (bs t.name) rfl rfl _ hg rfl ?_
               have hg2 := setRow_heap _ _ _ #[.int .i64 t.kind, .int .i64 R, .int .i64 t.val, .string (bs t.name)] _ _ hg
               have hb3 : Below wr.heap.size wr (u.setRow wr.heap.size #[.int .i64 t.kind, .int .i64 R, .int .i64 t.val, .string (bs t.name)]) := below_setRow (((Below.refl _ _).alloc (Nat.le_refl _) _).trans (hb2.mono (by simp))) (Nat.le_refl _) _
               obtain ⟨u2, hu2⟩ : ∃ u2, u2 = u.setRow wr.heap.size #[.int .i64 t.kind, .int .i64 R, .int .i64 t.val, .string (bs t.name)] := ⟨_, rfl⟩
               rw [← hu2] at hg2 hb3 ⊢
               clear hu2 hg hb2)
            | (refine wpList_load_row rfl 99 _ rfl wr.heap.size rfl 99 _ (0, 0) _ hg2 Tryd.underlying99 rfl info33 ?_)
            | (at_builtin; refine wpList_append_own _ rfl _ _ 95 rfl w.heap.size 99 i0 _ 4 40 Tryd.underlying95 hi hz0 hz1 hz2 rfl (by decide) _ ts.length (tcs ts) rfl ((own_keepL hown.out hb3.block).alloc _) ⟨u2.heap.size, 0, none⟩ 1 1 [.int .i64 t.kind, .int .i64 R, .int .i64 t.val, .string (bs t.name)] rfl rfl (cell_four_new _ _ _ _ _ _) (fun x hx => by simp at hx; rcases hx with rfl | rfl | rfl | rfl <;> rfl) (by unfold maxLen; omega) (by omega) (by have := hbl.size; have := hb3.size; simp; omega) ?_; intro v' w3 hown' hgrow3 hnil3))
          have hb4 : Below w.heap.size w w3 := Below.grown ((hbl.trans (hb3.mono hbl.size)).alloc (by have := hbl.size; have := hb3.size; omega) _) hgrow3 (by have := hbl.size; have := hb3.size; simp; omega) (fun k hk => (own_blockL hown.out hk).1)
          have hown4 : Own w3 w.heap.size v' (ts ++ [⟨t.kind, R, t.val, t.name⟩]) := ⟨by rw [tcs_snoc, List.length_append]; exact hown'⟩
          clear hown' hgrow3 hnil3
          go_roundw
          case rel => exact ⟨R + m, ts ++ [⟨t.kind, R, t.val, t.name⟩], hm2, by simp; omega, by go_num, hown4, hLR.tok HSK (HN.out ▸ hRl) HTR, hb4⟩
          case measure => simp [intOf]; omega
end Go.Proofs.YtjiaedckecfjbaaDoor
