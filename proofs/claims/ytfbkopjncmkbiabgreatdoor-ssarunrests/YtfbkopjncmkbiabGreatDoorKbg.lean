import Derived.Test.YtfbkopjncmkbiabGreatDoorKbf
set_option linter.unusedVariables false
set_option linter.unusedSimpArgs false
namespace Go.Proofs.YtfbkopjncmkbiabGreatDoor
open Go.ChangeShapes Go.WideShapes Go.ChangeAt Go.RowKit Go.Maps
structure Few10 (FS : List Fu) : Prop where
 vals : ∀ f ∈ FS, f.vals.length <= 262144
 body : ∀ f ∈ FS, ∀ b ∈ f.blks, ∀ c ∈ b.body, c < f.vals.length
 phis : ∀ f ∈ FS, ∀ b ∈ f.blks, ∀ c ∈ b.phis, c < f.vals.length
 prm : ∀ f ∈ FS, ∀ p ∈ f.params, p < 262144
 len : ∀ f ∈ FS, ∀ b ∈ f.blks, b.preds.length <= 1000000000 /\ b.phis.length <= 1000000000 /\ b.body.length <= 1000000000
 args : ∀ f ∈ FS, ∀ v ∈ f.vals, v.op = 25 -> v.args.length <= 8
structure Roomy (M : Ms) : Prop where
 nums : M.nums.length <= 800000000
 fst : M.here.fst <= 800000000
 wait : M.wait.length <= 800000000
 acs : ∀ a ∈ M.wait, a.bh <= 1000000000000 /\ a.fst <= 800000000
 bh : M.here.bh <= 1000000000
structure TBx (w : World) (g : Nat) (kd vl : Int) (ta : Option Addr) (tl tc : Nat) : Prop where
 c0 : w.cell? ⟨g, 0, none⟩ = some (.int .i64 kd)
 c1 : w.cell? ⟨g, 1, none⟩ = some (.int .i64 vl)
 c2 : w.cell? ⟨g, 2, none⟩ = some (.slice ta tl tc)
 lt : g < w.heap.size
theorem TBx.new (w : World) (kd vl : Int) (ta : Option Addr) (tl tc : Nat) : TBx (w.alloc (.cells #[.int .i64 kd, .int .i64 vl, .slice ta tl tc] 28)) w.heap.size kd vl ta tl tc :=
 ⟨cell_arr (heap_alloc_new _ _) rfl, cell_arr (heap_alloc_new _ _) rfl, cell_arr (heap_alloc_new _ _) rfl, by simp⟩
theorem TBx.below {w w' g kd vl ta tl tc} (h : TBx w g kd vl ta tl tc) (hb : Below w.heap.size w w') : TBx w' g kd vl ta tl tc := by
 have hc : ∀ q, w'.cell? ⟨g, q, none⟩ = w.cell? ⟨g, q, none⟩ := fun q => hb.cell (p := ⟨g, q, none⟩) h.lt
 exact ⟨by rw [hc]; exact h.c0, by rw [hc]; exact h.c1, by rw [hc]; exact h.c2, by have := hb.size; have := h.lt; omega⟩
theorem num_some {M : Ms} {v x : Int} (h : M.num v = some x) : ∃ n : Nat, v = (n : Int) /\ M.nums[M.here.fst + n]? = some x := by
 unfold Ms.num at h
 split at h
 ·next h0 => exact ⟨v.toNat, by omega, h⟩
 ·cases h
set_option maxRecDepth 100000 in
set_option maxHeartbeats 2000000 in
theorem mLeave_any {FS s d w M} (h : Mach FS s d w M) (f : Fu) (hf : FS[M.here.fi]? = some f) (b : Bk) (ta : Option Addr) (tl tc : Nat) (htl : tl = b.ways.length) (hT : ∀ W, Agr s W -> Ints W ta tc b.ways) (M' : Ms) (hM : M.leave FS f b = some M') (hF : Few10 FS) (hR : Roomy M) (hk : b.kind = 3 -> M.wait = [] \/ 0 <= b.val) :
 Calls Tryz.prog 46 #[.pointer (some ⟨s.mb, 0, none⟩), .agg #[.int .i64 b.kind, .int .i64 b.val, .slice ta tl tc]] w fun e w' => e = .returned (.tuple #[]) /\ ∃ d', Mach FS s d' w' M' /\ Foo s d d' w w' := by
 obtain ⟨w1, hw1⟩ : ∃ w1, w1 = w.alloc (.cells #[.int .i64 b.kind, .int .i64 b.val, .slice ta tl tc] 28) := ⟨_, rfl⟩
 have b1 : Below w.heap.size w w1 := by rw [hw1]; exact below_new w _
 have x1 : TBx w1 w.heap.size b.kind b.val ta tl tc := by rw [hw1]; exact TBx.new w _ _ _ _ _
 have h1 := h.below b1
 obtain ⟨g, hg⟩ : ∃ g, g = w.heap.size := ⟨_, rfl⟩
 rw [<- hg] at x1
 have hpr : ∀ b ∈ f.blks, b.preds.length <= 1000000000 /\ b.phis.length <= 1000000000 := fun b hb => ⟨(hF.len f (List.mem_of_getElem? hf) b hb).1, (hF.len f (List.mem_of_getElem? hf) b hb).2.1⟩
 have hnl : M.nums.length <= 1000000000000 := by have := hR.nums; omega
 have HEN : Hid (∀ (way : Nat) W, way = 0 \/ way = 1 -> Below w1.heap.size w1 W -> M.enter f b.ways way = some M' -> Calls Tryz.prog 72 #[.pointer (some ⟨s.mb, 0, none⟩), .slice ta tl tc, .int .i64 (way : Int)] W fun e w' => e = .returned (.tuple #[]) /\ ∃ d', Mach FS s d' w' M' /\ Foo s d d' w w') := by
  intro way W hway hW hE
  have key : Calls Tryz.prog 72 #[.pointer (some ⟨s.mb, 0, none⟩), .slice ta tl tc, .int .i64 (way : Int)] W fun e w' => e = .returned (.tuple #[]) /\ ∃ d', Mach FS s d' w' M' /\ Foo s d d' W w' := by
   rcases hway with rfl | rfl
   ·exact mEnter_0 (h1.below hW) f hf ta tl tc b.ways htl hT M' hE hnl hpr
   ·by_cases hq : b.ways[0]? = b.ways[1]?
    ·exact mEnter_1e (h1.below hW) f hf ta tl tc b.ways htl hT M' hE hq hnl hpr
    ·exact mEnter_1n (h1.below hW) f hf ta tl tc b.ways htl hT M' hE hq hnl hpr
  exact key.mono fun e w' ⟨q1, d', q2, q3⟩ => ⟨q1, d', q2, (Foo.of_below b1).trans ((Foo.of_below hW).trans q3)⟩
 have HNM : Hid (∀ (n : Nat) (x : Int), M.nums[M.here.fst + n]? = some x -> Calls Tryz.prog 73 #[.pointer (some ⟨s.mb, 0, none⟩), .int .i64 (n : Int)] w1 fun e w' => e = .returned (.int .i64 x) /\ Below w1.heap.size w1 w') := fun n x hx => mNumber_any h1 n x hx hnl
 have HPN : Hid (∀ W k x, Below w1.heap.size w1 W -> Calls Tryz.prog 65 #[.pointer (some ⟨s.mb, 0, none⟩), .int .i64 k, .int .i64 x] W fun e w' => e = .returned (.tuple #[.int .i64 0, .bool false]) /\ ∃ d', Mach FS s d' w' (M.panic k x) /\ Foo s d d' w w') := fun W k x hW => (mPanics_any (h1.below hW) k x).mono fun e w' ⟨q1, d', q2, q3⟩ => ⟨q1, d', q2, (Foo.of_below b1).trans ((Foo.of_below hW).trans q3)⟩
 have HBK : Hid (M.back FS b.val = some M' -> b.kind = 3 -> Calls Tryz.prog 74 #[.pointer (some ⟨s.mb, 0, none⟩), .int .i64 b.val] w1 fun e w' => e = .returned (.tuple #[]) /\ ∃ d', Mach FS s d' w' M' /\ Foo s d d' w w') := by
  intro hB hkd
  have key : Calls Tryz.prog 74 #[.pointer (some ⟨s.mb, 0, none⟩), .int .i64 b.val] w1 fun e w' => e = .returned (.tuple #[]) /\ ∃ d', Mach FS s d' w' M' /\ Foo s d d' w1 w' := by
   rcases List.eq_nil_or_concat M.wait with hw | ⟨W0, a, hw⟩
   ·have e : M' = { M with fin := 1 } := by
     unfold Ms.back at hB
     rw [hw] at hB
     simp only [List.getLast?_nil] at hB
     cases hB
     rw [hw]
    rw [e]
    exact mBack_end h1 hw _
   ·have hw' : M.wait = W0 ++ [a] := by rw [hw, List.concat_eq_append]
    obtain ⟨n, hn⟩ : ∃ n : Nat, b.val = (n : Int) := ⟨b.val.toNat, by
     rcases hk hkd with q | q
     ·rw [q] at hw'; simp at hw'
     ·omega⟩
    rw [hn] at hB ⊢
    have ha := hR.acs a (by rw [hw']; simp)
    exact mBack_yes h1 W0 a hw' n M' hB (by have := hR.nums; omega) (by have := hR.wait; omega) ha.1 hF.vals hF.body (by have := ha.2; omega)
  exact key.mono fun e w' ⟨q1, d', q2, q3⟩ => ⟨q1, d', q2, (Foo.of_below b1).trans q3⟩
 have HX : Hid (∀ W, Below w1.heap.size w1 W -> W.cell? ⟨g, 1, none⟩ = some (.int .i64 b.val) /\ W.cell? ⟨g, 2, none⟩ = some (.slice ta tl tc) /\ g < W.heap.size) := fun W hW => ⟨(x1.below hW).c1, (x1.below hW).c2, (x1.below hW).lt⟩
 have HSELF : Hid (∃ d', Mach FS s d' w1 M /\ Foo s d d' w w1) := ⟨d, h1, Foo.of_below b1⟩
 obtain ⟨c0, c1, c2, hglt⟩ := x1
 have B0 : Below w1.heap.size w1 w1 := Below.refl _ _
 unfold Ms.leave at hM
 generalize b.kind = kd at *
 generalize hvl : b.val = vl at *
 clear h h1 b1 hT hf htl hF hR hpr hnl
 generalize s.mb = mb at *
 by_cases k1 : kd = 1
 ·subst k1
  rw [if_pos rfl] at hM
  have HE : Hid _ := HEN.out 0 w1 (.inl rfl) B0 hM
  clear hM HEN HNM HPN HBK HX HSELF hk
  go_enter Tryz.func46, Tryz.ntmps46
  go_upto_region 1 with fail
  rw [<- hw1, <- hg]
  clear hw1 hg
  go_wp2_with (go_at_call 72; refine Calls.mono HE.out ?_; rintro e w2 ⟨rfl, h2⟩; have H2 : Hid _ := h2; clear h2)
  exact bodyPost_end (v := .tuple #[]) (by simp [results, Tryz.results46, go_sem]) rfl ⟨rfl, H2.out⟩
 rw [if_neg k1] at hM
 by_cases k2 : kd = 2
 ·subst k2
  rw [if_pos rfl] at hM
  cases hnum : M.num vl with
  | none => rw [hnum] at hM; cases hM
  | some x =>
  rw [hnum] at hM
  simp only at hM
  obtain ⟨n, rfl, hx⟩ := num_some hnum
  have HN : Hid _ := HNM.out n x hx
  by_cases hx0 : x = 0
  ·rw [if_pos hx0] at hM
   have HE : Hid (∀ W, Below w1.heap.size w1 W -> _) := fun W hW => HEN.out 1 W (.inr rfl) hW hM
   subst hx0
   clear hM HEN HNM HPN HBK HSELF hk hnum hx
   go_enter Tryz.func46, Tryz.ntmps46
   go_upto_region 1 with fail
   rw [<- hw1, <- hg]
   clear hw1 hg
   go_wp2_with (first
    | (go_at_call 73; refine Calls.mono HN.out ?_; rintro e w2 ⟨rfl, b2⟩; obtain ⟨y1, y2, y3⟩ := HX.out w2 b2; have HE2 : Hid _ := HE.out w2 b2)
    | (go_at_call 72; refine Calls.mono HE2.out ?_; rintro e w3 ⟨rfl, h3⟩; have H3 : Hid _ := h3; clear h3))
   exact bodyPost_end (v := .tuple #[]) (by simp [results, Tryz.results46, go_sem]) rfl ⟨rfl, H3.out⟩
  ·rw [if_neg hx0] at hM
   have HE : Hid (∀ W, Below w1.heap.size w1 W -> _) := fun W hW => HEN.out 0 W (.inl rfl) hW hM
   have hxf : (x == 0) = false := by simp [hx0]
   clear hM HEN HNM HPN HBK HSELF hk hnum hx hx0
   go_enter Tryz.func46, Tryz.ntmps46
   go_upto_region 1 with fail
   rw [<- hw1, <- hg]
   clear hw1 hg
   go_wp2_with (first
    | (go_at_call 73; refine Calls.mono HN.out ?_; rintro e w2 ⟨rfl, b2⟩; obtain ⟨y1, y2, y3⟩ := HX.out w2 b2; have HE2 : Hid _ := HE.out w2 b2)
    | (go_at_call 72; refine Calls.mono HE2.out ?_; rintro e w3 ⟨rfl, h3⟩; have H3 : Hid _ := h3; clear h3))
   exact bodyPost_end (v := .tuple #[]) (by simp [results, Tryz.results46, go_sem]) rfl ⟨rfl, H3.out⟩
 rw [if_neg k2] at hM
 by_cases k3 : kd = 3
 ·subst k3
  rw [if_pos rfl] at hM
  have HB : Hid _ := HBK.out (by simpa [hvl] using hM) rfl
  clear hM HEN HNM HPN HBK HX HSELF hk
  go_enter Tryz.func46, Tryz.ntmps46
  go_upto_region 1 with fail
  rw [<- hw1, <- hg]
  clear hw1 hg
  go_wp2_with (go_at_call 74; refine Calls.mono HB.out ?_; rintro e w2 ⟨rfl, h2⟩; have H2 : Hid _ := h2; clear h2)
  exact bodyPost_end (v := .tuple #[]) (by simp [results, Tryz.results46, go_sem]) rfl ⟨rfl, H2.out⟩
 rw [if_neg k3] at hM
 by_cases k4 : kd = 4
 ·subst k4
  rw [if_pos rfl] at hM
  cases hnum : M.num vl with
  | none => rw [hnum] at hM; cases hM
  | some x =>
  rw [hnum] at hM
  simp only [Option.some.injEq] at hM
  obtain ⟨n, rfl, hx⟩ := num_some hnum
  have HN : Hid _ := HNM.out n x hx
  subst hM
  clear HEN HNM HBK HSELF hk hnum hx
  go_enter Tryz.func46, Tryz.ntmps46
  go_upto_region 1 with fail
  rw [<- hw1, <- hg]
  clear hw1 hg
  go_wp2_with (first
   | (go_at_call 73; refine Calls.mono HN.out ?_; rintro e w2 ⟨rfl, b2⟩; obtain ⟨y1, y2, y3⟩ := HX.out w2 b2; have HE2 : Hid _ := HPN.out w2 6 x b2)
   | (go_at_call 65; refine Calls.mono HE2.out ?_; rintro e w3 ⟨rfl, h3⟩; have H3 : Hid _ := h3; clear h3))
  exact bodyPost_end (v := .tuple #[]) (by simp [results, Tryz.results46, go_sem]) rfl ⟨rfl, H3.out⟩
 ·rw [if_neg k4] at hM
  cases hM
  have e1 : (kd == 1) = false := by simp [k1]
  have e2 : (kd == 2) = false := by simp [k2]
  have e3 : (kd == 3) = false := by simp [k3]
  have e4 : (kd == 4) = false := by simp [k4]
  clear HEN HNM HPN HBK HX hk k1 k2 k3 k4
  go_enter Tryz.func46, Tryz.ntmps46
  go_upto_region 1 with fail
  rw [<- hw1, <- hg]
  clear hw1 hg
  go_wp2_with fail
  exact bodyPost_end (v := .tuple #[]) (by simp [results, Tryz.results46, go_sem]) rfl ⟨rfl, HSELF.out⟩
def calcOp (o : Int) : Bool := decide (2 <= o /\ o <= 4 \/ 7 <= o /\ o <= 10 \/ 13 <= o /\ o <= 19)
def Ms.opr (FS : List Fu) (M : Ms) (v : Vl) : Option (Ms × Option Int) :=
 if v.op = 1 then some (M, some v.imm)
 else if calcOp v.op then (match M.arg v 0, M.arg v 1 with | some a, some b => some (M, some (doIW v.op a b)) | _, _ => none)
 else if v.op = 24 then (match M.inp with | [] => some (M.panic 5 0, none) | y :: L => some ({ M with inp := L }, some y))
 else if v.op = 25 then (match M.call FS v with | some M' => some (M', none) | none => none)
 else if v.op = 26 then (match M.arg v 0 with | some a => some (M.tell 1 a, none) | none => none)
 else none
def Ms.doV (FS : List Fu) (f : Fu) (M : Ms) (i : Int) : Option Ms :=
 if i < 0 then none else
 match f.vals[i.toNat]? with
 | none => none
 | some v => match M.opr FS v with
   | none => none
   | some (M1, r) => some (M1.after i.toNat r)
theorem calc_tbl {o : Nat} (h : calcOp (o : Int) = true) : o < 31 /\ tblM[o]? = some (.func (.func 37) #[] #[]) /\ isOpW (o : Int) = true := by
 unfold calcOp at h
 simp only [decide_eq_true_eq] at h
 have hc : o = 2 \/ o = 3 \/ o = 4 \/ o = 7 \/ o = 8 \/ o = 9 \/ o = 10 \/ o = 13 \/ o = 14 \/ o = 15 \/ o = 16 \/ o = 17 \/ o = 18 \/ o = 19 := by omega
 rcases hc with rfl | rfl | rfl | rfl | rfl | rfl | rfl | rfl | rfl | rfl | rfl | rfl | rfl | rfl <;> exact ⟨by omega, rfl, rfl⟩
theorem mDo_any {FS s d w M} (h : Mach FS s d w M) (f : Fu) (hf : FS[M.here.fi]? = some f) (i : Nat) (M' : Ms) (hM : M.doV FS f (i : Int) = some M') (hF : Few10 FS) (hR : Roomy M) :
 Calls Tryz.prog 45 #[.pointer (some ⟨s.mb, 0, none⟩), .int .i64 (i : Int)] w fun e w' => e = .returned (.tuple #[]) /\ ∃ d', Mach FS s d' w' M' /\ Foo s d d' w w' := by
 have hfm := List.mem_of_getElem? hf
 have hnl : M.nums.length <= 1000000000000 := by have := hR.nums; omega
 unfold Ms.doV at hM
 rw [if_neg (by omega), Int.toNat_natCast] at hM
 cases hv : f.vals[i]? with
 | none => rw [hv] at hM; cases hM
 | some v =>
 rw [hv] at hM
 simp only at hM
 have hi : i < f.vals.length := (List.getElem?_eq_some_iff.1 hv).1
 have hi2 : i < 262144 := by have := hF.vals f hfm; omega
 cases ho : M.opr FS v with
 | none => rw [ho] at hM; cases hM
 | some q =>
 obtain ⟨M1, r⟩ := q
 rw [ho] at hM
 simp only [Option.some.injEq] at hM
 subst hM
 unfold Ms.opr at ho
 have hbd : M.here.fst + i <= 1000000000 /\ M.nums.length <= 1000000000 := by have := hR.fst; have := hR.nums; omega
 split at ho
 ·next h1 =>
  cases ho
  exact mDo_constant h i f hf v hv 1 h1 (by omega) rfl M _ ⟨fun W ka kl kc q _ _ => (mConst_any W s.mb v ka kl kc).mono fun e w' r => ⟨r.1, d, q.below r.2, Foo.of_below r.2⟩⟩ (fun _ _ => hbd)
 ·split at ho
  ·next hc =>
   split at ho
   ·next a b ha hb =>
    cases ho
    obtain ⟨o, hoo⟩ : ∃ o : Nat, v.op = (o : Int) := ⟨v.op.toNat, by unfold calcOp at hc; simp only [decide_eq_true_eq] at hc; omega⟩
    rw [hoo] at hc
    obtain ⟨t1, t2, t3⟩ := calc_tbl hc
    exact mDo_calculate h i f hf v hv o hoo t1 t2 M _ ⟨fun W ka kl kc q hkl hI => (mCalc_any q v ka kl kc hkl hI a b ha hb (by rw [hoo]; exact t3) hnl).mono fun e w' r => ⟨r.1, d, q.below r.2, Foo.of_below r.2⟩⟩ (fun _ _ => hbd)
   ·cases ho
  ·split at ho
   ·next h24 =>
    split at ho
    ·next hin =>
     cases ho
     exact mDo_take h i f hf v hv 24 h24 (by omega) rfl _ none ⟨fun W ka kl kc q _ _ => mTake_no q hin v ka kl kc⟩ (fun x e => by cases e)
    ·next y L hin =>
     cases ho
     exact mDo_take h i f hf v hv 24 h24 (by omega) rfl _ (some y) ⟨fun W ka kl kc q _ _ => mTake_yes q hin v ka kl kc⟩ (fun _ _ => hbd)
   ·split at ho
    ·next h25 =>
     split at ho
     ·next M2 hc =>
      cases ho
      have h8 := hF.args f hfm v (List.mem_of_getElem? hv) h25
      refine mDo_call h i f hf v hv 25 h25 (by omega) rfl _ none ⟨fun W ka kl kc q hkl hI => mCall_any q v ka kl kc hkl hI (by omega) M1 hc hF.prm (by have := hR.nums; omega) (by have := hR.wait; omega)⟩ (fun x e => by cases e)
     ·cases ho
    ·split at ho
     ·next h26 =>
      split at ho
      ·next a ha =>
       cases ho
       exact mDo_printInt h i f hf v hv 26 h26 (by omega) rfl _ none ⟨fun W ka kl kc q hkl hI => mPrint_any q v ka kl kc hkl hI a ha hnl⟩ (fun x e => by cases e)
      ·cases ho
     ·cases ho
def Ms.on (M : Ms) : Ms := { M with here := { M.here with bh := M.here.bh + 1 } }
def Ms.adv (FS : List Fu) (M : Ms) : Option Ms :=
 match FS[M.here.fi]? with
 | none => none
 | some f => match f.blks[M.here.bk]? with
   | none => none
   | some b =>
     if M.here.bh < b.phis.length then
      (match b.phis[M.here.bh]?, M.phis[M.here.bh]? with
      | some p, some x => if p < 0 then none else some (M.on.put p.toNat x)
      | _, _ => none)
     else if M.here.bh < b.phis.length + b.body.length then
      (match b.body[M.here.bh - b.phis.length]? with
      | some c => M.on.doV FS f c
      | none => none)
     else M.on.leave FS f b
set_option maxRecDepth 100000 in
set_option maxHeartbeats 2000000 in
theorem mAdv_any {FS s d w M} (h : Mach FS s d w M) (M' : Ms) (hM : M.adv FS = some M') (hF : Few10 FS) (hR : Roomy M.on) (hk : ∀ f b, FS[M.here.fi]? = some f -> f.blks[M.here.bk]? = some b -> b.kind = 3 -> M.wait = [] \/ 0 <= b.val) :
 Calls Tryz.prog 19 #[.pointer (some ⟨s.mb, 0, none⟩)] w fun e w' => e = .returned (.tuple #[]) /\ ∃ d', Mach FS s d' w' M' /\ Foo s d d' w w' := by
 unfold Ms.adv at hM
 cases hf : FS[M.here.fi]? with
 | none => rw [hf] at hM; cases hM
 | some f =>
 rw [hf] at hM
 simp only at hM
 cases hb : f.blks[M.here.bk]? with
 | none => rw [hb] at hM; cases hM
 | some b =>
 rw [hb] at hM
 simp only at hM
 have hk3 := hk f b hf hb
 have hfm := List.mem_of_getElem? hf
 have hbm := List.mem_of_getElem? hb
 have hn : M.here.fi < FS.length := (List.getElem?_eq_some_iff.1 hf).1
 have hfe : FS[M.here.fi] = f := (List.getElem?_eq_some_iff.1 hf).2
 have htn : M.here.bk < f.blks.length := (List.getElem?_eq_some_iff.1 hb).1
 have hbe : f.blks[M.here.bk] = b := (List.getElem?_eq_some_iff.1 hb).2
 obtain ⟨_, _, la, lc, ma, mc, hst, u1, hvs, hbs⟩ := st_fu h.rest.agr h.rest.fus hn
 clear u1
 rw [hfe] at hst hvs hbs
 obtain ⟨bb, bo, ka, kc, xa, xc, ya, yc, na, nc, rfl, hbc, hbi⟩ := st_bk h.rest.agr hbs htn
 rw [hbe] at hbc hbi
 obtain ⟨c31, c32, c34, c35, c36, c37, c38, c39, c40, hlt⟩ := h.cells
 have HIN : Hid (Calls Tryz.prog 44 #[.agg #[.pointer (some ⟨s.fb, s.fo + M.here.fi * 5, none⟩), .int .i64 (M.here.bk : Int), .int .i64 (M.here.bh : Int), .int .i64 (M.here.fst : Int)]] w fun e w' => e = .returned (.pointer (some ⟨bb, bo + M.here.bk * 6, none⟩)) /\ Below w.heap.size w w') := mIn_any w (hst w h.rest.agr).2.2 htn (by have := (hbs w h.rest.agr).le; have := (hbs w h.rest.agr).mx; omega)
 obtain ⟨kl, hkl⟩ : ∃ kl, kl = b.phis.length := ⟨_, rfl⟩
 obtain ⟨xl, hxl⟩ : ∃ xl, xl = b.body.length := ⟨_, rfl⟩
 obtain ⟨yl, hyl⟩ : ∃ yl, yl = b.ways.length := ⟨_, rfl⟩
 obtain ⟨bh, hbh⟩ : ∃ bh, bh = M.here.bh := ⟨_, rfl⟩
 have hlen := hF.len f hfm b hbm
 have hbhb : bh <= 1000000000 := by have : M.here.bh + 1 <= 1000000000 := hR.bh; omega
 have HW : Hid (∀ W, Below w.heap.size w W -> W.cell? ⟨s.mb, 36, none⟩ = some (.int .i64 (bh : Int)) /\ W.frozen? ⟨s.mb, 36, none⟩ = false /\ s.mb < W.heap.size) := fun W hW => by
  have q := h.below hW
  rw [hbh]
  exact ⟨q.cells.c36, fz_of q.box, q.cells.lt⟩
 have HON : Hid (∀ W w1, Below w.heap.size w W -> w1 = W.setCell ⟨s.mb, 36, none⟩ (.int .i64 ((bh : Int) + 1)) -> Mach FS s d w1 M.on /\ Foo s d d w w1) := fun W w1 hW e1 => by
  have q := h.below hW
  have e2 : (.int .i64 ((bh : Int) + 1) : Value) = .int .i64 ((M.here.bh + 1 : Nat) : Int) := by rw [hbh]; rfl
  rw [e1, e2]
  exact ⟨⟨box_at q.box rfl, q.rest.set 36 _⟩, (Foo.of_below hW).trans (Foo.set s d W 36 _)⟩
 have HBL : Hid (∀ w1, Mach FS s d w1 M.on -> w1.cell? ⟨bb, bo + M.here.bk * 6, none⟩ = some (.slice ka kl kc) /\ w1.cell? ⟨bb, bo + M.here.bk * 6 + 1, none⟩ = some (.slice xa xl xc) /\ w1.cell? ⟨bb, bo + M.here.bk * 6 + 2, none⟩ = some (.int .i64 b.kind) /\ w1.cell? ⟨bb, bo + M.here.bk * 6 + 3, none⟩ = some (.int .i64 b.val) /\ w1.cell? ⟨bb, bo + M.here.bk * 6 + 4, none⟩ = some (.slice ya yl yc) /\ bb < w1.heap.size /\ s.mb < w1.heap.size) := fun w1 q => by
  have r := hbc w1 q.rest.agr
  rw [hkl, hxl, hyl]
  exact ⟨r.1, r.2.1, r.2.2.1, r.2.2.2.1, r.2.2.2.2.1, block_lt_of_cell r.1, q.cells.lt⟩
 have hw36 : IntKind.i64.wrap ((bh : Int) + 1) = (bh : Int) + 1 := by rw [IntKind.wrap_i64]; omega
 have hsumw : IntKind.i64.wrap ((kl : Int) + (xl : Int)) = (kl : Int) + (xl : Int) := by rw [IntKind.wrap_i64]; omega
 by_cases h1 : M.here.bh < b.phis.length
 ·rw [if_pos h1] at hM
  cases hp : b.phis[M.here.bh]? with
  | none => rw [hp] at hM; cases hM
  | some pp =>
  cases hx : M.phis[M.here.bh]? with
  | none => rw [hp, hx] at hM; cases hM
  | some x =>
  rw [hp, hx] at hM
  simp only at hM
  by_cases hp0 : pp < 0
  ·rw [if_pos hp0] at hM; cases hM
  rw [if_neg hp0] at hM
  cases hM
  obtain ⟨p, rfl⟩ : ∃ p : Nat, pp = (p : Int) := ⟨pp.toNat, by omega⟩
  rw [Int.toNat_natCast]
  have hpe : b.phis[M.here.bh] = (p : Int) := (List.getElem?_eq_some_iff.1 hp).2
  have hxl2 : M.here.bh < M.phis.length := (List.getElem?_eq_some_iff.1 hx).1
  have hxe : M.phis[M.here.bh] = x := (List.getElem?_eq_some_iff.1 hx).2
  have hpv : p < 262144 := by
   have q1 := hF.phis f hfm b hbm p (List.mem_of_getElem? hp)
   have q2 := hF.vals f hfm
   omega
  obtain ⟨kb, ko, rfl, hkc⟩ := st_int h.rest.agr (fun W hW => (hbi W hW).1) h1
  rw [hpe] at hkc
  obtain ⟨pb, pc, ep, hpl1, hpl2, hpB, hpg⟩ := own_some h.rest.phis.out (by omega)
  obtain ⟨pl, hpl⟩ : ∃ pl, pl = M.phis.length := ⟨_, rfl⟩
  rw [<- hpl] at ep hpl1
  have HS : Hid (∀ W d', Mach FS s d' W (M.on.put p x) \/ Mach FS s d' W M.on -> d'.vp = d.vp -> W.cell? ⟨bb, bo + M.here.bk * 6, none⟩ = some (.slice (some ⟨kb, ko, none⟩) kl kc) /\ W.cell? ⟨kb, ko + bh, none⟩ = some (.int .i64 (p : Int)) /\ W.cell? ⟨s.mb, 40, none⟩ = some (.slice (some ⟨pb, 0, none⟩) pl pc) /\ W.cell? ⟨pb, bh, none⟩ = some (.int .i64 x)) := by
   intro W d' q hvp
   have key : ∀ M2, M2.phis = M.phis -> Mach FS s d' W M2 -> W.cell? ⟨bb, bo + M.here.bk * 6, none⟩ = some (.slice (some ⟨kb, ko, none⟩) kl kc) /\ W.cell? ⟨kb, ko + bh, none⟩ = some (.int .i64 (p : Int)) /\ W.cell? ⟨s.mb, 40, none⟩ = some (.slice (some ⟨pb, 0, none⟩) pl pc) /\ W.cell? ⟨pb, bh, none⟩ = some (.int .i64 x) := fun M2 e2 r => by
    refine ⟨by rw [hkl]; exact (hbc W r.rest.agr).1, by rw [hbh]; exact hkc W r.rest.agr, by rw [<- ep, <- hvp]; exact r.cells.c40, ?_⟩
    have O := r.rest.phis.out
    rw [e2, hvp, ep, <- hpl] at O
    rw [own_cell O bh (by omega)]
    simp [ivs, hbh, hxl2, hxe]
   rcases q with q | q
   ·exact key (M.on.put p x) rfl q
   ·exact key M.on rfl q
  have HSET : Hid (∀ W w1, Mach FS s d w1 M.on -> Foo s d d w w1 -> W = w1.drew -> Calls Tryz.prog 41 #[.pointer (some ⟨s.mb, 0, none⟩), .int .i64 (p : Int), .int .i64 x] W fun e w' => e = .returned (.tuple #[]) /\ (∃ d', Mach FS s d' w' (M.on.put p x) /\ Foo s d d' w w') /\ w'.cell? ⟨bb, bo + M.here.bk * 6, none⟩ = some (.slice (some ⟨kb, ko, none⟩) kl kc) /\ w'.cell? ⟨kb, ko + bh, none⟩ = some (.int .i64 (p : Int)) /\ w'.cell? ⟨s.mb, 40, none⟩ = some (.slice (some ⟨pb, 0, none⟩) pl pc) /\ w'.cell? ⟨pb, bh, none⟩ = some (.int .i64 x)) := by
   intro W w1 q f1 eW
   have bd : Below w1.heap.size w1 W := by rw [eW]; exact (Below.refl _ _).drew
   refine (mSet_vp (q.below bd) p x (by have := hR.fst; omega) (by have := hR.nums; omega)).mono ?_
   rintro e w' ⟨rfl, d', r1, r2, r3⟩
   exact ⟨rfl, ⟨d', r1, f1.trans ((Foo.of_below bd).trans r2)⟩, HS.out w' d' (.inl r1) r3⟩
  have HS0 : Hid (∀ w1, Mach FS s d w1 M.on -> w1.drew.cell? ⟨bb, bo + M.here.bk * 6, none⟩ = some (.slice (some ⟨kb, ko, none⟩) kl kc) /\ w1.drew.cell? ⟨kb, ko + bh, none⟩ = some (.int .i64 (p : Int)) /\ w1.drew.cell? ⟨s.mb, 40, none⟩ = some (.slice (some ⟨pb, 0, none⟩) pl pc) /\ w1.drew.cell? ⟨pb, bh, none⟩ = some (.int .i64 x)) := fun w1 q => HS.out w1.drew d (.inr (q.below (Below.refl _ _).drew)) rfl
  have hd1 : decide ((bh : Int) < (kl : Int)) = true := by simp; omega
  have hbk : (bh : Int) < (kl : Int) := by omega
  have hbp : (bh : Int) < (pl : Int) := by omega
  have hkm : kl <= 9223372036854775807 := by omega
  have hpm : pl <= 9223372036854775807 := by omega
  rw [<- hbh] at HIN c36
  clear h hbc hbi hst hvs hbs hkc hf hb hfe hbe hn htn hR hF hk hk3 hp hx hpe hxe hxl2 HS h1 ep hpl hlen hbh hkl hxl hyl hfm hbm c31 c32 c38 c39 c40
  generalize s.mb = mb at *
  generalize s.fb = fb at *
  generalize s.fo + M.here.fi * 5 = q at *
  generalize bo + M.here.bk * 6 = bq at *
  generalize (M.here.bk : Int) = bkv at *
  generalize (M.here.fst : Int) = fst at *
  go_enter Tryz.func19, Tryz.ntmps19
  go_upto_region 1 with (go_at_call 44; refine Calls.mono HIN.out ?_; rintro e w2 ⟨rfl, b2⟩; obtain ⟨y1, y2, y3⟩ := HW.out w2 b2)
  obtain ⟨w1, hw1⟩ : ∃ w1, w1 = w2.setCell ⟨mb, 36, none⟩ (.int .i64 ((bh : Int) + 1)) := ⟨_, rfl⟩
  obtain ⟨q1, f1⟩ := HON.out w2 w1 b2 hw1
  obtain ⟨r1, r2, r3, r4, r5, r6, r7⟩ := HBL.out w1 q1
  obtain ⟨S0, S1, S2, S3⟩ := HS0.out w1 q1
  have HC : Hid _ := HSET.out w1.drew w1 q1 f1 rfl
  clear HIN HW HON HBL HSET HS0 q1 f1
  go_upto_region 3 with fail
  rw [<- hw1]
  clear hw1 y1 y2 y3 b2
  go_wp2_with fail
  go_region_held (fun W => W.cell? ⟨bb, bq, none⟩ = some (.slice (some ⟨kb, ko, none⟩) kl kc) /\ W.cell? ⟨kb, ko + bh, none⟩ = some (.int .i64 (p : Int)) /\ W.cell? ⟨mb, 40, none⟩ = some (.slice (some ⟨pb, 0, none⟩) pl pc) /\ W.cell? ⟨pb, bh, none⟩ = some (.int .i64 x))
   (first | exact ⟨S0, S1, S2, S3⟩ | exact S9)
   (first | (go_at_call 41; refine Calls.mono HC.out ?_; rintro e w3 ⟨rfl, h3, S9⟩; have H3 : Hid _ := h3; clear h3))
  all_goals
   go_wp2_with fail
   exact bodyPost_end (v := .tuple #[]) (by simp [results, Tryz.results19, go_sem]) rfl ⟨rfl, H3.out⟩
 ·rw [if_neg h1] at hM
  by_cases h2 : M.here.bh < b.phis.length + b.body.length
  ·rw [if_pos h2] at hM
   cases hc : b.body[M.here.bh - b.phis.length]? with
   | none => rw [hc] at hM; cases hM
   | some cc =>
   rw [hc] at hM
   simp only at hM
   have hc0 : 0 <= cc := by
    unfold Ms.doV at hM
    by_cases q : cc < 0
    ·rw [if_pos q] at hM; cases hM
    ·omega
   obtain ⟨c, rfl⟩ : ∃ c : Nat, cc = (c : Int) := ⟨cc.toNat, by omega⟩
   obtain ⟨p, hp⟩ : ∃ p, p = M.here.bh - b.phis.length := ⟨_, rfl⟩
   rw [<- hp] at hc
   have hpn : p < b.body.length := (List.getElem?_eq_some_iff.1 hc).1
   have hpe : b.body[p] = (c : Int) := (List.getElem?_eq_some_iff.1 hc).2
   obtain ⟨xb, xo, rfl, hxc⟩ := st_int h.rest.agr (fun W hW => (hbi W hW).2.1) hpn
   rw [hpe] at hxc
   have HXC : Hid (∀ w1, Mach FS s d w1 M.on -> w1.cell? ⟨xb, xo + p, none⟩ = some (.int .i64 (c : Int)) /\ xb < w1.heap.size) := fun w1 q => ⟨hxc w1 q.rest.agr, block_lt_of_cell (hxc w1 q.rest.agr)⟩
   have HDO : Hid (∀ w1, Mach FS s d w1 M.on -> Foo s d d w w1 -> Calls Tryz.prog 45 #[.pointer (some ⟨s.mb, 0, none⟩), .int .i64 (c : Int)] w1 fun e w' => e = .returned (.tuple #[]) /\ ∃ d', Mach FS s d' w' M' /\ Foo s d d' w w') := fun w1 q f1 => (mDo_any q f hf c M' hM hF hR).mono fun e w' ⟨r1, d', r2, r3⟩ => ⟨r1, d', r2, f1.trans r3⟩
   have hd1 : decide ((bh : Int) < (kl : Int)) = false := by simp; omega
   have hd2 : decide ((bh : Int) < (kl : Int) + (xl : Int)) = true := by simp; omega
   have e1 : (bh : Int) - (kl : Int) = (p : Int) := by omega
   have e3 : IntKind.i64.wrap (p : Int) = (p : Int) := by rw [IntKind.wrap_i64]; omega
   have hpI : (p : Int) < (xl : Int) := by omega
   have hxm : xl <= 9223372036854775807 := by omega
   rw [<- hbh] at HIN c36
   clear h hbc hbi hst hvs hbs hf hb hfe hbe hn htn hR hF hk hk3 h1 h2 hlen hbh hkl hxl hyl hfm hbm c31 c32 c38 c39 c40 hM hc hc0 hp hpn hpe hxc
   generalize s.mb = mb at *
   generalize s.fb = fb at *
   generalize s.fo + M.here.fi * 5 = q at *
   generalize bo + M.here.bk * 6 = bq at *
   generalize (M.here.bk : Int) = bkv at *
   generalize (M.here.fst : Int) = fst at *
   go_enter Tryz.func19, Tryz.ntmps19
   go_upto_region 1 with (go_at_call 44; refine Calls.mono HIN.out ?_; rintro e w2 ⟨rfl, b2⟩; obtain ⟨y1, y2, y3⟩ := HW.out w2 b2)
   obtain ⟨w1, hw1⟩ : ∃ w1, w1 = w2.setCell ⟨mb, 36, none⟩ (.int .i64 ((bh : Int) + 1)) := ⟨_, rfl⟩
   obtain ⟨q1, f1⟩ := HON.out w2 w1 b2 hw1
   obtain ⟨r1, r2, r3, r4, r5, r6, r7⟩ := HBL.out w1 q1
   obtain ⟨o1, o2⟩ := HXC.out w1 q1
   have HC : Hid _ := HDO.out w1 q1 f1
   clear HXC HDO
   clear HIN HW HON HBL q1 f1
   go_upto_region 3 with fail
   rw [<- hw1]
   clear hw1 y1 y2 y3 b2
   go_wp2_with (go_at_call 45; refine Calls.mono HC.out ?_; rintro e w3 ⟨rfl, h3⟩; have H3 : Hid _ := h3; clear h3)
   exact bodyPost_end (v := .tuple #[]) (by simp [results, Tryz.results19, go_sem]) rfl ⟨rfl, H3.out⟩
  ·rw [if_neg h2] at hM
   have HLV : Hid (∀ w1, Mach FS s d w1 M.on -> Foo s d d w w1 -> Calls Tryz.prog 46 #[.pointer (some ⟨s.mb, 0, none⟩), .agg #[.int .i64 b.kind, .int .i64 b.val, .slice ya yl yc]] w1 fun e w' => e = .returned (.tuple #[]) /\ ∃ d', Mach FS s d' w' M' /\ Foo s d d' w w') := fun w1 q f1 => (mLeave_any q f hf b ya yl yc hyl (fun W hW => (hbi W hW).2.2.1) M' hM hF hR hk3).mono fun e w' ⟨r1, d', r2, r3⟩ => ⟨r1, d', r2, f1.trans r3⟩
   have hd1 : decide ((bh : Int) < (kl : Int)) = false := by simp; omega
   have hd2 : decide ((bh : Int) < (kl : Int) + (xl : Int)) = false := by simp; omega
   have hi1 : (kl : Int) <= (bh : Int) := by omega
   have hi2 : (kl : Int) + (xl : Int) <= (bh : Int) := by omega
   have hj1 : decide (bh < kl) = false := by simp; omega
   rw [<- hbh] at HIN c36
   clear h hbc hbi hst hvs hbs hf hb hfe hbe hn htn hR hF hk hk3 h1 h2 hlen hbh hkl hxl hyl hfm hbm c31 c32 c38 c39 c40 hM
   generalize s.mb = mb at *
   generalize s.fb = fb at *
   generalize s.fo + M.here.fi * 5 = q at *
   generalize bo + M.here.bk * 6 = bq at *
   generalize (M.here.bk : Int) = bkv at *
   generalize (M.here.fst : Int) = fst at *
   go_enter Tryz.func19, Tryz.ntmps19
   go_upto_region 1 with (go_at_call 44; refine Calls.mono HIN.out ?_; rintro e w2 ⟨rfl, b2⟩; obtain ⟨y1, y2, y3⟩ := HW.out w2 b2)
   obtain ⟨w1, hw1⟩ : ∃ w1, w1 = w2.setCell ⟨mb, 36, none⟩ (.int .i64 ((bh : Int) + 1)) := ⟨_, rfl⟩
   obtain ⟨q1, f1⟩ := HON.out w2 w1 b2 hw1
   obtain ⟨r1, r2, r3, r4, r5, r6, r7⟩ := HBL.out w1 q1
   have HC : Hid _ := HLV.out w1 q1 f1
   clear HLV
   clear HIN HW HON HBL q1 f1
   go_upto_region 3 with fail
   rw [<- hw1]
   clear hw1 y1 y2 y3 b2
   go_wp2_with (go_at_call 46; refine Calls.mono HC.out ?_; rintro e w3 ⟨rfl, h3⟩; have H3 : Hid _ := h3; clear h3)
   exact bodyPost_end (v := .tuple #[]) (by simp [results, Tryz.results19, go_sem]) rfl ⟨rfl, H3.out⟩
theorem wpList_store_part {ops : Array Oper} {rest : List Oper} {o : Oper} {a : Act} {w : World} {Q : Exit -> Act -> World -> Prop} (hgd : o.guard = none) (x y : Operand) (t : TypeId) (ho : o.op = .store t x y)
 (g off : Nat) (A : Array Value) (ty : TypeId) (hg : w.heap[g]? = some (.cells A ty (0, 0))) (cs : List Value) (hx : a.eval x = .pointer (some ⟨g, off, none⟩)) (hy : a.eval y = .agg cs.toArray) (hsz : (Tryz.prog.info? t).map (fun i => (i.size, i.zero.isSome)) = some (cs.length, true)) (h1 : ∀ u ∈ cs, u.oneCell' = true) (hlen : off + cs.length <= A.size)
 (h : wpList Tryz.prog ops Q rest (a.put o.dst undef) (w.setRow g (A.toList.take off ++ cs ++ A.toList.drop (off + cs.length)).toArray)) : wpList Tryz.prog ops Q (o :: rest) a w := by
 have hst := run_storeCells_at (P := Tryz.prog) g off ty cs 0 A w hg (by simpa using hlen) h1
 refine wpList_plain hgd fun _ hK => ?_
 obtain ⟨i0, hi, hz⟩ := Option.map_eq_some_iff.1 hsz
 unfold Oper.wp execOp
 have hz1 : i0.size = cs.length := congrArg Prod.fst hz
 have hrun : (storeVar t ⟨g, off, none⟩ (.agg cs.toArray)).run Tryz.prog w = .ok () (w.setRow g (A.toList.take off ++ cs ++ A.toList.drop (off + cs.length)).toArray) := by
  simp only [Nat.add_zero] at hst
  rw [<- hst]
  simp [storeVar, sizeOf, typeInfo, hi, Value.cells, hz1]
 simp only [ho, hx, hy, Instr.storeAt, Instr.sureAddr, Sem.run_bind, Sem.run_pure, Result.andThen_ok, hrun]
 exact hK _ _ h
structure Over10 (s : Mst) (d : Mdy) (w : World) (M : Ms) : Prop where
 told : MtC s d w M
 box : ∃ A, w.heap[s.mb]? = some (.cells A 71 (0, 0))
 ev : Row w s.hi 45 2 d.ve (M.ev.map evc)
 evs : M.ev.length <= 1048576
theorem Mach.ended {FS s d w M} (h : Mach FS s d w M) : Over10 s d w M := ⟨h.told, ⟨_, h.box⟩, h.rest.ev, h.rest.evs⟩
def zst : List Value := [.nilFunc, .nilFunc, .nilFunc, .nilFunc, .nilFunc, .nilFunc, .nilFunc, .nilFunc, .nilFunc, .nilFunc, .nilFunc, .nilFunc, .nilFunc, .nilFunc, .nilFunc, .nilFunc, .nilFunc, .nilFunc, .nilFunc, .nilFunc, .nilFunc, .nilFunc, .nilFunc, .nilFunc, .nilFunc, .nilFunc, .nilFunc, .nilFunc, .nilFunc, .nilFunc, .nilFunc, .slice none 0 0, .slice none 0 0, .pointer none, .pointer none, .int .i64 0, .int .i64 0, .int .i64 0, .slice none 0 0, .slice none 0 0, .slice none 0 0]
theorem zst_one : ∀ u ∈ zst, u.oneCell' = true := by
 have h : zst.all (fun u => u.oneCell') = true := by kernel_rfl
 exact fun u hu => List.all_eq_true.1 h u hu
theorem zst_size : (Tryz.prog.info? 67).map (fun i => (i.size, i.zero.isSome)) = some (zst.length, true) := by kernel_rfl
theorem zst_len : zst.length = 41 := rfl
theorem Mach.clear {FS s d w M} (h : Mach FS s d w M) : Over10 s d (w.setRow s.mb ((mcs s d M).toArray.toList.take 0 ++ zst ++ (mcs s d M).toArray.toList.drop (0 + zst.length)).toArray) M /\ Foo s d d w (w.setRow s.mb ((mcs s d M).toArray.toList.take 0 ++ zst ++ (mcs s d M).toArray.toList.drop (0 + zst.length)).toArray) := by
 have hb := setRow_heap w s.mb _ ((mcs s d M).toArray.toList.take 0 ++ zst ++ (mcs s d M).toArray.toList.drop (0 + zst.length)).toArray _ _ h.box
 refine ⟨⟨⟨cell_arr hb rfl, cell_arr hb rfl, cell_arr hb rfl, cell_arr hb rfl, cell_arr hb rfl, cell_arr hb rfl, cell_arr hb rfl, cell_arr hb rfl, fun i => fz_of hb⟩, ⟨_, hb⟩, h.rest.ev.move fun g hg => setRow_other w s.mb g _ (fun e => (h.rest.row_mb).2.2.2.1 (by rw [<- e]; exact hg)), h.rest.evs⟩, ⟨⟨rfl, rfl, rfl, by simp, fun k hk hn => setRow_other w s.mb k _ (fun e => hn (.inl e))⟩, fun k hk => .inl hk⟩⟩
theorem Over10.made {s d w M} (h : Over10 s d w M) (k : Int) : Over10 s d (w.setCell ⟨s.mb, 45, none⟩ (.int .i64 k)) { M with steps := k } /\ Foo s d d w (w.setCell ⟨s.mb, 45, none⟩ (.int .i64 k)) := by
 obtain ⟨A, hA⟩ := h.box
 have hs := heap_set_at (i := 45) (v := .int .i64 k) hA
 have lt45 : 45 < A.size := by
  have := h.told.c45
  simp [World.cell?, hA] at this
  exact (gl this)
 have ne : ∀ i, i ≠ 45 -> (w.setCell ⟨s.mb, 45, none⟩ (.int .i64 k)).cell? ⟨s.mb, i, none⟩ = w.cell? ⟨s.mb, i, none⟩ := fun i hi => by
  simp [World.cell?, hs, hA, Array.getElem?_setIfInBounds_ne (Ne.symm hi)]
 refine ⟨⟨⟨by rw [ne _ (by omega)]; exact h.told.c41, by rw [ne _ (by omega)]; exact h.told.c42, by rw [ne _ (by omega)]; exact h.told.c43, by rw [ne _ (by omega)]; exact h.told.c44, ?_, by rw [ne _ (by omega)]; exact h.told.c46, by rw [ne _ (by omega)]; exact h.told.c47, by rw [ne _ (by omega)]; exact h.told.c48, fun i => fz_of hs⟩, ⟨_, hs⟩, h.ev.move fun g hg => heap_set_other (fun e => own_not h.ev.out hA (by decide) (by rw [<- e]; exact hg)), h.evs⟩, Foo.set s d w 45 _⟩
 exact cell_arr hs (by simp [Array.getElem?_setIfInBounds_self_of_lt, lt45])
theorem Over10.over {s d w M} (h : Over10 s d w M) : Calls Tryz.prog 18 #[.pointer (some ⟨s.mb, 41, none⟩)] w fun e w' => e = .returned (.bool M.over) /\ w' = w := told_over w (o := 41) h.told.c48 h.told.c42
theorem Over10.lt {s d w M} (h : Over10 s d w M) : s.mb < w.heap.size := block_lt_of_cell h.told.c41
set_option maxRecDepth 100000 in
theorem mStep_no {s d w M} (h : Over10 s d w M) (ho : M.over = true) :
 Calls Tryz.prog 7 #[.pointer (some ⟨s.mb, 0, none⟩)] w fun e w' => e = .returned (.bool false) /\ w = w' := by
 have HO : Hid _ := h.over
 rw [ho] at HO
 have hlt := h.lt
 generalize s.mb = mb at *
 clear h
 go_enter Tryz.func7, Tryz.ntmps7
 go_wp2_with (go_at_call 18; refine Calls.mono HO.out ?_; rintro e w1 ⟨rfl, rfl⟩)
 go_ret
 exact ⟨rfl, rfl⟩
structure Stp (FS : List Fu) (s : Mst) (d : Mdy) (w w' : World) (M : Ms) : Prop where
 out : ∃ d', (M.over = false -> Mach FS s d' w' M) /\ Over10 s d' w' M /\ Foo s d d' w w'
set_option maxRecDepth 100000 in
set_option maxHeartbeats 2000000 in
theorem mStep_any {FS s d w M} (h : Mach FS s d w M) (ho : M.over = false) (M1 : Ms) (hM : M.adv FS = some M1) (hF : Few10 FS) (hR : Roomy M.on) (hk : ∀ f b, FS[M.here.fi]? = some f -> f.blks[M.here.bk]? = some b -> b.kind = 3 -> M.wait = [] \/ 0 <= b.val) (hs : 0 <= M1.steps /\ M1.steps <= 4611686018427387904) :
 Calls Tryz.prog 7 #[.pointer (some ⟨s.mb, 0, none⟩)] w fun e w' => (M1.rests = false -> e = .returned (.bool true) /\ Stp FS s d w w' { M1 with steps := M1.steps + 1 }) /\ (M1.rests = true -> e = .returned (.bool false) /\ Stp FS s d w w' M1) := by
 have HO : Hid _ := h.ended.over
 rw [ho] at HO
 have HA : Hid _ := mAdv_any h M1 hM hF hR hk
 have hlt := h.cells.lt
 clear h hM hF hR hk
 cases hr : M1.rests with
 | true =>
   have hov : M1.over = true := by unfold Ms.over; rw [hr]; rfl
   have HO2 : Hid (∀ w2, (∃ d', Mach FS s d' w2 M1 /\ Foo s d d' w w2) -> s.mb < w2.heap.size /\ Calls Tryz.prog 18 #[.pointer (some ⟨s.mb, 41, none⟩)] w2 fun e w' => e = .returned (.bool true) /\ w2 = w') := fun w2 ⟨d', q, _⟩ => ⟨q.cells.lt, by have := q.ended.over; rw [hov] at this; exact this.mono fun e w' r => ⟨r.1, r.2.symm⟩⟩
   have HCL : Hid (∀ w2, (∃ d', Mach FS s d' w2 M1 /\ Foo s d d' w w2) -> ∃ A, w2.heap[s.mb]? = some (.cells A 71 (0, 0)) /\ A.size = 49 /\ ∀ w3, w3 = w2.setRow s.mb (A.toList.take 0 ++ zst ++ A.toList.drop (0 + zst.length)).toArray -> s.mb < w3.heap.size /\ Hid (Calls Tryz.prog 20 #[.pointer (some ⟨s.mb, 41, none⟩)] w3 fun e w' => e = .returned (.bool false) /\ Stp FS s d w w' M1)) := by
    rintro w2 ⟨d', q, f2⟩
    refine ⟨_, q.box, rfl, ?_⟩
    intro w3 hw3
    have c := q.clear
    rw [<- hw3] at c
    refine ⟨c.1.lt, (told_made_no w3 (o := 41) (by rw [<- hr]; exact c.1.told.c48)).mono ?_⟩
    rintro e w' ⟨rfl, rfl⟩
    exact ⟨rfl, d', fun q => (by rw [hov] at q; cases q), c.1, f2.trans c.2⟩
   generalize s.mb = mb at *
   go_enter Tryz.func7, Tryz.ntmps7
   go_upto_region 4 with (first
    | (go_at_call 18; refine Calls.mono HO.out ?_; rintro e w1 ⟨rfl, rfl⟩)
    | (go_at_call 19; refine Calls.mono HA.out ?_; rintro e w2 ⟨rfl, h2⟩))
   obtain ⟨x2, hc2⟩ := HO2.out w2 h2
   obtain ⟨A, hA, hAs, hA3⟩ := HCL.out w2 h2
   have HC2 : Hid _ := hc2
   have HBX : Hid _ := hA
   obtain ⟨w3, hw3⟩ : ∃ w3, w3 = w2.setRow mb (A.toList.take 0 ++ zst ++ A.toList.drop (0 + zst.length)).toArray := ⟨_, rfl⟩
   obtain ⟨x3, HMD⟩ := hA3 w3 hw3
   clear HO HA HO2 HCL h2 hc2 hA hA3
   go_upto_region 5 with (go_at_call 18; refine Calls.mono HC2.out ?_; rintro e w4 ⟨rfl, rfl⟩)
   go_wp2_with (first
    | (refine wpList_store_part rfl _ _ 67 rfl mb 0 A 71 HBX.out zst rfl rfl zst_size zst_one (by rw [hAs, zst_len]; omega) ?_; rw [<- hw3]; clear hw3)
    | (go_at_call 20; refine Calls.mono HMD.out ?_; rintro e w5 ⟨rfl, h5⟩; have H5 : Hid _ := h5; clear h5))
   go_ret
   exact ⟨fun q => (by cases q), fun _ => ⟨rfl, H5.out⟩⟩
 | false =>
   cases hov : M1.over with
   | true =>
     have HO2 : Hid (∀ w2, (∃ d', Mach FS s d' w2 M1 /\ Foo s d d' w w2) -> s.mb < w2.heap.size /\ Calls Tryz.prog 18 #[.pointer (some ⟨s.mb, 41, none⟩)] w2 fun e w' => e = .returned (.bool true) /\ w2 = w') := fun w2 ⟨d', q, _⟩ => ⟨q.cells.lt, by have := q.ended.over; rw [hov] at this; exact this.mono fun e w' r => ⟨r.1, r.2.symm⟩⟩
     have HCL : Hid (∀ w2, (∃ d', Mach FS s d' w2 M1 /\ Foo s d d' w w2) -> ∃ A, w2.heap[s.mb]? = some (.cells A 71 (0, 0)) /\ A.size = 49 /\ ∀ w3, w3 = w2.setRow s.mb (A.toList.take 0 ++ zst ++ A.toList.drop (0 + zst.length)).toArray -> s.mb < w3.heap.size /\ Hid (Calls Tryz.prog 20 #[.pointer (some ⟨s.mb, 41, none⟩)] w3 fun e w' => e = .returned (.bool true) /\ Stp FS s d w w' { M1 with steps := M1.steps + 1 })) := by
      rintro w2 ⟨d', q, f2⟩
      refine ⟨_, q.box, rfl, ?_⟩
      intro w3 hw3
      have c := q.clear
      rw [<- hw3] at c
      refine ⟨c.1.lt, (told_made_yes w3 (o := 41) (by rw [<- hr]; exact c.1.told.c48) c.1.told.c45 (c.1.told.fz 45) hs.1 hs.2).mono ?_⟩
      rintro e w' ⟨rfl, rfl⟩
      have m := c.1.made (M1.steps + 1)
      exact ⟨rfl, d', fun q => (by have e9 : M1.over = false := q; rw [hov] at e9; cases e9), m.1, f2.trans (c.2.trans m.2)⟩
     generalize s.mb = mb at *
     go_enter Tryz.func7, Tryz.ntmps7
     go_upto_region 4 with (first
      | (go_at_call 18; refine Calls.mono HO.out ?_; rintro e w1 ⟨rfl, rfl⟩)
      | (go_at_call 19; refine Calls.mono HA.out ?_; rintro e w2 ⟨rfl, h2⟩))
     obtain ⟨x2, hc2⟩ := HO2.out w2 h2
     obtain ⟨A, hA, hAs, hA3⟩ := HCL.out w2 h2
     have HC2 : Hid _ := hc2
     have HBX : Hid _ := hA
     obtain ⟨w3, hw3⟩ : ∃ w3, w3 = w2.setRow mb (A.toList.take 0 ++ zst ++ A.toList.drop (0 + zst.length)).toArray := ⟨_, rfl⟩
     obtain ⟨x3, HMD⟩ := hA3 w3 hw3
     clear HO HA HO2 HCL h2 hc2 hA hA3
     go_upto_region 5 with (go_at_call 18; refine Calls.mono HC2.out ?_; rintro e w4 ⟨rfl, rfl⟩)
     go_wp2_with (first
      | (refine wpList_store_part rfl _ _ 67 rfl mb 0 A 71 HBX.out zst rfl rfl zst_size zst_one (by rw [hAs, zst_len]; omega) ?_; rw [<- hw3]; clear hw3)
      | (go_at_call 20; refine Calls.mono HMD.out ?_; rintro e w5 ⟨rfl, h5⟩; have H5 : Hid _ := h5; clear h5))
     go_ret
     exact ⟨fun _ => ⟨rfl, (by have z := H5.out; rw [hr] at z; exact z)⟩, fun q => (by cases q)⟩
   | false =>
     have HO2 : Hid (∀ w2, (∃ d', Mach FS s d' w2 M1 /\ Foo s d d' w w2) -> s.mb < w2.heap.size /\ (Calls Tryz.prog 18 #[.pointer (some ⟨s.mb, 41, none⟩)] w2 fun e w' => e = .returned (.bool false) /\ w2 = w') /\ Calls Tryz.prog 20 #[.pointer (some ⟨s.mb, 41, none⟩)] w2 fun e w' => e = .returned (.bool true) /\ Stp FS s d w w' { M1 with steps := M1.steps + 1 }) := fun w2 ⟨d', q, f2⟩ => by
      refine ⟨q.cells.lt, by have := q.ended.over; rw [hov] at this; exact this.mono fun e w' r => ⟨r.1, r.2.symm⟩, (told_made_yes w2 (o := 41) (by rw [<- hr]; exact q.told.c48) q.told.c45 (q.told.fz 45) hs.1 hs.2).mono ?_⟩
      rintro e w' ⟨rfl, rfl⟩
      have m := q.made (M1.steps + 1)
      exact ⟨rfl, d', fun _ => m.1, m.1.ended, f2.trans m.2⟩
     generalize s.mb = mb at *
     go_enter Tryz.func7, Tryz.ntmps7
     go_upto_region 4 with (first
      | (go_at_call 18; refine Calls.mono HO.out ?_; rintro e w1 ⟨rfl, rfl⟩)
      | (go_at_call 19; refine Calls.mono HA.out ?_; rintro e w2 ⟨rfl, h2⟩))
     obtain ⟨x2, hc2, hm2⟩ := HO2.out w2 h2
     have HC2 : Hid _ := hc2
     have HMD : Hid _ := hm2
     clear HO HA HO2 h2 hc2 hm2
     go_wp2_with (first
      | (go_at_call 18; refine Calls.mono HC2.out ?_; rintro e w4 ⟨rfl, rfl⟩)
      | (go_at_call 20; refine Calls.mono HMD.out ?_; rintro e w5 ⟨rfl, h5⟩; have H5 : Hid _ := h5; clear h5))
     go_ret
     exact ⟨fun _ => ⟨rfl, (by have z := H5.out; rw [hr] at z; exact z)⟩, fun q => (by cases q)⟩
end Go.Proofs.YtfbkopjncmkbiabGreatDoor
