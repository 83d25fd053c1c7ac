import Derived.Test.YtfbkopjncmkbiabGreatDoorKay
set_option linter.unusedVariables false
set_option linter.unusedSimpArgs false
namespace Go.Proofs.YtfbkopjncmkbiabGreatDoor
open Go.ChangeShapes Go.WideShapes Go.ChangeAt Go.RowKit Go.Maps
set_option maxRecDepth 100000 in
theorem mArg_any {FS s d w M} (h : Mach FS s d w M) (v : Vl) (ka : Option Addr) (kl kc : Nat) (hkl : kl = v.args.length) (hI : Ints w ka kc v.args) (i : Nat) (hi : i <= 8) (x : Int) (hx : M.arg v i = some x) (hl : M.nums.length <= 1000000000000) :
 Calls Tryz.prog 59 #[.pointer (some ⟨s.mb, 0, none⟩), .agg #[.int .i64 v.op, .int .i64 v.ty, .int .i64 v.imm, .slice ka kl kc], .int .i64 (i : Int)] w fun e w' => e = .returned (.int .i64 x) /\ Below w.heap.size w w' := by
 have hle := hI.le
 have hmx := hI.mx
 have A0 := below_new w (.cells #[.int .i64 v.op, .int .i64 v.ty, .int .i64 v.imm, .slice ka kl kc] 25)
 have HA : Hid _ := A0
 obtain ⟨mb, hmb⟩ : ∃ mb, mb = s.mb := ⟨_, rfl⟩
 rw [<- hmb]
 by_cases hlt : i < kl
 ·have hix : i < v.args.length := by omega
  have hI2 := hI.below A0 (Nat.le_refl _)
  obtain ⟨b, o, rfl, k1⟩ := hI2.at hix
  unfold Ms.arg at hx
  rw [dif_pos hix] at hx
  unfold Ms.num at hx
  split at hx
  ·next h0 =>
   obtain ⟨q, hq⟩ : ∃ q : Nat, v.args[i] = (q : Int) := ⟨v.args[i].toNat, by omega⟩
   rw [hq] at hx k1
   rw [Int.toNat_natCast] at hx
   have HN : Hid (Calls Tryz.prog 73 #[.pointer (some ⟨mb, 0, none⟩), .int .i64 (q : Int)] (w.alloc (.cells #[.int .i64 v.op, .int .i64 v.ty, .int .i64 v.imm, .slice (some ⟨b, o, none⟩) kl kc] 25)) fun e w' => e = .returned (.int .i64 x) /\ Below (w.alloc (.cells #[.int .i64 v.op, .int .i64 v.ty, .int .i64 v.imm, .slice (some ⟨b, o, none⟩) kl kc] 25)).heap.size (w.alloc (.cells #[.int .i64 v.op, .int .i64 v.ty, .int .i64 v.imm, .slice (some ⟨b, o, none⟩) kl kc] 25)) w') := by
    rw [hmb]
    exact mNumber_any (h.below A0) q x hx hl
   have hil : (i : Int) < (kl : Int) := by omega
   clear h hI hI2 hx hkl A0 hmb hq h0
   go_enter Tryz.func59, Tryz.ntmps59
   go_wp2_with (go_at_call 73; refine Calls.mono HN.out ?_; rintro e w1 ⟨rfl, hb1⟩)
   go_ret
   exact ⟨rfl, HA.out.trans (hb1.mono HA.out.size)⟩
  ·cases hx
 ·unfold Ms.arg at hx
  rw [dif_neg (by omega)] at hx
  cases hx
  have hil : (kl : Int) <= (i : Int) := by omega
  clear h hI hkl A0 hmb
  go_enter Tryz.func59, Tryz.ntmps59
  go_wp2_with fail
  go_ret
  exact ⟨rfl, HA.out⟩
theorem box_at {w : World} {mb i : Nat} {A A' : List Value} {v : Value} {t : TypeId} (h : w.heap[mb]? = some (.cells A.toArray t (0, 0))) (e : A.set i v = A') : (w.setCell ⟨mb, i, none⟩ v).heap[mb]? = some (.cells A'.toArray t (0, 0)) := by
 have := heap_set_at (i := i) (v := v) h
 rw [this, <- e]
 simp
theorem gi_set {w : World} {B g c n : Nat} {L : List Int} (h : OwnI w B (.slice (some ⟨g, 0, none⟩) n c) n L) (q : Nat) (hq : q < n) (x : Int) : OwnI (w.setCell ⟨g, q, none⟩ (.int .i64 x)) B (.slice (some ⟨g, 0, none⟩) n c) n (L.set q x) /\ GI B w (w.setCell ⟨g, q, none⟩ (.int .i64 x)) (.slice (some ⟨g, 0, none⟩) n c) (.slice (some ⟨g, 0, none⟩) n c) := by
 have hb := (own_block h.out rfl).1
 refine ⟨⟨by simpa using h.len, ?_⟩, ?_⟩
 ·have := own_set h.out q (by omega) (.int .i64 x)
  simpa [ivs, List.map_set] using this
 ·exact ⟨(Below.refl _ _).setCell (show B <= (⟨g, q, none⟩ : Addr).block from hb) _, fun k _ hk => heap_set_other (fun e => hk (by rw [e]; rfl)), fun k hk => .inl hk⟩
set_option maxRecDepth 100000 in
set_option maxHeartbeats 1000000 in
theorem mSet_vp {FS s d w M} (h : Mach FS s d w M) (v : Nat) (x : Int) (hv : M.here.fst + v <= 1000000000) (hl : M.nums.length <= 1000000000) :
 Calls Tryz.prog 41 #[.pointer (some ⟨s.mb, 0, none⟩), .int .i64 (v : Int), .int .i64 x] w fun e w' => e = .returned (.tuple #[]) /\ ∃ d', Mach FS s d' w' (M.put v x) /\ Foo s d d' w w' /\ d'.vp = d.vp := by
 obtain ⟨c31, c32, c34, c35, c36, c37, c38, c39, c40, hlt⟩ := h.cells
 obtain ⟨f, hf⟩ : ∃ f, f = M.here.fst := ⟨_, rfl⟩
 obtain ⟨mb, hmb⟩ : ∃ mb, mb = s.mb := ⟨_, rfl⟩
 obtain ⟨q, hq⟩ : ∃ q, q = f + v := ⟨_, rfl⟩
 have hqv : q <= 1000000000 := by omega
 have hwr : (f : Int) + (v : Int) = (q : Int) := by omega
 have hwx : IntKind.i64.wrap (q : Int) = (q : Int) := by rw [IntKind.wrap_i64]; omega
 obtain ⟨na, nc, e, _, hnc⟩ := own_slice h.rest.nums.out
 obtain ⟨nl, hnl⟩ : ∃ nl, nl = M.nums.length := ⟨_, rfl⟩
 have hput : M.put v x = { M with nums := setN M.nums q x } := by unfold Ms.put; rw [hq, hf]
 rw [hput]
 by_cases hin : q < M.nums.length
 ·obtain ⟨g, c, e1, hc1, hc2, hB, hg⟩ := own_some h.rest.nums.out (by omega)
  have HF : Hid (∃ d', Mach FS s d' (w.setCell ⟨g, q, none⟩ (.int .i64 x)) { M with nums := setN M.nums q x } /\ Foo s d d' w (w.setCell ⟨g, q, none⟩ (.int .i64 x)) /\ d'.vp = d.vp) := by
   have O := h.rest.nums
   rw [e1] at O
   have hs := gi_set O q hin x
   have eN : setN M.nums q x = M.nums.set q x := by unfold setN; rw [show q + 1 - M.nums.length = 0 by omega]; simp
   have R := h.rest.setNums (v' := d.vn) (nums' := M.nums.set q x) (by rw [e1]; exact hs.2) (by rw [e1]; simpa using hs.1)
   rw [eN]
   exact ⟨d, ⟨R.2.1.trans h.box, R.1⟩, R.2.2, rfl⟩
  rw [e1] at c39
  have hcz : w.cell? ⟨g, q, none⟩ = some (.int .i64 M.nums[q]) := by
   have O := h.rest.nums.out
   rw [e1] at O
   rw [own_cell O q (by omega)]
   simp [ivs, hin]
  have hfz : w.frozen? ⟨g, q, none⟩ = false := by
   have O := h.rest.nums.out
   rw [e1] at O
   exact own_fz O q
  generalize M.nums[q] = y at hcz
  rw [<- hnl] at c39 hin hc1 hl
  rw [<- hf] at c37
  rw [<- hmb] at c37 c39 hlt ⊢
  have hqn : (q : Int) < (nl : Int) := by omega
  clear h c31 c32 c34 c35 c36 c38 c40 hmb hq hf hnl e e1 hput hv
  go_enter Tryz.func41, Tryz.ntmps41
  go_wp2_with fail
  exact bodyPost_end (v := .tuple #[]) (by simp [results, Tryz.results41, go_sem]) rfl ⟨rfl, HF.out⟩
 ·obtain ⟨k, hk⟩ : ∃ k, k = q + 1 - M.nums.length := ⟨_, rfl⟩
  have hk0 : 0 < k := by omega
  have hlim : nl + k <= 17592186044416 := by omega
  obtain ⟨hi, hhi⟩ : ∃ hi, hi = s.hi := ⟨_, rfl⟩
  obtain ⟨N, hN⟩ : ∃ N, N = M.nums := ⟨_, rfl⟩
  have HHI : Hid (hi <= w.drew.heap.size) := by have := h.rest.hi.2; show hi <= w.heap.size; omega
  have hd : Below w.heap.size w w.drew := (Below.refl _ _).drew
  have hD := h.below hd
  have HON : Hid (OwnI w.drew hi (.slice na nl nc) nl N) := by
   have := hD.rest.nums
   rw [e] at this
   rw [hhi, hnl, hN]; exact this
  have PUT : Hid (∀ v6 w6, OwnI w6 hi v6 (nl + k) (N ++ List.replicate k 0) -> GI hi w.drew w6 (.slice na nl nc) v6 -> w6.cell? ⟨mb, 39, none⟩ = some (.slice na nl nc) /\ w6.frozen? ⟨mb, 39, none⟩ = false /\ mb < w6.heap.size /\ (∃ g c, v6 = .slice (some ⟨g, 0, none⟩) (nl + k) c /\ nl + k <= c /\ c <= 9223372036854775807 /\ g < (w6.setCell ⟨mb, 39, none⟩ v6).heap.size /\ (w6.setCell ⟨mb, 39, none⟩ v6).cell? ⟨g, q, none⟩ = some (.int .i64 0) /\ (w6.setCell ⟨mb, 39, none⟩ v6).frozen? ⟨g, q, none⟩ = false /\ Hid (∃ d', Mach FS s d' ((w6.setCell ⟨mb, 39, none⟩ v6).setCell ⟨g, q, none⟩ (.int .i64 x)) { M with nums := setN M.nums q x } /\ Foo s d d' w ((w6.setCell ⟨mb, 39, none⟩ v6).setCell ⟨g, q, none⟩ (.int .i64 x)) /\ d'.vp = d.vp)) /\ (w6.setCell ⟨mb, 39, none⟩ v6).cell? ⟨mb, 39, none⟩ = some v6) := by
   intro v6 w6 h6 g6
   have e9 : (N ++ List.replicate k 0).length = nl + k := by simp [hN, hnl]
   have R := hD.rest.setNums (v' := v6) (nums' := N ++ List.replicate k 0) (by rw [e, <- hhi, <- hnl]; exact g6) (by rw [<- hhi, e9]; exact h6)
   have b6 := R.2.1.trans hD.box
   have hs39 := box_at (A' := mcs s { d with vn := v6 } { M with nums := N ++ List.replicate k 0 }) (i := 39) (v := v6) b6 rfl
   have R9 := R.1.set 39 v6
   have F9 := R.2.2.trans (Foo.set s { d with vn := v6 } w6 39 v6)
   rw [<- hmb] at b6 hs39 R9 F9
   refine ⟨?_, fz_of b6, (gl b6), ?_, cell_arr hs39 rfl⟩
   ·have : w6.cell? ⟨mb, 39, none⟩ = some d.vn := cell_arr b6 rfl
    rw [this, e, <- hnl]
   ·have O9 := R9.nums
    rw [e9] at O9
    obtain ⟨g, c, e1, hc1, hc2, hB, hg⟩ := own_some O9.out (by omega)
    have e1' : v6 = .slice (some ⟨g, 0, none⟩) (nl + k) c := e1
    have O10 := O9
    have eq9 : ({ d with vn := v6 } : Mdy).vn = .slice (some ⟨g, 0, none⟩) (nl + k) c := e1
    rw [eq9] at O10
    have hqk : q < nl + k := by omega
    have hs := gi_set O10 q hqk x
    have eN : setN M.nums q x = (N ++ List.replicate k 0).set q x := by unfold setN; rw [hN, hk]
    have R10 := R9.setNums (v' := v6) (nums' := (N ++ List.replicate k 0).set q x) (by rw [eq9, <- e1']; rw [<- e1'] at hs; exact hs.2) (by rw [<- e1'] at hs; simpa [e9] using hs.1)
    refine ⟨g, c, e1', hc1, hc2, hg, ?_, ?_, { d with vn := v6 }, ⟨?_, ?_⟩, ?_, rfl⟩
    ·rw [own_cell O10.out q (by omega)]
     have hq2 : nl <= q := by omega
     simp [ivs]
     rw [List.getElem?_append_right (by rw [hN, List.length_map, <- hnl]; exact hq2)]
     rw [List.getElem?_replicate, if_pos (by rw [hN, List.length_map, <- hnl]; omega)]
    ·exact own_fz O10.out q
    ·rw [R10.2.1, <- hmb, hs39, eN]; rfl
    ·rw [eN]; exact R10.1
    ·exact (Foo.of_below hd).trans (F9.trans R10.2.2)
  have S0 : (fun w' : World => w'.cell? ⟨mb, 39, none⟩ = some (.slice na nl nc)) w.drew := by
   have := c39
   rw [e, <- hnl, <- hmb] at this
   exact this
  rw [e, <- hnl] at c39
  rw [<- hnl] at hin hl
  rw [<- hf] at c37
  rw [<- hmb] at c37 c39 hlt ⊢
  have hqn : (nl : Int) <= (q : Int) := by omega
  have hkk : (q : Int) + 1 - (nl : Int) = (k : Int) := by omega
  have hwk : IntKind.i64.wrap (k : Int) = (k : Int) := by rw [IntKind.wrap_i64]; omega
  have hwq : IntKind.i64.wrap ((q : Int) + 1) = (q : Int) + 1 := by rw [IntKind.wrap_i64]; omega
  have hqk2 : (q : Int) < ((nl + k : Nat) : Int) := by omega
  clear h hD c31 c32 c34 c35 c36 c38 c40 hmb hq hf hnl e hput hv hN hhi hk
  go_enter Tryz.func41, Tryz.ntmps41
  go_wp2_with fail
  refine led_start (S := fun w' : World => w'.cell? ⟨mb, 39, none⟩ = some (.slice na nl nc)) (z := 19) (by kernel_rfl) ?_
  refine led_t (i := 0) (v := ?v0) rfl (by kernel_rfl) (.inl ⟨by rfl, ?hy0⟩) S0 ?rest0
  case hy0 =>
   rintro w' h1
   go_simp
   all_goals with_reducible rfl
  try simp only [Act.put, List.getElem_toArray, List.getElem_cons_succ, List.getElem_cons_zero, List.setIfInBounds_toArray, List.set_cons_zero, List.set_cons_succ]
  refine led_t (i := 1) (v := ?v1) rfl (by kernel_rfl) (.inl ⟨by rfl, ?hy1⟩) S0 ?rest1
  case hy1 =>
   rintro w' h1
   go_simp
   all_goals with_reducible rfl
  try simp only [Act.put, List.getElem_toArray, List.getElem_cons_succ, List.getElem_cons_zero, List.setIfInBounds_toArray, List.set_cons_zero, List.set_cons_succ]
  refine led_t (i := 2) (v := ?v2) rfl (by kernel_rfl) (.inl ⟨by rfl, ?hy2⟩) S0 ?rest2
  case hy2 =>
   rintro w' h1
   go_simp
   all_goals with_reducible rfl
  try simp only [Act.put, List.getElem_toArray, List.getElem_cons_succ, List.getElem_cons_zero, List.setIfInBounds_toArray, List.set_cons_zero, List.set_cons_succ]
  refine led_t (i := 3) (v := ?v3) rfl (by kernel_rfl) (.inl ⟨by rfl, ?hy3⟩) S0 ?rest3
  case hy3 =>
   rintro w' h1
   go_simp
   all_goals with_reducible rfl
  try simp only [Act.put, List.getElem_toArray, List.getElem_cons_succ, List.getElem_cons_zero, List.setIfInBounds_toArray, List.set_cons_zero, List.set_cons_succ]
  refine led_t (i := 4) (v := ?v4) rfl (by kernel_rfl) (.inl ⟨by rfl, ?hy4⟩) S0 ?rest4
  case hy4 =>
   rintro w' h1
   go_simp
   all_goals with_reducible rfl
  try simp only [Act.put, List.getElem_toArray, List.getElem_cons_succ, List.getElem_cons_zero, List.setIfInBounds_toArray, List.set_cons_zero, List.set_cons_succ]
  refine led_t (i := 5) (v := ?v5) rfl (by kernel_rfl) (.inl ⟨by rfl, ?hy5⟩) S0 ?rest5
  case hy5 =>
   rintro w' h1
   go_simp
   all_goals with_reducible rfl
  try simp only [Act.put, List.getElem_toArray, List.getElem_cons_succ, List.getElem_cons_zero, List.setIfInBounds_toArray, List.set_cons_zero, List.set_cons_succ]
  refine led_t (i := 6) (v := ?v6) rfl (by kernel_rfl) (.inl ⟨by rfl, ?hy6⟩) S0 ?rest6
  case hy6 =>
   rintro w' h1
   go_simp
   all_goals with_reducible rfl
  try simp only [Act.put, List.getElem_toArray, List.getElem_cons_succ, List.getElem_cons_zero, List.setIfInBounds_toArray, List.set_cons_zero, List.set_cons_succ]
  refine led_t (i := 7) (v := ?v7) rfl (by kernel_rfl) (.inl ⟨by rfl, ?hy7⟩) S0 ?rest7
  case hy7 =>
   rintro w' h1
   go_simp
   all_goals with_reducible rfl
  try simp only [Act.put, List.getElem_toArray, List.getElem_cons_succ, List.getElem_cons_zero, List.setIfInBounds_toArray, List.set_cons_zero, List.set_cons_succ]
  refine led_t (i := 8) (v := ?v8) rfl (by kernel_rfl) (.inl ⟨by rfl, ?hy8⟩) S0 ?rest8
  case hy8 =>
   rintro w' h1
   go_simp
   all_goals with_reducible rfl
  try simp only [Act.put, List.getElem_toArray, List.getElem_cons_succ, List.getElem_cons_zero, List.setIfInBounds_toArray, List.set_cons_zero, List.set_cons_succ]
  refine led_t (i := 9) (v := ?v9) rfl (by kernel_rfl) (.inl ⟨by rfl, ?hy9⟩) S0 ?rest9
  case hy9 =>
   rintro w' h1
   go_simp
   all_goals with_reducible rfl
  try simp only [Act.put, List.getElem_toArray, List.getElem_cons_succ, List.getElem_cons_zero, List.setIfInBounds_toArray, List.set_cons_zero, List.set_cons_succ]
  refine led_t (i := 10) (v := ?v10) rfl (by kernel_rfl) (.inl ⟨by rfl, ?hy10⟩) S0 ?rest10
  case hy10 =>
   rintro w' h1
   go_simp
   all_goals with_reducible rfl
  try simp only [Act.put, List.getElem_toArray, List.getElem_cons_succ, List.getElem_cons_zero, List.setIfInBounds_toArray, List.set_cons_zero, List.set_cons_succ]
  refine led_t (i := 11) (v := ?v11) rfl (by kernel_rfl) (.inl ⟨by rfl, ?hy11⟩) S0 ?rest11
  case hy11 =>
   rintro w' h1
   go_simp
   all_goals with_reducible rfl
  try simp only [Act.put, List.getElem_toArray, List.getElem_cons_succ, List.getElem_cons_zero, List.setIfInBounds_toArray, List.set_cons_zero, List.set_cons_succ]
  refine led_t (i := 12) (v := ?v12) rfl (by kernel_rfl) (.inl ⟨by rfl, ?hy12⟩) S0 ?rest12
  case hy12 =>
   rintro w' h1
   go_simp
   all_goals with_reducible rfl
  try simp only [Act.put, List.getElem_toArray, List.getElem_cons_succ, List.getElem_cons_zero, List.setIfInBounds_toArray, List.set_cons_zero, List.set_cons_succ]
  refine led_t (i := 13) (v := ?v13) rfl (by kernel_rfl) (.inl ⟨by rfl, ?hy13⟩) S0 ?rest13
  case hy13 =>
   rintro w' h1
   go_simp
   all_goals with_reducible rfl
  try simp only [Act.put, List.getElem_toArray, List.getElem_cons_succ, List.getElem_cons_zero, List.setIfInBounds_toArray, List.set_cons_zero, List.set_cons_succ]
  refine led_t (i := 14) (v := ?v14) rfl (by kernel_rfl) (.inl ⟨by rfl, ?hy14⟩) S0 ?rest14
  case hy14 =>
   rintro w' h1
   go_simp
   all_goals with_reducible rfl
  try simp only [Act.put, List.getElem_toArray, List.getElem_cons_succ, List.getElem_cons_zero, List.setIfInBounds_toArray, List.set_cons_zero, List.set_cons_succ]
  refine led_one (i := 15) rfl (by kernel_rfl) ?_
  intro K2 hK2
  refine step_append_makeG rfl _ _ rfl hi (.slice na nl nc) nl N (by simp [Act.eval]) HON.out k (by simp [Act.eval]) hk0 hlim HHI.out ?_
  intro v6 w6 h6 g6
  have S6 := PUT.out v6 w6 h6 g6
  refine hK2 _ _ (fun _ => S6.1) ?_
  clear hK2
  obtain ⟨a6, c6, e6, _, _⟩ := own_slice h6.out
  subst e6
  have P6 : Hid _ := S6.2
  have T6 := S6.1
  have F6 := S6.2.1
  have H6 : Hid _ := h6
  clear h6 g6 S6
  try simp only [Act.put, List.getElem_toArray, List.getElem_cons_succ, List.getElem_cons_zero, List.setIfInBounds_toArray, List.set_cons_zero, List.set_cons_succ]
  refine led_one (i := 16) rfl (by kernel_rfl) ?_
  intro K3 hK3
  rw [if_pos (by rfl)]
  go_simp
  refine hK3 _ _ (fun _ => T6) ?_
  clear hK3
  try simp only [Act.put, List.getElem_toArray, List.getElem_cons_succ, List.getElem_cons_zero, List.setIfInBounds_toArray, List.set_cons_zero, List.set_cons_succ]
  refine led_one (i := 17) rfl (by kernel_rfl) ?_
  intro K4 hK4
  rw [if_pos (by rfl)]
  go_simp
  refine hK4 _ _ (fun _ => T6) ?_
  clear hK4
  try simp only [Act.put, List.getElem_toArray, List.getElem_cons_succ, List.getElem_cons_zero, List.setIfInBounds_toArray, List.set_cons_zero, List.set_cons_succ]
  refine led_one (i := 18) rfl (by kernel_rfl) ?_
  intro K5 hK5
  rw [if_pos (by rfl)]
  go_simp
  refine hK5 _ _ (fun _ => T6) ?_
  clear hK5
  try simp only [Act.put, List.getElem_toArray, List.getElem_cons_succ, List.getElem_cons_zero, List.setIfInBounds_toArray, List.set_cons_zero, List.set_cons_succ]
  refine led_one (i := 19) rfl (by kernel_rfl) ?_
  intro K7 hK7
  rw [if_pos (by rfl)]
  go_simp
  refine hK7 _ _ (fun h => absurd rfl h) ?_
  clear hK7
  refine led_done (by kernel_rfl) ?_
  obtain ⟨_, hx6, ⟨g, c, e1, hc1, hc2, hgl, hz, hfz, HF⟩, hc9⟩ := P6.out
  cases e1
  obtain ⟨W9, hW9⟩ : ∃ W9, W9 = w6.setCell ⟨mb, 39, none⟩ (.slice (some ⟨g, 0, none⟩) (nl + k) c6) := ⟨_, rfl⟩
  rw [<- hW9] at hgl hz hfz HF hc9 ⊢
  obtain ⟨nk, hnk⟩ : ∃ nk, nk = nl + k := ⟨_, rfl⟩
  rw [<- hnk] at hc1 hc9 hqk2 ⊢
  have hmb9 : mb < W9.heap.size := block_lt_of_cell hc9
  have hqnk : q < nk := by omega
  clear hW9 P6 H6 PUT S0 T6 F6 hx6 HON HHI hnk hin hlim c37 c39 hlt
  go_wp2_with fail
  exact bodyPost_end (v := .tuple #[]) (by simp [results, Tryz.results41, go_sem]) rfl ⟨rfl, HF.out⟩
theorem mSet_any {FS s d w M} (h : Mach FS s d w M) (v : Nat) (x : Int) (hv : M.here.fst + v <= 1000000000) (hl : M.nums.length <= 1000000000) :
 Calls Tryz.prog 41 #[.pointer (some ⟨s.mb, 0, none⟩), .int .i64 (v : Int), .int .i64 x] w fun e w' => e = .returned (.tuple #[]) /\ ∃ d', Mach FS s d' w' (M.put v x) /\ Foo s d d' w w' :=
 (mSet_vp h v x hv hl).mono fun e w' ⟨q1, d', q2, q3, _⟩ => ⟨q1, d', q2, q3⟩
structure MtC (s : Mst) (d : Mdy) (w : World) (M : Ms) : Prop where
 c41 : w.cell? ⟨s.mb, 41, none⟩ = some d.ve
 c42 : w.cell? ⟨s.mb, 42, none⟩ = some (.int .i64 M.fin)
 c43 : w.cell? ⟨s.mb, 43, none⟩ = some (.int .i64 M.kd)
 c44 : w.cell? ⟨s.mb, 44, none⟩ = some (.int .i64 M.vl)
 c45 : w.cell? ⟨s.mb, 45, none⟩ = some (.int .i64 M.steps)
 c46 : w.cell? ⟨s.mb, 46, none⟩ = some (.int .i64 M.words)
 c47 : w.cell? ⟨s.mb, 47, none⟩ = some (.int .i64 M.deep)
 c48 : w.cell? ⟨s.mb, 48, none⟩ = some (.bool M.rests)
 fz : ∀ i, w.frozen? ⟨s.mb, i, none⟩ = false
theorem Mach.told {FS s d w M} (h : Mach FS s d w M) : MtC s d w M :=
 ⟨cell_arr h.box rfl, cell_arr h.box rfl, cell_arr h.box rfl, cell_arr h.box rfl, cell_arr h.box rfl, cell_arr h.box rfl, cell_arr h.box rfl, cell_arr h.box rfl, fun i => fz_of h.box⟩
theorem Mach.panic {FS s d w M} (h : Mach FS s d w M) (k x : Int) : Mach FS s d (((w.setCell ⟨s.mb, 42, none⟩ (.int .i64 2)).setCell ⟨s.mb, 43, none⟩ (.int .i64 k)).setCell ⟨s.mb, 44, none⟩ (.int .i64 x)) (M.panic k x) /\ Foo s d d w (((w.setCell ⟨s.mb, 42, none⟩ (.int .i64 2)).setCell ⟨s.mb, 43, none⟩ (.int .i64 k)).setCell ⟨s.mb, 44, none⟩ (.int .i64 x)) :=
 ⟨⟨box_at (box_at (box_at h.box rfl) rfl) rfl, ((h.rest.set 42 _).set 43 _).set 44 _⟩, ((Foo.set s d w 42 _).trans (Foo.set s d _ 43 _)).trans (Foo.set s d _ 44 _)⟩
theorem Mach.exit {FS s d w M} (h : Mach FS s d w M) : Mach FS s d (w.setCell ⟨s.mb, 42, none⟩ (.int .i64 1)) { M with fin := 1 } /\ Foo s d d w (w.setCell ⟨s.mb, 42, none⟩ (.int .i64 1)) :=
 ⟨⟨box_at h.box rfl, h.rest.set 42 _⟩, Foo.set s d w 42 _⟩
theorem Mach.deeper {FS s d w M} (h : Mach FS s d w M) (k : Int) : Mach FS s d (w.setCell ⟨s.mb, 47, none⟩ (.int .i64 k)) { M with deep := k } /\ Foo s d d w (w.setCell ⟨s.mb, 47, none⟩ (.int .i64 k)) :=
 ⟨⟨box_at h.box rfl, h.rest.set 47 _⟩, Foo.set s d w 47 _⟩
theorem Mach.resting {FS s d w M} (h : Mach FS s d w M) : Mach FS s d (w.setCell ⟨s.mb, 48, none⟩ (.bool true)) { M with rests := true } /\ Foo s d d w (w.setCell ⟨s.mb, 48, none⟩ (.bool true)) :=
 ⟨⟨box_at h.box rfl, h.rest.set 48 _⟩, Foo.set s d w 48 _⟩
theorem Mach.made {FS s d w M} (h : Mach FS s d w M) (k : Int) : Mach FS s d (w.setCell ⟨s.mb, 45, none⟩ (.int .i64 k)) { M with steps := k } /\ Foo s d d w (w.setCell ⟨s.mb, 45, none⟩ (.int .i64 k)) :=
 ⟨⟨box_at h.box rfl, h.rest.set 45 _⟩, Foo.set s d w 45 _⟩
set_option maxRecDepth 10000 in
theorem told_full (w : World) {mb o : Nat} {ao : Option Addr} {c : Nat} (c0 : w.cell? ⟨mb, o, none⟩ = some (.slice ao 1048576 c)) {r : Bool} (c7 : w.cell? ⟨mb, o + 7, none⟩ = some (.bool r)) (fz : w.frozen? ⟨mb, o + 7, none⟩ = false) (k x : Int) :
 Calls Tryz.prog 112 #[.pointer (some ⟨mb, o, none⟩), .int .i64 k, .int .i64 x] w fun e w' => e = .returned (.bool false) /\ w' = w.setCell ⟨mb, o + 7, none⟩ (.bool true) := by
 go_enter Tryz.func112, Tryz.ntmps112
 go_wp2_with fail
 go_ret
 exact ⟨rfl, rfl⟩
set_option maxRecDepth 10000 in
theorem mTell_any {FS s d w M} (h : Mach FS s d w M) (k x : Int) :
 Calls Tryz.prog 68 #[.pointer (some ⟨s.mb, 0, none⟩), .int .i64 k, .int .i64 x] w fun e w' => e = .returned (.tuple #[.int .i64 0, .bool false]) /\ ∃ d', Mach FS s d' w' (M.tell k x) /\ Foo s d d' w w' := by
 obtain ⟨c41, c42, c43, c44, c45, c46, c47, c48, fz⟩ := h.told
 have hlt := h.cells.lt
 by_cases hf : M.ev.length = 1048576
 ·obtain ⟨ao, c, e, _⟩ := evs_of h.rest.ev
  rw [e, hf] at c41
  have HE : Hid _ := told_full w (o := 41) c41 c48 (fz 48) k x
  have HR : Hid (∃ d', Mach FS s d' (w.setCell ⟨s.mb, 48, none⟩ (.bool true)) (M.tell k x) /\ Foo s d d' w (w.setCell ⟨s.mb, 48, none⟩ (.bool true))) := by
   unfold Ms.tell
   rw [if_pos hf]
   exact ⟨d, h.resting⟩
  generalize s.mb = mb at HE HR hlt ⊢
  clear h c41 c42 c43 c44 c45 c46 c47 c48 fz e hf
  go_enter Tryz.func68, Tryz.ntmps68
  go_wp2_with (go_at_call 112; refine Calls.mono HE.out ?_; rintro e w1 ⟨rfl, hw1⟩; have HW : Hid _ := hw1; clear hw1)
  go_ret2
  exact ⟨rfl, by rw [HW.out]; exact HR.out⟩
 ·have hn : M.ev.length < 1048576 := by have := h.rest.evs; omega
  have HE : Hid _ := told_event w (o := 41) h.box (by decide) c41 h.rest.ev hn h.rest.hi.2 k x
  have HR : Hid (∀ v' w5, Row w5 s.hi 45 2 v' ((M.ev ++ [(k, x)]).map evc) -> GI s.hi w w5 d.ve v' -> ∃ d', Mach FS s d' (w5.setCell ⟨s.mb, 41, none⟩ v') (M.tell k x) /\ Foo s d d' w (w5.setCell ⟨s.mb, 41, none⟩ v')) := by
   intro v' w5 h5 g5
   have R := h.rest.setEv g5 h5 (by simp; omega)
   unfold Ms.tell
   rw [if_neg hf]
   refine ⟨{ d with ve := v' }, ⟨box_at (R.2.1.trans h.box) rfl, R.1.set 41 v'⟩, R.2.2.trans (Foo.set s { d with ve := v' } w5 41 v')⟩
  generalize s.mb = mb at HE HR hlt ⊢
  clear h c41 c42 c43 c44 c45 c46 c47 c48 fz hn hf
  go_enter Tryz.func68, Tryz.ntmps68
  go_wp2_with (go_at_call 112; refine Calls.mono HE.out ?_; rintro e w1 ⟨rfl, v5, w5, h5, g5, _, hw1⟩; have HW : Hid (∃ d', Mach FS s d' w1 (M.tell k x) /\ Foo s d d' w w1) := (by rw [hw1]; exact HR.out v5 w5 h5 g5); clear hw1 h5 g5)
  go_ret2
  exact ⟨rfl, HW.out⟩
set_option maxRecDepth 10000 in
theorem mPanics_any {FS s d w M} (h : Mach FS s d w M) (k x : Int) :
 Calls Tryz.prog 65 #[.pointer (some ⟨s.mb, 0, none⟩), .int .i64 k, .int .i64 x] w fun e w' => e = .returned (.tuple #[.int .i64 0, .bool false]) /\ ∃ d', Mach FS s d' w' (M.panic k x) /\ Foo s d d' w w' := by
 obtain ⟨c41, c42, c43, c44, c45, c46, c47, c48, fz⟩ := h.told
 have hlt := h.cells.lt
 have HE : Hid _ := told_panic w (o := 41) (k := k) (v := x) c42 c43 c44 (fz 42) (fz 43) (fz 44)
 have HR : Hid _ := h.panic k x
 generalize s.mb = mb at HE HR hlt
 clear h c41 c42 c43 c44 c45 c46 c47 c48 fz
 go_enter Tryz.func65, Tryz.ntmps65
 go_wp2_with (go_at_call 111; refine Calls.mono HE.out ?_; rintro e w1 ⟨rfl, hw1⟩; have HW : Hid _ := hw1; clear hw1)
 go_ret2
 exact ⟨rfl, d, by rw [HW.out]; exact HR.out⟩
theorem agr_in {s : Mst} {w : World} (hw : Agr s w) {b o : Nat} (h : ∀ W, Agr s W -> ∃ v, W.cell? ⟨b, o, none⟩ = some v) : s.lo <= b /\ b < s.hi := by
 by_cases hb : s.lo <= b /\ b < s.hi
 ·exact hb
 ·exfalso
  obtain ⟨v, hv⟩ := h { w with heap := w.heap.setIfInBounds b (.map #[] 0) } (fun k h1 h2 => by
   show (w.heap.setIfInBounds b _)[k]? = _
   rw [Array.getElem?_setIfInBounds_ne (by omega)]
   exact hw k h1 h2)
  have hlt : b < (w.heap.setIfInBounds b (.map #[] 0)).size := block_lt_of_cell hv
  simp at hlt
  simp [World.cell?, Array.getElem?_setIfInBounds_self_of_lt, hlt] at hv
theorem agr_cell {s : Mst} {w : World} (hw : Agr s w) {b : Nat} (hb : s.lo <= b /\ b < s.hi) {W : World} (hW : Agr s W) (o : Nat) : W.cell? ⟨b, o, none⟩ = w.cell? ⟨b, o, none⟩ :=
 World.cell?_of_block (w := w) ((hW b hb.1 hb.2).trans (hw b hb.1 hb.2).symm)
theorem st_int {s : Mst} {w : World} {ka : Option Addr} {kc : Nat} {L : List Int} (hw : Agr s w) (h : ∀ W, Agr s W -> Ints W ka kc L) {i : Nat} (hi : i < L.length) : ∃ b o, ka = some ⟨b, o, none⟩ /\ ∀ W, Agr s W -> W.cell? ⟨b, o + i, none⟩ = some (.int .i64 L[i]) := by
 obtain ⟨b, o, e, _⟩ := (h w hw).at hi
 refine ⟨b, o, e, fun W hW => ?_⟩
 obtain ⟨b', o', e', h'⟩ := (h W hW).at hi
 rw [e] at e'
 cases e'
 exact h'
theorem st_vl {s : Mst} {w : World} {la : Option Addr} {lc : Nat} {N : List Vl} (hw : Agr s w) (h : ∀ W, Agr s W -> Vls W la lc N) {i : Nat} (hi : i < N.length) :
 ∃ b o ka kc, la = some ⟨b, o, none⟩ /\ (∀ W, Agr s W -> W.cell? ⟨b, o + i * 4, none⟩ = some (.int .i64 N[i].op) /\ W.cell? ⟨b, o + i * 4 + 1, none⟩ = some (.int .i64 N[i].ty) /\ W.cell? ⟨b, o + i * 4 + 2, none⟩ = some (.int .i64 N[i].imm) /\ W.cell? ⟨b, o + i * 4 + 3, none⟩ = some (.slice ka N[i].args.length kc)) /\ ∀ W, Agr s W -> Ints W ka kc N[i].args := by
 have hne : N ≠ [] := by intro e; rw [e] at hi; simp at hi
 obtain ⟨b, o, e, hl, hA⟩ := (h w hw).out hne
 have hb : s.lo <= b /\ b < s.hi := agr_in (o := o + i * 4) hw fun W hW => by
  obtain ⟨b', o', e', _, hA'⟩ := (h W hW).out hne
  rw [e] at e'
  cases e'
  obtain ⟨_, _, c0, _⟩ := (hA' i hi).out
  exact ⟨_, c0⟩
 obtain ⟨ka, kc, c0, c1, c2, c3, _⟩ := (hA i hi).out
 refine ⟨b, o, ka, kc, e, fun W hW => ?_, fun W hW => ?_⟩
 ·rw [agr_cell hw hb hW, agr_cell hw hb hW, agr_cell hw hb hW, agr_cell hw hb hW]
  exact ⟨c0, c1, c2, c3⟩
 ·obtain ⟨b', o', e', _, hA'⟩ := (h W hW).out hne
  rw [e] at e'
  cases e'
  obtain ⟨ka', kc', d0, d1, d2, d3, hI⟩ := (hA' i hi).out
  rw [agr_cell hw hb hW, c3] at d3
  cases d3
  exact hI
theorem st_bk {s : Mst} {w : World} {la : Option Addr} {lc : Nat} {N : List Bk} (hw : Agr s w) (h : ∀ W, Agr s W -> Bks W la lc N) {i : Nat} (hi : i < N.length) :
 ∃ b o ka kc xa xc ma mc na nc, la = some ⟨b, o, none⟩ /\ (∀ W, Agr s W -> W.cell? ⟨b, o + i * 6, none⟩ = some (.slice ka N[i].phis.length kc) /\ W.cell? ⟨b, o + i * 6 + 1, none⟩ = some (.slice xa N[i].body.length xc) /\ W.cell? ⟨b, o + i * 6 + 2, none⟩ = some (.int .i64 N[i].kind) /\ W.cell? ⟨b, o + i * 6 + 3, none⟩ = some (.int .i64 N[i].val) /\ W.cell? ⟨b, o + i * 6 + 4, none⟩ = some (.slice ma N[i].ways.length mc) /\ W.cell? ⟨b, o + i * 6 + 5, none⟩ = some (.slice na N[i].preds.length nc))
   /\ ∀ W, Agr s W -> Ints W ka kc N[i].phis /\ Ints W xa xc N[i].body /\ Ints W ma mc N[i].ways /\ Ints W na nc N[i].preds := by
 have hne : N ≠ [] := by intro e; rw [e] at hi; simp at hi
 obtain ⟨b, o, e, hl, hA⟩ := (h w hw).out hne
 have hb : s.lo <= b /\ b < s.hi := agr_in (o := o + i * 6 + 2) hw fun W hW => by
  obtain ⟨b', o', e', _, hA'⟩ := (h W hW).out hne
  rw [e] at e'
  cases e'
  obtain ⟨_, _, _, _, _, _, _, _, _, _, c2, _⟩ := (hA' i hi).out
  exact ⟨_, c2⟩
 obtain ⟨ka, kc, xa, xc, ma, mc, na, nc, c0, c1, c2, c3, c4, c5, _⟩ := (hA i hi).out
 refine ⟨b, o, ka, kc, xa, xc, ma, mc, na, nc, e, fun W hW => ?_, fun W hW => ?_⟩
 ·rw [agr_cell hw hb hW, agr_cell hw hb hW, agr_cell hw hb hW, agr_cell hw hb hW, agr_cell hw hb hW, agr_cell hw hb hW]
  exact ⟨c0, c1, c2, c3, c4, c5⟩
 ·obtain ⟨b', o', e', _, hA'⟩ := (h W hW).out hne
  rw [e] at e'
  cases e'
  obtain ⟨ka', kc', xa', xc', ma', mc', na', nc', d0, d1, d2, d3, d4, d5, h1, h2, h3, h4⟩ := (hA' i hi).out
  rw [agr_cell hw hb hW] at d0 d1 d4 d5
  rw [c0] at d0
  rw [c1] at d1
  rw [c4] at d4
  rw [c5] at d5
  cases d0
  cases d1
  cases d4
  cases d5
  exact ⟨h1, h2, h3, h4⟩
theorem st_fu {s : Mst} {w : World} {FS : List Fu} (hw : Agr s w) (h : ∀ W, Agr s W -> Fus W (some ⟨s.fb, s.fo, none⟩) s.fc FS) {i : Nat} (hi : i < FS.length) :
 ∃ ka kc la lc ma mc, (∀ W, Agr s W -> W.cell? ⟨s.fb, s.fo + i * 5 + 1, none⟩ = some (.slice ka FS[i].params.length kc) /\ W.cell? ⟨s.fb, s.fo + i * 5 + 3, none⟩ = some (.slice la FS[i].vals.length lc) /\ W.cell? ⟨s.fb, s.fo + i * 5 + 4, none⟩ = some (.slice ma FS[i].blks.length mc))
   /\ (∀ W, Agr s W -> Ints W ka kc FS[i].params) /\ (∀ W, Agr s W -> Vls W la lc FS[i].vals) /\ ∀ W, Agr s W -> Bks W ma mc FS[i].blks := by
 have hb : s.lo <= s.fb /\ s.fb < s.hi := agr_in (o := s.fo + i * 5 + 2) hw fun W hW => by
  obtain ⟨b, o, ka, kc, la, lc, ma, mc, e, _, _, _, c2, _⟩ := (h W hW).at hi
  cases e
  exact ⟨_, c2⟩
 obtain ⟨b, o, ka, kc, la, lc, ma, mc, e, _, c0, c1, c2, c3, c4, _⟩ := (h w hw).at hi
 cases e
 have key : ∀ W, Agr s W -> Ints W ka kc FS[i].params /\ Vls W la lc FS[i].vals /\ Bks W ma mc FS[i].blks := fun W hW => by
  obtain ⟨b', o', ka', kc', la', lc', ma', mc', e', _, d0, d1, d2, d3, d4, g1, g2, g3⟩ := (h W hW).at hi
  cases e'
  rw [agr_cell hw hb hW] at d1 d3 d4
  rw [c1] at d1
  rw [c3] at d3
  rw [c4] at d4
  cases d1
  cases d3
  cases d4
  exact ⟨g1, g2, g3⟩
 refine ⟨ka, kc, la, lc, ma, mc, fun W hW => ?_, fun W hW => (key W hW).1, fun W hW => (key W hW).2.1, fun W hW => (key W hW).2.2⟩
 rw [agr_cell hw hb hW, agr_cell hw hb hW, agr_cell hw hb hW]
 exact ⟨c1, c3, c4⟩
end Go.Proofs.YtfbkopjncmkbiabGreatDoor
