import Derived.Test.YtegoemeefmjnoaaGreatDoorJbj
set_option linter.unusedVariables false
set_option linter.unusedSimpArgs false
namespace Go.Proofs.YtegoemeefmjnoaaGreatDoor
open Go.ChangeShapes Go.WideShapes Go.ChangeAt Go.RowKit Go.Maps

theorem toIntA_wrap (x : BitVec 64) : IntKind.i64.wrap (x.toNat : Int) = x.toInt := by
  have h := x.isLt
  rw [IntKind.wrap_i64, BitVec.toInt_eq_toNat_cond]
  split <;> omega
theorem andA_bv (a b : Int) : bits .and .i64 a b = (BitVec.ofInt 64 a &&& BitVec.ofInt 64 b).toInt := toIntA_wrap _
theorem andA_small (a : Int) (m : Nat) (hm : m < 9223372036854775808) : ∃ i : Nat, i ≤ m ∧ bits .and .i64 a (m : Int) = (i : Int) := by
  have h1 : (BitVec.ofInt 64 a &&& BitVec.ofInt 64 (m : Int)).toNat ≤ m := by
    rw [BitVec.toNat_and]
    refine Nat.le_trans Nat.and_le_right ?_
    rw [BitVec.toNat_ofInt]
    omega
  refine ⟨_, h1, ?_⟩
  rw [andA_bv, BitVec.toInt_eq_toNat_cond, if_pos (by omega)]
/-- AlirRests' program; b: its last block. -/
def reF (b : Ab) : List Af := [⟨⟨#[109, 97, 105, 110]⟩, [], 0, 1, [⟨[⟨1, 1048576, (1, 0), [], []⟩, ⟨1, 1, (2, 0), [], []⟩, ⟨1, 5, (1, 7), [], []⟩], 1, (0, 0), [1]⟩, ⟨[⟨26, 0, (0, 0), [(1, 0)], []⟩, ⟨3, 0, (1, 0), [(1, 0), (2, 0)], []⟩], 2, (1, 0), [1, 2]⟩, b]⟩]
def reG (bk bh : Nat) (k : Int) : Fa := ⟨0, bk, bh, [k, -1, -1, -1, -1, -1, -1, 5], sl0 1, 1⟩
def reW (E : List (Int × Int)) (f k v s : Int) (r : Bool) : Wv := ⟨[], E, f, k, v, s, 0, 1, r, hpz⟩
def reM (bk bh : Nat) (k : Int) (E : List (Int × Int)) (s : Int) : Ma := ⟨reG bk bh k, [], reW E 0 0 0 s false⟩
theorem re_start (b : Ab) : WayA (reF b) 4 (Ma.start [] 0) (reM 1 0 1048576 [] 4) := by
  have h := goes_way (FS := reF b) (n := 4) (M := Ma.start [] 0) (by kernel_rfl)
  have e : Ma.its (reF b) 4 (Ma.start [] 0) = reM 1 0 1048576 [] 4 := by kernel_rfl
  rw [e] at h
  exact h
theorem re_tell (b : Ab) (k s : Int) (E : List (Int × Int)) (hE : E.length ≠ 1048576) : (reM 1 0 k E s).adv (reF b) = some (reM 1 1 k (E ++ [(1, k)]) s) := by
  have h : (reM 1 0 k E s).adv (reF b) = (fun V : Wv => if V.over then some ({ (reM 1 0 k E s).on with wv := V } : Ma) else (({ (reM 1 0 k E s).on with wv := V } : Ma).set (0, 0) 0)) ((reM 1 0 k E s).wv.tell 1 k) := by kernel_rfl
  rw [h]
  unfold Wv.tell
  rw [if_neg (show ¬ (reM 1 0 k E s).wv.ev.length = 1048576 from hE)]
  rfl
theorem re_sub (b : Ab) (k s : Int) (E : List (Int × Int)) : (reM 1 1 k E s).adv (reF b) = some (reM 1 2 (doIW 3 k 1) E s) := by kernel_rfl
theorem re_way (b : Ab) (k s : Int) (E : List (Int × Int)) : (reM 1 2 k E s).adv (reF b) = if k ≠ 0 then some (reM 1 0 k E s) else some (reM 2 0 k E s) := by kernel_rfl
theorem re_go {b : Ab} {bk bh bk' bh' : Nat} {k k' s : Int} {E E' : List (Int × Int)} (hs : 0 ≤ s ∧ s ≤ 1000000000) (h : (reM bk bh k E s).adv (reF b) = some (reM bk' bh' k' E' s)) : (reM bk bh k E s).stp (reF b) = some (true, reM bk' bh' k' E' (s + 1)) := stp_go rfl (Nat.zero_le _) hs h rfl
/-- One turn. -/
theorem re_turn (b : Ab) (k s : Int) (E : List (Int × Int)) (hE : E.length ≠ 1048576) (hk : 1 ≤ k ∧ k ≤ 1048576) (hs : 0 ≤ s ∧ s ≤ 900000000) : WayA (reF b) 3 (reM 1 0 k E s) (reM (if k = 1 then 2 else 1) 0 (k - 1) (E ++ [(1, k)]) (s + 3)) := by
  have h0 := re_go (by omega) (re_tell b k s E hE)
  have h1 := re_go (s := s + 1) (by omega) (re_sub b k (s + 1) (E ++ [(1, k)]))
  have ed : doIW 3 k 1 = k - 1 := by
    show wrap64 (k - 1) = k - 1
    unfold wrap64
    omega
  rw [ed] at h1
  clear ed
  have h2 : (reM 1 2 (k - 1) (E ++ [(1, k)]) (s + 1 + 1)).stp (reF b) = some (true, reM (if k = 1 then 2 else 1) 0 (k - 1) (E ++ [(1, k)]) (s + 1 + 1 + 1)) := by
    have q := re_way b (k - 1) (s + 1 + 1) (E ++ [(1, k)])
    by_cases e : k = 1
    · rw [if_neg (by omega)] at q
      rw [if_pos e]
      exact re_go (by omega) q
    · rw [if_pos (by omega)] at q
      rw [if_neg e]
      exact re_go (by omega) q
  have z := ((WayA.one h0).more h1).more h2
  have e3 : s + 1 + 1 + 1 = s + 3 := by omega
  rw [e3] at z
  exact z
/-- What is told in so many turns. -/
def uev (i : Nat) : List (Int × Int) := (List.range i).map fun (j : Nat) => ((1 : Int), 1048576 - (j : Int))
theorem uev_len (i : Nat) : (uev i).length = i := by simp [uev]
theorem uev_more (i : Nat) : uev (i + 1) = uev i ++ [(1, 1048576 - (i : Int))] := by simp [uev, List.range_succ]
theorem uev_at (i j : Nat) (h : j < (uev i).length) : (uev i)[j] = (1, 1048576 - (j : Int)) := by simp [uev]
theorem re_turns (b : Ab) : ∀ i : Nat, i < 1048576 → WayA (reF b) (4 + 3 * i) (Ma.start [] 0) (reM 1 0 (1048576 - (i : Int)) (uev i) (4 + 3 * (i : Int))) := by
  intro i
  induction i with
  | zero => intro _; exact re_start b
  | succ i ih =>
    intro hi
    have g := ih (by omega)
    have t := re_turn b (1048576 - (i : Int)) (4 + 3 * (i : Int)) (uev i) (by rw [uev_len]; omega) (by omega) (by omega)
    rw [if_neg (by omega), ← uev_more] at t
    have z := g.trans t
    have e1 : 4 + 3 * i + 3 = 4 + 3 * (i + 1) := by omega
    have e2 : (1048576 : Int) - (i : Int) - 1 = 1048576 - ((i + 1 : Nat) : Int) := by omega
    have e3 : 4 + 3 * (i : Int) + 3 = 4 + 3 * ((i + 1 : Nat) : Int) := by omega
    rw [e1, e2, e3] at z
    exact z
theorem re_last (b : Ab) {K : Nat} (hK : K = 1048576) : WayA (reF b) (4 + 3 * K) (Ma.start [] 0) (reM 2 0 0 (uev K) (4 + 3 * (K : Int))) := by
  obtain ⟨i, rfl⟩ : ∃ i, K = i + 1 := ⟨K - 1, by omega⟩
  have g := re_turns b i (by omega)
  have t := re_turn b (1048576 - (i : Int)) (4 + 3 * (i : Int)) (uev i) (by rw [uev_len]; omega) (by omega) (by omega)
  rw [if_pos (by omega), ← uev_more] at t
  have z := g.trans t
  have e1 : 4 + 3 * i + 3 = 4 + 3 * (i + 1) := by omega
  have e2 : (1048576 : Int) - (i : Int) - 1 = 0 := by omega
  have e3 : 4 + 3 * (i : Int) + 3 = 4 + 3 * ((i + 1 : Nat) : Int) := by omega
  rw [e1, e2, e3] at z
  exact z
/-- The last blocks. -/
def reL : Nat → Ab
  | 0 => ⟨[⟨26, 0, (0, 0), [(1, 7)], []⟩], 3, (0, 0), []⟩
  | 1 => ⟨[], 3, (0, 0), []⟩
  | 2 => ⟨[], 4, (1, 7), []⟩
  | 3 => ⟨[⟨28, 3, (0, 0), [(1, 0)], []⟩], 3, (0, 0), []⟩
  | _ => ⟨[⟨27, 0, (0, 0), [(1, 7)], []⟩], 3, (0, 0), []⟩
theorem re_ok0 : OkA (reF (reL 0)) 0 := .of (by decide +kernel)
theorem re_ok1 : OkA (reF (reL 1)) 0 := .of (by decide +kernel)
theorem re_ok2 : OkA (reF (reL 2)) 0 := .of (by decide +kernel)
theorem re_ok3 : OkA (reF (reL 3)) 0 := .of (by decide +kernel)
theorem re_ok4 : OkA (reF (reL 4)) 0 := .of (by decide +kernel)
/-- How a run of it ends. -/
def EndsA (c : Nat) (E : List (Int × Int)) (f k v s : Int) : Prop := ∃ (N : Nat) (M1 MF : Ma) (r : Bool), N ≤ 4000000 ∧ WayA (reF (reL c)) N (Ma.start [] 0) M1 ∧ M1.stp (reF (reL c)) = some (false, MF) ∧ MF.wv = reW E f k v s r ∧ MF.over = true
theorem re_end0 {K : Nat} (hK : K = 1048576) : EndsA 0 (uev K) 0 0 0 3145732 := by
  have g := re_last (reL 0) hK
  unfold EndsA
  have hE : (uev K).length = 1048576 := by rw [uev_len, hK]
  have es : 4 + 3 * (K : Int) = 3145732 := by omega
  rw [es] at g
  obtain ⟨E, hEE⟩ : ∃ E, E = uev K := ⟨_, rfl⟩
  rw [← hEE] at hE g ⊢
  have ha : (reM 2 0 0 E 3145732).adv (reF (reL 0)) = some ({ (reM 2 0 0 E 3145732).on with wv := reW E 0 0 0 3145732 true } : Ma) := by
    have h : (reM 2 0 0 E 3145732).adv (reF (reL 0)) = (fun V : Wv => if V.over then some ({ (reM 2 0 0 E 3145732).on with wv := V } : Ma) else (({ (reM 2 0 0 E 3145732).on with wv := V } : Ma).set (0, 0) 0)) ((reM 2 0 0 E 3145732).wv.tell 1 5) := by kernel_rfl
    rw [h]
    unfold Wv.tell
    rw [if_pos (show (reM 2 0 0 E 3145732).wv.ev.length = 1048576 from hE)]
    rfl
  refine ⟨4 + 3 * K, _, ({ (reM 2 0 0 E 3145732).on with wv := reW E 0 0 0 3145732 true } : Ma), true, by omega, g, ?_, rfl, rfl⟩
  unfold Ma.stp
  rw [show (reM 2 0 0 E 3145732).over = false from rfl, if_neg (by decide), if_pos ⟨Nat.zero_le _, show (0 : Int) ≤ 3145732 by decide, show (3145732 : Int) ≤ 4611686018427387904 by decide⟩, ha]
  rfl
theorem re_endX {K : Nat} (hK : K = 1048576) {c : Nat} {f k v : Int} (hf : f ≠ 0) (h : ∀ E, ∃ F : Fa, (reM 2 0 0 E 3145732).adv (reF (reL c)) = some (⟨F, [], reW E f k v 3145732 false⟩ : Ma)) : EndsA c (uev K) f k v 3145733 := by
  have g := re_last (reL c) hK
  unfold EndsA
  have es : 4 + 3 * (K : Int) = 3145732 := by omega
  rw [es] at g
  obtain ⟨F, hF⟩ := h (uev K)
  have st : (reM 2 0 0 (uev K) 3145732).stp (reF (reL c)) = some (true, (⟨F, [], reW (uev K) f k v 3145733 false⟩ : Ma)) := stp_go (M := reM 2 0 0 (uev K) 3145732) rfl (Nat.zero_le _) (show (0 : Int) ≤ 3145732 ∧ (3145732 : Int) ≤ 1000000000 by decide) hF rfl
  have ho : (⟨F, [], reW (uev K) f k v 3145733 false⟩ : Ma).over = true := by
    show (false || !decide (f = 0)) = true
    rw [decide_eq_false hf]
    rfl
  exact ⟨4 + 3 * K + 1, _, _, false, by omega, g.more st, stp_over ho, rfl, ho⟩
theorem re_end1 {K : Nat} (hK : K = 1048576) : EndsA 1 (uev K) 1 0 0 3145733 := re_endX hK (by decide) fun E => ⟨reG 2 0 0, by kernel_rfl⟩
theorem re_end2 {K : Nat} (hK : K = 1048576) : EndsA 2 (uev K) 2 6 5 3145733 := re_endX hK (by decide) fun E => ⟨reG 2 0 0, by kernel_rfl⟩
theorem re_end3 {K : Nat} (hK : K = 1048576) : EndsA 3 (uev K) 2 3 0 3145733 := re_endX hK (by decide) fun E => ⟨reG 2 1 0, by kernel_rfl⟩
theorem re_end4 {K : Nat} (hK : K = 1048576) : EndsA 4 (uev K) 3 5 0 3145733 := re_endX hK (by decide) fun E => ⟨reG 2 1 0, by kernel_rfl⟩
/-- Run, where the run is over. -/
theorem mRunA_over {s ve w} {V : Wv} (h : OvA s ve w V) (ho : V.over = true) {fuel : Nat} (hf : fuel ≤ 1099511627776) :
    Calls Tryz.prog 13 #[.pointer (some ⟨s.ws.mb, 0, none⟩), .int .i64 fuel] w fun e w' => ∃ v B, e = .returned (.tuple #[otvA v V, .int .i64 0]) ∧ Row w' B 52 2 v (V.ev.map evc) ∧ Below w.heap.size w w' := by
  obtain ⟨wq, hwq⟩ : ∃ wq, wq = w.alloc (.cells #[.slice none 0 0, .int .i64 0, .int .i64 0, .int .i64 0, .int .i64 0, .int .i64 0, .int .i64 0] 48) := ⟨_, rfl⟩
  obtain ⟨wb, hwb⟩ : ∃ wb, wb = wq.alloc (.cells #[.slice none 0 0, .int .i64 0, .int .i64 0, .int .i64 0, .int .i64 0, .int .i64 0, .int .i64 0] 48) := ⟨_, rfl⟩
  have bq : Below w.heap.size w wq := by rw [hwq]; exact below_newA w _
  have bb : Below wq.heap.size wq wb := by rw [hwb]; exact below_newA wq _
  have bwb : Below w.heap.size w wb := bq.trans (bb.mono bq.size)
  have k0 : wq.heap[w.heap.size]? = some (.cells #[.slice none 0 0, .int .i64 0, .int .i64 0, .int .i64 0, .int .i64 0, .int .i64 0, .int .i64 0] 48 (0, 0)) := by rw [hwq]; exact heap_alloc_new _ _
  have k1 : wb.heap[w.heap.size]? = some (.cells #[.slice none 0 0, .int .i64 0, .int .i64 0, .int .i64 0, .int .i64 0, .int .i64 0, .int .i64 0] 48 (0, 0)) := (bb.block _ (Array.getElem?_eq_some_iff.1 k0).1).trans k0
  have k2 : wb.heap[wq.heap.size]? = some (.cells #[.slice none 0 0, .int .i64 0, .int .i64 0, .int .i64 0, .int .i64 0, .int .i64 0, .int .i64 0] 48 (0, 0)) := by rw [hwb]; exact heap_alloc_new _ _
  have hfin : ∀ W, FinR 0 fuel (fun k W => k = 0 ∧ W = wb) (fun W => W = wb) W → W = wb := fun W hW => by
    unfold FinR at hW
    split at hW
    · exact hW
    · exact hW.2
  have T := told_run wq (mb := s.ws.mb) (o := 15) (B := s.ws.hi) (fuel := fuel) (N := 0) #[.pointer (some ⟨s.ws.mb, 0, none⟩)] opens_stepA hf (fun k W => k = 0 ∧ W = wb) (fun W => W = wb) (E := V.ev) (x1 := V.fin) (x2 := V.kd) (x3 := V.vl) (x4 := V.steps) (x5 := V.words) (x6 := V.deep) ⟨rfl, by rw [hwb]⟩ (fun k W hk => absurd hk (Nat.not_lt_zero _)) (fun W hi => by
      obtain ⟨_, rfl⟩ := hi
      exact (mStep_no (h.below bwb) ho).mono fun e w' q => ⟨q.1, q.2⟩) (fun W hW => by
    rw [hfin W hW]
    exact ⟨(h.below bwb).toldAt, k2⟩)
  refine (mRunA_of w wq h.lt hf _ hwq T fun wF hW => by rw [hfin wF hW]; exact k1).mono ?_
  rintro e w' ⟨v, wF, rfl, hW, hR, hO⟩
  have e1 := hfin wF hW
  subst e1
  refine ⟨v, _, rfl, hR, ?_⟩
  have sz0 := bq.size
  exact bwb.trans (hO.below bwb.size fun k hk => by rcases hk with rfl | rfl <;> omega)
/-- Run to the end, and once more. -/
theorem re_run {c n : Nat} {E : List (Int × Int)} (hn : E.length = n) {f k v t : Int} (hE : EndsA c E f k v t) {s d w} (h : Mca (reF (reL c)) s d w (Ma.start [] 0)) : Calls Tryz.prog 13 #[.pointer (some ⟨s.ws.mb, 0, none⟩), .int .i64 ((1073741824 : Nat) : Int)] w fun e w' => ∃ ao c', e = .returned (.tuple #[.agg #[.slice ao n c', .int .i64 f, .int .i64 k, .int .i64 v, .int .i64 t, .int .i64 0, .int .i64 1], .int .i64 0]) ∧ Evs w' ao c' E ∧ (∃ (d' : Ady) (MF : Ma) (r : Bool), OvA s d'.wd.ve w' MF.wv ∧ MF.wv = reW E f k v t r ∧ MF.over = true ∧ FooA s d d' w w') := by
  obtain ⟨N, M1, MF, r, hN, hW, hS, hw, ho⟩ := hE
  refine (run_to h (fuel := 1073741824) (N := N) (by omega) (by omega) hW hS).mono ?_
  rintro e w' ⟨ao, c', d', rfl, hE, hO, hf⟩
  have hl : MF.wv.ev.length = n := by rw [hw]; exact hn
  refine ⟨ao, c', ?_, ?_, d', MF, r, hO, hw, ho, hf⟩
  · rw [hl, hw]
    rfl
  · rw [hw] at hE
    exact hE
theorem re_again {n : Nat} {E : List (Int × Int)} (hn : E.length = n) {f k v t : Int} {s : Ast} {d : Ady} {W : World} {MF : Ma} {r : Bool} (hO : OvA s d.wd.ve W MF.wv) (hw : MF.wv = reW E f k v t r) (ho : MF.over = true) : Calls Tryz.prog 13 #[.pointer (some ⟨s.ws.mb, 0, none⟩), .int .i64 ((1099511627776 : Nat) : Int)] W fun e w' => ∃ ao c', e = .returned (.tuple #[.agg #[.slice ao n c', .int .i64 f, .int .i64 k, .int .i64 v, .int .i64 t, .int .i64 0, .int .i64 1], .int .i64 0]) ∧ Evs w' ao c' E ∧ Below W.heap.size W w' := by
  refine (mRunA_over hO ho (fuel := 1099511627776) (by omega)).mono ?_
  rintro e w' ⟨v', B, rfl, hR, hb⟩
  obtain ⟨ao, c', rfl, hE⟩ := evs_of hR
  have hl : MF.wv.ev.length = n := by rw [hw]; exact hn
  refine ⟨ao, c', ?_, by rw [hw] at hE; exact hE, hb⟩
  unfold otvA
  rw [hl, hw]
  rfl
end Go.Proofs.YtegoemeefmjnoaaGreatDoor
