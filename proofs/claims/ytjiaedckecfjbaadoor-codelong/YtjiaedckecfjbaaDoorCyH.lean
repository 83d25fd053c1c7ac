import Derived.Test.YtjiaedckecfjbaaDoorVfX
set_option linter.unusedVariables false
set_option linter.unusedSimpArgs false
namespace Go.Proofs.YtjiaedckecfjbaaDoor
open Go.ChangeShapes Go.WideShapes Go.ChangeAt Go.RowKit Go.Maps Go.WideMaps

theorem valN_lo (x : Int) : ∀ k : Nat, (valN (lo k x) : Int) = x % 2 ^ (8 * k)
  | 0 => by simp [lo, valN, Int.emod_one]
  | k + 1 => by
    rw [lo_succ, valN_snoc, lo_len]
    have hb : 0 ≤ byt x k ∧ byt x k < 256 := by
      unfold byt
      exact ⟨Int.emod_nonneg _ (by omega), Int.emod_lt_of_pos _ (by omega)⟩
    have e1 := valN_lo x k
    have e2 : ((byt x k).toNat : Int) = byt x k := Int.toNat_of_nonneg hb.1
    rw [Int.natCast_add, Int.natCast_mul, e1, e2]
    have e3 : ((2 ^ (8 * k) : Nat) : Int) = 2 ^ (8 * k) := by norm_cast
    rw [e3]
    have e4 : (2 : Int) ^ (8 * (k + 1)) = 2 ^ (8 * k) * 256 := by
      rw [show 8 * (k + 1) = 8 * k + 8 from rfl, Int.pow_add]
      rfl
    rw [e4]
    unfold byt
    have hp : (0 : Int) < 2 ^ (8 * k) := Int.pow_pos (by omega)
    generalize (2 : Int) ^ (8 * k) = P at hp ⊢
    have d1 := Int.mul_ediv_add_emod x P
    have d2 := Int.mul_ediv_add_emod (x / P) 256
    have d3 : x / (P * 256) = x / P / 256 := (Int.ediv_ediv_of_nonneg (Int.le_of_lt hp)).symm
    have d4 := Int.mul_ediv_add_emod x (P * 256)
    rw [d3] at d4
    have d5 : P * 256 * (x / P / 256) = P * (256 * (x / P / 256)) := by rw [Int.mul_assoc]
    rw [d5] at d4
    have d6 : 256 * (x / P / 256) = x / P - x / P % 256 := by omega
    rw [d6, Int.mul_sub] at d4
    rw [Int.mul_comm (x / P % 256) P]
    omega
theorem drop_at {B S : List Int} {next : Nat} (hd : B.drop next = S) (k : Nat) : B.drop (next + k) = S.drop k := by rw [← hd, List.drop_drop]
theorem fld_here {B M R : List Int} {next k : Nat} (hd : B.drop next = M ++ R) (hk : M.length = k) : fldB B next k = M ∧ B.drop (next + k) = R ∧ (1 ≤ k → next + k ≤ B.length) := by
  refine ⟨?_, ?_, fun h1 => ?_⟩
  · unfold fldB
    rw [hd, ← hk, List.take_left]
  · rw [drop_at hd, ← hk, List.drop_left]
  · have := congrArg List.length hd
    rw [List.length_drop, List.length_append] at this
    omega
/-- Does a number fit so many bytes. -/
def InK (k : Nat) (x : Int) : Prop := (k ≤ 7 ∧ 0 ≤ x ∧ x < 2 ^ (8 * k)) ∨ (k = 8 ∧ -9223372036854775808 ≤ x ∧ x ≤ 9223372036854775807)
theorem wrap_lo {k : Nat} {x : Int} (h : InK k x) : wrap64 (valN (lo k x) : Int) = x := by
  rw [valN_lo]
  rcases h with ⟨h1, h2, h3⟩ | ⟨rfl, h2, h3⟩
  · rw [Int.emod_eq_of_lt h2 h3]
    have : (2 : Int) ^ (8 * k) ≤ 2 ^ 56 := by
      rcases (show k = 0 ∨ k = 1 ∨ k = 2 ∨ k = 3 ∨ k = 4 ∨ k = 5 ∨ k = 6 ∨ k = 7 by omega) with rfl | rfl | rfl | rfl | rfl | rfl | rfl | rfl <;> decide
    unfold wrap64
    have e : (2 : Int) ^ 56 = 72057594037927936 := rfl
    omega
  · show wrap64 (x % 18446744073709551616) = x
    unfold wrap64
    omega
theorem rdN_here {B R : List Int} {next k : Nat} {x least most : Int} (hd : B.drop next = lo k x ++ R) (hk : 1 ≤ k) (h : InK k x) (h1 : least ≤ x ∧ x ≤ most) : rdN B k least most next = .ok x ∧ B.drop (next + k) = R := by
  obtain ⟨e1, e2, e3⟩ := fld_here hd (lo_len k x)
  have e4 : fldV B next k = x := by unfold fldV; rw [e1]; exact wrap_lo h
  refine ⟨?_, e2⟩
  unfold rdN
  rw [if_neg (by have := e3 hk; omega), e4, if_pos h1]
theorem rdMk_here {B R : List Int} (hd : B.drop 0 = mkB ++ R) : rdMk B mkB 0 = .ok 4 ∧ B.drop 4 = R := by
  have g : ∀ (L : List Int), (∀ x ∈ L, 0 ≤ x ∧ x < 256) → ∀ next, B.drop next = L ++ R → rdMk B L next = .ok (next + L.length) ∧ B.drop (next + L.length) = R := by
    intro L
    induction L with
    | nil => intro _ next h; exact ⟨rfl, h⟩
    | cons x L ih =>
      intro hL next h
      have hx := hL x (List.mem_cons_self ..)
      have e : lo 1 x = [x] := by
        simp [lo, byt]
        omega
      have q := rdN_here (B := B) (R := L ++ R) (next := next) (k := 1) (x := x) (least := x) (most := x) (by rw [e]; exact h) (by omega) (.inl ⟨by omega, by omega, by show x < 256; omega⟩) ⟨Int.le_refl _, Int.le_refl _⟩
      have := ih (fun y hy => hL y (List.mem_cons_of_mem _ hy)) (next + 1) q.2
      simp only [rdMk, q.1]
      rw [List.length_cons, show next + (L.length + 1) = next + 1 + L.length by omega]
      exact this
  have := g mkB (by decide) 0 hd
  exact this
theorem tby_text {B R : List Int} {next : Nat} {s : ByteArray} (hd : B.drop next = tby s ++ R) : fldT B next s.size = nml s ∧ B.drop (next + s.size) = R ∧ (1 ≤ s.size → next + s.size ≤ B.length) := by
  obtain ⟨e1, e2, e3⟩ := fld_here hd (tby_len s)
  refine ⟨?_, e2, e3⟩
  unfold fldT
  rw [e1]
  unfold tby nml
  rw [List.map_map]
  conv => rhs; rw [← List.map_id s.data.toList]
  refine List.map_congr_left fun x _ => ?_
  simp
theorem rdNm_here {B R : List Int} {next : Nat} {s : ByteArray} {M : List (List UInt8)} (hd : B.drop next = lo 1 (s.size : Int) ++ (tby s ++ R)) (h1 : 1 ≤ s.size ∧ s.size ≤ 64) (h2 : nmOk (nml s) = true) (h3 : ¬ nml s ∈ M) : rdNm B M next = .ok (nml s) ∧ B.drop (next + 1 + (nml s).length) = R := by
  have q := rdN_here (least := 1) (most := 64) hd (by omega) (.inl ⟨by omega, by omega, by show (s.size : Int) < 256; omega⟩) (by omega)
  obtain ⟨t1, t2, t3⟩ := tby_text q.2
  have hl : (nml s).length = s.size := by
    unfold nml
    rw [Array.length_toList]
    rfl
  rw [hl]
  refine ⟨?_, t2⟩
  unfold rdNm
  rw [q.1]
  dsimp only
  rw [Int.toNat_natCast, if_neg (by have := t3 h1.1; omega), t1, if_pos ⟨h2, h3⟩]
theorem rdFn_here {B R : List Int} {next : Nat} {f : Rf} {M : List (List UInt8)} {params : Int} (hd : B.drop next = wrR f ++ R) (h1 : 1 ≤ f.name.size ∧ f.name.size ≤ 64) (h2 : nmOk (nml f.name) = true) (h3 : ¬ nml f.name ∈ M) (hf : 2 ≤ f.fr ∧ f.fr ≤ 1099511627776) (hc : 1 ≤ f.ct ∧ f.ct ≤ 4294967295) (hp : 0 ≤ f.pa ∧ f.pa ≤ params ∧ params ≤ 8) :
    rdFn B M params next = .ok (nml f.name, f.fr, f.ct, f.pa) ∧ B.drop (next + 1 + (nml f.name).length + 8 + 4 + 1) = R := by
  unfold wrR at hd
  simp only [List.append_assoc] at hd
  have a1 := rdNm_here hd h1 h2 h3
  have a2 := rdN_here (least := 2) (most := 1099511627776) a1.2 (by omega) (.inr ⟨rfl, by omega, by omega⟩) hf
  have a3 := rdN_here (least := 1) (most := 4294967295) a2.2 (by omega) (.inl ⟨by omega, by omega, by show f.ct < 4294967296; omega⟩) hc
  have a4 := rdN_here (least := 0) (most := params) a3.2 (by omega) (.inl ⟨by omega, by omega, by show f.pa < 256; omega⟩) ⟨hp.1, hp.2.1⟩
  refine ⟨?_, a4.2⟩
  unfold rdFn
  rw [a1.1]
  dsimp only
  rw [a2.1]
  dsimp only
  rw [a3.1]
  dsimp only
  rw [a4.1]
end Go.Proofs.YtjiaedckecfjbaaDoor
namespace Go.Proofs.YtjiaedckecfjbaaDoor
open Go.ChangeShapes Go.WideShapes Go.ChangeAt Go.RowKit Go.Maps Go.WideMaps

theorem nmOk_size {s : ByteArray} (h : nmOk (nml s) = true) : 1 ≤ s.size ∧ s.size ≤ 64 := by
  have hl : (nml s).length = s.size := by
    unfold nml
    rw [Array.length_toList]
    rfl
  unfold nmOk at h
  simp only [Bool.and_eq_true, decide_eq_true_eq] at h
  obtain ⟨⟨⟨h1, h2⟩, _⟩, _⟩ := h
  refine ⟨?_, by omega⟩
  cases e : nml s with
  | nil => rw [e] at h2; simp at h2
  | cons c l => rw [e] at hl; simp at hl; omega
theorem rdFns_here {B R : List Int} {main len : Int} (hlen : len ≤ 4294967295) : ∀ {FS A : List Rf} {i : Nat} {first : Int} {next : Nat}, B.drop next = FS.flatMap wrR ++ R → i = A.length → cutF len first FS = true → 0 ≤ first → (∀ f ∈ FS, nmOk (nml f.name) = true) → ((A ++ FS).map fun f : Rf => nml f.name).Nodup → (∀ f ∈ FS, (2 ≤ f.fr ∧ f.fr ≤ 1099511627776) ∧ (0 ≤ f.pa ∧ f.pa ≤ 8)) → (∀ j (hj : j < FS.length), ((i + j : Nat) : Int) = main → (FS[j]).pa = 0) →
    rdFns B main FS.length (i : Int) first A next = .ok (A ++ FS, next + (FS.flatMap wrR).length) ∧ B.drop (next + (FS.flatMap wrR).length) = R
  | [], A, i, first, next, hd, hi, hc, h0, hn, hu, hf, hm => by
    simp only [List.flatMap_nil, List.nil_append] at hd
    simp [rdFns, hd]
  | f :: FS, A, i, first, next, hd, hi, hc, h0, hn, hu, hf, hm => by
    have e : cutF len first (f :: FS) = (decide (f.fi = first ∧ 1 ≤ f.ct ∧ f.ct ≤ len - first) && cutF len (first + f.ct) FS) := rfl
    rw [e] at hc
    simp only [Bool.and_eq_true, decide_eq_true_eq] at hc
    obtain ⟨⟨c1, c2, c3⟩, c4⟩ := hc
    have hnf := hn f (List.mem_cons_self ..)
    have hff := hf f (List.mem_cons_self ..)
    rw [List.flatMap_cons, List.append_assoc] at hd
    have hnm : ¬ nml f.name ∈ A.map fun f : Rf => nml f.name := by
      rw [List.map_append, List.nodup_append] at hu
      intro q
      exact hu.2.2 _ q _ (by simp) rfl
    have hp : 0 ≤ f.pa ∧ f.pa ≤ (if (i : Int) = main then 0 else 8) ∧ (if (i : Int) = main then (0 : Int) else 8) ≤ 8 := by
      by_cases q : (i : Int) = main
      · have := hm 0 (by simp) (by simpa using q)
        simp at this
        rw [if_pos q]
        omega
      · rw [if_neg q]
        omega
    have r := rdFn_here (params := if (i : Int) = main then 0 else 8) hd (nmOk_size hnf) hnf hnm hff.1 (by omega) hp
    have ef : (⟨bs (nml f.name), f.fr, first, f.ct, f.pa⟩ : Rf) = f := by
      rw [bs_nml, ← c1]
    have ih := rdFns_here (main := main) hlen (A := A ++ [f]) (i := i + 1) (first := first + f.ct) r.2 (by simp [hi]) c4 (by omega) (fun g hg => hn g (List.mem_cons_of_mem _ hg)) (by rw [List.append_assoc]; exact hu) (fun g hg => hf g (List.mem_cons_of_mem _ hg)) (fun j hj hq => by
      have := hm (j + 1) (by simp; omega) (by rw [← hq]; congr 1; omega)
      simpa using this)
    rw [List.length_cons]
    simp only [rdFns]
    rw [r.1]
    dsimp only
    rw [ef]
    have el : (wrR f).length = 14 + f.name.size := wrR_len f
    have hl : (nml f.name).length = f.name.size := by
      unfold nml
      rw [Array.length_toList]
      rfl
    have en : next + 1 + (nml f.name).length + 8 + 4 + 1 + (FS.flatMap wrR).length = next + ((f :: FS).flatMap wrR).length := by
      rw [List.flatMap_cons, List.length_append, el, hl]
      omega
    rw [en, List.append_assoc] at ih
    exact ih
theorem rdRg_here {B R : List Int} : ∀ {L : List Int} {next : Nat}, B.drop next = L.flatMap (lo 1) ++ R → (∀ r ∈ L, 0 ≤ r ∧ r ≤ 15) → rdRg B L.length next = .ok L ∧ B.drop (next + L.length) = R
  | [], next, hd, h => by
    simp only [List.flatMap_nil, List.nil_append] at hd
    exact ⟨rfl, hd⟩
  | r :: L, next, hd, h => by
    have hr := h r (List.mem_cons_self ..)
    rw [List.flatMap_cons, List.append_assoc] at hd
    have q := rdN_here (least := 0) (most := 15) hd (by omega) (.inl ⟨by omega, by omega, by show r < 256; omega⟩) hr
    have ih := rdRg_here q.2 (fun x hx => h x (List.mem_cons_of_mem _ hx))
    rw [List.length_cons]
    simp only [rdRg]
    rw [q.1]
    dsimp only
    rw [ih.1]
    rw [show next + (L.length + 1) = next + 1 + L.length by omega]
    exact ⟨rfl, ih.2⟩
theorem rcnt_op {op : Int} (h : 0 ≤ rcnt op) : 1 ≤ op ∧ op ≤ 38 := by
  unfold rcnt at h
  split at h
  · omega
  · split at h
    · omega
    · split at h
      · omega
      · split at h
        · omega
        · omega
theorem rdIn_here {B R : List Int} {next n : Nat} {x : Ri} {f : Rf} {last : Bool} (hd : B.drop next = wrI x ++ R) (hr : regsF x = true) (hn : numF n f x = true) (hx : -9223372036854775808 ≤ x.n ∧ x.n ≤ 9223372036854775807) (hl : last = true → lastF x.op = true) :
    rdIn B f (n : Int) last next = .ok (x, next + (wrI x).length) ∧ B.drop (next + (wrI x).length) = R := by
  unfold regsF at hr
  simp only [Bool.and_eq_true, decide_eq_true_eq] at hr
  obtain ⟨r0, ra, rb, rc⟩ := hr
  have hop := rcnt_op r0
  have e0 := hd
  unfold wrI at hd
  simp only [List.append_assoc] at hd
  obtain ⟨o1, o2, o3⟩ := fld_here hd (lo_len 1 x.op)
  have eop : fldV B next 1 = x.op := by unfold fldV; rw [o1]; exact wrap_lo (.inl ⟨by omega, by omega, by show x.op < 256; omega⟩)
  have hO : rdOp B last next = .ok x.op := by
    unfold rdOp
    rw [if_neg (by have := o3 (by omega); omega), eop, if_pos]
    unfold opIs
    have e1 : decide (rcnt x.op = -1) = false := decide_eq_false (by omega)
    rw [e1]
    cases last with
    | false => rfl
    | true => simp [hl rfl]
  obtain ⟨m, hm⟩ : ∃ m : Nat, rcnt x.op = (m : Int) := ⟨(rcnt x.op).toNat, by omega⟩
  have hm3 : m ≤ 3 := by have := rcntC_le x.op; omega
  rw [hm, Int.toNat_natCast] at o2
  have eL : (([x.a, x.b, x.c] : List Int).take m).length = m := by simp; omega
  have hRL : ∀ r ∈ ([x.a, x.b, x.c] : List Int).take m, 0 ≤ r ∧ r ≤ 15 := by
    unfold okR at ra rb rc
    rw [hm] at ra rb rc
    intro r hr
    rcases (show m = 0 ∨ m = 1 ∨ m = 2 ∨ m = 3 by omega) with rfl | rfl | rfl | rfl <;> simp at hr ra rb rc <;> rcases hr with rfl | hr <;> (try omega) <;> (try (rcases hr with rfl | hr)) <;> (try omega) <;> (try (rcases hr with rfl | hr)) <;> omega
  unfold rgs at o2
  have q := rdRg_here o2 hRL
  rw [eL] at q
  have hv : ((([x.a, x.b, x.c] : List Int).take m).getD 0 0 = x.a ∧ (([x.a, x.b, x.c] : List Int).take m).getD 1 0 = x.b) ∧ (([x.a, x.b, x.c] : List Int).take m).getD 2 0 = x.c := by
    unfold okR at ra rb rc
    rw [hm] at ra rb rc
    rcases (show m = 0 ∨ m = 1 ∨ m = 2 ∨ m = 3 by omega) with rfl | rfl | rfl | rfl <;> simp at ra rb rc ⊢ <;> omega
  have hnum := hn
  rw [numF_eq] at hnum
  simp only [decide_eq_true_eq] at hnum
  unfold rdIn
  rw [hO]
  dsimp only
  rw [hm, Int.toNat_natCast, q.1]
  dsimp only
  rw [hv.1.1, hv.1.2, hv.2]
  have el : (wrI x).length = 1 + m + (if hasNC x.op = true then 8 else 0) := by rw [wrI_len, hm, Int.toNat_natCast]
  by_cases hc : hasNC x.op = true
  · rw [if_pos hc]
    rw [if_pos hc] at el
    have q2 := q.2
    rw [if_pos hc] at q2
    have s := rdN_here (least := loN x.op f.fi) (most := hiN x.op f.fr f.fi f.ct n) q2 (by omega) (.inr ⟨rfl, hx⟩) hnum
    rw [s.1, el]
    dsimp only
    refine ⟨?_, ?_⟩
    · congr 2
      omega
    · rw [show next + (1 + m + 8) = next + 1 + m + 8 by omega]
      exact s.2
  · rw [if_neg hc]
    rw [if_neg hc] at el
    have q2 := q.2
    rw [if_neg hc, List.nil_append] at q2
    have hx0 : x.n = 0 := by
      unfold hasNC at hc
      simp only [decide_eq_true_eq] at hc
      unfold loN hiN at hnum
      rw [if_neg (by omega), if_neg (by omega), if_neg (by omega), if_neg (by omega), if_neg (by omega), if_neg (by omega)] at hnum
      rw [if_neg (by omega), if_neg (by omega), if_neg (by omega), if_neg (by omega), if_neg (by omega), if_neg (by omega)] at hnum
      omega
    rw [el]
    refine ⟨?_, ?_⟩
    · congr 2
      · rw [← hx0]
      · omega
    · rw [show next + (1 + m + 0) = next + 1 + m by omega]
      exact q2
theorem rdIns1_here {B R : List Int} {f : Rf} {n : Nat} : ∀ {L : List Ri} {next : Nat}, B.drop next = L.flatMap wrI ++ R → (∀ x ∈ L, regsF x = true ∧ numF n f x = true ∧ (-9223372036854775808 ≤ x.n ∧ x.n ≤ 9223372036854775807)) → (∀ h : L ≠ [], lastF (L.getLast h).op = true) →
    rdIns1 B f (n : Int) L.length next = .ok (L, next + (L.flatMap wrI).length) ∧ B.drop (next + (L.flatMap wrI).length) = R
  | [], next, hd, h, hl => by
    simp only [List.flatMap_nil, List.nil_append] at hd
    exact ⟨rfl, hd⟩
  | x :: L, next, hd, h, hl => by
    have hx := h x (List.mem_cons_self ..)
    rw [List.flatMap_cons, List.append_assoc] at hd
    have q := rdIn_here (last := decide (L.length = 0)) hd hx.1 hx.2.1 hx.2.2 (fun e => by
      have e2 : L = [] := List.length_eq_zero_iff.1 (of_decide_eq_true e)
      have := hl (by simp)
      subst e2
      exact this)
    have ih := rdIns1_here q.2 (fun y hy => h y (List.mem_cons_of_mem _ hy)) (fun hne => by
      have := hl (by simp)
      rwa [List.getLast_cons hne] at this)
    rw [List.length_cons]
    simp only [rdIns1]
    rw [q.1]
    dsimp only
    rw [ih.1]
    dsimp only
    rw [List.flatMap_cons, List.length_append, show next + ((wrI x).length + (L.flatMap wrI).length) = next + (wrI x).length + (L.flatMap wrI).length by omega]
    exact ⟨rfl, ih.2⟩
end Go.Proofs.YtjiaedckecfjbaaDoor
namespace Go.Proofs.YtjiaedckecfjbaaDoor
open Go.ChangeShapes Go.WideShapes Go.ChangeAt Go.RowKit Go.Maps Go.WideMaps

theorem rdIns_here {B R : List Int} {C : List Ri} {n : Nat} (hx : ∀ x ∈ C, -9223372036854775808 ≤ x.n ∧ x.n ≤ 9223372036854775807) : ∀ {FS : List Rf} {nx : Int} {next : Nat}, B.drop next = (C.drop nx.toNat).flatMap wrI ++ R → cutF C.length nx FS = true → 0 ≤ nx → (∀ f ∈ FS, funF C n f = true) →
    rdIns B (n : Int) FS next = .ok (C.drop nx.toNat, next + ((C.drop nx.toNat).flatMap wrI).length) ∧ B.drop (next + ((C.drop nx.toNat).flatMap wrI).length) = R
  | [], nx, next, hd, hc, h0, hf => by
    have e : nx = C.length := by simpa [cutF] using hc
    have e2 : C.drop nx.toNat = [] := List.drop_eq_nil_of_le (by omega)
    rw [e2] at hd ⊢
    simp only [List.flatMap_nil, List.nil_append] at hd
    exact ⟨rfl, hd⟩
  | f :: FS, nx, next, hd, hc, h0, hf => by
    have e : cutF C.length nx (f :: FS) = (decide (f.fi = nx ∧ 1 ≤ f.ct ∧ f.ct ≤ C.length - nx) && cutF C.length (nx + f.ct) FS) := rfl
    rw [e] at hc
    simp only [Bool.and_eq_true, decide_eq_true_eq] at hc
    obtain ⟨⟨c1, c2, c3⟩, c4⟩ := hc
    have hff := hf f (List.mem_cons_self ..)
    unfold funF at hff
    rw [c1] at hff
    simp only [Bool.and_eq_true, decide_eq_true_eq, List.all_eq_true] at hff
    obtain ⟨_, _, f3, f4⟩ := hff
    obtain ⟨p, hp⟩ : ∃ p : Nat, nx = (p : Int) := ⟨nx.toNat, by omega⟩
    obtain ⟨c, hct⟩ : ∃ c : Nat, f.ct = (c : Int) := ⟨f.ct.toNat, by omega⟩
    have en : (nx + f.ct).toNat = p + c := by omega
    rw [hp, hct] at f4
    rw [hp, hct, Int.toNat_natCast, Int.toNat_natCast] at f3
    have en2 : ((p : Int) + (c : Int) - 1).toNat = p + c - 1 := by omega
    rw [en2] at f4
    subst hp
    rw [Int.toNat_natCast] at hd ⊢
    have hsp : C.drop p = (C.drop p).take c ++ C.drop (p + c) := by rw [← List.drop_drop, List.take_append_drop]
    have hlen : ((C.drop p).take c).length = c := by
      rw [List.length_take, List.length_drop]
      omega
    rw [hsp, List.flatMap_append, List.append_assoc] at hd
    have q := rdIns1_here (f := f) (n := n) hd (fun x hx' => ⟨(f3 x hx').1, (f3 x hx').2, hx x (List.mem_of_mem_drop (List.mem_of_mem_take hx'))⟩) (fun h => by
      have e3 : ((C.drop p).take c).getLast h = C.getD (p + c - 1) riZ := by
        rw [List.getLast_eq_getElem]
        have hb : p + c - 1 < C.length := by omega
        have e4 : C.getD (p + c - 1) riZ = C[p + c - 1] := by simp [List.getD, hb]
        rw [e4, List.getElem_take, List.getElem_drop]
        congr 1
        omega
      rw [e3]
      exact f4)
    have ih := rdIns_here (R := R) (n := n) hx (FS := FS) (nx := (p : Int) + f.ct) (by rw [en]; exact q.2) c4 (by omega) (fun g hg => hf g (List.mem_cons_of_mem _ hg))
    rw [en] at ih
    rw [hlen] at q
    simp only [rdIns]
    rw [hct, Int.toNat_natCast, q.1]
    dsimp only
    rw [ih.1]
    dsimp only
    have el : ((C.drop p).flatMap wrI).length = (((C.drop p).take c).flatMap wrI).length + ((C.drop (p + c)).flatMap wrI).length := by
      conv => lhs; rw [hsp, List.flatMap_append, List.length_append]
    rw [← hsp, el, ← Nat.add_assoc]
    exact ⟨rfl, ih.2⟩
theorem fwB_all (FS : List Rf) : fwB FS FS.length = FS.flatMap wrR := by unfold fwB; rw [List.take_length]
theorem iwB_all (C : List Ri) : iwB C C.length = C.flatMap wrI := by unfold iwB; rw [List.take_length]
/-- What is written reads as the code. -/
theorem rdCode_wr {C : List Ri} {FS : List Rf} {m : Int} (h : formR C FS m = true) (hx : ∀ x ∈ C, -9223372036854775808 ≤ x.n ∧ x.n ≤ 9223372036854775807) (hC : C.length ≤ 4294967295) (hF : FS.length ≤ 4294967295) : rdCode (wrC C FS m) = .ok (m, FS, C) := by
  unfold formR at h
  simp only [Bool.and_eq_true] at h
  obtain ⟨h1, h2, h3, h4⟩ := h
  have hf : ∀ f ∈ FS, funF C FS.length f = true := by simpa using h4
  unfold namesP at h2
  simp only [Bool.and_eq_true, decide_eq_true_eq, List.all_eq_true] at h2
  unfold mainF at h3
  simp only [Bool.and_eq_true, decide_eq_true_eq] at h3
  obtain ⟨B, hB⟩ : ∃ B, B = wrC C FS m := ⟨_, rfl⟩
  have hd : B.drop 0 = mkB ++ (lo 4 (FS.length : Int) ++ (lo 4 m ++ (FS.flatMap wrR ++ (C.flatMap wrI ++ [])))) := by
    rw [hB]
    unfold wrC
    rw [fwB_all, iwB_all, List.drop_zero, List.append_nil]
    simp only [List.append_assoc]
    rfl
  have s0 := rdMk_here hd
  have s1 := rdN_here (least := 1) (most := 4294967295) s0.2 (by omega) (.inl ⟨by omega, by omega, by show (FS.length : Int) < 4294967296; omega⟩) (by omega)
  have s2 := rdN_here (least := 0) (most := (FS.length : Int) - 1) s1.2 (by omega) (.inl ⟨by omega, by omega, by show m < 4294967296; omega⟩) (by omega)
  have s3 := rdFns_here (main := m) (len := C.length) (by omega) (A := []) (i := 0) (first := 0) s2.2 rfl h1 (by omega) h2.1 h2.2 (fun f hf' => by
    have q := hf f hf'
    unfold funF at q
    simp only [Bool.and_eq_true, decide_eq_true_eq] at q
    exact ⟨q.1, q.2.1⟩) (fun j hj hq => by
    have e : m.toNat = j := by omega
    have q := h3.2
    rw [e] at q
    have e2 : FS.getD j ⟨ByteArray.empty, 0, 0, 0, 0⟩ = FS[j] := by simp [List.getD, hj]
    rw [e2] at q
    exact q)
  have s4 := rdIns_here (n := FS.length) (R := []) hx (FS := FS) (nx := 0) s3.2 h1 (by omega) hf
  rw [← hB]
  unfold rdCode
  rw [s0.1]
  dsimp only
  rw [s1.1]
  dsimp only
  rw [s2.1]
  dsimp only
  have e8 : 4 + 4 + 4 = 4 + 8 := rfl
  rw [Int.toNat_natCast]
  have s31 := s3.1
  rw [show ((0 : Nat) : Int) = 0 from rfl, List.nil_append] at s31
  rw [show (4 + 8 : Nat) = 4 + 4 + 4 from rfl, s31]
  dsimp only
  have s41 := s4.1
  rw [show (0 : Int).toNat = 0 from rfl, List.drop_zero] at s41
  rw [s41]
  dsimp only
  have hend := congrArg List.length s4.2
  rw [List.length_drop, show (0 : Int).toNat = 0 from rfl, List.drop_zero] at hend
  have hle : 4 + 4 + 4 + (FS.flatMap wrR).length + (C.flatMap wrI).length ≤ B.length := by
    have q := congrArg List.length hd
    simp only [List.length_drop, List.length_append, lo_len, List.length_nil] at q
    have : mkB.length = 4 := rfl
    omega
  rw [if_pos]
  rw [List.length_nil] at hend
  omega
end Go.Proofs.YtjiaedckecfjbaaDoor
