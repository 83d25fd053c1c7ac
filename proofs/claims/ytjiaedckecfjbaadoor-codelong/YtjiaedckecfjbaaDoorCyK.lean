import Derived.Test.YtjiaedckecfjbaaDoorVgF
set_option linter.unusedVariables false
set_option linter.unusedSimpArgs false
namespace Go.Proofs.YtjiaedckecfjbaaDoor
open Go.ChangeShapes Go.WideShapes Go.ChangeAt Go.RowKit Go.Maps Go.WideMaps

theorem lo_valN : ∀ (M : List Int), (∀ x ∈ M, 0 ≤ x ∧ x < 256) → lo M.length (valN M : Int) = M
  | [], _ => rfl
  | x :: L, h => by
    have hx := h x (List.mem_cons_self ..)
    have ih := lo_valN L (fun y hy => h y (List.mem_cons_of_mem _ hy))
    have ev : ((valN (x :: L) : Nat) : Int) = x + 256 * (valN L : Int) := by
      show ((x.toNat + 256 * valN L : Nat) : Int) = _
      rw [Int.natCast_add, Int.natCast_mul, Int.toNat_of_nonneg hx.1]
      rfl
    rw [ev, List.length_cons]
    unfold lo
    rw [List.range_succ_eq_map, List.map_cons, List.map_map]
    have e0 : byt (x + 256 * (valN L : Int)) 0 = x := by
      unfold byt
      simp
      omega
    have e1 : (byt (x + 256 * (valN L : Int)) ∘ Nat.succ) = byt (valN L : Int) := by
      funext i
      show byt _ (i + 1) = _
      unfold byt
      have ep : (2 : Int) ^ (8 * (i + 1)) = 256 * 2 ^ (8 * i) := by
        rw [show 8 * (i + 1) = 8 + 8 * i by omega, Int.pow_add]
        rfl
      rw [ep, ← Int.ediv_ediv_of_nonneg (by omega)]
      have : (x + 256 * (valN L : Int)) / 256 = valN L := by omega
      rw [this]
    rw [e0, e1]
    have ih2 : (List.range L.length).map (byt (valN L : Int)) = L := ih
    rw [ih2]
theorem lo_wrap {k : Nat} (hk : k ≤ 8) (v : Nat) (hv : v < 18446744073709551616) : lo k (wrap64 (v : Int)) = lo k (v : Int) := by
  unfold lo
  refine List.map_congr_left fun i hi => ?_
  have hi8 : i < 8 := by have := List.mem_range.1 hi; omega
  by_cases h : v < 9223372036854775808
  · rw [show wrap64 (v : Int) = v by unfold wrap64; omega]
  · rw [show wrap64 (v : Int) = (v : Int) - 18446744073709551616 by unfold wrap64; omega]
    unfold byt
    rcases (show i = 0 ∨ i = 1 ∨ i = 2 ∨ i = 3 ∨ i = 4 ∨ i = 5 ∨ i = 6 ∨ i = 7 by omega) with rfl | rfl | rfl | rfl | rfl | rfl | rfl | rfl <;> simp <;> omega
theorem drop_fld (B : List Int) (n k : Nat) : B.drop n = fldB B n k ++ B.drop (n + k) := by
  unfold fldB
  rw [← List.drop_drop, List.take_append_drop]
/-- Are these bytes. -/
def Byts (B : List Int) : Prop := ∀ x ∈ B, 0 ≤ x ∧ x < 256
theorem fld_back {B : List Int} (hB : Byts B) {next k : Nat} (hk : k ≤ 8) (h : next + k ≤ B.length) : lo k (fldV B next k) = fldB B next k ∧ B.drop next = fldB B next k ++ B.drop (next + k) := by
  have hl := fldB_len B h
  have hin := fldB_in hB next k
  refine ⟨?_, ?_⟩
  · unfold fldV
    have hv : valN (fldB B next k) < 18446744073709551616 := by
      have q := valN_lt _ hin
      rw [hl] at q
      have : 2 ^ (8 * k) ≤ 18446744073709551616 := by
        rcases (show k = 0 ∨ k = 1 ∨ k = 2 ∨ k = 3 ∨ k = 4 ∨ k = 5 ∨ k = 6 ∨ k = 7 ∨ k = 8 by omega) with rfl | rfl | rfl | rfl | rfl | rfl | rfl | rfl | rfl <;> decide
      omega
    rw [lo_wrap hk _ hv]
    have q := lo_valN _ hin
    rw [hl] at q
    exact q
  · unfold fldB
    rw [← List.drop_drop, List.take_append_drop]
theorem fits_fldV (B : List Int) (next k : Nat) : Fits (fldV B next k) := by unfold fldV; exact fitR_wrap _
theorem rdN_back {B : List Int} (hB : Byts B) {next k : Nat} {least most v : Int} (hk : k ≤ 8) (h : rdN B k least most next = .ok v) : B.drop next = lo k v ++ B.drop (next + k) ∧ next + k ≤ B.length ∧ (least ≤ v ∧ v ≤ most) ∧ Fits v := by
  have hl := rdN_len h
  have hr := rdN_range h
  obtain ⟨e1, e2⟩ := fld_back hB hk hl
  have ev : v = fldV B next k := by
    unfold rdN at h
    split at h
    · cases h
    · split at h
      · cases h
        rfl
      · cases h
  refine ⟨?_, hl, hr, by rw [ev]; exact fits_fldV B next k⟩
  rw [ev, e1]
  exact e2
theorem rdMk_back {B : List Int} (hB : Byts B) : ∀ {L : List Int} {next q : Nat}, (∀ x ∈ L, 0 ≤ x ∧ x < 256) → rdMk B L next = .ok q → q = next + L.length ∧ B.drop next = L ++ B.drop q
  | [], next, q, _, h => by
    simp only [rdMk, Except.ok.injEq] at h
    subst h
    exact ⟨rfl, rfl⟩
  | x :: L, next, q, hL, h => by
    simp only [rdMk] at h
    cases hr : rdN B 1 x x next with
    | error p => rw [hr] at h; cases h
    | ok u =>
      rw [hr] at h
      obtain ⟨a1, a2, a3, _⟩ := rdN_back hB (by omega) hr
      have hx := hL x (List.mem_cons_self ..)
      obtain ⟨b1, b2⟩ := rdMk_back hB (fun y hy => hL y (List.mem_cons_of_mem _ hy)) h
      have eu : u = x := by omega
      have e : lo 1 u = [x] := by
        rw [eu]
        simp [lo, byt]
        omega
      rw [e, b2] at a1
      refine ⟨by rw [List.length_cons]; omega, ?_⟩
      rw [a1]
      rfl
theorem rdNm_back {B : List Int} (hB : Byts B) {next : Nat} {M : List (List UInt8)} {T : List UInt8} (h : rdNm B M next = .ok T) : B.drop next = lo 1 (T.length : Int) ++ (tby (bs T) ++ B.drop (next + 1 + T.length)) ∧ nmOk T = true ∧ ¬ T ∈ M := by
  unfold rdNm at h
  split at h
  · cases h
  · next k e1 =>
    obtain ⟨a1, a2, a3, _⟩ := rdN_back hB (by omega) e1
    split at h
    · cases h
    · next q =>
      split at h
      · next hh =>
        cases h
        have hle : next + 1 + k.toNat ≤ B.length := by omega
        have el : (fldT B (next + 1) k.toNat).length = k.toNat := by
          unfold fldT
          rw [List.length_map]
          exact fldB_len B hle
        have et : tby (bs (fldT B (next + 1) k.toNat)) = fldB B (next + 1) k.toNat := by
          unfold tby bs fldT
          rw [List.map_map]
          conv => rhs; rw [← List.map_id (fldB B (next + 1) k.toNat)]
          refine List.map_congr_left fun x hx => ?_
          have := fldB_in hB _ _ x hx
          show ((UInt8.ofNat x.toNat).toNat : Int) = x
          rw [UInt8.toNat_ofNat']
          omega
        refine ⟨?_, hh.1, hh.2⟩
        rw [el, et, Int.toNat_of_nonneg (by omega), a1]
        congr 1
        exact drop_fld B (next + 1) k.toNat
      · cases h
theorem rdFn_back {B : List Int} (hB : Byts B) {next : Nat} {M : List (List UInt8)} {params fr ct pa first : Int} {T : List UInt8} (h : rdFn B M params next = .ok (T, fr, ct, pa)) : B.drop next = wrR ⟨bs T, fr, first, ct, pa⟩ ++ B.drop (next + 1 + T.length + 8 + 4 + 1) ∧ nmOk T = true ∧ ¬ T ∈ M ∧ (Fits fr ∧ Fits ct ∧ Fits pa) := by
  unfold rdFn at h
  split at h
  · cases h
  · next e0 =>
    split at h
    · cases h
    · next e1 =>
      split at h
      · cases h
      · next e2 =>
        split at h
        · cases h
        · next e3 =>
          cases h
          obtain ⟨a1, a2, a3⟩ := rdNm_back hB e0
          obtain ⟨b1, _, _, b4⟩ := rdN_back hB (by omega) e1
          obtain ⟨c1, _, _, c4⟩ := rdN_back hB (by omega) e2
          obtain ⟨d1, _, _, d4⟩ := rdN_back hB (by omega) e3
          refine ⟨?_, a2, a3, b4, c4, d4⟩
          rw [a1, b1, c1, d1]
          unfold wrR
          have : (bs T).size = T.length := by simp [bs, ByteArray.size]
          show _ = lo 1 ((bs T).size : Int) ++ tby (bs T) ++ lo 8 fr ++ lo 4 ct ++ lo 1 pa ++ _
          rw [this]
          simp only [List.append_assoc]
theorem rdRg_back {B : List Int} (hB : Byts B) : ∀ {m next : Nat} {L : List Int}, rdRg B m next = .ok L → L.length = m ∧ (∀ r ∈ L, 0 ≤ r ∧ r ≤ 15) ∧ B.drop next = L.flatMap (lo 1) ++ B.drop (next + m)
  | 0, next, L, h => by
    simp only [rdRg, Except.ok.injEq] at h
    subst h
    exact ⟨rfl, fun r hr => by simp at hr, rfl⟩
  | m + 1, next, L, h => by
    simp only [rdRg] at h
    cases hr : rdN B 1 0 15 next with
    | error p => rw [hr] at h; cases h
    | ok r =>
      rw [hr] at h
      dsimp only at h
      cases hr2 : rdRg B m (next + 1) with
      | error p => rw [hr2] at h; cases h
      | ok L2 =>
        rw [hr2] at h
        cases h
        obtain ⟨a1, _, a3, _⟩ := rdN_back hB (by omega) hr
        obtain ⟨b1, b2, b3⟩ := rdRg_back hB hr2
        refine ⟨by rw [List.length_cons, b1], fun x hx => ?_, ?_⟩
        · rcases List.mem_cons.1 hx with rfl | hx
          · exact a3
          · exact b2 x hx
        · rw [a1, b3, List.flatMap_cons, List.append_assoc, show next + (m + 1) = next + 1 + m by omega]
end Go.Proofs.YtjiaedckecfjbaaDoor
namespace Go.Proofs.YtjiaedckecfjbaaDoor
open Go.ChangeShapes Go.WideShapes Go.ChangeAt Go.RowKit Go.Maps Go.WideMaps

theorem rdOp_back {B : List Int} (hB : Byts B) {last : Bool} {next : Nat} {op : Int} (h : rdOp B last next = .ok op) : B.drop next = lo 1 op ++ B.drop (next + 1) ∧ (last = true → lastF op = true) ∧ Fits op := by
  unfold rdOp at h
  split at h
  · cases h
  · next hl =>
    split at h
    · next hi =>
      cases h
      obtain ⟨e1, e2⟩ := fld_back hB (next := next) (k := 1) (by omega) (by omega)
      refine ⟨by rw [e1]; exact e2, fun e => ?_, fits_fldV B next 1⟩
      unfold opIs at hi
      rw [e] at hi
      simp at hi
      exact hi.2
    · cases h
theorem no_num {op fr fi ct k : Int} (h : ¬ hasNC op = true) : loN op fi = 0 ∧ hiN op fr fi ct k = 0 := by
  unfold hasNC at h
  simp only [decide_eq_true_eq] at h
  unfold loN hiN
  constructor
  · rw [if_neg (by omega), if_neg (by omega), if_neg (by omega), if_neg (by omega), if_neg (by omega), if_neg (by omega)]
  · rw [if_neg (by omega), if_neg (by omega), if_neg (by omega), if_neg (by omega), if_neg (by omega), if_neg (by omega)]
theorem three_take : ∀ {L : List Int}, L.length ≤ 3 → ([L.getD 0 0, L.getD 1 0, L.getD 2 0] : List Int).take L.length = L
  | [], _ => rfl
  | [_], _ => rfl
  | [_, _], _ => rfl
  | [_, _, _], _ => rfl
  | _ :: _ :: _ :: _ :: _, h => absurd h (by simp)
theorem okR_of : ∀ {L : List Int} {m : Nat}, L.length = m → m ≤ 3 → (∀ r ∈ L, 0 ≤ r ∧ r ≤ 15) → okR (m : Int) 0 (L.getD 0 0) = true ∧ okR (m : Int) 1 (L.getD 1 0) = true ∧ okR (m : Int) 2 (L.getD 2 0) = true
  | [], _, rfl, _, h => by simp [okR]
  | [a], _, rfl, _, h => by
    have := h a (by simp)
    simp [okR]
    omega
  | [a, b], _, rfl, _, h => by
    have := h a (by simp)
    have := h b (by simp)
    simp [okR]
    omega
  | [a, b, c], _, rfl, _, h => by
    have := h a (by simp)
    have := h b (by simp)
    have := h c (by simp)
    simp [okR]
    omega
  | _ :: _ :: _ :: _ :: _, _, rfl, h, _ => absurd h (by simp)
theorem getD_fits : ∀ {L : List Int}, (∀ r ∈ L, 0 ≤ r ∧ r ≤ 15) → ∀ i, Fits (L.getD i 0) := fun {L} h i => by
  unfold Fits
  by_cases hi : i < L.length
  · have e : L.getD i 0 = L[i] := by simp [List.getD, hi]
    have := h _ (List.getElem_mem hi)
    rw [e]
    omega
  · have e : L.getD i 0 = 0 := by simp [List.getD, hi]
    rw [e]
    omega
theorem rdIn_back {B : List Int} (hB : Byts B) {f : Rf} {n : Nat} {last : Bool} {next q : Nat} {x : Ri} (h : rdIn B f (n : Int) last next = .ok (x, q)) : B.drop next = wrI x ++ B.drop q ∧ regsF x = true ∧ numF n f x = true ∧ (last = true → lastF x.op = true) ∧ ReI x := by
  unfold rdIn at h
  split at h
  · cases h
  · next op e0 =>
    have hg := rdOp_rng e0
    obtain ⟨a1, a2, a3⟩ := rdOp_back hB e0
    obtain ⟨m, hm⟩ : ∃ m : Nat, rcnt op = (m : Int) := ⟨(rcnt op).toNat, by omega⟩
    have hm3 : m ≤ 3 := by omega
    rw [hm, Int.toNat_natCast] at h
    split at h
    · cases h
    · next L e1 =>
      obtain ⟨b1, b2, b3⟩ := rdRg_back hB e1
      have hok := okR_of b1 hm3 b2
      have ht := three_take (L := L) (by omega)
      rw [b1] at ht
      have hreg : ∀ v, regsF ⟨op, L.getD 0 0, L.getD 1 0, L.getD 2 0, v⟩ = true := fun v => by
        unfold regsF
        show (decide (0 ≤ rcnt op) && (okR (rcnt op) 0 (L.getD 0 0) && (okR (rcnt op) 1 (L.getD 1 0) && okR (rcnt op) 2 (L.getD 2 0)))) = true
        rw [hm, hok.1, hok.2.1, hok.2.2]
        simp
      have hrg : ∀ v, rgs ⟨op, L.getD 0 0, L.getD 1 0, L.getD 2 0, v⟩ m = L.flatMap (lo 1) := fun v => by
        unfold rgs
        show (([L.getD 0 0, L.getD 1 0, L.getD 2 0] : List Int).take m).flatMap (lo 1) = _
        rw [ht]
      by_cases hc : hasNC op = true
      · rw [if_pos hc] at h
        split at h
        · cases h
        · next v e2 =>
          cases h
          obtain ⟨c1, _, c3, c4⟩ := rdN_back hB (by omega) e2
          refine ⟨?_, hreg v, ?_, a2, a3, getD_fits b2 0, getD_fits b2 1, getD_fits b2 2, c4⟩
          · unfold wrI
            show _ = lo 1 op ++ rgs _ (rcnt op).toNat ++ (if hasNC op = true then lo 8 v else []) ++ _
            rw [if_pos hc, hm, Int.toNat_natCast, hrg, a1, b3, c1]
            simp only [List.append_assoc]
          · rw [numF_eq]
            exact decide_eq_true c3
      · rw [if_neg hc] at h
        cases h
        refine ⟨?_, hreg 0, ?_, a2, a3, getD_fits b2 0, getD_fits b2 1, getD_fits b2 2, by show Fits 0; unfold Fits; omega⟩
        · unfold wrI
          show _ = lo 1 op ++ rgs _ (rcnt op).toNat ++ (if hasNC op = true then lo 8 0 else []) ++ _
          rw [if_neg hc, hm, Int.toNat_natCast, hrg, a1, b3]
          simp only [List.append_assoc, List.append_nil, List.nil_append]
        · rw [numF_eq]
          obtain ⟨z1, z2⟩ := no_num (fr := f.fr) (fi := f.fi) (ct := f.ct) (k := (n : Int)) hc
          refine decide_eq_true ?_
          show loN op f.fi ≤ 0 ∧ 0 ≤ hiN op f.fr f.fi f.ct (n : Int)
          rw [z1, z2]
          exact ⟨Int.le_refl _, Int.le_refl _⟩
theorem rdIns1_back {B : List Int} (hB : Byts B) {f : Rf} {n : Nat} : ∀ {m next q : Nat} {L : List Ri}, rdIns1 B f (n : Int) m next = .ok (L, q) → L.length = m ∧ B.drop next = L.flatMap wrI ++ B.drop q ∧ (∀ x ∈ L, regsF x = true ∧ numF n f x = true ∧ ReI x) ∧ ∀ h : L ≠ [], lastF (L.getLast h).op = true
  | 0, next, q, L, h => by
    simp only [rdIns1, Except.ok.injEq, Prod.mk.injEq] at h
    obtain ⟨rfl, rfl⟩ := h
    exact ⟨rfl, rfl, fun x hx => by simp at hx, fun h => absurd rfl h⟩
  | m + 1, next, q, L, h => by
    simp only [rdIns1] at h
    split at h
    · cases h
    · next x q1 e1 =>
      split at h
      · cases h
      · next L1 q2 e2 =>
        cases h
        obtain ⟨a1, a2, a3, a4, a5⟩ := rdIn_back hB e1
        obtain ⟨b1, b2, b3, b4⟩ := rdIns1_back hB e2
        refine ⟨by rw [List.length_cons, b1], by rw [a1, b2, List.flatMap_cons, List.append_assoc], fun y hy => ?_, fun hne => ?_⟩
        · rcases List.mem_cons.1 hy with rfl | hy
          · exact ⟨a2, a3, a5⟩
          · exact b3 y hy
        · by_cases e : L1 = []
          · subst e
            have : m = 0 := by rw [← b1]; rfl
            exact a4 (by simp [this])
          · rw [List.getLast_cons e]
            exact b4 e
/-- Functions one behind the other. -/
def ChF : Int → List Rf → Prop
  | _, [] => True
  | n, f :: FS => f.fi = n ∧ 1 ≤ f.ct ∧ ChF (n + f.ct) FS
theorem rdIns_back {B : List Int} (hB : Byts B) {n : Nat} : ∀ {FS : List Rf} {first : Int} {next q : Nat} {L P : List Ri}, ChF first FS → first = P.length → rdIns B (n : Int) FS next = .ok (L, q) →
    B.drop next = L.flatMap wrI ++ B.drop q ∧ cutF ((P.length + L.length : Nat) : Int) first FS = true ∧ (∀ f ∈ FS, (∀ x ∈ ((P ++ L).drop f.fi.toNat).take f.ct.toNat, regsF x = true ∧ numF n f x = true) ∧ lastF ((P ++ L).getD (f.fi + f.ct - 1).toNat riZ).op = true) ∧ ∀ x ∈ L, ReI x
  | [], first, next, q, L, P, hc, hp, h => by
    simp only [rdIns, Except.ok.injEq, Prod.mk.injEq] at h
    obtain ⟨rfl, rfl⟩ := h
    exact ⟨rfl, by simp [cutF, hp], fun f hf => by simp at hf, fun x hx => by simp at hx⟩
  | f :: FS, first, next, q, L, P, hc, hp, h => by
    obtain ⟨c1, c2, c3⟩ := hc
    simp only [rdIns] at h
    split at h
    · cases h
    · next L1 q1 e1 =>
      split at h
      · cases h
      · next L2 q2 e2 =>
        cases h
        obtain ⟨a1, a2, a3, a4⟩ := rdIns1_back hB e1
        have hcp : first + f.ct = ((P ++ L1).length : Nat) := by rw [List.length_append, a1]; omega
        obtain ⟨b1, b2, b3, b4⟩ := rdIns_back hB (P := P ++ L1) c3 hcp e2
        have hfi : f.fi.toNat = P.length := by omega
        have hct : f.ct.toNat = L1.length := a1.symm
        refine ⟨by rw [a2, b1, List.flatMap_append, List.append_assoc], ?_, fun g hg => ?_, fun x hx => ?_⟩
        · have e : cutF ((P.length + (L1 ++ L2).length : Nat) : Int) first (f :: FS) = (decide (f.fi = first ∧ 1 ≤ f.ct ∧ f.ct ≤ ((P.length + (L1 ++ L2).length : Nat) : Int) - first) && cutF ((P.length + (L1 ++ L2).length : Nat) : Int) (first + f.ct) FS) := rfl
          rw [e]
          have e2 : P.length + (L1 ++ L2).length = (P ++ L1).length + L2.length := by simp only [List.length_append]; omega
          rw [e2, b2]
          simp only [Bool.and_true, decide_eq_true_eq, List.length_append]
          omega
        · rcases List.mem_cons.1 hg with rfl | hg
          · rw [hfi, hct]
            have e : ((P ++ (L1 ++ L2)).drop P.length).take L1.length = L1 := by rw [List.drop_left, List.take_left]
            rw [e]
            refine ⟨fun x hx => ⟨(a3 x hx).1, (a3 x hx).2.1⟩, ?_⟩
            have hne : L1 ≠ [] := by
              intro e
              rw [e] at a1
              simp at a1
              omega
            have h1 : 1 ≤ L1.length := by have := List.length_pos_iff.2 hne; omega
            have ei : (g.fi + g.ct - 1).toNat = P.length + (L1.length - 1) := by omega
            rw [ei]
            have e3 : (P ++ (L1 ++ L2)).getD (P.length + (L1.length - 1)) riZ = L1.getLast hne := by
              rw [List.getLast_eq_getElem]
              have hb : P.length + (L1.length - 1) < (P ++ (L1 ++ L2)).length := by simp only [List.length_append]; omega
              have e4 : (P ++ (L1 ++ L2)).getD (P.length + (L1.length - 1)) riZ = (P ++ (L1 ++ L2))[P.length + (L1.length - 1)] := by
                rw [List.getD_eq_getElem?_getD, List.getElem?_eq_getElem hb]
                rfl
              rw [e4, List.getElem_append_right (by omega), List.getElem_append_left (by omega)]
              congr 1
              omega
            rw [e3]
            exact a4 hne
          · have z := b3 g hg
            rw [List.append_assoc] at z
            exact z
        · rcases List.mem_append.1 hx with hx | hx
          · exact (a3 x hx).2.2
          · exact b4 x hx
end Go.Proofs.YtjiaedckecfjbaaDoor
