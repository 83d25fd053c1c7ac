import Derived.Test.YtjiaedckecfjbaaDoorCyL
set_option linter.unusedVariables false
set_option linter.unusedSimpArgs false
namespace Go.Proofs.YtjiaedckecfjbaaDoor
open Go.ChangeShapes Go.WideShapes Go.ChangeAt Go.RowKit Go.Maps Go.WideMaps

/-- What is read of the first bytes alone, against what is read of all of them. -/
structure Pf {X : Type} (c : Nat) (r' r : Except Nat X) : Prop where
  ok : ∀ x, r' = .ok x → r = .ok x
  err : ∀ p, r' = .error p → p = c ∨ (p < c ∧ r = .error p)
theorem Pf.same {X : Type} {c : Nat} {r' r : Except Nat X} (h : r' = r) (hp : ∀ p, r = .error p → p < c) : Pf c r' r :=
  ⟨fun x hx => by rw [← h]; exact hx, fun p hx => .inr ⟨hp p (by rw [← h]; exact hx), by rw [← h]; exact hx⟩⟩
theorem Pf.short {X : Type} {c : Nat} {r' r : Except Nat X} (h : r' = .error c) : Pf c r' r :=
  ⟨fun x hx => (by rw [h] at hx; cases hx), fun p hx => (by rw [h] at hx; cases hx; exact .inl rfl)⟩
theorem Pf.ret {X : Type} {c : Nat} {r : Except Nat X} (h : ∃ x, r = .ok x) : Pf c r r := by
  obtain ⟨x, rfl⟩ := h
  exact ⟨fun _ h => h, fun p hp => by cases hp⟩
/-- One after the other. -/
def thn {X Y : Type} (r : Except Nat X) (f : X → Except Nat Y) : Except Nat Y := match r with | .error p => .error p | .ok x => f x
theorem Pf.thn {X Y : Type} {c : Nat} {r' r : Except Nat X} {f' f : X → Except Nat Y} (h : Pf c r' r) (hf : ∀ x, r' = .ok x → Pf c (f' x) (f x)) : Pf c (thn r' f') (thn r f) := by
  cases h1 : r' with
  | error p =>
    rcases h.err p h1 with e | ⟨l, e⟩
    · subst e; exact Pf.short rfl
    · exact ⟨fun x hx => (by cases hx), fun q hq => (by cases hq; rw [e]; exact .inr ⟨l, rfl⟩)⟩
  | ok x =>
    rw [h.ok x h1]
    exact hf x h1
theorem fldB_take (B : List Int) {c next k : Nat} (h : next + k ≤ c) : fldB (B.take c) next k = fldB B next k := by
  unfold fldB
  rw [List.drop_take, List.take_take, Nat.min_eq_left (by omega)]
theorem rdN_pf (B : List Int) {c : Nat} (hc : c ≤ B.length) {k : Nat} (hk : 1 ≤ k) (l m : Int) (next : Nat) : Pf c (rdN (B.take c) k l m next) (rdN B k l m next) := by
  have hl : (B.take c).length = c := by rw [List.length_take]; omega
  by_cases h : c < next + k
  · refine Pf.short ?_
    unfold rdN
    rw [hl, if_pos h]
  · have e : fldV (B.take c) next k = fldV B next k := by unfold fldV; rw [fldB_take B (by omega)]
    refine Pf.same ?_ ?_
    · unfold rdN
      rw [hl, if_neg h, if_neg (show ¬ B.length < next + k by omega), e]
    · intro p hp
      unfold rdN at hp
      rw [if_neg (show ¬ B.length < next + k by omega)] at hp
      split at hp
      · cases hp
      · cases hp; omega
theorem rdOp_pf (B : List Int) {c : Nat} (hc : c ≤ B.length) (last : Bool) (next : Nat) : Pf c (rdOp (B.take c) last next) (rdOp B last next) := by
  have hl : (B.take c).length = c := by rw [List.length_take]; omega
  by_cases h : c < next + 1
  · refine Pf.short ?_
    unfold rdOp
    rw [hl, if_pos h]
  · have e : fldV (B.take c) next 1 = fldV B next 1 := by unfold fldV; rw [fldB_take B (by omega)]
    refine Pf.same ?_ ?_
    · unfold rdOp
      rw [hl, if_neg h, if_neg (show ¬ B.length < next + 1 by omega), e]
    · intro p hp
      unfold rdOp at hp
      rw [if_neg (show ¬ B.length < next + 1 by omega)] at hp
      split at hp
      · cases hp
      · cases hp; omega
theorem rdMk_thn (B : List Int) (m : Int) (L : List Int) (next : Nat) : rdMk B (m :: L) next = thn (rdN B 1 m m next) fun _ => rdMk B L (next + 1) := by
  simp only [rdMk]
  cases rdN B 1 m m next <;> rfl
theorem rdMk_pf (B : List Int) {c : Nat} (hc : c ≤ B.length) : ∀ (L : List Int) (next : Nat), Pf c (rdMk (B.take c) L next) (rdMk B L next)
  | [], next => Pf.ret ⟨next, rfl⟩
  | m :: L, next => by
    rw [rdMk_thn, rdMk_thn]
    exact (rdN_pf B hc (Nat.le_refl _) m m next).thn fun _ _ => rdMk_pf B hc L (next + 1)
theorem rdNm_thn (B : List Int) (M : List (List UInt8)) (next : Nat) : rdNm B M next = thn (rdN B 1 1 64 next) fun k => if B.length < next + 1 + k.toNat then .error B.length else if nmOk (fldT B (next + 1) k.toNat) = true ∧ ¬ fldT B (next + 1) k.toNat ∈ M then .ok (fldT B (next + 1) k.toNat) else .error (next + 1) := by
  simp only [rdNm]
  cases rdN B 1 1 64 next <;> rfl
theorem rdNm_pf (B : List Int) {c : Nat} (hc : c ≤ B.length) (M : List (List UInt8)) (next : Nat) : Pf c (rdNm (B.take c) M next) (rdNm B M next) := by
  rw [rdNm_thn, rdNm_thn]
  refine (rdN_pf B hc (Nat.le_refl _) 1 64 next).thn fun k hk => ?_
  have hk1 := (rdN_range hk).1
  have hl : (B.take c).length = c := by rw [List.length_take]; omega
  by_cases h : c < next + 1 + k.toNat
  · refine Pf.short ?_
    rw [hl, if_pos h]
  · have e : fldT (B.take c) (next + 1) k.toNat = fldT B (next + 1) k.toNat := by unfold fldT; rw [fldB_take B (by omega)]
    refine Pf.same ?_ ?_
    · rw [hl, if_neg h, if_neg (show ¬ B.length < next + 1 + k.toNat by omega), e]
    · intro p hp
      rw [if_neg (show ¬ B.length < next + 1 + k.toNat by omega)] at hp
      split at hp
      · cases hp
      · cases hp; omega
theorem rdFn_thn (B : List Int) (M : List (List UInt8)) (params : Int) (next : Nat) : rdFn B M params next = thn (rdNm B M next) fun T => thn (rdN B 8 2 1099511627776 (next + 1 + T.length)) fun fr => thn (rdN B 4 1 4294967295 (next + 1 + T.length + 8)) fun ct => thn (rdN B 1 0 params (next + 1 + T.length + 8 + 4)) fun pa => .ok (T, fr, ct, pa) := by
  simp only [rdFn]
  cases rdNm B M next with
  | error p => rfl
  | ok T =>
    simp only [thn]
    cases rdN B 8 2 1099511627776 (next + 1 + T.length) with
    | error p => rfl
    | ok fr =>
      simp only []
      cases rdN B 4 1 4294967295 (next + 1 + T.length + 8) with
      | error p => rfl
      | ok ct =>
        simp only []
        cases rdN B 1 0 params (next + 1 + T.length + 8 + 4) <;> rfl
theorem rdFn_pf (B : List Int) {c : Nat} (hc : c ≤ B.length) (M : List (List UInt8)) (params : Int) (next : Nat) : Pf c (rdFn (B.take c) M params next) (rdFn B M params next) := by
  rw [rdFn_thn, rdFn_thn]
  exact (rdNm_pf B hc M next).thn fun T _ => (rdN_pf B hc (by omega) _ _ _).thn fun fr _ => (rdN_pf B hc (by omega) _ _ _).thn fun ct _ => (rdN_pf B hc (by omega) _ _ _).thn fun pa _ => Pf.ret ⟨_, rfl⟩
theorem rdFns_pf (B : List Int) {c : Nat} (hc : c ≤ B.length) (main : Int) : ∀ (m : Nat) (i first : Int) (A : List Rf) (next : Nat), Pf c (rdFns (B.take c) main m i first A next) (rdFns B main m i first A next)
  | 0, i, first, A, next => Pf.ret ⟨_, rfl⟩
  | m + 1, i, first, A, next => by
    have e : ∀ B, rdFns B main (m + 1) i first A next = thn (rdFn B (A.map fun f : Rf => nml f.name) (if i = main then 0 else 8) next) fun x => rdFns B main m (i + 1) (first + x.2.2.1) (A ++ [⟨bs x.1, x.2.1, first, x.2.2.1, x.2.2.2⟩]) (next + 1 + x.1.length + 8 + 4 + 1) := fun B => by
      simp only [rdFns, thn]
      split <;> simp_all
    rw [e, e]
    exact (rdFn_pf B hc _ _ next).thn fun x _ => rdFns_pf B hc main m _ _ _ _
theorem rdRg_pf (B : List Int) {c : Nat} (hc : c ≤ B.length) : ∀ (m next : Nat), Pf c (rdRg (B.take c) m next) (rdRg B m next)
  | 0, next => Pf.ret ⟨_, rfl⟩
  | m + 1, next => by
    have e : ∀ B, rdRg B (m + 1) next = thn (rdN B 1 0 15 next) fun r => thn (rdRg B m (next + 1)) fun L => .ok (r :: L) := fun B => by
      simp only [rdRg]
      cases rdN B 1 0 15 next with
      | error p => rfl
      | ok r =>
        simp only [thn]
        cases rdRg B m (next + 1) <;> rfl
    rw [e, e]
    exact (rdN_pf B hc (Nat.le_refl _) _ _ _).thn fun r _ => (rdRg_pf B hc m (next + 1)).thn fun L _ => Pf.ret ⟨_, rfl⟩
theorem rdIn_pf (B : List Int) {c : Nat} (hc : c ≤ B.length) (f : Rf) (k : Int) (last : Bool) (next : Nat) : Pf c (rdIn (B.take c) f k last next) (rdIn B f k last next) := by
  have e : ∀ B, rdIn B f k last next = thn (rdOp B last next) fun op => thn (rdRg B (rcnt op).toNat (next + 1)) fun L => if hasNC op = true then
        thn (rdN B 8 (loN op f.fi) (hiN op f.fr f.fi f.ct k) (next + 1 + (rcnt op).toNat)) fun v => .ok (⟨op, L.getD 0 0, L.getD 1 0, L.getD 2 0, v⟩, next + 1 + (rcnt op).toNat + 8)
      else .ok (⟨op, L.getD 0 0, L.getD 1 0, L.getD 2 0, 0⟩, next + 1 + (rcnt op).toNat) := fun B => by
    simp only [rdIn]
    cases rdOp B last next with
    | error p => rfl
    | ok op =>
      simp only [thn]
      cases rdRg B (rcnt op).toNat (next + 1) with
      | error p => rfl
      | ok L =>
        simp only []
        by_cases h : hasNC op = true
        · rw [if_pos h, if_pos h]
          cases rdN B 8 (loN op f.fi) (hiN op f.fr f.fi f.ct k) (next + 1 + (rcnt op).toNat) <;> rfl
        · rw [if_neg h, if_neg h]
  rw [e, e]
  refine (rdOp_pf B hc last next).thn fun op _ => (rdRg_pf B hc _ _).thn fun L _ => ?_
  by_cases h : hasNC op = true
  · rw [if_pos h, if_pos h]
    exact (rdN_pf B hc (by omega) _ _ _).thn fun v _ => Pf.ret ⟨_, rfl⟩
  · rw [if_neg h, if_neg h]
    exact Pf.ret ⟨_, rfl⟩
theorem rdIns1_pf (B : List Int) {c : Nat} (hc : c ≤ B.length) (f : Rf) (k : Int) : ∀ (m next : Nat), Pf c (rdIns1 (B.take c) f k m next) (rdIns1 B f k m next)
  | 0, next => Pf.ret ⟨_, rfl⟩
  | m + 1, next => by
    have e : ∀ B, rdIns1 B f k (m + 1) next = thn (rdIn B f k (decide (m = 0)) next) fun x => thn (rdIns1 B f k m x.2) fun y => .ok (x.1 :: y.1, y.2) := fun B => by
      simp only [rdIns1]
      cases rdIn B f k (decide (m = 0)) next with
      | error p => rfl
      | ok x =>
        simp only [thn]
        cases rdIns1 B f k m x.2 <;> rfl
    rw [e, e]
    exact (rdIn_pf B hc f k _ next).thn fun x _ => (rdIns1_pf B hc f k m _).thn fun y _ => Pf.ret ⟨_, rfl⟩
theorem rdIns_pf (B : List Int) {c : Nat} (hc : c ≤ B.length) (k : Int) : ∀ (FS : List Rf) (next : Nat), Pf c (rdIns (B.take c) k FS next) (rdIns B k FS next)
  | [], next => Pf.ret ⟨_, rfl⟩
  | f :: FS, next => by
    have e : ∀ B, rdIns B k (f :: FS) next = thn (rdIns1 B f k f.ct.toNat next) fun x => thn (rdIns B k FS x.2) fun y => .ok (x.1 ++ y.1, y.2) := fun B => by
      simp only [rdIns]
      cases rdIns1 B f k f.ct.toNat next with
      | error p => rfl
      | ok x =>
        simp only [thn]
        cases rdIns B k FS x.2 <;> rfl
    rw [e, e]
    exact (rdIns1_pf B hc f k _ next).thn fun x _ => (rdIns_pf B hc k FS _).thn fun y _ => Pf.ret ⟨_, rfl⟩
/-- Code up to where its instructions end. -/
def rdAll (B : List Int) : Except Nat ((Int × List Rf × List Ri) × Nat) :=
  thn (rdMk B mkB 0) fun q => thn (rdN B 4 1 4294967295 q) fun count => thn (rdN B 4 0 (count - 1) (q + 4)) fun main => thn (rdFns B main count.toNat 0 0 [] (q + 8)) fun x => thn (rdIns B x.1.length x.1 x.2) fun y => .ok ((main, x.1, y.1), y.2)
theorem rdCode_all (B : List Int) : rdCode B = thn (rdAll B) fun x => if x.2 = B.length then .ok x.1 else .error x.2 := by
  unfold rdCode rdAll
  cases rdMk B mkB 0 with
  | error p => rfl
  | ok q =>
    simp only [thn]
    cases rdN B 4 1 4294967295 q with
    | error p => rfl
    | ok count =>
      simp only []
      cases rdN B 4 0 (count - 1) (q + 4) with
      | error p => rfl
      | ok main =>
        simp only []
        cases rdFns B main count.toNat 0 0 [] (q + 8) with
        | error p => rfl
        | ok x =>
          simp only []
          cases rdIns B x.1.length x.1 x.2 <;> rfl
theorem rdAll_pf (B : List Int) {c : Nat} (hc : c ≤ B.length) : Pf c (rdAll (B.take c)) (rdAll B) := by
  unfold rdAll
  exact (rdMk_pf B hc _ _).thn fun q _ => (rdN_pf B hc (by omega) _ _ _).thn fun count _ => (rdN_pf B hc (by omega) _ _ _).thn fun main _ => (rdFns_pf B hc _ _ _ _ _ _).thn fun x _ => (rdIns_pf B hc _ _ _).thn fun y _ => Pf.ret ⟨_, rfl⟩
/-- The first bytes alone read as code: then they are all of it, or what stands behind them is the fault. -/
theorem rdCode_pre {B : List Int} {c : Nat} (hc : c ≤ B.length) : (∀ x, rdCode (B.take c) = .ok x → c < B.length → rdCode B = .error c) ∧ ∀ p, rdCode (B.take c) = .error p → p = c ∨ (p < c ∧ rdCode B = .error p) := by
  have hl : (B.take c).length = c := by rw [List.length_take]; omega
  have H := rdAll_pf B hc
  have hE : ∀ p, rdCode (B.take c) = .error p → p ≤ c := fun p hp => by have q := rdCode_err hp; rw [hl] at q; exact q
  constructor
  · intro x h hlt
    rw [rdCode_all] at h ⊢
    cases h1 : rdAll (B.take c) with
    | error p => rw [h1] at h; cases h
    | ok y =>
      rw [h1] at h
      rw [H.ok y h1]
      simp only [thn] at h ⊢
      split at h
      · next e =>
        rw [hl] at e
        rw [if_neg (show ¬ y.2 = B.length by omega), e]
      · cases h
  · intro p h
    have hp := hE p h
    rw [rdCode_all] at h ⊢
    cases h1 : rdAll (B.take c) with
    | error q =>
      rw [h1] at h
      cases h
      rcases H.err _ h1 with e | ⟨l, e⟩
      · exact .inl e
      · rw [e]; exact .inr ⟨l, rfl⟩
    | ok y =>
      rw [h1] at h
      rw [H.ok y h1]
      simp only [thn] at h ⊢
      split at h
      · cases h
      · next e =>
        rw [hl] at e
        cases h
        rw [if_neg (show ¬ y.2 = B.length by omega)]
        exact .inr ⟨by omega, rfl⟩
end Go.Proofs.YtjiaedckecfjbaaDoor
namespace Go.Proofs.YtjiaedckecfjbaaDoor
open Go.ChangeShapes Go.WideShapes Go.ChangeAt Go.RowKit Go.Maps Go.WideMaps

set_option maxRecDepth 100000 in
theorem run_cutB (b o n cap k : Nat) (hk : k ≤ cap) (W : World) : (Instr.sliceAt 28 (.slice (some ⟨b, o, none⟩) n cap) none (some (.int .i64 (k : Int))) none).run Tryd.prog W = .ok (.slice (some ⟨b, o, none⟩) k cap) W := by
  rw [run_sliceAt_slice (P := Tryd.prog) W 28 _ _ _ _ Tryd.underlying28, run_slice_h (P := Tryd.prog) W 28 (some ⟨b, o, none⟩) n cap Tryd.underlying28 .i64 (k : Int) (by omega) (by omega)]
  have e1 : (sizeOf (Tryd.prog.elem 28)).run Tryd.prog W = .ok 1 W := by
    have e : Tryd.prog.elem 28 = 5 := by kernel_rfl
    rw [e]
    have hi : (Tryd.prog.info? 5).map (fun i => i.size) = some 1 := by kernel_rfl
    cases h : Tryd.prog.info? 5 with
    | none => rw [h] at hi; cases hi
    | some i =>
      rw [h] at hi
      simp at hi
      simp [sizeOf, typeInfo, h, hi]
  rw [e1]
  simp only [Result.andThen, sliced, Nat.sub_zero, Int.toNat_natCast]
  by_cases h : cap = 0
  · rw [if_pos h]
  · rw [if_neg h]
    simp [Addr.add]
/-- Bytes as rows of one cell. -/
def ubs (B : List Int) : List (List Value) := B.map fun x => [Value.int .u8 x]
theorem ubs_len (B : List Int) : (ubs B).length = B.length := List.length_map _
theorem ubs_flat : ∀ B : List Int, (ubs B).flatten = B.map (Value.int .u8)
  | [] => rfl
  | x :: B => by
    have := ubs_flat B
    unfold ubs at this ⊢
    rw [List.map_cons, List.flatten_cons, this]
    rfl
theorem ubs_add (A B : List Int) : ubs A ++ ubs B = ubs (A ++ B) := by unfold ubs; rw [List.map_append]
theorem ubs_one (B : List Int) : ∀ y ∈ ubs B, y.length = 1 := fun y hy => by
  obtain ⟨x, _, rfl⟩ := List.mem_map.1 hy
  rfl
/-- append(s, x...) of bytes. -/
theorem wpList_append_bytes {w : World} {ops : Array Oper} {rest : List Oper} {op : Oper} {a : Act} {Q : Exit → Act → World → Prop} (hgd : op.guard = none) (s x : Operand)
    (ho : op.op = .call { callee := .builtin .append, args := #[s, x], argTypes := #[28, 28] })
    (b : Nat) (v : Value) (A : List Int) (hs : a.eval s = v) (hown : Row w b 5 1 v (ubs A)) (xo : Option Addr) (m c : Nat) (B : List Int) (hx : a.eval x = .slice xo m c) (hI : IBy w xo m B)
    (hl : A.length + m ≤ 1000000000) (hB : b ≤ w.heap.size)
    (h : ∀ v' w', Row w' b 5 1 v' (ubs (A ++ B)) → GI b w w' v v' → wpList Tryd.prog ops Q rest (a.put op.dst v') w') : wpList Tryd.prog ops Q (op :: rest) a w := by
  refine wpList_plain hgd fun K hK => ?_
  have hw : Region.wanted op (yielded ops a.tmps) = true := by simp [Region.wanted, hgd]
  have q := step_append_rowsG (K := K) (Q := Q) (E := True) (ops := ops) hgd s x 28 5 1 (.int .u8 0) 1 ho Tryd.underlying28 (by kernel_rfl) rfl (by omega) (by omega) b v (ubs A) hs hown xo m c hx (ubs B) (by rw [ubs_len]; exact hI.len) (ubs_one B) (fun hne => by
      have hp : 0 < m := by
        rw [hI.len]
        cases B with
        | nil => exact absurd rfl hne
        | cons y l => simp
      obtain ⟨g, o, e, hl, hc⟩ := hI.out hp
      refine ⟨⟨g, o, none⟩, e, fun j u hj => ?_⟩
      rw [ubs_flat] at hj
      have hjl : j < B.length := by
        have := (List.getElem?_eq_some_iff.1 hj).1
        simpa using this
      rw [add_noneR, hc j hjl]
      simp [hjl] at hj
      rw [hj]) (fun u hu => by
      rw [ubs_flat] at hu
      obtain ⟨y, _, rfl⟩ := List.mem_map.1 hu
      rfl) (by rw [ubs_len]; omega) hB (fun v' w' h1 h2 => hK _ _ (h v' w' (by rw [← ubs_add]; exact h1) h2))
  rw [if_pos hw] at q
  exact q
theorem iby_row {W : World} {b : Nat} {v : Value} {A : List Int} (h : Row W b 5 1 v (ubs A)) (hp : 0 < A.length) (hA : Byts A) : ∃ g c, v = .slice (some ⟨g, 0, none⟩) A.length c ∧ A.length ≤ c ∧ c ≤ 9223372036854775807 ∧ IBy W (some ⟨g, 0, none⟩) A.length A := by
  obtain ⟨g, c, cs, e, h1, h2, h3, h4⟩ := h.some (by rw [ubs_len]; exact hp)
  rw [ubs_len] at e h1
  refine ⟨g, c, e, h1, h2, rfl, hA, fun _ => ⟨g, 0, rfl, (Array.getElem?_eq_some_iff.1 h4).1, fun i hi => ?_⟩⟩
  subst e
  have q := h.cell (ubs_len A).symm (i := i) (by rw [ubs_len]; exact hi) (r := 0) (by omega) (u := .int .u8 (A[i])) (by unfold ubs; simp)
  rw [Nat.mul_one, Nat.add_zero] at q
  rw [Nat.zero_add]
  exact q
/-- What Read answers of bytes that are not too many, its code left aside. -/
def rdAt (B : List Int) : Int := match rdCode B with | .ok _ => 0 | .error p => (p : Int)
def rdNo (B : List Int) : Int := match rdCode B with | .ok _ => 0 | .error _ => 220
structure RdP (w w' : World) (at_ no : Int) (e : Ending) : Prop where
  out : ∃ a0 n0 c0 a1 n1 c1 m, e = .returned (.tuple #[.agg #[.slice a0 n0 c0, .slice a1 n1 c1, .int .i64 m], .int .i64 at_, .int .i64 no])
  low : Below w.heap.size w w'
theorem codeRead_any {w : World} {ao : Option Addr} {n cap : Nat} {B : List Int} (hB : IBy w ao n B) (hT : Tab w) (hn : n ≤ 1000000) (hcap : n ≤ cap ∧ cap ≤ 9223372036854775807) :
    Calls Tryd.prog 13 #[.slice ao n cap] w fun e w' => RdP w w' (rdAt B) (rdNo B) e :=
  (rRead_any hB hT ⟨hcap.1, hcap.2, by omega⟩).mono fun e w' q => ⟨by
    cases h : rdCode B with
    | error p =>
      have := q.bad (by omega) p h
      unfold rdAt rdNo
      rw [h]
      exact ⟨_, _, _, _, _, _, _, this⟩
    | ok x =>
      obtain ⟨m, FS, L⟩ := x
      obtain ⟨gi, gf, fc, this, -⟩ := q.ok (by omega) m FS L h
      unfold rdAt rdNo
      rw [h]
      exact ⟨_, _, _, _, _, _, _, this⟩, q.low⟩
theorem byte_wfR {n : Int} (h : (Lit.int .u8 n).wf = true) : 0 ≤ n ∧ n < 256 := by
  simp [Lit.wf] at h
  have a : (0 : Int) ≤ n := h.1
  have b : n ≤ 255 := h.2
  omega
/-- A slice of bytes that came in, with its weight. -/
theorem bytes_viewW {H : Type} {enc : TypeId × Value → H} {W : World} {fuel : Nat} {cs : List Value} {x : DataW H × List MemPlace} (h : DataW.trod enc Tryd.prog W 0 (fun _ => true) true fuel 28 cs = some x) (hw : ∀ n ∈ x.1.weights Tryd.prog 28, n ≤ reachBytes) :
    ∃ (ao : Option Addr) (cap : Nat) (B : List Int), cs = [.slice ao B.length cap] ∧ IBy W ao B.length B ∧ B.length ≤ cap ∧ cap ≤ 9223372036854775807 ∧ B.length ≤ 140737488351232 := by
  obtain ⟨ao, cap, N, e, hL, hl, hp⟩ := lst_viewR (α := Int) 0 (En := fun _ cs x => cs = [Value.int .u8 x]) (P := fun a => 0 ≤ a ∧ a < 256) (z := 1) (by_ := 1) Tryd.underlying28 (by decide) (by kernel_rfl) (by kernel_rfl) (by decide) (fun fuel cs y h _ _ => by
    obtain ⟨n, e, _, w⟩ := DataW.trod_int Tryd.underlying5 h
    exact ⟨n, e, fun u hu => by rw [e] at hu; rw [List.mem_singleton.1 hu]; rfl, byte_wfR w⟩) h hw
  refine ⟨ao, cap, N, e, ⟨rfl, hp, fun hne => ?_⟩, hL.le.1, hL.le.2, hl⟩
  obtain ⟨b, o, cs0, e0, hb, _, _⟩ := hL.at hne
  refine ⟨b, o, e0, hb, fun i hi => ?_⟩
  obtain ⟨b', o', cs', e', _, hc, hE⟩ := hL.at hi
  rw [e0] at e'
  cases e'
  have hE' : cs' = [.int .u8 N[i]] := hE
  have := hc 0 (.int .u8 N[i]) (by rw [hE']; rfl)
  rw [Nat.mul_one] at this
  exact this
end Go.Proofs.YtjiaedckecfjbaaDoor
namespace Go.Proofs.YtjiaedckecfjbaaDoor
open Go.ChangeShapes Go.WideShapes Go.ChangeAt Go.RowKit Go.Maps Go.WideMaps

theorem rd_ok {B : List Int} {x : Int × List Rf × List Ri} (h : rdCode B = .ok x) : rdNo B = 0 ∧ rdAt B = 0 := by unfold rdNo rdAt; rw [h]; exact ⟨rfl, rfl⟩
theorem rd_err {B : List Int} {p : Nat} (h : rdCode B = .error p) : rdNo B = 220 ∧ rdAt B = (p : Int) := by unfold rdNo rdAt; rw [h]; exact ⟨rfl, rfl⟩
theorem pre_add (B M : List Int) : (B ++ M).take B.length = B := by simp
theorem pl_a {B : List Int} {p : Nat} (h : rdCode B = .error p) (hp : p < B.length) (M : List Int) : ((rdNo (B.take p) = 220 ∧ rdAt (B.take p) = (p : Int)) ∨ (rdNo (B.take p) = 0 ∧ rdAt (B.take p) = 0)) ∧ rdNo (B ++ M) = 220 ∧ rdAt (B ++ M) = (p : Int) := by
  constructor
  · have q := (rdCode_pre (B := B) (c := p) (by omega)).2
    cases h1 : rdCode (B.take p) with
    | ok x => exact .inr (rd_ok h1)
    | error r =>
      rcases q r h1 with e | ⟨l, e⟩
      · subst e; exact .inl (rd_err h1)
      · rw [h] at e; cases e; omega
  · have q := (rdCode_pre (B := B ++ M) (c := B.length) (by simp)).2 p
    rw [pre_add] at q
    rcases q h with e | ⟨l, e⟩
    · omega
    · exact rd_err e
theorem pl_b {B : List Int} {x : Int × List Rf × List Ri} (h : rdCode B = .ok x) {M : List Int} (hM : 0 < M.length) : rdNo (B ++ M) = 220 ∧ rdAt (B ++ M) = (B.length : Int) := by
  have q := (rdCode_pre (B := B ++ M) (c := B.length) (by simp)).1 x
  rw [pre_add] at q
  exact rd_err (q h (by simp; omega))
theorem pl_c {B : List Int} (h : (∃ x, rdCode B = .ok x) ∨ rdCode B = .error B.length) {k : Nat} (hk : k < B.length) : rdNo (B.take k) = 220 ∧ rdAt (B.take k) = (k : Int) := by
  have q := rdCode_pre (B := B) (c := k) (by omega)
  cases h1 : rdCode (B.take k) with
  | ok x =>
    have e := q.1 x h1 hk
    rcases h with ⟨y, h⟩ | h
    · rw [h] at e; cases e
    · rw [h] at e; cases e; omega
  | error r =>
    rcases q.2 r h1 with e | ⟨l, e⟩
    · subst e; exact rd_err h1
    · rcases h with ⟨y, h⟩ | h
      · rw [h] at e; cases e
      · rw [h] at e; cases e; omega
theorem codeRead_is {w : World} {ao : Option Addr} {n cap : Nat} {B : List Int} (hB : IBy w ao n B) (hT : Tab w) (hn : n ≤ 1000000) (hcap : n ≤ cap ∧ cap ≤ 9223372036854775807) {at_ no : Int} (h : rdNo B = no ∧ rdAt B = at_) :
    Calls Tryd.prog 13 #[.slice ao n cap] w fun e w' => RdP w w' at_ no e := by
  have q := codeRead_any hB hT hn hcap
  rw [h.1, h.2] at q
  exact q
theorem toIntG_wrap (x : BitVec 64) : IntKind.i64.wrap (x.toNat : Int) = x.toInt := by
  have h := x.isLt
  rw [IntKind.wrap_i64, BitVec.toInt_eq_toNat_cond]
  split <;> omega
theorem andG_bv (a b : Int) : bits .and .i64 a b = (BitVec.ofInt 64 a &&& BitVec.ofInt 64 b).toInt := toIntG_wrap _
theorem andG_small (a : Int) (m : Nat) (hm : m < 9223372036854775808) : ∃ i : Nat, i ≤ m ∧ bits .and .i64 a (m : Int) = (i : Int) := by
  have h1 : (BitVec.ofInt 64 a &&& BitVec.ofInt 64 (m : Int)).toNat ≤ m := by
    rw [BitVec.toNat_and]
    refine Nat.le_trans Nat.and_le_right ?_
    rw [BitVec.toNat_ofInt]
    omega
  refine ⟨_, h1, ?_⟩
  rw [andG_bv, BitVec.toInt_eq_toNat_cond, if_pos (by omega)]
theorem below_box {w v : World} (h : Below w.heap.size w v) (o : Obj) : Below w.heap.size w (v.alloc o) := h.trans ((below_newX v o).mono h.size)
set_option maxRecDepth 100000 in
set_option maxHeartbeats 16000000 in
theorem codePlaces_any (w : World) (hTab : Tab w) (ao : Option Addr) (n cap : Nat) (B : List Int) (hB : IBy w ao n B) (hc : n ≤ cap) (hm : cap ≤ 9223372036854775807) (hnb : n ≤ 140737488351232) (cut : Int) (mo : Option Addr) (m mc : Nat) (M : List Int) (hM : IBy w mo m M) (hmc : m ≤ mc) (hmm : mc ≤ 9223372036854775807) (hmb : m ≤ 140737488351232) :
    Calls Tryd.prog 7 #[.slice ao n cap, .int .i64 cut, .slice mo m mc] w fun e w' => SamP w w' true e := by
  have HT : Hid (Tab w) := hTab
  have HB : Hid (IBy w ao n B) := hB
  have HM : Hid (IBy w mo m M) := hM
  have HNU : Hid (∀ W x, Calls Tryd.prog 12 #[.int .i64 x] W fun e w' => e = .returned (.int .i64 x) ∧ W = w') := fun W x => (num_any W x).mono fun e w' h => ⟨h.1, h.2.symm⟩
  have HAL : Hid (Calls Tryd.prog 10 #[] w fun e w' => SamP w w' true e) := aliveC_any w hTab
  have HCC : Hid (n ≤ cap ∧ cap ≤ 9223372036854775807 ∧ m ≤ mc ∧ mc ≤ 9223372036854775807) := ⟨hc, hm, hmc, hmm⟩
  clear hTab hB hM
  have hn63 : n ≤ 9223372036854775807 := by omega
  have hm63 : m ≤ 9223372036854775807 := by omega
  have hwr : wrap64 ((n : Int) + (m : Int)) = (n : Int) + (m : Int) := by unfold wrap64; omega
  by_cases hs : 65536 < n + m
  · have hni : decide ((65536 : Int) < (n : Int) + (m : Int)) = true := by simp; omega
    clear hs hwr
    go_enter Tryd.func7, Tryd.ntmps7
    go_wp2_with fail
    go_ret
    exact ⟨⟨rfl, Below.refl _ _⟩⟩
  have hni : decide ((65536 : Int) < (n : Int) + (m : Int)) = false := by simp; omega
  have HS : Hid (n + m ≤ 65536) := by show _ ≤ _; omega
  clear hs hwr
  obtain ⟨kk, -, hkk⟩ := andG_small cut 65535 (by decide)
  have hbits : bits BinOp.and IntKind.i64 cut 65535 = (kk : Int) := hkk
  clear hkk
  cases hr : rdCode B with
  | error p =>
    have hpl : p ≤ B.length := rdCode_err hr
    have hlen := HB.out.len
    by_cases hp : p < n
    · have hpa := pl_a hr (by omega) M
      have HPA : Hid (rdNo (B ++ M) = 220 ∧ rdAt (B ++ M) = (p : Int)) := hpa.2
      have HR0 : Hid (rdNo B = 220 ∧ rdAt B = (p : Int)) := rd_err hr
      have HPOS : Hid (0 < n ∧ p < n) := by show _ ∧ _; omega
      obtain ⟨bb, oo, hao, -, -⟩ := HB.out.out HPOS.out.1
      subst hao
      have g1 : decide ((p : Int) < 0) = false := by simp
      have g2 : decide (n < p) = false := by simp; omega
      have g3 : decide (p < n) = true := by simp; omega
      have hsl : ∀ W, (Instr.sliceAt 28 (.slice (some ⟨bb, oo, none⟩) n cap) none (some (.int .i64 (p : Int))) none).run Tryd.prog W = .ok (.slice (some ⟨bb, oo, none⟩) p cap) W := fun W => run_cutB bb oo n cap p (by omega) W
      have hlen2 : (B.take p).length = p := by rw [List.length_take]; omega
      clear hr hpl hlen hp hlen2
      rcases hpa.1 with hq | hq
      · have HQ : Hid (rdNo (B.take p) = 220 ∧ rdAt (B.take p) = (p : Int)) := hq
        clear hq hpa
        go_enter Tryd.func7, Tryd.ntmps7
        go_wp2_with fail
        refine Calls.mono HAL.out ?_
        intro e w2 q
        have hq := q.out.1
        subst hq
        have HLw2 : Hid (Below w.heap.size w w2) := q.out.2
        clear q HAL
        have HRE1 : Hid (Calls Tryd.prog 13 #[.slice (some ⟨bb, oo, none⟩) n cap] w2 fun e w' => RdP w2 w' ((p : Int)) (220) e) := codeRead_is (HB.out.below HLw2.out) (HT.out.below HLw2.out HT.out.1) (by have := HS.out; omega) (by have := HCC.out; omega) HR0.out
        go_wp2_with fail
        refine Calls.mono HRE1.out ?_
        intro e v1 q
        obtain ⟨a0, n0, c0, a1, n1, c1, mm, he⟩ := q.out
        obtain ⟨W1, hW1⟩ : ∃ W', W' = v1.alloc (.cells #[.slice a0 n0 c0, .slice a1 n1 c1, .int .i64 mm] 25) := ⟨_, rfl⟩
        have HLW1 : Hid (Below w.heap.size w W1) := by rw [hW1]; exact below_box (HLw2.out.trans (q.low.mono HLw2.out.size)) _
        subst he
        clear q HRE1
        go_upto_region 5 with fail
        rw [← hW1]
        clear hW1
        have HRE2 : Hid (Calls Tryd.prog 13 #[.slice (some ⟨bb, oo, none⟩) p cap] W1 fun e w' => RdP W1 w' ((p : Int)) (220) e) := codeRead_is ((HB.out.below HLW1.out).take (k := p) (by have := HPOS.out; omega)) (HT.out.below HLW1.out HT.out.1) (by have := HS.out; have := HPOS.out; omega) (by have := HCC.out; have := HPOS.out; omega) HQ.out
        go_wp2_with (go_at_call 12; refine (HNU.out _ _).mono ?_; rintro e w9 ⟨rfl, rfl⟩)
        refine Calls.mono HRE2.out ?_
        intro e v2 q
        obtain ⟨a0, n0, c0, a1, n1, c1, mm, he⟩ := q.out
        obtain ⟨W2, hW2⟩ : ∃ W', W' = v2.alloc (.cells #[.slice a0 n0 c0, .slice a1 n1 c1, .int .i64 mm] 25) := ⟨_, rfl⟩
        have HLW2 : Hid (Below w.heap.size w W2) := by rw [hW2]; exact below_box (HLW1.out.trans (q.low.mono HLW1.out.size)) _
        subst he
        clear q HRE2
        go_upto_region 14 with (go_at_call 12; refine (HNU.out _ _).mono ?_; rintro e w9 ⟨rfl, rfl⟩)
        rw [← hW2]
        clear hW2
        go_wp2_with (first
          | (at_builtin
             refine wpList_append_bytes rfl _ _ rfl W2.heap.size (.slice none 0 0) [] rfl (Row.nil _ _ _ _) (some ⟨bb, oo, none⟩) n cap B rfl (HB.out.below HLW2.out) (by have := HS.out; simp only [List.length_nil]; omega) (Nat.le_refl _) ?_
             intro v3a w3a o1 g1
             have HO3a : Hid (Row w3a W2.heap.size 5 1 v3a (ubs B)) := o1
             have HG3a : Hid (Below W2.heap.size W2 w3a) := g1.bel
             clear o1 g1)
          | (at_builtin
             refine wpList_append_bytes rfl _ _ rfl W2.heap.size v3a B rfl HO3a.out mo m mc M rfl (HM.out.below (HLW2.out.trans (HG3a.out.mono HLW2.out.size))) (by have := HS.out; have := HB.out.len; omega) HG3a.out.size ?_
             intro v3b w3b o2 g2
             obtain ⟨g3, c3, hv3, hc13, hc23, hI3⟩ := iby_row o2 (by rw [List.length_append]; have := HB.out.len; have := HM.out.len; have := HPOS.out; omega) (fun x hx => (List.mem_append.1 hx).elim (HB.out.by_ x) (HM.out.by_ x))
             obtain ⟨N3, hN3⟩ : ∃ N, N = (B ++ M).length := ⟨_, rfl⟩
             rw [← hN3] at hv3 hc13 hI3
             have HN3 : Hid (N3 = (B ++ M).length) := hN3
             have HLw3b : Hid (Below w.heap.size w w3b) := HLW2.out.trans ((HG3a.out.trans g2.bel).mono HLW2.out.size)
             have HI3 : Hid (IBy w3b (some ⟨g3, 0, none⟩) N3 (B ++ M)) := hI3
             subst hv3
             clear o2 g2 hI3 HO3a hN3))
        have HRE4 : Hid (Calls Tryd.prog 13 #[.slice (some ⟨g3, 0, none⟩) N3 c3] w3b fun e w' => RdP w3b w' ((p : Int)) (220) e) := codeRead_is (HI3.out) (HT.out.below HLw3b.out HT.out.1) (by rw [HN3.out, List.length_append]; have := HS.out; have := HB.out.len; have := HM.out.len; omega) (⟨hc13, hc23⟩) HPA.out
        refine Calls.mono HRE4.out ?_
        intro e v4 q
        obtain ⟨a0, n0, c0, a1, n1, c1, mm, he⟩ := q.out
        obtain ⟨W4, hW4⟩ : ∃ W', W' = v4.alloc (.cells #[.slice a0 n0 c0, .slice a1 n1 c1, .int .i64 mm] 25) := ⟨_, rfl⟩
        have HLW4 : Hid (Below w.heap.size w W4) := by rw [hW4]; exact below_box (HLw3b.out.trans (q.low.mono HLw3b.out.size)) _
        subst he
        clear q HRE4
        go_upto_region 15 with fail
        rw [← hW4]
        clear hW4
        go_wp2_with (go_at_call 12; refine (HNU.out _ _).mono ?_; rintro e w9 ⟨rfl, rfl⟩)
        go_ret
        exact ⟨⟨rfl, HLW4.out⟩⟩
      · have HQ : Hid (rdNo (B.take p) = 0 ∧ rdAt (B.take p) = 0) := hq
        clear hq hpa
        go_enter Tryd.func7, Tryd.ntmps7
        go_wp2_with fail
        refine Calls.mono HAL.out ?_
        intro e w2 q
        have hq := q.out.1
        subst hq
        have HLw2 : Hid (Below w.heap.size w w2) := q.out.2
        clear q HAL
        have HRE1 : Hid (Calls Tryd.prog 13 #[.slice (some ⟨bb, oo, none⟩) n cap] w2 fun e w' => RdP w2 w' ((p : Int)) (220) e) := codeRead_is (HB.out.below HLw2.out) (HT.out.below HLw2.out HT.out.1) (by have := HS.out; omega) (by have := HCC.out; omega) HR0.out
        go_wp2_with fail
        refine Calls.mono HRE1.out ?_
        intro e v1 q
        obtain ⟨a0, n0, c0, a1, n1, c1, mm, he⟩ := q.out
        obtain ⟨W1, hW1⟩ : ∃ W', W' = v1.alloc (.cells #[.slice a0 n0 c0, .slice a1 n1 c1, .int .i64 mm] 25) := ⟨_, rfl⟩
        have HLW1 : Hid (Below w.heap.size w W1) := by rw [hW1]; exact below_box (HLw2.out.trans (q.low.mono HLw2.out.size)) _
        subst he
        clear q HRE1
        go_upto_region 5 with fail
        rw [← hW1]
        clear hW1
        have HRE2 : Hid (Calls Tryd.prog 13 #[.slice (some ⟨bb, oo, none⟩) p cap] W1 fun e w' => RdP W1 w' (0) (0) e) := codeRead_is ((HB.out.below HLW1.out).take (k := p) (by have := HPOS.out; omega)) (HT.out.below HLW1.out HT.out.1) (by have := HS.out; have := HPOS.out; omega) (by have := HCC.out; have := HPOS.out; omega) HQ.out
        go_wp2_with (go_at_call 12; refine (HNU.out _ _).mono ?_; rintro e w9 ⟨rfl, rfl⟩)
        refine Calls.mono HRE2.out ?_
        intro e v2 q
        obtain ⟨a0, n0, c0, a1, n1, c1, mm, he⟩ := q.out
        obtain ⟨W2, hW2⟩ : ∃ W', W' = v2.alloc (.cells #[.slice a0 n0 c0, .slice a1 n1 c1, .int .i64 mm] 25) := ⟨_, rfl⟩
        have HLW2 : Hid (Below w.heap.size w W2) := by rw [hW2]; exact below_box (HLW1.out.trans (q.low.mono HLW1.out.size)) _
        subst he
        clear q HRE2
        go_upto_region 14 with (go_at_call 12; refine (HNU.out _ _).mono ?_; rintro e w9 ⟨rfl, rfl⟩)
        rw [← hW2]
        clear hW2
        go_wp2_with (first
          | (at_builtin
             refine wpList_append_bytes rfl _ _ rfl W2.heap.size (.slice none 0 0) [] rfl (Row.nil _ _ _ _) (some ⟨bb, oo, none⟩) n cap B rfl (HB.out.below HLW2.out) (by have := HS.out; simp only [List.length_nil]; omega) (Nat.le_refl _) ?_
             intro v3a w3a o1 g1
             have HO3a : Hid (Row w3a W2.heap.size 5 1 v3a (ubs B)) := o1
             have HG3a : Hid (Below W2.heap.size W2 w3a) := g1.bel
             clear o1 g1)
          | (at_builtin
             refine wpList_append_bytes rfl _ _ rfl W2.heap.size v3a B rfl HO3a.out mo m mc M rfl (HM.out.below (HLW2.out.trans (HG3a.out.mono HLW2.out.size))) (by have := HS.out; have := HB.out.len; omega) HG3a.out.size ?_
             intro v3b w3b o2 g2
             obtain ⟨g3, c3, hv3, hc13, hc23, hI3⟩ := iby_row o2 (by rw [List.length_append]; have := HB.out.len; have := HM.out.len; have := HPOS.out; omega) (fun x hx => (List.mem_append.1 hx).elim (HB.out.by_ x) (HM.out.by_ x))
             obtain ⟨N3, hN3⟩ : ∃ N, N = (B ++ M).length := ⟨_, rfl⟩
             rw [← hN3] at hv3 hc13 hI3
             have HN3 : Hid (N3 = (B ++ M).length) := hN3
             have HLw3b : Hid (Below w.heap.size w w3b) := HLW2.out.trans ((HG3a.out.trans g2.bel).mono HLW2.out.size)
             have HI3 : Hid (IBy w3b (some ⟨g3, 0, none⟩) N3 (B ++ M)) := hI3
             subst hv3
             clear o2 g2 hI3 HO3a hN3))
        have HRE4 : Hid (Calls Tryd.prog 13 #[.slice (some ⟨g3, 0, none⟩) N3 c3] w3b fun e w' => RdP w3b w' ((p : Int)) (220) e) := codeRead_is (HI3.out) (HT.out.below HLw3b.out HT.out.1) (by rw [HN3.out, List.length_append]; have := HS.out; have := HB.out.len; have := HM.out.len; omega) (⟨hc13, hc23⟩) HPA.out
        refine Calls.mono HRE4.out ?_
        intro e v4 q
        obtain ⟨a0, n0, c0, a1, n1, c1, mm, he⟩ := q.out
        obtain ⟨W4, hW4⟩ : ∃ W', W' = v4.alloc (.cells #[.slice a0 n0 c0, .slice a1 n1 c1, .int .i64 mm] 25) := ⟨_, rfl⟩
        have HLW4 : Hid (Below w.heap.size w W4) := by rw [hW4]; exact below_box (HLw3b.out.trans (q.low.mono HLw3b.out.size)) _
        subst he
        clear q HRE4
        go_upto_region 15 with fail
        rw [← hW4]
        clear hW4
        go_wp2_with (go_at_call 12; refine (HNU.out _ _).mono ?_; rintro e w9 ⟨rfl, rfl⟩)
        go_ret
        exact ⟨⟨rfl, HLW4.out⟩⟩
    · have hpn : n = p := by omega
      subst hpn
      have HR0 : Hid (rdNo B = 220 ∧ rdAt B = (n : Int)) := rd_err hr
      clear hp hlen hpl
      by_cases hkn : kk < n
      · have g4 : decide (n ≤ kk) = false := by simp; omega
        have HKN : Hid (kk < n) := hkn
        have HCUT : Hid (rdNo (B.take kk) = 220 ∧ rdAt (B.take kk) = (kk : Int)) := pl_c (.inr (by rw [hr, ← HB.out.len])) (by have := HB.out.len; omega)
        obtain ⟨bb, oo, hao, -, -⟩ := HB.out.out (by omega)
        subst hao
        have hsl : ∀ W, (Instr.sliceAt 28 (.slice (some ⟨bb, oo, none⟩) n cap) none (some (.int .i64 (kk : Int))) none).run Tryd.prog W = .ok (.slice (some ⟨bb, oo, none⟩) kk cap) W := fun W => run_cutB bb oo n cap kk (by have := HCC.out; omega) W
        clear hkn hr
        go_enter Tryd.func7, Tryd.ntmps7
        go_wp2_with fail
        refine Calls.mono HAL.out ?_
        intro e w2 q
        have hq := q.out.1
        subst hq
        have HLw2 : Hid (Below w.heap.size w w2) := q.out.2
        clear q HAL
        have HRE1 : Hid (Calls Tryd.prog 13 #[.slice (some ⟨bb, oo, none⟩) n cap] w2 fun e w' => RdP w2 w' ((n : Int)) (220) e) := codeRead_is (HB.out.below HLw2.out) (HT.out.below HLw2.out HT.out.1) (by have := HS.out; omega) (by have := HCC.out; omega) HR0.out
        go_wp2_with fail
        refine Calls.mono HRE1.out ?_
        intro e v1 q
        obtain ⟨a0, n0, c0, a1, n1, c1, mm, he⟩ := q.out
        obtain ⟨W1, hW1⟩ : ∃ W', W' = v1.alloc (.cells #[.slice a0 n0 c0, .slice a1 n1 c1, .int .i64 mm] 25) := ⟨_, rfl⟩
        have HLW1 : Hid (Below w.heap.size w W1) := by rw [hW1]; exact below_box (HLw2.out.trans (q.low.mono HLw2.out.size)) _
        subst he
        clear q HRE1
        go_upto_region 5 with fail
        rw [← hW1]
        clear hW1
        have HRE6 : Hid (Calls Tryd.prog 13 #[.slice (some ⟨bb, oo, none⟩) kk cap] W1 fun e w' => RdP W1 w' ((kk : Int)) (220) e) := codeRead_is ((HB.out.below HLW1.out).take (k := kk) (by have := HKN.out; omega)) (HT.out.below HLW1.out HT.out.1) (by have := HS.out; have := HKN.out; omega) (by have := HCC.out; have := HKN.out; omega) HCUT.out
        go_wp2_with (go_at_call 12; refine (HNU.out _ _).mono ?_; rintro e w9 ⟨rfl, rfl⟩)
        refine Calls.mono HRE6.out ?_
        intro e v6 q
        obtain ⟨a0, n0, c0, a1, n1, c1, mm, he⟩ := q.out
        obtain ⟨W6, hW6⟩ : ∃ W', W' = v6.alloc (.cells #[.slice a0 n0 c0, .slice a1 n1 c1, .int .i64 mm] 25) := ⟨_, rfl⟩
        have HLW6 : Hid (Below w.heap.size w W6) := by rw [hW6]; exact below_box (HLW1.out.trans (q.low.mono HLW1.out.size)) _
        subst he
        clear q HRE6
        go_upto_region 24 with (go_at_call 12; refine (HNU.out _ _).mono ?_; rintro e w9 ⟨rfl, rfl⟩)
        rw [← hW6]
        clear hW6
        go_wp2_with (go_at_call 12; refine (HNU.out _ _).mono ?_; rintro e w9 ⟨rfl, rfl⟩)
        go_ret
        exact ⟨⟨rfl, HLW6.out⟩⟩
      · have g4 : decide (n ≤ kk) = true := by simp; omega
        clear hkn hr
        go_enter Tryd.func7, Tryd.ntmps7
        go_wp2_with fail
        refine Calls.mono HAL.out ?_
        intro e w2 q
        have hq := q.out.1
        subst hq
        have HLw2 : Hid (Below w.heap.size w w2) := q.out.2
        clear q HAL
        have HRE1 : Hid (Calls Tryd.prog 13 #[.slice ao n cap] w2 fun e w' => RdP w2 w' ((n : Int)) (220) e) := codeRead_is (HB.out.below HLw2.out) (HT.out.below HLw2.out HT.out.1) (by have := HS.out; omega) (by have := HCC.out; omega) HR0.out
        go_wp2_with fail
        refine Calls.mono HRE1.out ?_
        intro e v1 q
        obtain ⟨a0, n0, c0, a1, n1, c1, mm, he⟩ := q.out
        obtain ⟨W1, hW1⟩ : ∃ W', W' = v1.alloc (.cells #[.slice a0 n0 c0, .slice a1 n1 c1, .int .i64 mm] 25) := ⟨_, rfl⟩
        have HLW1 : Hid (Below w.heap.size w W1) := by rw [hW1]; exact below_box (HLw2.out.trans (q.low.mono HLw2.out.size)) _
        subst he
        clear q HRE1
        go_upto_region 5 with fail
        rw [← hW1]
        clear hW1
        go_wp2_with (go_at_call 12; refine (HNU.out _ _).mono ?_; rintro e w9 ⟨rfl, rfl⟩)
        go_ret
        exact ⟨⟨rfl, HLW1.out⟩⟩
  | ok x =>
    have HR0 : Hid (rdNo B = 0 ∧ rdAt B = 0) := rd_ok hr
    by_cases hm0 : 0 < m
    · have HPA : Hid (rdNo (B ++ M) = 220 ∧ rdAt (B ++ M) = (n : Int)) := by
        have q := pl_b hr (M := M) (by have := HM.out.len; omega)
        rw [← HB.out.len] at q
        exact q
      have HPOS : Hid (0 < m) := hm0
      have g5 : decide (0 < m) = true := by simp; omega
      clear hm0
      by_cases hkn : kk < n
      · have g4 : decide (n ≤ kk) = false := by simp; omega
        have HKN : Hid (kk < n) := hkn
        have HCUT : Hid (rdNo (B.take kk) = 220 ∧ rdAt (B.take kk) = (kk : Int)) := pl_c (.inl ⟨x, hr⟩) (by have := HB.out.len; omega)
        obtain ⟨bb, oo, hao, -, -⟩ := HB.out.out (by omega)
        subst hao
        have hsl : ∀ W, (Instr.sliceAt 28 (.slice (some ⟨bb, oo, none⟩) n cap) none (some (.int .i64 (kk : Int))) none).run Tryd.prog W = .ok (.slice (some ⟨bb, oo, none⟩) kk cap) W := fun W => run_cutB bb oo n cap kk (by have := HCC.out; omega) W
        clear hkn hr
        go_enter Tryd.func7, Tryd.ntmps7
        go_wp2_with fail
        refine Calls.mono HAL.out ?_
        intro e w2 q
        have hq := q.out.1
        subst hq
        have HLw2 : Hid (Below w.heap.size w w2) := q.out.2
        clear q HAL
        have HRE1 : Hid (Calls Tryd.prog 13 #[.slice (some ⟨bb, oo, none⟩) n cap] w2 fun e w' => RdP w2 w' (0) (0) e) := codeRead_is (HB.out.below HLw2.out) (HT.out.below HLw2.out HT.out.1) (by have := HS.out; omega) (by have := HCC.out; omega) HR0.out
        go_wp2_with fail
        refine Calls.mono HRE1.out ?_
        intro e v1 q
        obtain ⟨a0, n0, c0, a1, n1, c1, mm, he⟩ := q.out
        obtain ⟨W1, hW1⟩ : ∃ W', W' = v1.alloc (.cells #[.slice a0 n0 c0, .slice a1 n1 c1, .int .i64 mm] 25) := ⟨_, rfl⟩
        have HLW1 : Hid (Below w.heap.size w W1) := by rw [hW1]; exact below_box (HLw2.out.trans (q.low.mono HLw2.out.size)) _
        subst he
        clear q HRE1
        go_upto_region 5 with fail
        rw [← hW1]
        clear hW1
        go_upto_region 17 with (go_at_call 12; refine (HNU.out _ _).mono ?_; rintro e w9 ⟨rfl, rfl⟩)
        go_wp2_with (first
          | (at_builtin
             refine wpList_append_bytes rfl _ _ rfl W1.heap.size (.slice none 0 0) [] rfl (Row.nil _ _ _ _) (some ⟨bb, oo, none⟩) n cap B rfl (HB.out.below HLW1.out) (by have := HS.out; simp only [List.length_nil]; omega) (Nat.le_refl _) ?_
             intro v3a w3a o1 g1
             have HO3a : Hid (Row w3a W1.heap.size 5 1 v3a (ubs B)) := o1
             have HG3a : Hid (Below W1.heap.size W1 w3a) := g1.bel
             clear o1 g1)
          | (at_builtin
             refine wpList_append_bytes rfl _ _ rfl W1.heap.size v3a B rfl HO3a.out mo m mc M rfl (HM.out.below (HLW1.out.trans (HG3a.out.mono HLW1.out.size))) (by have := HS.out; have := HB.out.len; omega) HG3a.out.size ?_
             intro v3b w3b o2 g2
             obtain ⟨g3, c3, hv3, hc13, hc23, hI3⟩ := iby_row o2 (by rw [List.length_append]; have := HB.out.len; have := HM.out.len; have := HPOS.out; omega) (fun x hx => (List.mem_append.1 hx).elim (HB.out.by_ x) (HM.out.by_ x))
             obtain ⟨N3, hN3⟩ : ∃ N, N = (B ++ M).length := ⟨_, rfl⟩
             rw [← hN3] at hv3 hc13 hI3
             have HN3 : Hid (N3 = (B ++ M).length) := hN3
             have HLw3b : Hid (Below w.heap.size w w3b) := HLW1.out.trans ((HG3a.out.trans g2.bel).mono HLW1.out.size)
             have HI3 : Hid (IBy w3b (some ⟨g3, 0, none⟩) N3 (B ++ M)) := hI3
             subst hv3
             clear o2 g2 hI3 HO3a hN3))
        have HRE4 : Hid (Calls Tryd.prog 13 #[.slice (some ⟨g3, 0, none⟩) N3 c3] w3b fun e w' => RdP w3b w' ((n : Int)) (220) e) := codeRead_is (HI3.out) (HT.out.below HLw3b.out HT.out.1) (by rw [HN3.out, List.length_append]; have := HS.out; have := HB.out.len; have := HM.out.len; omega) (⟨hc13, hc23⟩) HPA.out
        refine Calls.mono HRE4.out ?_
        intro e v4 q
        obtain ⟨a0, n0, c0, a1, n1, c1, mm, he⟩ := q.out
        obtain ⟨W4, hW4⟩ : ∃ W', W' = v4.alloc (.cells #[.slice a0 n0 c0, .slice a1 n1 c1, .int .i64 mm] 25) := ⟨_, rfl⟩
        have HLW4 : Hid (Below w.heap.size w W4) := by rw [hW4]; exact below_box (HLw3b.out.trans (q.low.mono HLw3b.out.size)) _
        subst he
        clear q HRE4
        go_upto_region 18 with fail
        rw [← hW4]
        clear hW4
        have HRE6 : Hid (Calls Tryd.prog 13 #[.slice (some ⟨bb, oo, none⟩) kk cap] W4 fun e w' => RdP W4 w' ((kk : Int)) (220) e) := codeRead_is ((HB.out.below HLW4.out).take (k := kk) (by have := HKN.out; omega)) (HT.out.below HLW4.out HT.out.1) (by have := HS.out; have := HKN.out; omega) (by have := HCC.out; have := HKN.out; omega) HCUT.out
        go_wp2_with (go_at_call 12; refine (HNU.out _ _).mono ?_; rintro e w9 ⟨rfl, rfl⟩)
        refine Calls.mono HRE6.out ?_
        intro e v6 q
        obtain ⟨a0, n0, c0, a1, n1, c1, mm, he⟩ := q.out
        obtain ⟨W6, hW6⟩ : ∃ W', W' = v6.alloc (.cells #[.slice a0 n0 c0, .slice a1 n1 c1, .int .i64 mm] 25) := ⟨_, rfl⟩
        have HLW6 : Hid (Below w.heap.size w W6) := by rw [hW6]; exact below_box (HLW4.out.trans (q.low.mono HLW4.out.size)) _
        subst he
        clear q HRE6
        go_upto_region 24 with (go_at_call 12; refine (HNU.out _ _).mono ?_; rintro e w9 ⟨rfl, rfl⟩)
        rw [← hW6]
        clear hW6
        go_wp2_with (go_at_call 12; refine (HNU.out _ _).mono ?_; rintro e w9 ⟨rfl, rfl⟩)
        go_ret
        exact ⟨⟨rfl, HLW6.out⟩⟩
      · have g4 : decide (n ≤ kk) = true := by simp; omega
        clear hkn hr
        go_enter Tryd.func7, Tryd.ntmps7
        go_wp2_with fail
        refine Calls.mono HAL.out ?_
        intro e w2 q
        have hq := q.out.1
        subst hq
        have HLw2 : Hid (Below w.heap.size w w2) := q.out.2
        clear q HAL
        have HRE1 : Hid (Calls Tryd.prog 13 #[.slice ao n cap] w2 fun e w' => RdP w2 w' (0) (0) e) := codeRead_is (HB.out.below HLw2.out) (HT.out.below HLw2.out HT.out.1) (by have := HS.out; omega) (by have := HCC.out; omega) HR0.out
        go_wp2_with fail
        refine Calls.mono HRE1.out ?_
        intro e v1 q
        obtain ⟨a0, n0, c0, a1, n1, c1, mm, he⟩ := q.out
        obtain ⟨W1, hW1⟩ : ∃ W', W' = v1.alloc (.cells #[.slice a0 n0 c0, .slice a1 n1 c1, .int .i64 mm] 25) := ⟨_, rfl⟩
        have HLW1 : Hid (Below w.heap.size w W1) := by rw [hW1]; exact below_box (HLw2.out.trans (q.low.mono HLw2.out.size)) _
        subst he
        clear q HRE1
        go_upto_region 5 with fail
        rw [← hW1]
        clear hW1
        go_upto_region 17 with (go_at_call 12; refine (HNU.out _ _).mono ?_; rintro e w9 ⟨rfl, rfl⟩)
        go_wp2_with (first
          | (at_builtin
             refine wpList_append_bytes rfl _ _ rfl W1.heap.size (.slice none 0 0) [] rfl (Row.nil _ _ _ _) ao n cap B rfl (HB.out.below HLW1.out) (by have := HS.out; simp only [List.length_nil]; omega) (Nat.le_refl _) ?_
             intro v3a w3a o1 g1
             have HO3a : Hid (Row w3a W1.heap.size 5 1 v3a (ubs B)) := o1
             have HG3a : Hid (Below W1.heap.size W1 w3a) := g1.bel
             clear o1 g1)
          | (at_builtin
             refine wpList_append_bytes rfl _ _ rfl W1.heap.size v3a B rfl HO3a.out mo m mc M rfl (HM.out.below (HLW1.out.trans (HG3a.out.mono HLW1.out.size))) (by have := HS.out; have := HB.out.len; omega) HG3a.out.size ?_
             intro v3b w3b o2 g2
             obtain ⟨g3, c3, hv3, hc13, hc23, hI3⟩ := iby_row o2 (by rw [List.length_append]; have := HB.out.len; have := HM.out.len; have := HPOS.out; omega) (fun x hx => (List.mem_append.1 hx).elim (HB.out.by_ x) (HM.out.by_ x))
             obtain ⟨N3, hN3⟩ : ∃ N, N = (B ++ M).length := ⟨_, rfl⟩
             rw [← hN3] at hv3 hc13 hI3
             have HN3 : Hid (N3 = (B ++ M).length) := hN3
             have HLw3b : Hid (Below w.heap.size w w3b) := HLW1.out.trans ((HG3a.out.trans g2.bel).mono HLW1.out.size)
             have HI3 : Hid (IBy w3b (some ⟨g3, 0, none⟩) N3 (B ++ M)) := hI3
             subst hv3
             clear o2 g2 hI3 HO3a hN3))
        have HRE4 : Hid (Calls Tryd.prog 13 #[.slice (some ⟨g3, 0, none⟩) N3 c3] w3b fun e w' => RdP w3b w' ((n : Int)) (220) e) := codeRead_is (HI3.out) (HT.out.below HLw3b.out HT.out.1) (by rw [HN3.out, List.length_append]; have := HS.out; have := HB.out.len; have := HM.out.len; omega) (⟨hc13, hc23⟩) HPA.out
        refine Calls.mono HRE4.out ?_
        intro e v4 q
        obtain ⟨a0, n0, c0, a1, n1, c1, mm, he⟩ := q.out
        obtain ⟨W4, hW4⟩ : ∃ W', W' = v4.alloc (.cells #[.slice a0 n0 c0, .slice a1 n1 c1, .int .i64 mm] 25) := ⟨_, rfl⟩
        have HLW4 : Hid (Below w.heap.size w W4) := by rw [hW4]; exact below_box (HLw3b.out.trans (q.low.mono HLw3b.out.size)) _
        subst he
        clear q HRE4
        go_upto_region 18 with fail
        rw [← hW4]
        clear hW4
        go_wp2_with (go_at_call 12; refine (HNU.out _ _).mono ?_; rintro e w9 ⟨rfl, rfl⟩)
        go_ret
        exact ⟨⟨rfl, HLW4.out⟩⟩
    · have hm1 : m = 0 := by omega
      have g5 : decide (0 < m) = false := by simp; omega
      clear hm0 hm1
      by_cases hkn : kk < n
      · have g4 : decide (n ≤ kk) = false := by simp; omega
        have HKN : Hid (kk < n) := hkn
        have HCUT : Hid (rdNo (B.take kk) = 220 ∧ rdAt (B.take kk) = (kk : Int)) := pl_c (.inl ⟨x, hr⟩) (by have := HB.out.len; omega)
        obtain ⟨bb, oo, hao, -, -⟩ := HB.out.out (by omega)
        subst hao
        have hsl : ∀ W, (Instr.sliceAt 28 (.slice (some ⟨bb, oo, none⟩) n cap) none (some (.int .i64 (kk : Int))) none).run Tryd.prog W = .ok (.slice (some ⟨bb, oo, none⟩) kk cap) W := fun W => run_cutB bb oo n cap kk (by have := HCC.out; omega) W
        clear hkn hr
        go_enter Tryd.func7, Tryd.ntmps7
        go_wp2_with fail
        refine Calls.mono HAL.out ?_
        intro e w2 q
        have hq := q.out.1
        subst hq
        have HLw2 : Hid (Below w.heap.size w w2) := q.out.2
        clear q HAL
        have HRE1 : Hid (Calls Tryd.prog 13 #[.slice (some ⟨bb, oo, none⟩) n cap] w2 fun e w' => RdP w2 w' (0) (0) e) := codeRead_is (HB.out.below HLw2.out) (HT.out.below HLw2.out HT.out.1) (by have := HS.out; omega) (by have := HCC.out; omega) HR0.out
        go_wp2_with fail
        refine Calls.mono HRE1.out ?_
        intro e v1 q
        obtain ⟨a0, n0, c0, a1, n1, c1, mm, he⟩ := q.out
        obtain ⟨W1, hW1⟩ : ∃ W', W' = v1.alloc (.cells #[.slice a0 n0 c0, .slice a1 n1 c1, .int .i64 mm] 25) := ⟨_, rfl⟩
        have HLW1 : Hid (Below w.heap.size w W1) := by rw [hW1]; exact below_box (HLw2.out.trans (q.low.mono HLw2.out.size)) _
        subst he
        clear q HRE1
        go_upto_region 5 with fail
        rw [← hW1]
        clear hW1
        have HRE6 : Hid (Calls Tryd.prog 13 #[.slice (some ⟨bb, oo, none⟩) kk cap] W1 fun e w' => RdP W1 w' ((kk : Int)) (220) e) := codeRead_is ((HB.out.below HLW1.out).take (k := kk) (by have := HKN.out; omega)) (HT.out.below HLW1.out HT.out.1) (by have := HS.out; have := HKN.out; omega) (by have := HCC.out; have := HKN.out; omega) HCUT.out
        go_wp2_with (go_at_call 12; refine (HNU.out _ _).mono ?_; rintro e w9 ⟨rfl, rfl⟩)
        refine Calls.mono HRE6.out ?_
        intro e v6 q
        obtain ⟨a0, n0, c0, a1, n1, c1, mm, he⟩ := q.out
        obtain ⟨W6, hW6⟩ : ∃ W', W' = v6.alloc (.cells #[.slice a0 n0 c0, .slice a1 n1 c1, .int .i64 mm] 25) := ⟨_, rfl⟩
        have HLW6 : Hid (Below w.heap.size w W6) := by rw [hW6]; exact below_box (HLW1.out.trans (q.low.mono HLW1.out.size)) _
        subst he
        clear q HRE6
        go_upto_region 24 with (go_at_call 12; refine (HNU.out _ _).mono ?_; rintro e w9 ⟨rfl, rfl⟩)
        rw [← hW6]
        clear hW6
        go_wp2_with (go_at_call 12; refine (HNU.out _ _).mono ?_; rintro e w9 ⟨rfl, rfl⟩)
        go_ret
        exact ⟨⟨rfl, HLW6.out⟩⟩
      · have g4 : decide (n ≤ kk) = true := by simp; omega
        clear hkn hr
        go_enter Tryd.func7, Tryd.ntmps7
        go_wp2_with fail
        refine Calls.mono HAL.out ?_
        intro e w2 q
        have hq := q.out.1
        subst hq
        have HLw2 : Hid (Below w.heap.size w w2) := q.out.2
        clear q HAL
        have HRE1 : Hid (Calls Tryd.prog 13 #[.slice ao n cap] w2 fun e w' => RdP w2 w' (0) (0) e) := codeRead_is (HB.out.below HLw2.out) (HT.out.below HLw2.out HT.out.1) (by have := HS.out; omega) (by have := HCC.out; omega) HR0.out
        go_wp2_with fail
        refine Calls.mono HRE1.out ?_
        intro e v1 q
        obtain ⟨a0, n0, c0, a1, n1, c1, mm, he⟩ := q.out
        obtain ⟨W1, hW1⟩ : ∃ W', W' = v1.alloc (.cells #[.slice a0 n0 c0, .slice a1 n1 c1, .int .i64 mm] 25) := ⟨_, rfl⟩
        have HLW1 : Hid (Below w.heap.size w W1) := by rw [hW1]; exact below_box (HLw2.out.trans (q.low.mono HLw2.out.size)) _
        subst he
        clear q HRE1
        go_upto_region 5 with fail
        rw [← hW1]
        clear hW1
        go_wp2_with (go_at_call 12; refine (HNU.out _ _).mono ?_; rintro e w9 ⟨rfl, rfl⟩)
        go_ret
        exact ⟨⟨rfl, HLW1.out⟩⟩
end Go.Proofs.YtjiaedckecfjbaaDoor
namespace Go.Proofs.YtjiaedckecfjbaaDoor
open Go.ChangeShapes Go.WideShapes Go.ChangeAt Go.RowKit Go.Maps Go.WideMaps

/-- Bytes of one number that agree in the first i. -/
structure Agr (i : Nat) (B B' : List Int) : Prop where
  len : B'.length = B.length
  lt : i < B.length
  eq : B'.take i = B.take i
/-- What is read from s on of bytes (r') against others that agree in the first i (r). -/
structure Fl {X : Type} (i n s : Nat) (en : X → Nat) (r r' : Except Nat X) : Prop where
  ok : ∀ x, r' = .ok x → s ≤ en x ∧ en x ≤ n ∧ (en x ≤ i → r = .ok x)
  err : ∀ p, r' = .error p → s ≤ p ∧ (p + 64 ≤ i → r = .error p)
theorem Fl.thn {X Y : Type} {i n s : Nat} {e1 : X → Nat} {e2 : Y → Nat} {r r' : Except Nat X} {f f' : X → Except Nat Y} (h : Fl i n s e1 r r') (hf : ∀ x, r' = .ok x → e1 x ≤ n → Fl i n (e1 x) e2 (f x) (f' x)) : Fl i n s e2 (thn r f) (thn r' f') := by
  cases h1 : r' with
  | error p =>
    obtain ⟨a, b⟩ := h.err p h1
    exact ⟨fun x hx => (by cases hx), fun q hq => (by cases hq; exact ⟨a, fun hp => (by rw [b hp]; rfl)⟩)⟩
  | ok x =>
    obtain ⟨a, b, c⟩ := h.ok x h1
    have g := hf x h1 b
    refine ⟨fun y hy => ?_, fun p hp => ?_⟩
    · obtain ⟨a2, b2, c2⟩ := g.ok y hy
      exact ⟨by omega, b2, fun q => by rw [c (by omega)]; exact c2 q⟩
    · obtain ⟨a2, b2⟩ := g.err p hp
      exact ⟨by omega, fun q => by rw [c (by omega)]; exact b2 q⟩
theorem Fl.ret {X : Type} {i n s : Nat} {en : X → Nat} {x : X} (h : en x = s) (hs : s ≤ n) : Fl i n s en (.ok x) (.ok x) :=
  ⟨fun y hy => (by cases hy; exact ⟨by omega, by omega, fun _ => rfl⟩), fun p hp => (by cases hp)⟩
theorem Agr.fld {i : Nat} {B B' : List Int} (h : Agr i B B') {next k : Nat} (hk : next + k ≤ i) : fldB B' next k = fldB B next k := by
  rw [← fldB_take B' hk, ← fldB_take B hk, h.eq]
theorem rdN_fl {i : Nat} {B B' : List Int} (h : Agr i B B') {k : Nat} (hk : k ≤ 64) (l m : Int) (next : Nat) (hn : next ≤ B.length) : Fl i B.length next (fun _ => next + k) (rdN B k l m next) (rdN B' k l m next) := by
  have hl := h.lt
  have hv : next + k ≤ i → fldV B' next k = fldV B next k := fun q => by unfold fldV; rw [h.fld q]
  unfold rdN
  rw [h.len]
  by_cases h1 : B.length < next + k
  · rw [if_pos h1, if_pos h1]
    exact ⟨fun x hx => (by cases hx), fun p hp => (by cases hp; exact ⟨hn, fun q => by omega⟩)⟩
  · rw [if_neg h1, if_neg h1]
    refine ⟨fun x hx => ?_, fun p hp => ?_⟩
    · refine ⟨by omega, by omega, fun q => ?_⟩
      rw [← hv q]
      exact hx
    · have e : p = next := by
        split at hp
        · cases hp
        · cases hp; rfl
      subst e
      refine ⟨Nat.le_refl _, fun q => ?_⟩
      rw [← hv (by omega)]
      exact hp
theorem rdOp_fl {i : Nat} {B B' : List Int} (h : Agr i B B') (last : Bool) (next : Nat) (hn : next ≤ B.length) : Fl i B.length next (fun _ => next + 1) (rdOp B last next) (rdOp B' last next) := by
  have hl := h.lt
  have hv : next + 1 ≤ i → fldV B' next 1 = fldV B next 1 := fun q => by unfold fldV; rw [h.fld q]
  unfold rdOp
  rw [h.len]
  by_cases h1 : B.length < next + 1
  · rw [if_pos h1, if_pos h1]
    exact ⟨fun x hx => (by cases hx), fun p hp => (by cases hp; exact ⟨hn, fun q => by omega⟩)⟩
  · rw [if_neg h1, if_neg h1]
    refine ⟨fun x hx => ?_, fun p hp => ?_⟩
    · refine ⟨by omega, by omega, fun q => ?_⟩
      rw [← hv q]
      exact hx
    · have e : p = next := by
        split at hp
        · cases hp
        · cases hp; rfl
      subst e
      refine ⟨Nat.le_refl _, fun q => ?_⟩
      rw [← hv (by omega)]
      exact hp
theorem rdMk_fl {i : Nat} {B B' : List Int} (h : Agr i B B') : ∀ (L : List Int) (next : Nat), next ≤ B.length → Fl i B.length next (fun q => q) (rdMk B L next) (rdMk B' L next)
  | [], next, hn => Fl.ret rfl hn
  | m :: L, next, hn => by
    rw [rdMk_thn, rdMk_thn]
    exact (rdN_fl h (by omega) m m next hn).thn fun _ _ q => rdMk_fl h L (next + 1) q
theorem rdNm_fl {i : Nat} {B B' : List Int} (h : Agr i B B') (M : List (List UInt8)) (next : Nat) (hn : next ≤ B.length) : Fl i B.length next (fun T => next + 1 + T.length) (rdNm B M next) (rdNm B' M next) := by
  rw [rdNm_thn, rdNm_thn]
  refine (rdN_fl h (k := 1) (by omega) 1 64 next hn).thn fun k hk hq => ?_
  have hk1 := rdN_range hk
  have hl := h.lt
  rw [h.len]
  by_cases h1 : B.length < next + 1 + k.toNat
  · rw [if_pos h1, if_pos h1]
    exact ⟨fun x hx => (by cases hx), fun p hp => (by cases hp; exact ⟨hq, fun q => by omega⟩)⟩
  · rw [if_neg h1, if_neg h1]
    have hT : ∀ C : List Int, C.length = B.length → (fldT C (next + 1) k.toNat).length = k.toNat := fun C hC => by
      unfold fldT
      rw [List.length_map]
      exact fldB_len C (by omega)
    have hv : next + 1 + k.toNat ≤ i → fldT B' (next + 1) k.toNat = fldT B (next + 1) k.toNat := fun q => by unfold fldT; rw [h.fld q]
    refine ⟨fun x hx => ?_, fun p hp => ?_⟩
    · have e : x = fldT B' (next + 1) k.toNat := by
        split at hx
        · cases hx; rfl
        · cases hx
      have := hT B' h.len
      refine ⟨by omega, by rw [e]; omega, fun q => ?_⟩
      rw [e, this] at q
      rw [← hv q]
      exact hx
    · have e : p = next + 1 := by
        split at hp
        · cases hp
        · cases hp; rfl
      subst e
      refine ⟨Nat.le_refl _, fun q => ?_⟩
      rw [← hv (by omega)]
      exact hp
theorem rdFn_fl {i : Nat} {B B' : List Int} (h : Agr i B B') (M : List (List UInt8)) (params : Int) (next : Nat) (hn : next ≤ B.length) : Fl i B.length next (fun x => next + 1 + x.1.length + 8 + 4 + 1) (rdFn B M params next) (rdFn B' M params next) := by
  rw [rdFn_thn, rdFn_thn]
  exact (rdNm_fl h M next hn).thn fun T _ q1 => (rdN_fl h (by omega) _ _ _ q1).thn fun fr _ q2 => (rdN_fl h (by omega) _ _ _ q2).thn fun ct _ q3 => (rdN_fl h (by omega) _ _ _ q3).thn fun pa _ q4 => Fl.ret rfl q4
theorem rdFns_fl {i : Nat} {B B' : List Int} (h : Agr i B B') (main : Int) : ∀ (m : Nat) (j first : Int) (A : List Rf) (next : Nat), next ≤ B.length → Fl i B.length next (fun x => x.2) (rdFns B main m j first A next) (rdFns B' main m j first A next)
  | 0, j, first, A, next, hn => Fl.ret rfl hn
  | m + 1, j, first, A, next, hn => by
    have e : ∀ B, rdFns B main (m + 1) j first A next = thn (rdFn B (A.map fun f : Rf => nml f.name) (if j = main then 0 else 8) next) fun x => rdFns B main m (j + 1) (first + x.2.2.1) (A ++ [⟨bs x.1, x.2.1, first, x.2.2.1, x.2.2.2⟩]) (next + 1 + x.1.length + 8 + 4 + 1) := fun B => by
      simp only [rdFns, thn]
      split <;> simp_all
    rw [e, e]
    exact (rdFn_fl h _ _ next hn).thn fun x _ q => rdFns_fl h main m _ _ _ _ q
theorem rdRg_fl {i : Nat} {B B' : List Int} (h : Agr i B B') : ∀ (m next : Nat), next ≤ B.length → Fl i B.length next (fun _ => next + m) (rdRg B m next) (rdRg B' m next)
  | 0, next, hn => Fl.ret rfl hn
  | m + 1, next, hn => by
    have e : ∀ B, rdRg B (m + 1) next = thn (rdN B 1 0 15 next) fun r => thn (rdRg B m (next + 1)) fun L => .ok (r :: L) := fun B => by
      simp only [rdRg]
      cases rdN B 1 0 15 next with
      | error p => rfl
      | ok r =>
        simp only [thn]
        cases rdRg B m (next + 1) <;> rfl
    rw [e, e]
    exact (rdN_fl h (by omega) _ _ _ hn).thn fun r _ q => (rdRg_fl h m (next + 1) q).thn fun L _ q2 => Fl.ret (by omega) q2
/-- An instruction, with the place behind it. -/
theorem rdIn_thn (B : List Int) (f : Rf) (k : Int) (last : Bool) (next : Nat) : rdIn B f k last next = thn (rdOp B last next) fun op => thn (rdRg B (rcnt op).toNat (next + 1)) fun L => if hasNC op = true then
        thn (rdN B 8 (loN op f.fi) (hiN op f.fr f.fi f.ct k) (next + 1 + (rcnt op).toNat)) fun v => .ok (⟨op, L.getD 0 0, L.getD 1 0, L.getD 2 0, v⟩, next + 1 + (rcnt op).toNat + 8)
      else .ok (⟨op, L.getD 0 0, L.getD 1 0, L.getD 2 0, 0⟩, next + 1 + (rcnt op).toNat) := by
  simp only [rdIn]
  cases rdOp B last next with
  | error p => rfl
  | ok op =>
    simp only [thn]
    cases rdRg B (rcnt op).toNat (next + 1) with
    | error p => rfl
    | ok L =>
      simp only []
      by_cases h : hasNC op = true
      · rw [if_pos h, if_pos h]
        cases rdN B 8 (loN op f.fi) (hiN op f.fr f.fi f.ct k) (next + 1 + (rcnt op).toNat) <;> rfl
      · rw [if_neg h, if_neg h]
theorem rdIn_fl {i : Nat} {B B' : List Int} (h : Agr i B B') (f : Rf) (k : Int) (last : Bool) (next : Nat) (hn : next ≤ B.length) : Fl i B.length next (fun x => x.2) (rdIn B f k last next) (rdIn B' f k last next) := by
  rw [rdIn_thn, rdIn_thn]
  refine (rdOp_fl h last next hn).thn fun op _ q1 => (rdRg_fl h _ _ q1).thn fun L _ q2 => ?_
  by_cases hh : hasNC op = true
  · rw [if_pos hh, if_pos hh]
    exact (rdN_fl h (by omega) _ _ _ q2).thn fun v _ q3 => Fl.ret rfl q3
  · rw [if_neg hh, if_neg hh]
    exact Fl.ret rfl q2
theorem rdIns1_fl {i : Nat} {B B' : List Int} (h : Agr i B B') (f : Rf) (k : Int) : ∀ (m next : Nat), next ≤ B.length → Fl i B.length next (fun x => x.2) (rdIns1 B f k m next) (rdIns1 B' f k m next)
  | 0, next, hn => Fl.ret rfl hn
  | m + 1, next, hn => by
    have e : ∀ B, rdIns1 B f k (m + 1) next = thn (rdIn B f k (decide (m = 0)) next) fun x => thn (rdIns1 B f k m x.2) fun y => .ok (x.1 :: y.1, y.2) := fun B => by
      simp only [rdIns1]
      cases rdIn B f k (decide (m = 0)) next with
      | error p => rfl
      | ok x =>
        simp only [thn]
        cases rdIns1 B f k m x.2 <;> rfl
    rw [e, e]
    exact (rdIn_fl h f k _ next hn).thn fun x _ q => (rdIns1_fl h f k m _ q).thn fun y _ q2 => Fl.ret rfl q2
theorem rdIns_fl {i : Nat} {B B' : List Int} (h : Agr i B B') (k : Int) : ∀ (FS : List Rf) (next : Nat), next ≤ B.length → Fl i B.length next (fun x => x.2) (rdIns B k FS next) (rdIns B' k FS next)
  | [], next, hn => Fl.ret rfl hn
  | f :: FS, next, hn => by
    have e : ∀ B, rdIns B k (f :: FS) next = thn (rdIns1 B f k f.ct.toNat next) fun x => thn (rdIns B k FS x.2) fun y => .ok (x.1 ++ y.1, y.2) := fun B => by
      simp only [rdIns]
      cases rdIns1 B f k f.ct.toNat next with
      | error p => rfl
      | ok x =>
        simp only [thn]
        cases rdIns B k FS x.2 <;> rfl
    rw [e, e]
    exact (rdIns1_fl h f k _ next hn).thn fun x _ q => (rdIns_fl h k FS _ q).thn fun y _ q2 => Fl.ret rfl q2
theorem rdAll_fl {i : Nat} {B B' : List Int} (h : Agr i B B') : Fl i B.length 0 (fun x => x.2) (rdAll B) (rdAll B') := by
  unfold rdAll
  exact (rdMk_fl h _ _ (Nat.zero_le _)).thn fun q _ q1 => (rdN_fl h (by omega) _ _ _ q1).thn fun count _ q2 => (rdN_fl h (by omega) _ _ _ q2).thn fun main _ q3 => (rdFns_fl h _ _ _ _ _ _ q3).thn fun x _ q4 => (rdIns_fl h _ _ _ q4).thn fun y _ q5 => Fl.ret rfl q5
/-- A byte was turned: where these bytes were code, no fault is told 64 bytes ahead of it. -/
theorem rdCode_flip {i : Nat} {B B' : List Int} (h : Agr i B B') {x : Int × List Rf × List Ri} (hx : rdCode B = .ok x) {p : Nat} (hp : rdCode B' = .error p) : i < p + 64 := by
  rcases Nat.lt_or_ge i (p + 64) with q | q
  · exact q
  · exfalso
    have H := rdAll_fl h
    have hl := h.lt
    rw [rdCode_all] at hx hp
    cases h1 : rdAll B' with
    | error r =>
      rw [h1] at hp
      cases hp
      rw [(H.err _ h1).2 q] at hx
      cases hx
    | ok y =>
      rw [h1] at hp
      simp only [thn] at hp
      split at hp
      · cases hp
      · next e =>
        cases hp
        rw [(H.ok y h1).2.2 (by omega)] at hx
        simp only [thn] at hx
        rw [if_neg (show ¬ y.2 = B.length by omega)] at hx
        cases hx
end Go.Proofs.YtjiaedckecfjbaaDoor
namespace Go.Proofs.YtjiaedckecfjbaaDoor
open Go.ChangeShapes Go.WideShapes Go.ChangeAt Go.RowKit Go.Maps Go.WideMaps

theorem u8s_setF (B : List Int) (i : Nat) (t : Int) : (u8s B).setIfInBounds i (.int .u8 t) = u8s (B.set i t) := by
  unfold u8s
  rw [List.setIfInBounds_toArray, List.map_set]
theorem agr_set {B : List Int} {i : Nat} (h : i < B.length) (t : Int) : Agr i B (B.set i t) :=
  ⟨by simp, h, by rw [List.take_set_of_le (Nat.le_refl i)]⟩
set_option maxRecDepth 100000 in
set_option maxHeartbeats 16000000 in
theorem codeFlip_any (w : World) (hTab : Tab w) (ca : Option Addr) (cc : Nat) (C : List Ri) (fa : Option Addr) (fc : Nat) (FS : List Rf) (m : Int) (hC : StsG w ca cc 5 (C.map riv)) (hCl : C.length ≤ 140737488351232) (hCn : ∀ x ∈ C, ReI x) (hF : StsG w fa fc 5 (FS.map rfv)) (hFl : FS.length ≤ 140737488351232) (hFn : ∀ f ∈ FS, ReR f) (hm : Fits m) (at_ : Int) (t : Int) (ht : 0 ≤ t ∧ t < 256) :
    Calls Tryd.prog 8 #[.agg #[.slice ca C.length cc, .slice fa FS.length fc, .int .i64 m], .int .i64 at_, .int .u8 t] w fun e w' => SamP w w' true e := by
  have HTT : Hid (0 ≤ t ∧ t < 256) := ht
  clear ht
  have HT : Hid (Tab w) := hTab
  have HN : Hid ((∀ x ∈ C, ReI x) ∧ (∀ f ∈ FS, ReR f) ∧ Fits m) := ⟨hCn, hFn, hm⟩
  obtain ⟨p, hp⟩ : ∃ p, p = w.heap.size := ⟨_, rfl⟩
  obtain ⟨cn, hcn⟩ : ∃ cn, cn = C.length := ⟨_, rfl⟩
  obtain ⟨fn, hfn⟩ : ∃ fn, fn = FS.length := ⟨_, rfl⟩
  have HL : Hid (cn = C.length ∧ fn = FS.length) := ⟨hcn, hfn⟩
  obtain ⟨W1, hW1⟩ : ∃ W1, W1 = w.alloc (.cells #[.slice ca cn cc, .slice fa fn fc, .int .i64 m] 25) := ⟨_, rfl⟩
  have HS1 : Hid (BkS w W1 p ca cc fa fc m C FS) := by
    have b : Below w.heap.size w W1 := by rw [hW1]; exact below_newX _ _
    exact ⟨by rw [hW1, hp, ← hcn, ← hfn]; exact heap_alloc_new _ _, hC.below b (Nat.le_refl _), hF.below b (Nat.le_refl _), b⟩
  have HFI : Hid (Calls Tryd.prog 9 #[.agg #[.slice ca cn cc, .slice fa fn fc, .int .i64 m]] W1 fun e w' => FitP W1 w' cn fn e) := fitsC_any W1 ca cn cc fa fn fc m FS hfn HS1.out.f (by omega) (by omega) (fun f hf => (hFn f hf).1)
  have HNU : Hid (∀ W x, Calls Tryd.prog 12 #[.int .i64 x] W fun e w' => e = .returned (.int .i64 x) ∧ W = w') := fun W x => (num_any W x).mono fun e w' h => ⟨h.1, h.2.symm⟩
  rw [← hcn, ← hfn]
  have z0 : W1.cell? ⟨p, 0, none⟩ = some (.slice ca cn cc) := by rw [hcn]; exact cell_arr HS1.out.bx rfl
  have z1 : W1.cell? ⟨p, 1, none⟩ = some (.slice fa fn fc) := by rw [hfn]; exact cell_arr HS1.out.bx rfl
  have z2 : W1.cell? ⟨p, 2, none⟩ = some (.int .i64 m) := cell_arr HS1.out.bx rfl
  have lp := (Array.getElem?_eq_some_iff.1 HS1.out.bx).1
  clear hTab hC hCl hCn hF hFl hFn hm hcn hfn
  go_enter Tryd.func8, Tryd.ntmps8
  go_upto_region 1 with fail
  rw [← hW1, ← hp]
  clear hW1 hp
  go_wp2_with fail
  refine Calls.mono HFI.out ?_
  intro e w2 q
  obtain ⟨T, rfl, hT, b2⟩ := q.out
  have HS2 : Hid (BkS w w2 p ca cc fa fc m C FS) := HS1.out.keep b2
  clear q b2 HFI HS1 z0 z1 z2 lp
  cases T with
  | false =>
    go_wp2_with fail
    go_ret
    exact ⟨⟨rfl, HS2.out.low⟩⟩
  | true =>
    have HSZ : Hid (cn ≤ 50000 ∧ fn ≤ 1000) := hT rfl
    clear hT
    have HAL : Hid (Calls Tryd.prog 10 #[] w2 fun e w' => SamP w2 w' true e) := aliveC_any w2 (HT.out.below HS2.out.low HT.out.1)
    go_wp2_with fail
    refine Calls.mono HAL.out ?_
    intro e w3 q
    have hq := q.out.1
    subst hq
    have HS3 : Hid (BkS w w3 p ca cc fa fc m C FS) := HS2.out.keep q.out.2
    clear q HAL HS2
    have z0 : w3.cell? ⟨p, 0, none⟩ = some (.slice ca cn cc) := by rw [HL.out.1]; exact cell_arr HS3.out.bx rfl
    have z1 : w3.cell? ⟨p, 1, none⟩ = some (.slice fa fn fc) := by rw [HL.out.2]; exact cell_arr HS3.out.bx rfl
    have z2 : w3.cell? ⟨p, 2, none⟩ = some (.int .i64 m) := cell_arr HS3.out.bx rfl
    have lp := (Array.getElem?_eq_some_iff.1 HS3.out.bx).1
    have HWR : Hid (Calls Tryd.prog 11 #[.agg #[.slice ca cn cc, .slice fa fn fc, .int .i64 m]] w3 fun e w' => WrA w3 w' C FS m e) := write_any w3 (HT.out.below HS3.out.low HT.out.1) ca cn cc fa fn fc m C FS HL.out.1 HL.out.2 HS3.out.c HS3.out.f (by have := HSZ.out; omega) (by have := HSZ.out; omega) (fr_of HN.out.1 HN.out.2.1 HN.out.2.2)
    go_wp2_with fail
    refine Calls.mono HWR.out ?_
    intro e w4 q
    have HS4 : Hid (BkS w w4 p ca cc fa fc m C FS) := HS3.out.keep q.low
    cases hfo : formR C FS m with
    | false =>
      have he := q.bad hfo
      subst he
      clear q HWR HS3 z0 z1 z2 lp
      go_wp2_with (go_at_call 12; refine (HNU.out _ _).mono ?_; rintro e w9 ⟨rfl, rfl⟩)
      go_ret
      exact ⟨⟨rfl, HS4.out.low⟩⟩
    | true =>
      have hsz := bulk_small hfo HSZ.out HL.out
      obtain ⟨b, he, hb, hlo⟩ := q.ok hfo hsz
      have HBB : Hid (w4.heap[b]? = some (.cells (u8s (wrC C FS m)) 5 (0, 0))) := hb
      have HFO : Hid (formR C FS m = true ∧ szC C FS ≤ 268435456) := ⟨hfo, hsz⟩
      obtain ⟨N, hN⟩ : ∃ N, N = szC C FS := ⟨_, rfl⟩
      rw [← hN] at he
      have HNN : Hid (N = szC C FS) := hN
      subst he
      have HLO : Hid (w3.heap.size ≤ b) := hlo
      have HLW4 : Hid (Below w3.heap.size w3 w4) := q.low
      clear q HWR z0 z1 z2 lp hb hlo hfo hsz hN
      have HCF : Hid (0 < C.length ∧ 0 < FS.length) := form_some HFO.out.1
      have HNB : Hid (N = (wrC C FS m).length) := by
        show N = _
        rw [HNN.out, wrC_len]
      have HNP : Hid (0 < N ∧ N ≤ 268435456) := by
        have := HNN.out
        have := HFO.out.2
        have : 12 ≤ szC C FS := by unfold szC; omega
        show _ ∧ _
        omega
      have HRB : Hid (rdCode (wrC C FS m) = .ok (m, FS, C)) := rdCode_wr HFO.out.1 (fun x hx => (HN.out.1 x hx).2.2.2.2) (by have := HSZ.out; have := HL.out; omega) (by have := HSZ.out; have := HL.out; omega)
      have hN1 : N ≤ 268435456 := HNP.out.2
      have hN0 : ¬ ((N : Int) = 0) := by have := HNP.out.1; omega
      have hN2 : ¬ (N = 0) := by have := HNP.out.1; omega
      obtain ⟨tt, htt⟩ : ∃ tt, at_.tmod (N : Int) = tt := ⟨_, rfl⟩
      have hb1 : tt < (N : Int) ∧ -(N : Int) < tt := by
        have h1 := Int.natAbs_tmod at_ (N : Int)
        have h2 : at_.natAbs % (N : Int).natAbs < (N : Int).natAbs := Nat.mod_lt _ (by omega)
        rw [htt] at h1
        omega
      by_cases hneg : tt < 0
      · have hdum := trivial
        obtain ⟨ii, hii⟩ : ∃ ii : Nat, tt + (N : Int) = (ii : Int) := ⟨(tt + (N : Int)).toNat, by omega⟩
        have hd : decide (tt < 0) = true := by simp; omega
        have hiN : ii < N := by omega
        clear hneg hb1
        have HIN : Hid (ii < N) := hiN
        obtain ⟨x, hx⟩ : ∃ x, (wrC C FS m)[ii]? = some x := ⟨_, List.getElem?_eq_getElem (by have := HNB.out; omega)⟩
        have zi : w4.cell? ⟨b, ii, none⟩ = some (.int .u8 x) := cell_arr HBB.out (by unfold u8s; simp [hx])
        have zf : w4.frozen? ⟨b, ii, none⟩ = false := fz_of HBB.out
        have zl := (Array.getElem?_eq_some_iff.1 HBB.out).1
        have HX : Hid ((wrC C FS m)[ii]? = some x) := hx
        clear hx
        by_cases hxt : x = t
        · subst hxt
          go_wp2_with (go_at_call 12; refine (HNU.out _ _).mono ?_; rintro e w9 ⟨rfl, rfl⟩)
          go_ret
          exact ⟨⟨rfl, HS4.out.low⟩⟩
        have hd2 : decide (x = t) = false := by simp [hxt]
        have hd3 : (x == t) = false := by simp [hxt]
        have HXT : Hid (¬ x = t) := hxt
        obtain ⟨W5, hW5⟩ : ∃ W, W = w4.setCell ⟨b, ii, none⟩ (.int .u8 t) := ⟨_, rfl⟩
        have HB5 : Hid (W5.heap[b]? = some (.cells (u8s ((wrC C FS m).set ii t)) 5 (0, 0))) := by
          have q := heap_set_at (i := ii) (v := .int .u8 t) HBB.out
          rw [u8s_setF] at q
          rw [hW5]
          exact q
        have HLW5 : Hid (Below w3.heap.size w3 W5) := by rw [hW5]; exact HLW4.out.setCell (p := ⟨b, ii, none⟩) HLO.out _
        have HS5 : Hid (BkS w W5 p ca cc fa fc m C FS) := HS3.out.keep HLW5.out
        have HBY : Hid (∀ x ∈ (wrC C FS m).set ii t, 0 ≤ x ∧ x < 256) := fun y hy => (List.mem_or_eq_of_mem_set hy).elim (fun q => wrC_in y q) (fun q => by rw [q]; exact HTT.out)
        have HRE : Hid (Calls Tryd.prog 13 #[.slice (some ⟨b, 0, none⟩) N N] W5 fun e w' => ReadP W5 w' N ((wrC C FS m).set ii t) e) := by
          have q := iby_exact HB5.out HBY.out
          rw [List.length_set, ← HNB.out] at q
          exact rRead_any q (HT.out.below HS5.out.low HT.out.1) ⟨Nat.le_refl _, by have := HNP.out.2; omega, by have := HNP.out.2; omega⟩
        clear hxt
        go_upto_region 13 with (go_at_call 12; refine (HNU.out _ _).mono ?_; rintro e w9 ⟨rfl, rfl⟩)
        rw [← hW5]
        clear hW5 zi zf zl
        cases hr : rdCode ((wrC C FS m).set ii t) with
        | error q =>
          have HQ : Hid (q ≤ N ∧ ii < q + 64) := by
            have q1 := rdCode_err hr
            rw [List.length_set, ← HNB.out] at q1
            exact ⟨q1, rdCode_flip (agr_set (by have := HNB.out; omega) t) HRB.out hr⟩
          have HRP : Hid (∀ w' e, ReadP W5 w' N ((wrC C FS m).set ii t) e → e = .returned (.tuple #[.agg #[.slice none 0 0, .slice none 0 0, .int .i64 0], .int .i64 (q : Int), .int .i64 220]) ∧ Below W5.heap.size W5 w') := fun w' e z => ⟨z.bad hN1 _ hr, z.low⟩
          clear hr
          go_wp2_with fail
          refine Calls.mono HRE.out ?_
          intro e v6 z
          obtain ⟨he, hl⟩ := HRP.out v6 e z
          obtain ⟨W6, hW6⟩ : ∃ W6, W6 = v6.alloc (.cells #[.slice none 0 0, .slice none 0 0, .int .i64 0] 25) := ⟨_, rfl⟩
          have HL6 : Hid (Below w.heap.size w W6) := by rw [hW6]; exact below_box (HS5.out.low.trans (hl.mono HS5.out.low.size)) _
          subst he
          clear z hl HRE HRP
          go_upto_region 14 with fail
          rw [← hW6]
          clear hW6
          have g2 : decide (q ≤ N) = true := by have := HQ.out; simp; omega
          have g3 : decide ((ii : Int) - 64 < (q : Int)) = true := by have := HQ.out; simp; omega
          go_wp2_with (go_at_call 12; refine (HNU.out _ _).mono ?_; rintro e w9 ⟨rfl, rfl⟩)
          go_ret
          exact ⟨⟨rfl, HL6.out⟩⟩
        | ok cd =>
          obtain ⟨m2, FS2, C2⟩ := cd
          have HR2 : Hid (formR C2 FS2 m2 = true ∧ wrC C2 FS2 m2 = (wrC C FS m).set ii t) := by
            obtain ⟨q1, q2, -⟩ := rdCode_back HBY.out hr
            exact ⟨q1, q2⟩
          have HRP : Hid (∀ w' e, ReadP W5 w' N ((wrC C FS m).set ii t) e → (∃ gi gf fc, e = .returned (.tuple #[.agg #[.slice (some ⟨gi, 0, none⟩) C2.length C2.length, .slice (some ⟨gf, 0, none⟩) FS2.length fc, .int .i64 m2], .int .i64 0, .int .i64 0]) ∧ w'.ownsRow W5.heap.size 55 5 (.slice (some ⟨gi, 0, none⟩) C2.length C2.length) C2.length (C2.map riv).flatten ∧ Row w' W5.heap.size 40 5 (.slice (some ⟨gf, 0, none⟩) FS2.length fc) (FS2.map rfv)) ∧ Below W5.heap.size W5 w') := fun w' e q => by
            obtain ⟨gi, gf, fc, h1, h2, h3, -⟩ := q.ok hN1 _ _ _ hr
            exact ⟨⟨gi, gf, fc, h1, h2, h3⟩, q.low⟩
          clear hr
          have HCF2 : Hid (0 < C2.length ∧ 0 < FS2.length) := form_some HR2.out.1
          obtain ⟨cn2, hcn2⟩ : ∃ cn, cn = C2.length := ⟨_, rfl⟩
          obtain ⟨fn2, hfn2⟩ : ∃ fn, fn = FS2.length := ⟨_, rfl⟩
          have HL2 : Hid (cn2 = C2.length ∧ fn2 = FS2.length) := ⟨hcn2, hfn2⟩
          clear hcn2 hfn2
          go_wp2_with fail
          refine Calls.mono HRE.out ?_
          intro e v6 z
          obtain ⟨⟨gi, gf, fc2, he, hro, hrf⟩, hl⟩ := HRP.out v6 e z
          rw [← HL2.out.1, ← HL2.out.2] at he
          obtain ⟨W6, hW6⟩ : ∃ W6, W6 = v6.alloc (.cells #[.slice (some ⟨gi, 0, none⟩) cn2 cn2, .slice (some ⟨gf, 0, none⟩) fn2 fc2, .int .i64 m2] 25) := ⟨_, rfl⟩
          obtain ⟨p2, hp2⟩ : ∃ p2, p2 = v6.heap.size := ⟨_, rfl⟩
          have b6 : Below v6.heap.size v6 W6 := by rw [hW6]; exact below_newX _ _
          have HS6 : Hid (BkS w W6 p ca cc fa fc m C FS) := HS5.out.keep (hl.trans (b6.mono hl.size))
          have HB6 : Hid (BrS W6 p2 gi gf fc2 m2 C2 FS2) := by
            have z := rowSts (⟨by rw [List.length_map]; exact hro, fun x hx => by obtain ⟨y, _, rfl⟩ := List.mem_map.1 hx; rfl⟩ : Row v6 W5.heap.size 55 5 (.slice (some ⟨gi, 0, none⟩) C2.length C2.length) (C2.map riv)) (by rw [List.length_map]; exact HCF2.out.1) (by omega) (riv_one C2)
            have z2 := rowSts hrf (by rw [List.length_map]; exact HCF2.out.2) (by omega) (rfv_one FS2)
            exact ⟨by rw [hW6, hp2, HL2.out.1, HL2.out.2]; exact heap_alloc_new _ _, z.2.1.below b6 (Nat.le_refl _), z2.2.1.below b6 (Nat.le_refl _)⟩
          subst he
          clear z hro hrf HRE HRP b6 hl
          go_upto_region 14 with fail
          rw [← hW6, ← hp2]
          clear hW6 hp2
          have HSA : Hid (Calls Tryd.prog 14 #[.agg #[.slice ca cn cc, .slice fa fn fc, .int .i64 m], .agg #[.slice (some ⟨gi, 0, none⟩) cn2 cn2, .slice (some ⟨gf, 0, none⟩) fn2 fc2, .int .i64 m2]] W6 fun e w' => SamP W6 w' false e) := sameC_any W6 ca cn cc fa fn fc m (some ⟨gi, 0, none⟩) cn2 cn2 (some ⟨gf, 0, none⟩) fn2 fc2 m2 C C2 FS FS2 ⟨HL.out.1, HL2.out.1, HL.out.2, HL2.out.2⟩ HS6.out.c (by rw [HL2.out.1]; exact HB6.out.c) HS6.out.f HB6.out.f (T := false) (by
            constructor
            · intro h; cases h
            · intro h
              exfalso
              obtain ⟨e1, e2, e3⟩ := h
              have q := HR2.out.2
              rw [← e1, ← e2, ← e3] at q
              have q2 : ((wrC C FS m).set ii t)[ii]? = some x := by rw [← q]; exact HX.out
              rw [List.getElem?_set_self (by have := HNB.out; have := HIN.out; omega)] at q2
              exact HXT.out (Option.some.inj q2).symm)
          have z0 : W6.cell? ⟨p, 0, none⟩ = some (.slice ca cn cc) := by rw [HL.out.1]; exact cell_arr HS6.out.bx rfl
          have z1 : W6.cell? ⟨p, 1, none⟩ = some (.slice fa fn fc) := by rw [HL.out.2]; exact cell_arr HS6.out.bx rfl
          have z2 : W6.cell? ⟨p, 2, none⟩ = some (.int .i64 m) := cell_arr HS6.out.bx rfl
          have lp := (Array.getElem?_eq_some_iff.1 HS6.out.bx).1
          have y0 : W6.cell? ⟨p2, 0, none⟩ = some (.slice (some ⟨gi, 0, none⟩) cn2 cn2) := by rw [HL2.out.1]; exact cell_arr HB6.out.bx rfl
          have y1 : W6.cell? ⟨p2, 1, none⟩ = some (.slice (some ⟨gf, 0, none⟩) fn2 fc2) := by rw [HL2.out.2]; exact cell_arr HB6.out.bx rfl
          have y2 : W6.cell? ⟨p2, 2, none⟩ = some (.int .i64 m2) := cell_arr HB6.out.bx rfl
          have lp2 := (Array.getElem?_eq_some_iff.1 HB6.out.bx).1
          go_wp2_with (first
            | (go_at_call 12; refine (HNU.out _ _).mono ?_; rintro e w9 ⟨rfl, rfl⟩)
            | (go_at_call 14; refine HSA.out.mono ?_; intro e w8 q; have hq := q.out.1; subst hq; have HB8 : Hid _ := q.out.2; clear q))
          go_ret
          exact ⟨⟨rfl, HS6.out.low.trans (HB8.out.mono HS6.out.low.size)⟩⟩
      · have hdum := trivial
        obtain ⟨ii, hii⟩ : ∃ ii : Nat, tt = (ii : Int) := ⟨tt.toNat, by omega⟩
        subst hii
        have hd : decide (((ii : Nat) : Int) < 0) = false := by simp
        have hiN : ii < N := by omega
        clear hneg hb1
        have HIN : Hid (ii < N) := hiN
        obtain ⟨x, hx⟩ : ∃ x, (wrC C FS m)[ii]? = some x := ⟨_, List.getElem?_eq_getElem (by have := HNB.out; omega)⟩
        have zi : w4.cell? ⟨b, ii, none⟩ = some (.int .u8 x) := cell_arr HBB.out (by unfold u8s; simp [hx])
        have zf : w4.frozen? ⟨b, ii, none⟩ = false := fz_of HBB.out
        have zl := (Array.getElem?_eq_some_iff.1 HBB.out).1
        have HX : Hid ((wrC C FS m)[ii]? = some x) := hx
        clear hx
        by_cases hxt : x = t
        · subst hxt
          go_wp2_with (go_at_call 12; refine (HNU.out _ _).mono ?_; rintro e w9 ⟨rfl, rfl⟩)
          go_ret
          exact ⟨⟨rfl, HS4.out.low⟩⟩
        have hd2 : decide (x = t) = false := by simp [hxt]
        have hd3 : (x == t) = false := by simp [hxt]
        have HXT : Hid (¬ x = t) := hxt
        obtain ⟨W5, hW5⟩ : ∃ W, W = w4.setCell ⟨b, ii, none⟩ (.int .u8 t) := ⟨_, rfl⟩
        have HB5 : Hid (W5.heap[b]? = some (.cells (u8s ((wrC C FS m).set ii t)) 5 (0, 0))) := by
          have q := heap_set_at (i := ii) (v := .int .u8 t) HBB.out
          rw [u8s_setF] at q
          rw [hW5]
          exact q
        have HLW5 : Hid (Below w3.heap.size w3 W5) := by rw [hW5]; exact HLW4.out.setCell (p := ⟨b, ii, none⟩) HLO.out _
        have HS5 : Hid (BkS w W5 p ca cc fa fc m C FS) := HS3.out.keep HLW5.out
        have HBY : Hid (∀ x ∈ (wrC C FS m).set ii t, 0 ≤ x ∧ x < 256) := fun y hy => (List.mem_or_eq_of_mem_set hy).elim (fun q => wrC_in y q) (fun q => by rw [q]; exact HTT.out)
        have HRE : Hid (Calls Tryd.prog 13 #[.slice (some ⟨b, 0, none⟩) N N] W5 fun e w' => ReadP W5 w' N ((wrC C FS m).set ii t) e) := by
          have q := iby_exact HB5.out HBY.out
          rw [List.length_set, ← HNB.out] at q
          exact rRead_any q (HT.out.below HS5.out.low HT.out.1) ⟨Nat.le_refl _, by have := HNP.out.2; omega, by have := HNP.out.2; omega⟩
        clear hxt
        go_upto_region 13 with (go_at_call 12; refine (HNU.out _ _).mono ?_; rintro e w9 ⟨rfl, rfl⟩)
        rw [← hW5]
        clear hW5 zi zf zl
        cases hr : rdCode ((wrC C FS m).set ii t) with
        | error q =>
          have HQ : Hid (q ≤ N ∧ ii < q + 64) := by
            have q1 := rdCode_err hr
            rw [List.length_set, ← HNB.out] at q1
            exact ⟨q1, rdCode_flip (agr_set (by have := HNB.out; omega) t) HRB.out hr⟩
          have HRP : Hid (∀ w' e, ReadP W5 w' N ((wrC C FS m).set ii t) e → e = .returned (.tuple #[.agg #[.slice none 0 0, .slice none 0 0, .int .i64 0], .int .i64 (q : Int), .int .i64 220]) ∧ Below W5.heap.size W5 w') := fun w' e z => ⟨z.bad hN1 _ hr, z.low⟩
          clear hr
          go_wp2_with fail
          refine Calls.mono HRE.out ?_
          intro e v6 z
          obtain ⟨he, hl⟩ := HRP.out v6 e z
          obtain ⟨W6, hW6⟩ : ∃ W6, W6 = v6.alloc (.cells #[.slice none 0 0, .slice none 0 0, .int .i64 0] 25) := ⟨_, rfl⟩
          have HL6 : Hid (Below w.heap.size w W6) := by rw [hW6]; exact below_box (HS5.out.low.trans (hl.mono HS5.out.low.size)) _
          subst he
          clear z hl HRE HRP
          go_upto_region 14 with fail
          rw [← hW6]
          clear hW6
          have g2 : decide (q ≤ N) = true := by have := HQ.out; simp; omega
          have g3 : decide ((ii : Int) - 64 < (q : Int)) = true := by have := HQ.out; simp; omega
          go_wp2_with (go_at_call 12; refine (HNU.out _ _).mono ?_; rintro e w9 ⟨rfl, rfl⟩)
          go_ret
          exact ⟨⟨rfl, HL6.out⟩⟩
        | ok cd =>
          obtain ⟨m2, FS2, C2⟩ := cd
          have HR2 : Hid (formR C2 FS2 m2 = true ∧ wrC C2 FS2 m2 = (wrC C FS m).set ii t) := by
            obtain ⟨q1, q2, -⟩ := rdCode_back HBY.out hr
            exact ⟨q1, q2⟩
          have HRP : Hid (∀ w' e, ReadP W5 w' N ((wrC C FS m).set ii t) e → (∃ gi gf fc, e = .returned (.tuple #[.agg #[.slice (some ⟨gi, 0, none⟩) C2.length C2.length, .slice (some ⟨gf, 0, none⟩) FS2.length fc, .int .i64 m2], .int .i64 0, .int .i64 0]) ∧ w'.ownsRow W5.heap.size 55 5 (.slice (some ⟨gi, 0, none⟩) C2.length C2.length) C2.length (C2.map riv).flatten ∧ Row w' W5.heap.size 40 5 (.slice (some ⟨gf, 0, none⟩) FS2.length fc) (FS2.map rfv)) ∧ Below W5.heap.size W5 w') := fun w' e q => by
            obtain ⟨gi, gf, fc, h1, h2, h3, -⟩ := q.ok hN1 _ _ _ hr
            exact ⟨⟨gi, gf, fc, h1, h2, h3⟩, q.low⟩
          clear hr
          have HCF2 : Hid (0 < C2.length ∧ 0 < FS2.length) := form_some HR2.out.1
          obtain ⟨cn2, hcn2⟩ : ∃ cn, cn = C2.length := ⟨_, rfl⟩
          obtain ⟨fn2, hfn2⟩ : ∃ fn, fn = FS2.length := ⟨_, rfl⟩
          have HL2 : Hid (cn2 = C2.length ∧ fn2 = FS2.length) := ⟨hcn2, hfn2⟩
          clear hcn2 hfn2
          go_wp2_with fail
          refine Calls.mono HRE.out ?_
          intro e v6 z
          obtain ⟨⟨gi, gf, fc2, he, hro, hrf⟩, hl⟩ := HRP.out v6 e z
          rw [← HL2.out.1, ← HL2.out.2] at he
          obtain ⟨W6, hW6⟩ : ∃ W6, W6 = v6.alloc (.cells #[.slice (some ⟨gi, 0, none⟩) cn2 cn2, .slice (some ⟨gf, 0, none⟩) fn2 fc2, .int .i64 m2] 25) := ⟨_, rfl⟩
          obtain ⟨p2, hp2⟩ : ∃ p2, p2 = v6.heap.size := ⟨_, rfl⟩
          have b6 : Below v6.heap.size v6 W6 := by rw [hW6]; exact below_newX _ _
          have HS6 : Hid (BkS w W6 p ca cc fa fc m C FS) := HS5.out.keep (hl.trans (b6.mono hl.size))
          have HB6 : Hid (BrS W6 p2 gi gf fc2 m2 C2 FS2) := by
            have z := rowSts (⟨by rw [List.length_map]; exact hro, fun x hx => by obtain ⟨y, _, rfl⟩ := List.mem_map.1 hx; rfl⟩ : Row v6 W5.heap.size 55 5 (.slice (some ⟨gi, 0, none⟩) C2.length C2.length) (C2.map riv)) (by rw [List.length_map]; exact HCF2.out.1) (by omega) (riv_one C2)
            have z2 := rowSts hrf (by rw [List.length_map]; exact HCF2.out.2) (by omega) (rfv_one FS2)
            exact ⟨by rw [hW6, hp2, HL2.out.1, HL2.out.2]; exact heap_alloc_new _ _, z.2.1.below b6 (Nat.le_refl _), z2.2.1.below b6 (Nat.le_refl _)⟩
          subst he
          clear z hro hrf HRE HRP b6 hl
          go_upto_region 14 with fail
          rw [← hW6, ← hp2]
          clear hW6 hp2
          have HSA : Hid (Calls Tryd.prog 14 #[.agg #[.slice ca cn cc, .slice fa fn fc, .int .i64 m], .agg #[.slice (some ⟨gi, 0, none⟩) cn2 cn2, .slice (some ⟨gf, 0, none⟩) fn2 fc2, .int .i64 m2]] W6 fun e w' => SamP W6 w' false e) := sameC_any W6 ca cn cc fa fn fc m (some ⟨gi, 0, none⟩) cn2 cn2 (some ⟨gf, 0, none⟩) fn2 fc2 m2 C C2 FS FS2 ⟨HL.out.1, HL2.out.1, HL.out.2, HL2.out.2⟩ HS6.out.c (by rw [HL2.out.1]; exact HB6.out.c) HS6.out.f HB6.out.f (T := false) (by
            constructor
            · intro h; cases h
            · intro h
              exfalso
              obtain ⟨e1, e2, e3⟩ := h
              have q := HR2.out.2
              rw [← e1, ← e2, ← e3] at q
              have q2 : ((wrC C FS m).set ii t)[ii]? = some x := by rw [← q]; exact HX.out
              rw [List.getElem?_set_self (by have := HNB.out; have := HIN.out; omega)] at q2
              exact HXT.out (Option.some.inj q2).symm)
          have z0 : W6.cell? ⟨p, 0, none⟩ = some (.slice ca cn cc) := by rw [HL.out.1]; exact cell_arr HS6.out.bx rfl
          have z1 : W6.cell? ⟨p, 1, none⟩ = some (.slice fa fn fc) := by rw [HL.out.2]; exact cell_arr HS6.out.bx rfl
          have z2 : W6.cell? ⟨p, 2, none⟩ = some (.int .i64 m) := cell_arr HS6.out.bx rfl
          have lp := (Array.getElem?_eq_some_iff.1 HS6.out.bx).1
          have y0 : W6.cell? ⟨p2, 0, none⟩ = some (.slice (some ⟨gi, 0, none⟩) cn2 cn2) := by rw [HL2.out.1]; exact cell_arr HB6.out.bx rfl
          have y1 : W6.cell? ⟨p2, 1, none⟩ = some (.slice (some ⟨gf, 0, none⟩) fn2 fc2) := by rw [HL2.out.2]; exact cell_arr HB6.out.bx rfl
          have y2 : W6.cell? ⟨p2, 2, none⟩ = some (.int .i64 m2) := cell_arr HB6.out.bx rfl
          have lp2 := (Array.getElem?_eq_some_iff.1 HB6.out.bx).1
          go_wp2_with (first
            | (go_at_call 12; refine (HNU.out _ _).mono ?_; rintro e w9 ⟨rfl, rfl⟩)
            | (go_at_call 14; refine HSA.out.mono ?_; intro e w8 q; have hq := q.out.1; subst hq; have HB8 : Hid _ := q.out.2; clear q))
          go_ret
          exact ⟨⟨rfl, HS6.out.low.trans (HB8.out.mono HS6.out.low.size)⟩⟩
end Go.Proofs.YtjiaedckecfjbaaDoor
namespace Go.Proofs.YtjiaedckecfjbaaDoor
open Go.ChangeShapes Go.WideShapes Go.ChangeAt Go.RowKit Go.Maps Go.WideMaps

/-- Bytes that are nothing from l on, and many. -/
structure Zs (l : Nat) (B : List Int) : Prop where
  big : l + 200 ≤ B.length
  z : B.drop l = List.replicate (B.length - l) 0
theorem valN_zero : ∀ k, valN (List.replicate k 0) = 0
  | 0 => rfl
  | k + 1 => by
    rw [List.replicate_succ]
    simp [valN, valN_zero k]
theorem Zs.fld {l : Nat} {B : List Int} (h : Zs l B) {next k : Nat} (hn : l ≤ next) (hk : next + k ≤ B.length) : fldV B next k = 0 := by
  have e : fldB B next k = List.replicate k 0 := by
    unfold fldB
    have e1 : next = l + (next - l) := by omega
    rw [e1, ← List.drop_drop, h.z, List.drop_replicate, List.take_replicate]
    congr 1
    omega
  unfold fldV
  rw [e, valN_zero]
  unfold wrap64
  omega
/-- What is read from s on, where nothing stands from l on: it ends soon. -/
structure Ze {X : Type} (l : Nat) (en : X → Nat) (r : Except Nat X) : Prop where
  ok : ∀ x, r = .ok x → en x ≤ l + 20
  err : ∀ p, r = .error p → p ≤ l + 80
theorem Ze.thn {X Y : Type} {l : Nat} {e1 : X → Nat} {e2 : Y → Nat} {r : Except Nat X} {f : X → Except Nat Y} (h : Ze l e1 r) (hf : ∀ x, r = .ok x → e1 x ≤ l + 20 → Ze l e2 (f x)) : Ze l e2 (thn r f) := by
  cases h1 : r with
  | error p => exact ⟨fun x hx => (by cases hx), fun q hq => (by cases hq; exact h.err _ h1)⟩
  | ok x => exact hf x h1 (h.ok x h1)
theorem Ze.ret {X : Type} {l : Nat} {en : X → Nat} {x : X} (h : en x ≤ l + 20) : Ze l en (.ok x) := ⟨fun y hy => (by cases hy; exact h), fun p hp => (by cases hp)⟩
/-- A number that must be something: it begins ahead of l. -/
theorem rdN_z {l : Nat} {B : List Int} (h : Zs l B) {k : Nat} (hk : k ≤ 8) {lo_ m : Int} (h1 : 1 ≤ lo_) {next : Nat} (hn : next ≤ l + 80) : (∀ x, rdN B k lo_ m next = .ok x → next < l) ∧ ∀ p, rdN B k lo_ m next = .error p → p ≤ l + 80 := by
  have hb := h.big
  unfold rdN
  rw [if_neg (show ¬ B.length < next + k by omega)]
  refine ⟨fun x hx => ?_, fun p hp => ?_⟩
  · rcases Nat.lt_or_ge next l with q | q
    · exact q
    · exfalso
      rw [h.fld q (by omega)] at hx
      rw [if_neg (by omega)] at hx
      cases hx
  · split at hp
    · cases hp
    · cases hp; exact hn
/-- A number that may be nothing. -/
theorem rdN_e {l : Nat} {B : List Int} (h : Zs l B) {k : Nat} (hk : k ≤ 8) {lo_ m : Int} {next : Nat} (hn : next ≤ l + 80) : ∀ p, rdN B k lo_ m next = .error p → p ≤ l + 80 := fun p hp => by
  have hb := h.big
  unfold rdN at hp
  rw [if_neg (show ¬ B.length < next + k by omega)] at hp
  split at hp
  · cases hp
  · cases hp; exact hn
theorem rdMk_z {l : Nat} {B : List Int} (h : Zs l B) : ∀ (L : List Int) (next : Nat), (∀ m ∈ L, 1 ≤ m) → next ≤ l + 20 → Ze l (fun q => q) (rdMk B L next)
  | [], next, hL, hn => Ze.ret hn
  | m :: L, next, hL, hn => by
    rw [rdMk_thn]
    have q := rdN_z h (k := 1) (m := m) (by omega) (hL m (List.mem_cons_self ..)) (next := next) (by omega)
    exact Ze.thn (e1 := fun _ => next + 1) ⟨fun x hx => by have := q.1 x hx; omega, q.2⟩ fun _ hx _ => rdMk_z h L (next + 1) (fun m hm => hL m (List.mem_cons_of_mem _ hm)) (by have := q.1 _ hx; omega)
theorem rdFn_z {l : Nat} {B : List Int} (h : Zs l B) (M : List (List UInt8)) (params : Int) (next : Nat) (hn : next ≤ l + 20) : Ze l (fun x => next + 1 + x.1.length + 8 + 4 + 1) (rdFn B M params next) := by
  have hb := h.big
  rw [rdFn_thn]
  have hnm : (∀ T, rdNm B M next = .ok T → next + 1 + T.length ≤ l + 80) ∧ ∀ p, rdNm B M next = .error p → p ≤ l + 80 := by
    rw [rdNm_thn]
    have q := rdN_z h (k := 1) (lo_ := 1) (m := 64) (by omega) (by omega) (next := next) (by omega)
    cases hk : rdN B 1 1 64 next with
    | error p => exact ⟨fun T hT => (by cases hT), fun r hr => (by cases hr; exact q.2 _ hk)⟩
    | ok k =>
      have hk1 := rdN_range hk
      have hlt := q.1 _ hk
      simp only [thn]
      rw [if_neg (show ¬ B.length < next + 1 + k.toNat by omega)]
      have hl : (fldT B (next + 1) k.toNat).length = k.toNat := by
        unfold fldT
        rw [List.length_map]
        exact fldB_len B (by omega)
      refine ⟨fun T hT => ?_, fun p hp => ?_⟩
      · split at hT
        · cases hT; rw [hl]; omega
        · cases hT
      · split at hp
        · cases hp
        · cases hp; omega
  cases hT : rdNm B M next with
  | error p => exact ⟨fun x hx => (by cases hx), fun r hr => (by cases hr; exact hnm.2 _ hT)⟩
  | ok T =>
    have a0 := hnm.1 T hT
    simp only [thn]
    have q1 := rdN_z h (k := 8) (lo_ := 2) (m := 1099511627776) (by omega) (by omega) (next := next + 1 + T.length) a0
    cases h1 : rdN B 8 2 1099511627776 (next + 1 + T.length) with
    | error p => exact ⟨fun x hx => (by cases hx), fun r hr => (by cases hr; exact q1.2 _ h1)⟩
    | ok fr =>
      have a1 := q1.1 _ h1
      simp only []
      have q2 := rdN_z h (k := 4) (lo_ := 1) (m := 4294967295) (by omega) (by omega) (next := next + 1 + T.length + 8) (by omega)
      cases h2 : rdN B 4 1 4294967295 (next + 1 + T.length + 8) with
      | error p => exact ⟨fun x hx => (by cases hx), fun r hr => (by cases hr; exact q2.2 _ h2)⟩
      | ok ct =>
        have a2 := q2.1 _ h2
        simp only []
        have q3 := rdN_e h (k := 1) (lo_ := 0) (m := params) (by omega) (next := next + 1 + T.length + 8 + 4) (by omega)
        cases h3 : rdN B 1 0 params (next + 1 + T.length + 8 + 4) with
        | error p => exact ⟨fun x hx => (by cases hx), fun r hr => (by cases hr; exact q3 _ h3)⟩
        | ok pa => exact Ze.ret (by show next + 1 + T.length + 8 + 4 + 1 ≤ l + 20; omega)
theorem rdFns_z {l : Nat} {B : List Int} (h : Zs l B) (main : Int) : ∀ (m : Nat) (j first : Int) (A : List Rf) (next : Nat), next ≤ l + 20 → Ze l (fun x => x.2) (rdFns B main m j first A next)
  | 0, j, first, A, next, hn => Ze.ret hn
  | m + 1, j, first, A, next, hn => by
    have e : ∀ B, rdFns B main (m + 1) j first A next = thn (rdFn B (A.map fun f : Rf => nml f.name) (if j = main then 0 else 8) next) fun x => rdFns B main m (j + 1) (first + x.2.2.1) (A ++ [⟨bs x.1, x.2.1, first, x.2.2.1, x.2.2.2⟩]) (next + 1 + x.1.length + 8 + 4 + 1) := fun B => by
      simp only [rdFns, thn]
      split <;> simp_all
    rw [e]
    exact (rdFn_z h _ _ next hn).thn fun x _ q => rdFns_z h main m _ _ _ _ q
theorem rdRg_z {l : Nat} {B : List Int} (h : Zs l B) : ∀ (m next : Nat), next + m ≤ l + 20 → ∀ p, rdRg B m next = .error p → p ≤ l + 80
  | 0, next, hn, p, hp => by cases hp
  | m + 1, next, hn, p, hp => by
    simp only [rdRg] at hp
    have q := rdN_e h (k := 1) (lo_ := 0) (m := 15) (by omega) (next := next) (by omega)
    cases h1 : rdN B 1 0 15 next with
    | error r => rw [h1] at hp; cases hp; exact q _ h1
    | ok r =>
      rw [h1] at hp
      dsimp only at hp
      cases h2 : rdRg B m (next + 1) with
      | error s => rw [h2] at hp; cases hp; exact rdRg_z h m (next + 1) (by omega) _ h2
      | ok L => rw [h2] at hp; cases hp
theorem rdOp_z {l : Nat} {B : List Int} (h : Zs l B) (last : Bool) (next : Nat) (hn : next ≤ l + 20) : (∀ x, rdOp B last next = .ok x → next < l) ∧ ∀ p, rdOp B last next = .error p → p ≤ l + 80 := by
  have hb := h.big
  unfold rdOp
  rw [if_neg (show ¬ B.length < next + 1 by omega)]
  refine ⟨fun x hx => ?_, fun p hp => ?_⟩
  · rcases Nat.lt_or_ge next l with q | q
    · exact q
    · exfalso
      rw [h.fld q (by omega)] at hx
      have e : opIs last 0 = false := by cases last <;> decide
      rw [e] at hx
      simp at hx
  · split at hp
    · cases hp
    · cases hp; omega
theorem rdIn_z {l : Nat} {B : List Int} (h : Zs l B) (f : Rf) (k : Int) (last : Bool) (next : Nat) (hn : next ≤ l + 20) : Ze l (fun x => x.2) (rdIn B f k last next) := by
  have q := rdOp_z h last next hn
  unfold rdIn
  cases h1 : rdOp B last next with
  | error p => exact ⟨fun x hx => (by cases hx), fun r hr => (by cases hr; exact q.2 _ h1)⟩
  | ok op =>
    have a := q.1 _ h1
    have hc := rcntC_le op
    dsimp only
    have q2 := rdRg_z h (rcnt op).toNat (next + 1) (by omega)
    cases h2 : rdRg B (rcnt op).toNat (next + 1) with
    | error p => exact ⟨fun x hx => (by cases hx), fun r hr => (by cases hr; exact q2 _ h2)⟩
    | ok L =>
      dsimp only
      by_cases hh : hasNC op = true
      · rw [if_pos hh]
        have q3 := rdN_e h (k := 8) (lo_ := loN op f.fi) (m := hiN op f.fr f.fi f.ct k) (by omega) (next := next + 1 + (rcnt op).toNat) (by omega)
        cases h3 : rdN B 8 (loN op f.fi) (hiN op f.fr f.fi f.ct k) (next + 1 + (rcnt op).toNat) with
        | error p => exact ⟨fun x hx => (by cases hx), fun r hr => (by cases hr; exact q3 _ h3)⟩
        | ok v => exact Ze.ret (by show next + 1 + (rcnt op).toNat + 8 ≤ l + 20; omega)
      · rw [if_neg hh]
        exact Ze.ret (by show next + 1 + (rcnt op).toNat ≤ l + 20; omega)
theorem rdIns1_z {l : Nat} {B : List Int} (h : Zs l B) (f : Rf) (k : Int) : ∀ (m next : Nat), next ≤ l + 20 → Ze l (fun x => x.2) (rdIns1 B f k m next)
  | 0, next, hn => Ze.ret hn
  | m + 1, next, hn => by
    have e : ∀ B, rdIns1 B f k (m + 1) next = thn (rdIn B f k (decide (m = 0)) next) fun x => thn (rdIns1 B f k m x.2) fun y => .ok (x.1 :: y.1, y.2) := fun B => by
      simp only [rdIns1]
      cases rdIn B f k (decide (m = 0)) next with
      | error p => rfl
      | ok x =>
        simp only [thn]
        cases rdIns1 B f k m x.2 <;> rfl
    rw [e]
    exact (rdIn_z h f k _ next hn).thn fun x _ q => (rdIns1_z h f k m _ q).thn fun y _ q2 => Ze.ret q2
theorem rdIns_z {l : Nat} {B : List Int} (h : Zs l B) (k : Int) : ∀ (FS : List Rf) (next : Nat), next ≤ l + 20 → Ze l (fun x => x.2) (rdIns B k FS next)
  | [], next, hn => Ze.ret hn
  | f :: FS, next, hn => by
    have e : ∀ B, rdIns B k (f :: FS) next = thn (rdIns1 B f k f.ct.toNat next) fun x => thn (rdIns B k FS x.2) fun y => .ok (x.1 ++ y.1, y.2) := fun B => by
      simp only [rdIns]
      cases rdIns1 B f k f.ct.toNat next with
      | error p => rfl
      | ok x =>
        simp only [thn]
        cases rdIns B k FS x.2 <;> rfl
    rw [e]
    exact (rdIns1_z h f k _ next hn).thn fun x _ q => (rdIns_z h k FS _ q).thn fun y _ q2 => Ze.ret q2
/-- Where nothing stands from l on, the fault is soon told. -/
theorem rdCode_zero {l : Nat} {B : List Int} (h : Zs l B) : ∃ p, rdCode B = .error p ∧ p ≤ l + 100 := by
  have hb := h.big
  have H : Ze l (fun x => x.2) (rdAll B) := by
    unfold rdAll
    refine (rdMk_z h mkB 0 (by decide) (by omega)).thn fun q _ q1 => ?_
    have c1 := rdN_z h (k := 4) (lo_ := 1) (m := 4294967295) (by omega) (by omega) (next := q) (by omega)
    refine Ze.thn (e1 := fun _ => q + 4) ⟨fun x hx => by have := c1.1 x hx; omega, c1.2⟩ fun count hc _ => ?_
    have a1 := c1.1 _ hc
    have c2 := rdN_e h (k := 4) (lo_ := 0) (m := count - 1) (by omega) (next := q + 4) (by omega)
    refine Ze.thn (e1 := fun _ => q + 8) ⟨fun x hx => by omega, c2⟩ fun main _ _ => ?_
    exact (rdFns_z h _ _ _ _ _ _ (by omega)).thn fun x _ q4 => (rdIns_z h _ _ _ q4).thn fun y _ q5 => Ze.ret q5
  rw [rdCode_all]
  cases h1 : rdAll B with
  | error p => exact ⟨p, rfl, by have := H.err p h1; omega⟩
  | ok y =>
    have a : y.2 ≤ l + 20 := H.ok y h1
    exact ⟨y.2, by simp only [thn]; rw [if_neg (by omega)], by omega⟩
end Go.Proofs.YtjiaedckecfjbaaDoor
namespace Go.Proofs.YtjiaedckecfjbaaDoor
open Go.ChangeShapes Go.WideShapes Go.ChangeAt Go.RowKit Go.Maps Go.WideMaps

/-- The first i bytes of F, then nothing. -/
def dz (F : List Int) (n i : Nat) : List Int := F.take i ++ List.replicate (n - i) 0
theorem dz_len {F : List Int} {n i : Nat} (hi : i ≤ F.length) (hn : F.length ≤ n) : (dz F n i).length = n := by
  unfold dz
  rw [List.length_append, List.length_take, List.length_replicate]
  omega
theorem dz_set {F : List Int} {n i : Nat} (hi : i < F.length) (hn : F.length ≤ n) : (dz F n i).set i F[i] = dz F n (i + 1) := by
  unfold dz
  have e : (F.take i).length = i := by rw [List.length_take]; omega
  have e2 : n - i = (n - (i + 1)) + 1 := by omega
  rw [List.set_append_right _ _ (by omega), e, Nat.sub_self, e2, List.replicate_succ, List.set_cons_zero, List.take_succ_eq_append_getElem hi, List.append_assoc]
  rfl
theorem dz_in {F : List Int} {n i : Nat} (hF : Byts F) : Byts (dz F n i) := fun x hx => by
  unfold dz at hx
  rcases List.mem_append.1 hx with q | q
  · exact hF x (List.mem_of_mem_take q)
  · rw [List.eq_of_mem_replicate q]
    omega
theorem dz_zs {F : List Int} {n k : Nat} (hk : k ≤ n) (hb : F.length + 200 ≤ k) : Zs F.length ((dz F n F.length).take k) ∧ ((dz F n F.length).take k).length = k := by
  have e : (dz F n F.length).take k = F ++ List.replicate (k - F.length) 0 := by
    unfold dz
    rw [List.take_length, List.take_append, List.take_of_length_le (by omega), List.take_replicate]
    congr 2
    omega
  have el : ((dz F n F.length).take k).length = k := by
    rw [e, List.length_append, List.length_replicate]
    omega
  refine ⟨⟨by omega, ?_⟩, el⟩
  rw [el, e, List.drop_left]
set_option maxRecDepth 100000 in
set_option maxHeartbeats 8000000 in
theorem codeLong_any (w : World) (hTab : Tab w) (n : Int) (ao : Option Addr) (fl cap : Nat) (F : List Int) (hF : IBy w ao fl F) (hc : fl ≤ cap) (hm : cap ≤ 9223372036854775807) (hfb : fl ≤ 140737488351232) :
    Calls Tryd.prog 5 #[.int .i64 n, .slice ao fl cap] w fun e w' => SamP w w' true e := by
  have HT : Hid (Tab w) := hTab
  have HF : Hid (IBy w ao fl F) := hF
  have HNU : Hid (∀ W x, Calls Tryd.prog 12 #[.int .i64 x] W fun e w' => e = .returned (.int .i64 x) ∧ W = w') := fun W x => (num_any W x).mono fun e w' h => ⟨h.1, h.2.symm⟩
  have HAL : Hid (Calls Tryd.prog 10 #[] w fun e w' => SamP w w' true e) := aliveC_any w hTab
  obtain ⟨kk, -, hkk⟩ := andG_small n 63 (by decide)
  have hbits : bits BinOp.and IntKind.i64 n 63 = (kk : Int) := hkk
  clear hTab hF hkk
  by_cases h0 : kk = 0
  · subst h0
    by_cases hs : 65536 < fl
    · have hni : decide (65536 < (fl : Int)) = true := by simp; omega
      clear hs
      go_enter Tryd.func5, Tryd.ntmps5
      go_wp2_with fail
      refine Calls.mono HAL.out ?_
      intro e w2 q
      have hq := q.out.1
      subst hq
      have HL2 : Hid (Below w.heap.size w w2) := q.out.2
      clear q HAL
      go_wp2_with fail
      go_ret
      exact ⟨⟨rfl, HL2.out⟩⟩
    · have hni : decide (65536 < (fl : Int)) = false := by simp; omega
      have HS : Hid (fl ≤ 65536) := by show _ ≤ _; omega
      clear hs
      obtain ⟨N, hN⟩ : ∃ N : Nat, (N : Int) = 268435457 := ⟨268435457, rfl⟩
      obtain ⟨K, hK⟩ : ∃ K : Nat, (K : Int) = 268435456 := ⟨268435456, rfl⟩
      have HNK : Hid ((N : Int) = 268435457 ∧ (K : Int) = 268435456) := ⟨hN, hK⟩
      clear hN hK
      go_enter Tryd.func5, Tryd.ntmps5
      go_wp2_with fail
      refine Calls.mono HAL.out ?_
      intro e w2 q
      have hq := q.out.1
      subst hq
      have HL2 : Hid (Below w.heap.size w w2) := q.out.2
      clear q HAL
      obtain ⟨g, hg⟩ : ∃ g, g = w2.heap.size := ⟨_, rfl⟩
      obtain ⟨W3, hW3⟩ : ∃ W, W = w2.alloc (.cells (u8s (List.replicate N (0 : Int))) 5) := ⟨_, rfl⟩
      have hmk : (Instr.makeSlice 28 (.int .i64 268435457) (.int .i64 268435457)).run Tryd.prog w2 = .ok (.slice (some ⟨g, 0, none⟩) N N) W3 := by
        have q := run_bytesC N (by have := HNK.out; omega) w2
        rw [HNK.out.1, ← hg, ← hW3] at q
        exact q
      have HG : Hid (w2.heap.size ≤ g) := by show _ ≤ _; omega
      have HB3 : Hid (W3.heap[g]? = some (.cells (u8s (dz F N 0)) 5 (0, 0))) := by
        have e : dz F N 0 = List.replicate N 0 := by unfold dz; simp
        rw [e, hW3, hg]
        exact heap_alloc_new _ _
      have HL3 : Hid (Below w2.heap.size w2 W3) := by rw [hW3]; exact below_newX _ _
      clear hW3 hg
      go_wp2_with fail
      clear hmk
      go_loopw [7] (fun v7 wr => ∃ (i : Nat), i ≤ fl ∧ v7 = .int .i64 (i : Int) ∧ Hid (wr.heap[g]? = some (.cells (u8s (dz F N i)) 5 (0, 0))) ∧ Hid (Below w2.heap.size w2 wr)) (fun v7 _ => fl - (intOf v7).toNat)
      case atStart => exact ⟨0, Nat.zero_le _, rfl, HB3.out, HL3.out⟩
      case round =>
        obtain ⟨i, hi, rfl, HBI, HLI⟩ := hrel
        by_cases hlt : i < fl
        · have HLT : Hid (i < fl ∧ fl ≤ 65536 ∧ i < F.length ∧ F.length ≤ N ∧ i < N) := by
            have := HS.out
            have := HF.out.len
            have := HNK.out.1
            show _ ∧ _ ∧ _ ∧ _ ∧ _
            omega
          have hiN : i < N := HLT.out.2.2.2.2
          have hib : i < 65536 := by have := HLT.out; omega
          obtain ⟨fb, fo, hao, hfl, hfc⟩ := (HF.out.below (HL2.out.trans (HLI.out.mono HL2.out.size))).out (by omega)
          subst hao
          obtain ⟨x, hx⟩ : ∃ x, x = F[i]'HLT.out.2.2.1 := ⟨_, rfl⟩
          have zx : wr.cell? ⟨fb, fo + i, none⟩ = some (.int .u8 x) := by rw [hx]; exact hfc i HLT.out.2.2.1
          have zf : wr.frozen? ⟨g, i, none⟩ = false := fz_of HBI.out
          obtain ⟨y, hy⟩ : ∃ y, wr.cell? ⟨g, i, none⟩ = some y := by
            have e : i < (u8s (dz F N i)).size := by
              unfold u8s
              simp
              rw [dz_len (by have := HLT.out; omega) HLT.out.2.2.2.1]
              exact hiN
            exact ⟨_, cell_arr HBI.out (Array.getElem?_eq_getElem e)⟩
          have zl := (Array.getElem?_eq_some_iff.1 HBI.out).1
          obtain ⟨W5, hW5⟩ : ∃ W, W = wr.setCell ⟨g, i, none⟩ (.int .u8 x) := ⟨_, rfl⟩
          have HB5 : Hid (W5.heap[g]? = some (.cells (u8s (dz F N (i + 1))) 5 (0, 0))) := by
            have q := heap_set_at (i := i) (v := .int .u8 x) HBI.out
            rw [u8s_setF, hx, dz_set HLT.out.2.2.1 HLT.out.2.2.2.1] at q
            rw [hW5, hx]
            exact q
          have HL5 : Hid (Below w2.heap.size w2 W5) := by rw [hW5]; exact HLI.out.setCell (p := ⟨g, i, none⟩) HG.out _
          clear hx hfc
          go_wp2_with fail
          rw [← hW5]
          go_roundw
          case rel => exact ⟨i + 1, by have := HLT.out; omega, by go_num, HB5.out, HL5.out⟩
          case measure => have := HLT.out; simp [intOf]; omega
        · have hie : i = fl := by omega
          subst hie
          have HFL : Hid (F.length = i ∧ F.length ≤ N ∧ i + 200 ≤ K ∧ K ≤ N) := by
            have := HS.out
            have := HF.out.len
            have := HNK.out
            show _ ∧ _ ∧ _ ∧ _
            omega
          have HDL : Hid ((dz F N i).length = N) := dz_len (by have := HFL.out; omega) HFL.out.2.1
          have HDB : Hid (Byts (dz F N i)) := dz_in HF.out.by_
          have HLR : Hid (Below w.heap.size w wr) := HL2.out.trans (HLI.out.mono HL2.out.size)
          have HIB : Hid (IBy wr (some ⟨g, 0, none⟩) N (dz F N i)) := by
            have q := iby_exact HBI.out HDB.out
            rw [HDL.out] at q
            exact q
          have HR1 : Hid (Calls Tryd.prog 13 #[.slice (some ⟨g, 0, none⟩) N N] wr fun e w' => ReadP wr w' N (dz F N i) e) := rRead_any HIB.out (HT.out.below HLR.out HT.out.1) ⟨Nat.le_refl _, by have := HNK.out; omega, by have := HNK.out; omega⟩
          clear hlt hi
          go_wp2_with fail
          refine Calls.mono HR1.out ?_
          intro e v6 q
          have he := q.long (by have := HNK.out; omega)
          have hl := q.low
          obtain ⟨W6, hW6⟩ : ∃ W6, W6 = v6.alloc (.cells #[.slice none 0 0, .slice none 0 0, .int .i64 0] 25) := ⟨_, rfl⟩
          obtain ⟨p2, hp2⟩ : ∃ p2, p2 = v6.heap.size := ⟨_, rfl⟩
          have hbx : W6.heap[p2]? = some (.cells #[.slice none 0 0, .slice none 0 0, .int .i64 0] 25 (0, 0)) := by rw [hW6, hp2]; exact heap_alloc_new _ _
          have HL6 : Hid (Below wr.heap.size wr W6) := by rw [hW6]; exact below_box hl _
          have z0 : W6.cell? ⟨p2, 0, none⟩ = some (.slice none 0 0) := cell_arr hbx rfl
          have z1 : W6.cell? ⟨p2, 1, none⟩ = some (.slice none 0 0) := cell_arr hbx rfl
          have z2 : W6.cell? ⟨p2, 2, none⟩ = some (.int .i64 0) := cell_arr hbx rfl
          have lp := (Array.getElem?_eq_some_iff.1 hbx).1
          subst he
          clear q hl HR1 hbx
          go_upto_region 10 with fail
          rw [← hW6, ← hp2]
          clear hW6 hp2
          have hsl : ∀ W, (Instr.sliceAt 28 (.slice (some ⟨g, 0, none⟩) N N) none (some (.int .i64 268435456)) none).run Tryd.prog W = .ok (.slice (some ⟨g, 0, none⟩) K N) W := fun W => by
            have q := run_cutB g 0 N N K HFL.out.2.2.2 W
            rw [HNK.out.2] at q
            exact q
          obtain ⟨p, hp, hpl⟩ : ∃ p, rdCode ((dz F N i).take K) = .error p ∧ p ≤ i + 100 := by
            have q := dz_zs (F := F) (n := N) (k := K) HFL.out.2.2.2 (by have := HFL.out; omega)
            rw [HFL.out.1] at q
            exact rdCode_zero q.1
          have HR2 : Hid (Calls Tryd.prog 13 #[.slice (some ⟨g, 0, none⟩) K N] W6 fun e w' => ReadP W6 w' K ((dz F N i).take K) e) := rRead_any ((HIB.out.below HL6.out).take HFL.out.2.2.2) (HT.out.below (HLR.out.trans (HL6.out.mono HLR.out.size)) HT.out.1) ⟨HFL.out.2.2.2, by have := HNK.out; omega, by have := HNK.out; omega⟩
          have HRP : Hid (∀ w' e, ReadP W6 w' K ((dz F N i).take K) e → e = .returned (.tuple #[.agg #[.slice none 0 0, .slice none 0 0, .int .i64 0], .int .i64 (p : Int), .int .i64 220]) ∧ Below W6.heap.size W6 w') := fun w' e z => ⟨z.bad (by have := HNK.out; omega) _ hp, z.low⟩
          have HPL : Hid (p ≤ i + 100 ∧ i ≤ 65536) := ⟨hpl, HS.out⟩
          clear hp hpl
          go_wp2_with (go_at_call 12; refine (HNU.out _ _).mono ?_; rintro e w9 ⟨rfl, rfl⟩)
          refine Calls.mono HR2.out ?_
          intro e v7 z
          obtain ⟨he, hl⟩ := HRP.out v7 e z
          obtain ⟨W8, hW8⟩ : ∃ W8, W8 = v7.alloc (.cells #[.slice none 0 0, .slice none 0 0, .int .i64 0] 25) := ⟨_, rfl⟩
          have HL8 : Hid (Below w.heap.size w W8) := by
            rw [hW8]
            exact below_box ((HLR.out.trans (HL6.out.mono HLR.out.size)).trans (hl.mono (Nat.le_trans HLR.out.size HL6.out.size))) _
          subst he
          clear z hl HR2 HRP z0 z1 z2 lp
          go_upto_region 13 with fail
          rw [← hW8]
          clear hW8
          have hib : i ≤ 65536 := HPL.out.2
          have g2 : decide (p ≤ i + 100) = true := by have := HPL.out; simp; omega
          have g3 : decide ((p : Int) ≤ (i : Int) + 100) = true := by have := HPL.out; simp; omega
          go_wp2_with (go_at_call 12; refine (HNU.out _ _).mono ?_; rintro e w9 ⟨rfl, rfl⟩)
          go_ret
          exact ⟨⟨rfl, HL8.out⟩⟩
  · have hni : ((kk : Int) != 0) = true := by simp; omega
    have hni2 : (kk == 0) = false := by simp; omega
    clear h0
    go_enter Tryd.func5, Tryd.ntmps5
    go_wp2_with fail
    refine Calls.mono HAL.out ?_
    intro e w2 q
    have hq := q.out.1
    subst hq
    have HL2 : Hid (Below w.heap.size w w2) := q.out.2
    clear q HAL
    go_wp2_with fail
    go_ret
    exact ⟨⟨rfl, HL2.out⟩⟩
end Go.Proofs.YtjiaedckecfjbaaDoor
