import Derived.Test.YtjepkcebfojiaaaDoorTyB
set_option linter.unusedVariables false
set_option linter.unusedSimpArgs false
namespace Go.Proofs.YtjepkcebfojiaaaDoor
open Go.ChangeShapes Go.WideShapes Go.ChangeAt Go.RowKit

theorem ck_func : Ch [102, 117, 110, 99, 32] [(10, 0)] := ((Ch.word (i := 0) (by omega)).app (Ch.blank (c := 32) (by decide)) (bd_of rfl rfl (by decide)) (by decide))
theorem ck_lp : Ch [40] [(40, 0)] := (Ch.sign (i := 0) (by omega))
theorem ck_rps : Ch [41, 32] [(41, 0)] := ((Ch.sign (i := 1) (by omega)).app (Ch.blank (c := 32) (by decide)) (bd_of rfl rfl (by decide)) (by decide))
theorem ck_nl : Ch [10] [] := (Ch.blank (c := 10) (by decide))
theorem ck_lb : Ch [123] [(42, 0)] := (Ch.sign (i := 2) (by omega))
theorem ck_var : Ch [118, 97, 114, 32] [(11, 0)] := ((Ch.word (i := 1) (by omega)).app (Ch.blank (c := 32) (by decide)) (bd_of rfl rfl (by decide)) (by decide))
theorem ck_sp : Ch [32] [] := (Ch.blank (c := 32) (by decide))
theorem ck_eq : Ch [32, 61, 32] [(48, 0)] := (((Ch.blank (c := 32) (by decide)).app (Ch.sign (i := 8) (by omega)) (bd_of rfl rfl (by decide)) (by decide)).app (Ch.blank (c := 32) (by decide)) (bd_of rfl rfl (by decide)) (by decide))
theorem ck_semi : Ch [59] [(47, 0)] := (Ch.sign (i := 7) (by omega))
theorem ck_lk : Ch [91] [(44, 0)] := (Ch.sign (i := 4) (by omega))
theorem ck_rkeq : Ch [93, 32, 61, 32] [(45, 0), (48, 0)] := ((((Ch.sign (i := 5) (by omega)).app (Ch.blank (c := 32) (by decide)) (bd_of rfl rfl (by decide)) (by decide)).app (Ch.sign (i := 8) (by omega)) (bd_of rfl rfl (by decide)) (by decide)).app (Ch.blank (c := 32) (by decide)) (bd_of rfl rfl (by decide)) (by decide))
theorem ck_print : Ch [112, 114, 105, 110, 116, 40] [(18, 0), (40, 0)] := ((Ch.word (i := 8) (by omega)).app (Ch.sign (i := 0) (by omega)) (bd_of rfl rfl (by decide)) (by decide))
theorem ck_rpsemi : Ch [41, 59] [(41, 0), (47, 0)] := ((Ch.sign (i := 1) (by omega)).app (Ch.sign (i := 7) (by omega)) (bd_of rfl rfl (by decide)) (by decide))
theorem ck_panic : Ch [112, 97, 110, 105, 99, 40] [(19, 0), (40, 0)] := ((Ch.word (i := 9) (by omega)).app (Ch.sign (i := 0) (by omega)) (bd_of rfl rfl (by decide)) (by decide))
theorem ck_if : Ch [105, 102, 32] [(12, 0)] := ((Ch.word (i := 2) (by omega)).app (Ch.blank (c := 32) (by decide)) (bd_of rfl rfl (by decide)) (by decide))
theorem ck_else : Ch [32, 101, 108, 115, 101, 32] [(13, 0)] := (((Ch.blank (c := 32) (by decide)).app (Ch.word (i := 3) (by omega)) (bd_of rfl rfl (by decide)) (by decide)).app (Ch.blank (c := 32) (by decide)) (bd_of rfl rfl (by decide)) (by decide))
theorem ck_for : Ch [102, 111, 114] [(14, 0)] := (Ch.word (i := 4) (by omega))
theorem ck_ret : Ch [114, 101, 116, 117, 114, 110] [(15, 0)] := (Ch.word (i := 5) (by omega))
theorem ck_brk : Ch [98, 114, 101, 97, 107, 59] [(16, 0), (47, 0)] := ((Ch.word (i := 6) (by omega)).app (Ch.sign (i := 7) (by omega)) (bd_of rfl rfl (by decide)) (by decide))
theorem ck_cont : Ch [99, 111, 110, 116, 105, 110, 117, 101, 59] [(17, 0), (47, 0)] := ((Ch.word (i := 7) (by omega)).app (Ch.sign (i := 7) (by omega)) (bd_of rfl rfl (by decide)) (by decide))
theorem ck_true : Ch [116, 114, 117, 101] [(25, 0)] := (Ch.word (i := 15) (by omega))
theorem ck_false : Ch [102, 97, 108, 115, 101] [(26, 0)] := (Ch.word (i := 16) (by omega))
theorem ck_nil : Ch [110, 105, 108] [(27, 0)] := (Ch.word (i := 17) (by omega))
theorem ck_input : Ch [105, 110, 112, 117, 116, 40, 41] [(20, 0), (40, 0), (41, 0)] := (((Ch.word (i := 10) (by omega)).app (Ch.sign (i := 0) (by omega)) (bd_of rfl rfl (by decide)) (by decide)).app (Ch.sign (i := 1) (by omega)) (bd_of rfl rfl (by decide)) (by decide))
theorem ck_rp : Ch [41] [(41, 0)] := (Ch.sign (i := 1) (by omega))
theorem ck_len : Ch [108, 101, 110, 40] [(21, 0), (40, 0)] := ((Ch.word (i := 11) (by omega)).app (Ch.sign (i := 0) (by omega)) (bd_of rfl rfl (by decide)) (by decide))
theorem ck_make : Ch [109, 97, 107, 101, 40, 91, 93, 105, 110, 116, 44, 32] [(22, 0), (40, 0), (44, 0), (45, 0), (23, 0), (46, 0)] := (((((((Ch.word (i := 12) (by omega)).app (Ch.sign (i := 0) (by omega)) (bd_of rfl rfl (by decide)) (by decide)).app (Ch.sign (i := 4) (by omega)) (bd_of rfl rfl (by decide)) (by decide)).app (Ch.sign (i := 5) (by omega)) (bd_of rfl rfl (by decide)) (by decide)).app (Ch.word (i := 13) (by omega)) (bd_of rfl rfl (by decide)) (by decide)).app (Ch.sign (i := 6) (by omega)) (bd_of rfl rfl (by decide)) (by decide)).app (Ch.blank (c := 32) (by decide)) (bd_of rfl rfl (by decide)) (by decide))
theorem ck_rk : Ch [93] [(45, 0)] := (Ch.sign (i := 5) (by omega))
theorem ck_comma : Ch [44, 32] [(46, 0)] := ((Ch.sign (i := 6) (by omega)).app (Ch.blank (c := 32) (by decide)) (bd_of rfl rfl (by decide)) (by decide))
theorem ck_t1 : Ch [105, 110, 116] [(23, 0)] := (Ch.word (i := 13) (by omega))
theorem ck_t2 : Ch [98, 111, 111, 108] [(24, 0)] := (Ch.word (i := 14) (by omega))
theorem ck_t3 : Ch [91, 93, 105, 110, 116] [(44, 0), (45, 0), (23, 0)] := (((Ch.sign (i := 4) (by omega)).app (Ch.sign (i := 5) (by omega)) (bd_of rfl rfl (by decide)) (by decide)).app (Ch.word (i := 13) (by omega)) (bd_of rfl rfl (by decide)) (by decide))
theorem ck_u20 : Ch [45] [(56, 0)] := (Ch.sign (i := 16) (by omega))
theorem ck_u21 : Ch [33] [(68, 0)] := (Ch.sign (i := 28) (by omega))
theorem ck_u22 : Ch [94] [(62, 0)] := (Ch.sign (i := 22) (by omega))
theorem ck_b1 : Ch [32, 43, 32] [(55, 0)] := (((Ch.blank (c := 32) (by decide)).app (Ch.sign (i := 15) (by omega)) (bd_of rfl rfl (by decide)) (by decide)).app (Ch.blank (c := 32) (by decide)) (bd_of rfl rfl (by decide)) (by decide))
theorem ck_b2 : Ch [32, 45, 32] [(56, 0)] := (((Ch.blank (c := 32) (by decide)).app (Ch.sign (i := 16) (by omega)) (bd_of rfl rfl (by decide)) (by decide)).app (Ch.blank (c := 32) (by decide)) (bd_of rfl rfl (by decide)) (by decide))
theorem ck_b3 : Ch [32, 42, 32] [(57, 0)] := (((Ch.blank (c := 32) (by decide)).app (Ch.sign (i := 17) (by omega)) (bd_of rfl rfl (by decide)) (by decide)).app (Ch.blank (c := 32) (by decide)) (bd_of rfl rfl (by decide)) (by decide))
theorem ck_b4 : Ch [32, 47, 32] [(58, 0)] := (((Ch.blank (c := 32) (by decide)).app (Ch.sign (i := 18) (by omega)) (bd_of rfl rfl (by decide)) (by decide)).app (Ch.blank (c := 32) (by decide)) (bd_of rfl rfl (by decide)) (by decide))
theorem ck_b5 : Ch [32, 37, 32] [(59, 0)] := (((Ch.blank (c := 32) (by decide)).app (Ch.sign (i := 19) (by omega)) (bd_of rfl rfl (by decide)) (by decide)).app (Ch.blank (c := 32) (by decide)) (bd_of rfl rfl (by decide)) (by decide))
theorem ck_b6 : Ch [32, 38, 32] [(60, 0)] := (((Ch.blank (c := 32) (by decide)).app (Ch.sign (i := 20) (by omega)) (bd_of rfl rfl (by decide)) (by decide)).app (Ch.blank (c := 32) (by decide)) (bd_of rfl rfl (by decide)) (by decide))
theorem ck_b7 : Ch [32, 124, 32] [(61, 0)] := (((Ch.blank (c := 32) (by decide)).app (Ch.sign (i := 21) (by omega)) (bd_of rfl rfl (by decide)) (by decide)).app (Ch.blank (c := 32) (by decide)) (bd_of rfl rfl (by decide)) (by decide))
theorem ck_b8 : Ch [32, 94, 32] [(62, 0)] := (((Ch.blank (c := 32) (by decide)).app (Ch.sign (i := 22) (by omega)) (bd_of rfl rfl (by decide)) (by decide)).app (Ch.blank (c := 32) (by decide)) (bd_of rfl rfl (by decide)) (by decide))
theorem ck_b9 : Ch [32, 38, 94, 32] [(63, 0)] := (((Ch.blank (c := 32) (by decide)).app (Ch.sign (i := 23) (by omega)) (bd_of rfl rfl (by decide)) (by decide)).app (Ch.blank (c := 32) (by decide)) (bd_of rfl rfl (by decide)) (by decide))
theorem ck_b10 : Ch [32, 60, 60, 32] [(64, 0)] := (((Ch.blank (c := 32) (by decide)).app (Ch.sign (i := 24) (by omega)) (bd_of rfl rfl (by decide)) (by decide)).app (Ch.blank (c := 32) (by decide)) (bd_of rfl rfl (by decide)) (by decide))
theorem ck_b11 : Ch [32, 62, 62, 32] [(65, 0)] := (((Ch.blank (c := 32) (by decide)).app (Ch.sign (i := 25) (by omega)) (bd_of rfl rfl (by decide)) (by decide)).app (Ch.blank (c := 32) (by decide)) (bd_of rfl rfl (by decide)) (by decide))
theorem ck_b12 : Ch [32, 61, 61, 32] [(49, 0)] := (((Ch.blank (c := 32) (by decide)).app (Ch.sign (i := 9) (by omega)) (bd_of rfl rfl (by decide)) (by decide)).app (Ch.blank (c := 32) (by decide)) (bd_of rfl rfl (by decide)) (by decide))
theorem ck_b13 : Ch [32, 33, 61, 32] [(50, 0)] := (((Ch.blank (c := 32) (by decide)).app (Ch.sign (i := 10) (by omega)) (bd_of rfl rfl (by decide)) (by decide)).app (Ch.blank (c := 32) (by decide)) (bd_of rfl rfl (by decide)) (by decide))
theorem ck_b14 : Ch [32, 60, 32] [(51, 0)] := (((Ch.blank (c := 32) (by decide)).app (Ch.sign (i := 11) (by omega)) (bd_of rfl rfl (by decide)) (by decide)).app (Ch.blank (c := 32) (by decide)) (bd_of rfl rfl (by decide)) (by decide))
theorem ck_b15 : Ch [32, 60, 61, 32] [(52, 0)] := (((Ch.blank (c := 32) (by decide)).app (Ch.sign (i := 12) (by omega)) (bd_of rfl rfl (by decide)) (by decide)).app (Ch.blank (c := 32) (by decide)) (bd_of rfl rfl (by decide)) (by decide))
theorem ck_b16 : Ch [32, 62, 32] [(53, 0)] := (((Ch.blank (c := 32) (by decide)).app (Ch.sign (i := 13) (by omega)) (bd_of rfl rfl (by decide)) (by decide)).app (Ch.blank (c := 32) (by decide)) (bd_of rfl rfl (by decide)) (by decide))
theorem ck_b17 : Ch [32, 62, 61, 32] [(54, 0)] := (((Ch.blank (c := 32) (by decide)).app (Ch.sign (i := 14) (by omega)) (bd_of rfl rfl (by decide)) (by decide)).app (Ch.blank (c := 32) (by decide)) (bd_of rfl rfl (by decide)) (by decide))
theorem ck_b18 : Ch [32, 38, 38, 32] [(66, 0)] := (((Ch.blank (c := 32) (by decide)).app (Ch.sign (i := 26) (by omega)) (bd_of rfl rfl (by decide)) (by decide)).app (Ch.blank (c := 32) (by decide)) (bd_of rfl rfl (by decide)) (by decide))
theorem ck_b19 : Ch [32, 124, 124, 32] [(67, 0)] := (((Ch.blank (c := 32) (by decide)).app (Ch.sign (i := 27) (by omega)) (bd_of rfl rfl (by decide)) (by decide)).app (Ch.blank (c := 32) (by decide)) (bd_of rfl rfl (by decide)) (by decide))
theorem hok_c (b : Bool) {s : List UInt8} {c : UInt8} (h : s.head? = some c) (h1 : c ≠ 61) (h2 : b = false → isNm c = false) : hok b s := fun d hd => by
  rw [h] at hd; cases hd; exact ⟨h1, h2⟩
theorem lok_c (b : Bool) {s : List UInt8} {c : UInt8} (h : s.getLast? = some c) (h1 : lok b c) : ∀ c', s.getLast? = some c' → lok b c' := fun d hd => by
  rw [h] at hd; cases hd; exact h1
theorem hok_nm {s r : List UInt8} (hs : nmOk s = true) : hok true (s ++ r) := fun d hd => by
  obtain ⟨h1, h2, _⟩ := nm_facts hs
  rw [head_app h1] at hd
  have hm : d ∈ s := List.mem_of_mem_head? hd
  refine ⟨?_, fun h => by cases h⟩
  rintro rfl
  have := h2 _ hm
  revert this
  decide
theorem lok_nm {s : List UInt8} (hs : nmOk s = true) : ∀ c, s.getLast? = some c → lok false c := fun c hc => by
  obtain ⟨h1, h2, _⟩ := nm_facts hs
  exact .inl (h2 c (List.mem_of_getLast? hc))
theorem bd_nmc {X s Y : List UInt8} {d : UInt8} (hs : nmOk s = true) (h : Y.head? = some d) (hd : isNm d = false) : Bd (X ++ s) Y := fun c d' hc hd' => by
  obtain ⟨h1, h2, _⟩ := nm_facts hs
  rw [last_app h1] at hc
  rw [h] at hd'
  cases hd'
  simp [okc, h2 c (List.mem_of_getLast? hc), hd]
theorem bd_sp {X Y : List UInt8} (h : X.getLast? = some 32) : Bd X Y := bd_last h (okc_blank (.inl rfl))
theorem bd_sp2 {X Y : List UInt8} : Bd (X ++ [32]) Y := bd_sp (by rw [last_app (by simp)]; rfl)
def tyK (d : Int) : List (Int × Int) := if d = 1 then [(23, 0)] else if d = 2 then [(24, 0)] else [(44, 0), (45, 0), (23, 0)]
theorem ck_ty {d : Int} (h0 : 1 ≤ d) (h1 : d ≤ 3) : Ch (typeT d) (tyK d) ∧ typeT d ≠ [] ∧ (∀ c, (typeT d).getLast? = some c → lok false c) := by
  have : d = 1 ∨ d = 2 ∨ d = 3 := by omega
  rcases this with rfl | rfl | rfl
  · exact ⟨ck_t1, by decide, lok_c false (c := 116) rfl (by simp [lok, isNm, cl])⟩
  · exact ⟨ck_t2, by decide, lok_c false (c := 108) rfl (by simp [lok, isNm, cl])⟩
  · exact ⟨ck_t3, by decide, lok_c false (c := 116) rfl (by simp [lok, isNm, cl])⟩
theorem ch_func {s : List UInt8} (h : nmOk s = true) : Ch ([102, 117, 110, 99, 32] ++ s ++ [40]) [(10, 0), (1, 0), (40, 0)] :=
  (ck_func.app (Ch.name h) (bd_sp rfl) (nm_facts h).1).app ck_lp (bd_nmc h rfl (by decide)) (by simp)
theorem ch_call {s : List UInt8} (h : nmOk s = true) : Ch (s ++ [40]) [(1, 0), (40, 0)] := (Ch.name h).app ck_lp (bd_nmc (X := []) h rfl (by decide)) (by simp)
theorem ch_at {s : List UInt8} (h : nmOk s = true) : Ch (s ++ [91]) [(1, 0), (44, 0)] := (Ch.name h).app ck_lk (bd_nmc (X := []) h rfl (by decide)) (by simp)
theorem ch_param {s : List UInt8} {d : Int} (h : nmOk s = true) (h0 : 1 ≤ d) (h1 : d ≤ 3) : Ch (s ++ [32] ++ typeT d) ([(1, 0)] ++ tyK d) :=
  ((Ch.name h).app ck_sp (bd_nmc (X := []) h rfl (by decide)) (by simp)).app (ck_ty h0 h1).1 bd_sp2 (ck_ty h0 h1).2.1
theorem ch_var {s : List UInt8} {d : Int} (h : nmOk s = true) (h0 : 1 ≤ d) (h1 : d ≤ 3) : Ch ([118, 97, 114, 32] ++ s ++ [32] ++ typeT d) ([(11, 0), (1, 0)] ++ tyK d) :=
  (((ck_var.app (Ch.name h) (bd_sp rfl) (nm_facts h).1).app ck_sp (bd_nmc h rfl (by decide)) (by simp)).app (ck_ty h0 h1).1 bd_sp2 (ck_ty h0 h1).2.1)
theorem ch_ret {d : Int} (h0 : 1 ≤ d) (h1 : d ≤ 3) : Ch ([41, 32] ++ typeT d ++ [32]) ([(41, 0)] ++ tyK d) := by
  have := (ck_rps.app (ck_ty h0 h1).1 (bd_sp rfl) (ck_ty h0 h1).2.1).app ck_sp (fun c d' hc hd => by simp at hd; subst hd; rw [last_app (ck_ty h0 h1).2.1] at hc; exact okc_of ((ck_ty h0 h1).2.2 c hc) (by decide) (fun _ => by decide)) (by simp)
  simpa using this
def opK (p : Int) : Nat := ([0, 55, 56, 57, 58, 59, 60, 61, 62, 63, 64, 65, 49, 50, 51, 52, 53, 54, 66, 67] : List Nat).getD p.toNat 0
def unK (p : Int) : Nat := ([56, 68, 62] : List Nat).getD (p - 20).toNat 0
def wordK (k : Int) : Nat := if k = 1 then 10 else if k = 3 then 42 else if k = 4 then 11 else if k = 8 then 18 else if k = 9 then 19 else if k = 10 then 12 else if k = 11 then 14 else if k = 12 then 15 else if k = 13 then 16 else if k = 14 then 17 else if k = 20 then 2 else if k = 21 then 25 else if k = 22 then 26 else if k = 23 then 27 else if k = 26 then 20 else if k = 27 then 21 else if k = 28 then 22 else 0
/-- How many tokens of a kind a node wants. -/
def wn (nm : Bool) (k : Int) (els : Bool) (p : Int) (q : Nat) : Nat := (if nm = true ∧ q = 1 then 1 else 0) + (if wordK k = q then 1 else 0) + (if els = true ∧ q = 13 then 1 else 0) + (if k = 31 ∧ opK p = q then 1 else 0) + (if k = 30 ∧ unK p = q then 1 else 0)
def wq (n : Nd) (q : Nat) : Nat := wn (decide (n.name ≠ [])) n.kind (decide (n.kind = 10 ∧ n.kids.length = 3)) n.op q
theorem wq_of {n : Nd} (nm : Bool) (k : Int) (els : Bool) (p : Int) (h1 : decide (n.name ≠ []) = nm) (h2 : n.kind = k) (h3 : decide (n.kind = 10 ∧ n.kids.length = 3) = els) (h4 : (k = 30 ∨ k = 31) → n.op = p) : wq n = wn nm k els p := by
  funext q
  unfold wq
  rw [h1, h3, h2]
  by_cases hk : k = 30 ∨ k = 31
  · rw [h4 hk]
  · simp only [wn]
    rw [if_neg (c := k = 31 ∧ opK n.op = q) (by omega), if_neg (c := k = 31 ∧ opK p = q) (by omega), if_neg (c := k = 30 ∧ unK n.op = q) (by omega), if_neg (c := k = 30 ∧ unK p = q) (by omega)]
def owB (f : Nat → Nat) (own : List (Int × Int)) : Bool := ((List.range 70).all fun q => !CT q || cnt q own == f q) && cnt 40 own == cnt 41 own && cnt 42 own == cnt 43 own && cnt 44 own == cnt 45 own && own.all fun p => decide (1 ≤ p.1) && decide (p.1 ≤ 69)
theorem Ow.of {f : Nat → Nat} {own : List (Int × Int)} (h : owB f own = true) : Ow f own := by
  simp only [owB, Bool.and_eq_true, List.all_eq_true, beq_iff_eq, Bool.or_eq_true, Bool.not_eq_true', decide_eq_true_eq] at h
  obtain ⟨⟨⟨⟨h1, h2⟩, h3⟩, h4⟩, h5⟩ := h
  refine ⟨fun q hq => ?_, h2, h3, h4, fun p hp => h5 p hp⟩
  have hq2 : q < 70 := by
    simp only [CT, Bool.or_eq_true, Bool.and_eq_true, decide_eq_true_eq] at hq
    omega
  rcases h1 q (by simpa using hq2) with h | h
  · rw [h] at hq; cases hq
  · exact h
theorem cnt_com {q : Nat} (hq : q ≠ 46) : ∀ t : List Int, cnt q (t.flatMap fun _ => [((46 : Int), (0 : Int))]) = 0
  | [] => rfl
  | x :: t => by
    rw [List.flatMap_cons, cnt_app, cnt_com hq t]
    have : ¬ ((46 : Int) = (q : Int)) := by omega
    simp [cnt, this]
theorem Ow.com {f : Nat → Nat} {A B : List (Int × Int)} (h : Ow f (A ++ B)) (t : List Int) : Ow f (A ++ ((t.flatMap fun _ => [((46 : Int), (0 : Int))]) ++ B)) := by
  have e : ∀ q, q ≠ 46 → cnt q (A ++ ((t.flatMap fun _ => [((46 : Int), (0 : Int))]) ++ B)) = cnt q (A ++ B) := fun q hq => by
    simp only [cnt_app, cnt_com hq]; omega
  refine ⟨fun q hq => by rw [e q (by rintro rfl; simp [CT] at hq)]; exact h.ct q hq, by rw [e _ (by omega), e _ (by omega)]; exact h.p1, by rw [e _ (by omega), e _ (by omega)]; exact h.p2, by rw [e _ (by omega), e _ (by omega)]; exact h.p3, fun p hp => ?_⟩
  simp only [List.mem_append, List.mem_flatMap, List.mem_cons, List.not_mem_nil, or_false] at hp
  rcases hp with h1 | ⟨_, _, rfl⟩ | h1
  · exact h.rg p (by simp [h1])
  · exact ⟨by decide, by decide⟩
  · exact h.rg p (by simp [h1])
theorem Ow.par {f : Nat → Nat} {k1 E1 E2 : List (Int × Int)} (h : Ow f k1) (h1 : E1 = [] ∨ E1 = [(40, 0), (41, 0)]) (h2 : E2 = [] ∨ E2 = [(40, 0), (41, 0)]) : Ow f (E1 ++ (k1 ++ (E2 ++ []))) := by
  have z : ∀ E : List (Int × Int), E = [] ∨ E = [(40, 0), (41, 0)] → (∀ q, CT q = true → cnt q E = 0) ∧ cnt 40 E = cnt 41 E ∧ cnt 42 E = cnt 43 E ∧ cnt 44 E = cnt 45 E ∧ ∀ p ∈ E, 1 ≤ p.1 ∧ p.1 ≤ 69 := by
    intro E hE
    rcases hE with rfl | rfl
    · exact ⟨fun _ _ => rfl, rfl, rfl, rfl, by simp⟩
    · refine ⟨fun q hq => ?_, by decide, by decide, by decide, by simp⟩
      have g40 : q ≠ 40 := by rintro rfl; revert hq; decide
      have g41 : q ≠ 41 := by rintro rfl; revert hq; decide
      have h40 : ¬ ((40 : Int) = (q : Int)) := by omega
      have h41 : ¬ ((41 : Int) = (q : Int)) := by omega
      simp [cnt, h40, h41]
  obtain ⟨a1, a2, a3, a4, a5⟩ := z E1 h1
  obtain ⟨b1, b2, b3, b4, b5⟩ := z E2 h2
  have c1 := h.p1
  have c2 := h.p2
  have c3 := h.p3
  refine ⟨fun q hq => ?_, ?_, ?_, ?_, fun p hp => ?_⟩
  · simp only [cnt_app, cnt_nil, a1 q hq, b1 q hq, h.ct q hq]; omega
  · simp only [cnt_app, cnt_nil]; omega
  · simp only [cnt_app, cnt_nil]; omega
  · simp only [cnt_app, cnt_nil]; omega
  · simp only [List.mem_append, List.not_mem_nil, or_false] at hp
    rcases hp with h' | h' | h'
    · exact a5 p h'
    · exact h.rg p h'
    · exact b5 p h'
theorem PT.to {sq b l own ks ns own' ks' ns'} (h : PT sq b l own ks ns) (e1 : own = own') (e2 : ks = ks') (e3 : ns = ns') : PT sq b l own' ks' ns' := by subst e1 e2 e3; exact h
theorem pt_fl {sq : Int → List Int} {r own ks ns} (h : PT sq false r own ks ns) : ∀ t : List Int, PT sq false ((t.flatMap fun x => [tp ([44, 32] : List UInt8), wp x]) ++ r) ((t.flatMap fun _ => [((46 : Int), (0 : Int))]) ++ own) (t ++ ks) (t.flatMap sq ++ ns)
  | [] => by simpa using h
  | x :: t => by
    have := PT.tp (sq := sq) (b := false) true ck_comma (by simp) (hok_c false (c := 44) rfl (by decide) (by intro _; decide)) (lok_c true (c := 32) rfl (by simp [lok])) (PT.wp x (pt_fl h t))
    exact PT.to this (by simp) (by simp) (by simp [nums])
theorem pt_jn {sq : Int → List Int} {r own ks ns} (h : PT sq false r own ks ns) (t : List Int) : ∃ u : List Int, PT sq true (jn t ++ r) ((u.flatMap fun _ => [((46 : Int), (0 : Int))]) ++ own) (t ++ ks) (t.flatMap sq ++ ns) := by
  cases t with
  | nil => exact ⟨[], by simpa [jn] using h.weak⟩
  | cons x t => exact ⟨t, PT.to (PT.wp x (pt_fl h t)) rfl rfl (by simp)⟩
theorem pt_bl {sq : Int → List Int} : ∀ (l : List Int) (b : Bool), PT sq b ((l.flatMap fun x => [np, wp x]) ++ [ep]) [(43, 0)] l (l.flatMap sq)
  | [], b => PT.to (PT.ep (PT.nil sq _)) (by simp) rfl (by simp)
  | x :: l, b => PT.to (PT.np (PT.wp x (pt_bl l false))) rfl rfl (by simp)
theorem nm_yes {n : Nd} (h : ffit n = true) (hm : (mayOf n.kind).name = true) : nmOk n.name = true := by
  simp only [ffit, Bool.and_eq_true] at h
  have := h.2
  rw [hm] at this
  simpa [nmFits] using this
theorem nm_no {n : Nd} (h : ffit n = true) (hm : (mayOf n.kind).name = false) : n.name = [] := by
  simp only [ffit, Bool.and_eq_true] at h
  have := h.2
  rw [hm] at this
  simpa [nmFits] using this
theorem dn_yes {n : Nd} (h : nmOk n.name = true) : decide (n.name ≠ []) = true := by simp [(nm_facts h).1]
theorem dn_no {n : Nd} (h : n.name = []) : decide (n.name ≠ []) = false := by simp [h]

set_option maxRecDepth 10000 in
set_option maxHeartbeats 1000000 in
theorem node_pt {N : List Nd} {n : Nd} (hOK : NdOKx N n) (sq : Int → List Int) : ∃ own, PT sq true (ndParts N n) own n.kids (if n.kind = 20 then [n.val] else n.kids.flatMap sq) ∧ Ow (wq n) own := by
  have hff := hOK.ff
  have hkf := hOK.kf
  have hrg := ffit_rng hff
  have hk : n.kind = 1 ∨ n.kind = 2 ∨ n.kind = 3 ∨ n.kind = 4 ∨ n.kind = 5 ∨ n.kind = 6 ∨ n.kind = 7 ∨ n.kind = 8 ∨ n.kind = 9 ∨ n.kind = 10 ∨ n.kind = 11 ∨ n.kind = 12 ∨ n.kind = 13 ∨ n.kind = 14 ∨ n.kind = 20 ∨ n.kind = 21 ∨ n.kind = 22 ∨ n.kind = 23 ∨ n.kind = 24 ∨ n.kind = 25 ∨ n.kind = 26 ∨ n.kind = 27 ∨ n.kind = 28 ∨ n.kind = 29 ∨ n.kind = 30 ∨ n.kind = 31 := by
    rcases hOK.vk with h | h <;> omega
  rcases hk with hk | hk | hk | hk | hk | hk | hk | hk | hk | hk | hk | hk | hk | hk | hk | hk | hk | hk | hk | hk | hk | hk | hk | hk | hk | hk
  · have hc : 0 < n.kids.length := by simp [kfit, hk] at hkf; have := hkf.1.1; omega
    obtain ⟨ks, j, hkids⟩ : ∃ ks j, n.kids = ks ++ [j] := ⟨n.kids.dropLast, n.kids.getLast (by intro e; rw [e] at hc; simp at hc), (List.dropLast_concat_getLast _).symm⟩
    have hnm := nm_yes hff (by rw [hk]; rfl)
    have e : ndParts N n = fnParts n := by simp [ndParts, hk]
    rw [e]
    unfold fnParts
    have e1 : n.kids.take (n.kids.length - 1) = ks := by simp [hkids]
    have e2 : n.kids.getD (n.kids.length - 1) 0 = j := by simp [hkids]
    rw [e1, e2, wq_of true 1 false 0 (dn_yes hnm) hk (by simp [hk]) (by intro h; omega), if_neg (show ¬ n.kind = 20 by omega), hkids]
    have hfst : hok true ([102, 117, 110, 99, 32] ++ n.name ++ [40]) := hok_c true (c := 102) rfl (by decide) (by intro h; cases h)
    have hlst : ∀ c, ([102, 117, 110, 99, 32] ++ n.name ++ [40]).getLast? = some c → lok true c := lok_c true (c := 40) (by rw [last_app (by simp)]; rfl) (by simp [lok])
    have go : ∀ (s : List UInt8) (k1 : List (Int × Int)), Ch s k1 → s ≠ [] → hok false s → (∀ c, s.getLast? = some c → lok true c) → nums k1 = [] → Ow (wn true 1 false 0) ([(10, 0), (1, 0), (40, 0)] ++ k1) → ∃ own, PT sq true ([tp ([102, 117, 110, 99, 32] ++ n.name ++ [40])] ++ jn ks ++ [tp s, wp j, tp [10]]) own (ks ++ [j]) ((ks ++ [j]).flatMap sq) ∧ Ow (wn true 1 false 0) own := by
      intro s k1 hs h1 h2 h3 h4 h5
      obtain ⟨u, hu⟩ := pt_jn (PT.tp (sq := sq) (b := false) true hs h1 h2 h3 (PT.wp j (PT.tp true ck_nl (by simp) (hok_c false (c := 10) rfl (by decide) (by intro _; decide)) (lok_c true (c := 10) rfl (by simp [lok, isNm, cl])) (PT.nil sq _)))) ks
      have := PT.tp (sq := sq) (b := true) true (ch_func hnm) (by simp) hfst hlst hu
      refine ⟨_, PT.to (by simpa using this) rfl (by simp) (by rw [h4]; simp [nums]), ?_⟩
      have := h5.com u
      simpa using this
    by_cases hd : n.decl = 0
    · rw [if_pos hd]
      exact go _ _ ck_rps (by simp) (hok_c false (c := 41) rfl (by decide) (by intro _; decide)) (lok_c true (c := 32) rfl (by simp [lok])) rfl (Ow.of (by decide))
    · rw [if_neg hd]
      have h0 : 1 ≤ n.decl := by have := hrg.1; rw [hk] at this; simp [mayOf] at this; omega
      have h1 : n.decl ≤ 3 := by have := hrg.2.1; rw [hk] at this; simpa [mayOf] using this
      refine go _ _ (ch_ret h0 h1) (by simp) (hok_c false (c := 41) rfl (by decide) (by intro _; decide)) (lok_c true (c := 32) (by rw [last_app (by simp)]; rfl) (by simp [lok])) ?_ (Ow.of ?_)
      · have : n.decl = 1 ∨ n.decl = 2 ∨ n.decl = 3 := by omega
        rcases this with h | h | h <;> rw [h] <;> rfl
      · have : n.decl = 1 ∨ n.decl = 2 ∨ n.decl = 3 := by omega
        rcases this with h | h | h <;> rw [h] <;> decide
  · have hkids : n.kids = [] := by simp [kfit, hk] at hkf; exact hkf
    have hnm := nm_yes hff (by rw [hk]; rfl)
    have h0 : 1 ≤ n.decl := by have := hrg.1; rw [hk] at this; simpa [mayOf] using this
    have h1 : n.decl ≤ 3 := by have := hrg.2.1; rw [hk] at this; simpa [mayOf] using this
    have h3 : n.decl = 1 ∨ n.decl = 2 ∨ n.decl = 3 := by omega
    have e : ndParts N n = [tp (n.name ++ ([32] : List UInt8) ++ typeT n.decl)] := by simp [ndParts, hk, isSt, stParts]
    rw [e]
    rw [wq_of true 2 false 0 (dn_yes hnm) hk (by simp [hk]) (by intro h; omega), if_neg (show ¬ n.kind = 20 by omega)]
    refine ⟨_, PT.to (PT.tp (sq := sq) (b := true) false (ch_param hnm h0 h1) (by simp) (by rw [List.append_assoc]; exact hok_nm hnm) (fun c hc => (ck_ty h0 h1).2.2 c (by rw [last_app (ck_ty h0 h1).2.1] at hc; exact hc)) (PT.nil sq _)) rfl (by simp [hkids]) ?_, Ow.of ?_⟩
    · rcases h3 with h | h | h <;> rw [h, hkids] <;> rfl
    · rcases h3 with h | h | h <;> rw [h] <;> decide
  · have hnm := nm_no hff (by rw [hk]; rfl)
    have e : ndParts N n = [tp ([123] : List UInt8)] ++ ((n.kids.flatMap fun x => [np, wp x]) ++ [ep]) := by simp [ndParts, hk, blParts]
    rw [e]
    rw [wq_of false 3 false 0 (dn_no hnm) hk (by simp [hk]) (by intro h; omega), if_neg (show ¬ n.kind = 20 by omega)]
    exact ⟨_, PT.to (PT.tp true ck_lb (by simp) (hok_c true (c := 123) rfl (by decide) (by intro h; cases h)) (lok_c true (c := 123) rfl (by simp [lok, isNm, cl])) (pt_bl n.kids true)) rfl rfl (by simp [nums]), Ow.of (by decide)⟩
  · have hnm := nm_yes hff (by rw [hk]; rfl)
    have h0 : 1 ≤ n.decl := by have := hrg.1; rw [hk] at this; simpa [mayOf] using this
    have h1 : n.decl ≤ 3 := by have := hrg.2.1; rw [hk] at this; simpa [mayOf] using this
    have h3 : n.decl = 1 ∨ n.decl = 2 ∨ n.decl = 3 := by omega
    have hl : n.kids.length ≤ 1 := by simp [kfit, hk] at hkf; exact hkf.1
    have e : ndParts N n = valParts (([118, 97, 114, 32] : List UInt8) ++ n.name ++ ([32] : List UInt8) ++ typeT n.decl) ([32, 61, 32] : List UInt8) n.kids := by simp [ndParts, hk, isSt, stParts]
    rw [e, wq_of true 4 false 0 (dn_yes hnm) hk (by simp [hk]) (by intro h; omega), if_neg (show ¬ n.kind = 20 by omega)]
    match hkids : n.kids, hl with
    | [], _ =>
      refine ⟨_, PT.to (PT.tp (sq := sq) (b := true) false (ch_var hnm h0 h1) (by simp) (hok_c true (c := 118) rfl (by decide) (by intro h; cases h)) (fun c hc => (ck_ty h0 h1).2.2 c (by rw [last_app (ck_ty h0 h1).2.1] at hc; exact hc)) (PT.tp false ck_semi (by simp) (hok_c false (c := 59) rfl (by decide) (by intro _; decide)) (lok_c false (c := 59) rfl (by simp [lok, isNm, cl])) (PT.nil sq _))) rfl rfl ?_, Ow.of ?_⟩
      · rcases h3 with h | h | h <;> rw [h] <;> rfl
      · rcases h3 with h | h | h <;> rw [h] <;> decide
    | [x], _ =>
      refine ⟨_, PT.to (PT.tp (sq := sq) (b := true) false (ch_var hnm h0 h1) (by simp) (hok_c true (c := 118) rfl (by decide) (by intro h; cases h)) (fun c hc => (ck_ty h0 h1).2.2 c (by rw [last_app (ck_ty h0 h1).2.1] at hc; exact hc)) (PT.tp true ck_eq (by simp) (hok_c false (c := 32) rfl (by decide) (by intro _; decide)) (lok_c true (c := 32) rfl (by simp [lok, isNm, cl])) (PT.wp x (PT.tp false ck_semi (by simp) (hok_c false (c := 59) rfl (by decide) (by intro _; decide)) (lok_c false (c := 59) rfl (by simp [lok, isNm, cl])) (PT.nil sq _))))) rfl rfl ?_, Ow.of ?_⟩
      · rcases h3 with h | h | h <;> rw [h] <;> simp [nums, tyK]
      · rcases h3 with h | h | h <;> rw [h] <;> decide
  · obtain ⟨x, hkids⟩ := one_kid (by simp [kfit, hk] at hkf; exact hkf.1)
    have hnm := nm_yes hff (by rw [hk]; rfl)
    have e : ndParts N n = [tp n.name, tp ([32, 61, 32] : List UInt8), wp x, tp ([59] : List UInt8)] := by simp [ndParts, hk, isSt, stParts, hkids, valParts]
    rw [e, wq_of true 5 false 0 (dn_yes hnm) hk (by simp [hk]) (by intro h; omega), if_neg (show ¬ n.kind = 20 by omega)]
    exact ⟨_, PT.to (PT.tp (sq := sq) (b := true) false (Ch.name hnm) (nm_facts hnm).1 (by have := hok_nm (r := []) hnm; rwa [List.append_nil] at this) (lok_nm hnm) (PT.tp true ck_eq (by simp) (hok_c false (c := 32) rfl (by decide) (by intro _; decide)) (lok_c true (c := 32) rfl (by simp [lok, isNm, cl])) (PT.wp x (PT.tp false ck_semi (by simp) (hok_c false (c := 59) rfl (by decide) (by intro _; decide)) (lok_c false (c := 59) rfl (by simp [lok, isNm, cl])) (PT.nil sq _))))) rfl (by simp [hkids]) (by simp [nums, hkids]), Ow.of (by decide)⟩
  · obtain ⟨x, y, hkids⟩ := two_kids (by simp [kfit, hk] at hkf; exact hkf.1)
    have hnm := nm_yes hff (by rw [hk]; rfl)
    have e : ndParts N n = [tp (n.name ++ ([91] : List UInt8)), wp x, tp ([93, 32, 61, 32] : List UInt8), wp y, tp ([59] : List UInt8)] := by simp [ndParts, hk, isSt, stParts, hkids]
    rw [e, wq_of true 6 false 0 (dn_yes hnm) hk (by simp [hk]) (by intro h; omega), if_neg (show ¬ n.kind = 20 by omega)]
    exact ⟨_, PT.to (PT.tp (sq := sq) (b := true) true (ch_at hnm) (by simp) (hok_nm hnm) (lok_c true (c := 91) (by rw [last_app (by simp)]; rfl) (by simp [lok])) (PT.wp x (PT.tp true ck_rkeq (by simp) (hok_c false (c := 93) rfl (by decide) (by intro _; decide)) (lok_c true (c := 32) rfl (by simp [lok, isNm, cl])) (PT.wp y (PT.tp false ck_semi (by simp) (hok_c false (c := 59) rfl (by decide) (by intro _; decide)) (lok_c false (c := 59) rfl (by simp [lok, isNm, cl])) (PT.nil sq _)))))) rfl (by simp [hkids]) (by simp [nums, hkids]), Ow.of (by decide)⟩
  · obtain ⟨x, hkids⟩ := one_kid (by simp [kfit, hk] at hkf; exact hkf.1)
    have hnm := nm_no hff (by rw [hk]; rfl)
    have e : ndParts N n = [wp x, tp ([59] : List UInt8)] := by simp [ndParts, hk, isSt, stParts, hkids]
    rw [e, wq_of false 7 false 0 (dn_no hnm) hk (by simp [hk]) (by intro h; omega), if_neg (show ¬ n.kind = 20 by omega)]
    exact ⟨_, PT.to (PT.wp x (PT.tp false ck_semi (by simp) (hok_c false (c := 59) rfl (by decide) (by intro _; decide)) (lok_c false (c := 59) rfl (by simp [lok, isNm, cl])) (PT.nil sq _))) rfl (by simp [hkids]) (by simp [nums, hkids]), Ow.of (by decide)⟩
  · obtain ⟨x, hkids⟩ := one_kid (by simp [kfit, hk] at hkf; exact hkf.1)
    have hnm := nm_no hff (by rw [hk]; rfl)
    have e : ndParts N n = [tp ([112, 114, 105, 110, 116, 40] : List UInt8), wp x, tp ([41, 59] : List UInt8)] := by simp [ndParts, hk, isSt, stParts, hkids]
    rw [e, wq_of false 8 false 0 (dn_no hnm) hk (by simp [hk]) (by intro h; omega), if_neg (show ¬ n.kind = 20 by omega)]
    exact ⟨_, PT.to (PT.tp true ck_print (by simp) (hok_c true (c := 112) rfl (by decide) (by intro h; cases h)) (lok_c true (c := 40) rfl (by simp [lok, isNm, cl])) (PT.wp x (PT.tp false ck_rpsemi (by simp) (hok_c false (c := 41) rfl (by decide) (by intro _; decide)) (lok_c false (c := 59) rfl (by simp [lok, isNm, cl])) (PT.nil sq _)))) rfl (by simp [hkids]) (by simp [nums, hkids]), Ow.of (by decide)⟩
  · obtain ⟨x, hkids⟩ := one_kid (by simp [kfit, hk] at hkf; exact hkf.1)
    have hnm := nm_no hff (by rw [hk]; rfl)
    have e : ndParts N n = [tp ([112, 97, 110, 105, 99, 40] : List UInt8), wp x, tp ([41, 59] : List UInt8)] := by simp [ndParts, hk, isSt, stParts, hkids]
    rw [e, wq_of false 9 false 0 (dn_no hnm) hk (by simp [hk]) (by intro h; omega), if_neg (show ¬ n.kind = 20 by omega)]
    exact ⟨_, PT.to (PT.tp true ck_panic (by simp) (hok_c true (c := 112) rfl (by decide) (by intro h; cases h)) (lok_c true (c := 40) rfl (by simp [lok, isNm, cl])) (PT.wp x (PT.tp false ck_rpsemi (by simp) (hok_c false (c := 41) rfl (by decide) (by intro _; decide)) (lok_c false (c := 59) rfl (by simp [lok, isNm, cl])) (PT.nil sq _)))) rfl (by simp [hkids]) (by simp [nums, hkids]), Ow.of (by decide)⟩
  · have hnm := nm_no hff (by rw [hk]; rfl)
    have hl : n.kids.length = 2 ∨ n.kids.length = 3 := by simp [kfit, hk] at hkf; exact hkf.1.1.1
    rcases hl with hl | hl
    · obtain ⟨x, y, hkids⟩ := two_kids hl
      have e : ndParts N n = [tp ([105, 102, 32] : List UInt8), wp x, tp ([32] : List UInt8), wp y] := by simp [ndParts, hk, isSt, stParts, hkids]
      rw [e, wq_of false 10 false 0 (dn_no hnm) hk (by simp [hkids]) (by intro h; omega), if_neg (show ¬ n.kind = 20 by omega)]
      exact ⟨_, PT.to (PT.tp true ck_if (by simp) (hok_c true (c := 105) rfl (by decide) (by intro h; cases h)) (lok_c true (c := 32) rfl (by simp [lok, isNm, cl])) (PT.wp x (PT.tp true ck_sp (by simp) (hok_c false (c := 32) rfl (by decide) (by intro _; decide)) (lok_c true (c := 32) rfl (by simp [lok, isNm, cl])) (PT.wp y (PT.nil sq _))))) rfl (by simp [hkids]) (by simp [nums, hkids]), Ow.of (by decide)⟩
    · obtain ⟨x, y, z, hkids⟩ := three_kids hl
      have e : ndParts N n = [tp ([105, 102, 32] : List UInt8), wp x, tp ([32] : List UInt8), wp y, tp ([32, 101, 108, 115, 101, 32] : List UInt8), wp z] := by simp [ndParts, hk, isSt, stParts, hkids]
      rw [e, wq_of false 10 true 0 (dn_no hnm) hk (by simp [hk, hkids]) (by intro h; omega), if_neg (show ¬ n.kind = 20 by omega)]
      exact ⟨_, PT.to (PT.tp true ck_if (by simp) (hok_c true (c := 105) rfl (by decide) (by intro h; cases h)) (lok_c true (c := 32) rfl (by simp [lok, isNm, cl])) (PT.wp x (PT.tp true ck_sp (by simp) (hok_c false (c := 32) rfl (by decide) (by intro _; decide)) (lok_c true (c := 32) rfl (by simp [lok, isNm, cl])) (PT.wp y (PT.tp true ck_else (by simp) (hok_c false (c := 32) rfl (by decide) (by intro _; decide)) (lok_c true (c := 32) rfl (by simp [lok, isNm, cl])) (PT.wp z (PT.nil sq _))))))) rfl (by simp [hkids]) (by simp [nums, hkids]), Ow.of (by decide)⟩
  · have hnm := nm_no hff (by rw [hk]; rfl)
    have hl : n.kids.length = 1 ∨ n.kids.length = 2 := by simp [kfit, hk] at hkf; exact hkf.1.1
    rcases hl with hl | hl
    · obtain ⟨x, hkids⟩ := one_kid hl
      have e : ndParts N n = [tp ([102, 111, 114] : List UInt8), tp ([32] : List UInt8), wp x] := by simp [ndParts, hk, isSt, stParts, hkids]
      rw [e, wq_of false 11 false 0 (dn_no hnm) hk (by simp [hk]) (by intro h; omega), if_neg (show ¬ n.kind = 20 by omega)]
      exact ⟨_, PT.to (PT.tp false ck_for (by simp) (hok_c true (c := 102) rfl (by decide) (by intro h; cases h)) (lok_c false (c := 114) rfl (by simp [lok, isNm, cl])) (PT.tp true ck_sp (by simp) (hok_c false (c := 32) rfl (by decide) (by intro _; decide)) (lok_c true (c := 32) rfl (by simp [lok, isNm, cl])) (PT.wp x (PT.nil sq _)))) rfl (by simp [hkids]) (by simp [nums, hkids]), Ow.of (by decide)⟩
    · obtain ⟨x, y, hkids⟩ := two_kids hl
      have e : ndParts N n = [tp ([102, 111, 114] : List UInt8), tp ([32] : List UInt8), wp x, tp ([32] : List UInt8), wp y] := by simp [ndParts, hk, isSt, stParts, hkids]
      rw [e, wq_of false 11 false 0 (dn_no hnm) hk (by simp [hk]) (by intro h; omega), if_neg (show ¬ n.kind = 20 by omega)]
      exact ⟨_, PT.to (PT.tp false ck_for (by simp) (hok_c true (c := 102) rfl (by decide) (by intro h; cases h)) (lok_c false (c := 114) rfl (by simp [lok, isNm, cl])) (PT.tp true ck_sp (by simp) (hok_c false (c := 32) rfl (by decide) (by intro _; decide)) (lok_c true (c := 32) rfl (by simp [lok, isNm, cl])) (PT.wp x (PT.tp true ck_sp (by simp) (hok_c false (c := 32) rfl (by decide) (by intro _; decide)) (lok_c true (c := 32) rfl (by simp [lok, isNm, cl])) (PT.wp y (PT.nil sq _)))))) rfl (by simp [hkids]) (by simp [nums, hkids]), Ow.of (by decide)⟩
  · have hnm := nm_no hff (by rw [hk]; rfl)
    have hl : n.kids.length ≤ 1 := by simp [kfit, hk] at hkf; exact hkf.1
    match hkids : n.kids, hl with
    | [], _ =>
      have e : ndParts N n = [tp ([114, 101, 116, 117, 114, 110] : List UInt8), tp ([59] : List UInt8)] := by simp [ndParts, hk, isSt, stParts, hkids, valParts]
      rw [e, wq_of false 12 false 0 (dn_no hnm) hk (by simp [hk]) (by intro h; omega), if_neg (show ¬ n.kind = 20 by omega)]
      exact ⟨_, PT.to (PT.tp false ck_ret (by simp) (hok_c true (c := 114) rfl (by decide) (by intro h; cases h)) (lok_c false (c := 110) rfl (by simp [lok, isNm, cl])) (PT.tp false ck_semi (by simp) (hok_c false (c := 59) rfl (by decide) (by intro _; decide)) (lok_c false (c := 59) rfl (by simp [lok, isNm, cl])) (PT.nil sq _))) rfl rfl (by simp [nums]), Ow.of (by decide)⟩
    | [x], _ =>
      have e : ndParts N n = [tp ([114, 101, 116, 117, 114, 110] : List UInt8), tp ([32] : List UInt8), wp x, tp ([59] : List UInt8)] := by simp [ndParts, hk, isSt, stParts, hkids, valParts]
      rw [e, wq_of false 12 false 0 (dn_no hnm) hk (by simp [hk]) (by intro h; omega), if_neg (show ¬ n.kind = 20 by omega)]
      exact ⟨_, PT.to (PT.tp false ck_ret (by simp) (hok_c true (c := 114) rfl (by decide) (by intro h; cases h)) (lok_c false (c := 110) rfl (by simp [lok, isNm, cl])) (PT.tp true ck_sp (by simp) (hok_c false (c := 32) rfl (by decide) (by intro _; decide)) (lok_c true (c := 32) rfl (by simp [lok, isNm, cl])) (PT.wp x (PT.tp false ck_semi (by simp) (hok_c false (c := 59) rfl (by decide) (by intro _; decide)) (lok_c false (c := 59) rfl (by simp [lok, isNm, cl])) (PT.nil sq _))))) rfl rfl (by simp [nums]), Ow.of (by decide)⟩
  · have hkids : n.kids = [] := by simp [kfit, hk] at hkf; exact hkf
    have hnm := nm_no hff (by rw [hk]; rfl)
    have e : ndParts N n = [tp ([98, 114, 101, 97, 107, 59] : List UInt8)] := by simp [ndParts, hk, isSt, stParts, hkids]
    rw [e, wq_of false 13 false 0 (dn_no hnm) hk (by simp [hk]) (by intro h; omega), if_neg (show ¬ n.kind = 20 by omega)]
    exact ⟨_, PT.to (PT.tp false ck_brk (by simp) (hok_c true (c := 98) rfl (by decide) (by intro h; cases h)) (lok_c false (c := 59) rfl (by simp [lok, isNm, cl])) (PT.nil sq _)) rfl (by simp [hkids]) (by simp [nums, hkids]), Ow.of (by decide)⟩
  · have hkids : n.kids = [] := by simp [kfit, hk] at hkf; exact hkf
    have hnm := nm_no hff (by rw [hk]; rfl)
    have e : ndParts N n = [tp ([99, 111, 110, 116, 105, 110, 117, 101, 59] : List UInt8)] := by simp [ndParts, hk, isSt, stParts, hkids]
    rw [e, wq_of false 14 false 0 (dn_no hnm) hk (by simp [hk]) (by intro h; omega), if_neg (show ¬ n.kind = 20 by omega)]
    exact ⟨_, PT.to (PT.tp false ck_cont (by simp) (hok_c true (c := 99) rfl (by decide) (by intro h; cases h)) (lok_c false (c := 59) rfl (by simp [lok, isNm, cl])) (PT.nil sq _)) rfl (by simp [hkids]) (by simp [nums, hkids]), Ow.of (by decide)⟩
  · have hkids : n.kids = [] := by simp [kfit, hk] at hkf; exact hkf
    have hnm := nm_no hff (by rw [hk]; rfl)
    obtain ⟨v, hv⟩ := nat_of hrg.2.2.2.2
    have hvm := hOK.val
    have e : ndParts N n = [tp (dcm v)] := by simp [ndParts, hk, isSt, exParts, hv]
    rw [e, wq_of false 20 false 0 (dn_no hnm) hk (by simp [hk]) (by intro h; omega), if_pos hk]
    have hd := dcm_all v
    refine ⟨_, PT.to (PT.tp (sq := sq) (b := true) false (Ch.num (by omega)) (dcm_ne v) (fun d hd' => ⟨?_, fun h => by cases h⟩) (fun c hc => .inl (by simp [isNm, hd c (List.mem_of_getLast? hc)])) (PT.nil sq _)) rfl (by simp [hkids]) (by simp [nums, hv]), Ow.of rfl⟩
    rintro rfl
    have := hd 61 (List.mem_of_mem_head? hd')
    revert this
    decide
  · have hkids : n.kids = [] := by simp [kfit, hk] at hkf; exact hkf
    have hnm := nm_no hff (by rw [hk]; rfl)
    have e : ndParts N n = [tp ([116, 114, 117, 101] : List UInt8)] := by simp [ndParts, hk, isSt, exParts, hkids]
    rw [e, wq_of false 21 false 0 (dn_no hnm) hk (by simp [hk]) (by intro h; omega), if_neg (show ¬ n.kind = 20 by omega)]
    exact ⟨_, PT.to (PT.tp false ck_true (by simp) (hok_c true (c := 116) rfl (by decide) (by intro h; cases h)) (lok_c false (c := 101) rfl (by simp [lok, isNm, cl])) (PT.nil sq _)) rfl (by simp [hkids]) (by simp [nums, hkids]), Ow.of (by decide)⟩
  · have hkids : n.kids = [] := by simp [kfit, hk] at hkf; exact hkf
    have hnm := nm_no hff (by rw [hk]; rfl)
    have e : ndParts N n = [tp ([102, 97, 108, 115, 101] : List UInt8)] := by simp [ndParts, hk, isSt, exParts, hkids]
    rw [e, wq_of false 22 false 0 (dn_no hnm) hk (by simp [hk]) (by intro h; omega), if_neg (show ¬ n.kind = 20 by omega)]
    exact ⟨_, PT.to (PT.tp false ck_false (by simp) (hok_c true (c := 102) rfl (by decide) (by intro h; cases h)) (lok_c false (c := 101) rfl (by simp [lok, isNm, cl])) (PT.nil sq _)) rfl (by simp [hkids]) (by simp [nums, hkids]), Ow.of (by decide)⟩
  · have hkids : n.kids = [] := by simp [kfit, hk] at hkf; exact hkf
    have hnm := nm_no hff (by rw [hk]; rfl)
    have e : ndParts N n = [tp ([110, 105, 108] : List UInt8)] := by simp [ndParts, hk, isSt, exParts, hkids]
    rw [e, wq_of false 23 false 0 (dn_no hnm) hk (by simp [hk]) (by intro h; omega), if_neg (show ¬ n.kind = 20 by omega)]
    exact ⟨_, PT.to (PT.tp false ck_nil (by simp) (hok_c true (c := 110) rfl (by decide) (by intro h; cases h)) (lok_c false (c := 108) rfl (by simp [lok, isNm, cl])) (PT.nil sq _)) rfl (by simp [hkids]) (by simp [nums, hkids]), Ow.of (by decide)⟩
  · have hkids : n.kids = [] := by simp [kfit, hk] at hkf; exact hkf
    have hnm := nm_yes hff (by rw [hk]; rfl)
    have e : ndParts N n = [tp n.name] := by simp [ndParts, hk, isSt, exParts]
    rw [e, wq_of true 24 false 0 (dn_yes hnm) hk (by simp [hk]) (by intro h; omega), if_neg (show ¬ n.kind = 20 by omega)]
    exact ⟨_, PT.to (PT.tp (sq := sq) (b := true) false (Ch.name hnm) (nm_facts hnm).1 (by have := hok_nm (r := []) hnm; rwa [List.append_nil] at this) (lok_nm hnm) (PT.nil sq _)) rfl (by simp [hkids]) (by simp [nums, hkids]), Ow.of (by decide)⟩
  · have hnm := nm_yes hff (by rw [hk]; rfl)
    have e : ndParts N n = [tp (n.name ++ ([40] : List UInt8))] ++ (jn n.kids ++ [tp ([41] : List UInt8)]) := by simp [ndParts, hk, isSt, exParts]
    rw [e, wq_of true 25 false 0 (dn_yes hnm) hk (by simp [hk]) (by intro h; omega), if_neg (show ¬ n.kind = 20 by omega)]
    obtain ⟨u, hu⟩ := pt_jn (PT.tp false ck_rp (by simp) (hok_c false (c := 41) rfl (by decide) (by intro _; decide)) (lok_c false (c := 41) rfl (by simp [lok, isNm, cl])) (PT.nil sq _)) n.kids
    have := PT.tp (sq := sq) (b := true) true (ch_call hnm) (by simp) (hok_nm hnm) (lok_c true (c := 40) (by rw [last_app (by simp)]; rfl) (by simp [lok])) hu
    refine ⟨_, PT.to this rfl (by simp) (by simp [nums]), ?_⟩
    have h5 : Ow (wn true 25 false 0) ([(1, 0), (40, 0)] ++ [(41, 0)]) := Ow.of (by decide)
    have := h5.com u
    simpa using this
  · have hkids : n.kids = [] := by simp [kfit, hk] at hkf; exact hkf
    have hnm := nm_no hff (by rw [hk]; rfl)
    have e : ndParts N n = [tp ([105, 110, 112, 117, 116, 40, 41] : List UInt8)] := by simp [ndParts, hk, isSt, exParts, hkids]
    rw [e, wq_of false 26 false 0 (dn_no hnm) hk (by simp [hk]) (by intro h; omega), if_neg (show ¬ n.kind = 20 by omega)]
    exact ⟨_, PT.to (PT.tp false ck_input (by simp) (hok_c true (c := 105) rfl (by decide) (by intro h; cases h)) (lok_c false (c := 41) rfl (by simp [lok, isNm, cl])) (PT.nil sq _)) rfl (by simp [hkids]) (by simp [nums, hkids]), Ow.of (by decide)⟩
  · obtain ⟨x, hkids⟩ := one_kid (by simp [kfit, hk] at hkf; exact hkf.1)
    have hnm := nm_no hff (by rw [hk]; rfl)
    have e : ndParts N n = [tp ([108, 101, 110, 40] : List UInt8), wp x, tp ([41] : List UInt8)] := by simp [ndParts, hk, isSt, exParts, hkids]
    rw [e, wq_of false 27 false 0 (dn_no hnm) hk (by simp [hk]) (by intro h; omega), if_neg (show ¬ n.kind = 20 by omega)]
    exact ⟨_, PT.to (PT.tp true ck_len (by simp) (hok_c true (c := 108) rfl (by decide) (by intro h; cases h)) (lok_c true (c := 40) rfl (by simp [lok, isNm, cl])) (PT.wp x (PT.tp false ck_rp (by simp) (hok_c false (c := 41) rfl (by decide) (by intro _; decide)) (lok_c false (c := 41) rfl (by simp [lok, isNm, cl])) (PT.nil sq _)))) rfl (by simp [hkids]) (by simp [nums, hkids]), Ow.of (by decide)⟩
  · obtain ⟨x, hkids⟩ := one_kid (by simp [kfit, hk] at hkf; exact hkf.1)
    have hnm := nm_no hff (by rw [hk]; rfl)
    have e : ndParts N n = [tp ([109, 97, 107, 101, 40, 91, 93, 105, 110, 116, 44, 32] : List UInt8), wp x, tp ([41] : List UInt8)] := by simp [ndParts, hk, isSt, exParts, hkids]
    rw [e, wq_of false 28 false 0 (dn_no hnm) hk (by simp [hk]) (by intro h; omega), if_neg (show ¬ n.kind = 20 by omega)]
    exact ⟨_, PT.to (PT.tp true ck_make (by simp) (hok_c true (c := 109) rfl (by decide) (by intro h; cases h)) (lok_c true (c := 32) rfl (by simp [lok, isNm, cl])) (PT.wp x (PT.tp false ck_rp (by simp) (hok_c false (c := 41) rfl (by decide) (by intro _; decide)) (lok_c false (c := 41) rfl (by simp [lok, isNm, cl])) (PT.nil sq _)))) rfl (by simp [hkids]) (by simp [nums, hkids]), Ow.of (by decide)⟩
  · obtain ⟨x, y, hkids⟩ := two_kids (by simp [kfit, hk] at hkf; exact hkf.1)
    have hnm := nm_no hff (by rw [hk]; rfl)
    have e : ndParts N n = [vp N x 7, tp ([91] : List UInt8), wp y, tp ([93] : List UInt8)] := by simp [ndParts, hk, isSt, exParts, hkids]
    rw [e, wq_of false 29 false 0 (dn_no hnm) hk (by simp [hk]) (by intro h; omega), if_neg (show ¬ n.kind = 20 by omega)]
    obtain ⟨E, hE, hp⟩ := PT.vp N x 7 (PT.tp true ck_lk (by simp) (hok_c false (c := 91) rfl (by decide) (by intro _; decide)) (lok_c true (c := 91) rfl (by simp [lok, isNm, cl])) (PT.wp y (PT.tp false ck_rk (by simp) (hok_c false (c := 93) rfl (by decide) (by intro _; decide)) (lok_c false (c := 93) rfl (by simp [lok, isNm, cl])) (PT.nil sq _))))
    refine ⟨_, PT.to hp rfl (by simp [hkids]) (by simp [nums, hkids]), Ow.of ?_⟩
    rcases hE with rfl | rfl <;> decide
  · obtain ⟨x, hkids⟩ := one_kid (by simp [kfit, hk] at hkf; exact hkf.1)
    have hnm := nm_no hff (by rw [hk]; rfl)
    have ho : n.op = 20 ∨ n.op = 21 ∨ n.op = 22 := by have h1 := hrg.2.2.1; have h2 := hrg.2.2.2.1; rw [hk] at h1 h2; simp [mayOf] at h1 h2; omega
    have e : ndParts N n = [tp (opT n.op), vp N x 6] := by simp [ndParts, hk, isSt, exParts, hkids]
    obtain ⟨E, hE, hp⟩ := PT.vp N x 6 (PT.nil sq false)
    rcases ho with ho | ho | ho
    · rw [e, ho, wq_of false 30 false 20 (dn_no hnm) hk (by simp [hk]) (fun _ => ho), if_neg (show ¬ n.kind = 20 by omega)]
      refine ⟨_, PT.to (PT.tp (sq := sq) (b := true) true ck_u20 (by decide) (hok_c true (c := 45) rfl (by decide) (by intro h; cases h)) (lok_c true (c := 45) rfl (by simp [lok])) hp) rfl (by simp [hkids]) (by simp [nums, hkids]), Ow.of ?_⟩
      rcases hE with rfl | rfl <;> decide
    · rw [e, ho, wq_of false 30 false 21 (dn_no hnm) hk (by simp [hk]) (fun _ => ho), if_neg (show ¬ n.kind = 20 by omega)]
      refine ⟨_, PT.to (PT.tp (sq := sq) (b := true) true ck_u21 (by decide) (hok_c true (c := 33) rfl (by decide) (by intro h; cases h)) (lok_c true (c := 33) rfl (by simp [lok])) hp) rfl (by simp [hkids]) (by simp [nums, hkids]), Ow.of ?_⟩
      rcases hE with rfl | rfl <;> decide
    · rw [e, ho, wq_of false 30 false 22 (dn_no hnm) hk (by simp [hk]) (fun _ => ho), if_neg (show ¬ n.kind = 20 by omega)]
      refine ⟨_, PT.to (PT.tp (sq := sq) (b := true) true ck_u22 (by decide) (hok_c true (c := 94) rfl (by decide) (by intro h; cases h)) (lok_c true (c := 94) rfl (by simp [lok])) hp) rfl (by simp [hkids]) (by simp [nums, hkids]), Ow.of ?_⟩
      rcases hE with rfl | rfl <;> decide
  · obtain ⟨x, y, hkids⟩ := two_kids (by simp [kfit, hk] at hkf; exact hkf.1)
    have hnm := nm_no hff (by rw [hk]; rfl)
    have ho1 : 1 ≤ n.op := by have h1 := hrg.2.2.1; rw [hk] at h1; simpa [mayOf] using h1
    have ho2 : n.op ≤ 19 := by have h1 := hrg.2.2.2.1; rw [hk] at h1; simpa [mayOf] using h1
    have e : ndParts N n = [vp N x (if lv n = 3 then lv n + 1 else lv n), tp (([32] : List UInt8) ++ opT n.op ++ ([32] : List UInt8)), vp N y (lv n + 1)] := by simp [ndParts, hk, isSt, exParts, hkids]
    obtain ⟨E2, hE2, hp2⟩ := PT.vp N y (lv n + 1) (PT.nil sq false)
    have go : ∀ (p : Int) (k1 : List (Int × Int)), n.op = p → Ch ([32] ++ opT p ++ [32]) k1 → nums k1 = [] → owB (wn false 31 false p) (k1) = true → ∃ own, PT sq true (ndParts N n) own n.kids (if n.kind = 20 then [n.val] else n.kids.flatMap sq) ∧ Ow (wq n) own := by
      intro p k1 hp hc hn how
      rw [e, hp, wq_of false 31 false p (dn_no hnm) hk (by simp [hk]) (fun _ => hp), if_neg (show ¬ n.kind = 20 by omega)]
      obtain ⟨E1, hE1, hp1⟩ := PT.vp N x (if lv n = 3 then lv n + 1 else lv n) (PT.tp (sq := sq) (b := false) true hc (by simp) (hok_c false (c := 32) rfl (by decide) (by intro _; decide)) (lok_c true (c := 32) (by rw [last_app (by simp)]; rfl) (by simp [lok])) hp2)
      refine ⟨_, PT.to hp1 rfl (by simp [hkids]) (by simp [hn, hkids]), ?_⟩
      have hO := Ow.of how
      exact hO.par hE1 hE2
    have ho : n.op = 1 ∨ n.op = 2 ∨ n.op = 3 ∨ n.op = 4 ∨ n.op = 5 ∨ n.op = 6 ∨ n.op = 7 ∨ n.op = 8 ∨ n.op = 9 ∨ n.op = 10 ∨ n.op = 11 ∨ n.op = 12 ∨ n.op = 13 ∨ n.op = 14 ∨ n.op = 15 ∨ n.op = 16 ∨ n.op = 17 ∨ n.op = 18 ∨ n.op = 19 := by omega
    rcases ho with ho | ho | ho | ho | ho | ho | ho | ho | ho | ho | ho | ho | ho | ho | ho | ho | ho | ho | ho
    · exact go 1 _ ho ck_b1 rfl (by decide)
    · exact go 2 _ ho ck_b2 rfl (by decide)
    · exact go 3 _ ho ck_b3 rfl (by decide)
    · exact go 4 _ ho ck_b4 rfl (by decide)
    · exact go 5 _ ho ck_b5 rfl (by decide)
    · exact go 6 _ ho ck_b6 rfl (by decide)
    · exact go 7 _ ho ck_b7 rfl (by decide)
    · exact go 8 _ ho ck_b8 rfl (by decide)
    · exact go 9 _ ho ck_b9 rfl (by decide)
    · exact go 10 _ ho ck_b10 rfl (by decide)
    · exact go 11 _ ho ck_b11 rfl (by decide)
    · exact go 12 _ ho ck_b12 rfl (by decide)
    · exact go 13 _ ho ck_b13 rfl (by decide)
    · exact go 14 _ ho ck_b14 rfl (by decide)
    · exact go 15 _ ho ck_b15 rfl (by decide)
    · exact go 16 _ ho ck_b16 rfl (by decide)
    · exact go 17 _ ho ck_b17 rfl (by decide)
    · exact go 18 _ ho ck_b18 rfl (by decide)
    · exact go 19 _ ho ck_b19 rfl (by decide)
end Go.Proofs.YtjepkcebfojiaaaDoor
