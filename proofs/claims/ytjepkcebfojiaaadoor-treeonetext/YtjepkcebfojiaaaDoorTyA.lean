import Derived.Test.YtjepkcebfojiaaaDoorLzG
set_option linter.unusedVariables false
set_option linter.unusedSimpArgs false
namespace Go.Proofs.YtjepkcebfojiaaaDoor
open Go.ChangeShapes Go.WideShapes Go.ChangeAt Go.RowKit

/-- May a byte stand right behind another one, the two being of two tokens? -/
def okc (c d : UInt8) : Bool := if isNm c then !isNm d else !(SIGNS.contains [c, d]) && !(c == 47 && d == 47)
def Bd (X Y : List UInt8) : Prop := ∀ c d, X.getLast? = some c → Y.head? = some d → okc c d = true
def kv (t : T) : Int × Int := (t.kind, t.val)
/-- A piece of text that is these tokens, wherever it stands. -/
structure Ch (s : List UInt8) (ks : List (Int × Int)) : Prop where
  out : ∀ Y, Bd s Y → ∀ k ts' p e, Lexes (k + s.length) Y ts' p e → ∃ ts, ts.map kv = ks ∧ Lexes k (s ++ Y) (ts ++ ts') p e
/-- A text that begins so. -/
structure LB (X : List UInt8) (K : List (Int × Int)) : Prop where
  out : ∀ Y, Bd X Y → ∀ ts' p e, Lexes X.length Y ts' p e → ∃ ts, ts.map kv = K ∧ Lexes 0 (X ++ Y) (ts ++ ts') p e
theorem LB.nil : LB [] [] := ⟨fun Y _ ts' p e h => ⟨[], rfl, h⟩⟩
theorem last_app {X s : List UInt8} (h : s ≠ []) : (X ++ s).getLast? = s.getLast? := by
  cases s with
  | nil => exact absurd rfl h
  | cons a l => simp [List.getLast?_append, List.getLast?_cons]
theorem head_app {s Y : List UInt8} (h : s ≠ []) : (s ++ Y).head? = s.head? := by
  cases s with
  | nil => exact absurd rfl h
  | cons a l => rfl
theorem LB.next {X K s ks} (h : LB X K) (hs : Ch s ks) (hb : Bd X s) (hne : s ≠ []) : LB (X ++ s) (K ++ ks) := ⟨fun Y hY ts' p e hl => by
  obtain ⟨t1, e1, h1⟩ := hs.out Y (fun c d hc hd => hY c d (by rw [last_app hne]; exact hc) hd) X.length ts' p e (by simpa using hl)
  obtain ⟨t2, e2, h2⟩ := h.out (s ++ Y) (fun c d hc hd => hb c d hc (by rw [head_app hne] at hd; exact hd)) _ p e h1
  exact ⟨t2 ++ t1, by simp [e1, e2], by simpa using h2⟩⟩
theorem LB.done {X K} (h : LB X K) : ∃ ts, ts.map kv = K ∧ Lexes 0 X ts 0 0 := by
  obtain ⟨ts, e, h1⟩ := h.out [] (fun c d _ hd => by simp at hd) [] 0 0 (.fin (by simp [sk]))
  exact ⟨ts, e, by simpa using h1⟩
theorem Ch.app {s ks s' ks'} (h : Ch s ks) (h' : Ch s' ks') (hb : Bd s s') (hne : s' ≠ []) : Ch (s ++ s') (ks ++ ks') := ⟨fun Y hY k ts' p e hl => by
  obtain ⟨t1, e1, h1⟩ := h'.out Y (fun c d hc hd => hY c d (by rw [last_app hne]; exact hc) hd) (k + s.length) ts' p e (by simpa [Nat.add_assoc] using hl)
  obtain ⟨t2, e2, h2⟩ := h.out (s' ++ Y) (fun c d hc hd => hb c d hc (by rw [head_app hne] at hd; exact hd)) k _ p e h1
  exact ⟨t2 ++ t1, by simp [e1, e2], by simpa using h2⟩⟩
theorem lex_blank {c : UInt8} {l : List UInt8} {k ts p e} (hc : cl c = 8 ∨ cl c = 12) (h : Lexes (k + 1) l ts p e) : Lexes k (c :: l) ts p e := by
  have es : ∀ n b, sk false l = (n, b) → sk false (c :: l) = (n + 1, b) := fun n b h => by simp [sk, hc, h]
  cases h with
  | bad h1 => rename_i n; have := Lexes.bad (k := k) (es _ _ h1); rwa [show k + (n + 1) = k + 1 + n by omega] at this
  | fin h1 => exact .fin (by rw [es _ _ h1]; simp)
  | err h1 h2 h3 => rename_i n; have := Lexes.err (k := k) (l := c :: l) (es _ _ h1) (by simp; omega) (by simpa using h3); rwa [show k + (n + 1) = k + 1 + n by omega] at this
  | tok h1 h2 h3 h4 =>
    rename_i n t m ts'
    have := Lexes.tok (k := k) (l := c :: l) (n := n + 1) (t := t) (m := m) (ts := ts') (p := p) (e := e) (es _ _ h1) (by simp; omega) (by simpa using h3) (by rw [show n + 1 + m = (n + m) + 1 by omega]; simpa [show k + (n + 1) + m = k + 1 + n + m by omega] using h4)
    rwa [show k + (n + 1) = k + 1 + n by omega] at this
theorem Ch.blank {c : UInt8} (hc : cl c = 8 ∨ cl c = 12) : Ch [c] [] := ⟨fun Y _ k ts' p e h => ⟨[], rfl, lex_blank hc h⟩⟩
theorem okc_blank {c : UInt8} (hc : c = 32 ∨ c = 9 ∨ c = 10) (d : UInt8) : okc c d = true := by
  rcases hc with rfl | rfl | rfl <;> simp [okc, isNm, cl, SIGNS]
theorem bd_of {X Y : List UInt8} {c d : UInt8} (h1 : X.getLast? = some c) (h2 : Y.head? = some d) (h : okc c d = true) : Bd X Y := fun c' d' hc hd => by
  rw [h1] at hc; rw [h2] at hd; cases hc; cases hd; exact h
theorem bd_last {X Y : List UInt8} {c : UInt8} (h1 : X.getLast? = some c) (h : ∀ d, okc c d = true) : Bd X Y := fun c' d' hc hd => by
  rw [h1] at hc; cases hc; exact h d'
theorem Ch.tabs : ∀ o, Ch (tabs o) []
  | 0 => Ch.blank (by decide)
  | o + 1 => by
    have e : Go.Proofs.YtjepkcebfojiaaaDoor.tabs (o + 1) = Go.Proofs.YtjepkcebfojiaaaDoor.tabs o ++ [9] := by simp [Go.Proofs.YtjepkcebfojiaaaDoor.tabs, List.replicate_succ']
    rw [e]
    have hl : ∃ c, (Go.Proofs.YtjepkcebfojiaaaDoor.tabs o).getLast? = some c ∧ (c = 10 ∨ c = 9) := by
      cases o with
      | zero => exact ⟨10, rfl, .inl rfl⟩
      | succ o => exact ⟨9, by simp [Go.Proofs.YtjepkcebfojiaaaDoor.tabs, List.replicate_succ', List.getLast?_cons, List.getLast?_append], .inr rfl⟩
    obtain ⟨c, h1, h2⟩ := hl
    have := (Ch.tabs o).app (Ch.blank (c := 9) (by decide)) (bd_last h1 (okc_blank (by rcases h2 with h | h <;> simp [h]))) (by simp)
    simpa using this
/-- A token's bytes. -/
structure Sp (S : List UInt8) (t : Tk) : Prop where
  ne : S ≠ []
  out : ∀ Y, Bd S Y → tk (S ++ Y) = .ok (t, S.length) ∧ sk false (S ++ Y) = (0, true)
theorem Sp.ch {S t} (h : Sp S t) : Ch S [(t.kind, t.val)] := ⟨fun Y hY k ts' p e hl => by
  obtain ⟨h1, h2⟩ := h.out Y hY
  have h0 : 0 < S.length := List.length_pos_iff.2 h.ne
  have := Lexes.tok (k := k) (l := S ++ Y) (n := 0) (t := t) (m := S.length) (ts := ts') (p := p) (e := e) h2 (by simp; omega) (by simpa using h1) (by simpa using hl)
  exact ⟨[⟨t.kind, k + 0, t.val, t.name⟩], rfl, this⟩⟩
theorem tw_app {p : UInt8 → Bool} : ∀ {S Y : List UInt8}, (∀ c ∈ S, p c = true) → (∀ y, Y.head? = some y → p y = false) → (S ++ Y).takeWhile p = S
  | [], [], _, _ => rfl
  | [], y :: Y, _, h => by simp [h y rfl]
  | c :: S, Y, h, hY => by
    rw [List.cons_append, List.takeWhile_cons, if_pos (h c (by simp)), tw_app (fun x hx => h x (by simp [hx])) hY]
theorem last_mem {S : List UInt8} (hne : S ≠ []) : ∃ c, S.getLast? = some c ∧ c ∈ S := ⟨S.getLast hne, List.getLast?_eq_some_getLast hne, List.getLast_mem hne⟩
theorem bd_nm {S Y : List UInt8} (hne : S ≠ []) (hall : ∀ x ∈ S, isNm x = true) (hb : Bd S Y) : ∀ y, Y.head? = some y → isNm y = false := fun y hy => by
  obtain ⟨c, h1, h2⟩ := last_mem hne
  have := hb c y h1 hy
  simp [okc, hall c h2] at this
  exact this
theorem cl_slash : cl 47 = 4 := by decide
theorem sk_not {c : UInt8} {l : List UInt8} (h1 : cl c ≠ 8) (h2 : cl c ≠ 12) (h3 : ¬ (c = 47 ∧ l.head? = some 47)) : sk false (c :: l) = (0, true) := by simp [sk, h1, h2, h3]
theorem sp_name {c : UInt8} {l : List UInt8} (h6 : cl c = 6) (hall : ∀ x ∈ c :: l, isNm x = true) (hlen : (c :: l).length ≤ 64) : Sp (c :: l) (nameTk (c :: l)) := by
  refine ⟨by simp, fun Y hY => ⟨?_, ?_⟩⟩
  · have e : (c :: (l ++ Y)).takeWhile isNm = c :: l := tw_app (S := c :: l) hall (bd_nm (by simp) hall hY)
    show tk (c :: (l ++ Y)) = _
    rw [tk, if_neg (by omega), if_pos h6, e, if_neg (by omega)]
  · exact sk_not (by omega) (by omega) (by rintro ⟨rfl, _⟩; rw [cl_slash] at h6; omega)
theorem wf_words : ∀ i, i < 18 → (WORDS.getD i []).length ≤ 64 ∧ (∀ x ∈ WORDS.getD i [], isNm x = true) ∧ ((WORDS.getD i []).head?.map cl = some 6) ∧ WORDS.findIdx? (· == WORDS.getD i []) = some i := by decide
theorem Ch.word {i : Nat} (hi : i < 18) : Ch (WORDS.getD i []) [(10 + i, 0)] := by
  obtain ⟨h1, h2, h4, h5⟩ := wf_words i hi
  cases hw : WORDS.getD i [] with
  | nil => rw [hw] at h4; simp at h4
  | cons c l =>
    rw [hw] at h1 h2 h4 h5
    have := (sp_name (by simpa using h4) h2 h1).ch
    have e : nameTk (c :: l) = ⟨10 + i, 0, []⟩ := by simp [nameTk, h5]
    rwa [e] at this
theorem Ch.name {S : List UInt8} (h : nmOk S = true) : Ch S [(1, 0)] := by
  simp only [nmOk, Bool.and_eq_true, decide_eq_true_eq, Bool.not_eq_true'] at h
  obtain ⟨⟨⟨h1, h2⟩, h3⟩, h4⟩ := h
  cases S with
  | nil => simp at h2
  | cons c l =>
    have := (sp_name (by simpa using h2) (fun x hx => List.all_eq_true.1 h3 x hx) h1).ch
    have e : nameTk (c :: l) = ⟨1, 0, c :: l⟩ := by simp only [nameTk, findIdx_none h4]
    rwa [e] at this
theorem nm_facts {S : List UInt8} (h : nmOk S = true) : S ≠ [] ∧ (∀ x ∈ S, isNm x = true) ∧ S.length ≤ 64 := by
  simp only [nmOk, Bool.and_eq_true, decide_eq_true_eq, Bool.not_eq_true'] at h
  obtain ⟨⟨⟨h1, h2⟩, h3⟩, h4⟩ := h
  exact ⟨by rintro rfl; simp at h2, fun x hx => List.all_eq_true.1 h3 x hx, h1⟩
-- numbers
theorem dg_nat {d : Nat} (h : d < 10) : (dg d).toNat = 48 + d := by simp [dg]; omega
theorem dg_cl {d : Nat} (h : d < 10) : cl (dg d) = 7 := by unfold cl; rw [dg_nat h, if_pos (by omega)]
theorem dcm_all : ∀ n, ∀ c ∈ dcm n, cl c = 7 := by
  intro n
  induction n using Nat.strongRecOn with
  | ind n ih =>
    intro c hc
    rw [dcm] at hc
    split at hc
    · next h => simp at hc; subst hc; exact dg_cl h
    · next h =>
      rcases List.mem_append.1 hc with hc | hc
      · exact ih (n / 10) (by omega) c hc
      · simp at hc; subst hc; exact dg_cl (by omega)
theorem dcm_val : ∀ n, valOf 0 (dcm n) = n := by
  intro n
  induction n using Nat.strongRecOn with
  | ind n ih =>
    rw [dcm]
    split
    · next h => simp [valOf, dg_nat h]
    · next h =>
      have := ih (n / 10) (by omega)
      unfold valOf at this ⊢
      rw [List.foldl_append, this]
      simp [dg_nat (show n % 10 < 10 by omega)]
      omega
theorem dcm_ne (n : Nat) : dcm n ≠ [] := by
  rw [dcm]
  split <;> simp
theorem dcm_head : ∀ n, 0 < n → (dcm n).head? ≠ some 48 := by
  intro n
  induction n using Nat.strongRecOn with
  | ind n ih =>
    intro h0
    rw [dcm]
    split
    · next h =>
      intro e
      simp at e
      have := congrArg UInt8.toNat e
      rw [dg_nat h] at this
      simp at this
      omega
    · next h =>
      rw [head_app (dcm_ne _)]
      exact ih (n / 10) (by omega) (by omega)
theorem dcm_one {n : Nat} (h : n = 0) : (dcm n).length = 1 := by subst h; rw [dcm]; rfl
theorem Ch.num {v : Nat} (h : v ≤ 9223372036854775807) : Ch (dcm v) [(2, (v : Int))] := by
  have hn : numVal (dcm v) = some v := by
    unfold numVal
    rw [dcm_val, if_neg]
    rintro (⟨h1, h2⟩ | h1)
    · rcases Nat.eq_zero_or_pos v with h0 | h0
      · rw [dcm_one h0] at h1; omega
      · exact dcm_head v h0 h2
    · omega
  have hall := dcm_all v
  have hne := dcm_ne v
  cases hd : dcm v with
  | nil => exact absurd hd hne
  | cons c l =>
    rw [hd] at hn hall
    have h7 : cl c = 7 := hall c (by simp)
    have : Sp (c :: l) ⟨2, v, []⟩ := by
      refine ⟨by simp, fun Y hY => ⟨?_, ?_⟩⟩
      · have e : (c :: (l ++ Y)).takeWhile isDg = c :: l := tw_app (S := c :: l) (fun x hx => by simp [isDg, hall x hx]) (fun y hy => by
          have := bd_nm (by simp) (fun x hx => by simp [isNm, hall x hx]) hY y hy
          simp [isNm] at this
          simp [isDg, this.1])
        show tk (c :: (l ++ Y)) = _
        rw [tk, if_pos h7, e, hn]
      · exact sk_not (by omega) (by omega) (by rintro ⟨rfl, _⟩; rw [cl_slash] at h7; omega)
    exact this.ch
-- signs
theorem sg_len : ∀ i, i < 29 → ((SIGNS.getD i []).length = 1 ∨ (SIGNS.getD i []).length = 2) ∧ SIGNS.getD i [] ∈ SIGNS := by decide
theorem bst1 {c d : UInt8} {Y : List UInt8} (h : SIGNS.contains [c, d] = false) : ∀ i, i ≤ 29 → bst (c :: d :: Y) i = bst [c] i
  | 0, _ => rfl
  | i + 1, hi => by
    have ih := bst1 (Y := Y) h i (by omega)
    obtain ⟨hl, hm⟩ := sg_len i (by omega)
    have e : (SIGNS.getD i []).isPrefixOf (c :: d :: Y) = (SIGNS.getD i []).isPrefixOf [c] := by
      generalize SIGNS.getD i [] = S at hl hm
      match S, hl with
      | [x], _ => simp [List.isPrefixOf]
      | [x, y], _ =>
        simp only [List.isPrefixOf, Bool.and_false, Bool.and_true]
        rw [Bool.and_eq_false_iff]
        by_cases hx : x = c
        · right
          by_cases hy : y = d
          · subst hx hy
            simp [hm] at h
          · simp [hy]
        · left; simp [hx]
    simp only [bst, ih, e]
theorem bst2 {c d : UInt8} {Y : List UInt8} : ∀ i, i ≤ 29 → bst (c :: d :: Y) i = bst [c, d] i
  | 0, _ => rfl
  | i + 1, hi => by
    have ih := bst2 (c := c) (d := d) (Y := Y) i (by omega)
    obtain ⟨hl, hm⟩ := sg_len i (by omega)
    have e : (SIGNS.getD i []).isPrefixOf (c :: d :: Y) = (SIGNS.getD i []).isPrefixOf [c, d] := by
      generalize SIGNS.getD i [] = S at hl hm
      match S, hl with
      | [x], _ => simp [List.isPrefixOf]
      | [x, y], _ => simp [List.isPrefixOf]
    simp only [bst, ih, e]
theorem sg_facts : ∀ i, i < 29 → bst (SIGNS.getD i []) 29 = (40 + i, (SIGNS.getD i []).length) ∧ ((SIGNS.getD i []).head?.map cl = some 4) ∧ SIGNS.getD i [] ≠ [47, 47] ∧ (∀ x ∈ SIGNS.getD i [], isNm x = false) := by decide +kernel
theorem two_u8 {l : List UInt8} (h : l.length = 2) : ∃ x y, l = [x, y] := by
  match l, h with
  | [x, y], _ => exact ⟨x, y, rfl⟩
theorem Ch.sign {i : Nat} (hi : i < 29) : Ch (SIGNS.getD i []) [(40 + i, 0)] := by
  obtain ⟨h1, h2, h3, h5⟩ := sg_facts i hi
  obtain ⟨hl, _⟩ := sg_len i hi
  generalize SIGNS.getD i [] = S at *
  have hS : (∃ c, S = [c]) ∨ ∃ c d, S = [c, d] := by
    rcases hl with h | h
    · exact .inl (List.length_eq_one_iff.1 h)
    · exact .inr (two_u8 h)
  have hsp : Sp S ⟨40 + i, 0, []⟩ := by
    rcases hS with ⟨c, rfl⟩ | ⟨c, d, rfl⟩
    · have h4 : cl c = 4 := by simpa using h2
      have hc : isNm c = false := h5 c (by simp)
      generalize hB : bst [c] 29 = B at h1
      subst h1
      refine ⟨by simp, fun Y hY => ?_⟩
      cases Y with
      | nil =>
        refine ⟨?_, sk_not (by omega) (by omega) (by simp)⟩
        show tk [c] = _
        rw [tk, if_neg (by omega), if_neg (by omega), hB, if_neg (by simp)]
        rfl
      | cons d Y =>
        have ho := hY c d rfl rfl
        simp only [okc, hc, Bool.false_eq_true, if_false, Bool.and_eq_true, Bool.not_eq_true'] at ho
        refine ⟨?_, sk_not (by omega) (by omega) (by rintro ⟨rfl, hd⟩; simp at hd; subst hd; simp at ho)⟩
        show tk (c :: d :: Y) = _
        rw [tk, if_neg (by omega), if_neg (by omega), bst1 ho.1 29 (by omega), hB, if_neg (by simp)]
        rfl
    · have h4 : cl c = 4 := by simpa using h2
      generalize hB : bst [c, d] 29 = B at h1
      subst h1
      refine ⟨by simp, fun Y hY => ⟨?_, sk_not (by omega) (by omega) (by rintro ⟨rfl, hd⟩; simp at hd; subst hd; exact h3 rfl)⟩⟩
      show tk (c :: d :: Y) = _
      rw [tk, if_neg (by omega), if_neg (by omega), bst2 29 (by omega), hB, if_neg (by simp)]
      rfl
  exact hsp.ch
end Go.Proofs.YtjepkcebfojiaaaDoor
