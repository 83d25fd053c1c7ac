import Derived.Test.YtjepkcebfojiaaaDoorTyA
import Derived.Test.YtjepkcebfojiaaaDoorTyC
import Derived.Test.YtjepkcebfojiaaaDoorTyD
set_option linter.unusedVariables false
set_option linter.unusedSimpArgs false
namespace Go.Proofs.YtjepkcebfojiaaaDoor
open Go.ChangeShapes Go.WideShapes Go.ChangeAt Go.RowKit

/-- A token, its place left out. -/
def kw (t : T) : Int × Int × List UInt8 := (t.kind, t.val, t.name)
/-- A piece of text that is these tokens, wherever it stands. -/
structure Cw (s : List UInt8) (ks : List (Int × Int × List UInt8)) : Prop where
  out : ∀ Y, Bd s Y → ∀ k ts' p e, Lexes (k + s.length) Y ts' p e → ∃ ts, ts.map kw = ks ∧ Lexes k (s ++ Y) (ts ++ ts') p e
/-- A text that begins so. -/
structure Lw (X : List UInt8) (K : List (Int × Int × List UInt8)) : Prop where
  out : ∀ Y, Bd X Y → ∀ ts' p e, Lexes X.length Y ts' p e → ∃ ts, ts.map kw = K ∧ Lexes 0 (X ++ Y) (ts ++ ts') p e
theorem Lw.nil : Lw [] [] := ⟨fun Y _ ts' p e h => ⟨[], rfl, h⟩⟩
theorem Lw.next {X K s ks} (h : Lw X K) (hs : Cw s ks) (hb : Bd X s) (hne : s ≠ []) : Lw (X ++ s) (K ++ ks) := ⟨fun Y hY ts' p e hl => by
  obtain ⟨t1, e1, h1⟩ := hs.out Y (fun c d hc hd => hY c d (by rw [last_app hne]; exact hc) hd) X.length ts' p e (by simpa using hl)
  obtain ⟨t2, e2, h2⟩ := h.out (s ++ Y) (fun c d hc hd => hb c d hc (by rw [head_app hne] at hd; exact hd)) _ p e h1
  exact ⟨t2 ++ t1, by simp [e1, e2], by simpa using h2⟩⟩
theorem Lw.done {X K} (h : Lw X K) : ∃ ts, ts.map kw = K ∧ Lexes 0 X ts 0 0 := by
  obtain ⟨ts, e, h1⟩ := h.out [] (fun c d _ hd => by simp at hd) [] 0 0 (.fin (by simp [sk]))
  exact ⟨ts, e, by simpa using h1⟩
theorem Cw.app {s ks s' ks'} (h : Cw s ks) (h' : Cw s' ks') (hb : Bd s s') (hne : s' ≠ []) : Cw (s ++ s') (ks ++ ks') := ⟨fun Y hY k ts' p e hl => by
  obtain ⟨t1, e1, h1⟩ := h'.out Y (fun c d hc hd => hY c d (by rw [last_app hne]; exact hc) hd) (k + s.length) ts' p e (by simpa [Nat.add_assoc] using hl)
  obtain ⟨t2, e2, h2⟩ := h.out (s' ++ Y) (fun c d hc hd => hb c d hc (by rw [head_app hne] at hd; exact hd)) k _ p e h1
  exact ⟨t2 ++ t1, by simp [e1, e2], by simpa using h2⟩⟩
theorem Cw.blank {c : UInt8} (hc : cl c = 8 ∨ cl c = 12) : Cw [c] [] := ⟨fun Y _ k ts' p e h => ⟨[], rfl, lex_blank hc h⟩⟩
theorem Cw.tabs : ∀ o, Cw (tabs o) []
  | 0 => Cw.blank (by decide)
  | o + 1 => by
    have e : Go.Proofs.YtjepkcebfojiaaaDoor.tabs (o + 1) = Go.Proofs.YtjepkcebfojiaaaDoor.tabs o ++ [9] := by simp [Go.Proofs.YtjepkcebfojiaaaDoor.tabs, List.replicate_succ']
    rw [e]
    have hl : ∃ c, (Go.Proofs.YtjepkcebfojiaaaDoor.tabs o).getLast? = some c ∧ (c = 10 ∨ c = 9) := by
      cases o with
      | zero => exact ⟨10, rfl, .inl rfl⟩
      | succ o => exact ⟨9, by simp [Go.Proofs.YtjepkcebfojiaaaDoor.tabs, List.replicate_succ', List.getLast?_cons, List.getLast?_append], .inr rfl⟩
    obtain ⟨c, h1, h2⟩ := hl
    have := (Cw.tabs o).app (Cw.blank (c := 9) (by decide)) (bd_last h1 (okc_blank (by rcases h2 with h | h <;> simp [h]))) (by simp)
    simpa using this
theorem Sp.cw {S t} (h : Sp S t) : Cw S [(t.kind, t.val, t.name)] := ⟨fun Y hY k ts' p e hl => by
  obtain ⟨h1, h2⟩ := h.out Y hY
  have h0 : 0 < S.length := List.length_pos_iff.2 h.ne
  have := Lexes.tok (k := k) (l := S ++ Y) (n := 0) (t := t) (m := S.length) (ts := ts') (p := p) (e := e) h2 (by simp; omega) (by simpa using h1) (by simpa using hl)
  exact ⟨[⟨t.kind, k + 0, t.val, t.name⟩], rfl, this⟩⟩
theorem Cw.word {i : Nat} (hi : i < 18) : Cw (WORDS.getD i []) [(10 + i, 0, [])] := by
  obtain ⟨h1, h2, h4, h5⟩ := wf_words i hi
  cases hw : WORDS.getD i [] with
  | nil => rw [hw] at h4; simp at h4
  | cons c l =>
    rw [hw] at h1 h2 h4 h5
    have := (sp_name (by simpa using h4) h2 h1).cw
    have e : nameTk (c :: l) = ⟨10 + i, 0, []⟩ := by simp [nameTk, h5]
    rwa [e] at this
theorem Cw.name {S : List UInt8} (h : nmOk S = true) : Cw S [(1, 0, S)] := by
  simp only [nmOk, Bool.and_eq_true, decide_eq_true_eq, Bool.not_eq_true'] at h
  obtain ⟨⟨⟨h1, h2⟩, h3⟩, h4⟩ := h
  cases S with
  | nil => simp at h2
  | cons c l =>
    have := (sp_name (by simpa using h2) (fun x hx => List.all_eq_true.1 h3 x hx) h1).cw
    have e : nameTk (c :: l) = ⟨1, 0, c :: l⟩ := by simp only [nameTk, findIdx_none h4]
    rwa [e] at this
theorem Cw.num {v : Nat} (h : v ≤ 9223372036854775807) : Cw (dcm v) [(2, (v : Int), [])] := by
  have hn : numVal (dcm v) = some v := by
    unfold numVal
    rw [dcm_val, if_neg]
    rintro (⟨h1, h2⟩ | h1)
    · rcases Nat.eq_zero_or_pos v with h0 | h0
      · rw [dcm_one h0] at h1; omega
      · exact dcm_head v h0 h2
    · omega
  have hall := dcm_all v
  have hne := dcm_ne v
  cases hd : dcm v with
  | nil => exact absurd hd hne
  | cons c l =>
    rw [hd] at hn hall
    have h7 : cl c = 7 := hall c (by simp)
    have : Sp (c :: l) ⟨2, v, []⟩ := by
      refine ⟨by simp, fun Y hY => ⟨?_, ?_⟩⟩
      · have e : (c :: (l ++ Y)).takeWhile isDg = c :: l := tw_app (S := c :: l) (fun x hx => by simp [isDg, hall x hx]) (fun y hy => by
          have := bd_nm (by simp) (fun x hx => by simp [isNm, hall x hx]) hY y hy
          simp [isNm] at this
          simp [isDg, this.1])
        show tk (c :: (l ++ Y)) = _
        rw [tk, if_pos h7, e, hn]
      · exact sk_not (by omega) (by omega) (by rintro ⟨rfl, _⟩; rw [cl_slash] at h7; omega)
    exact this.cw
theorem Cw.sign {i : Nat} (hi : i < 29) : Cw (SIGNS.getD i []) [(40 + i, 0, [])] := by
  obtain ⟨h1, h2, h3, h5⟩ := sg_facts i hi
  obtain ⟨hl, _⟩ := sg_len i hi
  generalize SIGNS.getD i [] = S at *
  have hS : (∃ c, S = [c]) ∨ ∃ c d, S = [c, d] := by
    rcases hl with h | h
    · exact .inl (List.length_eq_one_iff.1 h)
    · exact .inr (two_u8 h)
  have hsp : Sp S ⟨40 + i, 0, []⟩ := by
    rcases hS with ⟨c, rfl⟩ | ⟨c, d, rfl⟩
    · have h4 : cl c = 4 := by simpa using h2
      have hc : isNm c = false := h5 c (by simp)
      generalize hB : bst [c] 29 = B at h1
      subst h1
      refine ⟨by simp, fun Y hY => ?_⟩
      cases Y with
      | nil =>
        refine ⟨?_, sk_not (by omega) (by omega) (by simp)⟩
        show tk [c] = _
        rw [tk, if_neg (by omega), if_neg (by omega), hB, if_neg (by simp)]
        rfl
      | cons d Y =>
        have ho := hY c d rfl rfl
        simp only [okc, hc, Bool.false_eq_true, if_false, Bool.and_eq_true, Bool.not_eq_true'] at ho
        refine ⟨?_, sk_not (by omega) (by omega) (by rintro ⟨rfl, hd⟩; simp at hd; subst hd; simp at ho)⟩
        show tk (c :: d :: Y) = _
        rw [tk, if_neg (by omega), if_neg (by omega), bst1 ho.1 29 (by omega), hB, if_neg (by simp)]
        rfl
    · have h4 : cl c = 4 := by simpa using h2
      generalize hB : bst [c, d] 29 = B at h1
      subst h1
      refine ⟨by simp, fun Y hY => ⟨?_, sk_not (by omega) (by omega) (by rintro ⟨rfl, hd⟩; simp at hd; subst hd; exact h3 rfl)⟩⟩
      show tk (c :: d :: Y) = _
      rw [tk, if_neg (by omega), if_neg (by omega), bst2 29 (by omega), hB, if_neg (by simp)]
      rfl
  exact hsp.cw
end Go.Proofs.YtjepkcebfojiaaaDoor
namespace Go.Proofs.YtjepkcebfojiaaaDoor
open Go.ChangeShapes Go.WideShapes Go.ChangeAt Go.RowKit

abbrev Tok : Type := Int × Int × List UInt8
def qt (k : Int) : Tok := (k, 0, [])
/-- Parts and their tokens, in order. -/
def PW (sq : Int → List Tok) : Bool → List Pt → List Tok → Prop
  | _, [], ns => ns = []
  | b, p :: r, ns =>
    (p.form = 0 ∧ ∃ k1 n2 b1, ns = k1 ++ n2 ∧ Cw p.text k1 ∧ p.text ≠ [] ∧ hok b p.text ∧ (∀ c, p.text.getLast? = some c → lok b1 c) ∧ PW sq b1 r n2)
    ∨ (p.form = 1 ∧ b = true ∧ ∃ n2, ns = sq p.node ++ n2 ∧ PW sq false r n2)
    ∨ (p.form = 2 ∧ b = true ∧ ∃ n2, ns = [qt 40] ++ (sq p.node ++ ([qt 41] ++ n2)) ∧ PW sq false r n2)
    ∨ (p.form = 3 ∧ PW sq true r ns)
    ∨ (p.form = 4 ∧ ∃ n2, ns = [qt 43] ++ n2 ∧ PW sq false r n2)
theorem PW.weak {sq l ns} (h : PW sq false l ns) : PW sq true l ns := by
  cases l with
  | nil => exact h
  | cons p r =>
    simp only [PW] at h ⊢
    rcases h with ⟨h0, k1, n2, b1, e2, e3, e4, e5, e6⟩ | ⟨h0, h1, _⟩ | ⟨h0, h1, _⟩ | h | h
    · exact .inl ⟨h0, k1, n2, b1, e2, e3, e4, fun d hd => ⟨(e5 d hd).1, fun h => by cases h⟩, e6⟩
    · cases h1
    · cases h1
    · exact .inr (.inr (.inr (.inl h)))
    · exact .inr (.inr (.inr (.inr h)))
theorem PW.nil (sq : Int → List Tok) (b : Bool) : PW sq b [] [] := rfl
theorem PW.tp {sq : Int → List Tok} {b : Bool} (b1 : Bool) {s : List UInt8} {k1 : List Tok} {r ns} (hc : Cw s k1) (hne : s ≠ []) (hh : hok b s) (hl : ∀ c, s.getLast? = some c → lok b1 c) (h : PW sq b1 r ns) : PW sq b (tp s :: r) (k1 ++ ns) := .inl ⟨rfl, k1, ns, b1, rfl, hc, hne, hh, hl, h⟩
theorem PW.wp {sq : Int → List Tok} (x : Int) {r ns} (h : PW sq false r ns) : PW sq true (wp x :: r) (sq x ++ ns) := .inr (.inl ⟨rfl, rfl, ns, rfl, h⟩)
theorem PW.np {sq : Int → List Tok} {b : Bool} {r ns} (h : PW sq true r ns) : PW sq b (np :: r) ns := .inr (.inr (.inr (.inl ⟨rfl, h⟩)))
theorem PW.ep {sq : Int → List Tok} {b : Bool} {r ns} (h : PW sq false r ns) : PW sq b (ep :: r) ([qt 43] ++ ns) := .inr (.inr (.inr (.inr ⟨rfl, ns, rfl, h⟩)))
def vpW (N : List Nd) (sq : Int → List Tok) (x m : Int) : List Tok := if lv (ndOf N x) < m then [qt 40] ++ (sq x ++ [qt 41]) else sq x
theorem PW.vp {sq : Int → List Tok} (N : List Nd) (x m : Int) {r ns} (h : PW sq false r ns) : PW sq true (vp N x m :: r) (vpW N sq x m ++ ns) := by
  unfold Go.Proofs.YtjepkcebfojiaaaDoor.vp vpW
  split
  · exact .inr (.inr (.inl ⟨rfl, rfl, ns, by simp [xp], h⟩))
  · exact .wp x h
theorem PW.app {sq : Int → List Tok} {r ns'} (h' : PW sq false r ns') : ∀ {l b ns}, PW sq b l ns → PW sq b (l ++ r) (ns ++ ns') := by
  intro l
  induction l with
  | nil =>
    intro b ns h
    obtain rfl : ns = [] := h
    cases b with
    | true => exact h'.weak
    | false => exact h'
  | cons p l ih =>
    intro b ns h
    simp only [PW, List.cons_append] at h ⊢
    rcases h with ⟨h0, k1, n2, b1, rfl, e3, e4, e5, e6, e7⟩ | ⟨h0, h1, n2, rfl, e7⟩ | ⟨h0, h1, n2, rfl, e7⟩ | ⟨h0, e7⟩ | ⟨h0, n2, rfl, e7⟩
    · exact .inl ⟨h0, k1, n2 ++ ns', b1, by simp, e3, e4, e5, e6, ih e7⟩
    · exact .inr (.inl ⟨h0, h1, n2 ++ ns', by simp, ih e7⟩)
    · exact .inr (.inr (.inl ⟨h0, h1, n2 ++ ns', by simp, ih e7⟩))
    · exact .inr (.inr (.inr (.inl ⟨h0, ih e7⟩)))
    · exact .inr (.inr (.inr (.inr ⟨h0, n2 ++ ns', by simp, ih e7⟩)))
/-- Each node's parts are such. -/
structure NW (N : List Nd) (sq : Int → List Tok) : Prop where
  out : ∀ (i : Nat) (h : i < N.length), PW sq true (ndParts N N[i]) (sq (i : Int))
/-- The tokens of a run: what stands, and what is still to be printed. -/
theorem lw_run {N : List Nd} {sq : Int → List Tok} (hN : NW N sq) : ∀ {k s S' K b ns}, RunsOKx N k s S' → Lw s.text K → (∀ c, s.text.getLast? = some c → lok b c) → PW sq b s.todo ns → Lw S'.text (K ++ ns) := by
  intro k
  induction k with
  | zero =>
    intro s S' K b ns h hL hb hp
    rcases h.inv with ⟨_, rfl, e⟩ | ⟨n, p, r, e, _⟩
    · rw [e] at hp
      obtain rfl : ns = [] := hp
      rw [List.append_nil]; exact hL
    · omega
  | succ k ih =>
    intro s S' K b ns h hlb hb hp
    rcases h.inv with ⟨e, _⟩ | ⟨n, p, r, e, e1, hOK, _, hR⟩
    · omega
    obtain rfl : k = n := by omega
    obtain ⟨text, todo, opn⟩ := s
    simp only at e1 hb hp hOK hlb
    subst e1
    simp only [PW] at hp
    rcases hp with ⟨h0, k1, n2, b1, rfl, e3, e4, e5, e6, e7⟩ | ⟨h0, h1, n2, rfl, e7⟩ | ⟨h0, h1, n2, rfl, e7⟩ | ⟨h0, e7⟩ | ⟨h0, n2, rfl, e7⟩
    · have es : pstep N ⟨text, p :: r, opn⟩ = ⟨text ++ p.text, r, opn⟩ := by simp [pstep, h0]
      rw [es] at hR
      have hbd : Bd text p.text := fun c d hc hd => okc_of (hb c hc) (e5 d hd).1 (e5 d hd).2
      have := ih hR (hlb.next e3 hbd e4) (fun c hc => e6 c (by rw [← last_app e4]; exact hc)) e7
      simpa using this
    · rcases hOK with ⟨q, _⟩ | ⟨_, j, hj, hjl, _⟩ | ⟨q, _⟩ | ⟨q, _⟩ | ⟨q, _⟩
      · omega
      · have e0 : ndOf N p.node = N[j] := by rw [hj]; simp [ndOf, List.getD, hjl]
        have es : pstep N ⟨text, p :: r, opn⟩ = ⟨text, ndParts N N[j] ++ r, if N[j].kind = 3 then opn + 1 else opn⟩ := by simp [pstep, h0, e0]
        rw [es] at hR
        subst h1
        rw [hj]
        exact ih hR hlb hb (PW.app e7 (hN.out j hjl))
      · omega
      · omega
      · omega
    · have es : pstep N ⟨text, p :: r, opn⟩ = ⟨text, [tp ([40] : List UInt8), wp p.node, tp ([41] : List UInt8)] ++ r, opn⟩ := by simp [pstep, h0]
      rw [es] at hR
      subst h1
      have c40 : Cw [40] [qt 40] := Cw.sign (i := 0) (by omega)
      have c41 : Cw [41] [qt 41] := Cw.sign (i := 1) (by omega)
      exact ih hR hlb hb (PW.tp true c40 (by simp) (fun d hd => by simp at hd; subst hd; exact ⟨by decide, fun h => by cases h⟩) (fun c hc => by simp at hc; subst hc; simp [lok]) (PW.wp p.node (PW.tp false c41 (by simp) (fun d hd => by simp at hd; subst hd; exact ⟨by decide, fun _ => by decide⟩) (fun c hc => by simp at hc; subst hc; simp [lok]) e7)))
    · have es : pstep N ⟨text, p :: r, opn⟩ = ⟨text ++ tabs opn, r, opn⟩ := by simp [pstep, h0]
      rw [es] at hR
      have ht : tabs opn ≠ [] := by simp [tabs]
      obtain ⟨c, hc1, hc2⟩ := tabs_last opn
      have := ih hR (hlb.next (Cw.tabs opn) (bd_bl text opn fun c hc => ⟨b, hb c hc⟩) ht) (b := true) (fun c' hc' => by
        rw [last_app ht, hc1] at hc'
        cases hc'
        rcases hc2 with rfl | rfl <;> simp [lok]) e7
      simpa using this
    · rcases hOK with ⟨q, _⟩ | ⟨q, _⟩ | ⟨q, _⟩ | ⟨q, _⟩ | ⟨_, o, ho, _⟩
      · omega
      · omega
      · omega
      · omega
      simp only at ho
      subst ho
      have es : pstep N ⟨text, p :: r, o + 1⟩ = ⟨text ++ tabs o ++ ([125] : List UInt8), r, o⟩ := by simp [pstep, h0]
      rw [es] at hR
      have ht : tabs o ≠ [] := by simp [tabs]
      obtain ⟨c, hc1, hc2⟩ := tabs_last o
      have c43 : Cw [125] [qt 43] := Cw.sign (i := 3) (by omega)
      have l1 := hlb.next (Cw.tabs o) (bd_bl text o fun c hc => ⟨b, hb c hc⟩) ht
      have l2 := l1.next c43 (bd_last (by rw [last_app ht]; exact hc1) (okc_blank (by rcases hc2 with h | h <;> simp [h]))) (by simp)
      have := ih hR l2 (b := false) (fun c' hc' => by
        rw [last_app (by simp)] at hc'
        simp at hc'
        subst hc'
        simp [lok]) e7
      simpa using this
end Go.Proofs.YtjepkcebfojiaaaDoor
namespace Go.Proofs.YtjepkcebfojiaaaDoor
open Go.ChangeShapes Go.WideShapes Go.ChangeAt Go.RowKit

theorem cw_func : Cw [102, 117, 110, 99, 32] [qt 10] := ((Cw.word (i := 0) (by omega)).app (Cw.blank (c := 32) (by decide)) (bd_of rfl rfl (by decide)) (by decide))
theorem cw_lp : Cw [40] [qt 40] := (Cw.sign (i := 0) (by omega))
theorem cw_rps : Cw [41, 32] [qt 41] := ((Cw.sign (i := 1) (by omega)).app (Cw.blank (c := 32) (by decide)) (bd_of rfl rfl (by decide)) (by decide))
theorem cw_nl : Cw [10] [] := (Cw.blank (c := 10) (by decide))
theorem cw_lb : Cw [123] [qt 42] := (Cw.sign (i := 2) (by omega))
theorem cw_var : Cw [118, 97, 114, 32] [qt 11] := ((Cw.word (i := 1) (by omega)).app (Cw.blank (c := 32) (by decide)) (bd_of rfl rfl (by decide)) (by decide))
theorem cw_sp : Cw [32] [] := (Cw.blank (c := 32) (by decide))
theorem cw_eq : Cw [32, 61, 32] [qt 48] := (((Cw.blank (c := 32) (by decide)).app (Cw.sign (i := 8) (by omega)) (bd_of rfl rfl (by decide)) (by decide)).app (Cw.blank (c := 32) (by decide)) (bd_of rfl rfl (by decide)) (by decide))
theorem cw_semi : Cw [59] [qt 47] := (Cw.sign (i := 7) (by omega))
theorem cw_lk : Cw [91] [qt 44] := (Cw.sign (i := 4) (by omega))
theorem cw_rkeq : Cw [93, 32, 61, 32] [qt 45, qt 48] := ((((Cw.sign (i := 5) (by omega)).app (Cw.blank (c := 32) (by decide)) (bd_of rfl rfl (by decide)) (by decide)).app (Cw.sign (i := 8) (by omega)) (bd_of rfl rfl (by decide)) (by decide)).app (Cw.blank (c := 32) (by decide)) (bd_of rfl rfl (by decide)) (by decide))
theorem cw_print : Cw [112, 114, 105, 110, 116, 40] [qt 18, qt 40] := ((Cw.word (i := 8) (by omega)).app (Cw.sign (i := 0) (by omega)) (bd_of rfl rfl (by decide)) (by decide))
theorem cw_rpsemi : Cw [41, 59] [qt 41, qt 47] := ((Cw.sign (i := 1) (by omega)).app (Cw.sign (i := 7) (by omega)) (bd_of rfl rfl (by decide)) (by decide))
theorem cw_panic : Cw [112, 97, 110, 105, 99, 40] [qt 19, qt 40] := ((Cw.word (i := 9) (by omega)).app (Cw.sign (i := 0) (by omega)) (bd_of rfl rfl (by decide)) (by decide))
theorem cw_if : Cw [105, 102, 32] [qt 12] := ((Cw.word (i := 2) (by omega)).app (Cw.blank (c := 32) (by decide)) (bd_of rfl rfl (by decide)) (by decide))
theorem cw_else : Cw [32, 101, 108, 115, 101, 32] [qt 13] := (((Cw.blank (c := 32) (by decide)).app (Cw.word (i := 3) (by omega)) (bd_of rfl rfl (by decide)) (by decide)).app (Cw.blank (c := 32) (by decide)) (bd_of rfl rfl (by decide)) (by decide))
theorem cw_for : Cw [102, 111, 114] [qt 14] := (Cw.word (i := 4) (by omega))
theorem cw_ret : Cw [114, 101, 116, 117, 114, 110] [qt 15] := (Cw.word (i := 5) (by omega))
theorem cw_brk : Cw [98, 114, 101, 97, 107, 59] [qt 16, qt 47] := ((Cw.word (i := 6) (by omega)).app (Cw.sign (i := 7) (by omega)) (bd_of rfl rfl (by decide)) (by decide))
theorem cw_cont : Cw [99, 111, 110, 116, 105, 110, 117, 101, 59] [qt 17, qt 47] := ((Cw.word (i := 7) (by omega)).app (Cw.sign (i := 7) (by omega)) (bd_of rfl rfl (by decide)) (by decide))
theorem cw_true : Cw [116, 114, 117, 101] [qt 25] := (Cw.word (i := 15) (by omega))
theorem cw_false : Cw [102, 97, 108, 115, 101] [qt 26] := (Cw.word (i := 16) (by omega))
theorem cw_nil : Cw [110, 105, 108] [qt 27] := (Cw.word (i := 17) (by omega))
theorem cw_input : Cw [105, 110, 112, 117, 116, 40, 41] [qt 20, qt 40, qt 41] := (((Cw.word (i := 10) (by omega)).app (Cw.sign (i := 0) (by omega)) (bd_of rfl rfl (by decide)) (by decide)).app (Cw.sign (i := 1) (by omega)) (bd_of rfl rfl (by decide)) (by decide))
theorem cw_rp : Cw [41] [qt 41] := (Cw.sign (i := 1) (by omega))
theorem cw_len : Cw [108, 101, 110, 40] [qt 21, qt 40] := ((Cw.word (i := 11) (by omega)).app (Cw.sign (i := 0) (by omega)) (bd_of rfl rfl (by decide)) (by decide))
theorem cw_make : Cw [109, 97, 107, 101, 40, 91, 93, 105, 110, 116, 44, 32] [qt 22, qt 40, qt 44, qt 45, qt 23, qt 46] := (((((((Cw.word (i := 12) (by omega)).app (Cw.sign (i := 0) (by omega)) (bd_of rfl rfl (by decide)) (by decide)).app (Cw.sign (i := 4) (by omega)) (bd_of rfl rfl (by decide)) (by decide)).app (Cw.sign (i := 5) (by omega)) (bd_of rfl rfl (by decide)) (by decide)).app (Cw.word (i := 13) (by omega)) (bd_of rfl rfl (by decide)) (by decide)).app (Cw.sign (i := 6) (by omega)) (bd_of rfl rfl (by decide)) (by decide)).app (Cw.blank (c := 32) (by decide)) (bd_of rfl rfl (by decide)) (by decide))
theorem cw_rk : Cw [93] [qt 45] := (Cw.sign (i := 5) (by omega))
theorem cw_comma : Cw [44, 32] [qt 46] := ((Cw.sign (i := 6) (by omega)).app (Cw.blank (c := 32) (by decide)) (bd_of rfl rfl (by decide)) (by decide))
theorem cw_t1 : Cw [105, 110, 116] [qt 23] := (Cw.word (i := 13) (by omega))
theorem cw_t2 : Cw [98, 111, 111, 108] [qt 24] := (Cw.word (i := 14) (by omega))
theorem cw_t3 : Cw [91, 93, 105, 110, 116] [qt 44, qt 45, qt 23] := (((Cw.sign (i := 4) (by omega)).app (Cw.sign (i := 5) (by omega)) (bd_of rfl rfl (by decide)) (by decide)).app (Cw.word (i := 13) (by omega)) (bd_of rfl rfl (by decide)) (by decide))
theorem cw_u20 : Cw [45] [qt 56] := (Cw.sign (i := 16) (by omega))
theorem cw_u21 : Cw [33] [qt 68] := (Cw.sign (i := 28) (by omega))
theorem cw_u22 : Cw [94] [qt 62] := (Cw.sign (i := 22) (by omega))
theorem cw_b1 : Cw [32, 43, 32] [qt 55] := (((Cw.blank (c := 32) (by decide)).app (Cw.sign (i := 15) (by omega)) (bd_of rfl rfl (by decide)) (by decide)).app (Cw.blank (c := 32) (by decide)) (bd_of rfl rfl (by decide)) (by decide))
theorem cw_b2 : Cw [32, 45, 32] [qt 56] := (((Cw.blank (c := 32) (by decide)).app (Cw.sign (i := 16) (by omega)) (bd_of rfl rfl (by decide)) (by decide)).app (Cw.blank (c := 32) (by decide)) (bd_of rfl rfl (by decide)) (by decide))
theorem cw_b3 : Cw [32, 42, 32] [qt 57] := (((Cw.blank (c := 32) (by decide)).app (Cw.sign (i := 17) (by omega)) (bd_of rfl rfl (by decide)) (by decide)).app (Cw.blank (c := 32) (by decide)) (bd_of rfl rfl (by decide)) (by decide))
theorem cw_b4 : Cw [32, 47, 32] [qt 58] := (((Cw.blank (c := 32) (by decide)).app (Cw.sign (i := 18) (by omega)) (bd_of rfl rfl (by decide)) (by decide)).app (Cw.blank (c := 32) (by decide)) (bd_of rfl rfl (by decide)) (by decide))
theorem cw_b5 : Cw [32, 37, 32] [qt 59] := (((Cw.blank (c := 32) (by decide)).app (Cw.sign (i := 19) (by omega)) (bd_of rfl rfl (by decide)) (by decide)).app (Cw.blank (c := 32) (by decide)) (bd_of rfl rfl (by decide)) (by decide))
theorem cw_b6 : Cw [32, 38, 32] [qt 60] := (((Cw.blank (c := 32) (by decide)).app (Cw.sign (i := 20) (by omega)) (bd_of rfl rfl (by decide)) (by decide)).app (Cw.blank (c := 32) (by decide)) (bd_of rfl rfl (by decide)) (by decide))
theorem cw_b7 : Cw [32, 124, 32] [qt 61] := (((Cw.blank (c := 32) (by decide)).app (Cw.sign (i := 21) (by omega)) (bd_of rfl rfl (by decide)) (by decide)).app (Cw.blank (c := 32) (by decide)) (bd_of rfl rfl (by decide)) (by decide))
theorem cw_b8 : Cw [32, 94, 32] [qt 62] := (((Cw.blank (c := 32) (by decide)).app (Cw.sign (i := 22) (by omega)) (bd_of rfl rfl (by decide)) (by decide)).app (Cw.blank (c := 32) (by decide)) (bd_of rfl rfl (by decide)) (by decide))
theorem cw_b9 : Cw [32, 38, 94, 32] [qt 63] := (((Cw.blank (c := 32) (by decide)).app (Cw.sign (i := 23) (by omega)) (bd_of rfl rfl (by decide)) (by decide)).app (Cw.blank (c := 32) (by decide)) (bd_of rfl rfl (by decide)) (by decide))
theorem cw_b10 : Cw [32, 60, 60, 32] [qt 64] := (((Cw.blank (c := 32) (by decide)).app (Cw.sign (i := 24) (by omega)) (bd_of rfl rfl (by decide)) (by decide)).app (Cw.blank (c := 32) (by decide)) (bd_of rfl rfl (by decide)) (by decide))
theorem cw_b11 : Cw [32, 62, 62, 32] [qt 65] := (((Cw.blank (c := 32) (by decide)).app (Cw.sign (i := 25) (by omega)) (bd_of rfl rfl (by decide)) (by decide)).app (Cw.blank (c := 32) (by decide)) (bd_of rfl rfl (by decide)) (by decide))
theorem cw_b12 : Cw [32, 61, 61, 32] [qt 49] := (((Cw.blank (c := 32) (by decide)).app (Cw.sign (i := 9) (by omega)) (bd_of rfl rfl (by decide)) (by decide)).app (Cw.blank (c := 32) (by decide)) (bd_of rfl rfl (by decide)) (by decide))
theorem cw_b13 : Cw [32, 33, 61, 32] [qt 50] := (((Cw.blank (c := 32) (by decide)).app (Cw.sign (i := 10) (by omega)) (bd_of rfl rfl (by decide)) (by decide)).app (Cw.blank (c := 32) (by decide)) (bd_of rfl rfl (by decide)) (by decide))
theorem cw_b14 : Cw [32, 60, 32] [qt 51] := (((Cw.blank (c := 32) (by decide)).app (Cw.sign (i := 11) (by omega)) (bd_of rfl rfl (by decide)) (by decide)).app (Cw.blank (c := 32) (by decide)) (bd_of rfl rfl (by decide)) (by decide))
theorem cw_b15 : Cw [32, 60, 61, 32] [qt 52] := (((Cw.blank (c := 32) (by decide)).app (Cw.sign (i := 12) (by omega)) (bd_of rfl rfl (by decide)) (by decide)).app (Cw.blank (c := 32) (by decide)) (bd_of rfl rfl (by decide)) (by decide))
theorem cw_b16 : Cw [32, 62, 32] [qt 53] := (((Cw.blank (c := 32) (by decide)).app (Cw.sign (i := 13) (by omega)) (bd_of rfl rfl (by decide)) (by decide)).app (Cw.blank (c := 32) (by decide)) (bd_of rfl rfl (by decide)) (by decide))
theorem cw_b17 : Cw [32, 62, 61, 32] [qt 54] := (((Cw.blank (c := 32) (by decide)).app (Cw.sign (i := 14) (by omega)) (bd_of rfl rfl (by decide)) (by decide)).app (Cw.blank (c := 32) (by decide)) (bd_of rfl rfl (by decide)) (by decide))
theorem cw_b18 : Cw [32, 38, 38, 32] [qt 66] := (((Cw.blank (c := 32) (by decide)).app (Cw.sign (i := 26) (by omega)) (bd_of rfl rfl (by decide)) (by decide)).app (Cw.blank (c := 32) (by decide)) (bd_of rfl rfl (by decide)) (by decide))
theorem cw_b19 : Cw [32, 124, 124, 32] [qt 67] := (((Cw.blank (c := 32) (by decide)).app (Cw.sign (i := 27) (by omega)) (bd_of rfl rfl (by decide)) (by decide)).app (Cw.blank (c := 32) (by decide)) (bd_of rfl rfl (by decide)) (by decide))
def tyW (d : Int) : List Tok := if d = 1 then [qt 23] else if d = 2 then [qt 24] else [qt 44, qt 45, qt 23]
theorem cw_ty {d : Int} (h0 : 1 ≤ d) (h1 : d ≤ 3) : Cw (typeT d) (tyW d) := by
  have : d = 1 ∨ d = 2 ∨ d = 3 := by omega
  rcases this with rfl | rfl | rfl
  · exact cw_t1
  · exact cw_t2
  · exact cw_t3
def nmT (s : List UInt8) : Tok := (1, 0, s)
theorem chw_func {s : List UInt8} (h : nmOk s = true) : Cw ([102, 117, 110, 99, 32] ++ s ++ [40]) [qt 10, nmT s, qt 40] :=
  (cw_func.app (Cw.name h) (bd_sp rfl) (nm_facts h).1).app cw_lp (bd_nmc h rfl (by decide)) (by simp)
theorem chw_call {s : List UInt8} (h : nmOk s = true) : Cw (s ++ [40]) [nmT s, qt 40] := (Cw.name h).app cw_lp (bd_nmc (X := []) h rfl (by decide)) (by simp)
theorem chw_at {s : List UInt8} (h : nmOk s = true) : Cw (s ++ [91]) [nmT s, qt 44] := (Cw.name h).app cw_lk (bd_nmc (X := []) h rfl (by decide)) (by simp)
theorem chw_param {s : List UInt8} {d : Int} (h : nmOk s = true) (h0 : 1 ≤ d) (h1 : d ≤ 3) : Cw (s ++ [32] ++ typeT d) ([nmT s] ++ tyW d) :=
  ((Cw.name h).app cw_sp (bd_nmc (X := []) h rfl (by decide)) (by simp)).app (cw_ty h0 h1) bd_sp2 (ck_ty h0 h1).2.1
theorem chw_var {s : List UInt8} {d : Int} (h : nmOk s = true) (h0 : 1 ≤ d) (h1 : d ≤ 3) : Cw ([118, 97, 114, 32] ++ s ++ [32] ++ typeT d) ([qt 11, nmT s] ++ tyW d) :=
  (((cw_var.app (Cw.name h) (bd_sp rfl) (nm_facts h).1).app cw_sp (bd_nmc h rfl (by decide)) (by simp)).app (cw_ty h0 h1) bd_sp2 (ck_ty h0 h1).2.1)
theorem chw_ret {d : Int} (h0 : 1 ≤ d) (h1 : d ≤ 3) : Cw ([41, 32] ++ typeT d ++ [32]) ([qt 41] ++ tyW d) := by
  have := (cw_rps.app (cw_ty h0 h1) (bd_sp rfl) (ck_ty h0 h1).2.1).app cw_sp (fun c d' hc hd => by simp at hd; subst hd; rw [last_app (ck_ty h0 h1).2.1] at hc; exact okc_of ((ck_ty h0 h1).2.2 c hc) (by decide) (fun _ => by decide)) (by simp)
  simpa using this
def jnW (sq : Int → List Tok) : List Int → List Tok
  | [] => []
  | k :: r => sq k ++ r.flatMap fun x => qt 46 :: sq x
/-- The tokens of a node. -/
def nt (N : List Nd) (sq : Int → List Tok) (n : Nd) : List Tok :=
  let a := n.kids.getD 0 0
  let b := n.kids.getD 1 0
  if n.kind = 1 then [qt 10, nmT n.name, qt 40] ++ jnW sq (n.kids.take (n.kids.length - 1)) ++ [qt 41] ++ (if n.decl = 0 then [] else tyW n.decl) ++ sq (n.kids.getD (n.kids.length - 1) 0)
  else if n.kind = 2 then [nmT n.name] ++ tyW n.decl
  else if n.kind = 3 then [qt 42] ++ n.kids.flatMap sq ++ [qt 43]
  else if n.kind = 4 then [qt 11, nmT n.name] ++ tyW n.decl ++ (if n.kids = [] then [] else [qt 48] ++ sq a) ++ [qt 47]
  else if n.kind = 5 then [nmT n.name, qt 48] ++ sq a ++ [qt 47]
  else if n.kind = 6 then [nmT n.name, qt 44] ++ sq a ++ [qt 45, qt 48] ++ sq b ++ [qt 47]
  else if n.kind = 7 then sq a ++ [qt 47]
  else if n.kind = 8 then [qt 18, qt 40] ++ sq a ++ [qt 41, qt 47]
  else if n.kind = 9 then [qt 19, qt 40] ++ sq a ++ [qt 41, qt 47]
  else if n.kind = 10 then [qt 12] ++ sq a ++ sq b ++ (n.kids.drop 2).flatMap fun x => qt 13 :: sq x
  else if n.kind = 11 then [qt 14] ++ n.kids.flatMap sq
  else if n.kind = 12 then [qt 15] ++ n.kids.flatMap sq ++ [qt 47]
  else if n.kind = 13 then [qt 16, qt 47]
  else if n.kind = 14 then [qt 17, qt 47]
  else if n.kind = 20 then [(2, n.val, [])]
  else if n.kind = 21 then [qt 25]
  else if n.kind = 22 then [qt 26]
  else if n.kind = 23 then [qt 27]
  else if n.kind = 24 then [nmT n.name]
  else if n.kind = 25 then [nmT n.name, qt 40] ++ jnW sq n.kids ++ [qt 41]
  else if n.kind = 26 then [qt 20, qt 40, qt 41]
  else if n.kind = 27 then [qt 21, qt 40] ++ sq a ++ [qt 41]
  else if n.kind = 28 then [qt 22, qt 40, qt 44, qt 45, qt 23, qt 46] ++ sq a ++ [qt 41]
  else if n.kind = 29 then vpW N sq a 7 ++ [qt 44] ++ sq b ++ [qt 45]
  else if n.kind = 30 then [qt (unK n.op)] ++ vpW N sq a 6
  else vpW N sq a (if lv n = 3 then lv n + 1 else lv n) ++ [qt (opK n.op)] ++ vpW N sq b (lv n + 1)
theorem PW.to {sq b l ns ns'} (h : PW sq b l ns) (e3 : ns = ns') : PW sq b l ns' := by subst e3; exact h
theorem pw_fl {sq : Int → List Tok} {r ns} (h : PW sq false r ns) : ∀ t : List Int, PW sq false ((t.flatMap fun x => [tp ([44, 32] : List UInt8), wp x]) ++ r) ((t.flatMap fun x => qt 46 :: sq x) ++ ns)
  | [] => by simpa using h
  | x :: t => by
    have := PW.tp (sq := sq) (b := false) true cw_comma (by simp) (hok_c false (c := 44) rfl (by decide) (by intro _; decide)) (lok_c true (c := 32) rfl (by simp [lok])) (PW.wp x (pw_fl h t))
    exact PW.to this (by simp)
theorem pw_jn {sq : Int → List Tok} {r ns} (h : PW sq false r ns) (t : List Int) : PW sq true (jn t ++ r) (jnW sq t ++ ns) := by
  cases t with
  | nil => simpa [jn, jnW] using h.weak
  | cons x t => exact PW.to (PW.wp x (pw_fl h t)) (by simp [jnW])
theorem pw_bl {sq : Int → List Tok} : ∀ (l : List Int) (b : Bool), PW sq b ((l.flatMap fun x => [np, wp x]) ++ [ep]) (l.flatMap sq ++ [qt 43])
  | [], b => PW.to (PW.ep (PW.nil sq _)) (by simp)
  | x :: l, b => PW.to (PW.np (PW.wp x (pw_bl l false))) (by simp)

set_option maxRecDepth 10000 in
set_option maxHeartbeats 1000000 in
theorem node_pw {N : List Nd} {n : Nd} (hOK : NdOKx N n) (sq : Int → List Tok) : PW sq true (ndParts N n) (nt N sq n) := by
  have hff := hOK.ff
  have hkf := hOK.kf
  have hrg := ffit_rng hff
  have hk : n.kind = 1 ∨ n.kind = 2 ∨ n.kind = 3 ∨ n.kind = 4 ∨ n.kind = 5 ∨ n.kind = 6 ∨ n.kind = 7 ∨ n.kind = 8 ∨ n.kind = 9 ∨ n.kind = 10 ∨ n.kind = 11 ∨ n.kind = 12 ∨ n.kind = 13 ∨ n.kind = 14 ∨ n.kind = 20 ∨ n.kind = 21 ∨ n.kind = 22 ∨ n.kind = 23 ∨ n.kind = 24 ∨ n.kind = 25 ∨ n.kind = 26 ∨ n.kind = 27 ∨ n.kind = 28 ∨ n.kind = 29 ∨ n.kind = 30 ∨ n.kind = 31 := by
    rcases hOK.vk with h | h <;> omega
  rcases hk with hk | hk | hk | hk | hk | hk | hk | hk | hk | hk | hk | hk | hk | hk | hk | hk | hk | hk | hk | hk | hk | hk | hk | hk | hk | hk
  · have hc : 0 < n.kids.length := by simp [kfit, hk] at hkf; have := hkf.1.1; omega
    obtain ⟨ks, j, hkids⟩ : ∃ ks j, n.kids = ks ++ [j] := ⟨n.kids.dropLast, n.kids.getLast (by intro e; rw [e] at hc; simp at hc), (List.dropLast_concat_getLast _).symm⟩
    have hnm := nm_yes hff (by rw [hk]; rfl)
    have e : ndParts N n = fnParts n := by simp [ndParts, hk]
    rw [e]
    unfold fnParts
    have e1 : n.kids.take (n.kids.length - 1) = ks := by simp [hkids]
    have e2 : n.kids.getD (n.kids.length - 1) 0 = j := by simp [hkids]
    rw [e1, e2]
    have hfst : hok true ([102, 117, 110, 99, 32] ++ n.name ++ [40]) := hok_c true (c := 102) rfl (by decide) (by intro h; cases h)
    have hlst : ∀ c, ([102, 117, 110, 99, 32] ++ n.name ++ [40]).getLast? = some c → lok true c := lok_c true (c := 40) (by rw [last_app (by simp)]; rfl) (by simp [lok])
    have go : ∀ (s : List UInt8) (k1 : List Tok), Cw s k1 → s ≠ [] → hok false s → (∀ c, s.getLast? = some c → lok true c) → PW sq true ([tp ([102, 117, 110, 99, 32] ++ n.name ++ [40])] ++ jn ks ++ [tp s, wp j, tp [10]]) ([qt 10, nmT n.name, qt 40] ++ (jnW sq ks ++ (k1 ++ sq j))) := by
      intro s k1 hs h1 h2 h3
      have hu := pw_jn (PW.tp (sq := sq) (b := false) true hs h1 h2 h3 (PW.wp j (PW.tp true cw_nl (by simp) (hok_c false (c := 10) rfl (by decide) (by intro _; decide)) (lok_c true (c := 10) rfl (by simp [lok, isNm, cl])) (PW.nil sq _)))) ks
      have := PW.tp (sq := sq) (b := true) true (chw_func hnm) (by simp) hfst hlst hu
      exact PW.to (by simpa using this) (by simp)
    by_cases hd : n.decl = 0
    · rw [if_pos hd]
      exact PW.to (go _ _ cw_rps (by simp) (hok_c false (c := 41) rfl (by decide) (by intro _; decide)) (lok_c true (c := 32) rfl (by simp [lok]))) (by simp [nt, hk, hkids, hd])
    · rw [if_neg hd]
      have h0 : 1 ≤ n.decl := by have := hrg.1; rw [hk] at this; simp [mayOf] at this; omega
      have h1 : n.decl ≤ 3 := by have := hrg.2.1; rw [hk] at this; simpa [mayOf] using this
      exact PW.to (go _ _ (chw_ret h0 h1) (by simp) (hok_c false (c := 41) rfl (by decide) (by intro _; decide)) (lok_c true (c := 32) (by rw [last_app (by simp)]; rfl) (by simp [lok]))) (by simp [nt, hk, hkids, hd])
  · have hkids : n.kids = [] := by simp [kfit, hk] at hkf; exact hkf
    have hnm := nm_yes hff (by rw [hk]; rfl)
    have h0 : 1 ≤ n.decl := by have := hrg.1; rw [hk] at this; simpa [mayOf] using this
    have h1 : n.decl ≤ 3 := by have := hrg.2.1; rw [hk] at this; simpa [mayOf] using this
    have e : ndParts N n = [tp (n.name ++ ([32] : List UInt8) ++ typeT n.decl)] := by simp [ndParts, hk, isSt, stParts]
    rw [e]
    exact PW.to (PW.tp (sq := sq) (b := true) false (chw_param hnm h0 h1) (by simp) (by rw [List.append_assoc]; exact hok_nm hnm) (fun c hc => (ck_ty h0 h1).2.2 c (by rw [last_app (ck_ty h0 h1).2.1] at hc; exact hc)) (PW.nil sq _)) (by simp [nt, hk])
  · have hnm := nm_no hff (by rw [hk]; rfl)
    have e : ndParts N n = [tp ([123] : List UInt8)] ++ ((n.kids.flatMap fun x => [np, wp x]) ++ [ep]) := by simp [ndParts, hk, blParts]
    rw [e]
    exact PW.to (PW.tp true cw_lb (by simp) (hok_c true (c := 123) rfl (by decide) (by intro h; cases h)) (lok_c true (c := 123) rfl (by simp [lok, isNm, cl])) (pw_bl n.kids true)) (by simp [nt, hk])
  · have hnm := nm_yes hff (by rw [hk]; rfl)
    have h0 : 1 ≤ n.decl := by have := hrg.1; rw [hk] at this; simpa [mayOf] using this
    have h1 : n.decl ≤ 3 := by have := hrg.2.1; rw [hk] at this; simpa [mayOf] using this
    have hl : n.kids.length ≤ 1 := by simp [kfit, hk] at hkf; exact hkf.1
    have e : ndParts N n = valParts (([118, 97, 114, 32] : List UInt8) ++ n.name ++ ([32] : List UInt8) ++ typeT n.decl) ([32, 61, 32] : List UInt8) n.kids := by simp [ndParts, hk, isSt, stParts]
    rw [e]
    match hkids : n.kids, hl with
    | [], _ => exact PW.to (PW.tp (sq := sq) (b := true) false (chw_var hnm h0 h1) (by simp) (hok_c true (c := 118) rfl (by decide) (by intro h; cases h)) (fun c hc => (ck_ty h0 h1).2.2 c (by rw [last_app (ck_ty h0 h1).2.1] at hc; exact hc)) (PW.tp false cw_semi (by simp) (hok_c false (c := 59) rfl (by decide) (by intro _; decide)) (lok_c false (c := 59) rfl (by simp [lok, isNm, cl])) (PW.nil sq _))) (by simp [nt, hk, hkids])
    | [x], _ => exact PW.to (PW.tp (sq := sq) (b := true) false (chw_var hnm h0 h1) (by simp) (hok_c true (c := 118) rfl (by decide) (by intro h; cases h)) (fun c hc => (ck_ty h0 h1).2.2 c (by rw [last_app (ck_ty h0 h1).2.1] at hc; exact hc)) (PW.tp true cw_eq (by simp) (hok_c false (c := 32) rfl (by decide) (by intro _; decide)) (lok_c true (c := 32) rfl (by simp [lok, isNm, cl])) (PW.wp x (PW.tp false cw_semi (by simp) (hok_c false (c := 59) rfl (by decide) (by intro _; decide)) (lok_c false (c := 59) rfl (by simp [lok, isNm, cl])) (PW.nil sq _))))) (by simp [nt, hk, hkids])
  · obtain ⟨x, hkids⟩ := one_kid (by simp [kfit, hk] at hkf; exact hkf.1)
    have hnm := nm_yes hff (by rw [hk]; rfl)
    have e : ndParts N n = [tp n.name, tp ([32, 61, 32] : List UInt8), wp x, tp ([59] : List UInt8)] := by simp [ndParts, hk, isSt, stParts, hkids, valParts]
    rw [e]
    exact PW.to (PW.tp (sq := sq) (b := true) false (Cw.name hnm) (nm_facts hnm).1 (by have := hok_nm (r := []) hnm; rwa [List.append_nil] at this) (lok_nm hnm) (PW.tp true cw_eq (by simp) (hok_c false (c := 32) rfl (by decide) (by intro _; decide)) (lok_c true (c := 32) rfl (by simp [lok, isNm, cl])) (PW.wp x (PW.tp false cw_semi (by simp) (hok_c false (c := 59) rfl (by decide) (by intro _; decide)) (lok_c false (c := 59) rfl (by simp [lok, isNm, cl])) (PW.nil sq _))))) (by simp [nt, hk, hkids, nmT])
  · obtain ⟨x, y, hkids⟩ := two_kids (by simp [kfit, hk] at hkf; exact hkf.1)
    have hnm := nm_yes hff (by rw [hk]; rfl)
    have e : ndParts N n = [tp (n.name ++ ([91] : List UInt8)), wp x, tp ([93, 32, 61, 32] : List UInt8), wp y, tp ([59] : List UInt8)] := by simp [ndParts, hk, isSt, stParts, hkids]
    rw [e]
    exact PW.to (PW.tp (sq := sq) (b := true) true (chw_at hnm) (by simp) (hok_nm hnm) (lok_c true (c := 91) (by rw [last_app (by simp)]; rfl) (by simp [lok])) (PW.wp x (PW.tp true cw_rkeq (by simp) (hok_c false (c := 93) rfl (by decide) (by intro _; decide)) (lok_c true (c := 32) rfl (by simp [lok, isNm, cl])) (PW.wp y (PW.tp false cw_semi (by simp) (hok_c false (c := 59) rfl (by decide) (by intro _; decide)) (lok_c false (c := 59) rfl (by simp [lok, isNm, cl])) (PW.nil sq _)))))) (by simp [nt, hk, hkids])
  · obtain ⟨x, hkids⟩ := one_kid (by simp [kfit, hk] at hkf; exact hkf.1)
    have e : ndParts N n = [wp x, tp ([59] : List UInt8)] := by simp [ndParts, hk, isSt, stParts, hkids]
    rw [e]
    exact PW.to (PW.wp x (PW.tp false cw_semi (by simp) (hok_c false (c := 59) rfl (by decide) (by intro _; decide)) (lok_c false (c := 59) rfl (by simp [lok, isNm, cl])) (PW.nil sq _))) (by simp [nt, hk, hkids])
  · obtain ⟨x, hkids⟩ := one_kid (by simp [kfit, hk] at hkf; exact hkf.1)
    have e : ndParts N n = [tp ([112, 114, 105, 110, 116, 40] : List UInt8), wp x, tp ([41, 59] : List UInt8)] := by simp [ndParts, hk, isSt, stParts, hkids]
    rw [e]
    exact PW.to (PW.tp true cw_print (by simp) (hok_c true (c := 112) rfl (by decide) (by intro h; cases h)) (lok_c true (c := 40) rfl (by simp [lok, isNm, cl])) (PW.wp x (PW.tp false cw_rpsemi (by simp) (hok_c false (c := 41) rfl (by decide) (by intro _; decide)) (lok_c false (c := 59) rfl (by simp [lok, isNm, cl])) (PW.nil sq _)))) (by simp [nt, hk, hkids])
  · obtain ⟨x, hkids⟩ := one_kid (by simp [kfit, hk] at hkf; exact hkf.1)
    have e : ndParts N n = [tp ([112, 97, 110, 105, 99, 40] : List UInt8), wp x, tp ([41, 59] : List UInt8)] := by simp [ndParts, hk, isSt, stParts, hkids]
    rw [e]
    exact PW.to (PW.tp true cw_panic (by simp) (hok_c true (c := 112) rfl (by decide) (by intro h; cases h)) (lok_c true (c := 40) rfl (by simp [lok, isNm, cl])) (PW.wp x (PW.tp false cw_rpsemi (by simp) (hok_c false (c := 41) rfl (by decide) (by intro _; decide)) (lok_c false (c := 59) rfl (by simp [lok, isNm, cl])) (PW.nil sq _)))) (by simp [nt, hk, hkids])
  · have hl : n.kids.length = 2 ∨ n.kids.length = 3 := by simp [kfit, hk] at hkf; exact hkf.1.1.1
    rcases hl with hl | hl
    · obtain ⟨x, y, hkids⟩ := two_kids hl
      have e : ndParts N n = [tp ([105, 102, 32] : List UInt8), wp x, tp ([32] : List UInt8), wp y] := by simp [ndParts, hk, isSt, stParts, hkids]
      rw [e]
      exact PW.to (PW.tp true cw_if (by simp) (hok_c true (c := 105) rfl (by decide) (by intro h; cases h)) (lok_c true (c := 32) rfl (by simp [lok, isNm, cl])) (PW.wp x (PW.tp true cw_sp (by simp) (hok_c false (c := 32) rfl (by decide) (by intro _; decide)) (lok_c true (c := 32) rfl (by simp [lok, isNm, cl])) (PW.wp y (PW.nil sq _))))) (by simp [nt, hk, hkids])
    · obtain ⟨x, y, z, hkids⟩ := three_kids hl
      have e : ndParts N n = [tp ([105, 102, 32] : List UInt8), wp x, tp ([32] : List UInt8), wp y, tp ([32, 101, 108, 115, 101, 32] : List UInt8), wp z] := by simp [ndParts, hk, isSt, stParts, hkids]
      rw [e]
      exact PW.to (PW.tp true cw_if (by simp) (hok_c true (c := 105) rfl (by decide) (by intro h; cases h)) (lok_c true (c := 32) rfl (by simp [lok, isNm, cl])) (PW.wp x (PW.tp true cw_sp (by simp) (hok_c false (c := 32) rfl (by decide) (by intro _; decide)) (lok_c true (c := 32) rfl (by simp [lok, isNm, cl])) (PW.wp y (PW.tp true cw_else (by simp) (hok_c false (c := 32) rfl (by decide) (by intro _; decide)) (lok_c true (c := 32) rfl (by simp [lok, isNm, cl])) (PW.wp z (PW.nil sq _))))))) (by simp [nt, hk, hkids])
  · have hl : n.kids.length = 1 ∨ n.kids.length = 2 := by simp [kfit, hk] at hkf; exact hkf.1.1
    rcases hl with hl | hl
    · obtain ⟨x, hkids⟩ := one_kid hl
      have e : ndParts N n = [tp ([102, 111, 114] : List UInt8), tp ([32] : List UInt8), wp x] := by simp [ndParts, hk, isSt, stParts, hkids]
      rw [e]
      exact PW.to (PW.tp false cw_for (by simp) (hok_c true (c := 102) rfl (by decide) (by intro h; cases h)) (lok_c false (c := 114) rfl (by simp [lok, isNm, cl])) (PW.tp true cw_sp (by simp) (hok_c false (c := 32) rfl (by decide) (by intro _; decide)) (lok_c true (c := 32) rfl (by simp [lok, isNm, cl])) (PW.wp x (PW.nil sq _)))) (by simp [nt, hk, hkids])
    · obtain ⟨x, y, hkids⟩ := two_kids hl
      have e : ndParts N n = [tp ([102, 111, 114] : List UInt8), tp ([32] : List UInt8), wp x, tp ([32] : List UInt8), wp y] := by simp [ndParts, hk, isSt, stParts, hkids]
      rw [e]
      exact PW.to (PW.tp false cw_for (by simp) (hok_c true (c := 102) rfl (by decide) (by intro h; cases h)) (lok_c false (c := 114) rfl (by simp [lok, isNm, cl])) (PW.tp true cw_sp (by simp) (hok_c false (c := 32) rfl (by decide) (by intro _; decide)) (lok_c true (c := 32) rfl (by simp [lok, isNm, cl])) (PW.wp x (PW.tp true cw_sp (by simp) (hok_c false (c := 32) rfl (by decide) (by intro _; decide)) (lok_c true (c := 32) rfl (by simp [lok, isNm, cl])) (PW.wp y (PW.nil sq _)))))) (by simp [nt, hk, hkids])
  · have hl : n.kids.length ≤ 1 := by simp [kfit, hk] at hkf; exact hkf.1
    match hkids : n.kids, hl with
    | [], _ =>
      have e : ndParts N n = [tp ([114, 101, 116, 117, 114, 110] : List UInt8), tp ([59] : List UInt8)] := by simp [ndParts, hk, isSt, stParts, hkids, valParts]
      rw [e]
      exact PW.to (PW.tp false cw_ret (by simp) (hok_c true (c := 114) rfl (by decide) (by intro h; cases h)) (lok_c false (c := 110) rfl (by simp [lok, isNm, cl])) (PW.tp false cw_semi (by simp) (hok_c false (c := 59) rfl (by decide) (by intro _; decide)) (lok_c false (c := 59) rfl (by simp [lok, isNm, cl])) (PW.nil sq _))) (by simp [nt, hk, hkids])
    | [x], _ =>
      have e : ndParts N n = [tp ([114, 101, 116, 117, 114, 110] : List UInt8), tp ([32] : List UInt8), wp x, tp ([59] : List UInt8)] := by simp [ndParts, hk, isSt, stParts, hkids, valParts]
      rw [e]
      exact PW.to (PW.tp false cw_ret (by simp) (hok_c true (c := 114) rfl (by decide) (by intro h; cases h)) (lok_c false (c := 110) rfl (by simp [lok, isNm, cl])) (PW.tp true cw_sp (by simp) (hok_c false (c := 32) rfl (by decide) (by intro _; decide)) (lok_c true (c := 32) rfl (by simp [lok, isNm, cl])) (PW.wp x (PW.tp false cw_semi (by simp) (hok_c false (c := 59) rfl (by decide) (by intro _; decide)) (lok_c false (c := 59) rfl (by simp [lok, isNm, cl])) (PW.nil sq _))))) (by simp [nt, hk, hkids])
  · have hkids : n.kids = [] := by simp [kfit, hk] at hkf; exact hkf
    have e : ndParts N n = [tp ([98, 114, 101, 97, 107, 59] : List UInt8)] := by simp [ndParts, hk, isSt, stParts, hkids]
    rw [e]
    exact PW.to (PW.tp false cw_brk (by simp) (hok_c true (c := 98) rfl (by decide) (by intro h; cases h)) (lok_c false (c := 59) rfl (by simp [lok, isNm, cl])) (PW.nil sq _)) (by simp [nt, hk, hkids])
  · have hkids : n.kids = [] := by simp [kfit, hk] at hkf; exact hkf
    have e : ndParts N n = [tp ([99, 111, 110, 116, 105, 110, 117, 101, 59] : List UInt8)] := by simp [ndParts, hk, isSt, stParts, hkids]
    rw [e]
    exact PW.to (PW.tp false cw_cont (by simp) (hok_c true (c := 99) rfl (by decide) (by intro h; cases h)) (lok_c false (c := 59) rfl (by simp [lok, isNm, cl])) (PW.nil sq _)) (by simp [nt, hk, hkids])
  · have hkids : n.kids = [] := by simp [kfit, hk] at hkf; exact hkf
    obtain ⟨v, hv⟩ := nat_of hrg.2.2.2.2
    have hvm := hOK.val
    have e : ndParts N n = [tp (dcm v)] := by simp [ndParts, hk, isSt, exParts, hv]
    rw [e]
    have hd := dcm_all v
    refine PW.to (PW.tp (sq := sq) (b := true) false (Cw.num (by omega)) (dcm_ne v) (fun d hd' => ⟨?_, fun h => by cases h⟩) (fun c hc => .inl (by simp [isNm, hd c (List.mem_of_getLast? hc)])) (PW.nil sq _)) (by simp [nt, hk, hv])
    rintro rfl
    have := hd 61 (List.mem_of_mem_head? hd')
    revert this
    decide
  · have hkids : n.kids = [] := by simp [kfit, hk] at hkf; exact hkf
    have e : ndParts N n = [tp ([116, 114, 117, 101] : List UInt8)] := by simp [ndParts, hk, isSt, exParts, hkids]
    rw [e]
    exact PW.to (PW.tp false cw_true (by simp) (hok_c true (c := 116) rfl (by decide) (by intro h; cases h)) (lok_c false (c := 101) rfl (by simp [lok, isNm, cl])) (PW.nil sq _)) (by simp [nt, hk, hkids])
  · have hkids : n.kids = [] := by simp [kfit, hk] at hkf; exact hkf
    have e : ndParts N n = [tp ([102, 97, 108, 115, 101] : List UInt8)] := by simp [ndParts, hk, isSt, exParts, hkids]
    rw [e]
    exact PW.to (PW.tp false cw_false (by simp) (hok_c true (c := 102) rfl (by decide) (by intro h; cases h)) (lok_c false (c := 101) rfl (by simp [lok, isNm, cl])) (PW.nil sq _)) (by simp [nt, hk, hkids])
  · have hkids : n.kids = [] := by simp [kfit, hk] at hkf; exact hkf
    have e : ndParts N n = [tp ([110, 105, 108] : List UInt8)] := by simp [ndParts, hk, isSt, exParts, hkids]
    rw [e]
    exact PW.to (PW.tp false cw_nil (by simp) (hok_c true (c := 110) rfl (by decide) (by intro h; cases h)) (lok_c false (c := 108) rfl (by simp [lok, isNm, cl])) (PW.nil sq _)) (by simp [nt, hk, hkids])
  · have hkids : n.kids = [] := by simp [kfit, hk] at hkf; exact hkf
    have hnm := nm_yes hff (by rw [hk]; rfl)
    have e : ndParts N n = [tp n.name] := by simp [ndParts, hk, isSt, exParts]
    rw [e]
    exact PW.to (PW.tp (sq := sq) (b := true) false (Cw.name hnm) (nm_facts hnm).1 (by have := hok_nm (r := []) hnm; rwa [List.append_nil] at this) (lok_nm hnm) (PW.nil sq _)) (by simp [nt, hk, hkids, nmT])
  · have hnm := nm_yes hff (by rw [hk]; rfl)
    have e : ndParts N n = [tp (n.name ++ ([40] : List UInt8))] ++ (jn n.kids ++ [tp ([41] : List UInt8)]) := by simp [ndParts, hk, isSt, exParts]
    rw [e]
    have hu := pw_jn (PW.tp false cw_rp (by simp) (hok_c false (c := 41) rfl (by decide) (by intro _; decide)) (lok_c false (c := 41) rfl (by simp [lok, isNm, cl])) (PW.nil sq _)) n.kids
    exact PW.to (PW.tp (sq := sq) (b := true) true (chw_call hnm) (by simp) (hok_nm hnm) (lok_c true (c := 40) (by rw [last_app (by simp)]; rfl) (by simp [lok])) hu) (by simp [nt, hk])
  · have hkids : n.kids = [] := by simp [kfit, hk] at hkf; exact hkf
    have e : ndParts N n = [tp ([105, 110, 112, 117, 116, 40, 41] : List UInt8)] := by simp [ndParts, hk, isSt, exParts, hkids]
    rw [e]
    exact PW.to (PW.tp false cw_input (by simp) (hok_c true (c := 105) rfl (by decide) (by intro h; cases h)) (lok_c false (c := 41) rfl (by simp [lok, isNm, cl])) (PW.nil sq _)) (by simp [nt, hk, hkids])
  · obtain ⟨x, hkids⟩ := one_kid (by simp [kfit, hk] at hkf; exact hkf.1)
    have e : ndParts N n = [tp ([108, 101, 110, 40] : List UInt8), wp x, tp ([41] : List UInt8)] := by simp [ndParts, hk, isSt, exParts, hkids]
    rw [e]
    exact PW.to (PW.tp true cw_len (by simp) (hok_c true (c := 108) rfl (by decide) (by intro h; cases h)) (lok_c true (c := 40) rfl (by simp [lok, isNm, cl])) (PW.wp x (PW.tp false cw_rp (by simp) (hok_c false (c := 41) rfl (by decide) (by intro _; decide)) (lok_c false (c := 41) rfl (by simp [lok, isNm, cl])) (PW.nil sq _)))) (by simp [nt, hk, hkids])
  · obtain ⟨x, hkids⟩ := one_kid (by simp [kfit, hk] at hkf; exact hkf.1)
    have e : ndParts N n = [tp ([109, 97, 107, 101, 40, 91, 93, 105, 110, 116, 44, 32] : List UInt8), wp x, tp ([41] : List UInt8)] := by simp [ndParts, hk, isSt, exParts, hkids]
    rw [e]
    exact PW.to (PW.tp true cw_make (by simp) (hok_c true (c := 109) rfl (by decide) (by intro h; cases h)) (lok_c true (c := 32) rfl (by simp [lok, isNm, cl])) (PW.wp x (PW.tp false cw_rp (by simp) (hok_c false (c := 41) rfl (by decide) (by intro _; decide)) (lok_c false (c := 41) rfl (by simp [lok, isNm, cl])) (PW.nil sq _)))) (by simp [nt, hk, hkids])
  · obtain ⟨x, y, hkids⟩ := two_kids (by simp [kfit, hk] at hkf; exact hkf.1)
    have e : ndParts N n = [vp N x 7, tp ([91] : List UInt8), wp y, tp ([93] : List UInt8)] := by simp [ndParts, hk, isSt, exParts, hkids]
    rw [e]
    exact PW.to (PW.vp N x 7 (PW.tp true cw_lk (by simp) (hok_c false (c := 91) rfl (by decide) (by intro _; decide)) (lok_c true (c := 91) rfl (by simp [lok, isNm, cl])) (PW.wp y (PW.tp false cw_rk (by simp) (hok_c false (c := 93) rfl (by decide) (by intro _; decide)) (lok_c false (c := 93) rfl (by simp [lok, isNm, cl])) (PW.nil sq _))))) (by simp [nt, hk, hkids])
  · obtain ⟨x, hkids⟩ := one_kid (by simp [kfit, hk] at hkf; exact hkf.1)
    have ho : n.op = 20 ∨ n.op = 21 ∨ n.op = 22 := by have h1 := hrg.2.2.1; have h2 := hrg.2.2.2.1; rw [hk] at h1 h2; simp [mayOf] at h1 h2; omega
    have e : ndParts N n = [tp (opT n.op), vp N x 6] := by simp [ndParts, hk, isSt, exParts, hkids]
    have hp := PW.vp N x 6 (PW.nil sq false)
    rcases ho with ho | ho | ho
    · rw [e, ho]
      exact PW.to (PW.tp (sq := sq) (b := true) true cw_u20 (by decide) (hok_c true (c := 45) rfl (by decide) (by intro h; cases h)) (lok_c true (c := 45) rfl (by simp [lok])) hp) (by simp [nt, hk, hkids, ho, unK])
    · rw [e, ho]
      exact PW.to (PW.tp (sq := sq) (b := true) true cw_u21 (by decide) (hok_c true (c := 33) rfl (by decide) (by intro h; cases h)) (lok_c true (c := 33) rfl (by simp [lok])) hp) (by simp [nt, hk, hkids, ho, unK])
    · rw [e, ho]
      exact PW.to (PW.tp (sq := sq) (b := true) true cw_u22 (by decide) (hok_c true (c := 94) rfl (by decide) (by intro h; cases h)) (lok_c true (c := 94) rfl (by simp [lok])) hp) (by simp [nt, hk, hkids, ho, unK])
  · obtain ⟨x, y, hkids⟩ := two_kids (by simp [kfit, hk] at hkf; exact hkf.1)
    have ho1 : 1 ≤ n.op := by have h1 := hrg.2.2.1; rw [hk] at h1; simpa [mayOf] using h1
    have ho2 : n.op ≤ 19 := by have h1 := hrg.2.2.2.1; rw [hk] at h1; simpa [mayOf] using h1
    have e : ndParts N n = [vp N x (if lv n = 3 then lv n + 1 else lv n), tp (([32] : List UInt8) ++ opT n.op ++ ([32] : List UInt8)), vp N y (lv n + 1)] := by simp [ndParts, hk, isSt, exParts, hkids]
    have hp2 := PW.vp N y (lv n + 1) (PW.nil sq false)
    have go : ∀ (p : Int), n.op = p → Cw ([32] ++ opT p ++ [32]) [qt (opK p)] → PW sq true (ndParts N n) (nt N sq n) := by
      intro p hp hc
      rw [e, hp]
      exact PW.to (PW.vp N x (if lv n = 3 then lv n + 1 else lv n) (PW.tp (sq := sq) (b := false) true hc (by simp) (hok_c false (c := 32) rfl (by decide) (by intro _; decide)) (lok_c true (c := 32) (by rw [last_app (by simp)]; rfl) (by simp [lok])) hp2)) (by simp [nt, hk, hkids, hp])
    have ho : n.op = 1 ∨ n.op = 2 ∨ n.op = 3 ∨ n.op = 4 ∨ n.op = 5 ∨ n.op = 6 ∨ n.op = 7 ∨ n.op = 8 ∨ n.op = 9 ∨ n.op = 10 ∨ n.op = 11 ∨ n.op = 12 ∨ n.op = 13 ∨ n.op = 14 ∨ n.op = 15 ∨ n.op = 16 ∨ n.op = 17 ∨ n.op = 18 ∨ n.op = 19 := by omega
    rcases ho with ho | ho | ho | ho | ho | ho | ho | ho | ho | ho | ho | ho | ho | ho | ho | ho | ho | ho | ho
    · exact go 1 ho cw_b1
    · exact go 2 ho cw_b2
    · exact go 3 ho cw_b3
    · exact go 4 ho cw_b4
    · exact go 5 ho cw_b5
    · exact go 6 ho cw_b6
    · exact go 7 ho cw_b7
    · exact go 8 ho cw_b8
    · exact go 9 ho cw_b9
    · exact go 10 ho cw_b10
    · exact go 11 ho cw_b11
    · exact go 12 ho cw_b12
    · exact go 13 ho cw_b13
    · exact go 14 ho cw_b14
    · exact go 15 ho cw_b15
    · exact go 16 ho cw_b16
    · exact go 17 ho cw_b17
    · exact go 18 ho cw_b18
    · exact go 19 ho cw_b19
end Go.Proofs.YtjepkcebfojiaaaDoor
namespace Go.Proofs.YtjepkcebfojiaaaDoor
open Go.ChangeShapes Go.WideShapes Go.ChangeAt Go.RowKit

/-- All tokens of a node and of what is below it. -/
def tsf (N : List Nd) : Nat → Int → List Tok
  | 0, _ => []
  | f + 1, k => nt N (tsf N f) (ndOf N k)
def TS (N : List Nd) (k : Int) : List Tok := tsf N (k.toNat + 1) k
theorem fm_congr {f g : Int → List Tok} : ∀ {l : List Int}, (∀ x ∈ l, f x = g x) → l.flatMap f = l.flatMap g
  | [], _ => rfl
  | x :: l, h => by rw [List.flatMap_cons, List.flatMap_cons, h x (by simp), fm_congr fun y hy => h y (by simp [hy])]
theorem jnW_congr {f g : Int → List Tok} {l : List Int} (h : ∀ x ∈ l, f x = g x) : jnW f l = jnW g l := by
  cases l with
  | nil => rfl
  | cons x r =>
    simp only [jnW]
    rw [h x (by simp), fm_congr (f := fun x => qt 46 :: f x) (g := fun x => qt 46 :: g x) fun y hy => by rw [h y (by simp [hy])]]
/-- A node's tokens hang on its kids' alone. -/
theorem nt_congr {N : List Nd} {f g : Int → List Tok} {n : Nd} (hOK : NdOKx N n) (h : ∀ x ∈ n.kids, f x = g x) : nt N f n = nt N g n := by
  have h1 := node_pw hOK f
  have h2 := node_pw hOK g
  have key : ∀ (l : List Pt) (b b' : Bool) (a c : List Tok) (ks : List Int) (p q r : Nat), PS l ks p q r → (∀ x ∈ ks, f x = g x) → True := fun _ _ _ _ _ _ _ _ _ _ _ => trivial
  have ha : ∀ i, i < n.kids.length → f (n.kids.getD i 0) = g (n.kids.getD i 0) := fun i hi => h _ (getD_mem hi)
  have hkf := hOK.kf
  have hk : n.kind = 1 ∨ n.kind = 2 ∨ n.kind = 3 ∨ n.kind = 4 ∨ n.kind = 5 ∨ n.kind = 6 ∨ n.kind = 7 ∨ n.kind = 8 ∨ n.kind = 9 ∨ n.kind = 10 ∨ n.kind = 11 ∨ n.kind = 12 ∨ n.kind = 13 ∨ n.kind = 14 ∨ n.kind = 20 ∨ n.kind = 21 ∨ n.kind = 22 ∨ n.kind = 23 ∨ n.kind = 24 ∨ n.kind = 25 ∨ n.kind = 26 ∨ n.kind = 27 ∨ n.kind = 28 ∨ n.kind = 29 ∨ n.kind = 30 ∨ n.kind = 31 := by
    rcases hOK.vk with h | h <;> omega
  have hfm := fm_congr h
  have hfd : (n.kids.drop 2).flatMap (fun x => qt 13 :: f x) = (n.kids.drop 2).flatMap (fun x => qt 13 :: g x) := fm_congr fun x hx => by rw [h x (List.mem_of_mem_drop hx)]
  have hj := jnW_congr h
  have hj2 : jnW f (n.kids.take (n.kids.length - 1)) = jnW g (n.kids.take (n.kids.length - 1)) := jnW_congr fun x hx => h x (List.mem_of_mem_take hx)
  rcases hk with hk | hk | hk | hk | hk | hk | hk | hk | hk | hk | hk | hk | hk | hk | hk | hk | hk | hk | hk | hk | hk | hk | hk | hk | hk | hk
  · have hc : 0 < n.kids.length := by simp [kfit, hk] at hkf; have := hkf.1.1; omega
    have := ha (n.kids.length - 1) (by omega)
    simp only [nt, hk, if_true, hj2, this]
  all_goals
    simp [kfit, hk] at hkf
  all_goals first
    | (simp [nt, hk]; done)
    | (simp [nt, hk, hfm]; done)
    | (simp [nt, hk, hj]; done)
    | (have e0 := ha 0 (by omega); simp at e0; simp [nt, hk, e0, vpW]; done)
    | (have e0 := ha 0 (by omega); have e1 := ha 1 (by omega); simp at e0 e1; simp [nt, hk, e0, e1, vpW, hfd]; done)
    | (by_cases hn : n.kids = []
       · simp [nt, hk, hn]
       · have e0 := ha 0 (List.length_pos_iff.2 hn); simp at e0; simp [nt, hk, hn, e0])
theorem tsf_fuel {N : List Nd} (hF : FitK N) (hOK : ∀ (i : Nat) (h : i < N.length), NdOKx N N[i]) : ∀ (f g : Nat) (k : Int), 0 ≤ k → k < N.length → k.toNat < f → k.toNat < g → tsf N f k = tsf N g k
  | 0, _, _, _, _, h, _ => absurd h (by omega)
  | _, 0, _, _, _, _, h => absurd h (by omega)
  | f + 1, g + 1, k, h0, h1, hf, hg => by
    have hk : k.toNat < N.length := by omega
    have e : ndOf N k = N[k.toNat] := by simp [ndOf, List.getD, hk]
    simp only [tsf, e]
    refine nt_congr (hOK _ hk) fun x hx => ?_
    have := hF k.toNat hk x hx
    exact tsf_fuel hF hOK f g x (by omega) (by omega) (by omega) (by omega)
theorem TS_eq {N : List Nd} (hF : FitK N) (hOK : ∀ (i : Nat) (h : i < N.length), NdOKx N N[i]) (i : Nat) (hi : i < N.length) : TS N (i : Int) = nt N (TS N) N[i] := by
  have e : ndOf N (i : Int) = N[i] := by simp [ndOf, List.getD, hi]
  unfold TS
  rw [tsf, e]
  refine nt_congr (hOK _ hi) fun x hx => ?_
  have := hF i hi x hx
  exact tsf_fuel hF hOK _ _ x (by omega) (by omega) (by omega) (by omega)
theorem lw_prints {N : List Nd} (hF : FitK N) (hOK : ∀ (i : Nat) (h : i < N.length), NdOKx N N[i]) : ∀ {F s S' K}, PrintsOKx N F s S' → (∀ f ∈ F, 0 ≤ f ∧ f < N.length ∧ kd N f = 1) → Lw s.text K → (∀ c, s.text.getLast? = some c → c = 10) → Lw S'.text (K ++ F.flatMap (TS N)) := by
  have hN : NW N (TS N) := ⟨fun i hi => by rw [TS_eq hF hOK i hi]; exact node_pw (hOK i hi) (TS N)⟩
  intro F
  induction F with
  | nil =>
    intro s S' K h _ h1 _
    rw [h.done]
    simpa using h1
  | cons f F ih =>
    intro s S' K h hf h1 hl
    obtain ⟨k, s1, hR, _, hP⟩ := h.inv
    obtain ⟨f0, f1, f2⟩ := hf f (by simp)
    have g1 := lw_run hN hR (K := K) (b := true) (ns := TS N f ++ []) h1 (fun c hc => by rw [hl c hc]; simp [lok]) (PW.wp f (PW.nil _ _))
    have hlast : s1.text.getLast? = some 10 := by
      rcases hR.inv with ⟨_, _, e⟩ | ⟨n, p, r, _, e, _, _, hR2⟩
      · cases e
      · cases e
        have ek : (ndOf N f).kind = 1 := by
          obtain ⟨j, rfl⟩ : ∃ j : Nat, f = (j : Int) := ⟨f.toNat, by omega⟩
          have hj : j < N.length := by omega
          rw [show ndOf N (j : Int) = N[j] by simp [ndOf, List.getD, hj]]
          have := kd_at (N := N) j hj
          rw [← this]; exact f2
        have es : pstep N ⟨s.text, [wp f], s.opn⟩ = ⟨s.text, fnParts (ndOf N f), s.opn⟩ := by simp [pstep, wp, ndParts, ek]
        rw [es] at hR2
        have ef : ∃ l, fnParts (ndOf N f) = l ++ [tp [10]] := ⟨_, by unfold fnParts; exact (by rw [List.append_assoc, show ∀ (a b c : Pt), [a, b, c] = [a, b] ++ [c] from fun _ _ _ => rfl, ← List.append_assoc, ← List.append_assoc])⟩
        obtain ⟨l, ef⟩ := ef
        rw [ef] at hR2
        exact run_nl hR2
    have := ih hP (fun x hx => hf x (by simp [hx])) g1 (fun c hc => by rw [hlast] at hc; cases hc; rfl)
    simpa using this
/-- Two texts that are one have the same tokens, functions one behind the other. -/
theorem one_toks {T U : Tr} {S1 S2 : Ps} (hT : chk T = true) (hU : chk U = true) (vT : ∀ n ∈ T.nodes, n.val ≤ 9223372036854775807) (vU : ∀ n ∈ U.nodes, n.val ≤ 9223372036854775807) (nT : T.nodes.length ≤ 1000000) (nU : U.nodes.length ≤ 1000000) (h1 : PrintsOKx T.nodes T.funcs ⟨[], [], 0⟩ S1) (h2 : PrintsOKx U.nodes U.funcs ⟨[], [], 0⟩ S2) (he : S1.text = S2.text) : T.funcs.flatMap (TS T.nodes) = U.funcs.flatMap (TS U.nodes) := by
  have one : ∀ {T : Tr} {S1 : Ps}, chk T = true → (∀ n ∈ T.nodes, n.val ≤ 9223372036854775807) → T.nodes.length ≤ 1000000 → PrintsOKx T.nodes T.funcs ⟨[], [], 0⟩ S1 → Lw S1.text (T.funcs.flatMap (TS T.nodes)) := by
    intro T S1 hT vT nT h1
    obtain ⟨c1, c2, c3⟩ := chk_stk hT
    have hr := (stk_lt _ _ _ _ c1 (by simp)).1
    have nil0 : Lw [] [] := ⟨fun Y _ ts' p e h => ⟨[], rfl, h⟩⟩
    have := lw_prints (chk_fit hT) (chk_ok hT vT nT) h1 (fun f hf => by
      have := hr f hf
      simp at this
      refine ⟨this.1, this.2, ?_⟩
      have := allK_mem c3 hf
      simpa [isK] using this) nil0 (fun c hc => by simp at hc)
    simpa using this
  obtain ⟨t1, e1, l1⟩ := (one hT vT nT h1).done
  obtain ⟨t2, e2, l2⟩ := (one hU vU nU h2).done
  rw [he] at l1
  obtain ⟨rfl, _, _⟩ := l1.one l2
  rw [← e1, ← e2]
end Go.Proofs.YtjepkcebfojiaaaDoor
