import Derived.Test.YteiambniddddpaaDoorLxH
set_option linter.unusedVariables false
namespace Go.Proofs.YteiambniddddpaaDoor
open Go.ChangeShapes Go.WideShapes Go.ChangeAt Go.RowKit

def tc (t : T) : List Value := [.int .i64 t.kind, .int .i64 t.pos, .int .i64 t.val, .string (bs t.name)]
def tcs (ts : List T) : List Value := ts.flatMap tc

/-- A slice of tokens that holds ts, in a row of its own from block B on. -/
structure Own (w : World) (B : Nat) (v : Value) (ts : List T) : Prop where
  out : w.ownsRow B 31 4 v ts.length (tcs ts)

theorem tcs_snoc (ts : List T) (t : T) : tcs (ts ++ [t]) = tcs ts ++ tc t := by simp [tcs]

theorem own_keep {w w' : World} {B e s v n xs} (h : w.ownsRow B e s v n xs) (hk : ∀ g, g < w.heap.size → w'.heap[g]? = w.heap[g]?) : w'.ownsRow B e s v n xs := by
  refine ⟨h.1, h.2.imp id ?_⟩
  rintro ⟨g, cap, cur, e1, e2, e3, e4⟩
  have hlt : g < w.heap.size := (Array.getElem?_eq_some_iff.1 e3).1
  exact ⟨g, cap, cur, e1, e2, (hk g hlt).trans e3, e4⟩

theorem own_block {w : World} {B e s v n xs} (h : w.ownsRow B e s v n xs) {g : Nat} (hg : v.ownBlock = some g) : B ≤ g ∧ g < w.heap.size := by
  rcases h.2 with ⟨rfl, _⟩ | ⟨g', cap, cur, rfl, e2, e3, e4⟩
  · simp [Value.ownBlock] at hg
  · simp [Value.ownBlock] at hg
    subst hg
    exact ⟨e2, (Array.getElem?_eq_some_iff.1 e3).1⟩

theorem cell_four_new (w : World) (a b c d : Value) (t : TypeId) : ∀ j u, [a, b, c, d][j]? = some u → (w.alloc (.cells #[a, b, c, d] t)).cell? ((⟨w.heap.size, 0, none⟩ : Addr).add j) = some u := by
  intro j u hj
  match j, hj with
  | 0, hj => simp at hj; subst hj; simp [Addr.add]
  | 1, hj => simp at hj; subst hj; simp [Addr.add]
  | 2, hj => simp at hj; subst hj; simp [Addr.add]
  | 3, hj => simp at hj; subst hj; simp [Addr.add]
  | j + 4, hj => simp at hj

theorem take_pos {l : List UInt8} {p : UInt8 → Bool} {x : UInt8} (hp : p x = true) : 0 < ((x :: l).takeWhile p).length := by simp [hp]
theorem tk_ok {l : List UInt8} {t m} (h : tk l = .ok (t, m)) : 0 < m ∧ m ≤ l.length := by
  cases l with
  | nil => simp [tk] at h
  | cons x l =>
    by_cases h7 : cl x = 7
    · have e := tr_num h7 ⟨h⟩
      rw [numS, ns_eq] at e
      have hp := take_pos (l := l) (p := isDg) (x := x) (by simp [isDg, h7])
      have hl := (List.takeWhile_prefix (p := isDg) (l := x :: l)).length_le
      cases hv : numVal (List.takeWhile isDg (x :: l)) with
      | none => rw [hv] at e; simp at e
      | some v => rw [hv] at e; simp at e; omega
    · by_cases h6 : cl x = 6
      · have e := tr_name h6 ⟨h⟩
        have hp := take_pos (l := l) (p := isNm) (x := x) (by simp [isNm, h6])
        have hl := (List.takeWhile_prefix (p := isNm) (l := x :: l)).length_le
        unfold nameR at e
        split at e
        · cases e
        · simp at e; omega
      · have e := tr_sign h7 h6 ⟨h⟩
        have hb := bst_small (x :: l) 29 (by omega)
        unfold signR at e
        split at e
        · cases e
        · simp at e; omega
theorem tk_err {l : List UInt8} {e} (h : tk l = .error e) : e = 20 ∨ e = 21 ∨ e = 22 := by
  cases l with
  | nil => simp [tk] at h; omega
  | cons x l =>
    by_cases h7 : cl x = 7
    · have e := tr_num h7 ⟨h⟩
      rw [numS] at e
      split at e <;> cases e
      simp
    · by_cases h6 : cl x = 6
      · have e := tr_name h6 ⟨h⟩
        unfold nameR at e
        split at e <;> cases e
        simp
      · have e := tr_sign h7 h6 ⟨h⟩
        unfold signR at e
        split at e <;> cases e
        simp

/-- What lies ahead of place j is read: ts. -/
structure LR (L : List UInt8) (j : Nat) (ts : List T) : Prop where
  out : ∀ ts' p e, Lexes j (L.drop j) ts' p e → Lexes 0 L (ts ++ ts') p e
theorem LR.zero (L : List UInt8) : LR L 0 [] := ⟨fun ts' p e h => by simpa using h⟩
structure SK (L : List UInt8) (j R : Nat) (b : Bool) : Prop where
  out : j + (sk false (L.drop j)).1 = R ∧ (sk false (L.drop j)).2 = b
theorem SK.eq {L j R b} (h : SK L j R b) : sk false (L.drop j) = (R - j, b) := by
  obtain ⟨h1, h2⟩ := h.out
  rw [← h2, ← h1]; simp
theorem LR.bad {L j R ts} (h : LR L j ts) (hs : SK L j R false) : Lexes 0 L ts R 20 := by
  have := h.out _ _ _ (.bad (k := j) hs.eq)
  have e : j + (R - j) = R := by have := hs.out.1; omega
  rwa [e, List.append_nil] at this
theorem LR.fin {L j ts} (h : LR L j ts) (hj : j ≤ L.length) (hs : SK L j L.length true) : Lexes 0 L ts 0 0 := by
  have := h.out _ _ _ (.fin (k := j) (by rw [hs.eq]; simp))
  rwa [List.append_nil] at this
theorem LR.err {L j R ts e} (h : LR L j ts) (hs : SK L j R true) (hR : R < L.length) (ht : TR (L.drop R) (.error e)) : Lexes 0 L ts R e := by
  have e1 : j + (R - j) = R := by have := hs.out.1; omega
  have e2 : (L.drop j).drop (R - j) = L.drop R := by rw [List.drop_drop, e1]
  have := h.out _ _ _ (.err (k := j) hs.eq (by simp; omega) (by rw [e2]; exact ht.out))
  rwa [e1, List.append_nil] at this
theorem LR.tok {L j R ts t m} (h : LR L j ts) (hs : SK L j R true) (hR : R < L.length) (ht : TR (L.drop R) (.ok (t, m))) : LR L (R + m) (ts ++ [⟨t.kind, R, t.val, t.name⟩]) := by
  have e1 : j + (R - j) = R := by have := hs.out.1; omega
  have e2 : (L.drop j).drop (R - j) = L.drop R := by rw [List.drop_drop, e1]
  refine ⟨fun ts' p e hl => ?_⟩
  have := h.out _ _ _ (.tok (k := j) hs.eq (by simp; omega) (by rw [e2]; exact ht.out) (by rw [e1, List.drop_drop, show j + (R - j + m) = R + m by omega]; exact hl))
  rw [e1] at this
  simpa using this

theorem blank_at {w : World} {ao : Option Addr} {cap n : Nat} {L : List UInt8} (hT : Txt w ao cap L) (hn : n = L.length) {k : Nat} (hk : k ≤ n) {R : Nat} {b : Bool} (hs : SK L k R b) :
    Calls Tryd.prog 24 #[.slice ao n cap, .int .i64 k] w fun e w' => e = .returned (.tuple #[.int .i64 (R : Int), .int .i64 (if b = true then 0 else 20)]) ∧ w = w' := by
  subst hn
  have := blank_any w ao cap L hT k hk
  rw [hs.out.1, hs.out.2] at this
  exact this.mono fun e w' h => ⟨h.1, h.2.symm⟩

theorem info33' : (Tryd.prog.info? 31).map (fun i => (i.zero, i.size, i.bytes)) = some (some (.agg #[.int .i64 0, .int .i64 0, .int .i64 0, .string ⟨#[]⟩]), 4, 40) := by kernel_rfl

/-- What Tokens answers. -/
structure Said (w : World) (L : List UInt8) (e : Ending) (w' : World) : Prop where
  out : ∃ ts p er v, Lexes 0 L ts p er ∧ e = .returned (.tuple #[v, .int .i64 (p : Int), .int .i64 (er : Int)]) ∧ Own w' w.heap.size v ts ∧ Below w.heap.size w w'

set_option maxRecDepth 10000 in
set_option maxHeartbeats 2000000 in
theorem tokens_any (w : World) (hTab : Tab w) (ao : Option Addr) (cap : Nat) (L : List UInt8) (hT : Txt w ao cap L) (hl : L.length ≤ 4194304) :
    Calls Tryd.prog 10 #[.slice ao L.length cap] w fun e w' => Said w L e w' := by
  obtain ⟨n, hn⟩ : ∃ n, n = L.length := ⟨_, rfl⟩
  rw [← hn] at hl ⊢
  have HN : Hid (n = L.length) := hn
  clear hn
  have hc1 : n ≤ cap := by have := hT.1; have := HN.out; omega
  have hc2 := hT.2.1
  obtain ⟨i0, hi, hz0, hz1, hz2⟩ := info_parts info33'
  go_enter Tryd.func10, Tryd.ntmps10
  go_wp2
  go_loopw [5, 6] (fun v c wr => ∃ (j : Nat) (ts : List T), j ≤ n ∧ ts.length ≤ j ∧ c = .int .i64 j ∧ Own wr w.heap.size v ts ∧ LR L j ts ∧ Below w.heap.size w wr) (fun _ c _ => n - (intOf c).toNat)
  case atStart => exact ⟨0, [], by omega, by simp, rfl, ⟨World.ownsRow_nil _ _ _ _⟩, LR.zero L, Below.refl _ _⟩
  case round =>
    obtain ⟨j, ts, hj, hts, rfl, hown, hLR, hbl⟩ := hrel
    have hT2 : Txt wr ao cap L := hT.below hbl (Nat.le_refl _)
    have hTab2 : Tab wr := hTab.below hbl hTab.1
    obtain ⟨R, b, HSK⟩ : ∃ R b, SK L j R b := ⟨_, _, rfl, rfl⟩
    have hRn : j ≤ R ∧ R ≤ n := by
      have := sk_le false (L.drop j); have := HSK.out.1; have := HN.out; simp at *; omega
    obtain ⟨hR1, hR2⟩ := hRn
    cases b
    · go_wp2_with (first | (go_at_call 24; refine (blank_at hT2 HN.out hj HSK).mono ?_; rintro e w' ⟨rfl, rfl⟩) | fail)
      go_ret3
      exact ⟨ts, R, 20, _, hLR.bad HSK, rfl, hown, hbl⟩
    · by_cases hRe : R = n
      · subst hRe
        go_wp2_with (first | (go_at_call 24; refine (blank_at hT2 HN.out hj HSK).mono ?_; rintro e w' ⟨rfl, rfl⟩) | fail)
        go_ret3
        exact ⟨ts, 0, 0, _, hLR.fin (by have := HN.out; omega) (by have := HN.out; subst this; exact HSK), rfl, hown, hbl⟩
      · have hRl : R < n := by omega
        obtain ⟨b, o, rfl, hA⟩ := hT2.at (HN.out ▸ hRl)
        obtain ⟨r, HTR⟩ : ∃ r, TR (L.drop R) r := ⟨_, ⟨rfl⟩⟩
        cases r with
        | error er =>
          have her := tk_err HTR.out
          have her0 : ¬ (er : Int) = 0 := by omega
          have her1 : ((er : Int) == 0) = false := by simp; omega
          go_wp2_with (first
            | (go_at_call 24; refine (blank_at hT2 HN.out hj HSK).mono ?_; rintro e w' ⟨rfl, rfl⟩)
            | (go_at_call 25; refine (token_any _ (hTab2.alloc _) b o cap n L (hA.alloc _) HN.out hc1 hc2 R hRl _ HTR).mono ?_; rintro e u ⟨⟨z, rfl⟩, hb2⟩; have hg := (hb2.block wr.heap.size (by simp)).trans (heap_alloc_last _ _))
            | (refine wpList_store_tok rfl _ _ rfl wr.heap.size 0 0 0 .empty rfl rfl _ hg rfl ?_))
          go_ret3
          have hb3 : Below wr.heap.size wr (u.setRow wr.heap.size #[.int .i64 0, .int .i64 0, .int .i64 0, .string .empty]) := below_setRow (((Below.refl _ _).alloc (Nat.le_refl _) _).trans (hb2.mono (by simp))) (Nat.le_refl _) _
          exact ⟨ts, R, er, _, hLR.err HSK (HN.out ▸ hRl) HTR, rfl, ⟨own_keep hown.out hb3.block⟩, hbl.trans (hb3.mono hbl.size)⟩
        | ok p =>
          obtain ⟨t, m⟩ := p
          have hm := tk_ok HTR.out
          have hm1 := hm.1
          have hm2 : R + m ≤ n := by have := hm.2; simp at this; have := HN.out; omega
          clear hm
          go_wp2_with (first
            | (go_at_call 24; refine (blank_at hT2 HN.out hj HSK).mono ?_; rintro e w' ⟨rfl, rfl⟩)
            | (go_at_call 25; refine (token_any _ (hTab2.alloc _) b o cap n L (hA.alloc _) HN.out hc1 hc2 R hRl _ HTR).mono ?_; rintro e u ⟨hR, hb2⟩; obtain rfl := (hR : e = .returned (.tuple #[.agg #[.int .i64 t.kind, .int .i64 R, .int .i64 t.val, .string (bs t.name)], .int .i64 ((R + m : Nat) : Int), .int .i64 0])); have hg := (hb2.block wr.heap.size (by simp)).trans (heap_alloc_last _ _))
            | (refine wpList_store_tok rfl _ _ rfl wr.heap.size t.kind R t.val (bs t.name) rfl rfl _ hg rfl ?_
               have hg2 := setRow_heap _ _ _ #[.int .i64 t.kind, .int .i64 R, .int .i64 t.val, .string (bs t.name)] _ _ hg
               have hb3 : Below wr.heap.size wr (u.setRow wr.heap.size #[.int .i64 t.kind, .int .i64 R, .int .i64 t.val, .string (bs t.name)]) := below_setRow (((Below.refl _ _).alloc (Nat.le_refl _) _).trans (hb2.mono (by simp))) (Nat.le_refl _) _
               obtain ⟨u2, hu2⟩ : ∃ u2, u2 = u.setRow wr.heap.size #[.int .i64 t.kind, .int .i64 R, .int .i64 t.val, .string (bs t.name)] := ⟨_, rfl⟩
               rw [← hu2] at hg2 hb3 ⊢
               clear hu2 hg hb2)
            | (refine wpList_load_row rfl 31 _ rfl wr.heap.size rfl 31 _ (0, 0) _ hg2 Tryd.underlying31 rfl info33 ?_)
            | (at_builtin; refine wpList_append_own _ rfl _ _ 26 rfl w.heap.size 31 i0 _ 4 40 Tryd.underlying26 hi hz0 hz1 hz2 rfl (by decide) _ ts.length (tcs ts) rfl ((own_keep hown.out hb3.block).alloc _) ⟨u2.heap.size, 0, none⟩ 1 1 [.int .i64 t.kind, .int .i64 R, .int .i64 t.val, .string (bs t.name)] rfl rfl (cell_four_new _ _ _ _ _ _) (fun x hx => by simp at hx; rcases hx with rfl | rfl | rfl | rfl <;> rfl) (by unfold maxLen; omega) (by omega) (by have := hbl.size; have := hb3.size; simp; omega) ?_; intro v' w3 hown' hgrow3 hnil3))
          have hb4 : Below w.heap.size w w3 := Below.grown ((hbl.trans (hb3.mono hbl.size)).alloc (by have := hbl.size; have := hb3.size; omega) _) hgrow3 (by have := hbl.size; have := hb3.size; simp; omega) (fun k hk => (own_block hown.out hk).1)
          have hown4 : Own w3 w.heap.size v' (ts ++ [⟨t.kind, R, t.val, t.name⟩]) := ⟨by rw [tcs_snoc, List.length_append]; exact hown'⟩
          clear hown' hgrow3 hnil3
          go_roundw
          case rel => exact ⟨R + m, ts ++ [⟨t.kind, R, t.val, t.name⟩], hm2, by simp; omega, by go_num, hown4, hLR.tok HSK (HN.out ▸ hRl) HTR, hb4⟩
          case measure => simp [intOf]; omega
end Go.Proofs.YteiambniddddpaaDoor
