import Derived.Test.YtjiaedckecfjbaaDoorCyE
import Derived.Test.YtjiaedckecfjbaaDoorCyB
import Derived.Lib.ConvBytes
set_option linter.unusedVariables false
set_option linter.unusedSimpArgs false
namespace Go.Proofs.YtjiaedckecfjbaaDoor
open Go.ChangeShapes Go.WideShapes Go.ChangeAt Go.RowKit Go.Maps

theorem ret_blL {a b : Bool} (h : a = b) : Ending.returned (.bool a) = Ending.returned (.bool b) := by rw [h]
/-- A name that is none of the words. -/
def nmOk (s : List UInt8) : Bool := decide (s.length ≤ 64) && decide ((s.head?.map cl) = some 6) && s.all isNm && !(WORDS.contains s)
theorem sk_name {s : List UInt8} (h : s.head?.map cl = some 6) : sk false s = (0, true) := by
  cases s with
  | nil => simp at h
  | cons c l =>
    simp at h
    have : c ≠ 47 := by rintro rfl; revert h; decide
    simp [sk, h, this]
theorem takeWhile_all {p : UInt8 → Bool} : ∀ {l : List UInt8}, l.all p = true → l.takeWhile p = l
  | [], _ => rfl
  | c :: l, h => by simp at h; simp [h.1]; exact takeWhile_all (by simpa using h.2)
theorem findIdx_none {s : List UInt8} (h : WORDS.contains s = false) : WORDS.findIdx? (· == s) = none := by
  rw [List.findIdx?_eq_none_iff]
  intro x hx
  by_cases e : x = s
  · subst e; simp [hx] at h
  · simp [e]
theorem contains_none {s : List UInt8} (h : WORDS.findIdx? (· == s) = none) : WORDS.contains s = false := by
  rw [List.findIdx?_eq_none_iff] at h
  rw [← Bool.not_eq_true]
  intro hc
  have := h s (by simpa using hc)
  simp at this
theorem nmOk_lex {s : List UInt8} (h : nmOk s = true) : Lexes 0 s [⟨1, 0, 0, s⟩] 0 0 := by
  simp only [nmOk, Bool.and_eq_true, decide_eq_true_eq, Bool.not_eq_true'] at h
  obtain ⟨⟨⟨h1, h2⟩, h3⟩, h4⟩ := h
  have hne : s ≠ [] := by rintro rfl; simp at h2
  have hl : 0 < s.length := List.length_pos_iff.2 hne
  have ht : tk (s.drop 0) = .ok (⟨1, 0, s⟩, s.length) := by
    cases s with
    | nil => simp at hne
    | cons c l =>
      simp at h2
      have e1 : (c :: l).takeWhile isNm = c :: l := takeWhile_all h3
      simp only [List.drop_zero]
      simp only [tk]
      rw [if_neg (by omega), if_pos h2, e1, if_neg (by omega)]
      simp only [nameTk, findIdx_none h4]
  have := Lexes.tok (k := 0) (l := s) (n := 0) (t := ⟨1, 0, s⟩) (m := s.length) (ts := []) (p := 0) (e := 0) (sk_name h2) hl ht (Lexes.fin (by simp [sk]))
  simpa using this
theorem lex_nmOk {s : List UInt8} {t : T} {p e : Nat} (hl : s.length ≤ 64) (h : Lexes 0 s [t] p e) (hn : t.name = s) : nmOk s = true := by
  obtain ⟨n, tt, m, h1, h2, h3, rfl, h4⟩ := h
  · simp at hn
    have hne : s ≠ [] := by rintro rfl; simp at h2
    generalize hd : s.drop n = d at h3
    cases d with
    | nil => simp [tk] at h3
    | cons c l =>
      simp only [tk] at h3
      split at h3
      · split at h3
        · cases h3
        · cases h3; exact absurd hn.symm hne
      · split at h3
        · rename_i h7 h6
          split at h3
          · cases h3
          · simp at h3
            have h5 := h3.1
            unfold nameTk at h5
            split at h5
            · subst h5; exact absurd hn.symm hne
            · rename_i hidx
              subst h5
              simp at hn
              have hlen := (List.takeWhile_prefix (p := isNm) (l := c :: l)).length_le
              have e0 : (c :: l).length = s.length - n := by rw [← hd]; simp
              have hs : ((c :: l).takeWhile isNm).length = s.length := by rw [hn]
              have hn0 : n = 0 := by omega
              subst hn0
              simp at hd
              rw [← hd] at hn hidx
              have hall : s.all isNm = true := by rw [← hn]; exact List.all_takeWhile
              simp only [nmOk, Bool.and_eq_true, decide_eq_true_eq, Bool.not_eq_true']
              exact ⟨⟨⟨hl, by rw [hd]; simp [h6]⟩, hall⟩, contains_none (by rw [hn] at hidx; exact hidx)⟩
        · split at h3
          · cases h3
          · cases h3; exact absurd hn.symm hne
/-- A slice of tokens that holds ts. -/
structure TokV (w : World) (ao : Option Addr) (ts : List T) : Prop where
  out : ts ≠ [] → ∃ g, ao = some ⟨g, 0, none⟩ ∧ g < w.heap.size ∧ ∀ i (h : i < ts.length), w.cell? ⟨g, i * 4, none⟩ = some (.int .i64 ts[i].kind) ∧ w.cell? ⟨g, i * 4 + 1, none⟩ = some (.int .i64 ts[i].pos) ∧ w.cell? ⟨g, i * 4 + 2, none⟩ = some (.int .i64 ts[i].val) ∧ w.cell? ⟨g, i * 4 + 3, none⟩ = some (.string (bs ts[i].name))
theorem tcs_at (ts : List T) : ∀ i (h : i < ts.length) (j : Nat), j < 4 → (tcs ts)[i * 4 + j]? = (tc ts[i])[j]? := by
  induction ts with
  | nil => intro i h; simp at h
  | cons t ts ih =>
    intro i h j hj
    have e : tcs (t :: ts) = tc t ++ tcs ts := by simp [tcs]
    rw [e]
    cases i with
    | zero => rw [List.getElem?_append_left (by simp [tc]; omega)]; simp
    | succ i =>
      rw [List.getElem?_append_right (by simp [tc]; omega)]
      have := ih i (by simpa using h) j hj
      rw [show (i + 1) * 4 + j - (tc t).length = i * 4 + j by simp [tc]; omega, this]
      simp
theorem Own.view {w B v ts} (h : Own w B v ts) : ∃ ao cap, v = .slice ao ts.length cap ∧ ts.length ≤ cap ∧ cap ≤ 9223372036854775807 ∧ TokV w ao ts := by
  have hh := h.out
  rcases hh.2 with ⟨rfl, hn⟩ | ⟨g, cap, cur, rfl, e2, e3, e4, e5, e6, e7⟩
  · have : ts = [] := List.length_eq_zero_iff.1 hn
    subst this
    exact ⟨none, 0, rfl, by simp, by omega, ⟨fun h => absurd rfl h⟩⟩
  · refine ⟨_, cap, rfl, e4, e5, ⟨fun _ => ⟨g, rfl, (Array.getElem?_eq_some_iff.1 e3).1, fun i hi => ?_⟩⟩⟩
    have hc : ∀ j, j < 4 → w.cell? ⟨g, i * 4 + j, none⟩ = (tc ts[i])[j]? := by
      intro j hj
      have h1 := tcs_at ts i hi j hj
      rw [← e7, List.getElem?_take, if_pos (by omega)] at h1
      have h2 : (tc ts[i])[j]? = some ((tc ts[i])[j]'(by simp [tc]; omega)) := List.getElem?_eq_getElem _
      rw [h2] at h1 ⊢
      exact cell_arr e3 (by rw [← h1]; simp)
    exact ⟨hc 0 (by omega), hc 1 (by omega), hc 2 (by omega), hc 3 (by omega)⟩
theorem TokV.below {w w' ao ts B} (h : TokV w ao ts) (hb : Below B w w') (hB : w.heap.size ≤ B) : TokV w' ao ts := ⟨fun hn => by
  obtain ⟨g, e, hg, hc⟩ := h.out hn
  have hs := hb.size
  refine ⟨g, e, by omega, fun i hi => ?_⟩
  obtain ⟨a, b, c, d⟩ := hc i hi
  rw [hb.cell (p := ⟨g, _, none⟩) (by show g < B; omega), hb.cell (p := ⟨g, _, none⟩) (by show g < B; omega), hb.cell (p := ⟨g, _, none⟩) (by show g < B; omega), hb.cell (p := ⟨g, _, none⟩) (by show g < B; omega)]
  exact ⟨a, b, c, d⟩⟩
theorem tokens_at (w : World) (hTab : Tab w) (ao : Option Addr) (cap n : Nat) (L : List UInt8) (hn : n = L.length) (hT : Txt w ao cap L) (hl : n ≤ 4194304) :
    Calls Tryd.prog 54 #[.slice ao n cap] w fun e w' => Said w L e w' := by
  subst hn; exact tokens_any w hTab ao cap L hT hl
theorem Txt.of_at {w b o cap L} (h : At w b o L) (h1 : L.length ≤ cap) (h2 : cap ≤ 9223372036854775807) : Txt w (some ⟨b, o, none⟩) cap L := ⟨h1, h2, fun _ => ⟨b, o, rfl, h⟩⟩
theorem conv_bytes (w : World) (S : List UInt8) (s : ByteArray) (hs : s = bs S) (hl : S.length ≤ 4194304) : ∃ c w', (convert 9 28 (.string s)).run Tryd.prog w = .ok (.slice (some ⟨w.heap.size, 0, none⟩) S.length c) w' ∧ Below w.heap.size w w' ∧ At w' w.heap.size 0 S ∧ S.length ≤ c ∧ c ≤ 9223372036854775807 := by
  subst hs
  refine ⟨_, _, Lib.run_convert_string_bytes (P := Tryd.prog) w 9 28 5 (bs S) Tryd.underlying9 Tryd.underlying28 Tryd.underlying5 |>.trans (by rw [bs_size]), ?_, ?_, ?_, ?_⟩
  · exact ⟨rfl, rfl, rfl, by rw [Lib.bytesWorld_size]; omega, fun k hk => Lib.bytesWorld_at_old w _ _ k hk⟩
  · refine ⟨by rw [Lib.bytesWorld_size]; omega, fun i hi => ?_⟩
    have := Lib.bytesWorld_cell w 5 (bs S) i (by rw [bs_size]; exact hi)
    rw [Nat.zero_add, this]
    simp [bs, List.getD, hi]
  · exact grownCap_ge _ _ _ _
  · exact grownCap_le_maxLen _ _ _ _ (by unfold maxLen; omega)
structure NmR (S : List UInt8) (ts : List T) (p e : Nat) : Prop where
  out : Lexes 0 S ts p e
theorem NmR.one {S ts p e} (h : NmR S ts p e) (hl : S.length ≤ 64) (h1 : ts.length = 1) : nmOk S = decide (((ts.map T.name).getD 0 []) = S) := by
  match ts, h, h1 with
  | [t], h, _ =>
    simp only [List.map_cons, List.map_nil, List.getD_cons_zero]
    by_cases e : t.name = S
    · rw [lex_nmOk hl h.out e]; simp [e]
    · rw [show decide (t.name = S) = false by simp [e], ← Bool.not_eq_true]
      intro hk
      have := (nmOk_lex hk).one h.out
      have := this.1
      simp at this
      exact e (by rw [← this])
theorem NmR.not {S ts p e} (h : NmR S ts p e) (h1 : ts.length ≠ 1) : nmOk S = false := by
  rw [← Bool.not_eq_true]
  intro hk
  have := ((nmOk_lex hk).one h.out).1
  rw [← this] at h1
  simp at h1
theorem nmOk_long {S : List UInt8} (h : 64 < S.length) : nmOk S = false := by
  have : ¬ S.length ≤ 64 := by omega
  simp [nmOk, this]
set_option maxRecDepth 10000 in
set_option maxHeartbeats 1000000 in
theorem fits_any (w : World) (hTab : Tab w) (S : List UInt8) : Calls Tryd.prog 48 #[.string (bs S)] w fun e w' => e = .returned (.bool (nmOk S)) ∧ Below w.heap.size w w' := by
  have hsz := bs_size S
  obtain ⟨s, hs⟩ : ∃ s, s = bs S := ⟨_, rfl⟩
  obtain ⟨n, hn⟩ : ∃ n, n = S.length := ⟨_, rfl⟩
  obtain ⟨R, hR⟩ : ∃ R, R = nmOk S := ⟨_, rfl⟩
  rw [← hs, ← hn] at hsz
  rw [← hs, ← hR]
  have HS : Hid (s = bs S ∧ n = S.length ∧ R = nmOk S) := ⟨hs, hn, hR⟩
  by_cases hl : n ≤ 64
  · obtain ⟨c, w1, hcv, hb1, hA, hc1, hc2⟩ := conv_bytes w S s hs (by omega)
    rw [← hn] at hcv hc1
    clear hs hn hR
    have hTab1 := hTab.below hb1 hTab.1
    have hT1 := Txt.of_at hA (by have := HS.out.2.1; omega) hc2
    have HT : Hid (Tab w1 ∧ Txt w1 (some ⟨w.heap.size, 0, none⟩) c S) := ⟨hTab1, hT1⟩
    clear hA hTab1 hT1 hTab
    go_enter Tryd.func48, Tryd.ntmps48
    go_wp2_with fail
    refine (tokens_at _ HT.out.1 _ c n S HS.out.2.1 HT.out.2 (by omega)).mono ?_
    rintro e w2 ⟨ts, p, ee, v, hLx, rfl, hown, hb2⟩
    obtain ⟨ao, cap, rfl, hv1, hv2, hv3⟩ := hown.view
    have HL : NmR S ts p ee := ⟨hLx⟩
    have hbb : Below w.heap.size w w2 := hb1.trans (hb2.mono hb1.size)
    clear hLx hown hb2 hb1 hcv
    by_cases hk : ts.length = 1
    · have H1 : Hid (R = decide ((ts.map T.name).getD 0 [] = S)) := by
        show R = _
        rw [HS.out.2.2]; exact HL.one (by have := HS.out.2.1; omega) hk
      obtain ⟨g, rfl, hg, hcells⟩ := hv3.out (by intro e; simp [e] at hk)
      obtain ⟨_, _, _, p3⟩ := hcells 0 (by omega)
      obtain ⟨nm, hnm⟩ : ∃ nm, nm = bs (ts[0]'(by omega)).name := ⟨_, rfl⟩
      rw [← hnm] at p3
      have HNM : Hid (nm = bs ((ts.map T.name).getD 0 [])) := by
        show nm = _
        rw [hnm]
        match ts, hk with
        | [t], _ => rfl
      clear hnm hcells
      rw [hk] at hv1 ⊢
      simp only [Nat.zero_mul, Nat.zero_add] at p3
      go_wp2_with fail
      go_ret
      refine ⟨ret_blL ?_, hbb⟩
      rw [H1.out, HNM.out, HS.out.1, bs_toList, bs_toList]
      rw [Bool.eq_iff_iff]; simp
    · have H1 : Hid (R = false) := by
        show R = _
        rw [HS.out.2.2]; exact HL.not hk
      obtain ⟨k, hkk⟩ : ∃ k, k = ts.length := ⟨_, rfl⟩
      rw [← hkk] at hk hv1 ⊢
      have hki : ¬ (k : Int) = 1 := by omega
      clear hkk
      go_wp2_with fail
      go_ret
      exact ⟨ret_blL H1.out.symm, hbb⟩
  · have hR' : Hid (R = false) := by show R = false; rw [hR]; exact nmOk_long (by omega)
    clear hs hn hR
    go_enter Tryd.func48, Tryd.ntmps48
    go_wp2
    go_ret
    exact ⟨ret_blL hR'.out.symm, Below.refl _ _⟩
end Go.Proofs.YtjiaedckecfjbaaDoor
