import Derived.Lib.ConvBytes
import Derived.StringKeys
import Derived.Maps.OwnOps
import Derived.Maps.OwnSet
import Derived.Test.YtfofmmkihhnfmaaGreatDoorJac
import Derived.Test.YtfofmmkihhnfmaaGreatDoorJae
import Derived.Test.YtfofmmkihhnfmaaGreatDoorJah
import Derived.Test.YtfofmmkihhnfmaaGreatDoorJai
set_option linter.unusedVariables false
set_option linter.unusedSimpArgs false
namespace Go.Proofs.YtfofmmkihhnfmaaGreatDoor
open Go.ChangeShapes Go.WideShapes Go.ChangeAt Go.RowKit Go.Maps
theorem ret_blL {a b : Bool} (h : a = b) : Ending.returned (.bool a) = Ending.returned (.bool b) := by rw [h]
def nmOk (s : List UInt8) : Bool := decide (s.length <= 64) && decide ((s.head?.map cl) = some 6) && s.all isNm && !(WORDS.contains s)
theorem sk_name {s : List UInt8} (h : s.head?.map cl = some 6) : sk false s = (0, true) := by
 cases s with
 | nil => simp at h
 | cons c l =>
   simp at h
   have : c ≠ 47 := by rintro rfl; revert h; decide
   simp [sk, h, this]
theorem takeWhile_all {p : UInt8 -> Bool} : ∀ {l : List UInt8}, l.all p = true -> l.takeWhile p = l
 | [], _ => rfl
 | c :: l, h => by simp at h; simp [h.1]; exact takeWhile_all (by simpa using h.2)
theorem findIdx_none {s : List UInt8} (h : WORDS.contains s = false) : WORDS.findIdx? (· == s) = none := by
 rw [List.findIdx?_eq_none_iff]
 intro x hx
 by_cases e : x = s
 ·subst e; simp [hx] at h
 ·simp [e]
theorem contains_none {s : List UInt8} (h : WORDS.findIdx? (· == s) = none) : WORDS.contains s = false := by
 rw [List.findIdx?_eq_none_iff] at h
 rw [<- Bool.not_eq_true]
 intro hc
 have := h s (by simpa using hc)
 simp at this
theorem nmOk_lex {s : List UInt8} (h : nmOk s = true) : Lexes 0 s [⟨1, 0, 0, s⟩] 0 0 := by
 simp only [nmOk, Bool.and_eq_true, decide_eq_true_eq, Bool.not_eq_true'] at h
 obtain ⟨⟨⟨h1, h2⟩, h3⟩, h4⟩ := h
 have hne : s ≠ [] := by rintro rfl; simp at h2
 have hl : 0 < s.length := List.length_pos_iff.2 hne
 have ht : tk (s.drop 0) = .ok (⟨1, 0, s⟩, s.length) := by
  cases s with
  | nil => simp at hne
  | cons c l =>
    simp at h2
    have e1 : (c :: l).takeWhile isNm = c :: l := takeWhile_all h3
    simp only [List.drop_zero]
    simp only [tk]
    rw [if_neg (by omega), if_pos h2, e1, if_neg (by omega)]
    simp only [nameTk, findIdx_none h4]
 have := Lexes.tok (k := 0) (l := s) (n := 0) (t := ⟨1, 0, s⟩) (m := s.length) (ts := []) (p := 0) (e := 0) (sk_name h2) hl ht (Lexes.fin (by simp [sk]))
 simpa using this
theorem lex_nmOk {s : List UInt8} {t : T} {p e : Nat} (hl : s.length <= 64) (h : Lexes 0 s [t] p e) (hn : t.name = s) : nmOk s = true := by
 obtain ⟨n, tt, m, h1, h2, h3, rfl, h4⟩ := h
 ·simp at hn
  have hne : s ≠ [] := by rintro rfl; simp at h2
  generalize hd : s.drop n = d at h3
  cases d with
  | nil => simp [tk] at h3
  | cons c l =>
    simp only [tk] at h3
    split at h3
    ·split at h3
     ·cases h3
     ·cases h3; exact absurd hn.symm hne
    ·split at h3
     ·rename_i h7 h6
      split at h3
      ·cases h3
      ·simp at h3
       have h5 := h3.1
       unfold nameTk at h5
       split at h5
       ·subst h5; exact absurd hn.symm hne
       ·rename_i hidx
        subst h5
        simp at hn
        have hlen := (List.takeWhile_prefix (p := isNm) (l := c :: l)).length_le
        have e0 : (c :: l).length = s.length - n := by rw [<- hd]; simp
        have hs : ((c :: l).takeWhile isNm).length = s.length := by rw [hn]
        have hn0 : n = 0 := by omega
        subst hn0
        simp at hd
        rw [<- hd] at hn hidx
        have hall : s.all isNm = true := by rw [<- hn]; exact List.all_takeWhile
        simp only [nmOk, Bool.and_eq_true, decide_eq_true_eq, Bool.not_eq_true']
        exact ⟨⟨⟨hl, by rw [hd]; simp [h6]⟩, hall⟩, contains_none (by rw [hn] at hidx; exact hidx)⟩
     ·split at h3
      ·cases h3
      ·cases h3; exact absurd hn.symm hne
structure TokV (w : World) (ao : Option Addr) (ts : List T) : Prop where
 out : ts ≠ [] -> ∃ g, ao = some ⟨g, 0, none⟩ /\ g < w.heap.size /\ ∀ i (h : i < ts.length), w.cell? ⟨g, i * 4, none⟩ = some (.int .i64 ts[i].kind) /\ w.cell? ⟨g, i * 4 + 1, none⟩ = some (.int .i64 ts[i].pos) /\ w.cell? ⟨g, i * 4 + 2, none⟩ = some (.int .i64 ts[i].val) /\ w.cell? ⟨g, i * 4 + 3, none⟩ = some (.string (bs ts[i].name))
theorem tcs_at (ts : List T) : ∀ i (h : i < ts.length) (j : Nat), j < 4 -> (tcs ts)[i * 4 + j]? = (tc ts[i])[j]? := by
 induction ts with
 | nil => intro i h; simp at h
 | cons t ts ih =>
   intro i h j hj
   have e : tcs (t :: ts) = tc t ++ tcs ts := by simp [tcs]
   rw [e]
   cases i with
   | zero => rw [List.getElem?_append_left (by simp [tc]; omega)]; simp
   | succ i =>
     rw [List.getElem?_append_right (by simp [tc]; omega)]
     have := ih i (by simpa using h) j hj
     rw [show (i + 1) * 4 + j - (tc t).length = i * 4 + j by simp [tc]; omega, this]
     simp
theorem Own.view {w B v ts} (h : Own w B v ts) : ∃ ao cap, v = .slice ao ts.length cap /\ ts.length <= cap /\ cap <= 9223372036854775807 /\ TokV w ao ts := by
 have hh := h.out
 rcases hh.2 with ⟨rfl, hn⟩ | ⟨g, cap, cur, rfl, e2, e3, e4, e5, e6, e7⟩
 ·have : ts = [] := List.length_eq_zero_iff.1 hn
  subst this
  exact ⟨none, 0, rfl, by simp, by omega, ⟨fun h => absurd rfl h⟩⟩
 ·refine ⟨_, cap, rfl, e4, e5, ⟨fun _ => ⟨g, rfl, (gl e3), fun i hi => ?_⟩⟩⟩
  have hc : ∀ j, j < 4 -> w.cell? ⟨g, i * 4 + j, none⟩ = (tc ts[i])[j]? := by
   intro j hj
   have h1 := tcs_at ts i hi j hj
   rw [<- e7, List.getElem?_take, if_pos (by omega)] at h1
   have h2 : (tc ts[i])[j]? = some ((tc ts[i])[j]'(by simp [tc]; omega)) := List.getElem?_eq_getElem _
   rw [h2] at h1 ⊢
   exact cell_arr e3 (by rw [<- h1]; simp)
  exact ⟨hc 0 (by omega), hc 1 (by omega), hc 2 (by omega), hc 3 (by omega)⟩
theorem TokV.below {w w' ao ts B} (h : TokV w ao ts) (hb : Below B w w') (hB : w.heap.size <= B) : TokV w' ao ts := ⟨fun hn => by
 obtain ⟨g, e, hg, hc⟩ := h.out hn
 have hs := hb.size
 refine ⟨g, e, by omega, fun i hi => ?_⟩
 obtain ⟨a, b, c, d⟩ := hc i hi
 rw [hb.cell (p := ⟨g, _, none⟩) (by show g < B; omega), hb.cell (p := ⟨g, _, none⟩) (by show g < B; omega), hb.cell (p := ⟨g, _, none⟩) (by show g < B; omega), hb.cell (p := ⟨g, _, none⟩) (by show g < B; omega)]
 exact ⟨a, b, c, d⟩⟩
theorem tokens_at (w : World) (hTab : Tab w) (ao : Option Addr) (cap n : Nat) (L : List UInt8) (hn : n = L.length) (hT : Txt w ao cap L) (hl : n <= 4194304) :
 Calls Tryz.prog 126 #[.slice ao n cap] w fun e w' => Said w L e w' := by
 subst hn; exact tokens_any w hTab ao cap L hT hl
theorem Txt.of_at {w b o cap L} (h : At w b o L) (h1 : L.length <= cap) (h2 : cap <= 9223372036854775807) : Txt w (some ⟨b, o, none⟩) cap L := ⟨h1, h2, fun _ => ⟨b, o, rfl, h⟩⟩
theorem conv_bytes (w : World) (S : List UInt8) (s : ByteArray) (hs : s = bs S) (hl : S.length <= 4194304) : ∃ c w', (convert 9 154 (.string s)).run Tryz.prog w = .ok (.slice (some ⟨w.heap.size, 0, none⟩) S.length c) w' /\ Below w.heap.size w w' /\ At w' w.heap.size 0 S /\ S.length <= c /\ c <= 9223372036854775807 := by
 subst hs
 refine ⟨_, _, Lib.run_convert_string_bytes (P := Tryz.prog) w 9 154 5 (bs S) Tryz.underlying9 Tryz.underlying154 Tryz.underlying5 |>.trans (by rw [bs_size]), ?_, ?_, ?_, ?_⟩
 ·exact ⟨rfl, rfl, rfl, by rw [Lib.bytesWorld_size]; omega, fun k hk => Lib.bytesWorld_at_old w _ _ k hk⟩
 ·refine ⟨by rw [Lib.bytesWorld_size]; omega, fun i hi => ?_⟩
  have := Lib.bytesWorld_cell w 5 (bs S) i (by rw [bs_size]; exact hi)
  rw [Nat.zero_add, this]
  simp [bs, List.getD, hi]
 ·exact grownCap_ge _ _ _ _
 ·exact grownCap_le_maxLen _ _ _ _ (by unfold maxLen; omega)
structure NmR (S : List UInt8) (ts : List T) (p e : Nat) : Prop where
 out : Lexes 0 S ts p e
theorem NmR.one {S ts p e} (h : NmR S ts p e) (hl : S.length <= 64) (h1 : ts.length = 1) : nmOk S = decide (((ts.map T.name).getD 0 []) = S) := by
 match ts, h, h1 with
 | [t], h, _ =>
   simp only [List.map_cons, List.map_nil, List.getD_cons_zero]
   by_cases e : t.name = S
   ·rw [lex_nmOk hl h.out e]; simp [e]
   ·rw [show decide (t.name = S) = false by simp [e], <- Bool.not_eq_true]
    intro hk
    have := (nmOk_lex hk).one h.out
    have := this.1
    simp at this
    exact e (by rw [<- this])
theorem NmR.not {S ts p e} (h : NmR S ts p e) (h1 : ts.length ≠ 1) : nmOk S = false := by
 rw [<- Bool.not_eq_true]
 intro hk
 have := ((nmOk_lex hk).one h.out).1
 rw [<- this] at h1
 simp at h1
theorem nmOk_long {S : List UInt8} (h : 64 < S.length) : nmOk S = false := by
 have : ¬ S.length <= 64 := by omega
 simp [nmOk, this]
set_option maxRecDepth 10000 in
set_option maxHeartbeats 1000000 in
theorem fits_any (w : World) (hTab : Tab w) (S : List UInt8) : Calls Tryz.prog 113 #[.string (bs S)] w fun e w' => e = .returned (.bool (nmOk S)) /\ Below w.heap.size w w' := by
 have hsz := bs_size S
 obtain ⟨s, hs⟩ : ∃ s, s = bs S := ⟨_, rfl⟩
 obtain ⟨n, hn⟩ : ∃ n, n = S.length := ⟨_, rfl⟩
 obtain ⟨R, hR⟩ : ∃ R, R = nmOk S := ⟨_, rfl⟩
 rw [<- hs, <- hn] at hsz
 rw [<- hs, <- hR]
 have HS : Hid (s = bs S /\ n = S.length /\ R = nmOk S) := ⟨hs, hn, hR⟩
 by_cases hl : n <= 64
 ·obtain ⟨c, w1, hcv, hb1, hA, hc1, hc2⟩ := conv_bytes w S s hs (by omega)
  rw [<- hn] at hcv hc1
  clear hs hn hR
  have hTab1 := hTab.below hb1 hTab.1
  have hT1 := Txt.of_at hA (by have := HS.out.2.1; omega) hc2
  have HT : Hid (Tab w1 /\ Txt w1 (some ⟨w.heap.size, 0, none⟩) c S) := ⟨hTab1, hT1⟩
  clear hA hTab1 hT1 hTab
  go_enter Tryz.func113, Tryz.ntmps113
  go_wp2_with fail
  refine (tokens_at _ HT.out.1 _ c n S HS.out.2.1 HT.out.2 (by omega)).mono ?_
  rintro e w2 ⟨ts, p, ee, v, hLx, rfl, hown, hb2⟩
  obtain ⟨ao, cap, rfl, hv1, hv2, hv3⟩ := hown.view
  have HL : NmR S ts p ee := ⟨hLx⟩
  have hbb : Below w.heap.size w w2 := hb1.trans (hb2.mono hb1.size)
  clear hLx hown hb2 hb1 hcv
  by_cases hk : ts.length = 1
  ·have H1 : Hid (R = decide ((ts.map T.name).getD 0 [] = S)) := by
    show R = _
    rw [HS.out.2.2]; exact HL.one (by have := HS.out.2.1; omega) hk
   obtain ⟨g, rfl, hg, hcells⟩ := hv3.out (by intro e; simp [e] at hk)
   obtain ⟨_, _, _, p3⟩ := hcells 0 (by omega)
   obtain ⟨nm, hnm⟩ : ∃ nm, nm = bs (ts[0]'(by omega)).name := ⟨_, rfl⟩
   rw [<- hnm] at p3
   have HNM : Hid (nm = bs ((ts.map T.name).getD 0 [])) := by
    show nm = _
    rw [hnm]
    match ts, hk with
    | [t], _ => rfl
   clear hnm hcells
   rw [hk] at hv1 ⊢
   simp only [Nat.zero_mul, Nat.zero_add] at p3
   go_wp2_with fail
   go_ret
   refine ⟨ret_blL ?_, hbb⟩
   rw [H1.out, HNM.out, HS.out.1, bs_toList, bs_toList]
   rw [Bool.eq_iff_iff]; simp
  ·have H1 : Hid (R = false) := by
    show R = _
    rw [HS.out.2.2]; exact HL.not hk
   obtain ⟨k, hkk⟩ : ∃ k, k = ts.length := ⟨_, rfl⟩
   rw [<- hkk] at hk hv1 ⊢
   have hki : ¬ (k : Int) = 1 := by omega
   clear hkk
   go_wp2_with fail
   go_ret
   exact ⟨ret_blL H1.out.symm, hbb⟩
 ·have hR' : Hid (R = false) := by show R = false; rw [hR]; exact nmOk_long (by omega)
  clear hs hn hR
  go_enter Tryz.func113, Tryz.ntmps113
  go_wp2
  go_ret
  exact ⟨ret_blL hR'.out.symm, Below.refl _ _⟩
end Go.Proofs.YtfofmmkihhnfmaaGreatDoor
namespace Go.Proofs.YtfofmmkihhnfmaaGreatDoor
open Go.ChangeShapes Go.WideShapes Go.ChangeAt Go.RowKit Go.Maps Go.WideMaps
def nml (s : ByteArray) : List UInt8 := s.data.toList
theorem bs_nml (s : ByteArray) : bs (nml s) = s := by simp [bs, nml]
theorem nml_inj {a b : ByteArray} (h : nml a = nml b) : a = b := by rw [<- bs_nml a, h, bs_nml]
def cdN (N : List (List UInt8)) : Nat -> Nat
 | 0 => 0
 | k + 1 => if N.getD k [] ∈ N.take k then cdN N k else cdN N k + 1
theorem cdN_le (N : List (List UInt8)) : ∀ k, cdN N k <= k
 | 0 => Nat.le_refl _
 | k + 1 => by
   have := cdN_le N k
   unfold cdN
   split <;> omega
theorem cdN_eq (N : List (List UInt8)) : ∀ k, k <= N.length -> (cdN N k = k ↔ (N.take k).Nodup)
 | 0, _ => by simp [cdN]
 | k + 1, hk => by
   have ih := cdN_eq N k (by omega)
   have hl := cdN_le N k
   have hg : N.getD k [] = N[k] := by simp [List.getD, show k < N.length by omega]
   rw [<- List.take_append_getElem (show k < N.length by omega), List.nodup_append]
   unfold cdN
   rw [hg]
   split
   ·next h =>
    constructor
    ·intro e; omega
    ·rintro ⟨_, _, h3⟩
     exact absurd rfl (h3 _ h _ (by simp))
   ·next h =>
    constructor
    ·intro e
     refine ⟨ih.1 (by omega), by simp, fun a ha b hb e2 => ?_⟩
     simp at hb
     subst hb; subst e2
     exact h ha
    ·rintro ⟨h1, _, _⟩
     have := ih.2 h1
     omega
def namesP (FS : List Rf) : Bool := FS.all (fun f : Rf => nmOk (nml f.name)) && decide ((FS.map fun f : Rf => nml f.name).Nodup)
theorem below_newX (w : World) (X : Obj) : Below w.heap.size w (w.alloc X) := (Below.refl _ _).alloc (Nat.le_refl _) _
theorem law9 : Keyed Tryz.prog 9 := string_keyed Tryz.underlying9
theorem zeroI (w : World) : (zeroValue 3).run Tryz.prog w = .ok (.int .i64 0) w := by kernel_rfl
structure NM (w : World) (mb k : Nat) (N : List (List UInt8)) : Prop where
 out : ∃ D : DataW Value, w.ownsMap Tryz.prog 9 (plainElem Tryz.prog 3) mb k D /\ size D = cdN N k /\ ∀ s : List UInt8, has D (.string s) = decide (s ∈ N.take k)
theorem NM.start (w : World) (N : List (List UInt8)) : NM (w.alloc (.map #[] 0)) w.heap.size 0 N :=
 ⟨.map [], World.ownsMap_made _ _ _ _, rfl, fun s => by simp [has]⟩
theorem key9 {s : ByteArray} (hs : s.size <= 64) : keyOf Tryz.prog 9 (.string s) = some (.string (nml s)) := keyOf_string_mk Tryz.underlying9 (by unfold maxLen; omega)
theorem NM.next {w' : World} {mb k : Nat} {N : List (List UInt8)} {D : DataW Value} (hk : k < N.length) (h1 : size D = cdN N k) (h2 : ∀ s : List UInt8, has D (.string s) = decide (s ∈ N.take k)) (ht : Tidy D) (d : DataW Value) (h : w'.ownsMap Tryz.prog 9 (plainElem Tryz.prog 3) mb (k + 1) (D.put (.string N[k]) d)) : NM w' mb (k + 1) N := by
 have hg : N.getD k [] = N[k] := by simp [List.getD, hk]
 refine ⟨_, h, ?_, fun s => ?_⟩
 ·rw [size_put ht, h2, h1]
  simp only [cdN, hg, decide_eq_true_eq]
 ·by_cases e : s = N[k]
  ·subst e
   rw [has_put_same ht.isMap (show WideAt.IsKeyLit (Lit.string _) from trivial)]
   have : N[k] ∈ N.take (k + 1) := by rw [<- List.take_append_getElem hk, List.mem_append, List.mem_singleton]; exact .inr rfl
   exact (decide_eq_true this).symm
  ·have hne : (Lit.string s) ≠ .string N[k] := fun q => e (by injection q)
   rw [has_put_other hne, h2, decide_eq_decide, <- List.take_append_getElem hk, List.mem_append, List.mem_singleton]
   exact ⟨fun q => .inl q, fun q => q.resolve_right e⟩
theorem own_map_moveN {w w' : World} {b c : Nat} {D : DataW Value} (h : w.ownsMap Tryz.prog 9 (plainElem Tryz.prog 3) b c D) (hk : w'.heap[b]? = w.heap[b]?) : w'.ownsMap Tryz.prog 9 (plainElem Tryz.prog 3) b c D := by
 obtain ⟨es, cl, h1, h2⟩ := h
 exact ⟨es, cl, hk.trans h1, h2⟩
theorem NM.keep {w w' : World} {mb k N} (h : NM w mb k N) (hb : Below w.heap.size w w') : NM w' mb k N := by
 obtain ⟨D, d1, d2, d3⟩ := h.out
 exact ⟨D, own_map_moveN d1 (hb.block _ d1.lt), d2, d3⟩
theorem fits1_any (w : World) (s : ByteArray) (r1 r2 r3 r4 : Int) :
 Calls Tryz.prog 81 #[.agg #[.string s, .int .i64 r1, .int .i64 r2, .int .i64 r3, .int .i64 r4]] w fun e w' => e = .returned (.string s) /\ w' = w.alloc (.cells #[.string s, .int .i64 r1, .int .i64 r2, .int .i64 r3, .int .i64 r4] 59) := by
 go_enter Tryz.func81, Tryz.ntmps81
 go_wp2_with fail
 go_ret
 exact ⟨rfl, rfl⟩
set_option maxRecDepth 100000 in
set_option maxHeartbeats 4000000 in
theorem namesAll_any (w : World) (hTab : Tab w) (fa : Option Addr) (fn fc : Nat) (FS : List Rf) (hfn : fn = FS.length) (hF : StsG w fa fc 5 (FS.map rfv)) (hlen : fn <= 1000000) :
 Calls Tryz.prog 80 #[.slice fa fn fc, .func (.func 81) #[] #[]] w fun e w' => e = .returned (.bool (namesP FS)) /\ Below w.heap.size w w' := by
 have hmm := @run_makeMap Tryz.prog
 have HT : Hid (Tab w) := hTab
 have HF : Hid (StsG w fa fc 5 (FS.map rfv)) := hF
 have HN : Hid (fn = FS.length) := hfn
 have HM0 : Hid (NM (w.alloc (.map #[] 0)) w.heap.size 0 (FS.map fun f : Rf => nml f.name)) := NM.start w _
 have HB0 : Hid (Below w.heap.size w (w.alloc (.map #[] 0))) := below_newX _ _
 clear hTab hF hfn
 go_enter Tryz.func80, Tryz.ntmps80
 go_wp2_with fail
 go_loopw [11] (fun v wr => ∃ k : Nat, k <= fn /\ v = .int .i64 k /\ Hid (NM wr w.heap.size k (FS.map fun f : Rf => nml f.name)) /\ Hid (Below w.heap.size w wr) /\ Hid ((FS.take k).all (fun f : Rf => nmOk (nml f.name)) = true)) (fun v _ => fn - (intOf v).toNat)
 case atStart => exact ⟨0, by omega, rfl, HM0.out, HB0.out, by show _ = true; simp⟩
 case round =>
  clear HM0 HB0
  obtain ⟨k, hk, rfl, HM, HB, HA⟩ := hrel
  by_cases hlt : k < fn
  ·have hk2 : k < FS.length := by have := HN.out; omega
   obtain ⟨b, o, rfl, hlb, hqa⟩ := (HF.out.below HB.out (Nat.le_refl _)).at (j := k) (by simpa using hk2)
   have eg : (FS.map rfv).getD k [] = rfv FS[k] := by simp [List.getD, hk2]
   rw [eg] at hqa
   have c0 : wr.cell? ⟨b, o + k * 5, none⟩ = some (.string FS[k].name) := hqa 0 _ rfl
   have c1 : wr.cell? ⟨b, o + k * 5 + 1, none⟩ = some (.int .i64 FS[k].fr) := hqa 1 _ rfl
   have c2 : wr.cell? ⟨b, o + k * 5 + 2, none⟩ = some (.int .i64 FS[k].fi) := hqa 2 _ rfl
   have c3 : wr.cell? ⟨b, o + k * 5 + 3, none⟩ = some (.int .i64 FS[k].ct) := hqa 3 _ rfl
   have c4 : wr.cell? ⟨b, o + k * 5 + 4, none⟩ = some (.int .i64 FS[k].pa) := hqa 4 _ rfl
   clear hqa eg
   obtain ⟨s, hs⟩ : ∃ s, s = FS[k].name := ⟨_, rfl⟩
   rw [<- hs] at c0
   have HS : Hid (s = FS[k].name) := hs
   generalize FS[k].fr = x1 at c1
   generalize FS[k].fi = x2 at c2
   generalize FS[k].ct = x3 at c3
   generalize FS[k].pa = x4 at c4
   clear hs
   have hfx : fn <= 9223372036854775807 := by omega
   obtain ⟨w5, hw5⟩ : ∃ w5, w5 = wr.alloc (.cells #[.string s, .int .i64 x1, .int .i64 x2, .int .i64 x3, .int .i64 x4] 59) := ⟨_, rfl⟩
   obtain ⟨kb, hkb⟩ : ∃ kb, kb = wr.heap.size := ⟨_, rfl⟩
   have hk5 : w5.heap[kb]? = some (.cells #[.string s, .int .i64 x1, .int .i64 x2, .int .i64 x3, .int .i64 x4] 59 (0, 0)) := by rw [hw5, hkb]; exact heap_alloc_new _ _
   have B5 : Below wr.heap.size wr w5 := by rw [hw5]; exact below_newX _ _
   have HM5 : Hid _ := HM.out.keep B5
   have HB5 : Hid (Below w.heap.size w w5) := HB.out.trans (B5.mono HB.out.size)
   have HFT : Hid (∀ W, Below w.heap.size w W -> Calls Tryz.prog 113 #[.string s] W fun e w' => e = .returned (.bool (nmOk (nml s))) /\ Below W.heap.size W w') := fun W h => by
    have := fits_any W (HT.out.below h HT.out.1) (nml s)
    rw [bs_nml] at this
    exact this
   have HC : Hid (∀ W, Below w5.heap.size w5 W -> W.cell? ⟨kb, 0, none⟩ = some (.string s) /\ W.cell? ⟨kb, 1, none⟩ = some (.int .i64 x1) /\ W.cell? ⟨kb, 2, none⟩ = some (.int .i64 x2) /\ W.cell? ⟨kb, 3, none⟩ = some (.int .i64 x3) /\ W.cell? ⟨kb, 4, none⟩ = some (.int .i64 x4)) := fun W h => by
    have e := (h.block _ (gl hk5)).trans hk5
    exact ⟨cell_arr e rfl, cell_arr e rfl, cell_arr e rfl, cell_arr e rfl, cell_arr e rfl⟩
   obtain ⟨q0, q1, q2, q3, q4⟩ := HC.out w5 (Below.refl _ _)
   have hNk : k < (FS.map fun f : Rf => nml f.name).length := by simpa using hk2
   have eNk : (FS.map fun f : Rf => nml f.name)[k] = nml s := by rw [List.getElem_map, HS.out]
   have HNK : Hid (k < (FS.map fun f : Rf => nml f.name).length) := hNk
   have HEK : Hid (∀ h : k < (FS.map fun f : Rf => nml f.name).length, (FS.map fun f : Rf => nml f.name)[k]'h = nml s) := fun _ => eNk
   clear HM HB B5 hk5 hNk eNk
   cases hR : nmOk (nml s) with
   | false =>
     have HNP : Hid (namesP FS = false) := by
      show _ = false
      unfold namesP
      have : FS.all (fun f : Rf => nmOk (nml f.name)) = false := by
       rw [<- Bool.not_eq_true, List.all_eq_true]
       intro h
       have := h FS[k] (List.getElem_mem hk2)
       rw [<- HS.out, hR] at this
       cases this
      rw [this]; rfl
     rw [hR] at HFT
     go_wp2_with fail
     rw [<- hw5, <- hkb]
     clear hw5 hkb c0 c1 c2 c3 c4
     go_wp2_with (first
      | (go_at_call 113; refine (HFT.out w1 HB1.out).mono ?_; rintro e w2 ⟨rfl, hb2⟩)
      | (go_at_call 81; refine (fits1_any w5 _ _ _ _ _).mono ?_; rintro e w1 ⟨rfl, hw1⟩; have B1 : Below w5.heap.size w5 w1 := (by rw [hw1]; exact below_newX _ _); have HB1 := show Hid (Below w.heap.size w w1) from HB5.out.trans (B1.mono HB5.out.size); clear hw1))
     go_ret
     exact ⟨by rw [HNP.out]; rfl, HB1.out.trans (hb2.mono HB1.out.size)⟩
   | true =>
     have HA2 : Hid ((FS.take (k + 1)).all (fun f : Rf => nmOk (nml f.name)) = true) := by
      show _ = true
      rw [<- List.take_append_getElem hk2, List.all_append, HA.out]
      simp only [List.all_cons, List.all_nil, Bool.and_true, Bool.true_and]
      rw [<- HS.out]; exact hR
     have hsz : s.size <= 64 := by
      have := hR
      simp only [nmOk, Bool.and_eq_true, decide_eq_true_eq] at this
      have := this.1.1.1
      simpa [nml] using this
     have hkey := key9 hsz
     rw [hR] at HFT
     go_wp2_with fail
     rw [<- hw5, <- hkb]
     clear hw5 hkb c0 c1 c2 c3 c4
     go_wp2_with (first
      | (at_mapUpdate; refine wpList_mapUpdate_own _ rfl _ _ _ 141 rfl 9 3 law9 Tryz.underlying141 _ w.heap.size k _ rfl d1 (by unfold maxLen; omega) _ _ _ rfl rfl hkey _ [] (plainElem_int Tryz.underlying3 (wrap64_wf _)) ?_; intro w6 h6 g6
         have HM6 := show Hid _ from NM.next HNK.out d2 d3 (d1.tidy law9) _ (by rw [HEK.out]; exact h6)
         have HB6 := show Hid (Below w.heap.size w w6) from HB3.out.grown g6 HB3.out.size (fun j hj => by cases hj; exact Nat.le_refl _)
         clear h6 g6)
      | (at_lookup; refine wpList_lookup_own_int _ rfl _ _ 141 rfl 9 3 .i64 law9 Tryz.underlying141 Tryz.underlying3 (zeroI _) w.heap.size k D rfl d1 _ _ rfl hkey ?_; intro z hat hwc; clear hat hwc)
      | (go_at_call 81; refine (fits1_any w2 _ _ _ _ _).mono ?_; rintro e w3 ⟨rfl, hw3⟩; have B3 : Below w2.heap.size w2 w3 := (by rw [hw3]; exact below_newX _ _); have HB3 := show Hid (Below w.heap.size w w3) from HB2.out.trans (B3.mono HB2.out.size); obtain ⟨D, d1, d2, d3⟩ := (HM2.out.keep B3).out; clear hw3)
      | (go_at_call 113; refine (HFT.out w1 HB1.out).mono ?_; rintro e w2 ⟨rfl, hb2⟩; have HB2 := show Hid (Below w.heap.size w w2) from HB1.out.trans (hb2.mono HB1.out.size); have HM2 := show Hid _ from HM1.out.keep hb2; obtain ⟨r0, r1, r2, r3, r4⟩ := HC.out w2 (B1.trans (hb2.mono B1.size)))
      | (go_at_call 81; refine (fits1_any w5 _ _ _ _ _).mono ?_; rintro e w1 ⟨rfl, hw1⟩; have B1 : Below w5.heap.size w5 w1 := (by rw [hw1]; exact below_newX _ _); have HB1 := show Hid (Below w.heap.size w w1) from HB5.out.trans (B1.mono HB5.out.size); have HM1 := show Hid _ from HM5.out.keep B1; clear hw1))
     go_roundw
     case rel => exact ⟨k + 1, by omega, by go_num, HM6.out, HB6.out, HA2.out⟩
     case measure => simp [intOf]; omega
  ·have hkn : k = fn := by omega
   subst hkn
   obtain ⟨D, d1, d2, d3⟩ := HM.out.out
   have HNP : Hid (namesP FS = decide (size D = k)) := by
    show _ = _
    unfold namesP
    have h1 : FS.all (fun f : Rf => nmOk (nml f.name)) = true := by
     have := HA.out
     rwa [List.take_of_length_le (by have := HN.out; omega)] at this
    have h2 := cdN_eq (FS.map fun f : Rf => nml f.name) k (by have := HN.out; simp; omega)
    rw [List.take_of_length_le (by have := HN.out; simp; omega)] at h2
    rw [h1, Bool.true_and, decide_eq_decide, d2]
    exact h2.symm
   have hDk : size D <= k := by rw [d2]; exact cdN_le _ _
   generalize hz : size D = z at HNP hDk d2
   clear d2
   go_wp2_with (at_len; refine wpList_len_own _ rfl _ 141 rfl 9 3 Tryz.underlying141 _ w.heap.size k D rfl d1 ?_; rw [hz])
   go_ret
   refine ⟨?_, HB.out⟩
   rw [HNP.out]
   by_cases e : z = k
   ·subst e; simp
   ·have : ¬ (z : Int) = k := by omega
    simp [e, this]
end Go.Proofs.YtfofmmkihhnfmaaGreatDoor
namespace Go.Proofs.YtfofmmkihhnfmaaGreatDoor
open Go.ChangeShapes Go.WideShapes Go.ChangeAt Go.RowKit Go.Maps
structure OneR (w : World) (A : Obj) (w' : World) : Prop where
 one : w'.heap[w.heap.size]? = some A
 low : Below w.heap.size w w'
theorem OneR.start (w : World) (A : Obj) : OneR w A (w.alloc A) := ⟨heap_alloc_new _ _, below_newR _ _⟩
theorem OneR.next {w A w' w''} (h : OneR w A w') (hb : Below w'.heap.size w' w'') : OneR w A w'' :=
 ⟨(hb.block _ (gl h.one)).trans h.one, h.low.trans (hb.mono h.low.size)⟩
theorem OneR.lt {w A w'} (h : OneR w A w') : w.heap.size < w'.heap.size := (gl h.one)
theorem fnr_at {w : World} {fa : Option Addr} {fc : Nat} {FS : List Rf} (h : StsG w fa fc 5 (FS.map rfv)) {k : Nat} (hk : k < FS.length) : ∃ b o, fa = some ⟨b, o, none⟩ /\ b < w.heap.size /\ w.cell? ⟨b, o + k * 5, none⟩ = some (.string FS[k].name) /\ w.cell? ⟨b, o + k * 5 + 1, none⟩ = some (.int .i64 FS[k].fr) /\ w.cell? ⟨b, o + k * 5 + 2, none⟩ = some (.int .i64 FS[k].fi) /\ w.cell? ⟨b, o + k * 5 + 3, none⟩ = some (.int .i64 FS[k].ct) /\ w.cell? ⟨b, o + k * 5 + 4, none⟩ = some (.int .i64 FS[k].pa) := by
 obtain ⟨b, o, e, hl, hq⟩ := h.at (j := k) (by simpa using hk)
 have eg : (FS.map rfv).getD k [] = rfv FS[k] := by simp [List.getD, hk]
 rw [eg] at hq
 exact ⟨b, o, e, hl, hq 0 _ rfl, hq 1 _ rfl, hq 2 _ rfl, hq 3 _ rfl, hq 4 _ rfl⟩
theorem ins_at {w : World} {ca : Option Addr} {cc : Nat} {C : List Ri} (h : StsG w ca cc 5 (C.map riv)) {k : Nat} (hk : k < C.length) : ∃ b o, ca = some ⟨b, o, none⟩ /\ b < w.heap.size /\ w.cell? ⟨b, o + k * 5, none⟩ = some (.int .i64 C[k].op) /\ w.cell? ⟨b, o + k * 5 + 1, none⟩ = some (.int .i64 C[k].a) /\ w.cell? ⟨b, o + k * 5 + 2, none⟩ = some (.int .i64 C[k].b) /\ w.cell? ⟨b, o + k * 5 + 3, none⟩ = some (.int .i64 C[k].c) /\ w.cell? ⟨b, o + k * 5 + 4, none⟩ = some (.int .i64 C[k].n) := by
 obtain ⟨b, o, e, hl, hq⟩ := h.at (j := k) (by simpa using hk)
 have eg : (C.map riv).getD k [] = riv C[k] := by simp [List.getD, hk]
 rw [eg] at hq
 exact ⟨b, o, e, hl, hq 0 _ rfl, hq 1 _ rfl, hq 2 _ rfl, hq 3 _ rfl, hq 4 _ rfl⟩
set_option maxRecDepth 100000 in
set_option maxHeartbeats 4000000 in
theorem isCutR (w : World) (ca : Option Addr) (cn cc : Nat) (fa : Option Addr) (fn fc : Nat) (m : Int) (FS : List Rf) (hfn : fn = FS.length) (hF : StsG w fa fc 5 (FS.map rfv)) (hlen : cn <= 1000000000) (hfl : fn <= 1000000) {T : Bool} (hT : cutF cn 0 FS = T) :
 Calls Tryz.prog 79 #[.agg #[.slice ca cn cc, .slice fa fn fc, .int .i64 m]] w fun e w' => e = .returned (.bool T) /\ Below w.heap.size w w' := by
 subst hT
 obtain ⟨A, hA⟩ : ∃ A : Obj, A = .cells #[.slice ca cn cc, .slice fa fn fc, .int .i64 m] 25 := ⟨_, rfl⟩
 have HO0 : Hid (OneR w A (w.alloc A)) := OneR.start w A
 have HC : Hid (∀ W, OneR w A W -> w.heap.size < W.heap.size /\ W.cell? ⟨w.heap.size, 0, none⟩ = some (.slice ca cn cc) /\ W.cell? ⟨w.heap.size, 1, none⟩ = some (.slice fa fn fc)) := fun W h => by
  have e := h.one
  rw [hA] at e
  exact ⟨h.lt, cell_arr e rfl, cell_arr e rfl⟩
 have HF : Hid (∀ W, OneR w A W -> StsG W fa fc 5 (FS.map rfv)) := fun W h => hF.below h.low (Nat.le_refl _)
 have HN : Hid (fn = FS.length) := hfn
 have HT0 : Hid (cutF cn 0 FS = cutF cn 0 (FS.drop 0)) := rfl
 obtain ⟨T, hT⟩ : ∃ T, T = cutF cn 0 FS := ⟨_, rfl⟩
 rw [<- hT] at HT0 ⊢
 obtain ⟨W, hW⟩ : ∃ W, W = w.alloc A := ⟨_, rfl⟩
 rw [<- hW] at HO0
 obtain ⟨l1, c0, c1⟩ := HC.out W HO0.out
 clear hF hfn hT
 go_enter Tryz.func79, Tryz.ntmps79
 go_upto_region 1 with fail
 rw [<- hA, <- hW]
 clear hW
 go_wp2_with fail
 go_loopw [3, 9] (fun nv kv wr => ∃ (k : Nat) (nx : Int), k <= fn /\ kv = .int .i64 (k : Int) /\ nv = .int .i64 nx /\ (0 <= nx /\ nx <= (cn : Int)) /\ Hid (T = cutF cn nx (FS.drop k)) /\ Hid (OneR w A wr)) (fun _ kv _ => fn - (intOf kv).toNat)
 case atStart => exact ⟨0, 0, by omega, rfl, rfl, by omega, HT0, HO0⟩
 case round =>
  clear HT0 HO0 l1 c0 c1
  obtain ⟨k, nx, hk, rfl, rfl, hnx, HT, HO⟩ := hrel
  obtain ⟨wq, rfl⟩ : ∃ wq, wq = wr := ⟨_, rfl⟩
  obtain ⟨l1, c0, c1⟩ := HC.out wq HO.out
  by_cases hlt : k < fn
  ·have hk2 : k < FS.length := by have := HN.out; omega
   obtain ⟨b, o, rfl, hlb, q0, q1, q2, q3, q4⟩ := fnr_at (HF.out wq HO.out) hk2
   have HD : Hid (FS.drop k = FS[k] :: FS.drop (k + 1)) := List.drop_eq_getElem_cons hk2
   obtain ⟨f, hf⟩ : ∃ f, f = FS[k] := ⟨_, rfl⟩
   rw [<- hf] at q0 q1 q2 q3 q4 HD
   have hkx : (k : Int) < (fn : Int) := by omega
   have hfx : fn <= 9223372036854775807 := by omega
   have hw1 : IntKind.i64.wrap ((cn : Int) - nx) = (cn : Int) - nx := by rw [IntKind.wrap_i64]; omega
   obtain ⟨W5, hW5⟩ : ∃ W5, W5 = wq.alloc (.cells #[.string f.name, .int .i64 f.fr, .int .i64 f.fi, .int .i64 f.ct, .int .i64 f.pa] 59) := ⟨_, rfl⟩
   have B5 : Below wq.heap.size wq W5 := by rw [hW5]; exact below_newR _ _
   have e5 : W5.heap[wq.heap.size]? = some (.cells #[.string f.name, .int .i64 f.fr, .int .i64 f.fi, .int .i64 f.ct, .int .i64 f.pa] 59 (0, 0)) := by rw [hW5]; exact heap_alloc_new _ _
   have r2 : W5.cell? ⟨wq.heap.size, 2, none⟩ = some (.int .i64 f.fi) := cell_arr e5 rfl
   have r3 : W5.cell? ⟨wq.heap.size, 3, none⟩ = some (.int .i64 f.ct) := cell_arr e5 rfl
   have l5 : wq.heap.size < W5.heap.size := (gl e5)
   have HO5 : Hid (OneR w A W5) := HO.out.next B5
   obtain ⟨m1, d0, d1⟩ := HC.out W5 HO5.out
   obtain ⟨kb, hkb⟩ : ∃ kb, kb = wq.heap.size := ⟨_, rfl⟩
   rw [<- hkb] at r2 r3 l5
   have HCU : Hid (cutF cn nx (FS.drop k) = (decide (f.fi = nx /\ 1 <= f.ct /\ f.ct <= (cn : Int) - nx) && cutF cn (nx + f.ct) (FS.drop (k + 1)))) := by
    show _ = _
    rw [HD.out]
    rfl
   clear hf B5 e5 HD
   have HWI : Hid (∀ W, Calls Tryz.prog 112 #[.int .i64 f.ct, .int .i64 1, .int .i64 ((cn : Int) - nx)] W fun e w' => e = .returned (.bool (decide (1 <= f.ct /\ f.ct <= (cn : Int) - nx))) /\ w' = W) := fun W => withinR W _ _ _ rfl
   generalize f.name = f0 at *
   generalize f.fr = f1 at *
   generalize f.fi = f2 at *
   generalize f.ct = f3 at *
   generalize f.pa = f4 at *
   by_cases h2 : f2 = nx
   ·by_cases h3 : 1 <= f3 /\ f3 <= (cn : Int) - nx
    ·have HNX : Hid (T = cutF cn (nx + f3) (FS.drop (k + 1))) := by
      show _ = _
      rw [HT.out, HCU.out, decide_eq_true ⟨h2, h3⟩, Bool.true_and]
     rw [decide_eq_true h3] at HWI
     have z : (f2 != nx) = false := by simp [h2]
     have hw2 : IntKind.i64.wrap (nx + f3) = nx + f3 := by rw [IntKind.wrap_i64]; omega
     have hb3 : 0 <= nx + f3 /\ nx + f3 <= (cn : Int) := by omega
     clear HCU HT h2 h3
     go_wp2_with fail
     rw [<- hW5, <- hkb]
     clear hW5 hkb q0 q1 q2 q3 q4 c0 c1
     go_wp2_with (go_at_call 112; refine Calls.mono (HWI.out _) ?_; rintro e w1 ⟨rfl, rfl⟩)
     go_roundw
     case rel => exact ⟨k + 1, nx + f3, by omega, by go_num, rfl, hb3, HNX, HO5⟩
     case measure => simp [intOf]; omega
    ·have HNX : Hid (T = false) := by
      show _ = _
      rw [HT.out, HCU.out, decide_eq_false (fun q => h3 q.2), Bool.false_and]
     rw [decide_eq_false h3] at HWI
     have z : (f2 != nx) = false := by simp [h2]
     clear HCU HT h2 h3
     go_wp2_with fail
     rw [<- hW5, <- hkb]
     clear hW5 hkb q0 q1 q2 q3 q4 c0 c1
     go_wp2_with (go_at_call 112; refine Calls.mono (HWI.out _) ?_; rintro e w1 ⟨rfl, rfl⟩)
     go_ret
     exact ⟨by rw [HNX.out]; rfl, HO5.out.low⟩
   ·have HNX : Hid (T = false) := by
     show _ = _
     rw [HT.out, HCU.out, decide_eq_false (fun q => h2 q.1), Bool.false_and]
    have z : (f2 != nx) = true := by simp [h2]
    clear HCU HT h2 HWI
    go_wp2_with fail
    rw [<- hW5, <- hkb]
    clear hW5 hkb q0 q1 q2 q3 q4 c0 c1
    go_wp2_with fail
    go_ret
    exact ⟨by rw [HNX.out]; rfl, HO5.out.low⟩
  ·have hkn : k = fn := by omega
   subst hkn
   have HNX : Hid (T = (nx == (cn : Int))) := by
    show _ = _
    rw [HT.out, List.drop_of_length_le (by have := HN.out; omega)]
    unfold cutF
    rw [Bool.eq_iff_iff]
    simp
   clear HT
   go_wp2_with fail
   go_ret
   exact ⟨by rw [HNX.out]; rfl, HO.out.low⟩
set_option maxRecDepth 100000 in
theorem mainFitsR (w : World) (ca : Option Addr) (cn cc : Nat) (fa : Option Addr) (fn fc : Nat) (m : Int) (FS : List Rf) (hfn : fn = FS.length) (hF : StsG w fa fc 5 (FS.map rfv)) (hfl : fn <= 1000000) {T : Bool} (hT : mainF FS m = T) :
 Calls Tryz.prog 82 #[.agg #[.slice ca cn cc, .slice fa fn fc, .int .i64 m]] w fun e w' => e = .returned (.bool T) /\ Below w.heap.size w w' := by
 subst hT
 have hw1 : IntKind.i64.wrap ((fn : Int) - 1) = (fn : Int) - 1 := by rw [IntKind.wrap_i64]; omega
 have HB : Hid (Below w.heap.size w (w.alloc (.cells #[.slice ca cn cc, .slice fa fn fc, .int .i64 m] 25))) := below_newR _ _
 by_cases h : 0 <= m /\ m <= (fn : Int) - 1
 ·have HWI : Hid (∀ W, Calls Tryz.prog 112 #[.int .i64 m, .int .i64 0, .int .i64 ((fn : Int) - 1)] W fun e w' => e = .returned (.bool true) /\ w' = W) := fun W => withinR W _ _ _ (decide_eq_true h)
  obtain ⟨j, rfl⟩ : ∃ j : Nat, m = (j : Int) := ⟨m.toNat, by omega⟩
  have hj : j < FS.length := by omega
  obtain ⟨b, o, rfl, hlb, q0, q1, q2, q3, q4⟩ := fnr_at hF hj
  have hji : (j : Int) < (fn : Int) := by omega
  have HE : Hid (mainF FS (j : Int) = (FS[j].pa == 0)) := by
   show _ = _
   unfold mainF
   rw [decide_eq_true (by omega), Bool.true_and, Bool.eq_iff_iff]
   simp [List.getD, hj]
  generalize FS[j].pa = x at *
  clear hF hfn q0 q1 q2 q3 h
  have hf6 : (fn : Int) <= 1000000 := by omega
  go_enter Tryz.func82, Tryz.ntmps82
  go_wp2_with (go_at_call 112; refine Calls.mono (HWI.out _) ?_; rintro e w1 ⟨rfl, rfl⟩)
  go_ret
  exact ⟨by rw [HE.out]; rfl, HB.out⟩
 ·have HWI : Hid (∀ W, Calls Tryz.prog 112 #[.int .i64 m, .int .i64 0, .int .i64 ((fn : Int) - 1)] W fun e w' => e = .returned (.bool false) /\ w' = W) := fun W => withinR W _ _ _ (decide_eq_false h)
  have HE : Hid (mainF FS m = false) := by
   show _ = _
   unfold mainF
   rw [decide_eq_false (by rw [<- hfn]; exact h), Bool.false_and]
  clear hF hfn h
  go_enter Tryz.func82, Tryz.ntmps82
  go_wp2_with (go_at_call 112; refine Calls.mono (HWI.out _) ?_; rintro e w1 ⟨rfl, rfl⟩)
  go_ret
  exact ⟨by rw [HE.out]; rfl, HB.out⟩
end Go.Proofs.YtfofmmkihhnfmaaGreatDoor
