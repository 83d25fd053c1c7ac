import Derived.Lib.ConvBytes
import Derived.StringKeys
import Derived.Maps.OwnOps
import Derived.Maps.OwnSet
import Derived.Deep.Slices
import Derived.OpenShut
import Derived.ChangeOld
import Derived.Carry
import Derived.LaidMore
import Derived.SevenTiedAt
import Derived.Stop.Joined
import Derived.Test.YtfbkopjncmkbiabGreatDoorTie
import Derived.Test.YtfbkopjncmkbiabGreatDoorCards
import Derived.Lib.LaidTab
import Derived.Test.YtfbkopjncmkbiabGreatDoorKai
import Derived.Test.YtfbkopjncmkbiabGreatDoorKat
import Derived.Test.YtfbkopjncmkbiabGreatDoorKav
set_option linter.unusedVariables false
set_option linter.unusedSimpArgs false
namespace Go.Proofs.YtfbkopjncmkbiabGreatDoor
open Go.ChangeShapes Go.WideShapes Go.ChangeAt Go.RowKit Go.Maps
def nmOk (s : List UInt8) : Bool := decide (s.length <= 64) && decide ((s.head?.map cl) = some 6) && s.all isNm && !(WORDS.contains s)
theorem sk_name {s : List UInt8} (h : s.head?.map cl = some 6) : sk false s = (0, true) := by
 cases s with
 | nil => simp at h
 | cons c l =>
   simp at h
   have : c ≠ 47 := by rintro rfl; revert h; decide
   simp [sk, h, this]
theorem takeWhile_all {p : UInt8 -> Bool} : ∀ {l : List UInt8}, l.all p = true -> l.takeWhile p = l
 | [], _ => rfl
 | c :: l, h => by simp at h; simp [h.1]; exact takeWhile_all (by simpa using h.2)
theorem findIdx_none {s : List UInt8} (h : WORDS.contains s = false) : WORDS.findIdx? (· == s) = none := by
 rw [List.findIdx?_eq_none_iff]
 intro x hx
 by_cases e : x = s
 ·subst e; simp [hx] at h
 ·simp [e]
theorem contains_none {s : List UInt8} (h : WORDS.findIdx? (· == s) = none) : WORDS.contains s = false := by
 rw [List.findIdx?_eq_none_iff] at h
 rw [<- Bool.not_eq_true]
 intro hc
 have := h s (by simpa using hc)
 simp at this
theorem nmOk_lex {s : List UInt8} (h : nmOk s = true) : Lexes 0 s [⟨1, 0, 0, s⟩] 0 0 := by
 simp only [nmOk, Bool.and_eq_true, decide_eq_true_eq, Bool.not_eq_true'] at h
 obtain ⟨⟨⟨h1, h2⟩, h3⟩, h4⟩ := h
 have hne : s ≠ [] := by rintro rfl; simp at h2
 have hl : 0 < s.length := List.length_pos_iff.2 hne
 have ht : tk (s.drop 0) = .ok (⟨1, 0, s⟩, s.length) := by
  cases s with
  | nil => simp at hne
  | cons c l =>
    simp at h2
    have e1 : (c :: l).takeWhile isNm = c :: l := takeWhile_all h3
    simp only [List.drop_zero]
    simp only [tk]
    rw [if_neg (by omega), if_pos h2, e1, if_neg (by omega)]
    simp only [nameTk, findIdx_none h4]
 have := Lexes.tok (k := 0) (l := s) (n := 0) (t := ⟨1, 0, s⟩) (m := s.length) (ts := []) (p := 0) (e := 0) (sk_name h2) hl ht (Lexes.fin (by simp [sk]))
 simpa using this
theorem lex_nmOk {s : List UInt8} {t : T} {p e : Nat} (hl : s.length <= 64) (h : Lexes 0 s [t] p e) (hn : t.name = s) : nmOk s = true := by
 obtain ⟨n, tt, m, h1, h2, h3, rfl, h4⟩ := h
 ·simp at hn
  have hne : s ≠ [] := by rintro rfl; simp at h2
  generalize hd : s.drop n = d at h3
  cases d with
  | nil => simp [tk] at h3
  | cons c l =>
    simp only [tk] at h3
    split at h3
    ·split at h3
     ·cases h3
     ·cases h3; exact absurd hn.symm hne
    ·split at h3
     ·rename_i h7 h6
      split at h3
      ·cases h3
      ·simp at h3
       have h5 := h3.1
       unfold nameTk at h5
       split at h5
       ·subst h5; exact absurd hn.symm hne
       ·rename_i hidx
        subst h5
        simp at hn
        have hlen := (List.takeWhile_prefix (p := isNm) (l := c :: l)).length_le
        have e0 : (c :: l).length = s.length - n := by rw [<- hd]; simp
        have hs : ((c :: l).takeWhile isNm).length = s.length := by rw [hn]
        have hn0 : n = 0 := by omega
        subst hn0
        simp at hd
        rw [<- hd] at hn hidx
        have hall : s.all isNm = true := by rw [<- hn]; exact List.all_takeWhile
        simp only [nmOk, Bool.and_eq_true, decide_eq_true_eq, Bool.not_eq_true']
        exact ⟨⟨⟨hl, by rw [hd]; simp [h6]⟩, hall⟩, contains_none (by rw [hn] at hidx; exact hidx)⟩
     ·split at h3
      ·cases h3
      ·cases h3; exact absurd hn.symm hne
structure TokV (w : World) (ao : Option Addr) (ts : List T) : Prop where
 out : ts ≠ [] -> ∃ g, ao = some ⟨g, 0, none⟩ /\ g < w.heap.size /\ ∀ i (h : i < ts.length), w.cell? ⟨g, i * 4, none⟩ = some (.int .i64 ts[i].kind) /\ w.cell? ⟨g, i * 4 + 1, none⟩ = some (.int .i64 ts[i].pos) /\ w.cell? ⟨g, i * 4 + 2, none⟩ = some (.int .i64 ts[i].val) /\ w.cell? ⟨g, i * 4 + 3, none⟩ = some (.string (bs ts[i].name))
theorem tcs_at (ts : List T) : ∀ i (h : i < ts.length) (j : Nat), j < 4 -> (tcs ts)[i * 4 + j]? = (tc ts[i])[j]? := by
 induction ts with
 | nil => intro i h; simp at h
 | cons t ts ih =>
   intro i h j hj
   have e : tcs (t :: ts) = tc t ++ tcs ts := by simp [tcs]
   rw [e]
   cases i with
   | zero => rw [List.getElem?_append_left (by simp [tc]; omega)]; simp
   | succ i =>
     rw [List.getElem?_append_right (by simp [tc]; omega)]
     have := ih i (by simpa using h) j hj
     rw [show (i + 1) * 4 + j - (tc t).length = i * 4 + j by simp [tc]; omega, this]
     simp
theorem Own.view {w B v ts} (h : Own w B v ts) : ∃ ao cap, v = .slice ao ts.length cap /\ ts.length <= cap /\ cap <= 9223372036854775807 /\ TokV w ao ts := by
 have hh := h.out
 rcases hh.2 with ⟨rfl, hn⟩ | ⟨g, cap, cur, rfl, e2, e3, e4, e5, e6, e7⟩
 ·have : ts = [] := List.length_eq_zero_iff.1 hn
  subst this
  exact ⟨none, 0, rfl, by simp, by omega, ⟨fun h => absurd rfl h⟩⟩
 ·refine ⟨_, cap, rfl, e4, e5, ⟨fun _ => ⟨g, rfl, (gl e3), fun i hi => ?_⟩⟩⟩
  have hc : ∀ j, j < 4 -> w.cell? ⟨g, i * 4 + j, none⟩ = (tc ts[i])[j]? := by
   intro j hj
   have h1 := tcs_at ts i hi j hj
   rw [<- e7, List.getElem?_take, if_pos (by omega)] at h1
   have h2 : (tc ts[i])[j]? = some ((tc ts[i])[j]'(by simp [tc]; omega)) := List.getElem?_eq_getElem _
   rw [h2] at h1 ⊢
   exact cell_arr e3 (by rw [<- h1]; simp)
  exact ⟨hc 0 (by omega), hc 1 (by omega), hc 2 (by omega), hc 3 (by omega)⟩
theorem TokV.below {w w' ao ts B} (h : TokV w ao ts) (hb : Below B w w') (hB : w.heap.size <= B) : TokV w' ao ts := ⟨fun hn => by
 obtain ⟨g, e, hg, hc⟩ := h.out hn
 have hs := hb.size
 refine ⟨g, e, by omega, fun i hi => ?_⟩
 obtain ⟨a, b, c, d⟩ := hc i hi
 rw [hb.cell (p := ⟨g, _, none⟩) (by show g < B; omega), hb.cell (p := ⟨g, _, none⟩) (by show g < B; omega), hb.cell (p := ⟨g, _, none⟩) (by show g < B; omega), hb.cell (p := ⟨g, _, none⟩) (by show g < B; omega)]
 exact ⟨a, b, c, d⟩⟩
theorem tokens_at (w : World) (hTab : Tab w) (ao : Option Addr) (cap n : Nat) (L : List UInt8) (hn : n = L.length) (hT : Txt w ao cap L) (hl : n <= 4194304) :
 Calls Tryz.prog 117 #[.slice ao n cap] w fun e w' => Said w L e w' := by
 subst hn; exact tokens_any w hTab ao cap L hT hl
theorem Txt.of_at {w b o cap L} (h : At w b o L) (h1 : L.length <= cap) (h2 : cap <= 9223372036854775807) : Txt w (some ⟨b, o, none⟩) cap L := ⟨h1, h2, fun _ => ⟨b, o, rfl, h⟩⟩
theorem conv_bytes (w : World) (S : List UInt8) (s : ByteArray) (hs : s = bs S) (hl : S.length <= 4194304) : ∃ c w', (convert 9 143 (.string s)).run Tryz.prog w = .ok (.slice (some ⟨w.heap.size, 0, none⟩) S.length c) w' /\ Below w.heap.size w w' /\ At w' w.heap.size 0 S /\ S.length <= c /\ c <= 9223372036854775807 := by
 subst hs
 refine ⟨_, _, Lib.run_convert_string_bytes (P := Tryz.prog) w 9 143 5 (bs S) Tryz.underlying9 Tryz.underlying143 Tryz.underlying5 |>.trans (by rw [bs_size]), ?_, ?_, ?_, ?_⟩
 ·exact ⟨rfl, rfl, rfl, by rw [Lib.bytesWorld_size]; omega, fun k hk => Lib.bytesWorld_at_old w _ _ k hk⟩
 ·refine ⟨by rw [Lib.bytesWorld_size]; omega, fun i hi => ?_⟩
  have := Lib.bytesWorld_cell w 5 (bs S) i (by rw [bs_size]; exact hi)
  rw [Nat.zero_add, this]
  simp [bs, List.getD, hi]
 ·exact grownCap_ge _ _ _ _
 ·exact grownCap_le_maxLen _ _ _ _ (by unfold maxLen; omega)
structure NmR (S : List UInt8) (ts : List T) (p e : Nat) : Prop where
 out : Lexes 0 S ts p e
theorem NmR.one {S ts p e} (h : NmR S ts p e) (hl : S.length <= 64) (h1 : ts.length = 1) : nmOk S = decide (((ts.map T.name).getD 0 []) = S) := by
 match ts, h, h1 with
 | [t], h, _ =>
   simp only [List.map_cons, List.map_nil, List.getD_cons_zero]
   by_cases e : t.name = S
   ·rw [lex_nmOk hl h.out e]; simp [e]
   ·rw [show decide (t.name = S) = false by simp [e], <- Bool.not_eq_true]
    intro hk
    have := (nmOk_lex hk).one h.out
    have := this.1
    simp at this
    exact e (by rw [<- this])
theorem NmR.not {S ts p e} (h : NmR S ts p e) (h1 : ts.length ≠ 1) : nmOk S = false := by
 rw [<- Bool.not_eq_true]
 intro hk
 have := ((nmOk_lex hk).one h.out).1
 rw [<- this] at h1
 simp at h1
theorem nmOk_long {S : List UInt8} (h : 64 < S.length) : nmOk S = false := by
 have : ¬ S.length <= 64 := by omega
 simp [nmOk, this]
set_option maxRecDepth 10000 in
set_option maxHeartbeats 1000000 in
theorem fits_any (w : World) (hTab : Tab w) (S : List UInt8) : Calls Tryz.prog 75 #[.string (bs S)] w fun e w' => e = .returned (.bool (nmOk S)) /\ Below w.heap.size w w' := by
 have hsz := bs_size S
 obtain ⟨s, hs⟩ : ∃ s, s = bs S := ⟨_, rfl⟩
 obtain ⟨n, hn⟩ : ∃ n, n = S.length := ⟨_, rfl⟩
 obtain ⟨R, hR⟩ : ∃ R, R = nmOk S := ⟨_, rfl⟩
 rw [<- hs, <- hn] at hsz
 rw [<- hs, <- hR]
 have HS : Hid (s = bs S /\ n = S.length /\ R = nmOk S) := ⟨hs, hn, hR⟩
 by_cases hl : n <= 64
 ·obtain ⟨c, w1, hcv, hb1, hA, hc1, hc2⟩ := conv_bytes w S s hs (by omega)
  rw [<- hn] at hcv hc1
  clear hs hn hR
  have hTab1 := hTab.below hb1 hTab.1
  have hT1 := Txt.of_at hA (by have := HS.out.2.1; omega) hc2
  have HT : Hid (Tab w1 /\ Txt w1 (some ⟨w.heap.size, 0, none⟩) c S) := ⟨hTab1, hT1⟩
  clear hA hTab1 hT1 hTab
  go_enter Tryz.func75, Tryz.ntmps75
  go_wp2_with fail
  refine (tokens_at _ HT.out.1 _ c n S HS.out.2.1 HT.out.2 (by omega)).mono ?_
  rintro e w2 ⟨ts, p, ee, v, hLx, rfl, hown, hb2⟩
  obtain ⟨ao, cap, rfl, hv1, hv2, hv3⟩ := hown.view
  have HL : NmR S ts p ee := ⟨hLx⟩
  have hbb : Below w.heap.size w w2 := hb1.trans (hb2.mono hb1.size)
  clear hLx hown hb2 hb1 hcv
  by_cases hk : ts.length = 1
  ·have H1 : Hid (R = decide ((ts.map T.name).getD 0 [] = S)) := by
    show R = _
    rw [HS.out.2.2]; exact HL.one (by have := HS.out.2.1; omega) hk
   obtain ⟨g, rfl, hg, hcells⟩ := hv3.out (by intro e; simp [e] at hk)
   obtain ⟨_, _, _, p3⟩ := hcells 0 (by omega)
   obtain ⟨nm, hnm⟩ : ∃ nm, nm = bs (ts[0]'(by omega)).name := ⟨_, rfl⟩
   rw [<- hnm] at p3
   have HNM : Hid (nm = bs ((ts.map T.name).getD 0 [])) := by
    show nm = _
    rw [hnm]
    match ts, hk with
    | [t], _ => rfl
   clear hnm hcells
   rw [hk] at hv1 ⊢
   simp only [Nat.zero_mul, Nat.zero_add] at p3
   go_wp2_with fail
   go_ret
   refine ⟨ret_bl ?_, hbb⟩
   rw [H1.out, HNM.out, HS.out.1, bs_toList, bs_toList]
   rw [Bool.eq_iff_iff]; simp
  ·have H1 : Hid (R = false) := by
    show R = _
    rw [HS.out.2.2]; exact HL.not hk
   obtain ⟨k, hkk⟩ : ∃ k, k = ts.length := ⟨_, rfl⟩
   rw [<- hkk] at hk hv1 ⊢
   have hki : ¬ (k : Int) = 1 := by omega
   clear hkk
   go_wp2_with fail
   go_ret
   exact ⟨ret_bl H1.out.symm, hbb⟩
 ·have hR' : Hid (R = false) := by show R = false; rw [hR]; exact nmOk_long (by omega)
  clear hs hn hR
  go_enter Tryz.func75, Tryz.ntmps75
  go_wp2
  go_ret
  exact ⟨ret_bl hR'.out.symm, Below.refl _ _⟩
end Go.Proofs.YtfbkopjncmkbiabGreatDoor
namespace Go.Proofs.YtfbkopjncmkbiabGreatDoor
open Go.ChangeShapes Go.WideShapes Go.ChangeAt Go.RowKit Go.Maps Go.WideMaps
def nml (s : ByteArray) : List UInt8 := s.data.toList
theorem bs_nml (s : ByteArray) : bs (nml s) = s := by simp [bs, nml]
def cdN (N : List (List UInt8)) : Nat -> Nat
 | 0 => 0
 | k + 1 => if N.getD k [] ∈ N.take k then cdN N k else cdN N k + 1
theorem cdN_le (N : List (List UInt8)) : ∀ k, cdN N k <= k
 | 0 => Nat.le_refl _
 | k + 1 => by
   have := cdN_le N k
   unfold cdN
   split <;> omega
theorem cdN_eq (N : List (List UInt8)) : ∀ k, k <= N.length -> (cdN N k = k ↔ (N.take k).Nodup)
 | 0, _ => by simp [cdN]
 | k + 1, hk => by
   have ih := cdN_eq N k (by omega)
   have hl := cdN_le N k
   have hg : N.getD k [] = N[k] := by simp [List.getD, show k < N.length by omega]
   rw [<- List.take_append_getElem (show k < N.length by omega), List.nodup_append]
   unfold cdN
   rw [hg]
   split
   ·next h =>
    constructor
    ·intro e; omega
    ·rintro ⟨_, _, h3⟩
     exact absurd rfl (h3 _ h _ (by simp))
   ·next h =>
    constructor
    ·intro e
     refine ⟨ih.1 (by omega), by simp, fun a ha b hb e2 => ?_⟩
     simp at hb
     subst hb; subst e2
     exact h ha
    ·rintro ⟨h1, _, _⟩
     have := ih.2 h1
     omega
def namesP (FS : List Fu) : Bool := FS.all (fun f => nmOk (nml f.name)) && decide ((FS.map fun f => nml f.name).Nodup)
theorem law9 : Keyed Tryz.prog 9 := string_keyed Tryz.underlying9
theorem zeroI (w : World) : (zeroValue 3).run Tryz.prog w = .ok (.int .i64 0) w := by kernel_rfl
structure NM (w : World) (mb k : Nat) (N : List (List UInt8)) : Prop where
 out : ∃ D : DataW Value, w.ownsMap Tryz.prog 9 (plainElem Tryz.prog 3) mb k D /\ size D = cdN N k /\ ∀ s : List UInt8, has D (.string s) = decide (s ∈ N.take k)
theorem NM.start (w : World) (N : List (List UInt8)) : NM (w.alloc (.map #[] 0)) w.heap.size 0 N :=
 ⟨.map [], World.ownsMap_made _ _ _ _, rfl, fun s => by simp [has]⟩
theorem key9 {s : ByteArray} (hs : s.size <= 64) : keyOf Tryz.prog 9 (.string s) = some (.string (nml s)) := keyOf_string_mk Tryz.underlying9 (by unfold maxLen; omega)
theorem NM.next {w' : World} {mb k : Nat} {N : List (List UInt8)} {D : DataW Value} (hk : k < N.length) (h1 : size D = cdN N k) (h2 : ∀ s : List UInt8, has D (.string s) = decide (s ∈ N.take k)) (ht : Tidy D) (d : DataW Value) (h : w'.ownsMap Tryz.prog 9 (plainElem Tryz.prog 3) mb (k + 1) (D.put (.string N[k]) d)) : NM w' mb (k + 1) N := by
 have hg : N.getD k [] = N[k] := by simp [List.getD, hk]
 refine ⟨_, h, ?_, fun s => ?_⟩
 ·rw [size_put ht, h2, h1]
  simp only [cdN, hg, decide_eq_true_eq]
 ·by_cases e : s = N[k]
  ·subst e
   rw [has_put_same ht.isMap (show WideAt.IsKeyLit (Lit.string _) from trivial)]
   have : N[k] ∈ N.take (k + 1) := by rw [<- List.take_append_getElem hk, List.mem_append, List.mem_singleton]; exact .inr rfl
   exact (decide_eq_true this).symm
  ·have hne : (Lit.string s) ≠ .string N[k] := fun q => e (by injection q)
   rw [has_put_other hne, h2, decide_eq_decide, <- List.take_append_getElem hk, List.mem_append, List.mem_singleton]
   exact ⟨fun q => .inl q, fun q => q.resolve_right e⟩
theorem own_map_moveN {w w' : World} {b c : Nat} {D : DataW Value} (h : w.ownsMap Tryz.prog 9 (plainElem Tryz.prog 3) b c D) (hk : w'.heap[b]? = w.heap[b]?) : w'.ownsMap Tryz.prog 9 (plainElem Tryz.prog 3) b c D := by
 obtain ⟨es, cl, h1, h2⟩ := h
 exact ⟨es, cl, hk.trans h1, h2⟩
theorem NM.keep {w w' : World} {mb k N} (h : NM w mb k N) (hb : Below w.heap.size w w') : NM w' mb k N := by
 obtain ⟨D, d1, d2, d3⟩ := h.out
 exact ⟨D, own_map_moveN d1 (hb.block _ d1.lt), d2, d3⟩
theorem formed1_any (w : World) (s : ByteArray) (pa : Option Addr) (pn pc : Nat) (r : Int) (va : Option Addr) (vn vc : Nat) (ba : Option Addr) (bn bc : Nat) :
 Calls Tryz.prog 48 #[.agg #[.string s, .slice pa pn pc, .int .i64 r, .slice va vn vc, .slice ba bn bc]] w fun e w' => e = .returned (.string s) /\ w' = w.alloc (.cells #[.string s, .slice pa pn pc, .int .i64 r, .slice va vn vc, .slice ba bn bc] 33) := by
 go_enter Tryz.func48, Tryz.ntmps48
 go_wp2_with fail
 go_ret
 exact ⟨rfl, rfl⟩
set_option maxRecDepth 100000 in
set_option maxHeartbeats 4000000 in
theorem namesAll_any (w : World) (hTab : Tab w) (fa : Option Addr) (fn fc : Nat) (FS : List Fu) (hfn : fn = FS.length) (hF : Fus w fa fc FS) (hlen : fn <= 1000000) :
 Calls Tryz.prog 47 #[.slice fa fn fc, .func (.func 48) #[] #[]] w fun e w' => e = .returned (.bool (namesP FS)) /\ Below w.heap.size w w' := by
 have hmm := @run_makeMap Tryz.prog
 have HT : Hid (Tab w) := hTab
 have HF : Hid (Fus w fa fc FS) := hF
 have HN : Hid (fn = FS.length) := hfn
 have HM0 : Hid (NM (w.alloc (.map #[] 0)) w.heap.size 0 (FS.map fun f => nml f.name)) := NM.start w _
 have HB0 : Hid (Below w.heap.size w (w.alloc (.map #[] 0))) := below_new _ _
 clear hTab hF hfn
 go_enter Tryz.func47, Tryz.ntmps47
 go_wp2_with fail
 go_loopw [11] (fun v wr => ∃ k : Nat, k <= fn /\ v = .int .i64 k /\ Hid (NM wr w.heap.size k (FS.map fun f => nml f.name)) /\ Hid (Below w.heap.size w wr) /\ Hid ((FS.take k).all (fun f => nmOk (nml f.name)) = true)) (fun v _ => fn - (intOf v).toNat)
 case atStart => exact ⟨0, by omega, rfl, HM0.out, HB0.out, by show _ = true; simp⟩
 case round =>
  clear HM0 HB0
  obtain ⟨k, hk, rfl, HM, HB, HA⟩ := hrel
  by_cases hlt : k < fn
  ·have hk2 : k < FS.length := by have := HN.out; omega
   obtain ⟨b, o, xa, xc, la, lc, ma, mc, rfl, hlb, c0, c1, c2, c3, c4, g1, g2, g3⟩ := (HF.out.below HB.out (Nat.le_refl _)).at hk2
   obtain ⟨s, hs⟩ : ∃ s, s = FS[k].name := ⟨_, rfl⟩
   rw [<- hs] at c0
   have HS : Hid (s = FS[k].name) := hs
   generalize FS[k].params.length = xl at c1
   generalize FS[k].result = r at c2
   generalize FS[k].vals.length = ll at c3
   generalize FS[k].blks.length = ml at c4
   clear hs g1 g2 g3
   have hfx : fn <= 9223372036854775807 := by omega
   obtain ⟨w5, hw5⟩ : ∃ w5, w5 = wr.alloc (.cells #[.string s, .slice xa xl xc, .int .i64 r, .slice la ll lc, .slice ma ml mc] 33) := ⟨_, rfl⟩
   obtain ⟨kb, hkb⟩ : ∃ kb, kb = wr.heap.size := ⟨_, rfl⟩
   have hk5 : w5.heap[kb]? = some (.cells #[.string s, .slice xa xl xc, .int .i64 r, .slice la ll lc, .slice ma ml mc] 33 (0, 0)) := by rw [hw5, hkb]; exact heap_alloc_new _ _
   have B5 : Below wr.heap.size wr w5 := by rw [hw5]; exact below_new _ _
   have HM5 : Hid _ := HM.out.keep B5
   have HB5 : Hid (Below w.heap.size w w5) := HB.out.trans (B5.mono HB.out.size)
   have HFT : Hid (∀ W, Below w.heap.size w W -> Calls Tryz.prog 75 #[.string s] W fun e w' => e = .returned (.bool (nmOk (nml s))) /\ Below W.heap.size W w') := fun W h => by
    have := fits_any W (HT.out.below h HT.out.1) (nml s)
    rw [bs_nml] at this
    exact this
   have HC : Hid (∀ W, Below w5.heap.size w5 W -> W.cell? ⟨kb, 0, none⟩ = some (.string s) /\ W.cell? ⟨kb, 1, none⟩ = some (.slice xa xl xc) /\ W.cell? ⟨kb, 2, none⟩ = some (.int .i64 r) /\ W.cell? ⟨kb, 3, none⟩ = some (.slice la ll lc) /\ W.cell? ⟨kb, 4, none⟩ = some (.slice ma ml mc)) := fun W h => by
    have e := (h.block _ (gl hk5)).trans hk5
    exact ⟨cell_arr e rfl, cell_arr e rfl, cell_arr e rfl, cell_arr e rfl, cell_arr e rfl⟩
   obtain ⟨q0, q1, q2, q3, q4⟩ := HC.out w5 (Below.refl _ _)
   have hNk : k < (FS.map fun f => nml f.name).length := by simpa using hk2
   have eNk : (FS.map fun f => nml f.name)[k] = nml s := by rw [List.getElem_map, HS.out]
   have HNK : Hid (k < (FS.map fun f => nml f.name).length) := hNk
   have HEK : Hid (∀ h : k < (FS.map fun f => nml f.name).length, (FS.map fun f => nml f.name)[k]'h = nml s) := fun _ => eNk
   clear HM HB B5 hk5 hNk eNk
   cases hR : nmOk (nml s) with
   | false =>
     have HNP : Hid (namesP FS = false) := by
      show _ = false
      unfold namesP
      have : FS.all (fun f => nmOk (nml f.name)) = false := by
       rw [<- Bool.not_eq_true, List.all_eq_true]
       intro h
       have := h FS[k] (List.getElem_mem hk2)
       rw [<- HS.out, hR] at this
       cases this
      rw [this]; rfl
     rw [hR] at HFT
     go_wp2_with fail
     rw [<- hw5, <- hkb]
     clear hw5 hkb c0 c1 c2 c3 c4
     go_wp2_with (first
      | (go_at_call 75; refine (HFT.out w1 HB1.out).mono ?_; rintro e w2 ⟨rfl, hb2⟩)
      | (go_at_call 48; refine (formed1_any w5 _ _ _ _ _ _ _ _ _ _ _).mono ?_; rintro e w1 ⟨rfl, hw1⟩; have B1 : Below w5.heap.size w5 w1 := (by rw [hw1]; exact below_new _ _); have HB1 := show Hid (Below w.heap.size w w1) from HB5.out.trans (B1.mono HB5.out.size); clear hw1))
     go_ret
     exact ⟨by rw [HNP.out]; rfl, HB1.out.trans (hb2.mono HB1.out.size)⟩
   | true =>
     have HA2 : Hid ((FS.take (k + 1)).all (fun f => nmOk (nml f.name)) = true) := by
      show _ = true
      rw [<- List.take_append_getElem hk2, List.all_append, HA.out]
      simp only [List.all_cons, List.all_nil, Bool.and_true, Bool.true_and]
      rw [<- HS.out]; exact hR
     have hsz : s.size <= 64 := by
      have := hR
      simp only [nmOk, Bool.and_eq_true, decide_eq_true_eq] at this
      have := this.1.1.1
      simpa [nml] using this
     have hkey := key9 hsz
     rw [hR] at HFT
     go_wp2_with fail
     rw [<- hw5, <- hkb]
     clear hw5 hkb c0 c1 c2 c3 c4
     go_wp2_with (first
      | (at_mapUpdate; refine wpList_mapUpdate_own _ rfl _ _ _ 107 rfl 9 3 law9 Tryz.underlying107 _ w.heap.size k _ rfl d1 (by unfold maxLen; omega) _ _ _ rfl rfl hkey _ [] (plainElem_int Tryz.underlying3 (wrap64_wf _)) ?_; intro w6 h6 g6
         have HM6 := show Hid _ from NM.next HNK.out d2 d3 (d1.tidy law9) _ (by rw [HEK.out]; exact h6)
         have HB6 := show Hid (Below w.heap.size w w6) from HB3.out.grown g6 HB3.out.size (fun j hj => by cases hj; exact Nat.le_refl _)
         clear h6 g6)
      | (at_lookup; refine wpList_lookup_own_int _ rfl _ _ 107 rfl 9 3 .i64 law9 Tryz.underlying107 Tryz.underlying3 (zeroI _) w.heap.size k D rfl d1 _ _ rfl hkey ?_; intro z hat hwc; clear hat hwc)
      | (go_at_call 48; refine (formed1_any w2 _ _ _ _ _ _ _ _ _ _ _).mono ?_; rintro e w3 ⟨rfl, hw3⟩; have B3 : Below w2.heap.size w2 w3 := (by rw [hw3]; exact below_new _ _); have HB3 := show Hid (Below w.heap.size w w3) from HB2.out.trans (B3.mono HB2.out.size); obtain ⟨D, d1, d2, d3⟩ := (HM2.out.keep B3).out; clear hw3)
      | (go_at_call 75; refine (HFT.out w1 HB1.out).mono ?_; rintro e w2 ⟨rfl, hb2⟩; have HB2 := show Hid (Below w.heap.size w w2) from HB1.out.trans (hb2.mono HB1.out.size); have HM2 := show Hid _ from HM1.out.keep hb2; obtain ⟨r0, r1, r2, r3, r4⟩ := HC.out w2 (B1.trans (hb2.mono B1.size)))
      | (go_at_call 48; refine (formed1_any w5 _ _ _ _ _ _ _ _ _ _ _).mono ?_; rintro e w1 ⟨rfl, hw1⟩; have B1 : Below w5.heap.size w5 w1 := (by rw [hw1]; exact below_new _ _); have HB1 := show Hid (Below w.heap.size w w1) from HB5.out.trans (B1.mono HB5.out.size); have HM1 := show Hid _ from HM5.out.keep B1; clear hw1))
     go_roundw
     case rel => exact ⟨k + 1, by omega, by go_num, HM6.out, HB6.out, HA2.out⟩
     case measure => simp [intOf]; omega
  ·have hkn : k = fn := by omega
   subst hkn
   obtain ⟨D, d1, d2, d3⟩ := HM.out.out
   have HNP : Hid (namesP FS = decide (size D = k)) := by
    show _ = _
    unfold namesP
    have h1 : FS.all (fun f => nmOk (nml f.name)) = true := by
     have := HA.out
     rwa [List.take_of_length_le (by have := HN.out; omega)] at this
    have h2 := cdN_eq (FS.map fun f => nml f.name) k (by have := HN.out; simp; omega)
    rw [List.take_of_length_le (by have := HN.out; simp; omega)] at h2
    rw [h1, Bool.true_and, decide_eq_decide, d2]
    exact h2.symm
   have hDk : size D <= k := by rw [d2]; exact cdN_le _ _
   generalize hz : size D = z at HNP hDk d2
   clear d2
   go_wp2_with (at_len; refine wpList_len_own _ rfl _ 107 rfl 9 3 Tryz.underlying107 _ w.heap.size k D rfl d1 ?_; rw [hz])
   go_ret
   refine ⟨?_, HB.out⟩
   rw [HNP.out]
   by_cases e : z = k
   ·subst e; simp
   ·have : ¬ (z : Int) = k := by omega
    simp [e, this]
end Go.Proofs.YtfbkopjncmkbiabGreatDoor
namespace Go.Proofs.YtfbkopjncmkbiabGreatDoor
open Go.ChangeShapes Go.WideShapes Go.ChangeAt Go.RowKit Go.Maps
def formedP (FS : List Fu) (m : Int) : Bool := namesP FS && (mainP FS m && FS.all (formP FS))
def firstP (FS : List Fu) : List Fu -> Int
 | [] => 0
 | f :: L => if faultP FS f = 0 then firstP FS L else faultP FS f
def checkP (FS : List Fu) (m : Int) : Int := if formedP FS m = false then 90 else firstP FS FS
structure FewF (f : Fu) : Prop where
 blks : f.blks.length <= 1000000
 tot : totK f f.blks.length <= 1000000000
theorem Tab.af {w w' : World} {A : Obj} (h : Tab w) (a : Af1 w A w') : Tab w' := h.below a.low h.1
set_option maxRecDepth 100000 in
set_option maxHeartbeats 2000000 in
theorem formed_any (w : World) (hTab : Tab w) (fa : Option Addr) (fn fc : Nat) (FS : List Fu) (hfn : fn = FS.length) (hF : Fus w fa fc FS) (hlen : fn <= 1000000) (m : Int) (T : Bool) (hT : formedP FS m = T) :
 Calls Tryz.prog 21 #[.agg #[.slice fa fn fc, .int .i64 m]] w fun e w' => e = .returned (.bool T) /\ Below w.heap.size w w' := by
 subst hT
 have A0 : Af1 w (.cells #[.slice fa fn fc, .int .i64 m] 40) (w.alloc (.cells #[.slice fa fn fc, .int .i64 m] 40)) := Af1.refl _ _
 have H1 : Hid (∀ W, Af1 w (.cells #[.slice fa fn fc, .int .i64 m] 40) W -> ∀ T, namesP FS = T -> Calls Tryz.prog 47 #[.slice fa fn fc, .func (.func 48) #[] #[]] W fun e w' => e = .returned (.bool T) /\ Below W.heap.size W w') := fun W h T hT => by subst hT; exact namesAll_any W (hTab.af h) fa fn fc FS hfn (hF.below h.low (Nat.le_refl _)) hlen
 have H2 : Hid (∀ W, Af1 w (.cells #[.slice fa fn fc, .int .i64 m] 40) W -> ∀ T, mainP FS m = T -> Calls Tryz.prog 49 #[.agg #[.slice fa fn fc, .int .i64 m]] W fun e w' => e = .returned (.bool T) /\ Below W.heap.size W w') := fun W h T hT => by subst hT; exact mainFits_any W fa fn fc FS hfn (hF.below h.low (Nat.le_refl _)) m
 have H3 : Hid (∀ W, Af1 w (.cells #[.slice fa fn fc, .int .i64 m] 40) W -> ∀ T, FS.all (formP FS) = T -> Calls Tryz.prog 50 #[.slice fa fn fc, .func (.func 51) #[] #[.pointer (some ⟨w.heap.size, 0, none⟩)]] W fun e w' => e = .returned (.bool T) /\ Below W.heap.size W w') := fun W h T hT => everyF2_at W w.heap.size fa fn fc FS hfn (hF.below h.low (Nat.le_refl _)) m h.one T hT
 have H4 : Hid (∀ W, Af1 w (.cells #[.slice fa fn fc, .int .i64 m] 40) W -> W.cell? ⟨w.heap.size, 0, none⟩ = some (.slice fa fn fc) /\ W.cell? ⟨w.heap.size, 1, none⟩ = some (.int .i64 m)) := fun W h => ⟨cell_arr h.one rfl, cell_arr h.one rfl⟩
 unfold formedP
 clear hTab hF hfn hlen
 cases q1 : namesP FS with
 | false =>
   go_enter Tryz.func21, Tryz.ntmps21
   go_wp2_with (first
    | (go_at_call 47; refine (H1.out _ A0 _ q1).mono ?_; rintro e w1 ⟨rfl, hb1⟩; have A1 := A0.next hb1; obtain ⟨y0, y1⟩ := H4.out w1 A1))
   go_ret
   exact ⟨by simp, A1.low⟩
 | true =>
 cases q2 : mainP FS m with
 | false =>
   go_enter Tryz.func21, Tryz.ntmps21
   go_wp2_with (first
    | (go_at_call 47; refine (H1.out _ A0 _ q1).mono ?_; rintro e w1 ⟨rfl, hb1⟩; have A1 := A0.next hb1; obtain ⟨y0, y1⟩ := H4.out w1 A1)
    | (go_at_call 49; refine (H2.out _ A1 _ q2).mono ?_; rintro e w2 ⟨rfl, hb2⟩; have A2 := A1.next hb2; obtain ⟨z0, z1⟩ := H4.out w2 A2))
   go_ret
   exact ⟨by simp, A2.low⟩
 | true =>
   generalize q3 : FS.all (formP FS) = T
   go_enter Tryz.func21, Tryz.ntmps21
   go_wp2_with (first
    | (go_at_call 47; refine (H1.out _ A0 _ q1).mono ?_; rintro e w1 ⟨rfl, hb1⟩; have A1 := A0.next hb1; obtain ⟨y0, y1⟩ := H4.out w1 A1)
    | (go_at_call 49; refine (H2.out _ A1 _ q2).mono ?_; rintro e w2 ⟨rfl, hb2⟩; have A2 := A1.next hb2; obtain ⟨z0, z1⟩ := H4.out w2 A2)
    | (go_at_call 50; refine (H3.out _ A2 _ q3).mono ?_; rintro e w3 ⟨rfl, hb3⟩; have A3 := A2.next hb3))
   go_ret
   exact ⟨by simp, A3.low⟩
theorem faultP_range (FS : List Fu) (f : Fu) : 0 <= faultP FS f /\ faultP FS f <= 96 := by
 unfold faultP
 repeat' split
 all_goals omega
set_option maxRecDepth 100000 in
set_option maxHeartbeats 4000000 in
theorem check_any (w : World) (hTab : Tab w) (fa : Option Addr) (fn fc : Nat) (FS : List Fu) (hfn : fn = FS.length) (hF : Fus w fa fc FS) (hlen : fn <= 1000000) (hfew : ∀ f ∈ FS, FewF f) (m : Int) (R : Int) (hR : checkP FS m = R) :
 Calls Tryz.prog 11 #[.agg #[.slice fa fn fc, .int .i64 m]] w fun e w' => e = .returned (.int .i64 R) /\ Below w.heap.size w w' := by
 have A0 : Af1 w (.cells #[.slice fa fn fc, .int .i64 m] 40) (w.alloc (.cells #[.slice fa fn fc, .int .i64 m] 40)) := Af1.refl _ _
 have H1 : Hid (∀ W, Af1 w (.cells #[.slice fa fn fc, .int .i64 m] 40) W -> ∀ T, formedP FS m = T -> Calls Tryz.prog 21 #[.agg #[.slice fa fn fc, .int .i64 m]] W fun e w' => e = .returned (.bool T) /\ Below W.heap.size W w') := fun W h T hT => formed_any W (hTab.af h) fa fn fc FS hfn (hF.below h.low (Nat.le_refl _)) hlen m T hT
 unfold checkP at hR
 cases q1 : formedP FS m with
 | false =>
   rw [if_pos q1] at hR
   subst hR
   clear hTab hF hfn hlen hfew
   go_enter Tryz.func11, Tryz.ntmps11
   go_wp2_with (go_at_call 21; refine (H1.out _ A0 _ q1).mono ?_; rintro e w1 ⟨rfl, hb1⟩)
   go_ret
   exact ⟨rfl, (A0.next hb1).low⟩
 | true =>
   rw [if_neg (by rw [q1]; simp)] at hR
   have hforms : ∀ G ∈ FS, formP FS G = true := by
    simp only [formedP, Bool.and_eq_true, List.all_eq_true] at q1
    exact q1.2.2
   have HF : Hid (Fus w fa fc FS) := hF
   have HN : Hid (fn = FS.length) := hfn
   have HFM : Hid (∀ G ∈ FS, formP FS G = true) := hforms
   have HFW : Hid (∀ f ∈ FS, FewF f) := hfew
   have HR : Hid (firstP FS (FS.drop 0) = R) := by rw [List.drop_zero]; exact hR
   have hfx : fn <= 9223372036854775807 := by omega
   clear hTab hF hfn hfew hforms hR
   go_enter Tryz.func11, Tryz.ntmps11
   go_wp2_with (go_at_call 21; refine (H1.out _ A0 _ q1).mono ?_; rintro e w1 ⟨rfl, hb1⟩; have A1 := A0.next hb1; have y0 := cell_arr (i := 0) A1.one rfl)
   have HA1 : Hid _ := A1
   clear A0 A1 y0 hb1 H1 q1
   go_loopw [12] (fun v wr => ∃ k : Nat, k <= fn /\ v = .int .i64 k /\ Hid (Af1 w (.cells #[.slice fa fn fc, .int .i64 m] 40) wr) /\ Hid (firstP FS (FS.drop k) = R)) (fun v _ => fn - (intOf v).toNat)
   case atStart => exact ⟨0, by omega, rfl, HA1.out, HR.out⟩
   case round =>
    clear HA1 HR
    obtain ⟨k, hk, rfl, HA, HR⟩ := hrel
    by_cases hlt : k < fn
    ·have hk2 : k < FS.length := by have := HN.out; omega
     have hFr := HF.out.below HA.out.low (Nat.le_refl _)
     obtain ⟨b, o, xa, xc, la, lc, ma, mc, eb, hlb, c0, c1, c2, c3, c4, g1, g2, g3⟩ := hFr.at hk2
     obtain ⟨s, hs⟩ : ∃ s, s = FS[k].name := ⟨_, rfl⟩
     obtain ⟨xl, hxl⟩ : ∃ xl, xl = FS[k].params.length := ⟨_, rfl⟩
     obtain ⟨r, hr⟩ : ∃ r, r = FS[k].result := ⟨_, rfl⟩
     obtain ⟨ll, hll⟩ : ∃ ll, ll = FS[k].vals.length := ⟨_, rfl⟩
     obtain ⟨ml, hml⟩ : ∃ ml, ml = FS[k].blks.length := ⟨_, rfl⟩
     rw [<- hs] at c0
     rw [<- hxl] at c1
     rw [<- hr] at c2
     rw [<- hll] at c3
     rw [<- hml] at c4
     have B5 := below_new wr (.cells #[.string s, .slice xa xl xc, .int .i64 r, .slice la ll lc, .slice ma ml mc] 33)
     have A5 := HA.out.next B5
     have y0 := cell_arr (i := 0) A5.one rfl
     have hC : Ctx (wr.alloc (.cells #[.string s, .slice xa xl xc, .int .i64 r, .slice la ll lc, .slice ma ml mc] 33)) s xa xl xc r la ll lc ma ml mc fa fn fc FS[k] FS := ⟨hs, hxl, hr, hll, hml, HN.out, g1.below B5 (Nat.le_refl _), g2.below B5 (Nat.le_refl _), g3.below B5 (Nat.le_refl _), hFr.below B5 (Nat.le_refl _)⟩
     have hfk := HFW.out FS[k] (List.getElem_mem hk2)
     have HCF : Hid _ := fault_any _ hC HFM.out (HFM.out _ (List.getElem_mem hk2)) (by rw [hml]; exact hfk.blks) hfk.tot
     have hdr : FS.drop k = FS[k] :: FS.drop (k + 1) := List.drop_eq_getElem_cons hk2
     have hR := HR.out
     rw [hdr] at hR
     simp only [firstP] at hR
     have hrg := faultP_range FS FS[k]
     generalize faultP FS FS[k] = F at HCF hR hrg
     have HA5 : Hid _ := A5
     subst eb
     clear hs hxl hr hll hml g1 g2 g3 hC hFr hfk hdr A5 B5 HR HA
     by_cases hz : F = 0
     ·rw [if_pos hz] at hR
      subst hz
      have HR2 : Hid (firstP FS (FS.drop (k + 1)) = R) := hR
      clear hR hrg
      go_wp2_with (go_at_call 22; refine Calls.mono HCF.out ?_; rintro e w6 ⟨rfl, hb6⟩; have HA6 := show Hid _ from HA5.out.next hb6; clear hb6)
      go_roundw
      case rel => exact ⟨k + 1, by omega, by go_num, HA6.out, HR2.out⟩
      case measure => simp [intOf]; omega
     ·rw [if_neg hz] at hR
      subst hR
      have hz2 : (F != 0) = true := by simp [hz]
      have hz3 : (F == 0) = false := by simp [hz]
      clear hz hrg
      go_wp2_with (go_at_call 22; refine Calls.mono HCF.out ?_; rintro e w6 ⟨rfl, hb6⟩)
      go_ret
      exact ⟨rfl, (HA5.out.next hb6).low⟩
    ·have hkn : k = fn := by omega
     subst hkn
     have hR := HR.out
     rw [List.drop_of_length_le (by have := HN.out; omega)] at hR
     simp only [firstP] at hR
     have HRR : Hid (R = 0) := hR.symm
     have HL : Hid _ := HA.out.low
     clear HR hR HA
     go_wp2_with fail
     go_ret
     exact ⟨by rw [HRR.out]; rfl, HL.out⟩
end Go.Proofs.YtfbkopjncmkbiabGreatDoor
namespace Go.Proofs.YtfbkopjncmkbiabGreatDoor
open Go.ChangeShapes Go.WideShapes Go.ChangeAt Go.RowKit
theorem cells_of_strs {P : Program} {w : World} {fuel : Nat} {t e : TypeId} {n : Nat} {cs : List Value} {ss : List (List UInt8)} {p : List MemPlace}
 (ht : P.underlying t = some (.array n e)) (he : P.underlying e = some .string) (hce : P.cellsOf e = 1) (hct : P.cellsOf t = n)
 (h : DataW.trod (fun _ => ()) P w 0 (fun _ => true) false fuel t cs = some (.agg (ss.map fun s => .lit (.string s)), p)) : ∀ i, i < ss.length -> cs[i]? = some (.string (bs (ss.getD i []))) := by
 intro i hi
 cases fuel with
 | zero => simp [DataW.trod] at h
 | succ fuel =>
   simp only [DataW.trod, ht, hce, hct, Nat.mul_one] at h
   split at h
   ·obtain ⟨xs, hm, hx⟩ := Option.map_eq_some_iff.1 h
    have hxs : xs.map (·.1) = ss.map fun s => (DataW.lit (.string s) : DataW Unit) := by
     have := congrArg Prod.fst hx
     simpa using this
    have hxl : xs.length = n := by simpa using Lib.mapM_length hm
    have hzl : ss.length = n := by
     have := congrArg List.length hxs
     simp at this
     omega
    have hin : i < n := by omega
    obtain ⟨b, hb, hf⟩ := Lib.mapM_at hm i i (by simp [hin])
    obtain ⟨s, hc, hz, _⟩ := DataW.trod_string he hf
    have h1 : cs[i]? = some (.string s) := by
     have := congrArg (·[0]?) hc
     simpa [List.getElem?_take, List.getElem?_drop] using this
    have h2 : (xs.map (·.1))[i]? = some (DataW.lit (.string s.data.toList) : DataW Unit) := by simp [hb, hz]
    rw [hxs] at h2
    simp only [List.getElem?_map, Option.map_eq_some_iff, DataW.lit.injEq, Lit.string.injEq] at h2
    obtain ⟨z', hz', e⟩ := h2
    rw [h1]
    simp [List.getD, hz', e, bs]
   ·cases h
theorem tab_of_laid {W : World} (hL : laidMetH Tryz.prog [("quern/lex.words", Rows.laid_quern_lex_words), ("quern/lex.signs", Rows.laid_quern_lex_signs)] W) : Tab W := by
 have h : laidMet Tryz.prog [("quern/lex.words", Rows.laid_quern_lex_words), ("quern/lex.signs", Rows.laid_quern_lex_signs)] W := hL
 obtain ⟨ps, ⟨g1, t1, cs1, f1, p1, q1, hg1, ht1, hv1, hd1, ⟨g2, t2, cs2, f2, p2, q2, hg2, ht2, hv2, hd2, _, _⟩, _⟩, _⟩ := h
 have e1 : Tryz.prog.globalNamed "quern/lex.words" = some 1 := by kernel_rfl
 have e2 : Tryz.prog.globalNamed "quern/lex.signs" = some 0 := by kernel_rfl
 obtain rfl := Option.some.inj (e1.symm.trans hg1)
 obtain rfl := Option.some.inj (e2.symm.trans hg2)
 obtain rfl := Option.some.inj ((show (Tryz.prog.globals[1]?).map (·.type) = some 187 by kernel_rfl).symm.trans ht1)
 obtain rfl := Option.some.inj ((show (Tryz.prog.globals[0]?).map (·.type) = some 186 by kernel_rfl).symm.trans ht2)
 have k1 : ∀ i, i < 18 -> W.cell? ⟨1, i, none⟩ = some (.string (bs (WORDS.getD i []))) := fun i hi => by
  rw [World.var?_cell hg1 hv1, <- Array.getElem?_toList]
  exact cells_of_strs (ss := WORDS) Tryz.underlying187 Tryz.underlying9 (by kernel_rfl) (by kernel_rfl) hd1 i hi
 have k2 : ∀ i, i < 29 -> W.cell? ⟨0, i, none⟩ = some (.string (bs (SIGNS.getD i []))) := fun i hi => by
  rw [World.var?_cell hg2 hv2, <- Array.getElem?_toList]
  exact cells_of_strs (ss := SIGNS) Tryz.underlying186 Tryz.underlying9 (by kernel_rfl) (by kernel_rfl) hd2 i hi
 have b1 : 1 < W.heap.size := block_lt_of_cell (k1 0 (by omega))
 have b2 : 0 < W.heap.size := block_lt_of_cell (k2 0 (by omega))
 exact ⟨by omega, k1, k2⟩
structure Ac where
 fi : Nat
 bk : Nat
 bh : Nat
 fst : Nat
structure Hpd where
 tk : Int
 ln : Int -> Option Int
 mm : Int -> Int
 c : Nat
structure Ms where
 inp : List Int
 here : Ac
 wait : List Ac
 nums : List Int
 phis : List Int
 ev : List (Int × Int)
 fin : Int
 kd : Int
 vl : Int
 steps : Int
 words : Int
 deep : Int
 rests : Bool
 hp : Hpd
def Ms.over (M : Ms) : Bool := M.rests || !decide (M.fin = 0)
def setN (L : List Int) (p : Nat) (x : Int) : List Int := (L ++ List.replicate (p + 1 - L.length) 0).set p x
def Ms.put (M : Ms) (v : Nat) (x : Int) : Ms := { M with nums := setN M.nums (M.here.fst + v) x }
def Ms.num (M : Ms) (v : Int) : Option Int := if 0 <= v then M.nums[M.here.fst + v.toNat]? else none
def Ms.arg (M : Ms) (v : Vl) (i : Nat) : Option Int := if h : i < v.args.length then M.num v.args[i] else some 0
def Ms.panic (M : Ms) (k x : Int) : Ms := { M with fin := 2, kd := k, vl := x }
def Ms.tell (M : Ms) (k x : Int) : Ms := if M.ev.length = 1048576 then { M with rests := true } else { M with ev := M.ev ++ [(k, x)] }
def bsr (L : List Int) (x : Int) : Nat -> Nat -> Nat -> Nat
 | 0, i, _ => i
 | q + 1, i, j => if i < j then (if L.getD ((i + j) / 2) 0 < x then bsr L x q ((i + j) / 2 + 1) j else bsr L x q i ((i + j) / 2)) else i
def bsP (L : List Int) (x : Int) : Nat := bsr L x L.length 0 L.length
def allO : List (Option Int) -> Option (List Int)
 | [] => some []
 | none :: _ => none
 | some x :: L => (allO L).map (x :: ·)
def Ms.enter (f : Fu) (M : Ms) (tos : List Int) (way : Nat) : Option Ms :=
 match tos[way]? with
 | none => none
 | some t =>
   if t < 0 then none else
   match f.blks[t.toNat]? with
   | none => none
   | some b =>
     let at_ := bsP b.preds M.here.bk + (if way = 1 /\ tos[0]? = tos[1]? then 1 else 0)
     match allO (b.phis.map fun p => if p < 0 then none else match f.vals[p.toNat]? with | none => none | some v => match v.args[at_]? with | none => none | some a => M.num a) with
     | none => none
     | some P => some { M with here := { M.here with bk := t.toNat, bh := 0 }, phis := P }
def Ms.back (FS : List Fu) (M : Ms) (v : Int) : Option Ms :=
 match M.wait.getLast? with
 | none => some { M with fin := 1 }
 | some a =>
   if M.nums.length < M.here.fst then none else
   let M' := { M with nums := M.nums.take M.here.fst, here := a, wait := M.wait.dropLast }
   if v < 0 then some M' else
   match (M.nums.drop M.here.fst)[v.toNat]?, FS[a.fi]? with
   | some x, some f =>
     match f.blks[a.bk]? with
     | some b => if a.bh < 1 + b.phis.length then none else match b.body[a.bh - 1 - b.phis.length]? with
       | some c => if c < 0 then none else some (M'.put c.toNat x)
       | none => none
     | none => none
   | _, _ => none
def Ms.leave (FS : List Fu) (f : Fu) (M : Ms) (b : Bk) : Option Ms :=
 if b.kind = 1 then M.enter f b.ways 0
 else if b.kind = 2 then (match M.num b.val with | none => none | some c => M.enter f b.ways (if c = 0 then 1 else 0))
 else if b.kind = 3 then M.back FS b.val
 else if b.kind = 4 then (match M.num b.val with | none => none | some c => some (M.panic 6 c))
 else some M
def Ms.puts (M : Ms) : List Int -> List Int -> Option Ms
 | [], _ => some M
 | p :: P, x :: X => if p < 0 then none else (M.put p.toNat x).puts P X
 | _ :: _, [] => none
def Ms.begin (FS : List Fu) (M : Ms) (n : Nat) (X : List Int) : Option Ms :=
 match FS[n]? with
 | none => none
 | some f => (Ms.puts { M with here := ⟨n, 0, 0, M.nums.length⟩ } f.params X).map fun M' => { M' with deep := max M'.deep (M'.wait.length + 1) }
end Go.Proofs.YtfbkopjncmkbiabGreatDoor
