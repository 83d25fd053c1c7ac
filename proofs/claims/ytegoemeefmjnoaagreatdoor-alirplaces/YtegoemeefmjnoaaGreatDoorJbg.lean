import Derived.Lib.ConvBytes
import Derived.Test.YtegoemeefmjnoaaGreatDoorJbf
set_option linter.unusedVariables false
set_option linter.unusedSimpArgs false
namespace Go.Proofs.YtegoemeefmjnoaaGreatDoor
open Go.ChangeShapes Go.WideShapes Go.ChangeAt Go.RowKit
def signR (l : List UInt8) : Except Nat (Tk × Nat) := if (bst l 29).2 = 0 then .error 20 else .ok (⟨(bst l 29).1, 0, []⟩, (bst l 29).2)
theorem signs_len : ∀ i, i < 29 -> (SIGNS.getD i []).length <= 2 /\ 0 < (SIGNS.getD i []).length := by decide
theorem bst_small (l : List UInt8) : ∀ i, i <= 29 -> (bst l i).1 <= 68 /\ (bst l i).2 <= 2 /\ (bst l i).2 <= l.length
 | 0, _ => by simp [bst]
 | i + 1, h => by
   have ih := bst_small l i (by omega)
   have := signs_len i (by omega)
   unfold bst
   split
   ·rename_i hp
    have := (List.isPrefixOf_iff_prefix.1 hp.2).length_le
    simp only
    omega
   ·exact ih
def z4 : Array Value := #[.int .i64 0, .int .i64 0, .int .i64 0, .string ⟨#[]⟩]
structure SA (l : List UInt8) (i K M : Nat) : Prop where
 out : bst l i = (K, M)
def SB (l : List UInt8) (i m : Nat) (s : ByteArray) (P : Bool) : Prop := s = bs (SIGNS.getD i []) /\ m = (SIGNS.getD i []).length /\ (SIGNS.getD i []).isPrefixOf l = P
structure SR (l : List UInt8) (r : Except Nat (Tk × Nat)) : Prop where
 out : signR l = r
theorem SA.hit {l i K M m s} (h : SA l i K M) (hb : SB l i m s true) (hm : M < m) : SA l (i + 1) (40 + i) m := by
 have h := h.out
 refine ⟨?_⟩
 unfold bst
 rw [h, if_pos ⟨by rw [<- hb.2.1]; exact hm, hb.2.2⟩, hb.2.1]
theorem SA.miss {l i K M m s P} (h : SA l i K M) (hb : SB l i m s P) (hm : P = false \/ ¬ M < m) : SA l (i + 1) K M := by
 have h := h.out
 refine ⟨?_⟩
 unfold bst
 rw [h, if_neg (by rw [<- hb.2.1, hb.2.2]; rintro ⟨h1, h2⟩; rcases hm with e | e; rw [e] at h2; cases h2; exact e h1)]
theorem SA.none {l K r} (h : SA l 29 K 0) (hr : SR l r) : r = .error 20 := by
 have h := h.out; have hr := hr.out; unfold signR at hr; rw [<- hr, h]; rfl
theorem SA.some {l K M r} (h : SA l 29 K M) (hr : SR l r) (hM : ¬ M = 0) : r = .ok (⟨K, 0, []⟩, M) := by
 have h := h.out; have hr := hr.out; unfold signR at hr; rw [<- hr, h]; simp [hM]
theorem SA.small {l i K M} (h : SA l i K M) (hi : i <= 29) : K <= 68 /\ M <= 2 /\ M <= l.length := by
 have := bst_small l i hi
 rw [h.out] at this; exact this
theorem starts_sb (w : World) (b o c m' m i : Nat) (M : List UInt8) (s : ByteArray) (P : Bool) (hA : At w b o M) (hc : m' <= c) (hm : c <= 9223372036854775807) (hl : m' = M.length) (hi : i < 29) (hP : SB M i m s P) :
 Calls Tryz.prog 130 #[.slice (some ⟨b, o, none⟩) m' c, .string s] w fun e w' => e = .returned (.bool P) /\ w' = w := by
 rw [hP.1]
 exact starts_at w b o c m' M _ P hA hc hm (by have := signs_len i hi; omega) hl hP.2.2
theorem At.drewN {w b o M} (h : At w b o M) (n : Nat) : At (w.drewN n) b o M := ⟨by simpa using h.1, fun i hi => by simpa using h.2 i hi⟩
theorem below_drewN {B : Nat} {a w : World} (h : Below B a w) (n : Nat) : Below B a (w.drewN n) := h.trans ⟨by rfl, by rfl, by rfl, by simp, fun k _ => by simp⟩
set_option maxHeartbeats 1000000 in
theorem sign_any (w : World) (hT : Tab w) (b o cap : Nat) (L : List UInt8) (hA : At w b o L) (hc : L.length <= cap) (hm : cap <= 9223372036854775807) (k : Nat) (hk : k < L.length) :
 Calls Tryz.prog 134 #[.slice (some ⟨b, o, none⟩) L.length cap, .int .i64 k] w fun e w' => TokRes (signR (L.drop k)) k e /\ Below w.heap.size w w' := by
 obtain ⟨r, hr⟩ : ∃ r, signR (L.drop k) = r := ⟨_, rfl⟩
 rw [hr]
 have Hr : SR (L.drop k) r := ⟨hr⟩
 clear hr
 obtain ⟨n, hn⟩ : ∃ n, n = L.length := ⟨_, rfl⟩
 rw [<- hn] at hc hk ⊢
 have HN : Hid (n = L.length) := hn
 clear hn
 go_enter Tryz.func134, Tryz.ntmps134
 go_wp2
 go_loopw [7, 8, 10] (fun z v c wr => ∃ i K M : Nat, i <= 29 /\ c = .int .i64 i /\ z = .int .i64 K /\ v = .int .i64 M /\ SA (L.drop k) i K M /\ Below w.heap.size w wr /\ wr.heap[w.heap.size]? = some (.cells z4 163 (0, 0))) (fun _ _ c _ => 29 - (intOf c).toNat)
 case atStart => exact ⟨0, 0, 0, by omega, rfl, rfl, rfl, ⟨rfl⟩, (Below.refl _ _).alloc (Nat.le_refl _) _, heap_alloc_last _ _⟩
 case round =>
  obtain ⟨i, K, M, hi, rfl, rfl, rfl, HB, hbl, hg⟩ := hrel
  obtain ⟨hs1, hs2, hs3⟩ := HB.small hi
  have HG : Hid (wr.heap[w.heap.size]? = some (.cells z4 163 (0, 0))) := hg
  clear hg
  have HS3 : Hid (M <= (L.drop k).length) := hs3
  clear hs3
  by_cases hlt : i < 29
  ·have hcell := (hT.below hbl hT.1).2.2 i hlt
   have HA2 : At wr b o L := hA.below hbl hA.1
   obtain ⟨s, m, P, hm3, hm4, hsz, HS⟩ : ∃ s m P, m <= 2 /\ 0 < m /\ s.size = m /\ SB (L.drop k) i m s P := ⟨_, _, _, (signs_len i hlt).1, (signs_len i hlt).2, bs_size _, rfl, rfl, rfl⟩
   rw [<- HS.1] at hcell
   by_cases hgt : M < m
   ·have hgI : (M : Int) < (m : Int) := by omega
    cases P
    ·go_wp2_with fail
     go_quiet (first | (go_at_call 130; exact Calls.quiet_of_same (starts_sb _ b (o + k) (cap - k) (n - k) m i (L.drop k) s false ((HA2.drop k).drewN _) (by omega) (by omega) (by have := HN.out; simp; omega) hlt HS)))
     go_wp2_with fail
     go_roundw
     case rel => exact ⟨i + 1, K, M, by omega, by go_num, rfl, rfl, HB.miss HS (.inl rfl), below_drewN hbl _, by simpa using HG.out⟩
     case measure => simp [intOf]; omega
    ·go_wp2_with fail
     go_quiet (first | (go_at_call 130; exact Calls.quiet_of_same (starts_sb _ b (o + k) (cap - k) (n - k) m i (L.drop k) s true ((HA2.drop k).drewN _) (by omega) (by omega) (by have := HN.out; simp; omega) hlt HS)))
     go_wp2_with fail
     go_quiet (fail)
     go_wp2_with fail
     go_roundw
     case rel => exact ⟨i + 1, 40 + i, m, by omega, by go_num, by go_num, rfl, HB.hit HS hgt, below_drewN hbl _, by simpa using HG.out⟩
     case measure => simp [intOf]; omega
   ·have hd : decide ((M : Int) < (m : Int)) = false := by simp; omega
    have hgI : ¬ (M : Int) < (m : Int) := by omega
    go_wp2_with fail
    go_quiet (fail)
    go_wp2_with fail
    go_roundw
    case rel => exact ⟨i + 1, K, M, by omega, by go_num, rfl, rfl, HB.miss HS (.inr hgt), below_drewN hbl _, by simpa using HG.out⟩
    case measure => simp [intOf]; omega
  ·have h29 : i = 29 := by omega
   subst h29
   have hg := HG.out
   have hMl : k + M <= n := by have := HS3.out; simp at this; have := HN.out; omega
   by_cases hM : M = 0
   ·subst hM
    go_wp2_with (first | (refine wpList_store_tok rfl (.tmp 4) (.tmp 37) rfl w.heap.size 0 0 0 ⟨#[]⟩ rfl rfl _ hg rfl ?_) | fail)
    refine bodyPost_ret (v := .tuple #[tz, .int .i64 0, .int .i64 20]) ?_ rfl ?_
    ·exact results_tok Tryz.results134 _ _ w.heap.size 163 _ (0, 0) _ _ rfl rfl rfl (setRow_heap _ _ _ _ _ _ hg) rfl
    refine ⟨?_, below_setRow hbl (Nat.le_refl _) _⟩
    rw [HB.none Hr]
    exact ⟨0, rfl⟩
   ·go_wp2_with (first | (refine wpList_store_tok rfl (.tmp 4) (.tmp 40) rfl w.heap.size K k 0 ⟨#[]⟩ rfl rfl _ hg rfl ?_) | fail)
    refine bodyPost_ret (v := .tuple #[.agg #[.int .i64 K, .int .i64 k, .int .i64 0, .string ⟨#[]⟩], .int .i64 (k + M), .int .i64 0]) ?_ rfl ?_
    ·exact results_tok Tryz.results134 _ _ w.heap.size 163 _ (0, 0) _ _ rfl rfl rfl (setRow_heap _ _ _ _ _ _ hg) rfl
    refine ⟨?_, below_setRow hbl (Nat.le_refl _) _⟩
    rw [HB.some Hr hM]
    exact ret_three rfl (by omega) rfl
structure TR (l : List UInt8) (r : Except Nat (Tk × Nat)) : Prop where
 out : tk l = r
theorem TokRes.form {r k e} (h : TokRes r k e) : ∃ (K A V : Int) (S : ByteArray) (Z E : Int), e = .returned (.tuple #[.agg #[.int .i64 K, .int .i64 A, .int .i64 V, .string S], .int .i64 Z, .int .i64 E]) := by
 cases r with
 | error er => obtain ⟨z, h⟩ := h; exact ⟨0, 0, 0, .empty, z, er, h⟩
 | ok p => exact ⟨p.1.kind, k, p.1.val, bs p.1.name, _, _, h⟩
theorem tr_num {x : UInt8} {l r} (hc : cl x = 7) (h : TR (x :: l) r) : numS false 0 (x :: l) 0 = r := by
 rw [<- h.out]
 simp only [tk, hc, if_true, numS, ns_eq]
 cases numVal (List.takeWhile isDg (x :: l)) <;> simp
theorem tr_name {x : UInt8} {l r} (hc : cl x = 6) (h : TR (x :: l) r) : nameR (x :: l) = r := by
 rw [<- h.out]
 simp [tk, hc, nameR]
theorem tr_sign {x : UInt8} {l r} (hc : cl x ≠ 7) (hd : cl x ≠ 6) (h : TR (x :: l) r) : signR (x :: l) = r := by
 rw [<- h.out]
 unfold signR
 simp only [tk, hc, hd, if_false]
theorem name_at {w : World} (hT : Tab w) {b o cap n : Nat} {L : List UInt8} (hA : At w b o L) (hn : n = L.length) (hc : n <= cap) (hm : cap <= 9223372036854775807) {k : Nat} (hk : k < n) {r} (hr : nameR (L.drop k) = r) :
 Calls Tryz.prog 133 #[.slice (some ⟨b, o, none⟩) n cap, .int .i64 k] w fun e w' => TokRes r k e /\ Below w.heap.size w w' := by
 subst hr hn; exact name_any w hT b o cap L hA hc hm k hk
theorem num_at {w : World} {b o cap n : Nat} {L : List UInt8} (hA : At w b o L) (hn : n = L.length) (hc : n <= cap) (hm : cap <= 9223372036854775807) {k : Nat} (hk : k < n) {r} (hr : numS false 0 (L.drop k) 0 = r) :
 Calls Tryz.prog 132 #[.slice (some ⟨b, o, none⟩) n cap, .int .i64 k] w fun e w' => TokRes r k e /\ Below w.heap.size w w' := by
 subst hn; exact number_any w b o cap L hA (by omega) k (by omega) r hr
theorem sign_at {w : World} (hT : Tab w) {b o cap n : Nat} {L : List UInt8} (hA : At w b o L) (hn : n = L.length) (hc : n <= cap) (hm : cap <= 9223372036854775807) {k : Nat} (hk : k < n) {r} (hr : signR (L.drop k) = r) :
 Calls Tryz.prog 134 #[.slice (some ⟨b, o, none⟩) n cap, .int .i64 k] w fun e w' => TokRes r k e /\ Below w.heap.size w w' := by
 subst hr hn; exact sign_any w hT b o cap L hA hc hm k hk
set_option maxHeartbeats 1000000 in
theorem token_any (w : World) (hT : Tab w) (b o cap n : Nat) (L : List UInt8) (hA : At w b o L) (hn : n = L.length) (hc : n <= cap) (hm : cap <= 9223372036854775807) (k : Nat) (hk : k < n) (r : Except Nat (Tk × Nat)) (hr : TR (L.drop k) r) :
 Calls Tryz.prog 103 #[.slice (some ⟨b, o, none⟩) n cap, .int .i64 k] w fun e w' => TokRes r k e /\ Below w.heap.size w w' := by
 have HN : Hid (n = L.length) := hn
 clear hn
 obtain ⟨x, hx⟩ : ∃ x, x = L[k]'(HN.out ▸ hk) := ⟨_, rfl⟩
 have hcell := hA.2 k (HN.out ▸ hk)
 rw [<- hx] at hcell
 have HD : Hid (L.drop k = x :: L.drop (k + 1)) := by rw [hx]; exact List.drop_eq_getElem_cons _
 clear hx
 have hb := hA.1
 have hcl : cl x = 7 \/ cl x = 6 \/ cl x = 4 \/ cl x = 12 \/ cl x = 8 \/ cl x = 0 := by have := cl_cases x; omega
 rcases hcl with hcl | hcl | hcl | hcl | hcl | hcl
 all_goals
  go_enter Tryz.func103, Tryz.ntmps103
  go_wp2_with (first
   | (go_at_call 129; refine (cls_any _ _).mono ?_; rintro e w' ⟨rfl, rfl⟩)
   | (go_at_call 132; refine (num_at (r := r) (hA.alloc _) HN.out hc hm hk (by rw [HD.out] at hr ⊢; exact tr_num hcl hr)).mono ?_; rintro e u ⟨hR, hb2⟩; obtain ⟨K, A, V, S, Z, E, rfl⟩ := hR.form; have hg := (hb2.block w.heap.size (by simp)).trans (heap_alloc_last _ _))
   | (go_at_call 133; refine (name_at (r := r) (hT.alloc _) (hA.alloc _) HN.out hc hm hk (by rw [HD.out] at hr ⊢; exact tr_name hcl hr)).mono ?_; rintro e u ⟨hR, hb2⟩; obtain ⟨K, A, V, S, Z, E, rfl⟩ := hR.form; have hg := (hb2.block w.heap.size (by simp)).trans (heap_alloc_last _ _))
   | (go_at_call 134; refine (sign_at (r := r) (hT.alloc _) (hA.alloc _) HN.out hc hm hk (by rw [HD.out] at hr ⊢; exact tr_sign (by omega) (by omega) hr)).mono ?_; rintro e u ⟨hR, hb2⟩; obtain ⟨K, A, V, S, Z, E, rfl⟩ := hR.form; have hg := (hb2.block w.heap.size (by simp)).trans (heap_alloc_last _ _))
   | (refine wpList_store_tok rfl _ _ rfl w.heap.size K A V S rfl rfl _ hg rfl ?_))
  refine bodyPost_ret (v := .tuple #[.agg #[.int .i64 K, .int .i64 A, .int .i64 V, .string S], .int .i64 Z, .int .i64 E]) ?_ rfl ?_
  ·exact results_tok Tryz.results103 _ _ w.heap.size 163 _ (0, 0) _ _ rfl rfl rfl (setRow_heap _ _ _ _ _ _ hg) rfl
  exact ⟨hR, below_setRow (((Below.refl _ _).alloc (Nat.le_refl _) _).trans (hb2.mono (by simp))) (Nat.le_refl _) _⟩
def tc (t : T) : List Value := [.int .i64 t.kind, .int .i64 t.pos, .int .i64 t.val, .string (bs t.name)]
def tcs (ts : List T) : List Value := ts.flatMap tc
structure Own (w : World) (B : Nat) (v : Value) (ts : List T) : Prop where
 out : w.ownsRow B 163 4 v ts.length (tcs ts)
theorem tcs_snoc (ts : List T) (t : T) : tcs (ts ++ [t]) = tcs ts ++ tc t := by simp [tcs]
theorem cell_four_new (w : World) (a b c d : Value) (t : TypeId) : ∀ j u, [a, b, c, d][j]? = some u -> (w.alloc (.cells #[a, b, c, d] t)).cell? ((⟨w.heap.size, 0, none⟩ : Addr).add j) = some u := by
 intro j u hj
 match j, hj with
 | 0, hj => simp at hj; subst hj; simp [Addr.add]
 | 1, hj => simp at hj; subst hj; simp [Addr.add]
 | 2, hj => simp at hj; subst hj; simp [Addr.add]
 | 3, hj => simp at hj; subst hj; simp [Addr.add]
 | j + 4, hj => simp at hj
theorem take_pos {l : List UInt8} {p : UInt8 -> Bool} {x : UInt8} (hp : p x = true) : 0 < ((x :: l).takeWhile p).length := by simp [hp]
theorem tk_ok {l : List UInt8} {t m} (h : tk l = .ok (t, m)) : 0 < m /\ m <= l.length := by
 cases l with
 | nil => simp [tk] at h
 | cons x l =>
   by_cases h7 : cl x = 7
   ·have e := tr_num h7 ⟨h⟩
    rw [numS, ns_eq] at e
    have hp := take_pos (l := l) (p := isDg) (x := x) (by simp [isDg, h7])
    have hl := (List.takeWhile_prefix (p := isDg) (l := x :: l)).length_le
    cases hv : numVal (List.takeWhile isDg (x :: l)) with
    | none => rw [hv] at e; simp at e
    | some v => rw [hv] at e; simp at e; omega
   ·by_cases h6 : cl x = 6
    ·have e := tr_name h6 ⟨h⟩
     have hp := take_pos (l := l) (p := isNm) (x := x) (by simp [isNm, h6])
     have hl := (List.takeWhile_prefix (p := isNm) (l := x :: l)).length_le
     unfold nameR at e
     split at e
     ·cases e
     ·simp at e; omega
    ·have e := tr_sign h7 h6 ⟨h⟩
     have hb := bst_small (x :: l) 29 (by omega)
     unfold signR at e
     split at e
     ·cases e
     ·simp at e; omega
theorem tk_err {l : List UInt8} {e} (h : tk l = .error e) : e = 20 \/ e = 21 \/ e = 22 := by
 cases l with
 | nil => simp [tk] at h; omega
 | cons x l =>
   by_cases h7 : cl x = 7
   ·have e := tr_num h7 ⟨h⟩
    rw [numS] at e
    split at e <;> cases e
    simp
   ·by_cases h6 : cl x = 6
    ·have e := tr_name h6 ⟨h⟩
     unfold nameR at e
     split at e <;> cases e
     simp
    ·have e := tr_sign h7 h6 ⟨h⟩
     unfold signR at e
     split at e <;> cases e
     simp
structure LR (L : List UInt8) (j : Nat) (ts : List T) : Prop where
 out : ∀ ts' p e, Lexes j (L.drop j) ts' p e -> Lexes 0 L (ts ++ ts') p e
theorem LR.zero (L : List UInt8) : LR L 0 [] := ⟨fun ts' p e h => by simpa using h⟩
structure SK (L : List UInt8) (j R : Nat) (b : Bool) : Prop where
 out : j + (sk false (L.drop j)).1 = R /\ (sk false (L.drop j)).2 = b
theorem SK.eq {L j R b} (h : SK L j R b) : sk false (L.drop j) = (R - j, b) := by
 obtain ⟨h1, h2⟩ := h.out
 rw [<- h2, <- h1]; simp
theorem LR.bad {L j R ts} (h : LR L j ts) (hs : SK L j R false) : Lexes 0 L ts R 20 := by
 have := h.out _ _ _ (.bad (k := j) hs.eq)
 have e : j + (R - j) = R := by have := hs.out.1; omega
 rwa [e, List.append_nil] at this
theorem LR.fin {L j ts} (h : LR L j ts) (hj : j <= L.length) (hs : SK L j L.length true) : Lexes 0 L ts 0 0 := by
 have := h.out _ _ _ (.fin (k := j) (by rw [hs.eq]; simp))
 rwa [List.append_nil] at this
theorem LR.err {L j R ts e} (h : LR L j ts) (hs : SK L j R true) (hR : R < L.length) (ht : TR (L.drop R) (.error e)) : Lexes 0 L ts R e := by
 have e1 : j + (R - j) = R := by have := hs.out.1; omega
 have e2 : (L.drop j).drop (R - j) = L.drop R := by rw [List.drop_drop, e1]
 have := h.out _ _ _ (.err (k := j) hs.eq (by simp; omega) (by rw [e2]; exact ht.out))
 rwa [e1, List.append_nil] at this
theorem LR.tok {L j R ts t m} (h : LR L j ts) (hs : SK L j R true) (hR : R < L.length) (ht : TR (L.drop R) (.ok (t, m))) : LR L (R + m) (ts ++ [⟨t.kind, R, t.val, t.name⟩]) := by
 have e1 : j + (R - j) = R := by have := hs.out.1; omega
 have e2 : (L.drop j).drop (R - j) = L.drop R := by rw [List.drop_drop, e1]
 refine ⟨fun ts' p e hl => ?_⟩
 have := h.out _ _ _ (.tok (k := j) hs.eq (by simp; omega) (by rw [e2]; exact ht.out) (by rw [e1, List.drop_drop, show j + (R - j + m) = R + m by omega]; exact hl))
 rw [e1] at this
 simpa using this
theorem blank_at {w : World} {ao : Option Addr} {cap n : Nat} {L : List UInt8} (hT : Txt w ao cap L) (hn : n = L.length) {k : Nat} (hk : k <= n) {R : Nat} {b : Bool} (hs : SK L k R b) :
 Calls Tryz.prog 102 #[.slice ao n cap, .int .i64 k] w fun e w' => e = .returned (.tuple #[.int .i64 (R : Int), .int .i64 (if b = true then 0 else 20)]) /\ w = w' := by
 subst hn
 have := blank_any w ao cap L hT k hk
 rw [hs.out.1, hs.out.2] at this
 exact this.mono fun e w' h => ⟨h.1, h.2.symm⟩
theorem info33' : (Tryz.prog.info? 163).map (fun i => (i.zero, i.size, i.bytes)) = some (some (.agg #[.int .i64 0, .int .i64 0, .int .i64 0, .string ⟨#[]⟩]), 4, 40) := by kernel_rfl
structure Said (w : World) (L : List UInt8) (e : Ending) (w' : World) : Prop where
 out : ∃ ts p er v, Lexes 0 L ts p er /\ e = .returned (.tuple #[v, .int .i64 (p : Int), .int .i64 (er : Int)]) /\ Own w' w.heap.size v ts /\ Below w.heap.size w w'
set_option maxRecDepth 10000 in
set_option maxHeartbeats 2000000 in
theorem tokens_any (w : World) (hTab : Tab w) (ao : Option Addr) (cap : Nat) (L : List UInt8) (hT : Txt w ao cap L) (hl : L.length <= 4194304) :
 Calls Tryz.prog 94 #[.slice ao L.length cap] w fun e w' => Said w L e w' := by
 obtain ⟨n, hn⟩ : ∃ n, n = L.length := ⟨_, rfl⟩
 rw [<- hn] at hl ⊢
 have HN : Hid (n = L.length) := hn
 clear hn
 have hc1 : n <= cap := by have := hT.1; have := HN.out; omega
 have hc2 := hT.2.1
 obtain ⟨i0, hi, hz0, hz1, hz2⟩ := info_parts info33'
 go_enter Tryz.func94, Tryz.ntmps94
 go_wp2
 go_loopw [5, 6] (fun v c wr => ∃ (j : Nat) (ts : List T), j <= n /\ ts.length <= j /\ c = .int .i64 j /\ Own wr w.heap.size v ts /\ LR L j ts /\ Below w.heap.size w wr) (fun _ c _ => n - (intOf c).toNat)
 case atStart => exact ⟨0, [], by omega, by simp, rfl, ⟨World.ownsRow_nil _ _ _ _⟩, LR.zero L, Below.refl _ _⟩
 case round =>
  obtain ⟨j, ts, hj, hts, rfl, hown, hLR, hbl⟩ := hrel
  have hT2 : Txt wr ao cap L := hT.below hbl (Nat.le_refl _)
  have hTab2 : Tab wr := hTab.below hbl hTab.1
  obtain ⟨R, b, HSK⟩ : ∃ R b, SK L j R b := ⟨_, _, rfl, rfl⟩
  have hRn : j <= R /\ R <= n := by
   have := sk_le false (L.drop j); have := HSK.out.1; have := HN.out; simp at *; omega
  obtain ⟨hR1, hR2⟩ := hRn
  cases b
  ·go_wp2_with (first | (go_at_call 102; refine (blank_at hT2 HN.out hj HSK).mono ?_; rintro e w' ⟨rfl, rfl⟩) | fail)
   go_ret3
   exact ⟨ts, R, 20, _, hLR.bad HSK, rfl, hown, hbl⟩
  ·by_cases hRe : R = n
   ·subst hRe
    go_wp2_with (first | (go_at_call 102; refine (blank_at hT2 HN.out hj HSK).mono ?_; rintro e w' ⟨rfl, rfl⟩) | fail)
    go_ret3
    exact ⟨ts, 0, 0, _, hLR.fin (by have := HN.out; omega) (by have := HN.out; subst this; exact HSK), rfl, hown, hbl⟩
   ·have hRl : R < n := by omega
    obtain ⟨b, o, rfl, hA⟩ := hT2.at (HN.out ▸ hRl)
    obtain ⟨r, HTR⟩ : ∃ r, TR (L.drop R) r := ⟨_, ⟨rfl⟩⟩
    cases r with
    | error er =>
      have her := tk_err HTR.out
      have her0 : ¬ (er : Int) = 0 := by omega
      have her1 : ((er : Int) == 0) = false := by simp; omega
      go_wp2_with (first
       | (go_at_call 102; refine (blank_at hT2 HN.out hj HSK).mono ?_; rintro e w' ⟨rfl, rfl⟩)
       | (go_at_call 103; refine (token_any _ (hTab2.alloc _) b o cap n L (hA.alloc _) HN.out hc1 hc2 R hRl _ HTR).mono ?_; rintro e u ⟨⟨z, rfl⟩, hb2⟩; have hg := (hb2.block wr.heap.size (by simp)).trans (heap_alloc_last _ _))
       | (refine wpList_store_tok rfl _ _ rfl wr.heap.size 0 0 0 .empty rfl rfl _ hg rfl ?_))
      go_ret3
      have hb3 : Below wr.heap.size wr (u.setRow wr.heap.size #[.int .i64 0, .int .i64 0, .int .i64 0, .string .empty]) := below_setRow (((Below.refl _ _).alloc (Nat.le_refl _) _).trans (hb2.mono (by simp))) (Nat.le_refl _) _
      exact ⟨ts, R, er, _, hLR.err HSK (HN.out ▸ hRl) HTR, rfl, ⟨own_keep hown.out hb3.block⟩, hbl.trans (hb3.mono hbl.size)⟩
    | ok p =>
      obtain ⟨t, m⟩ := p
      have hm := tk_ok HTR.out
      have hm1 := hm.1
      have hm2 : R + m <= n := by have := hm.2; simp at this; have := HN.out; omega
      clear hm
      go_wp2_with (first
       | (go_at_call 102; refine (blank_at hT2 HN.out hj HSK).mono ?_; rintro e w' ⟨rfl, rfl⟩)
       | (go_at_call 103; refine (token_any _ (hTab2.alloc _) b o cap n L (hA.alloc _) HN.out hc1 hc2 R hRl _ HTR).mono ?_; rintro e u ⟨hR, hb2⟩; obtain rfl := (hR : e = .returned (.tuple #[.agg #[.int .i64 t.kind, .int .i64 R, .int .i64 t.val, .string (bs t.name)], .int .i64 ((R + m : Nat) : Int), .int .i64 0])); have hg := (hb2.block wr.heap.size (by simp)).trans (heap_alloc_last _ _))
       | (refine wpList_store_tok rfl _ _ rfl wr.heap.size t.kind R t.val (bs t.name) rfl rfl _ hg rfl ?_
          have hg2 := setRow_heap _ _ _ #[.int .i64 t.kind, .int .i64 R, .int .i64 t.val, .string (bs t.name)] _ _ hg
          have hb3 : Below wr.heap.size wr (u.setRow wr.heap.size #[.int .i64 t.kind, .int .i64 R, .int .i64 t.val, .string (bs t.name)]) := below_setRow (((Below.refl _ _).alloc (Nat.le_refl _) _).trans (hb2.mono (by simp))) (Nat.le_refl _) _
          obtain ⟨u2, hu2⟩ : ∃ u2, u2 = u.setRow wr.heap.size #[.int .i64 t.kind, .int .i64 R, .int .i64 t.val, .string (bs t.name)] := ⟨_, rfl⟩
          rw [<- hu2] at hg2 hb3 ⊢
          clear hu2 hg hb2)
       | (refine wpList_load_row rfl 163 _ rfl wr.heap.size rfl 163 _ (0, 0) _ hg2 Tryz.underlying163 rfl info33 ?_)
       | (at_builtin; refine wpList_append_own _ rfl _ _ 158 rfl w.heap.size 163 i0 _ 4 40 Tryz.underlying158 hi hz0 hz1 hz2 rfl (by decide) _ ts.length (tcs ts) rfl ((own_keep hown.out hb3.block).alloc _) ⟨u2.heap.size, 0, none⟩ 1 1 [.int .i64 t.kind, .int .i64 R, .int .i64 t.val, .string (bs t.name)] rfl rfl (cell_four_new _ _ _ _ _ _) (fun x hx => by simp at hx; rcases hx with rfl | rfl | rfl | rfl <;> rfl) (by unfold maxLen; omega) (by omega) (by have := hbl.size; have := hb3.size; simp; omega) ?_; intro v' w3 hown' hgrow3 hnil3))
      have hb4 : Below w.heap.size w w3 := Below.grown ((hbl.trans (hb3.mono hbl.size)).alloc (by have := hbl.size; have := hb3.size; omega) _) hgrow3 (by have := hbl.size; have := hb3.size; simp; omega) (fun k hk => (own_block hown.out hk).1)
      have hown4 : Own w3 w.heap.size v' (ts ++ [⟨t.kind, R, t.val, t.name⟩]) := ⟨by rw [tcs_snoc, List.length_append]; exact hown'⟩
      clear hown' hgrow3 hnil3
      go_roundw
      case rel => exact ⟨R + m, ts ++ [⟨t.kind, R, t.val, t.name⟩], hm2, by simp; omega, by go_num, hown4, hLR.tok HSK (HN.out ▸ hRl) HTR, hb4⟩
      case measure => simp [intOf]; omega
end Go.Proofs.YtegoemeefmjnoaaGreatDoor
namespace Go.Proofs.YtegoemeefmjnoaaGreatDoor
open Go.ChangeShapes Go.WideShapes Go.ChangeAt Go.RowKit Go.Maps
def nmOk (s : List UInt8) : Bool := decide (s.length <= 64) && decide ((s.head?.map cl) = some 6) && s.all isNm && !(WORDS.contains s)
theorem sk_name {s : List UInt8} (h : s.head?.map cl = some 6) : sk false s = (0, true) := by
 cases s with
 | nil => simp at h
 | cons c l =>
   simp at h
   have : c ≠ 47 := by rintro rfl; revert h; decide
   simp [sk, h, this]
theorem takeWhile_all {p : UInt8 -> Bool} : ∀ {l : List UInt8}, l.all p = true -> l.takeWhile p = l
 | [], _ => rfl
 | c :: l, h => by simp at h; simp [h.1]; exact takeWhile_all (by simpa using h.2)
theorem findIdx_none {s : List UInt8} (h : WORDS.contains s = false) : WORDS.findIdx? (· == s) = none := by
 rw [List.findIdx?_eq_none_iff]
 intro x hx
 by_cases e : x = s
 ·subst e; simp [hx] at h
 ·simp [e]
theorem contains_none {s : List UInt8} (h : WORDS.findIdx? (· == s) = none) : WORDS.contains s = false := by
 rw [List.findIdx?_eq_none_iff] at h
 rw [<- Bool.not_eq_true]
 intro hc
 have := h s (by simpa using hc)
 simp at this
theorem nmOk_lex {s : List UInt8} (h : nmOk s = true) : Lexes 0 s [⟨1, 0, 0, s⟩] 0 0 := by
 simp only [nmOk, Bool.and_eq_true, decide_eq_true_eq, Bool.not_eq_true'] at h
 obtain ⟨⟨⟨h1, h2⟩, h3⟩, h4⟩ := h
 have hne : s ≠ [] := by rintro rfl; simp at h2
 have hl : 0 < s.length := List.length_pos_iff.2 hne
 have ht : tk (s.drop 0) = .ok (⟨1, 0, s⟩, s.length) := by
  cases s with
  | nil => simp at hne
  | cons c l =>
    simp at h2
    have e1 : (c :: l).takeWhile isNm = c :: l := takeWhile_all h3
    simp only [List.drop_zero]
    simp only [tk]
    rw [if_neg (by omega), if_pos h2, e1, if_neg (by omega)]
    simp only [nameTk, findIdx_none h4]
 have := Lexes.tok (k := 0) (l := s) (n := 0) (t := ⟨1, 0, s⟩) (m := s.length) (ts := []) (p := 0) (e := 0) (sk_name h2) hl ht (Lexes.fin (by simp [sk]))
 simpa using this
theorem lex_nmOk {s : List UInt8} {t : T} {p e : Nat} (hl : s.length <= 64) (h : Lexes 0 s [t] p e) (hn : t.name = s) : nmOk s = true := by
 obtain ⟨n, tt, m, h1, h2, h3, rfl, h4⟩ := h
 ·simp at hn
  have hne : s ≠ [] := by rintro rfl; simp at h2
  generalize hd : s.drop n = d at h3
  cases d with
  | nil => simp [tk] at h3
  | cons c l =>
    simp only [tk] at h3
    split at h3
    ·split at h3
     ·cases h3
     ·cases h3; exact absurd hn.symm hne
    ·split at h3
     ·rename_i h7 h6
      split at h3
      ·cases h3
      ·simp at h3
       have h5 := h3.1
       unfold nameTk at h5
       split at h5
       ·subst h5; exact absurd hn.symm hne
       ·rename_i hidx
        subst h5
        simp at hn
        have hlen := (List.takeWhile_prefix (p := isNm) (l := c :: l)).length_le
        have e0 : (c :: l).length = s.length - n := by rw [<- hd]; simp
        have hs : ((c :: l).takeWhile isNm).length = s.length := by rw [hn]
        have hn0 : n = 0 := by omega
        subst hn0
        simp at hd
        rw [<- hd] at hn hidx
        have hall : s.all isNm = true := by rw [<- hn]; exact List.all_takeWhile
        simp only [nmOk, Bool.and_eq_true, decide_eq_true_eq, Bool.not_eq_true']
        exact ⟨⟨⟨hl, by rw [hd]; simp [h6]⟩, hall⟩, contains_none (by rw [hn] at hidx; exact hidx)⟩
     ·split at h3
      ·cases h3
      ·cases h3; exact absurd hn.symm hne
structure TokV (w : World) (ao : Option Addr) (ts : List T) : Prop where
 out : ts ≠ [] -> ∃ g, ao = some ⟨g, 0, none⟩ /\ g < w.heap.size /\ ∀ i (h : i < ts.length), w.cell? ⟨g, i * 4, none⟩ = some (.int .i64 ts[i].kind) /\ w.cell? ⟨g, i * 4 + 1, none⟩ = some (.int .i64 ts[i].pos) /\ w.cell? ⟨g, i * 4 + 2, none⟩ = some (.int .i64 ts[i].val) /\ w.cell? ⟨g, i * 4 + 3, none⟩ = some (.string (bs ts[i].name))
theorem tcs_at (ts : List T) : ∀ i (h : i < ts.length) (j : Nat), j < 4 -> (tcs ts)[i * 4 + j]? = (tc ts[i])[j]? := by
 induction ts with
 | nil => intro i h; simp at h
 | cons t ts ih =>
   intro i h j hj
   have e : tcs (t :: ts) = tc t ++ tcs ts := by simp [tcs]
   rw [e]
   cases i with
   | zero => rw [List.getElem?_append_left (by simp [tc]; omega)]; simp
   | succ i =>
     rw [List.getElem?_append_right (by simp [tc]; omega)]
     have := ih i (by simpa using h) j hj
     rw [show (i + 1) * 4 + j - (tc t).length = i * 4 + j by simp [tc]; omega, this]
     simp
theorem Own.view {w B v ts} (h : Own w B v ts) : ∃ ao cap, v = .slice ao ts.length cap /\ ts.length <= cap /\ cap <= 9223372036854775807 /\ TokV w ao ts := by
 have hh := h.out
 rcases hh.2 with ⟨rfl, hn⟩ | ⟨g, cap, cur, rfl, e2, e3, e4, e5, e6, e7⟩
 ·have : ts = [] := List.length_eq_zero_iff.1 hn
  subst this
  exact ⟨none, 0, rfl, by simp, by omega, ⟨fun h => absurd rfl h⟩⟩
 ·refine ⟨_, cap, rfl, e4, e5, ⟨fun _ => ⟨g, rfl, (gl e3), fun i hi => ?_⟩⟩⟩
  have hc : ∀ j, j < 4 -> w.cell? ⟨g, i * 4 + j, none⟩ = (tc ts[i])[j]? := by
   intro j hj
   have h1 := tcs_at ts i hi j hj
   rw [<- e7, List.getElem?_take, if_pos (by omega)] at h1
   have h2 : (tc ts[i])[j]? = some ((tc ts[i])[j]'(by simp [tc]; omega)) := List.getElem?_eq_getElem _
   rw [h2] at h1 ⊢
   exact cell_arr e3 (by rw [<- h1]; simp)
  exact ⟨hc 0 (by omega), hc 1 (by omega), hc 2 (by omega), hc 3 (by omega)⟩
theorem TokV.below {w w' ao ts B} (h : TokV w ao ts) (hb : Below B w w') (hB : w.heap.size <= B) : TokV w' ao ts := ⟨fun hn => by
 obtain ⟨g, e, hg, hc⟩ := h.out hn
 have hs := hb.size
 refine ⟨g, e, by omega, fun i hi => ?_⟩
 obtain ⟨a, b, c, d⟩ := hc i hi
 rw [hb.cell (p := ⟨g, _, none⟩) (by show g < B; omega), hb.cell (p := ⟨g, _, none⟩) (by show g < B; omega), hb.cell (p := ⟨g, _, none⟩) (by show g < B; omega), hb.cell (p := ⟨g, _, none⟩) (by show g < B; omega)]
 exact ⟨a, b, c, d⟩⟩
theorem tokens_at (w : World) (hTab : Tab w) (ao : Option Addr) (cap n : Nat) (L : List UInt8) (hn : n = L.length) (hT : Txt w ao cap L) (hl : n <= 4194304) :
 Calls Tryz.prog 94 #[.slice ao n cap] w fun e w' => Said w L e w' := by
 subst hn; exact tokens_any w hTab ao cap L hT hl
theorem Txt.of_at {w b o cap L} (h : At w b o L) (h1 : L.length <= cap) (h2 : cap <= 9223372036854775807) : Txt w (some ⟨b, o, none⟩) cap L := ⟨h1, h2, fun _ => ⟨b, o, rfl, h⟩⟩
theorem conv_bytes (w : World) (S : List UInt8) (s : ByteArray) (hs : s = bs S) (hl : S.length <= 4194304) : ∃ c w', (convert 9 161 (.string s)).run Tryz.prog w = .ok (.slice (some ⟨w.heap.size, 0, none⟩) S.length c) w' /\ Below w.heap.size w w' /\ At w' w.heap.size 0 S /\ S.length <= c /\ c <= 9223372036854775807 := by
 subst hs
 refine ⟨_, _, Lib.run_convert_string_bytes (P := Tryz.prog) w 9 161 5 (bs S) Tryz.underlying9 Tryz.underlying161 Tryz.underlying5 |>.trans (by rw [bs_size]), ?_, ?_, ?_, ?_⟩
 ·exact ⟨rfl, rfl, rfl, by rw [Lib.bytesWorld_size]; omega, fun k hk => Lib.bytesWorld_at_old w _ _ k hk⟩
 ·refine ⟨by rw [Lib.bytesWorld_size]; omega, fun i hi => ?_⟩
  have := Lib.bytesWorld_cell w 5 (bs S) i (by rw [bs_size]; exact hi)
  rw [Nat.zero_add, this]
  simp [bs, List.getD, hi]
 ·exact grownCap_ge _ _ _ _
 ·exact grownCap_le_maxLen _ _ _ _ (by unfold maxLen; omega)
structure NmR (S : List UInt8) (ts : List T) (p e : Nat) : Prop where
 out : Lexes 0 S ts p e
theorem NmR.one {S ts p e} (h : NmR S ts p e) (hl : S.length <= 64) (h1 : ts.length = 1) : nmOk S = decide (((ts.map T.name).getD 0 []) = S) := by
 match ts, h, h1 with
 | [t], h, _ =>
   simp only [List.map_cons, List.map_nil, List.getD_cons_zero]
   by_cases e : t.name = S
   ·rw [lex_nmOk hl h.out e]; simp [e]
   ·rw [show decide (t.name = S) = false by simp [e], <- Bool.not_eq_true]
    intro hk
    have := (nmOk_lex hk).one h.out
    have := this.1
    simp at this
    exact e (by rw [<- this])
theorem NmR.not {S ts p e} (h : NmR S ts p e) (h1 : ts.length ≠ 1) : nmOk S = false := by
 rw [<- Bool.not_eq_true]
 intro hk
 have := ((nmOk_lex hk).one h.out).1
 rw [<- this] at h1
 simp at h1
theorem nmOk_long {S : List UInt8} (h : 64 < S.length) : nmOk S = false := by
 have : ¬ S.length <= 64 := by omega
 simp [nmOk, this]
set_option maxRecDepth 10000 in
set_option maxHeartbeats 1000000 in
theorem fits_any (w : World) (hTab : Tab w) (S : List UInt8) : Calls Tryz.prog 76 #[.string (bs S)] w fun e w' => e = .returned (.bool (nmOk S)) /\ Below w.heap.size w w' := by
 have hsz := bs_size S
 obtain ⟨s, hs⟩ : ∃ s, s = bs S := ⟨_, rfl⟩
 obtain ⟨n, hn⟩ : ∃ n, n = S.length := ⟨_, rfl⟩
 obtain ⟨R, hR⟩ : ∃ R, R = nmOk S := ⟨_, rfl⟩
 rw [<- hs, <- hn] at hsz
 rw [<- hs, <- hR]
 have HS : Hid (s = bs S /\ n = S.length /\ R = nmOk S) := ⟨hs, hn, hR⟩
 by_cases hl : n <= 64
 ·obtain ⟨c, w1, hcv, hb1, hA, hc1, hc2⟩ := conv_bytes w S s hs (by omega)
  rw [<- hn] at hcv hc1
  clear hs hn hR
  have hTab1 := hTab.below hb1 hTab.1
  have hT1 := Txt.of_at hA (by have := HS.out.2.1; omega) hc2
  have HT : Hid (Tab w1 /\ Txt w1 (some ⟨w.heap.size, 0, none⟩) c S) := ⟨hTab1, hT1⟩
  clear hA hTab1 hT1 hTab
  go_enter Tryz.func76, Tryz.ntmps76
  go_wp2_with fail
  refine (tokens_at _ HT.out.1 _ c n S HS.out.2.1 HT.out.2 (by omega)).mono ?_
  rintro e w2 ⟨ts, p, ee, v, hLx, rfl, hown, hb2⟩
  obtain ⟨ao, cap, rfl, hv1, hv2, hv3⟩ := hown.view
  have HL : NmR S ts p ee := ⟨hLx⟩
  have hbb : Below w.heap.size w w2 := hb1.trans (hb2.mono hb1.size)
  clear hLx hown hb2 hb1 hcv
  by_cases hk : ts.length = 1
  ·have H1 : Hid (R = decide ((ts.map T.name).getD 0 [] = S)) := by
    show R = _
    rw [HS.out.2.2]; exact HL.one (by have := HS.out.2.1; omega) hk
   obtain ⟨g, rfl, hg, hcells⟩ := hv3.out (by intro e; simp [e] at hk)
   obtain ⟨_, _, _, p3⟩ := hcells 0 (by omega)
   obtain ⟨nm, hnm⟩ : ∃ nm, nm = bs (ts[0]'(by omega)).name := ⟨_, rfl⟩
   rw [<- hnm] at p3
   have HNM : Hid (nm = bs ((ts.map T.name).getD 0 [])) := by
    show nm = _
    rw [hnm]
    match ts, hk with
    | [t], _ => rfl
   clear hnm hcells
   rw [hk] at hv1 ⊢
   simp only [Nat.zero_mul, Nat.zero_add] at p3
   go_wp2_with fail
   go_ret
   refine ⟨ret_blL ?_, hbb⟩
   rw [H1.out, HNM.out, HS.out.1, bs_toList, bs_toList]
   rw [Bool.eq_iff_iff]; simp
  ·have H1 : Hid (R = false) := by
    show R = _
    rw [HS.out.2.2]; exact HL.not hk
   obtain ⟨k, hkk⟩ : ∃ k, k = ts.length := ⟨_, rfl⟩
   rw [<- hkk] at hk hv1 ⊢
   have hki : ¬ (k : Int) = 1 := by omega
   clear hkk
   go_wp2_with fail
   go_ret
   exact ⟨ret_blL H1.out.symm, hbb⟩
 ·have hR' : Hid (R = false) := by show R = false; rw [hR]; exact nmOk_long (by omega)
  clear hs hn hR
  go_enter Tryz.func76, Tryz.ntmps76
  go_wp2
  go_ret
  exact ⟨ret_blL hR'.out.symm, Below.refl _ _⟩
end Go.Proofs.YtegoemeefmjnoaaGreatDoor
