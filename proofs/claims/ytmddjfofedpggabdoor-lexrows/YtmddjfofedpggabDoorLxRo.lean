import Derived.Test.YtmddjfofedpggabDoorLxU
import Derived.Lib.ConvBytes
set_option linter.unusedVariables false
namespace Go.Proofs.YtmddjfofedpggabDoor
open Go.ChangeShapes Go.WideShapes Go.ChangeAt Go.RowKit

theorem twSelf {p : UInt8 → Bool} : ∀ {S : List UInt8}, (∀ c ∈ S, p c = true) → S.takeWhile p = S
  | [], _ => rfl
  | c :: S, h => by rw [List.takeWhile_cons, if_pos (h c (by simp)), twSelf (fun x hx => h x (by simp [hx]))]

structure RowN (x : UInt8) (N : Nat) : Prop where
  let6 : cl x = 6
  pos : 0 < N
def rowS (x : UInt8) (N : Nat) : List UInt8 := List.replicate N x
theorem rowS_cons {x : UInt8} {N : Nat} (h : RowN x N) : ∃ l, rowS x N = x :: l := by
  obtain ⟨M, rfl⟩ : ∃ M, N = M + 1 := ⟨N - 1, by have := h.pos; omega⟩
  exact ⟨List.replicate M x, rfl⟩
theorem rowS_tk {x : UInt8} {N : Nat} (h : RowN x N) : tk (rowS x N) = if 64 < N then .error 21 else .ok (nameTk (rowS x N), N) := by
  have hall : (rowS x N).takeWhile isNm = rowS x N := twSelf (fun c hc => by have := List.eq_of_mem_replicate hc; subst this; simp [isNm, h.let6])
  have hlen : (rowS x N).length = N := by simp [rowS]
  obtain ⟨l, hl⟩ := rowS_cons h
  rw [hl] at hall hlen ⊢
  rw [tk, if_neg (by have := h.let6; omega), if_pos h.let6, hall, hlen]
theorem rowS_sk {x : UInt8} {N : Nat} (h : RowN x N) : sk false (rowS x N) = (0, true) := by
  obtain ⟨l, hl⟩ := rowS_cons h
  rw [hl]
  have := h.let6
  exact sk_ff (by omega) (by rintro ⟨rfl, _⟩; rw [cl47] at this; omega)
theorem tk59 : tk [59] = .ok (⟨47, 0, []⟩, 1) := by kernel_rfl

theorem row_first (x : UInt8) (N : Nat) (ts p e) (h : Lexes 1 (32 :: rowS x N) ts p e) : Lexes 0 (59 :: 32 :: rowS x N) (⟨47, 0, 0, []⟩ :: ts) p e := by
  have hY : Blk (32 :: rowS x N) := .cons (.inr cls32)
  have e1 := tk_ext (l := [59]) (Y := 32 :: rowS x N) (q := 1) (by simp) hY (fun t m h => by rw [tk59] at h; cases h; omega) (fun e h => by rw [tk59] at h; cases h)
  have e2 : tk (59 :: 32 :: rowS x N) = .ok (⟨47, 0, []⟩, 1) := e1.trans tk59
  exact Lexes.tok (k := 0) (n := 0) (m := 1) (t := ⟨47, 0, []⟩) (sk_ff (by decide) (by rintro ⟨h, _⟩; revert h; decide)) (by simp) e2 h
theorem row_long {x : UInt8} {N : Nat} (h : RowN x N) (h64 : 64 < N) : Lexes 0 (59 :: 32 :: rowS x N) [⟨47, 0, 0, []⟩] 2 21 := by
  refine row_first x N [] 2 21 ?_
  have hl : (rowS x N).length = N := by simp [rowS]
  exact Lexes.err (k := 1) (n := 1) (by rw [sk_fb (.inr cls32), rowS_sk h]) (by simp [hl]; omega) (by show tk (rowS x N) = _; rw [rowS_tk h, if_pos h64])
theorem row_short {x : UInt8} {N : Nat} (h : RowN x N) (h64 : ¬ 64 < N) : Lexes 0 (59 :: 32 :: rowS x N) [⟨47, 0, 0, []⟩, ⟨(nameTk (rowS x N)).kind, 2, (nameTk (rowS x N)).val, (nameTk (rowS x N)).name⟩] 0 0 := by
  refine row_first x N _ 0 0 ?_
  have hl : (rowS x N).length = N := by simp [rowS]
  have hp := h.pos
  refine Lexes.tok (k := 1) (n := 1) (m := N) (t := nameTk (rowS x N)) (by rw [sk_fb (.inr cls32), rowS_sk h]) (by simp [hl]; omega) (by show tk (rowS x N) = _; rw [rowS_tk h, if_neg h64]) ?_
  refine .fin ?_
  rw [List.drop_of_length_le (by simp [hl]; omega)]; rfl
theorem nameTk_or (S : List UInt8) : (nameTk S).name = S ∨ 2 < (nameTk S).kind := by
  unfold nameTk
  cases WORDS.findIdx? (· == S) with
  | none => exact .inl rfl
  | some i => right; show (2 : Int) < 10 + (i : Int); omega

def numT (z v : Nat) : List UInt8 := List.replicate z 48 ++ dec v
theorem numT_dg (z v : Nat) : ∀ c ∈ numT z v, cl c = 7 := by
  intro c hc
  rcases List.mem_append.1 hc with h | h
  · have := List.eq_of_mem_replicate h; subst this; decide
  · exact dec_dg v c h
theorem numT_ne (z v : Nat) : numT z v ≠ [] := by
  intro e; have := (List.append_eq_nil_iff.1 e).2; exact dec_ne v this
theorem num_lex (D : List UInt8) (hd : ∀ c ∈ D, cl c = 7) (hn : D ≠ []) : (numVal D = none → Lexes 0 (9 :: D) [] 1 22) ∧ (∀ v : Nat, numVal D = some v → Lexes 0 (9 :: D) [⟨2, 1, v, []⟩] 0 0) := by
  cases D with
  | nil => exact absurd rfl hn
  | cons c l =>
    have h7 : cl c = 7 := hd c (by simp)
    have hall : (c :: l).takeWhile isDg = c :: l := twSelf (fun x hx => by simp [isDg, hd x hx])
    have hs : sk false (9 :: c :: l) = (1, true) := by
      rw [sk_fb (.inr cls9), sk_ff (c := c) (l := l) (by omega) (by rintro ⟨rfl, _⟩; rw [cl47] at h7; omega)]
    constructor
    · intro hv
      exact Lexes.err (k := 0) (n := 1) hs (by simp) (by show tk (c :: l) = _; rw [tk, if_pos h7, hall, hv])
    · intro v hv
      refine Lexes.tok (k := 0) (n := 1) (m := (c :: l).length) (t := ⟨2, v, []⟩) hs (by simp) (by show tk (c :: l) = _; rw [tk, if_pos h7, hall, hv]) ?_
      refine .fin ?_
      rw [List.drop_of_length_le (by simp; omega)]; rfl
theorem numT_bad (z v : Nat) (hz : 0 < z) : Lexes 0 (9 :: numT z v) [] 1 22 := by
  refine (num_lex _ (numT_dg z v) (numT_ne z v)).1 ?_
  unfold numVal
  rw [if_pos]
  left
  obtain ⟨y, rfl⟩ : ∃ y, z = y + 1 := ⟨z - 1, by omega⟩
  refine ⟨?_, rfl⟩
  have := List.length_pos_iff.2 (dec_ne v)
  simp [numT]; omega
theorem numT_good (v : Nat) (hv : v ≤ 9223372036854775807) : Lexes 0 (9 :: numT 0 v) [⟨2, 1, v, []⟩] 0 0 := by
  refine (num_lex _ (numT_dg 0 v) (numT_ne 0 v)).2 v ?_
  exact dec_num hv
def BIG : List UInt8 := [57, 50, 50, 51, 51, 55, 50, 48, 51, 54, 56, 53, 52, 55, 55, 53, 56, 48, 56]
theorem big_lex : Lexes 0 BIG [] 0 22 := Lexes.err (k := 0) (n := 0) (by decide) (by decide) (by kernel_rfl)

/-- A string turned into bytes. -/
theorem conv_bytes (w : World) (S : List UInt8) (s : ByteArray) (hs : s = bs S) (hl : S.length ≤ 4194304) : ∃ c w', (convert 9 22 (.string s)).run Tryd.prog w = .ok (.slice (some ⟨w.heap.size, 0, none⟩) S.length c) w' ∧ Below w.heap.size w w' ∧ At w' w.heap.size 0 S ∧ S.length ≤ c ∧ c ≤ 9223372036854775807 := by
  subst hs
  refine ⟨_, _, Lib.run_convert_string_bytes (P := Tryd.prog) w 9 22 5 (bs S) Tryd.underlying9 Tryd.underlying22 Tryd.underlying5 |>.trans (by rw [bs_size]), ?_, ?_, ?_, ?_⟩
  · exact ⟨rfl, rfl, rfl, by rw [Lib.bytesWorld_size]; omega, fun k hk => Lib.bytesWorld_at_old w _ _ k hk⟩
  · refine ⟨by rw [Lib.bytesWorld_size]; omega, fun i hi => ?_⟩
    have := Lib.bytesWorld_cell w 5 (bs S) i (by rw [bs_size]; exact hi)
    rw [Nat.zero_add, this]
    simp [bs, List.getD, hi]
  · exact grownCap_ge _ _ _ _
  · exact grownCap_le_maxLen _ _ _ _ (by unfold maxLen; omega)

theorem constConv (w : World) (C : Array Value) (n : Nat) : (convert 22 22 (.slice (some ⟨w.heap.size, 0, none⟩) n n)).run Tryd.prog (w.alloc (.cells C 5)) = .ok (.slice (some ⟨w.heap.size, 0, none⟩) n n) (w.alloc (.cells C 5 (C.size, C.size + 1))) :=
  Joins.run_convert_bytes_const_at (P := Tryd.prog) w 22 5 C n n w.heap.size rfl Tryd.underlying22 Tryd.underlying5

theorem decimalAt2 (w : World) (n : Nat) (hn : n ≤ 9223372036854775807) (z : Int) (hz : z = n) (s : ByteArray) (hs : s = bs (dec n)) : Calls Tryd.prog 9 #[.int .i64 z] w fun e w' => e = .returned (.string s) ∧ Below w.heap.size w w' := by
  subst hz hs; exact decimal_any w n hn
theorem numT_len (z v : Nat) (hv : v ≤ 9223372036854775807) : (numT z v).length ≤ z + 19 := by
  have := dec_len v 19 (by omega) (by omega)
  simp [numT]; omega
structure NT (z v : Nat) (s : ByteArray) : Prop where
  out : s = bs (numT z v)
theorem NT.len {z v s} (h : NT z v s) (hv : v ≤ 9223372036854775807) (hz : z ≤ 3) : s.size ≤ 30 := by
  have := numT_len z v hv
  rw [h.out, bs_size]; omega
theorem NT.next {z v s} (h : NT z v s) : NT (z + 1) v ((⟨#[48]⟩ : ByteArray) ++ s) := ⟨by rw [h.out]; exact bs_cons 48 _⟩
theorem NT.tab {z v s} (h : NT z v s) : (⟨#[9]⟩ : ByteArray) ++ s = bs (9 :: numT z v) := by rw [h.out]; exact bs_cons 9 _

set_option maxRecDepth 10000 in
set_option maxHeartbeats 4000000 in
theorem lexRows_any (w : World) (hTab : Tab w) (z0 : Int) (c : UInt8) (d zr : Int) (hd : -9223372036854775808 ≤ d ∧ d ≤ 9223372036854775807) :
    Calls Tryd.prog 4 #[.int .i64 z0, .int .u8 c.toNat, .int .i64 d, .int .i64 zr] w fun e w' => e = .returned (.bool true) ∧ Below w.heap.size w w' := by
  obtain ⟨i0, hi0, hz0⟩ := and_small z0 127 (by omega)
  have hz0' : bits BinOp.and IntKind.i64 z0 127 = (i0 : Int) := hz0
  clear hz0
  obtain ⟨zc, hzc, hz1⟩ := and_small zr 3 (by omega)
  have hz1' : bits BinOp.and IntKind.i64 zr 3 = (zc : Int) := hz1
  clear hz1
  obtain ⟨N, hN⟩ : ∃ N, N = 1 + i0 := ⟨_, rfl⟩
  have hNI : (1 : Int) + (i0 : Int) = (N : Int) := by omega
  have hN1 : 1 ≤ N ∧ N ≤ 128 := by omega
  obtain ⟨hN1, hN2⟩ := hN1
  have hc8 : c.toNat < 256 := c.toNat_lt
  obtain ⟨x, hx⟩ : ∃ x : UInt8, x.toNat = 97 + c.toNat % 26 := ⟨UInt8.ofNat (97 + c.toNat % 26), by rw [UInt8.toNat_ofNat']; omega⟩
  have h6 : cl x = 6 := by have := cl_cases x; omega
  have HRN : RowN x N := ⟨h6, by omega⟩
  have HXC : Hid ((97 : Int) + (c.toNat : Int) % 26 = (x.toNat : Int)) := by show _ = _; rw [hx]; omega
  clear hN hx h6
  obtain ⟨hd1, hd2⟩ := hd
  obtain ⟨v, hv, hvv⟩ : ∃ v : Nat, v ≤ 9223372036854775807 ∧ ((0 ≤ d ∧ d = v) ∨ (d < 0 ∧ -(d + 1) = v)) := by
    by_cases h : 0 ≤ d
    · exact ⟨d.toNat, by omega, .inl ⟨h, by omega⟩⟩
    · exact ⟨(-(d + 1)).toNat, by omega, .inr ⟨by omega, by omega⟩⟩
  obtain ⟨s0, hs0⟩ : ∃ s0, s0 = bs (dec v) := ⟨_, rfl⟩
  have HS0 : Hid (s0 = bs (dec v) ∧ NT 0 v s0) := ⟨hs0, ⟨hs0⟩⟩
  clear hs0
  go_enter Tryd.func4, Tryd.ntmps4
  go_wp2_with fail
  go_loopw [9, 10] (fun v q wr => ∃ j : Nat, j ≤ N ∧ q = .int .i64 j ∧ OwnB wr w.heap.size v j (rowS x j) ∧ Below w.heap.size w wr) (fun _ q _ => N - (intOf q).toNat)
  case atStart => exact ⟨0, by omega, rfl, OwnB.nil _ _, Below.refl _ _⟩
  case round =>
    obtain ⟨j, hj, rfl, hown, hbl⟩ := hrel
    have hbs := hbl.size
    by_cases hlt : j < N
    · go_wp2_with (first | (at_builtin; refine wpList_append_bytes rfl _ _ rfl w.heap.size _ j _ rfl (hown.keep ((Below.refl _ _).alloc (Nat.le_refl _) _)) (some ⟨wr.heap.size, 0, none⟩) 1 1 [x] rfl rfl (Txt.of_at (alloc_at wr #[.int .u8 (97 + (c.toNat : Int) % 26)] 5 _ [x] (by rw [HXC.out]; rfl)) (by simp) (by omega)) (fun h => by cases h) (by omega) (by simp; omega) ?_; intro v2 w2 hown2 hb2 _) | fail)
      have hown3 : OwnB w2 w.heap.size v2 (j + 1) (rowS x (j + 1)) := by
        unfold rowS at hown2 ⊢; rw [← List.replicate_succ'] at hown2; exact hown2
      have hb3 : Below w.heap.size w w2 := (hbl.alloc hbs _).trans hb2
      clear hown2 hb2
      go_roundw
      case rel => exact ⟨j + 1, by omega, by go_num, hown3, hb3⟩
      case measure => simp [intOf]; omega
    · have hjN : j = N := by omega
      subst hjN
      obtain ⟨g1, c1, rfl, hT9⟩ : ∃ g1 c1, u9 = .slice (some ⟨g1, 0, none⟩) j c1 ∧ Txt wr (some ⟨g1, 0, none⟩) c1 (rowS x j) := by
        obtain ⟨a9, c9, e9, _, hT9⟩ := hown.view
        rcases hown.out.2 with ⟨_, h⟩ | ⟨g, cap, cur, e, _⟩
        · omega
        · rw [e] at e9; cases e9; exact ⟨g, _, e, hT9⟩
      have hrl : (rowS x j).length = j := by simp [rowS]
      have HRL : Hid ((rowS x j).length = j) := hrl
      clear hrl
      obtain ⟨i5, h51, h52, h53, h54⟩ := info_parts info5
      have hcc := constConv wr #[.int .u8 59, .int .u8 32] 2
      have hA2 : At (wr.alloc (.cells #[.int .u8 59, .int .u8 32] 5 (2, 3))) wr.heap.size 0 [59, 32] := alloc_at wr _ 5 _ [59, 32] rfl
      have hT10 := hT9.below ((Below.refl wr.heap.size wr).alloc (Nat.le_refl _) (.cells #[.int .u8 59, .int .u8 32] 5 (2, 3))) (Nat.le_refl _)
      have hbA : Below w.heap.size w (wr.alloc (.cells #[.int .u8 59, .int .u8 32] 5 (2, 3))) := hbl.alloc hbs _
      go_wp2_with (first | (at_builtin; refine wpList_append_grows _ rfl _ _ 22 rfl 5 i5 (.int .u8 0) 1 1 Tryd.underlying22 h51 h52 h53 h54 rfl (by decide) (some ⟨wr.heap.size, 0, none⟩) 2 2 (bvs [59, 32]) rfl (fun h => by cases h) rfl (fun b hb => by cases hb; exact hA2.news) ⟨g1, 0, none⟩ j c1 (bvs (rowS x j)) rfl (by rw [bvs_len, HRL.out]; omega) hT10.news (bvs_one _) (by omega) (by unfold maxLen; omega) (by omega) ?_; intro v3 w3 hown3 hgr3) | fail)
      have hX3 : OwnB w3 (wr.alloc (.cells #[.int .u8 59, .int .u8 32] 5 (2, 3))).heap.size v3 (2 + j) (59 :: 32 :: rowS x j) := ⟨by simp [HRL.out]; omega, by
        have e : bvs (59 :: 32 :: rowS x j) = bvs [59, 32] ++ bvs (rowS x j) := by rw [← bvs_append]; rfl
        rw [e]; exact hown3⟩
      have hb3 : Below w.heap.size w w3 := hbA.grown hgr3 (by simp; omega) (fun k hk => by cases hk)
      have hb3r : Below wr.heap.size wr w3 := ((Below.refl _ _).alloc (Nat.le_refl _) _).grown hgr3 (by simp) (fun k hk => by cases hk)
      have hs3 := hb3r.size
      clear hown3 hgr3 hcc hA2 hbA hT10
      obtain ⟨a3, c3, rfl, _, hT3⟩ := hX3.view
      refine (tokens_at _ (hTab.below hb3 hTab.1) a3 c3 _ (59 :: 32 :: rowS x j) hX3.len hT3 (by omega)).mono ?_
      rintro r w4 ⟨ts, p, e, v4, hL, rfl, hown4, hb4⟩
      have hs4 := hb4.size
      have hb4w : Below w.heap.size w w4 := hb3.trans (hb4.mono (by omega))
      have hb4r : Below wr.heap.size wr w4 := hb3r.trans (hb4.mono (by omega))
      obtain ⟨a4, c4, rfl, q1, q2, hv4⟩ := hown4.view
      go_wp2_with fail
      refine (alive_any _ (hTab.below hb4w hTab.1)).mono ?_
      rintro r w5 ⟨rfl, hb5⟩
      have hs5 := hb5.size
      have hb5w : Below w.heap.size w w5 := hb4w.trans (hb5.mono (by omega))
      have hb5r : Below wr.heap.size wr w5 := hb4r.trans (hb5.mono (by omega))
      have hv5 := hv4.below hb5 (Nat.le_refl _)
      have hT5 := hT9.below hb5r (Nat.le_refl _)
      by_cases h64 : 64 < j
      · obtain ⟨rfl, rfl, rfl⟩ := (row_long HRN h64).one hL
        have hl1 : ([(⟨47, 0, 0, []⟩ : T)]).length = 1 := rfl
        rw [hl1] at q1 ⊢
        clear hl1 hv5 hv4 hown4 hL
        rcases hvv with ⟨h3, h4⟩ | ⟨h3, h4⟩
        all_goals
          go_wp2_with (first | (go_at_call 8; refine (num_any _ _).mono ?_; rintro r w' ⟨rfl, rfl⟩) | fail)
          refine (decimalAt2 _ v hv _ (by omega) s0 HS0.out.1).mono ?_
          rintro r w6 ⟨rfl, hb6⟩
          have hs6 := hb6.size
          have hb6w : Below w.heap.size w w6 := hb5w.trans (hb6.mono (by have := hb5w.size; omega))
          go_wp2_with fail
          go_loop [15, 16] (fun t q => ∃ (jj : Nat) (s : ByteArray), jj ≤ zc ∧ q = .int .i64 jj ∧ t = .string s ∧ NT jj v s) (fun _ q => zc - (intOf q).toNat)
          case atStart => exact ⟨0, s0, by omega, rfl, rfl, HS0.out.2⟩
          case round =>
            obtain ⟨jj, s, hjj, rfl, rfl, HNT⟩ := hrel
            have hsz := HNT.len hv (by omega)
            by_cases hjl : jj < zc
            · go_wp2_with fail
              go_round
              case rel => exact ⟨jj + 1, _, by omega, by go_num, rfl, HNT.next⟩
              case measure => simp [intOf]; omega
            · have hjz : jj = zc := by omega
              subst hjz
              obtain ⟨c7, w7, hcv, hb7, hA7, hc7, hc7'⟩ := conv_bytes w6 (9 :: numT jj v) ((⟨#[9]⟩ : ByteArray) ++ s) HNT.tab (by have := numT_len jj v hv; simp; omega)
              obtain ⟨M, hM⟩ : ∃ M, M = (9 :: numT jj v).length := ⟨_, rfl⟩
              have hMl : M ≤ 100 := by have := numT_len jj v hv; rw [hM]; simp; omega
              rw [← hM] at hcv hc7
              have HM : Hid (M = (9 :: numT jj v).length) := hM
              clear hM
              have hs7 := hb7.size
              have hb7w : Below w.heap.size w w7 := hb6w.trans (hb7.mono (by have := hb6w.size; omega))
              go_wp2_with fail
              refine (tokens_at _ (hTab.below hb7w hTab.1) _ c7 M (9 :: numT jj v) HM.out (Txt.of_at hA7 (by have := HM.out; omega) hc7') (by omega)).mono ?_
              rintro r w8 ⟨ts8, p8, e8, v8, hL8, rfl, hown8, hb8⟩
              have hs8 := hb8.size
              have hb8w : Below w.heap.size w w8 := hb7w.trans (hb8.mono (by have := hb7w.size; omega))
              obtain ⟨a8, c8, rfl, q8, q9, hv8⟩ := hown8.view
              by_cases hz : jj = 0
              · subst hz
                obtain ⟨rfl, rfl, rfl⟩ := (numT_good v hv).one hL8
                obtain ⟨g8, rfl, hg8, k8⟩ := hv8.out (by simp)
                have k80 := (k8 0 (by simp)).2.2.1
                simp only [List.getElem_cons_zero, Nat.zero_mul, Nat.zero_add] at k80
                have hl8 : ([(⟨2, 1, v, []⟩ : T)]).length = 1 := rfl
                rw [hl8] at q8 ⊢
                have hcc := constConv w8 #[.int .u8 57, .int .u8 50, .int .u8 50, .int .u8 51, .int .u8 51, .int .u8 55, .int .u8 50, .int .u8 48, .int .u8 51, .int .u8 54, .int .u8 56, .int .u8 53, .int .u8 52, .int .u8 55, .int .u8 55, .int .u8 53, .int .u8 56, .int .u8 48, .int .u8 56] 19
                clear k8 hv8 hown8 hcv hL8 hl8
                go_wp2_with fail
                refine (tokens_at _ ((hTab.below hb8w hTab.1).alloc _) _ 19 19 BIG rfl (Txt.of_at (alloc_at w8 _ 5 _ BIG rfl) (by decide) (by omega)) (by omega)).mono ?_
                rintro r w9 ⟨ts9, p9, e9, v9, hL9, rfl, hown9, hb9⟩
                obtain ⟨rfl, rfl, rfl⟩ := big_lex.one hL9
                have hb9r : Below w8.heap.size w8 w9 := ((Below.refl _ _).alloc (Nat.le_refl _) _).trans (hb9.mono (by simp))
                rw [← hb9r.cell (p := ⟨g8, 2, none⟩) hg8] at k80
                obtain ⟨a9, c9', rfl, _, _, _⟩ := hown9.view
                have hl9 : ([] : List T).length = 0 := rfl
                rw [hl9]
                clear hcc hown9 hb9 hL9
                go_wp2_with (first | (go_at_call 8; refine (num_any _ _).mono ?_; rintro r w' ⟨rfl, rfl⟩) | fail)
                go_ret
                exact ⟨rfl, hb8w.trans (hb9r.mono (by have := hb8w.size; omega))⟩
              · obtain ⟨rfl, rfl, rfl⟩ := (numT_bad jj v (by omega)).one hL8
                have hl8 : ([] : List T).length = 0 := rfl
                rw [hl8] at q8 ⊢
                clear hl8 hv8 hown8 hcv hL8
                go_wp2_with (first | (go_at_call 8; refine (num_any _ _).mono ?_; rintro r w' ⟨rfl, rfl⟩) | fail)
                go_ret
                exact ⟨rfl, hb8w⟩
      · obtain ⟨t, ht⟩ : ∃ t, t = nameTk (rowS x j) := ⟨_, rfl⟩
        have hLS := row_short HRN h64
        rw [← ht] at hLS
        have hor := nameTk_or (rowS x j)
        rw [← ht] at hor
        obtain ⟨rfl, rfl, rfl⟩ := hLS.one hL
        obtain ⟨g4, rfl, hg4, k4⟩ := hv5.out (by simp)
        have k41 := k4 1 (by simp)
        simp only [List.getElem_cons_succ, List.getElem_cons_zero, Nat.one_mul] at k41
        obtain ⟨d0, _, _, d3⟩ := k41
        obtain ⟨us, hus⟩ : ∃ us, us = bs t.name := ⟨_, rfl⟩
        rw [← hus] at d3
        obtain ⟨ns, hns⟩ : ∃ ns, ns = bs (rowS x j) := ⟨_, rfl⟩
        have hcv1 : ∀ q, (convert 22 9 (.slice (some ⟨g1, 0, none⟩) j c1)).run Tryd.prog (w5.drewN q) = .ok (.string ns) (w5.drewN q) := fun q => by
          rw [hns]; exact (hT5.drewN q).conv j HRL.out.symm
        have hdec : ((us.toList == ns.toList) = true) ∨ ((us.toList == ns.toList) = false ∧ (2 : Int) < t.kind) := by
          rw [hus, hns, bs_toList, bs_toList]
          rcases hor with h | h
          · left; simp [h]
          · by_cases he : t.name = rowS x j
            · left; simp [he]
            · right; exact ⟨by simp [he], h⟩
        have hl2 : ([(⟨47, 0, 0, []⟩ : T), ⟨t.kind, 2, t.val, t.name⟩]).length = 2 := rfl
        rw [hl2] at q1 ⊢
        clear hl2 k4 hv5 hv4 hown4 hL hLS hor ht hus hns
        have hdec2 := hdec
        rcases hdec with hdec | ⟨hdec, hk2⟩
        all_goals
          go_wp2_with fail
          go_quiet (first | (go_at_call 8; exact Calls.quiet_of_same ((num_any _ _).mono fun _ _ h => ⟨h.1, h.2.symm⟩)))
          rcases hvv with ⟨h3, h4⟩ | ⟨h3, h4⟩
          all_goals
            go_wp2_with (first | (go_at_call 8; refine (num_any _ _).mono ?_; rintro r w' ⟨rfl, rfl⟩) | fail)
            refine (decimalAt2 _ v hv _ (by omega) s0 HS0.out.1).mono ?_
            rintro r w6 ⟨rfl, hb6⟩
            have hs6 := hb6.size
            have hb6w : Below w.heap.size w w6 := (below_drewN hb5w _).trans (hb6.mono (by have := hb5w.size; simp; omega))
            go_wp2_with fail
            go_loop [15, 16] (fun t q => ∃ (jj : Nat) (s : ByteArray), jj ≤ zc ∧ q = .int .i64 jj ∧ t = .string s ∧ NT jj v s) (fun _ q => zc - (intOf q).toNat)
            case atStart => exact ⟨0, s0, by omega, rfl, rfl, HS0.out.2⟩
            case round =>
              obtain ⟨jj, s, hjj, rfl, rfl, HNT⟩ := hrel
              have hsz := HNT.len hv (by omega)
              by_cases hjl : jj < zc
              · go_wp2_with fail
                go_round
                case rel => exact ⟨jj + 1, _, by omega, by go_num, rfl, HNT.next⟩
                case measure => simp [intOf]; omega
              · have hjz : jj = zc := by omega
                subst hjz
                obtain ⟨c7, w7, hcv, hb7, hA7, hc7, hc7'⟩ := conv_bytes w6 (9 :: numT jj v) ((⟨#[9]⟩ : ByteArray) ++ s) HNT.tab (by have := numT_len jj v hv; simp; omega)
                obtain ⟨M, hM⟩ : ∃ M, M = (9 :: numT jj v).length := ⟨_, rfl⟩
                have hMl : M ≤ 100 := by have := numT_len jj v hv; rw [hM]; simp; omega
                rw [← hM] at hcv hc7
                have HM : Hid (M = (9 :: numT jj v).length) := hM
                clear hM
                have hs7 := hb7.size
                have hb7w : Below w.heap.size w w7 := hb6w.trans (hb7.mono (by have := hb6w.size; omega))
                go_wp2_with fail
                refine (tokens_at _ (hTab.below hb7w hTab.1) _ c7 M (9 :: numT jj v) HM.out (Txt.of_at hA7 (by have := HM.out; omega) hc7') (by omega)).mono ?_
                rintro r w8 ⟨ts8, p8, e8, v8, hL8, rfl, hown8, hb8⟩
                have hs8 := hb8.size
                have hb8w : Below w.heap.size w w8 := hb7w.trans (hb8.mono (by have := hb7w.size; omega))
                obtain ⟨a8, c8, rfl, q8, q9, hv8⟩ := hown8.view
                by_cases hz : jj = 0
                · subst hz
                  obtain ⟨rfl, rfl, rfl⟩ := (numT_good v hv).one hL8
                  obtain ⟨g8, rfl, hg8, k8⟩ := hv8.out (by simp)
                  have k80 := (k8 0 (by simp)).2.2.1
                  simp only [List.getElem_cons_zero, Nat.zero_mul, Nat.zero_add] at k80
                  have hl8 : ([(⟨2, 1, v, []⟩ : T)]).length = 1 := rfl
                  rw [hl8] at q8 ⊢
                  have hcc := constConv w8 #[.int .u8 57, .int .u8 50, .int .u8 50, .int .u8 51, .int .u8 51, .int .u8 55, .int .u8 50, .int .u8 48, .int .u8 51, .int .u8 54, .int .u8 56, .int .u8 53, .int .u8 52, .int .u8 55, .int .u8 55, .int .u8 53, .int .u8 56, .int .u8 48, .int .u8 56] 19
                  clear k8 hv8 hown8 hcv hL8 hl8
                  go_wp2_with fail
                  refine (tokens_at _ ((hTab.below hb8w hTab.1).alloc _) _ 19 19 BIG rfl (Txt.of_at (alloc_at w8 _ 5 _ BIG rfl) (by decide) (by omega)) (by omega)).mono ?_
                  rintro r w9 ⟨ts9, p9, e9, v9, hL9, rfl, hown9, hb9⟩
                  obtain ⟨rfl, rfl, rfl⟩ := big_lex.one hL9
                  have hb9r : Below w8.heap.size w8 w9 := ((Below.refl _ _).alloc (Nat.le_refl _) _).trans (hb9.mono (by simp))
                  rw [← hb9r.cell (p := ⟨g8, 2, none⟩) hg8] at k80
                  obtain ⟨a9, c9', rfl, _, _, _⟩ := hown9.view
                  have hl9 : ([] : List T).length = 0 := rfl
                  rw [hl9]
                  clear hcc hown9 hb9 hL9
                  go_wp2_with (first | (go_at_call 8; refine (num_any _ _).mono ?_; rintro r w' ⟨rfl, rfl⟩) | fail)
                  go_ret
                  exact ⟨rfl, hb8w.trans (hb9r.mono (by have := hb8w.size; omega))⟩
                · obtain ⟨rfl, rfl, rfl⟩ := (numT_bad jj v (by omega)).one hL8
                  have hl8 : ([] : List T).length = 0 := rfl
                  rw [hl8] at q8 ⊢
                  clear hl8 hv8 hown8 hcv hL8
                  go_wp2_with (first | (go_at_call 8; refine (num_any _ _).mono ?_; rintro r w' ⟨rfl, rfl⟩) | fail)
                  go_ret
                  exact ⟨rfl, hb8w⟩
end Go.Proofs.YtmddjfofedpggabDoor
