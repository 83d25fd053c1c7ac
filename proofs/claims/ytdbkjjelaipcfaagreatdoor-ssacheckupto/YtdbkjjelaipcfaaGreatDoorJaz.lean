import Derived.Test.YtdbkjjelaipcfaaGreatDoorJay
set_option linter.unusedVariables false
set_option linter.unusedSimpArgs false
namespace Go.Proofs.YtdbkjjelaipcfaaGreatDoor
open Go.ChangeShapes Go.WideShapes Go.ChangeAt Go.RowKit Go.Maps
def nArr : Array Value := (WORDS.map fun x => Value.string (bs x)).toArray
theorem nArr_at (i : Nat) (hi : i < 18) : nArr[i]? = some (.string (bs (WORDS.getD i []))) := by
 have hl : i < WORDS.length := hi
 simp [nArr, List.getD, List.getElem?_eq_getElem hl]
structure NWN (S : List UInt8) (j : Nat) (s : ByteArray) (R : Bool) : Prop where
 eq : s = bs S
 out : ∀ i, i < j -> WORDS.getD i [] ≠ S
 res : nmOk S = R
theorem NWN.hit {S j s R} (h : NWN S j s R) (hj : j < 18) (he : WORDS.getD j [] = S) : false = R := by
 rw [<- h.res]
 have : WORDS.contains S = true := by
  rw [List.contains_iff_mem, <- he]
  have hl : j < WORDS.length := hj
  simp only [List.getD, List.getElem?_eq_getElem hl, Option.getD_some]
  exact List.getElem_mem hl
 simp only [nmOk, this, Bool.not_true, Bool.and_false]
theorem NWN.miss {S s R} (h : NWN S 18 s R) : WORDS.contains S = false := by
 rw [<- Bool.not_eq_true, List.contains_iff_mem]
 intro hm
 obtain ⟨i, hi, he⟩ := List.mem_iff_getElem.1 hm
 refine h.out i hi ?_
 simp only [List.getD, List.getElem?_eq_getElem hi, Option.getD_some]
 exact he
theorem isNm_iff (c : UInt8) : isNm c = (decide (cl c = 7) || decide (cl c = 6)) := by simp [isNm]; rfl
structure NmS (S : List UInt8) (j : Nat) (R : Bool) : Prop where
 ok : ∀ i (h : i < S.length), i < j -> isNm S[i] = true
 fst : ∀ h : 0 < S.length, 0 < j -> cl S[0] = 6
 wd : WORDS.contains S = false
 res : nmOk S = R
theorem NmS.hit {S j R} (h : NmS S j R) (hj : j < S.length) (hf : isNm S[j] = false \/ (j = 0 /\ ¬ cl S[j] = 6)) : false = R := by
 rw [<- h.res]
 symm
 rw [<- Bool.not_eq_true]
 intro hn
 simp only [nmOk, Bool.and_eq_true, decide_eq_true_eq] at hn
 rcases hf with hf | ⟨rfl, hf⟩
 ·have := List.all_eq_true.1 hn.1.2 S[j] (List.getElem_mem hj)
  rw [hf] at this
  cases this
 ·have := hn.1.1.2
  cases S with
  | nil => simp at hj
  | cons a S => simp at this hf; exact hf this
theorem NmS.fin {S j R} (h : NmS S j R) (hj : S.length <= j) : decide (1 <= S.length /\ S.length <= 64) = R := by
 rw [<- h.res]
 have ha : S.all isNm = true := List.all_eq_true.2 fun x hx => by
  obtain ⟨i, hi, rfl⟩ := List.mem_iff_getElem.1 hx
  exact h.ok i hi (by omega)
 have hf := h.fst
 simp only [nmOk, ha, h.wd]
 cases S with
 | nil => simp
 | cons a S =>
   have := hf (by simp) (by simp at hj; omega)
   simp at this
   simp [this]
theorem NmS.more {S j R} (h : NmS S j R) (hj : j < S.length) (hf : cl S[j] = 6 \/ (0 < j /\ cl S[j] = 7)) : NmS S (j + 1) R :=
 ⟨fun i hi hlt => by
  rcases Nat.lt_succ_iff_lt_or_eq.1 hlt with h1 | rfl
  ·exact h.ok i hi h1
  ·rw [isNm_iff]; rcases hf with hf | ⟨_, hf⟩ <;> simp [hf],
  fun h0 _ => by
   rcases Nat.eq_zero_or_pos j with rfl | hp
   ·rcases hf with hf | ⟨h1, _⟩
    ·exact hf
    ·omega
   ·exact h.fst h0 hp, h.wd, h.res⟩
theorem bs_get9 (S : List UInt8) (k : Nat) (h : k < (bs S).size) : (bs S)[k] = S[k]'(by rw [bs_size] at h; exact h) := by
 simp [bs]
 rfl
set_option maxRecDepth 20000 in
set_option maxHeartbeats 4000000 in
theorem rName_any (w : World) (S : List UInt8) (s : ByteArray) (hs : s = bs S) (hsl : S.length <= 1000000000000000) (R : Bool) (hR : nmOk S = R) :
 Calls Tryz.prog 40 #[.string s] w fun e w' => e = .returned (.bool R) /\ Below w.heap.size w w' := by
 have hsz : s.size = S.length := by rw [hs, bs_size]
 obtain ⟨n, hn⟩ : ∃ n, n = S.length := ⟨_, rfl⟩
 rw [<- hn] at hsz hsl
 have HN : Hid (n = S.length) := hn
 have HS : NWN S 0 s R := ⟨hs, fun i hi => by omega, hR⟩
 clear hn hs hR
 go_enter Tryz.func40, Tryz.ntmps40
 go_wp2_with fail
 have hcg : ∀ {p c q a} {u v : World}, u = v -> Code.wp p c q a v -> Code.wp p c q a u := fun h => by subst h; exact id
 refine hcg (v := w.alloc (Obj.cells nArr 9)) (by kernel_rfl) ?_
 clear hcg
 have hgW : (w.alloc (.cells nArr 9)).heap[w.heap.size]? = some (.cells nArr 9 (0, 0)) := heap_alloc_last _ _
 have hB : Below w.heap.size w (w.alloc (.cells nArr 9)) := (Below.refl _ _).alloc (Nat.le_refl _) _
 obtain ⟨wl, hwl⟩ : ∃ wl, wl = w.alloc (.cells nArr 9) := ⟨_, rfl⟩
 rw [<- hwl] at hgW hB ⊢
 clear hwl
 go_loop [4] (fun v => ∃ j : Nat, j <= 18 /\ v = .int .i64 j /\ NWN S j s R) (fun v => 18 - (intOf v).toNat)
 case atStart => exact ⟨0, by omega, rfl, HS⟩
 case round =>
  obtain ⟨j, hj, rfl, HJ⟩ := hrel
  by_cases hlt : j < 18
  ·have hcl := cell_arr hgW (nArr_at j hlt)
   obtain ⟨y, hy⟩ : ∃ y, y = bs (WORDS.getD j []) := ⟨_, rfl⟩
   rw [<- hy] at hcl
   have HY : Hid (y = bs (WORDS.getD j [])) := hy
   clear hy
   have HG : Hid _ := hgW
   clear hgW
   by_cases he : (s.toList == y.toList) = true
   ·have HE : Hid (false = R) := by
     rw [HY.out, HJ.eq, bs_toList, bs_toList] at he
     exact HJ.hit hlt (by simpa using (beq_iff_eq.1 he).symm)
    go_wp2_with fail
    go_ret
    exact ⟨ret_bl HE.out, hB⟩
   ·have HE : NWN S (j + 1) s R := ⟨HJ.eq, by
     rw [HY.out, HJ.eq, bs_toList, bs_toList] at he
     intro i hi
     rcases Nat.lt_succ_iff_lt_or_eq.1 hi with h | rfl
     ·exact HJ.out i h
     ·intro e; exact he (by rw [e]; simp), HJ.res⟩
    go_wp2_with fail
    go_round
    case rel => exact ⟨j + 1, by omega, by go_num, HE⟩
    case measure => simp [intOf]; omega
  ·have hj : j = 18 := by omega
   subst hj
   have HW : Hid (WORDS.contains S = false) := HJ.miss
   have HQ : Hid _ := hgW
   clear hgW
   go_wp2_with fail
   go_loop [5] (fun v => ∃ j : Nat, j <= n /\ v = .int .i64 j /\ NmS S j R) (fun v => n - (intOf v).toNat)
   case atStart => exact ⟨0, by omega, rfl, ⟨fun i h hi => by omega, fun h hi => by omega, HW.out, HS.res⟩⟩
   case round =>
    obtain ⟨j, hj, rfl, HJ⟩ := hrel
    by_cases hlt : j < n
    ·obtain ⟨x, hx⟩ : ∃ x, x = S[j]'(by have := HN.out; omega) := ⟨_, rfl⟩
     have hgj : ∀ h : j < s.size, s[j]'h = x := fun h => by
      have hs := HS.eq
      subst hs
      rw [bs_get9, hx]
     have hb : x.toNat < 256 := x.toNat_lt
     have hc := cl_cases x
     have H1 : Hid (cl x = 6 -> NmS S (j + 1) R) := fun h => HJ.more (by have := HN.out; omega) (.inl (by rw [<- hx]; exact h))
     have H2 : Hid (0 < j -> cl x = 7 -> NmS S (j + 1) R) := fun h0 h => HJ.more (by have := HN.out; omega) (.inr ⟨h0, by rw [<- hx]; exact h⟩)
     have H3 : Hid (¬ cl x = 6 -> (j = 0 \/ ¬ cl x = 7) -> false = R) := fun h h' => HJ.hit (by have := HN.out; omega) (by
      rw [<- hx]
      rcases h' with h' | h'
      ·exact .inr ⟨h', h⟩
      ·left; rw [isNm_iff]; simp [h, h'])
     have HB : (NmS S (j + 1) R /\ ((97 <= x.toNat /\ x.toNat <= 122) \/ (65 <= x.toNat /\ x.toNat <= 90) \/ x.toNat = 95)) \/ (NmS S (j + 1) R /\ 0 < j /\ 48 <= x.toNat /\ x.toNat <= 57)
      \/ (false = R /\ (j = 0 /\ 48 <= x.toNat /\ x.toNat <= 57)) \/ (false = R /\ x.toNat < 48) \/ (false = R /\ 57 < x.toNat /\ ¬ (65 <= x.toNat /\ x.toNat <= 90) /\ ¬ (97 <= x.toNat /\ x.toNat <= 122) /\ x.toNat ≠ 95) := by
      by_cases h6 : cl x = 6
      ·exact .inl ⟨H1.out h6, by omega⟩
      ·by_cases h7 : cl x = 7
       ·rcases Nat.eq_zero_or_pos j with h0 | h0
        ·exact .inr (.inr (.inl ⟨H3.out h6 (.inl h0), h0, by omega, by omega⟩))
        ·exact .inr (.inl ⟨H2.out h0 h7, h0, by omega, by omega⟩)
       ·by_cases h48 : x.toNat < 48
        ·exact .inr (.inr (.inr (.inl ⟨H3.out h6 (.inr h7), h48⟩)))
        ·exact .inr (.inr (.inr (.inr ⟨H3.out h6 (.inr h7), by omega, by omega, by omega, by omega⟩)))
     clear H1 H2 H3 hc hx HW HJ
     rcases HB with ⟨HE, h | h | h⟩ | ⟨HE, h1, h2, h3⟩ | ⟨HE, h1, h2, h3⟩ | ⟨HE, h⟩ | ⟨HE, h1, h2, h3, h4⟩
     ·have HX : Hid _ := HE
      clear HE
      go_wp2_with fail
      go_round
      case rel => exact ⟨j + 1, by omega, by go_num, HX.out⟩
      case measure => simp [intOf]; omega
     ·have HX : Hid _ := HE
      clear HE
      go_wp2_with fail
      go_round
      case rel => exact ⟨j + 1, by omega, by go_num, HX.out⟩
      case measure => simp [intOf]; omega
     ·have HX : Hid _ := HE
      clear HE
      go_wp2_with fail
      go_round
      case rel => exact ⟨j + 1, by omega, by go_num, HX.out⟩
      case measure => simp [intOf]; omega
     ·have HX : Hid _ := HE
      clear HE
      have q9 : ((x.toNat : Int) == 95) = false := by rw [beq_eq_false_iff_ne]; omega
      have q0 : ((j : Int) == 0) = false := by rw [beq_eq_false_iff_ne]; omega
      go_wp2_with fail
      go_round
      case rel => exact ⟨j + 1, by omega, by go_num, HX.out⟩
      case measure => simp [intOf]; omega
     ·have HX : Hid _ := HE
      clear HE
      have q9 : ((x.toNat : Int) == 95) = false := by rw [beq_eq_false_iff_ne]; omega
      subst h1
      go_wp2_with fail
      go_ret
      exact ⟨ret_bl HX.out, hB⟩
     ·have HX : Hid _ := HE
      clear HE
      have q9 : ((x.toNat : Int) == 95) = false := by rw [beq_eq_false_iff_ne]; omega
      by_cases q0 : j = 0
      ·subst q0
       go_wp2_with fail
       go_ret
       exact ⟨ret_bl HX.out, hB⟩
      ·have q1 : ((j : Int) == 0) = false := by rw [beq_eq_false_iff_ne]; omega
       go_wp2_with fail
       go_ret
       exact ⟨ret_bl HX.out, hB⟩
     ·have HX : Hid _ := HE
      clear HE
      have q9 : ((x.toNat : Int) == 95) = false := by rw [beq_eq_false_iff_ne]; omega
      have hr : (57 < x.toNat /\ x.toNat < 65) \/ (90 < x.toNat /\ x.toNat < 97) \/ 122 < x.toNat := by omega
      clear h1 h2 h3 h4
      by_cases q0 : j = 0
      ·subst q0
       rcases hr with ⟨h1, h2⟩ | ⟨h1, h2⟩ | h1
       ·go_wp2_with fail
        go_ret
        exact ⟨ret_bl HX.out, hB⟩
       ·have q2 : decide ((x.toNat : Int) <= 90) = false := by rw [decide_eq_false_iff_not]; omega
        go_wp2_with fail
        go_ret
        exact ⟨ret_bl HX.out, hB⟩
       ·have q2 : decide ((x.toNat : Int) <= 90) = false := by rw [decide_eq_false_iff_not]; omega
        have q3 : decide ((x.toNat : Int) <= 122) = false := by rw [decide_eq_false_iff_not]; omega
        go_wp2_with fail
        go_ret
        exact ⟨ret_bl HX.out, hB⟩
      ·have q1 : ((j : Int) == 0) = false := by rw [beq_eq_false_iff_ne]; omega
       rcases hr with ⟨h1, h2⟩ | ⟨h1, h2⟩ | h1
       ·go_wp2_with fail
        go_ret
        exact ⟨ret_bl HX.out, hB⟩
       ·have q2 : decide ((x.toNat : Int) <= 90) = false := by rw [decide_eq_false_iff_not]; omega
        go_wp2_with fail
        go_ret
        exact ⟨ret_bl HX.out, hB⟩
       ·have q2 : decide ((x.toNat : Int) <= 90) = false := by rw [decide_eq_false_iff_not]; omega
        have q3 : decide ((x.toNat : Int) <= 122) = false := by rw [decide_eq_false_iff_not]; omega
        go_wp2_with fail
        go_ret
        exact ⟨ret_bl HX.out, hB⟩
    ·obtain rfl : j = n := by omega
     have HE : Hid (decide (1 <= j /\ j <= 64) = R) := by
      have := HJ.fin (by have := HN.out; omega)
      rw [<- HN.out] at this; exact this
     by_cases h0 : j = 0
     ·have HR : Hid (false = R) := by show false = R; rw [<- HE.out]; simp [h0]
      go_wp2_with fail
      go_ret
      exact ⟨ret_bl HR.out, hB⟩
     by_cases h64 : 64 < j
     ·have HR : Hid (decide ((j : Int) <= 64) = R) := by show decide ((j : Int) <= 64) = R; rw [<- HE.out, decide_eq_decide]; omega
      go_wp2_with fail
      go_ret
      exact ⟨ret_bl HR.out, hB⟩
     ·have HR : Hid (decide ((j : Int) <= 64) = R) := by show decide ((j : Int) <= 64) = R; rw [<- HE.out, decide_eq_decide]; omega
      go_wp2_with fail
      go_ret
      exact ⟨ret_bl HR.out, hB⟩
structure WT (n : Nat) (L : List Int) (j : Nat) (R : Bool) : Prop where
 res : R = L.all (wi n)
 ok : ∀ i (h : i < L.length), i < j -> wi n L[i] = true
theorem WT.hit {n L j R} (h : WT n L j R) (hj : j < L.length) (hf : wi n L[j] = false) : false = R := by
 rw [h.res]
 symm
 rw [<- Bool.not_eq_true]
 intro ha
 have := List.all_eq_true.1 ha _ (List.getElem_mem hj)
 rw [hf] at this
 cases this
theorem WT.fin {n L j R} (h : WT n L j R) (hj : L.length <= j) : true = R := by
 rw [h.res]
 symm
 refine List.all_eq_true.2 fun x hx => ?_
 obtain ⟨i, hi, rfl⟩ := List.mem_iff_getElem.1 hx
 exact h.ok i hi (by omega)
theorem WT.more {n L j R} (h : WT n L j R) (hj : j < L.length) (hf : wi n L[j] = true) : WT n L (j + 1) R :=
 ⟨h.res, fun i hi hlt => by
  rcases Nat.lt_succ_iff_lt_or_eq.1 hlt with h1 | rfl
  ·exact h.ok i hi h1
  ·exact hf⟩
set_option maxRecDepth 10000 in
set_option maxHeartbeats 1000000 in
theorem rWithin_any (w : World) (ao : Option Addr) (k c n : Nat) (L : List Int) (hk : k = L.length) (h : Ints w ao c L) : Calls Tryz.prog 83 #[.slice ao k c, .int .i64 n] w fun e w' => e = .returned (.bool (L.all (wi n))) /\ w' = w := by
 have hmx : k <= 9223372036854775807 := by have := h.le; have := h.mx; omega
 obtain ⟨R, hR⟩ : ∃ R, R = L.all (wi n) := ⟨_, rfl⟩
 rw [<- hR]
 have HK : Hid (k = L.length) := hk
 have HI : Hid (Ints w ao c L) := h
 have H0 : WT n L 0 R := ⟨hR, fun i _ hi => by omega⟩
 clear hR hk h
 go_enter Tryz.func83, Tryz.ntmps83
 go_wp2_with fail
 go_loop [5] (fun v => ∃ j : Nat, j <= k /\ v = .int .i64 j /\ WT n L j R) (fun v => k - (intOf v).toNat)
 case atStart => exact ⟨0, by omega, rfl, H0⟩
 case round =>
  obtain ⟨j, hj, rfl, HJ⟩ := hrel
  by_cases hlt : j < k
  ·obtain ⟨b, o, rfl, hA⟩ := HI.out.out (by intro e; have := HK.out; rw [e] at this; simp at this; omega)
   obtain ⟨x, hx⟩ : ∃ x, x = L[j]'(by have := HK.out; omega) := ⟨_, rfl⟩
   have hcl : w.cell? ⟨b, o + j, none⟩ = some (.int .i64 x) := by rw [hx]; exact hA.cell j (by have := HK.out; omega)
   have HX : Hid (wi n x = true -> WT n L (j + 1) R) := fun hh => HJ.more (by have := HK.out; omega) (by rw [<- hx]; exact hh)
   have HF : Hid (wi n x = false -> false = R) := fun hh => HJ.hit (by have := HK.out; omega) (by rw [<- hx]; exact hh)
   clear hx hA
   by_cases h0 : x < 0
   ·have HE : Hid (false = R) := HF.out (by simp [wi]; omega)
    go_wp2_with fail
    go_ret
    exact ⟨ret_bl HE.out, rfl⟩
   ·by_cases h1 : x < n
    ·have HE : Hid (WT n L (j + 1) R) := HX.out (by simp [wi]; omega)
     go_wp2_with fail
     go_round
     case rel => exact ⟨j + 1, by omega, by go_num, HE.out⟩
     case measure => simp [intOf]; omega
    ·have HE : Hid (false = R) := HF.out (by simp [wi]; omega)
     go_wp2_with fail
     go_ret
     exact ⟨ret_bl HE.out, rfl⟩
  ·obtain rfl : j = k := by omega
   have HE : Hid (true = R) := HJ.fin (by have := HK.out; omega)
   go_wp2_with fail
   go_ret
   exact ⟨ret_bl HE.out, rfl⟩
set_option maxRecDepth 100000 in
set_option maxHeartbeats 2000000 in
theorem rTerm_one (w : World) {s : ByteArray} {pa : Option Addr} {pn pc : Nat} {r : Int} {va : Option Addr} {vn vc : Nat} {ba : Option Addr} {bn bc : Nat} {f : Fu} (er : r = f.result) (ev : vn = f.vals.length) (eb : bn = f.blks.length) (vl : Int) (ma : Option Addr) (ml mc : Nat) (M : List Int) (hml : ml = M.length) (hM : Ints w ma mc M) :
 Calls Tryz.prog 85 #[.agg #[.string s, .slice pa pn pc, .int .i64 r, .slice va vn vc, .slice ba bn bc], .agg #[.int .i64 1, .int .i64 vl, .slice ma ml mc]] w fun e w' => e = .returned (.bool (termP f 1 vl M)) /\ Below w.heap.size w w' := by
 have e0 : termP f 1 vl M = (decide (ml = 1) && (M.all (wi bn) && decide (vl = -1))) := by
  unfold termP; rw [hml, eb]; simp [tcount, tuses]
 rw [e0]
 have HB : Hid (∀ q, Below w.heap.size w ((((w.alloc (.cells #[.string s, .slice pa pn pc, .int .i64 r, .slice va vn vc, .slice ba bn bc] 38)).alloc (.cells #[.int .i64 1, .int .i64 vl, .slice ma ml mc] 44)).alloc (.cells #[.int .i64 0, .int .i64 1, .int .i64 2, .int .i64 0, .int .i64 0] 3)).drewN q)) := fun q => below_drewN (by repeat (first | refine Below.alloc ?_ (by first | omega | (simp; done) | (simp; omega)) _ | exact Below.refl _ _)) q
 have HW : Hid (∀ q, Calls Tryz.prog 83 #[.slice ma ml mc, .int .i64 bn] ((((w.alloc (.cells #[.string s, .slice pa pn pc, .int .i64 r, .slice va vn vc, .slice ba bn bc] 38)).alloc (.cells #[.int .i64 1, .int .i64 vl, .slice ma ml mc] 44)).alloc (.cells #[.int .i64 0, .int .i64 1, .int .i64 2, .int .i64 0, .int .i64 0] 3)).drewN q) fun e w' => e = .returned (.bool (M.all (wi bn))) /\ w' = (((w.alloc (.cells #[.string s, .slice pa pn pc, .int .i64 r, .slice va vn vc, .slice ba bn bc] 38)).alloc (.cells #[.int .i64 1, .int .i64 vl, .slice ma ml mc] 44)).alloc (.cells #[.int .i64 0, .int .i64 1, .int .i64 2, .int .i64 0, .int .i64 0] 3)).drewN q) := fun q => rWithin_any _ ma ml mc bn M hml (hM.below (HB.out q) (Nat.le_refl _))
 clear er ev eb e0 hM hml
 by_cases h1 : ml = 1
 ·rw [decide_eq_true h1]
  subst h1
  generalize h2 : M.all (wi bn) = R at HW
  clear h2
  cases R
  case false =>
   go_enter Tryz.func85, Tryz.ntmps85
   go_wp2_with fail
   go_quiet (first | (go_at_call 83; exact Calls.quiet_of_same (HW.out _)))
   go_wp2_with fail
   go_ret
   exact ⟨rfl, HB.out _⟩
  case true =>
   ·skip
    go_enter Tryz.func85, Tryz.ntmps85
    go_wp2_with fail
    go_quiet (first | (go_at_call 83; exact Calls.quiet_of_same (HW.out _)))
    go_wp2_with fail
    go_ret
    exact ⟨ret_bl (by by_cases hv : vl = -1 <;> simp [hv]), HB.out _⟩
 ·have h1' : ((ml : Int) != 1) = true := by simp; omega
  rw [decide_eq_false h1]
  clear HW
  go_enter Tryz.func85, Tryz.ntmps85
  go_wp2_with fail
  go_quiet (fail)
  go_wp2_with fail
  go_ret
  exact ⟨rfl, HB.out _⟩
set_option maxRecDepth 100000 in
set_option maxHeartbeats 2000000 in
theorem rTerm_two (w : World) {s : ByteArray} {pa : Option Addr} {pn pc : Nat} {r : Int} {va : Option Addr} {vn vc : Nat} {ba : Option Addr} {bn bc : Nat} {f : Fu} (er : r = f.result) (ev : vn = f.vals.length) (eb : bn = f.blks.length) (vl : Int) (ma : Option Addr) (ml mc : Nat) (M : List Int) (hml : ml = M.length) (hM : Ints w ma mc M) :
 Calls Tryz.prog 85 #[.agg #[.string s, .slice pa pn pc, .int .i64 r, .slice va vn vc, .slice ba bn bc], .agg #[.int .i64 2, .int .i64 vl, .slice ma ml mc]] w fun e w' => e = .returned (.bool (termP f 2 vl M)) /\ Below w.heap.size w w' := by
 have e0 : termP f 2 vl M = (decide (ml = 2) && (M.all (wi bn) && wi vn vl)) := by
  unfold termP; rw [hml, eb, ev]; simp [tcount, tuses]
 rw [e0]
 have HB : Hid (∀ q, Below w.heap.size w ((((w.alloc (.cells #[.string s, .slice pa pn pc, .int .i64 r, .slice va vn vc, .slice ba bn bc] 38)).alloc (.cells #[.int .i64 2, .int .i64 vl, .slice ma ml mc] 44)).alloc (.cells #[.int .i64 0, .int .i64 1, .int .i64 2, .int .i64 0, .int .i64 0] 3)).drewN q)) := fun q => below_drewN (by repeat (first | refine Below.alloc ?_ (by first | omega | (simp; done) | (simp; omega)) _ | exact Below.refl _ _)) q
 have HW : Hid (∀ q, Calls Tryz.prog 83 #[.slice ma ml mc, .int .i64 bn] ((((w.alloc (.cells #[.string s, .slice pa pn pc, .int .i64 r, .slice va vn vc, .slice ba bn bc] 38)).alloc (.cells #[.int .i64 2, .int .i64 vl, .slice ma ml mc] 44)).alloc (.cells #[.int .i64 0, .int .i64 1, .int .i64 2, .int .i64 0, .int .i64 0] 3)).drewN q) fun e w' => e = .returned (.bool (M.all (wi bn))) /\ w' = (((w.alloc (.cells #[.string s, .slice pa pn pc, .int .i64 r, .slice va vn vc, .slice ba bn bc] 38)).alloc (.cells #[.int .i64 2, .int .i64 vl, .slice ma ml mc] 44)).alloc (.cells #[.int .i64 0, .int .i64 1, .int .i64 2, .int .i64 0, .int .i64 0] 3)).drewN q) := fun q => rWithin_any _ ma ml mc bn M hml (hM.below (HB.out q) (Nat.le_refl _))
 clear er ev eb e0 hM hml
 by_cases h1 : ml = 2
 ·rw [decide_eq_true h1]
  subst h1
  generalize h2 : M.all (wi bn) = R at HW
  clear h2
  cases R
  case false =>
   go_enter Tryz.func85, Tryz.ntmps85
   go_wp2_with fail
   go_quiet (first | (go_at_call 83; exact Calls.quiet_of_same (HW.out _)))
   go_wp2_with fail
   go_ret
   exact ⟨rfl, HB.out _⟩
  case true =>
   by_cases h3 : 0 <= vl
   ·skip
    go_enter Tryz.func85, Tryz.ntmps85
    go_wp2_with fail
    go_quiet (first | (go_at_call 83; exact Calls.quiet_of_same (HW.out _)))
    go_wp2_with fail
    go_ret
    exact ⟨ret_bl (by simp [wi, h3]), HB.out _⟩
   ·skip
    go_enter Tryz.func85, Tryz.ntmps85
    go_wp2_with fail
    go_quiet (first | (go_at_call 83; exact Calls.quiet_of_same (HW.out _)))
    go_wp2_with fail
    go_ret
    exact ⟨ret_bl (by simp [wi]; omega), HB.out _⟩
 ·have h1' : ((ml : Int) != 2) = true := by simp; omega
  rw [decide_eq_false h1]
  clear HW
  go_enter Tryz.func85, Tryz.ntmps85
  go_wp2_with fail
  go_quiet (fail)
  go_wp2_with fail
  go_ret
  exact ⟨rfl, HB.out _⟩
set_option maxRecDepth 100000 in
set_option maxHeartbeats 2000000 in
theorem rTerm_none (w : World) {s : ByteArray} {pa : Option Addr} {pn pc : Nat} {va : Option Addr} {vn vc : Nat} {ba : Option Addr} {bn bc : Nat} {f : Fu} (er : 0 = f.result) (ev : vn = f.vals.length) (eb : bn = f.blks.length) (vl : Int) (ma : Option Addr) (ml mc : Nat) (M : List Int) (hml : ml = M.length) (hM : Ints w ma mc M) :
 Calls Tryz.prog 85 #[.agg #[.string s, .slice pa pn pc, .int .i64 0, .slice va vn vc, .slice ba bn bc], .agg #[.int .i64 3, .int .i64 vl, .slice ma ml mc]] w fun e w' => e = .returned (.bool (termP f 3 vl M)) /\ Below w.heap.size w w' := by
 have e0 : termP f 3 vl M = (decide (ml = 0) && (M.all (wi bn) && decide (vl = -1))) := by
  unfold termP; rw [hml, eb, <- er]; simp [tcount, tuses]
 rw [e0]
 have HB : Hid (∀ q, Below w.heap.size w ((((w.alloc (.cells #[.string s, .slice pa pn pc, .int .i64 0, .slice va vn vc, .slice ba bn bc] 38)).alloc (.cells #[.int .i64 3, .int .i64 vl, .slice ma ml mc] 44)).alloc (.cells #[.int .i64 0, .int .i64 1, .int .i64 2, .int .i64 0, .int .i64 0] 3)).drewN q)) := fun q => below_drewN (by repeat (first | refine Below.alloc ?_ (by first | omega | (simp; done) | (simp; omega)) _ | exact Below.refl _ _)) q
 have HW : Hid (∀ q, Calls Tryz.prog 83 #[.slice ma ml mc, .int .i64 bn] ((((w.alloc (.cells #[.string s, .slice pa pn pc, .int .i64 0, .slice va vn vc, .slice ba bn bc] 38)).alloc (.cells #[.int .i64 3, .int .i64 vl, .slice ma ml mc] 44)).alloc (.cells #[.int .i64 0, .int .i64 1, .int .i64 2, .int .i64 0, .int .i64 0] 3)).drewN q) fun e w' => e = .returned (.bool (M.all (wi bn))) /\ w' = (((w.alloc (.cells #[.string s, .slice pa pn pc, .int .i64 0, .slice va vn vc, .slice ba bn bc] 38)).alloc (.cells #[.int .i64 3, .int .i64 vl, .slice ma ml mc] 44)).alloc (.cells #[.int .i64 0, .int .i64 1, .int .i64 2, .int .i64 0, .int .i64 0] 3)).drewN q) := fun q => rWithin_any _ ma ml mc bn M hml (hM.below (HB.out q) (Nat.le_refl _))
 clear er ev eb e0 hM hml
 by_cases h1 : ml = 0
 ·rw [decide_eq_true h1]
  subst h1
  generalize h2 : M.all (wi bn) = R at HW
  clear h2
  cases R
  case false =>
   go_enter Tryz.func85, Tryz.ntmps85
   go_wp2_with fail
   go_quiet (first | (go_at_call 83; exact Calls.quiet_of_same (HW.out _)))
   go_wp2_with fail
   go_ret
   exact ⟨rfl, HB.out _⟩
  case true =>
   ·skip
    go_enter Tryz.func85, Tryz.ntmps85
    go_wp2_with fail
    go_quiet (first | (go_at_call 83; exact Calls.quiet_of_same (HW.out _)))
    go_wp2_with fail
    go_ret
    exact ⟨ret_bl (by by_cases hv : vl = -1 <;> simp [hv]), HB.out _⟩
 ·have h1' : ((ml : Int) != 0) = true := by simp; omega
  rw [decide_eq_false h1]
  clear HW
  go_enter Tryz.func85, Tryz.ntmps85
  go_wp2_with fail
  go_quiet (fail)
  go_wp2_with fail
  go_ret
  exact ⟨rfl, HB.out _⟩
set_option maxRecDepth 100000 in
set_option maxHeartbeats 2000000 in
theorem rTerm_some (w : World) {s : ByteArray} {pa : Option Addr} {pn pc : Nat} {r : Int} {va : Option Addr} {vn vc : Nat} {ba : Option Addr} {bn bc : Nat} {f : Fu} (er : r = f.result) (ev : vn = f.vals.length) (eb : bn = f.blks.length) (vl : Int) (ma : Option Addr) (ml mc : Nat) (M : List Int) (hml : ml = M.length) (hM : Ints w ma mc M) (hr0 : ¬ r = 0) :
 Calls Tryz.prog 85 #[.agg #[.string s, .slice pa pn pc, .int .i64 r, .slice va vn vc, .slice ba bn bc], .agg #[.int .i64 3, .int .i64 vl, .slice ma ml mc]] w fun e w' => e = .returned (.bool (termP f 3 vl M)) /\ Below w.heap.size w w' := by
 have e0 : termP f 3 vl M = (decide (ml = 0) && (M.all (wi bn) && wi vn vl)) := by
  unfold termP; rw [hml, eb, ev, <- er]; simp [tcount, tuses, hr0]
 rw [e0]
 have HB : Hid (∀ q, Below w.heap.size w ((((w.alloc (.cells #[.string s, .slice pa pn pc, .int .i64 r, .slice va vn vc, .slice ba bn bc] 38)).alloc (.cells #[.int .i64 3, .int .i64 vl, .slice ma ml mc] 44)).alloc (.cells #[.int .i64 0, .int .i64 1, .int .i64 2, .int .i64 0, .int .i64 0] 3)).drewN q)) := fun q => below_drewN (by repeat (first | refine Below.alloc ?_ (by first | omega | (simp; done) | (simp; omega)) _ | exact Below.refl _ _)) q
 have HW : Hid (∀ q, Calls Tryz.prog 83 #[.slice ma ml mc, .int .i64 bn] ((((w.alloc (.cells #[.string s, .slice pa pn pc, .int .i64 r, .slice va vn vc, .slice ba bn bc] 38)).alloc (.cells #[.int .i64 3, .int .i64 vl, .slice ma ml mc] 44)).alloc (.cells #[.int .i64 0, .int .i64 1, .int .i64 2, .int .i64 0, .int .i64 0] 3)).drewN q) fun e w' => e = .returned (.bool (M.all (wi bn))) /\ w' = (((w.alloc (.cells #[.string s, .slice pa pn pc, .int .i64 r, .slice va vn vc, .slice ba bn bc] 38)).alloc (.cells #[.int .i64 3, .int .i64 vl, .slice ma ml mc] 44)).alloc (.cells #[.int .i64 0, .int .i64 1, .int .i64 2, .int .i64 0, .int .i64 0] 3)).drewN q) := fun q => rWithin_any _ ma ml mc bn M hml (hM.below (HB.out q) (Nat.le_refl _))
 clear er ev eb e0 hM hml
 by_cases h1 : ml = 0
 ·rw [decide_eq_true h1]
  subst h1
  generalize h2 : M.all (wi bn) = R at HW
  clear h2
  cases R
  case false =>
   go_enter Tryz.func85, Tryz.ntmps85
   go_wp2_with fail
   go_quiet (first | (go_at_call 83; exact Calls.quiet_of_same (HW.out _)))
   go_wp2_with fail
   go_ret
   exact ⟨rfl, HB.out _⟩
  case true =>
   by_cases h3 : 0 <= vl
   ·skip
    go_enter Tryz.func85, Tryz.ntmps85
    go_wp2_with fail
    go_quiet (first | (go_at_call 83; exact Calls.quiet_of_same (HW.out _)))
    go_wp2_with fail
    go_ret
    exact ⟨ret_bl (by simp [wi, h3]), HB.out _⟩
   ·skip
    go_enter Tryz.func85, Tryz.ntmps85
    go_wp2_with fail
    go_quiet (first | (go_at_call 83; exact Calls.quiet_of_same (HW.out _)))
    go_wp2_with fail
    go_ret
    exact ⟨ret_bl (by simp [wi]; omega), HB.out _⟩
 ·have h1' : ((ml : Int) != 0) = true := by simp; omega
  rw [decide_eq_false h1]
  clear HW
  go_enter Tryz.func85, Tryz.ntmps85
  go_wp2_with fail
  go_quiet (fail)
  go_wp2_with fail
  go_ret
  exact ⟨rfl, HB.out _⟩
set_option maxRecDepth 100000 in
set_option maxHeartbeats 2000000 in
theorem rTerm_four (w : World) {s : ByteArray} {pa : Option Addr} {pn pc : Nat} {r : Int} {va : Option Addr} {vn vc : Nat} {ba : Option Addr} {bn bc : Nat} {f : Fu} (er : r = f.result) (ev : vn = f.vals.length) (eb : bn = f.blks.length) (vl : Int) (ma : Option Addr) (ml mc : Nat) (M : List Int) (hml : ml = M.length) (hM : Ints w ma mc M) :
 Calls Tryz.prog 85 #[.agg #[.string s, .slice pa pn pc, .int .i64 r, .slice va vn vc, .slice ba bn bc], .agg #[.int .i64 4, .int .i64 vl, .slice ma ml mc]] w fun e w' => e = .returned (.bool (termP f 4 vl M)) /\ Below w.heap.size w w' := by
 have e0 : termP f 4 vl M = (decide (ml = 0) && (M.all (wi bn) && wi vn vl)) := by
  unfold termP; rw [hml, eb, ev]; simp [tcount, tuses]
 rw [e0]
 have HB : Hid (∀ q, Below w.heap.size w ((((w.alloc (.cells #[.string s, .slice pa pn pc, .int .i64 r, .slice va vn vc, .slice ba bn bc] 38)).alloc (.cells #[.int .i64 4, .int .i64 vl, .slice ma ml mc] 44)).alloc (.cells #[.int .i64 0, .int .i64 1, .int .i64 2, .int .i64 0, .int .i64 0] 3)).drewN q)) := fun q => below_drewN (by repeat (first | refine Below.alloc ?_ (by first | omega | (simp; done) | (simp; omega)) _ | exact Below.refl _ _)) q
 have HW : Hid (∀ q, Calls Tryz.prog 83 #[.slice ma ml mc, .int .i64 bn] ((((w.alloc (.cells #[.string s, .slice pa pn pc, .int .i64 r, .slice va vn vc, .slice ba bn bc] 38)).alloc (.cells #[.int .i64 4, .int .i64 vl, .slice ma ml mc] 44)).alloc (.cells #[.int .i64 0, .int .i64 1, .int .i64 2, .int .i64 0, .int .i64 0] 3)).drewN q) fun e w' => e = .returned (.bool (M.all (wi bn))) /\ w' = (((w.alloc (.cells #[.string s, .slice pa pn pc, .int .i64 r, .slice va vn vc, .slice ba bn bc] 38)).alloc (.cells #[.int .i64 4, .int .i64 vl, .slice ma ml mc] 44)).alloc (.cells #[.int .i64 0, .int .i64 1, .int .i64 2, .int .i64 0, .int .i64 0] 3)).drewN q) := fun q => rWithin_any _ ma ml mc bn M hml (hM.below (HB.out q) (Nat.le_refl _))
 clear er ev eb e0 hM hml
 by_cases h1 : ml = 0
 ·rw [decide_eq_true h1]
  subst h1
  generalize h2 : M.all (wi bn) = R at HW
  clear h2
  cases R
  case false =>
   go_enter Tryz.func85, Tryz.ntmps85
   go_wp2_with fail
   go_quiet (first | (go_at_call 83; exact Calls.quiet_of_same (HW.out _)))
   go_wp2_with fail
   go_ret
   exact ⟨rfl, HB.out _⟩
  case true =>
   by_cases h3 : 0 <= vl
   ·skip
    go_enter Tryz.func85, Tryz.ntmps85
    go_wp2_with fail
    go_quiet (first | (go_at_call 83; exact Calls.quiet_of_same (HW.out _)))
    go_wp2_with fail
    go_ret
    exact ⟨ret_bl (by simp [wi, h3]), HB.out _⟩
   ·skip
    go_enter Tryz.func85, Tryz.ntmps85
    go_wp2_with fail
    go_quiet (first | (go_at_call 83; exact Calls.quiet_of_same (HW.out _)))
    go_wp2_with fail
    go_ret
    exact ⟨ret_bl (by simp [wi]; omega), HB.out _⟩
 ·have h1' : ((ml : Int) != 0) = true := by simp; omega
  rw [decide_eq_false h1]
  clear HW
  go_enter Tryz.func85, Tryz.ntmps85
  go_wp2_with fail
  go_quiet (fail)
  go_wp2_with fail
  go_ret
  exact ⟨rfl, HB.out _⟩
set_option maxRecDepth 100000 in
set_option maxHeartbeats 2000000 in
theorem rTerm_lo (w : World) {s : ByteArray} {pa : Option Addr} {pn pc : Nat} {r : Int} {va : Option Addr} {vn vc : Nat} {ba : Option Addr} {bn bc : Nat} {f : Fu} (er : r = f.result) (ev : vn = f.vals.length) (eb : bn = f.blks.length) (vl : Int) (ma : Option Addr) (ml mc : Nat) (M : List Int) (hml : ml = M.length) (hM : Ints w ma mc M) (kd : Int) (h : kd < 1) :
 Calls Tryz.prog 85 #[.agg #[.string s, .slice pa pn pc, .int .i64 r, .slice va vn vc, .slice ba bn bc], .agg #[.int .i64 kd, .int .i64 vl, .slice ma ml mc]] w fun e w' => e = .returned (.bool (termP f kd vl M)) /\ Below w.heap.size w w' := by
 have e0 : termP f kd vl M = false := by
  unfold termP; rw [decide_eq_false (by omega)]; rfl
 rw [e0]
 have HB : Hid (∀ q, Below w.heap.size w ((((w.alloc (.cells #[.string s, .slice pa pn pc, .int .i64 r, .slice va vn vc, .slice ba bn bc] 38)).alloc (.cells #[.int .i64 kd, .int .i64 vl, .slice ma ml mc] 44)).alloc (.cells #[.int .i64 0, .int .i64 1, .int .i64 2, .int .i64 0, .int .i64 0] 3)).drewN q)) := fun q => below_drewN (by repeat (first | refine Below.alloc ?_ (by first | omega | (simp; done) | (simp; omega)) _ | exact Below.refl _ _)) q
 clear er ev eb e0 hM hml
 have g1 : decide (kd < 1) = true := by simp; omega
 have g2 : decide (4 < kd) = false := by simp; omega
 go_enter Tryz.func85, Tryz.ntmps85
 go_wp2_with fail
 go_quiet (fail)
 go_wp2_with fail
 go_ret
 exact ⟨rfl, HB.out _⟩
set_option maxRecDepth 100000 in
set_option maxHeartbeats 2000000 in
theorem rTerm_hi (w : World) {s : ByteArray} {pa : Option Addr} {pn pc : Nat} {r : Int} {va : Option Addr} {vn vc : Nat} {ba : Option Addr} {bn bc : Nat} {f : Fu} (er : r = f.result) (ev : vn = f.vals.length) (eb : bn = f.blks.length) (vl : Int) (ma : Option Addr) (ml mc : Nat) (M : List Int) (hml : ml = M.length) (hM : Ints w ma mc M) (kd : Int) (h : 4 < kd) :
 Calls Tryz.prog 85 #[.agg #[.string s, .slice pa pn pc, .int .i64 r, .slice va vn vc, .slice ba bn bc], .agg #[.int .i64 kd, .int .i64 vl, .slice ma ml mc]] w fun e w' => e = .returned (.bool (termP f kd vl M)) /\ Below w.heap.size w w' := by
 have e0 : termP f kd vl M = false := by
  unfold termP; rw [decide_eq_false (by omega)]; rfl
 rw [e0]
 have HB : Hid (∀ q, Below w.heap.size w ((((w.alloc (.cells #[.string s, .slice pa pn pc, .int .i64 r, .slice va vn vc, .slice ba bn bc] 38)).alloc (.cells #[.int .i64 kd, .int .i64 vl, .slice ma ml mc] 44)).alloc (.cells #[.int .i64 0, .int .i64 1, .int .i64 2, .int .i64 0, .int .i64 0] 3)).drewN q)) := fun q => below_drewN (by repeat (first | refine Below.alloc ?_ (by first | omega | (simp; done) | (simp; omega)) _ | exact Below.refl _ _)) q
 clear er ev eb e0 hM hml
 have g1 : decide (kd < 1) = false := by simp; omega
 have g2 : decide (4 < kd) = true := by simp; omega
 go_enter Tryz.func85, Tryz.ntmps85
 go_wp2_with fail
 go_quiet (fail)
 go_wp2_with fail
 go_ret
 exact ⟨rfl, HB.out _⟩
theorem rTerm_any (w : World) {s : ByteArray} {pa : Option Addr} {pn pc : Nat} {r : Int} {va : Option Addr} {vn vc : Nat} {ba : Option Addr} {bn bc : Nat} {f : Fu} (er : r = f.result) (ev : vn = f.vals.length) (eb : bn = f.blks.length) (vl : Int) (ma : Option Addr) (ml mc : Nat) (M : List Int) (hml : ml = M.length) (hM : Ints w ma mc M) (kd : Int) :
 Calls Tryz.prog 85 #[.agg #[.string s, .slice pa pn pc, .int .i64 r, .slice va vn vc, .slice ba bn bc], .agg #[.int .i64 kd, .int .i64 vl, .slice ma ml mc]] w fun e w' => e = .returned (.bool (termP f kd vl M)) /\ Below w.heap.size w w' := by
 by_cases hlo : kd < 1
 ·exact rTerm_lo w er ev eb vl ma ml mc M hml hM kd hlo
 by_cases hhi : 4 < kd
 ·exact rTerm_hi w er ev eb vl ma ml mc M hml hM kd hhi
 have : kd = 1 \/ kd = 2 \/ kd = 3 \/ kd = 4 := by omega
 rcases this with rfl | rfl | rfl | rfl
 ·exact rTerm_one w er ev eb vl ma ml mc M hml hM
 ·exact rTerm_two w er ev eb vl ma ml mc M hml hM
 ·by_cases hr0 : r = 0
  ·subst hr0; exact rTerm_none w er ev eb vl ma ml mc M hml hM
  ·exact rTerm_some w er ev eb vl ma ml mc M hml hM hr0
 ·exact rTerm_four w er ev eb vl ma ml mc M hml hM
end Go.Proofs.YtdbkjjelaipcfaaGreatDoor
