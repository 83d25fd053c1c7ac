import Derived.Test.YteiambniddddpaaDoorLxF
set_option linter.unusedVariables false
namespace Go.Proofs.YteiambniddddpaaDoor
open Go.ChangeShapes Go.WideShapes Go.ChangeAt Go.RowKit

def signR (l : List UInt8) : Except Nat (Tk × Nat) := if (bst l 29).2 = 0 then .error 20 else .ok (⟨(bst l 29).1, 0, []⟩, (bst l 29).2)

theorem signs_len : ∀ i, i < 29 → (SIGNS.getD i []).length ≤ 2 ∧ 0 < (SIGNS.getD i []).length := by decide

theorem bst_small (l : List UInt8) : ∀ i, i ≤ 29 → (bst l i).1 ≤ 68 ∧ (bst l i).2 ≤ 2 ∧ (bst l i).2 ≤ l.length
  | 0, _ => by simp [bst]
  | i + 1, h => by
    have ih := bst_small l i (by omega)
    have := signs_len i (by omega)
    unfold bst
    split
    · rename_i hp
      have := (List.isPrefixOf_iff_prefix.1 hp.2).length_le
      simp only
      omega
    · exact ih

def z4 : Array Value := #[.int .i64 0, .int .i64 0, .int .i64 0, .string ⟨#[]⟩]

structure SA (l : List UInt8) (i K M : Nat) : Prop where
  out : bst l i = (K, M)
def SB (l : List UInt8) (i m : Nat) (s : ByteArray) (P : Bool) : Prop := s = bs (SIGNS.getD i []) ∧ m = (SIGNS.getD i []).length ∧ (SIGNS.getD i []).isPrefixOf l = P
structure SR (l : List UInt8) (r : Except Nat (Tk × Nat)) : Prop where
  out : signR l = r

theorem SA.hit {l i K M m s} (h : SA l i K M) (hb : SB l i m s true) (hm : M < m) : SA l (i + 1) (40 + i) m := by
  have h := h.out
  refine ⟨?_⟩
  unfold bst
  rw [h, if_pos ⟨by rw [← hb.2.1]; exact hm, hb.2.2⟩, hb.2.1]
theorem SA.miss {l i K M m s P} (h : SA l i K M) (hb : SB l i m s P) (hm : P = false ∨ ¬ M < m) : SA l (i + 1) K M := by
  have h := h.out
  refine ⟨?_⟩
  unfold bst
  rw [h, if_neg (by rw [← hb.2.1, hb.2.2]; rintro ⟨h1, h2⟩; rcases hm with e | e; rw [e] at h2; cases h2; exact e h1)]
theorem SA.none {l K r} (h : SA l 29 K 0) (hr : SR l r) : r = .error 20 := by
  have h := h.out; have hr := hr.out; unfold signR at hr; rw [← hr, h]; rfl
theorem SA.some {l K M r} (h : SA l 29 K M) (hr : SR l r) (hM : ¬ M = 0) : r = .ok (⟨K, 0, []⟩, M) := by
  have h := h.out; have hr := hr.out; unfold signR at hr; rw [← hr, h]; simp [hM]
theorem SA.small {l i K M} (h : SA l i K M) (hi : i ≤ 29) : K ≤ 68 ∧ M ≤ 2 ∧ M ≤ l.length := by
  have := bst_small l i hi
  rw [h.out] at this; exact this

theorem starts_sb (w : World) (b o c m' m i : Nat) (M : List UInt8) (s : ByteArray) (P : Bool) (hA : At w b o M) (hc : m' ≤ c) (hm : c ≤ 9223372036854775807) (hl : m' = M.length) (hi : i < 29) (hP : SB M i m s P) :
    Calls Tryd.prog 40 #[.slice (some ⟨b, o, none⟩) m' c, .string s] w fun e w' => e = .returned (.bool P) ∧ w' = w := by
  rw [hP.1]
  exact starts_at w b o c m' M _ P hA hc hm (by have := signs_len i hi; omega) hl hP.2.2

theorem At.drewN {w b o M} (h : At w b o M) (n : Nat) : At (w.drewN n) b o M := ⟨by simpa using h.1, fun i hi => by simpa using h.2 i hi⟩

theorem below_drewN {B : Nat} {a w : World} (h : Below B a w) (n : Nat) : Below B a (w.drewN n) := h.trans ⟨by rfl, by rfl, by rfl, by simp, fun k _ => by simp⟩

set_option maxHeartbeats 1000000 in
theorem sign_any (w : World) (hT : Tab w) (b o cap : Nat) (L : List UInt8) (hA : At w b o L) (hc : L.length ≤ cap) (hm : cap ≤ 9223372036854775807) (k : Nat) (hk : k < L.length) :
    Calls Tryd.prog 44 #[.slice (some ⟨b, o, none⟩) L.length cap, .int .i64 k] w fun e w' => TokRes (signR (L.drop k)) k e ∧ Below w.heap.size w w' := by
  obtain ⟨r, hr⟩ : ∃ r, signR (L.drop k) = r := ⟨_, rfl⟩
  rw [hr]
  have Hr : SR (L.drop k) r := ⟨hr⟩
  clear hr
  obtain ⟨n, hn⟩ : ∃ n, n = L.length := ⟨_, rfl⟩
  rw [← hn] at hc hk ⊢
  have HN : Hid (n = L.length) := hn
  clear hn
  go_enter Tryd.func44, Tryd.ntmps44
  go_wp2
  go_loopw [7, 8, 10] (fun z v c wr => ∃ i K M : Nat, i ≤ 29 ∧ c = .int .i64 i ∧ z = .int .i64 K ∧ v = .int .i64 M ∧ SA (L.drop k) i K M ∧ Below w.heap.size w wr ∧ wr.heap[w.heap.size]? = some (.cells z4 31 (0, 0))) (fun _ _ c _ => 29 - (intOf c).toNat)
  case atStart => exact ⟨0, 0, 0, by omega, rfl, rfl, rfl, ⟨rfl⟩, (Below.refl _ _).alloc (Nat.le_refl _) _, heap_alloc_last _ _⟩
  case round =>
    obtain ⟨i, K, M, hi, rfl, rfl, rfl, HB, hbl, hg⟩ := hrel
    obtain ⟨hs1, hs2, hs3⟩ := HB.small hi
    have HG : Hid (wr.heap[w.heap.size]? = some (.cells z4 31 (0, 0))) := hg
    clear hg
    have HS3 : Hid (M ≤ (L.drop k).length) := hs3
    clear hs3
    by_cases hlt : i < 29
    · have hcell := (hT.below hbl hT.1).2.2 i hlt
      have HA2 : At wr b o L := hA.below hbl hA.1
      obtain ⟨s, m, P, hm3, hm4, hsz, HS⟩ : ∃ s m P, m ≤ 2 ∧ 0 < m ∧ s.size = m ∧ SB (L.drop k) i m s P := ⟨_, _, _, (signs_len i hlt).1, (signs_len i hlt).2, bs_size _, rfl, rfl, rfl⟩
      rw [← HS.1] at hcell
      by_cases hgt : M < m
      · have hgI : (M : Int) < (m : Int) := by omega
        cases P
        · go_wp2_with fail
          go_quiet (first | (go_at_call 40; exact Calls.quiet_of_same (starts_sb _ b (o + k) (cap - k) (n - k) m i (L.drop k) s false ((HA2.drop k).drewN _) (by omega) (by omega) (by have := HN.out; simp; omega) hlt HS)))
          go_wp2_with fail
          go_roundw
          case rel => exact ⟨i + 1, K, M, by omega, by go_num, rfl, rfl, HB.miss HS (.inl rfl), below_drewN hbl _, by simpa using HG.out⟩
          case measure => simp [intOf]; omega
        · go_wp2_with fail
          go_quiet (first | (go_at_call 40; exact Calls.quiet_of_same (starts_sb _ b (o + k) (cap - k) (n - k) m i (L.drop k) s true ((HA2.drop k).drewN _) (by omega) (by omega) (by have := HN.out; simp; omega) hlt HS)))
          go_wp2_with fail
          go_quiet (fail)
          go_wp2_with fail
          go_roundw
          case rel => exact ⟨i + 1, 40 + i, m, by omega, by go_num, by go_num, rfl, HB.hit HS hgt, below_drewN hbl _, by simpa using HG.out⟩
          case measure => simp [intOf]; omega
      · have hd : decide ((M : Int) < (m : Int)) = false := by simp; omega
        have hgI : ¬ (M : Int) < (m : Int) := by omega
        go_wp2_with fail
        go_quiet (fail)
        go_wp2_with fail
        go_roundw
        case rel => exact ⟨i + 1, K, M, by omega, by go_num, rfl, rfl, HB.miss HS (.inr hgt), below_drewN hbl _, by simpa using HG.out⟩
        case measure => simp [intOf]; omega
    · have h29 : i = 29 := by omega
      subst h29
      have hg := HG.out
      have hMl : k + M ≤ n := by have := HS3.out; simp at this; have := HN.out; omega
      by_cases hM : M = 0
      · subst hM
        go_wp2_with (first | (refine wpList_store_tok rfl (.tmp 4) (.tmp 37) rfl w.heap.size 0 0 0 ⟨#[]⟩ rfl rfl _ hg rfl ?_) | fail)
        refine bodyPost_ret (v := .tuple #[tz, .int .i64 0, .int .i64 20]) ?_ rfl ?_
        · exact results_tok Tryd.results44 _ _ w.heap.size 31 _ (0, 0) _ _ rfl rfl rfl (setRow_heap _ _ _ _ _ _ hg) rfl
        refine ⟨?_, below_setRow hbl (Nat.le_refl _) _⟩
        rw [HB.none Hr]
        exact ⟨0, rfl⟩
      · go_wp2_with (first | (refine wpList_store_tok rfl (.tmp 4) (.tmp 40) rfl w.heap.size K k 0 ⟨#[]⟩ rfl rfl _ hg rfl ?_) | fail)
        refine bodyPost_ret (v := .tuple #[.agg #[.int .i64 K, .int .i64 k, .int .i64 0, .string ⟨#[]⟩], .int .i64 (k + M), .int .i64 0]) ?_ rfl ?_
        · exact results_tok Tryd.results44 _ _ w.heap.size 31 _ (0, 0) _ _ rfl rfl rfl (setRow_heap _ _ _ _ _ _ hg) rfl
        refine ⟨?_, below_setRow hbl (Nat.le_refl _) _⟩
        rw [HB.some Hr hM]
        exact ret_three rfl (by omega) rfl
end Go.Proofs.YteiambniddddpaaDoor
