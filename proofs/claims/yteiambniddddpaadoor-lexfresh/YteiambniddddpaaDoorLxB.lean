import Derived.Test.YteiambniddddpaaDoorLxA
set_option linter.unusedVariables false
namespace Go.Proofs.YteiambniddddpaaDoor
open Go.ChangeShapes Go.WideShapes Go.ChangeAt Go.RowKit

/-- The bytes M lie in block b from o on. -/
def At (w : World) (b o : Nat) (M : List UInt8) : Prop := b < w.heap.size ∧ ∀ i (h : i < M.length), w.cell? ⟨b, o + i, none⟩ = some (.int .u8 (M[i].toNat : Int))

def bs (l : List UInt8) : ByteArray := ⟨l.toArray⟩
theorem bs_size (l : List UInt8) : (bs l).size = l.length := by simp [bs, ByteArray.size]
theorem bs_inj {a b : List UInt8} : bs a = bs b ↔ a = b := by simp [bs]

theorem strOfNums_bs (M : List UInt8) : strOfNums (M.map fun c => (c.toNat : Int)) = bs M := by
  unfold strOfNums bs
  congr 1
  simp only [List.map_map]
  congr 1
  rw [List.map_eq_iff]
  intro i
  cases h : M[i]? <;> simp

theorem At.drop {w b o M} (h : At w b o M) (k : Nat) : At w b (o + k) (M.drop k) := by
  refine ⟨h.1, fun i hi => ?_⟩
  have hi' : k + i < M.length := by simp at hi; omega
  have := h.2 (k + i) hi'
  rw [Nat.add_assoc, this]; simp
theorem At.take {w b o M} (h : At w b o M) (k : Nat) : At w b o (M.take k) := by
  refine ⟨h.1, fun i hi => ?_⟩
  have hi' : i < M.length := by simp at hi; omega
  rw [h.2 i hi']; simp

theorem At.conv {w b o M} (h : At w b o M) (cap : Nat) : (convert 23 9 (.slice (some ⟨b, o, none⟩) M.length cap)).run Tryd.prog w = .ok (.string (bs M)) w := by
  have := run_convert_bytes_arg (P := Tryd.prog) w 23 5 Tryd.underlying23 Tryd.underlying5 b o M.length cap (M.map fun c => (c.toNat : Int)) (by simp)
    (fun i hi => by rw [h.2 i hi]; simp [hi]) 9 Tryd.underlying9
  rw [this, strOfNums_bs]

theorem At.conv' {w b o M} (h : At w b o M) (n cap : Nat) (hn : n ≤ M.length) : (convert 23 9 (.slice (some ⟨b, o, none⟩) n cap)).run Tryd.prog w = .ok (.string (bs (M.take n))) w := by
  have := (h.take n).conv cap
  rwa [List.length_take, Nat.min_eq_left hn] at this

theorem ret_bool {a b : Bool} (h : a = b) : Ending.returned (.bool a) = .returned (.bool b) := by rw [h]
theorem bs_toList (l : List UInt8) : (bs l).toList = l := by
  have : (bs l).toList = (bs l).data.toList := Go.ByteArray.toList_eq _
  rw [this]; rfl
theorem prefix_take (S M : List UInt8) (h : S.length ≤ M.length) : (M.take S.length == S) = S.isPrefixOf M := by
  rw [Bool.eq_iff_iff, beq_iff_eq, List.isPrefixOf_iff_prefix, List.prefix_iff_eq_take]
  exact eq_comm
theorem starts_any (w : World) (b o c : Nat) (M S : List UInt8) (hA : At w b o M) (hc : M.length ≤ c) (hm : c ≤ 9223372036854775807) (hS : S.length ≤ 8) :
    Calls Tryd.prog 40 #[.slice (some ⟨b, o, none⟩) M.length c, .string (bs S)] w fun e w' => e = .returned (.bool (S.isPrefixOf M)) ∧ w' = w := by
  have hsz := bs_size S
  obtain ⟨s, hs⟩ : ∃ s, s = bs S := ⟨_, rfl⟩
  rw [← hs] at hsz ⊢
  have HS : Hid (s = bs S) := hs
  clear hs
  by_cases hl : S.length ≤ M.length
  · have hcv := hA.conv' S.length c hl
    obtain ⟨u, hu⟩ : ∃ u, u = bs (M.take S.length) := ⟨_, rfl⟩
    rw [← hu] at hcv
    have HU : Hid (u = bs (M.take S.length)) := hu
    clear hu
    go_enter Tryd.func40, Tryd.ntmps40
    go_wp2
    go_ret
    refine ⟨ret_bool ?_, rfl⟩
    rw [HS.out, HU.out, bs_toList, bs_toList]
    exact prefix_take S M hl
  · go_enter Tryd.func40, Tryd.ntmps40
    go_wp2
    go_ret
    refine ⟨ret_bool ?_, rfl⟩
    symm
    rw [← Bool.not_eq_true, List.isPrefixOf_iff_prefix]
    exact fun h => hl h.length_le

/-- In a comment: how many bytes to the row's end; false: a stranger there. -/
def cm : List UInt8 → Nat × Bool
  | [] => (0, true)
  | c :: l => if cl c = 8 then (0, true) else if cl c = 0 then (0, false) else ((cm l).1 + 1, (cm l).2)

theorem cm_le : ∀ l : List UInt8, (cm l).1 ≤ l.length
  | [] => by simp [cm]
  | c :: l => by
    have := cm_le l
    unfold cm
    repeat' split
    all_goals (simp; try omega)

theorem ret_two {a b : Int} {k1 k2 : IntKind} {c d : Int} (h1 : a = b) (h2 : c = d) : Ending.returned (.tuple #[.int k1 a, .int k2 c]) = .returned (.tuple #[.int k1 b, .int k2 d]) := by rw [h1, h2]

theorem cm_next {L : List UInt8} {j R : Nat} {E : Int} {x : UInt8} (H : j + (cm (L.drop j)).1 = R ∧ (if (cm (L.drop j)).2 = true then (0 : Int) else 20) = E) (HD : L.drop j = x :: L.drop (j + 1)) (h8 : cl x ≠ 8) (h0 : cl x ≠ 0) :
    j + 1 + (cm (L.drop (j + 1))).1 = R ∧ (if (cm (L.drop (j + 1))).2 = true then (0 : Int) else 20) = E := by
  rw [HD] at H
  simp only [cm, h8, h0, if_false] at H
  exact ⟨by omega, H.2⟩

theorem com_any (w : World) (b o c : Nat) (L : List UInt8) (hA : At w b o L) (hm : L.length ≤ 9223372036854775807) (k : Nat) (hk : k ≤ L.length) :
    Calls Tryd.prog 41 #[.slice (some ⟨b, o, none⟩) L.length c, .int .i64 k] w fun e w' =>
      e = .returned (.tuple #[.int .i64 ((k + (cm (L.drop k)).1 : Nat) : Int), .int .i64 (if (cm (L.drop k)).2 = true then 0 else 20)]) ∧ w' = w := by
  obtain ⟨R, hR⟩ : ∃ R, R = k + (cm (L.drop k)).1 := ⟨_, rfl⟩
  obtain ⟨E, hE⟩ : ∃ E : Int, E = if (cm (L.drop k)).2 = true then 0 else 20 := ⟨_, rfl⟩
  rw [← hR, ← hE]
  have HR : Hid (k + (cm (L.drop k)).1 = R ∧ (if (cm (L.drop k)).2 = true then (0 : Int) else 20) = E) := ⟨hR.symm, hE.symm⟩
  clear hR hE
  obtain ⟨n, hn⟩ : ∃ n, n = L.length := ⟨_, rfl⟩
  rw [← hn] at hm hk ⊢
  have HN : Hid (n = L.length) := hn
  clear hn
  have HA : Hid (At w b o L) := hA
  clear hA
  go_enter Tryd.func41, Tryd.ntmps41
  go_wp2
  go_step3
  go_wp2
  go_step3
  go_wp2
  go_loop [1] (fun v => ∃ j : Nat, j ≤ n ∧ v = .int .i64 j ∧ Hid (j + (cm (L.drop j)).1 = R ∧ (if (cm (L.drop j)).2 = true then (0 : Int) else 20) = E)) (fun v => n - (intOf v).toNat)
  case atStart => exact ⟨k, hk, rfl, HR⟩
  case round =>
    obtain ⟨j, hj, rfl, HJ⟩ := hrel
    by_cases hlt : j < n
    · obtain ⟨x, hx⟩ : ∃ x, x = L[j]'(HN.out ▸ hlt) := ⟨_, rfl⟩
      have hcell := HA.out.2 j (HN.out ▸ hlt)
      rw [← hx] at hcell
      have HD : Hid (L.drop j = x :: L.drop (j + 1)) := by rw [hx]; exact List.drop_eq_getElem_cons _
      clear hx
      rcases cl_cases x with ⟨hcl, h⟩ | ⟨hcl, h⟩ | ⟨hcl, h⟩ | ⟨hcl, h⟩ | ⟨hcl, h⟩ | ⟨hcl, h⟩
      all_goals
        go_wp2_with (go_at_call 39; refine (cls_any _ _).mono ?_; rintro e w' ⟨rfl, rfl⟩)
      all_goals first
        | (go_round; (case rel => exact ⟨j + 1, by omega, by go_num, cm_next HJ.out HD.out (by omega) (by omega)⟩); (case measure => simp [intOf]; omega))
        | ((try rw [Exit.noGoto_ret]); go_ret2; have H := HJ.out; rw [HD.out] at H; simp [cm, hcl] at H; exact ⟨ret_two (by omega) H.2, rfl⟩)
    · go_wp2
      go_ret2
      have H := HJ.out
      rw [List.drop_of_length_le (by have := HN.out; omega)] at H
      simp [cm] at H
      exact ⟨ret_two (by omega) H.2, rfl⟩
end Go.Proofs.YteiambniddddpaaDoor
