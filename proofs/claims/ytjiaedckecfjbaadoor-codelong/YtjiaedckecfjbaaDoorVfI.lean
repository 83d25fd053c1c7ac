import Derived.Test.YtjiaedckecfjbaaDoorVfH
set_option linter.unusedVariables false
set_option linter.unusedSimpArgs false
namespace Go.Proofs.YtjiaedckecfjbaaDoor
open Go.ChangeShapes Go.WideShapes Go.ChangeAt Go.RowKit Go.Maps

set_option maxRecDepth 100000 in
theorem hold_yes (w : World) (x : Int) : Calls Tryd.prog 32 #[.bool true, .int .i64 x] w fun e w' => e = .returned (.tuple #[]) ∧ w = w' := by
  go_enter Tryd.func32, Tryd.ntmps32
  go_wp2_with fail
  exact bodyPost_end (v := .tuple #[]) (by simp [results, Tryd.results32, go_sem]) rfl ⟨rfl, rfl⟩
/-- What is thrown. -/
def thrC (x : Int) : Ending := .panicked [{ v := .iface 52 (.int .i64 x), recovered := false }]
set_option maxRecDepth 100000 in
theorem hold_no (w : World) (x : Int) : Calls Tryd.prog 32 #[.bool false, .int .i64 x] w fun e w' => e = thrC x ∧ w = w' := by
  unfold thrC
  go_enter Tryd.func32, Tryd.ntmps32
  go_wp2_with fail
  exact ⟨rfl, rfl, rfl⟩
/-- Bytes as a number, the lowest first. -/
def valN : List Int → Nat
  | [] => 0
  | x :: L => x.toNat + 256 * valN L
theorem valN_snoc (L : List Int) (x : Int) : valN (L ++ [x]) = valN L + x.toNat * 2 ^ (8 * L.length) := by
  induction L with
  | nil => simp [valN]
  | cons y L ih =>
    show y.toNat + 256 * valN (L ++ [x]) = _
    rw [ih]
    show _ = y.toNat + 256 * valN L + x.toNat * 2 ^ (8 * (L.length + 1))
    rw [show 8 * (L.length + 1) = 8 * L.length + 8 by omega, Nat.pow_add, Nat.mul_add]
    have : 256 * (x.toNat * 2 ^ (8 * L.length)) = x.toNat * (2 ^ (8 * L.length) * 2 ^ 8) := by
      rw [show (2 : Nat) ^ 8 = 256 from rfl, Nat.mul_comm 256, Nat.mul_assoc]
    omega
theorem valN_lt (L : List Int) (h : ∀ x ∈ L, 0 ≤ x ∧ x < 256) : valN L < 2 ^ (8 * L.length) := by
  induction L with
  | nil => simp [valN]
  | cons y L ih =>
    have h1 := ih fun x hx => h x (by simp [hx])
    have h2 := h y (by simp)
    show y.toNat + 256 * valN L < 2 ^ (8 * (L.length + 1))
    rw [show 8 * (L.length + 1) = 8 * L.length + 8 by omega, Nat.pow_add, show (2 : Nat) ^ 8 = 256 from rfl]
    omega
theorem orC (v x k : Nat) (hv : v < 2 ^ k) (hs : v + x * 2 ^ k < 18446744073709551616) : bits .or .u64 (v : Int) ((x * 2 ^ k : Nat) : Int) = ((v + x * 2 ^ k : Nat) : Int) := by
  have e : bits .or .u64 (v : Int) ((x * 2 ^ k : Nat) : Int) = IntKind.u64.wrap (((BitVec.ofInt 64 (v : Int) ||| BitVec.ofInt 64 ((x * 2 ^ k : Nat) : Int)).toNat : Nat) : Int) := rfl
  have hx : x * 2 ^ k < 18446744073709551616 := by omega
  have h1 : (BitVec.ofInt 64 (v : Int) ||| BitVec.ofInt 64 ((x * 2 ^ k : Nat) : Int)).toNat = v + x * 2 ^ k := by
    rw [BitVec.toNat_or]
    have a1 : (BitVec.ofInt 64 (v : Int)).toNat = v := by rw [BitVec.toNat_ofInt]; omega
    have a2 : (BitVec.ofInt 64 ((x * 2 ^ k : Nat) : Int)).toNat = x * 2 ^ k := by rw [BitVec.toNat_ofInt]; omega
    rw [a1, a2, Nat.or_comm, ← Nat.shiftLeft_eq, ← Nat.shiftLeft_add_eq_or_of_lt hv]
    omega
  rw [e, h1]
  show (((v + x * 2 ^ k : Nat) : Int)) % 18446744073709551616 = _
  omega
set_option maxRecDepth 100000 in
set_option maxHeartbeats 4000000 in
theorem numIn_any (w : World) {b o k : Nat} (L : List Int) (hk : k = L.length) (hk8 : k ≤ 8) (hL : ∀ x ∈ L, 0 ≤ x ∧ x < 256) (hb : b < w.heap.size) (hc : ∀ i (hi : i < L.length), w.cell? ⟨b, o + i, none⟩ = some (.int .u8 L[i])) :
    Calls Tryd.prog 42 #[.slice (some ⟨b, o, none⟩) k k] w fun e w' => e = .returned (.int .i64 (wrap64 (valN L : Int))) ∧ w = w' := by
  have HL : Hid (k = L.length ∧ (∀ x ∈ L, 0 ≤ x ∧ x < 256) ∧ ∀ i (hi : i < L.length), w.cell? ⟨b, o + i, none⟩ = some (.int .u8 L[i])) := ⟨hk, hL, hc⟩
  clear hk hL hc
  go_enter Tryd.func42, Tryd.ntmps42
  go_wp2_with fail
  go_loop [3, 4, 5, 8] (fun v3 v4 v5 v8 => ∃ (i n : Nat), i ≤ k ∧ v3 = .int .u64 (n : Int) ∧ v8 = .int .i64 (i : Int) ∧ Hid (n = valN (L.take i))) (fun v3 v4 v5 v8 => k - (intOf v8).toNat)
  case atStart => exact ⟨0, 0, Nat.zero_le _, rfl, rfl, by show 0 = valN (L.take 0); rw [List.take_zero]; rfl⟩
  case round =>
    obtain ⟨i, n, hi, rfl, rfl, HN⟩ := hrel
    by_cases hlt : i < k
    · have HLT : Hid (i < k) := hlt
      have hil : i < L.length := by have := HL.out.1; omega
      obtain ⟨x, hx⟩ : ∃ x : Nat, L[i] = (x : Int) ∧ x < 256 := ⟨(L[i]).toNat, by have := HL.out.2.1 L[i] (List.getElem_mem _); omega, by have := HL.out.2.1 L[i] (List.getElem_mem _); omega⟩
      have c0 : w.cell? ⟨b, o + i, none⟩ = some (.int .u8 (x : Int)) := by rw [← hx.1]; exact HL.out.2.2 i hil
      have hx2 := hx.2
      have HX : Hid (L[i] = (x : Int)) := hx.1
      have hi8 : i < 8 := by omega
      clear hx
      have HB : Hid (bits .or .u64 (n : Int) (IntKind.u64.wrap ((x : Int) * 2 ^ (8 * i))) = ((n + x * 2 ^ (8 * i) : Nat) : Int) ∧ n + x * 2 ^ (8 * i) = valN (L.take (i + 1))) := by
        have hlt2 : n < 2 ^ (8 * i) := by
          have := valN_lt (L.take i) (fun z hz => HL.out.2.1 z (List.mem_of_mem_take hz))
          rw [List.length_take, Nat.min_eq_left (by omega)] at this
          rw [HN.out]
          exact this
        have hv : n + x * 2 ^ (8 * i) = valN (L.take (i + 1)) := by
          rw [← List.take_append_getElem hil, valN_snoc, List.length_take, Nat.min_eq_left (by omega), HX.out, HN.out]
          rfl
        have hs : n + x * 2 ^ (8 * i) < 18446744073709551616 := by
          rw [hv]
          have := valN_lt (L.take (i + 1)) (fun z hz => HL.out.2.1 z (List.mem_of_mem_take hz))
          rw [List.length_take, Nat.min_eq_left (by omega)] at this
          refine Nat.lt_of_lt_of_le this ?_
          have h2 : 2 ^ (8 * (i + 1)) ≤ 2 ^ 64 := Nat.pow_le_pow_right (by omega) (by omega)
          exact h2
        refine ⟨?_, hv⟩
        have ew : IntKind.u64.wrap ((x : Int) * 2 ^ (8 * i)) = ((x * 2 ^ (8 * i) : Nat) : Int) := by
          have e : (x : Int) * 2 ^ (8 * i) = ((x * 2 ^ (8 * i) : Nat) : Int) := by push_cast; rfl
          rw [e]
          show ((x * 2 ^ (8 * i) : Nat) : Int) % 18446744073709551616 = _
          omega
        rw [ew]
        exact orC n x (8 * i) hlt2 hs
      go_wp2_with fail
      rw [HB.out.1]
      refine ⟨⟨i + 1, n + x * 2 ^ (8 * i), by have := HLT.out; omega, rfl, by go_num, HB.out.2⟩, ?_⟩
      have := HLT.out
      simp [intOf]
      omega
    · have hie : i = k := by omega
      have hn : n = valN L := by rw [HN.out, hie, HL.out.1, List.take_length]
      subst hn
      clear HN
      go_wp2_with fail
      go_ret
      exact ⟨rfl, rfl⟩
end Go.Proofs.YtjiaedckecfjbaaDoor
