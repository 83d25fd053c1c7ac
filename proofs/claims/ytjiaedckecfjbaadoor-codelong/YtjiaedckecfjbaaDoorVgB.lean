import Derived.Test.YtjiaedckecfjbaaDoorCyH
set_option linter.unusedVariables false
set_option linter.unusedSimpArgs false
namespace Go.Proofs.YtjiaedckecfjbaaDoor
open Go.ChangeShapes Go.WideShapes Go.ChangeAt Go.RowKit Go.Maps Go.WideMaps

theorem num_any (w : World) (x : Int) : Calls Tryd.prog 12 #[.int .i64 x] w fun e w' => e = .returned (.int .i64 x) ∧ w' = w := by
  go_enter Tryd.func12, Tryd.ntmps12
  go_wp2_with fail
  go_ret
  exact ⟨rfl, rfl⟩
/-- What fits answers. -/
structure FitP (w w' : World) (cn fn : Nat) (e : Ending) : Prop where
  out : ∃ T, e = .returned (.bool T) ∧ (T = true → cn ≤ 50000 ∧ fn ≤ 1000) ∧ Below w.heap.size w w'
set_option maxRecDepth 100000 in
set_option maxHeartbeats 4000000 in
theorem fitsC_any (w : World) (ca : Option Addr) (cn cc : Nat) (fa : Option Addr) (fn fc : Nat) (m : Int) (FS : List Rf) (hfn : fn = FS.length) (hF : StsG w fa fc 5 (FS.map rfv)) (hlen : cn ≤ 140737488351232) (hfl : fn ≤ 140737488351232) (hn : ∀ f ∈ FS, f.name.size ≤ 140737488351232) :
    Calls Tryd.prog 9 #[.agg #[.slice ca cn cc, .slice fa fn fc, .int .i64 m]] w fun e w' => FitP w w' cn fn e := by
  obtain ⟨W1, hW1⟩ : ∃ W, W = w.alloc (.cells #[.slice ca cn cc, .slice fa fn fc, .int .i64 m] 25) := ⟨_, rfl⟩
  obtain ⟨p, hp⟩ : ∃ p, p = w.heap.size := ⟨_, rfl⟩
  have k0 : W1.heap[p]? = some (.cells #[.slice ca cn cc, .slice fa fn fc, .int .i64 m] 25 (0, 0)) := by rw [hW1, hp]; exact heap_alloc_new _ _
  have b1 : Below w.heap.size w W1 := by rw [hW1]; exact below_newX _ _
  have HB1 : Hid (Below w.heap.size w W1) := b1
  have HF : Hid (fn = FS.length ∧ StsG W1 fa fc 5 (FS.map rfv) ∧ ∀ f ∈ FS, f.name.size ≤ 140737488351232) := ⟨hfn, hF.below b1 (Nat.le_refl _), hn⟩
  have p0 : W1.cell? ⟨p, 0, none⟩ = some (.slice ca cn cc) := cell_arr k0 rfl
  have p1 : W1.cell? ⟨p, 1, none⟩ = some (.slice fa fn fc) := cell_arr k0 rfl
  have lp := (Array.getElem?_eq_some_iff.1 k0).1
  clear hfn hF hn b1 k0
  go_enter Tryd.func9, Tryd.ntmps9
  go_upto_region 1 with fail
  rw [← hW1, ← hp]
  clear hW1 hp
  go_wp2_with fail
  go_loopw [3, 4] (fun nv iv wr => ∃ (k : Nat) (n : Int), k ≤ fn ∧ iv = .int .i64 (k : Int) ∧ nv = .int .i64 n ∧ ((cn : Int) ≤ n ∧ n ≤ 1000000000000000) ∧ wr = W1) (fun _ iv _ => fn - (intOf iv).toNat)
  case atStart => exact ⟨0, cn, Nat.zero_le _, rfl, rfl, by omega, rfl⟩
  case round =>
    obtain ⟨k, n, hk, rfl, rfl, hn, rfl⟩ := hrel
    by_cases hlt : k < fn
    · by_cases hn5 : n ≤ 50000
      · have hk2 : k < FS.length := by have := HF.out.1; omega
        obtain ⟨b, o, rfl, hlb, hqa⟩ := HF.out.2.1.at (j := k) (by simpa using hk2)
        have eg : (FS.map rfv).getD k [] = rfv FS[k] := by simp [List.getD, hk2]
        rw [eg] at hqa
        have c0 : wr.cell? ⟨b, o + k * 5, none⟩ = some (.string FS[k].name) := hqa 0 _ rfl
        have hsz := HF.out.2.2 FS[k] (List.getElem_mem hk2)
        generalize FS[k].name = s at c0 hsz
        have hfx : fn ≤ fc := by have q := HF.out.2.1.le; rw [List.length_map] at q; have := HF.out.1; omega
        have hfm := HF.out.2.1.mx
        clear hqa eg hk2
        go_wp2_with fail
        refine ⟨⟨k + 1, n + 1 + (s.size : Int) / 64, by omega, by simp, rfl, by omega, trivial⟩, ?_⟩
        simp [intOf]
        omega
      · go_wp2_with fail
        go_ret
        exact ⟨⟨false, rfl, (fun h => by cases h), HB1.out⟩⟩
    · by_cases hn5 : n ≤ 50000
      · go_wp2_with fail
        go_ret
        exact ⟨⟨_, rfl, (fun h => by have := of_decide_eq_true h; omega), HB1.out⟩⟩
      · go_wp2_with fail
        go_ret
        exact ⟨⟨false, rfl, (fun h => by cases h), HB1.out⟩⟩
/-- What same answers. -/
structure SamP (w w' : World) (T : Bool) (e : Ending) : Prop where
  out : e = .returned (.bool T) ∧ Below w.heap.size w w'
/-- Codes held by boxes. -/
structure SmB (W : World) (p : Nat) (ca : Option Addr) (cn cc : Nat) (fa : Option Addr) (fn fc : Nat) (m : Int) : Prop where
  out : W.heap[p]? = some (.cells #[.slice ca cn cc, .slice fa fn fc, .int .i64 m] 25 (0, 0))
theorem ins_neq (a0 a1 a2 a3 a4 b0 b1 b2 b3 b4 : Int) (W : World) : (binOp BinOp.neq 55 (.agg #[.int .i64 a0, .int .i64 a1, .int .i64 a2, .int .i64 a3, .int .i64 a4]) (.agg #[.int .i64 b0, .int .i64 b1, .int .i64 b2, .int .i64 b3, .int .i64 b4])).run Tryd.prog W = .ok (.bool (!decide (a0 = b0 ∧ a1 = b1 ∧ a2 = b2 ∧ a3 = b3 ∧ a4 = b4))) W := by
  by_cases h0 : a0 = b0 <;> by_cases h1 : a1 = b1 <;> by_cases h2 : a2 = b2 <;> by_cases h3 : a3 = b3 <;> by_cases h4 : a4 = b4 <;> simp [go_sem, h0, h1, h2, h3, h4]
theorem fun_neq (a0 : ByteArray) (a1 a2 a3 a4 : Int) (b0 : ByteArray) (b1 b2 b3 b4 : Int) (W : World) : (binOp BinOp.neq 40 (.agg #[.string a0, .int .i64 a1, .int .i64 a2, .int .i64 a3, .int .i64 a4]) (.agg #[.string b0, .int .i64 b1, .int .i64 b2, .int .i64 b3, .int .i64 b4])).run Tryd.prog W = .ok (.bool (!decide (a0 = b0 ∧ a1 = b1 ∧ a2 = b2 ∧ a3 = b3 ∧ a4 = b4))) W := by
  have hs : (a0.toList == b0.toList) = decide (a0 = b0) := by
    rw [ByteArray.toList_eq, ByteArray.toList_eq]
    obtain ⟨⟨x⟩⟩ := a0
    obtain ⟨⟨y⟩⟩ := b0
    by_cases h : x = y
    · subst h
      simp
    · have h2 : ¬ ((⟨⟨x⟩⟩ : ByteArray) = ⟨⟨y⟩⟩) := fun e => h (by injection e with e; injection e)
      rw [decide_eq_false h2]
      simpa using h
  by_cases h0 : a0 = b0 <;> by_cases h1 : a1 = b1 <;> by_cases h2 : a2 = b2 <;> by_cases h3 : a3 = b3 <;> by_cases h4 : a4 = b4 <;> simp [go_sem, hs, h0, h1, h2, h3, h4]
theorem ri_eq (x y : Ri) : (x.op = y.op ∧ x.a = y.a ∧ x.b = y.b ∧ x.c = y.c ∧ x.n = y.n) ↔ x = y := by
  constructor
  · obtain ⟨a, b, c, d, e⟩ := x
    obtain ⟨a', b', c', d', e'⟩ := y
    rintro ⟨rfl, rfl, rfl, rfl, rfl⟩
    rfl
  · rintro rfl
    exact ⟨rfl, rfl, rfl, rfl, rfl⟩
theorem rf_eq (x y : Rf) : (x.name = y.name ∧ x.fr = y.fr ∧ x.fi = y.fi ∧ x.ct = y.ct ∧ x.pa = y.pa) ↔ x = y := by
  constructor
  · obtain ⟨a, b, c, d, e⟩ := x
    obtain ⟨a', b', c', d', e'⟩ := y
    rintro ⟨rfl, rfl, rfl, rfl, rfl⟩
    rfl
  · rintro rfl
    exact ⟨rfl, rfl, rfl, rfl, rfl⟩
end Go.Proofs.YtjiaedckecfjbaaDoor
