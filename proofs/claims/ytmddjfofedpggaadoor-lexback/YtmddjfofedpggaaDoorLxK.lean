import Derived.Test.YtmddjfofedpggaaDoorLxJ
set_option linter.unusedVariables false
namespace Go.Proofs.YtmddjfofedpggaaDoor
open Go.ChangeShapes Go.WideShapes Go.ChangeAt Go.RowKit

def bvs (L : List UInt8) : List Value := L.map fun c => Value.int .u8 (c.toNat : Int)
theorem bvs_len (L : List UInt8) : (bvs L).length = L.length := by simp [bvs]
theorem bvs_at (L : List UInt8) (i : Nat) (h : i < L.length) : (bvs L)[i]? = some (.int .u8 (L[i].toNat : Int)) := by simp [bvs, h]
theorem bvs_one (L : List UInt8) : ∀ u ∈ bvs L, u.oneCell' = true := by
  intro u hu
  simp [bvs] at hu
  obtain ⟨a, _, rfl⟩ := hu
  rfl

theorem At.news {w b o M} (h : At w b o M) : ∀ j u, (bvs M)[j]? = some u → w.cell? ((⟨b, o, none⟩ : Addr).add j) = some u := by
  intro j u hj
  have hl : j < M.length := by
    rcases Nat.lt_or_ge j M.length with h | h
    · exact h
    · rw [List.getElem?_eq_none (by rw [bvs_len]; exact h)] at hj; cases hj
  rw [bvs_at M j hl] at hj
  have e : (⟨b, o, none⟩ : Addr).add j = ⟨b, o + j, none⟩ := by unfold Addr.add; split <;> simp_all
  rw [e, h.2 j hl]
  exact hj
theorem Txt.news {w ad cap L} (h : Txt w (some ad) cap L) : ∀ j u, (bvs L)[j]? = some u → w.cell? (ad.add j) = some u := by
  intro j u hj
  by_cases hn : L = []
  · subst hn; simp [bvs] at hj
  · obtain ⟨b, o, e, hA⟩ := h.2.2 hn
    cases e
    exact hA.news j u hj

theorem info5 : (Tryd.prog.info? 5).map (fun i => (i.zero, i.size, i.bytes)) = some (some (.int .u8 0), 1, 1) := by kernel_rfl

theorem cell_one_new (w : World) (a : Value) (t : TypeId) : ∀ j u, [a][j]? = some u → (w.alloc (.cells #[a] t)).cell? ((⟨w.heap.size, 0, none⟩ : Addr).add j) = some u := by
  intro j u hj
  match j, hj with
  | 0, hj => simp at hj; subst hj; simp [Addr.add]
  | j + 1, hj => simp at hj

/-- A slice of bytes in a row of its own from block B on. -/
structure OwnB (w : World) (B : Nat) (v : Value) (n : Nat) (M : List UInt8) : Prop where
  len : n = M.length
  out : w.ownsRow B 5 1 v n (bvs M)
theorem OwnB.nil (w : World) (B : Nat) : OwnB w B (.slice none 0 0) 0 [] := ⟨rfl, World.ownsRow_nil _ _ _ _⟩
theorem OwnB.keep {w w' B v n M} (h : OwnB w B v n M) (hb : Below w.heap.size w w') : OwnB w' B v n M := ⟨h.len, own_keep h.out hb.block⟩

theorem bvs_append (A B : List UInt8) : bvs (A ++ B) = bvs A ++ bvs B := by simp [bvs]

/-- append(c, x...) of bytes. -/
theorem wpList_append_bytes {w : World} {ops : Array Oper} {rest : List Oper} {op : Oper} {a : Act} {Q : Exit → Act → World → Prop} (hgd : op.guard = none) (s x : Operand)
    (ho : op.op = .call { callee := .builtin .append, args := #[s, x], argTypes := #[22, 22] })
    (B : Nat) (v : Value) (n : Nat) (M : List UInt8) (hs : a.eval s = v) (hown : OwnB w B v n M) (ao : Option Addr) (m cap : Nat) (X : List UInt8) (hx : a.eval x = .slice ao m cap) (hm : m = X.length) (hX : Txt w ao cap X) (hnil : ao = none → cap = 0)
    (hl : n + m ≤ 100000000) (hB : B ≤ w.heap.size)
    (h : ∀ v' w', OwnB w' B v' (n + m) (M ++ X) → Below B w w' → (∀ K, B ≤ K → (∀ g, v.ownBlock = some g → K ≤ g) → K ≤ w.heap.size → Below K w w') → wpList Tryd.prog ops Q rest (a.put op.dst v') w') : wpList Tryd.prog ops Q (op :: rest) a w := by
  subst hm
  obtain ⟨i0, hi, hz0, hz1, hz2⟩ := info_parts info5
  cases ao with
  | none =>
    have hX0 : X = [] := by
      apply Classical.byContradiction
      intro hn
      obtain ⟨b, o, e, _⟩ := hX.2.2 hn
      cases e
    subst hX0
    have hc := hnil rfl
    subst hc
    refine wpList_append_own_none hgd s x 22 ho B 5 i0 1 Tryd.underlying22 hi v n (bvs M) hs hown.out hx ?_
    exact h v w ⟨by simp; exact hown.len, by simpa using hown.out⟩ (Below.refl _ _) (fun K _ _ _ => Below.refl _ _)
  | some ad =>
    refine wpList_append_own _ hgd s x 22 ho B 5 i0 (.int .u8 0) 1 1 Tryd.underlying22 hi hz0 hz1 hz2 rfl (by decide) v n (bvs M) hs hown.out ad X.length cap (bvs X) hx (by rw [bvs_len]; omega) hX.news (bvs_one X) (by unfold maxLen; omega) (by omega) hB ?_
    intro v' w' h1 h2 _
    refine h v' w' ⟨by simp; exact hown.len, by rw [bvs_append]; exact h1⟩ ((Below.refl _ _).grown h2 hB (fun k hk => (own_block hown.out hk).1)) (fun K hK hg hs => (Below.refl _ _).grown h2 hs hg)

/-- The mark behind what is lent. -/
def mk (i : Nat) : Value := .int .u8 (wrap64 (167 + (i : Int)) % 256)

structure Lent (w : World) (B g cap : Nat) (L : List UInt8) : Prop where
  base : B ≤ g
  room : L.length + 40 ≤ cap
  most : cap ≤ 9223372036854775807
  row : ∃ f, w.rowIs g 5 cap f ∧ (∀ i (h : i < L.length), f i = .int .u8 (L[i].toNat : Int)) ∧ (∀ i, L.length ≤ i → i < cap → f i = mk i)

set_option maxRecDepth 10000 in
set_option maxHeartbeats 2000000 in
theorem lend_any (w : World) (ao : Option Addr) (cap n : Nat) (L : List UInt8) (hn : n = L.length) (hT : Txt w ao cap L) (hnil : ao = none → cap = 0) (hl : n ≤ 4194304) :
    Calls Tryd.prog 19 #[.slice ao n cap] w fun e w' => (∃ g c, e = .returned (.slice (some ⟨g, 0, none⟩) c c) ∧ Lent w' w.heap.size g c L) ∧ Below w.heap.size w w' := by
  have HN : Hid (n = L.length) := hn
  clear hn
  go_enter Tryd.func19, Tryd.ntmps19
  go_wp2_with (first | (at_builtin; refine wpList_append_bytes rfl _ _ rfl w.heap.size _ 0 [] rfl (OwnB.nil _ _) ao n cap L rfl HN.out hT hnil (by omega) (Nat.le_refl _) ?_; intro v1 w1 hown1 hb1 _))
  simp only [Nat.zero_add, List.nil_append] at hown1
  go_loopw [3, 4] (fun v c wr => ∃ i : Nat, i ≤ 40 ∧ c = .int .i64 i ∧ OwnB wr w.heap.size v (n + i) (L ++ List.replicate i 0) ∧ Below w.heap.size w wr) (fun _ c _ => 40 - (intOf c).toNat)
  case atStart => exact ⟨0, by omega, rfl, by simpa using hown1, hb1⟩
  case round =>
    obtain ⟨i, hi, rfl, hown, hbl⟩ := hrel
    by_cases hlt : i < 40
    · have hbs := hbl.size
      go_wp2_with (first | (at_builtin; refine wpList_append_bytes rfl _ _ rfl w.heap.size _ (n + i) _ rfl (hown.keep ((Below.refl _ _).alloc (Nat.le_refl _) _)) (some ⟨wr.heap.size, 0, none⟩) 1 1 [0] rfl rfl (Txt.of_at (alloc_at wr #[.int .u8 0] 5 _ [0] rfl) (by decide) (by omega)) (fun h => by cases h) (by omega) (by simp; omega) ?_; intro v2 w2 hown2 hb2 _))
      have hown3 : OwnB w2 w.heap.size v2 (n + (i + 1)) (L ++ List.replicate (i + 1) 0) := by
        rw [List.append_assoc, ← List.replicate_succ'] at hown2; rw [← Nat.add_assoc]; exact hown2
      have hb3 : Below w.heap.size w w2 := (hbl.alloc hbs _).trans hb2
      clear hown2 hb2
      go_roundw
      case rel => exact ⟨i + 1, by omega, by go_num, hown3, hb3⟩
      case measure => simp [intOf]; omega
    · have h40 : i = 40 := by omega
      subst h40
      obtain ⟨g, c, cur, hv, e2, e3, e4, e5, e6, e7⟩ : ∃ g c cur, u3 = .slice (some ⟨g, 0, none⟩) (n + 40) c ∧ w.heap.size ≤ g ∧ wr.heap[g]? = some (.cells cur 5 (0, 0)) ∧ n + 40 ≤ c ∧ c ≤ maxLen ∧ cur.size = c * 1 ∧ cur.toList.take ((n + 40) * 1) = bvs (L ++ List.replicate 40 0) := by
        rcases hown.out.2 with ⟨_, h⟩ | h
        · omega
        · exact h
      subst hv
      have hc : c ≤ 9223372036854775807 := e5
      have HF : ∃ f, wr.rowIs g 5 c f ∧ (∀ i (h : i < L.length), f i = .int .u8 (L[i].toNat : Int)) := by
        refine ⟨fun i => cur.getD i default, ⟨cur, e3, by omega, fun i hi => by simp [Array.getD, show i < cur.size by omega]⟩, fun i hi => ?_⟩
        have h1 := bvs_at (L ++ List.replicate 40 0) i (by simp; omega)
        rw [← e7, List.getElem?_take, if_pos (by have := HN.out; omega)] at h1
        have h2 : cur[i]? = some (.int .u8 (L[i].toNat : Int)) := by
          rw [← Array.getElem?_toList, h1, List.getElem_append_left hi]
        obtain ⟨h3, h4⟩ := Array.getElem?_eq_some_iff.1 h2
        simp [Array.getD, h3, h4]
      clear e3 e5 e6 e7 hown hown1
      go_wp2_with fail
      go_loopw [5] (fun v wr => ∃ i : Nat, n ≤ i ∧ i ≤ c ∧ v = .int .i64 i ∧ Below w.heap.size w wr ∧ ∃ f, wr.rowIs g 5 c f ∧ (∀ i (h : i < L.length), f i = .int .u8 (L[i].toNat : Int)) ∧ (∀ k, L.length ≤ k → k < i → f k = mk k)) (fun v _ => c - (intOf v).toNat)
      case atStart =>
        obtain ⟨f, h1, h2⟩ := HF
        exact ⟨n, by omega, by omega, rfl, hbl, f, h1, h2, fun k a b => by have := HN.out; omega⟩
      case round =>
        obtain ⟨i, hi1, hi2, rfl, hb4, f, hrow, hf1, hf2⟩ := hrel
        by_cases hlt2 : i < c
        · have hce := hrow.cell hlt2
          have hfr := hrow.frozen i
          obtain ⟨fi, hfi⟩ : ∃ fi, fi = f i := ⟨_, rfl⟩
          rw [← hfi] at hce
          clear hfi
          have HROW := hrow
          go_wp2_with fail
          go_roundw
          case rel => exact ⟨i + 1, by omega, by omega, by go_num, hb4.setCell (p := ⟨g, i, none⟩) e2 _, _, HROW.set i _, fun k hk => by
            rw [if_neg (by have := HN.out; omega)]; exact hf1 k hk, fun k a b => by
            by_cases hki : k = i
            · rw [if_pos hki, hki]; rfl
            · rw [if_neg hki]; exact hf2 k a (by omega)⟩
          case measure => simp [intOf]; omega
        · have hic : i = c := by omega
          subst hic
          go_wp2_with fail
          go_ret
          exact ⟨⟨g, i, rfl, e2, by have := HN.out; omega, hc, f, hrow, hf1, hf2⟩, hb4⟩

theorem conv_zero (w : World) (p : Option Addr) (c : Nat) : (convert 22 9 (.slice p 0 c)).run Tryd.prog w = .ok (.string (bs [])) w := by
  rw [run_convert_bytes_string (P := Tryd.prog) w 22 9 5 _ 0 c Tryd.underlying22 Tryd.underlying5 Tryd.underlying9]
  cases p with
  | none => simp [Conv.bytesToString]; rfl
  | some a => simp [Conv.bytesToString, loadCells, loadCellsFrom]; rfl
theorem Txt.conv {w ao cap L} (h : Txt w ao cap L) (n : Nat) (hn : n = L.length) : (convert 22 9 (.slice ao n cap)).run Tryd.prog w = .ok (.string (bs L)) w := by
  subst hn
  by_cases hL : L = []
  · subst hL; exact conv_zero w ao cap
  · obtain ⟨b, o, rfl, hA⟩ := h.2.2 hL
    exact hA.conv cap

theorem Lent.at {w B g cap L} (h : Lent w B g cap L) : At w g 0 L := by
  obtain ⟨f, hr, hf, _⟩ := h.row
  refine ⟨hr.lt, fun i hi => ?_⟩
  have := hr.cell (i := i) (by have := h.room; omega)
  rw [Nat.zero_add, this, hf i hi]
theorem Lent.below {w w' B g cap L K} (h : Lent w B g cap L) (hb : Below K w w') (hK : g < K) : Lent w' B g cap L := by
  obtain ⟨f, hr, hf⟩ := h.row
  exact ⟨h.base, h.room, h.most, f, hr.of_block (hb.block g hK), hf⟩
theorem Lent.lt {w B g cap L} (h : Lent w B g cap L) : g < w.heap.size := by
  obtain ⟨f, hr, hf⟩ := h.row
  exact hr.lt
theorem Txt.drewN {w ao cap L} (h : Txt w ao cap L) (q : Nat) : Txt (w.drewN q) ao cap L := h.below (below_drewN (Below.refl w.heap.size w) q) (Nat.le_refl _)

set_option maxRecDepth 10000 in
set_option maxHeartbeats 2000000 in
theorem kept_any (w : World) (B g c : Nat) (ao : Option Addr) (cap n : Nat) (L : List UInt8) (hn : n = L.length) (hLt : Lent w B g c L) (hT : Txt w ao cap L) (hl : n ≤ 4194304) :
    Calls Tryd.prog 21 #[.slice (some ⟨g, 0, none⟩) c c, .slice ao n cap] w fun e w' => e = .returned (.bool true) ∧ Below w.heap.size w w' := by
  have HN : Hid (n = L.length) := hn
  clear hn
  have hroom : n + 40 ≤ c := by have := hLt.room; have := HN.out; omega
  have hmost := hLt.most
  obtain ⟨f, hrow, hf1, hf2⟩ := hLt.row
  go_enter Tryd.func21, Tryd.ntmps21
  go_wp2
  go_loop [6] (fun v => ∃ i : Nat, n ≤ i ∧ i ≤ c ∧ v = .int .i64 i) (fun v => c - (intOf v).toNat)
  case atStart => exact ⟨n, by omega, by omega, rfl⟩
  case round =>
    obtain ⟨i, hi1, hi2, rfl⟩ := hrel
    by_cases hlt : i < c
    · have hce := hrow.cell hlt
      rw [hf2 i (by have := HN.out; omega) hlt] at hce
      unfold mk at hce
      obtain ⟨z, hz⟩ : ∃ z, z = wrap64 (167 + (i : Int)) % 256 := ⟨_, rfl⟩
      have HF2 : Hid _ := hf2
      have HF1 : Hid _ := hf1
      clear hf2 hf1 hz
      go_wp2
      go_round
      case rel => exact ⟨i + 1, by omega, by omega, by go_num⟩
      case measure => simp [intOf]; omega
    · have hic : i = c := by omega
      subst hic
      obtain ⟨s, hs⟩ : ∃ s, s = bs L := ⟨_, rfl⟩
      have hcv1 : ∀ q, (convert 22 9 (.slice (some ⟨g, 0, none⟩) n i)).run Tryd.prog (w.drewN q) = .ok (.string s) (w.drewN q) := fun q => by
        rw [hs]; have := (hLt.at.drewN q).conv i; rwa [← HN.out] at this
      have hcv2 : ∀ q, (convert 22 9 (.slice ao n cap)).run Tryd.prog (w.drewN q) = .ok (.string s) (w.drewN q) := fun q => by
        rw [hs]; exact (hT.drewN q).conv n HN.out
      have HF2 : Hid _ := hf2
      have HF1 : Hid _ := hf1
      have hgI : (n : Int) + 40 ≤ (i : Int) := by omega
      clear hf2 hf1 hs
      go_wp2
      go_quiet (fail)
      go_wp2
      go_ret
      exact ⟨ret_bool (by simp), below_drewN (Below.refl _ _) _⟩
end Go.Proofs.YtmddjfofedpggaaDoor
