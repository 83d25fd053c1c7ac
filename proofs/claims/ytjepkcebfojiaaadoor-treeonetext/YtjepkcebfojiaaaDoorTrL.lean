import Derived.Test.YtjepkcebfojiaaaDoorTrK
set_option linter.unusedVariables false
set_option linter.unusedSimpArgs false
namespace Go.Proofs.YtjepkcebfojiaaaDoor
open Go.ChangeShapes Go.WideShapes Go.ChangeAt Go.RowKit

/-- The printer in block pb, all its rows below F. -/
structure PSv (w : World) (B F pb : Nat) (nv : Value) (S : Ps) (tv dv : Value) (n m : Nat) : Prop where
  prv : PRv w pb nv tv dv S.opn
  txt : OwnB w B tv n S.text
  tod : OwnP w B dv m S.todo.reverse
  tlt : ∀ g, tv.ownBlock = some g → g < F
  dlt : ∀ g, dv.ownBlock = some g → g < F
  base : B ≤ pb
  lt : pb < F
structure PSt (w : World) (B F pb : Nat) (nv : Value) (S : Ps) : Prop where
  out : ∃ tv dv n m, PSv w B F pb nv S tv dv n m

theorem PRv.apartB {w pb nv tv dv o B v n L} (h : PRv w pb nv tv dv o) (hO : OwnB w B v n L) : v.ownBlock ≠ some pb := by
  intro hb
  rcases hO.out.2 with ⟨rfl, _⟩ | ⟨g, cap, cur, rfl, e2, e3, _⟩
  · simp [Value.ownBlock] at hb
  · simp [Value.ownBlock] at hb
    subst hb
    have := h.blk
    rw [e3] at this
    simp at this
theorem PSv.td {w B F pb nv S tv dv n m} (h : PSv w B F pb nv S tv dv n m) : ∀ g, tv.ownBlock = some g → dv.ownBlock ≠ some g := own_apart h.txt.out h.tod.out (by decide)
theorem PSv.move {w w' B F F' pb nv S tv dv n m} (h : PSv w B F pb nv S tv dv n m) (hk : ∀ g, g < F → w'.heap[g]? = w.heap[g]?) (hF : F ≤ F') : PSv w' B F' pb nv S tv dv n m :=
  ⟨⟨by rw [hk pb h.lt]; exact h.prv.blk⟩, ⟨h.txt.len, own_move h.txt.out fun g hg => hk g (h.tlt g hg)⟩, ⟨h.tod.len, own_move h.tod.out fun g hg => hk g (h.dlt g hg)⟩,
    fun g hg => Nat.lt_of_lt_of_le (h.tlt g hg) hF, fun g hg => Nat.lt_of_lt_of_le (h.dlt g hg) hF, h.base, Nat.lt_of_lt_of_le h.lt hF⟩
theorem PSt.below {w w' B F F' pb nv S} (h : PSt w B F pb nv S) (hb : Below F w w') (hF : F ≤ F') : PSt w' B F' pb nv S := by
  obtain ⟨tv, dv, n, m, h⟩ := h.out
  exact ⟨tv, dv, n, m, h.move hb.block hF⟩
theorem PSt.up {w B F F' pb nv S} (h : PSt w B F pb nv S) (hF : F ≤ F') : PSt w B F' pb nv S := h.below (Below.refl _ _) hF

/-- The text grown, its cell set. -/
theorem PSv.app {w W w2 : World} {B F pb nv S tv dv n m v2 k X} (h : PSv w B F pb nv S tv dv n m) (hF : F ≤ w.heap.size) (hW : ∀ g, g < w.heap.size → W.heap[g]? = w.heap[g]?) (hWs : w.heap.size ≤ W.heap.size) (hWb : Below B w W)
    (hO2 : OwnB w2 B v2 k (S.text ++ X)) (hG2 : W.grownBy w2 tv.ownBlock) :
    PRv w2 pb nv tv dv S.opn ∧ PSv (w2.setCell ⟨pb, 1, none⟩ v2) B (w2.setCell ⟨pb, 1, none⟩ v2).heap.size pb nv ⟨S.text ++ X, S.todo, S.opn⟩ v2 dv k m ∧ Below B w (w2.setCell ⟨pb, 1, none⟩ v2) := by
  have hold : ∀ g, g < w.heap.size → tv.ownBlock ≠ some g → w2.heap[g]? = w.heap[g]? := fun g hg hne => by
    rw [grown_at hG2 (by omega) hne]; exact hW g hg
  have hpb := h.lt
  have hP2 : PRv w2 pb nv tv dv S.opn := ⟨by rw [hold pb (by omega) (h.prv.apartB h.txt)]; exact h.prv.blk⟩
  have hv2 : v2.ownBlock ≠ some pb := hP2.apartB hO2
  have hs2 := hG2.size
  have hsz : (w2.setCell ⟨pb, 1, none⟩ v2).heap.size = w2.heap.size := by simp [World.setCell]
  have hdv : ∀ g, dv.ownBlock = some g → (w2.setCell ⟨pb, 1, none⟩ v2).heap[g]? = w.heap[g]? := fun g hg => by
    rw [heap_set_other (fun e => h.prv.apart h.tod (by rw [← e]; exact hg))]
    exact hold g (by have := h.dlt g hg; omega) (fun e => h.td g e hg)
  refine ⟨hP2, ⟨⟨heap_set_at hP2.blk⟩, ⟨hO2.len, own_move hO2.out fun g hg => heap_set_other (fun e => hv2 (e ▸ hg))⟩, ⟨h.tod.len, own_move h.tod.out hdv⟩, fun g hg => ?_, fun g hg => ?_, h.base, by rw [hsz]; omega⟩, ?_⟩
  · rw [hsz]; exact (own_block hO2.out hg).2
  · have := h.dlt g hg; rw [hsz]; omega
  · exact ((hWb.grown hG2 (by have := h.base; omega) (fun k hk => (own_block h.txt.out hk).1))).setCell (p := ⟨pb, 1, none⟩) h.base _

theorem put_st (w : World) (B F pb : Nat) (nv : Value) (S : Ps) (L : List Pt) (n : Nat) (pa : Option Addr) (cap : Nat) (hS : PSt w B F pb nv S) (hF : F ≤ w.heap.size) (hL : PtV w pa cap L) (hn : n = L.length) (hmn : S.todo.length + n ≤ 100000000) (hap : ∀ g, pa = some ⟨g, 0, none⟩ → F ≤ g) :
    Calls Tryd.prog 17 #[.pointer (some ⟨pb, 0, none⟩), .slice pa n cap] w fun e w' => e = .returned (.tuple #[]) ∧ PSt w' B w'.heap.size pb nv ⟨S.text, L ++ S.todo, S.opn⟩ ∧ Below B w w' ∧ (∀ a v, (F ≤ a.block ∨ a.block < B) → w.cell? a = some v → w'.cell? a = some v) := by
  obtain ⟨tv, dv, n1, m1, h⟩ := hS.out
  have hm1 : m1 = S.todo.length := by have := h.tod.len; simpa using this
  refine (put_any w B pb nv tv dv S.opn m1 n S.todo.reverse L pa cap h.prv h.tod hL hn h.base (by omega) (fun g hg => ?_)).mono ?_
  · have h1 := hap g hg
    have h2 := h.lt
    exact ⟨by omega, fun e => by have := h.dlt g e; omega⟩
  · rintro e w' ⟨rfl, dv', HI⟩
    have hs := HI.bel.size
    refine ⟨rfl, ⟨tv, dv', n1, m1 + n, HI.prv, ⟨h.txt.len, own_move h.txt.out fun g hg => HI.oth g (by have := h.tlt g hg; omega) (fun e => h.prv.apartB h.txt (e ▸ hg)) (h.td g hg)⟩, by simpa using HI.own, fun g hg => by have := h.tlt g hg; omega, fun g hg => (own_block HI.own.out hg).2, h.base, HI.prv.lt⟩, HI.bel, fun a v ha hv => ?_⟩
    have hlt : a.block < w.heap.size := block_lt_of_cell hv
    have e : w'.heap[a.block]? = w.heap[a.block]? := by
      rcases ha with ha | ha
      · exact HI.oth a.block hlt (by have := h.lt; omega) (fun e => by have := h.dlt _ e; omega)
      · exact HI.bel.block a.block ha
    rw [World.cell?_of_block e]; exact hv

theorem infoB : (Tryd.prog.info? 5).map (fun i => (i.zero, i.size, i.bytes)) = some (some (.int .u8 0), 1, 1) := by kernel_rfl
/-- append(text, c): the one byte in a new row behind all others. -/
theorem wpList_append_byte {w0 : World} {ops : Array Oper} {rest : List Oper} {op : Oper} {a : Act} {Q : Exit → Act → World → Prop} (hgd : op.guard = none) (s x : Operand)
    (ho : op.op = .call { callee := .builtin .append, args := #[s, x], argTypes := #[28, 28] })
    (B : Nat) (v : Value) (n : Nat) (M : List UInt8) (c : UInt8) (hs : a.eval s = v) (hown : OwnB w0 B v n M) (hx : a.eval x = .slice (some ⟨w0.heap.size, 0, none⟩) 1 1)
    (hl : n + 1 ≤ 1000000000) (hB : B ≤ w0.heap.size)
    (h : ∀ v' w', OwnB w' B v' (n + 1) (M ++ [c]) → (w0.alloc (.cells #[.int .u8 (c.toNat : Int)] 5)).grownBy w' v.ownBlock → wpList Tryd.prog ops Q rest (a.put op.dst v') w') : wpList Tryd.prog ops Q (op :: rest) a (w0.alloc (.cells #[.int .u8 (c.toNat : Int)] 5)) := by
  obtain ⟨i0, hi, hz0, hz1, hz2⟩ := info_parts infoB
  refine wpList_append_own _ hgd s x 28 ho B 5 i0 (.int .u8 0) 1 1 Tryd.underlying28 hi hz0 hz1 hz2 rfl (by decide) v n (bvs M) hs (hown.out.alloc _) ⟨w0.heap.size, 0, none⟩ 1 1 [.int .u8 (c.toNat : Int)] hx rfl (cell_one_newI _ _ _) (fun u hu => by simp at hu; subst hu; rfl) (by unfold maxLen; omega) (by omega) (by simp; omega) ?_
  intro v' w' h1 h2 _
  exact h v' w' ⟨by simp; exact hown.len, by simpa [bvs] using h1⟩ h2

theorem own_slice {w : World} {B e s n xs} {v : Value} (h : w.ownsRow B e s v n xs) : ∃ a c, v = .slice a n c := by
  rcases h.2 with ⟨rfl, rfl⟩ | ⟨g, cap, cur, rfl, _⟩
  · exact ⟨none, 0, rfl⟩
  · exact ⟨_, cap, rfl⟩
theorem fz_of {w : World} {g i : Nat} {c : Array Value} {t : TypeId} (h : w.heap[g]? = some (.cells c t (0, 0))) : w.frozen? ⟨g, i, none⟩ = false := by simp [World.frozen?, h]

set_option maxRecDepth 10000 in
set_option maxHeartbeats 4000000 in
theorem break_st (w : World) (B F pb : Nat) (nv : Value) (S : Ps) (hS : PSt w B F pb nv S) (hF : F ≤ w.heap.size) (hl : S.text.length + S.opn + 1 ≤ 1000000000) :
    Calls Tryd.prog 45 #[.pointer (some ⟨pb, 0, none⟩)] w fun e w' => e = .returned (.tuple #[]) ∧ PSt w' B w'.heap.size pb nv ⟨S.text ++ tabs S.opn, S.todo, S.opn⟩ ∧ Below B w w' := by
  obtain ⟨tv, dv, n, m, h⟩ := hS.out
  obtain ⟨ta, tc, rfl⟩ := own_slice h.txt.out
  obtain ⟨q0, q1, q2, q3⟩ := h.prv.cells
  have hlt := h.lt
  have hB := h.base
  have hfz : w.frozen? ⟨pb, 1, none⟩ = false := fz_of h.prv.blk
  have hn : n = S.text.length := h.txt.len
  have HN : Hid (n = S.text.length) := hn
  have hnl : n + S.opn + 1 ≤ 1000000000 := by omega
  obtain ⟨o, ho⟩ : ∃ o, o = S.opn := ⟨_, rfl⟩
  have HO : Hid (o = S.opn) := ho
  rw [← ho] at q3 hnl
  clear hn hS ho
  go_enter Tryd.func45, Tryd.ntmps45
  go_wp2_with (first | (at_builtin; refine wpList_append_byte rfl _ _ rfl B _ n S.text 10 ?_ h.txt ?_ (by omega) (by omega) ?_; (next => rfl); (next => rfl); intro v2 w2 hO2 hG2; obtain ⟨hP2, HS2, hb2⟩ := h.app hF (fun g hg => heap_alloc_old w _ hg) (by simp) ((Below.refl _ _).alloc (by omega) _) hO2 hG2; obtain ⟨a2, c2, rfl⟩ := own_slice hO2.out; have r1 := hP2.cells.2.1; have r3 := hP2.cells.2.2.2; rw [← HO.out] at r3; have hfz2 : w2.frozen? ⟨pb, 1, none⟩ = false := fz_of hP2.blk; clear hO2 hG2 hP2))
  clear h q0 q1 q2 q3 hfz r1 r3 hfz2
  go_loopw [15] (fun v wr => ∃ (i k : Nat) (tv : Value), i ≤ o ∧ Hid (k = n + 1 + i) ∧ v = .int .i64 i ∧ PSv wr B wr.heap.size pb nv ⟨S.text ++ (10 :: List.replicate i 9), S.todo, S.opn⟩ tv dv k m ∧ Below B w wr) (fun v _ => o - (intOf v).toNat)
  case atStart => exact ⟨0, n + 1, _, by omega, rfl, rfl, HS2, hb2⟩
  case round =>
    obtain ⟨i, k, tv, hi, hk, rfl, HS, hbr⟩ := hrel
    have hbs := hbr.size
    by_cases hio : i < o
    · have hk1 : k + 1 ≤ 1000000000 := by have := hk.out; omega
      obtain ⟨ta, tc, rfl⟩ := own_slice HS.txt.out
      obtain ⟨q0, q1, q2, q3⟩ := HS.prv.cells
      have hlt := HS.lt
      have hfz : wr.frozen? ⟨pb, 1, none⟩ = false := fz_of HS.prv.blk
      go_wp2_with (first | (at_builtin; refine wpList_append_byte rfl _ _ rfl B _ k _ 9 ?_ HS.txt ?_ hk1 (by omega) ?_; (next => rfl); (next => rfl); intro v2 w2 hO2 hG2; obtain ⟨hP2, HS2, hb2⟩ := HS.app (Nat.le_refl _) (fun g hg => heap_alloc_old wr _ hg) (by simp) ((Below.refl _ _).alloc (by omega) _) hO2 hG2; obtain ⟨a2, c2, rfl⟩ := own_slice hO2.out; have r1 := hP2.cells.2.1; have hfz2 : w2.frozen? ⟨pb, 1, none⟩ = false := fz_of hP2.blk; clear hO2 hG2 hP2))
      go_roundw
      case rel => exact ⟨i + 1, k + 1, _, by omega, by have := hk.out; show _ = _; omega, by go_num, by
        have e : S.text ++ (10 :: List.replicate (i + 1) 9) = S.text ++ (10 :: List.replicate i 9) ++ [9] := by simp [List.replicate_succ']
        rw [e]; exact HS2, hbr.trans hb2⟩
      case measure => simp [intOf]; omega
    · obtain rfl : i = o := by omega
      go_wp2_with fail
      refine bodyPost_end (v := .tuple #[]) (by simp [results, Tryd.results45, go_sem]) rfl ⟨rfl, ⟨_, _, _, _, by have := HS; rw [HO.out] at this; exact this⟩, hbr⟩
end Go.Proofs.YtjepkcebfojiaaaDoor
