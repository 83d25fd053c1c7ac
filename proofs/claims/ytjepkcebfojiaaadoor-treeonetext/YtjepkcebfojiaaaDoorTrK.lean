import Derived.Test.YtjepkcebfojiaaaDoorTrJ
import Derived.Test.YtjepkcebfojiaaaDoorLyC
set_option linter.unusedVariables false
set_option linter.unusedSimpArgs false
namespace Go.Proofs.YtjepkcebfojiaaaDoor
open Go.ChangeShapes Go.WideShapes Go.ChangeAt Go.RowKit

/-- append(l, p) of parts, in a statement that draws its order. -/
theorem step_append_part {w : World} {ops : Array Oper} {op : Oper} {a : Act} {K : Act → World → Prop} {Q : Exit → Act → World → Prop} {E : Prop} (hgd : op.guard = none) (s x : Operand)
    (ho : op.op = .call { callee := .builtin .append, args := #[s, x], argTypes := #[47, 47] })
    (B : Nat) (v : Value) (n : Nat) (L : List Pt) (hs : a.eval s = v) (hown : OwnP w B v n L) (ad : Addr) (p : Pt) (hx : a.eval x = .slice (some ad) 1 1) (hc : ∀ j u, (pc p)[j]? = some u → w.cell? (ad.add j) = some u)
    (hl : n + 1 ≤ 100000000) (hB : B ≤ w.heap.size)
    (h : ∀ v' w', OwnP w' B v' (n + 1) (L ++ [p]) → w.grownBy w' v.ownBlock → Grew w w' v v' n 1 → K (a.put op.dst v') w') : if Region.wanted op (yielded ops a.tmps) = true then Oper.wp Tryd.prog op a w K Q else E := by
  have hw : Region.wanted op (yielded ops a.tmps) = true := by simp [Region.wanted, hgd]
  rw [if_pos hw]
  obtain ⟨i0, hi, hz0, hz1, hz2⟩ := info_parts infoP
  obtain ⟨v', w', hr, h2, h3, h4⟩ := run_append_where (P := Tryd.prog) (w := w) B 47 op.type 52 i0 _ 3 32 Tryd.underlying47 hi hz0 hz1 hz2 rfl (by decide) v n (pcs L) hown.out ad 1 1 (by omega) (pc p) rfl hc (fun u hu => pcs_one [p] u (by simpa [pcs] using hu)) (by unfold maxLen; omega) (by omega) hB
  unfold Oper.wp execOp
  simp only [ho, resolve, invoke, builtin, Sem.run_bind, Sem.run_pure, Result.andThen_ok, List.map_toArray, List.map_cons, List.map_nil, hs, hx, hr]
  exact h v' w' ⟨by simp; exact hown.len, by rw [pcs_app]; simpa [pcs] using h2⟩ h3 h4

theorem cells3 (w : World) (p : Pt) (t : TypeId) : ∀ j u, (pc p)[j]? = some u → ((w.alloc (.cells #[.int .i64 p.form, .string (bs p.text), .int .i64 p.node] t)).drew).cell? ((⟨w.heap.size, 0, none⟩ : Addr).add j) = some u := by
  intro j u hj
  match j, hj with
  | 0, hj => simp [pc] at hj; subst hj; simp [Addr.add]
  | 1, hj => simp [pc] at hj; subst hj; simp [Addr.add]
  | 2, hj => simp [pc] at hj; subst hj; simp [Addr.add]
  | j + 3, hj => simp [pc] at hj

/-- The printer's own cells in block pb. -/
structure PRv (w : World) (pb : Nat) (nv tv dv : Value) (o : Int) : Prop where
  blk : w.heap[pb]? = some (.cells #[nv, tv, dv, .int .i64 o] 49 (0, 0))
theorem PRv.cells {w pb nv tv dv o} (h : PRv w pb nv tv dv o) : w.cell? ⟨pb, 0, none⟩ = some nv ∧ w.cell? ⟨pb, 1, none⟩ = some tv ∧ w.cell? ⟨pb, 2, none⟩ = some dv ∧ w.cell? ⟨pb, 3, none⟩ = some (.int .i64 o) :=
  ⟨cell_arr h.blk rfl, cell_arr h.blk rfl, cell_arr h.blk rfl, cell_arr h.blk rfl⟩
theorem PRv.lt {w pb nv tv dv o} (h : PRv w pb nv tv dv o) : pb < w.heap.size := (Array.getElem?_eq_some_iff.1 h.blk).1

theorem heap_set_at {w : World} {g i : Nat} {c : Array Value} {t : TypeId} {f : Nat × Nat} {v : Value} (h : w.heap[g]? = some (.cells c t f)) : (w.setCell ⟨g, i, none⟩ v).heap[g]? = some (.cells (c.setIfInBounds i v) t f) := by
  simp [World.setCell, Array.getElem?_modify, h]
theorem heap_set_other {w : World} {g i k : Nat} {v : Value} (h : k ≠ g) : (w.setCell ⟨g, i, none⟩ v).heap[k]? = w.heap[k]? := by
  simp [World.setCell, Array.getElem?_modify, Ne.symm h]
theorem grown_at {w w' : World} {b : Option Nat} (h : w.grownBy w' b) {k : Nat} (hk : k < w.heap.size) (hne : b ≠ some k) : w'.heap[k]? = w.heap[k]? := h.block k hk (Ne.symm hne)
theorem sub_one_add (m n i : Nat) (h : i < n) : m + (n - i) = m + (n - (i + 1)) + 1 := by omega
theorem drew_heap (w : World) : w.drew.heap = w.heap := rfl

/-- The printer while parts are put. -/
structure PutI (w wr : World) (B pb : Nat) (nv tv dv dv' : Value) (o : Int) (m : Nat) (D : List Pt) : Prop where
  prv : PRv wr pb nv tv dv' o
  own : OwnP wr B dv' m D
  bel : Below B w wr
  oth : ∀ g, g < w.heap.size → g ≠ pb → dv.ownBlock ≠ some g → wr.heap[g]? = w.heap[g]?
  dvb : dv'.ownBlock = dv.ownBlock ∨ ∃ g, w.heap.size ≤ g ∧ dv'.ownBlock = some g
theorem PRv.apart {w pb nv tv dv o B v n L} (h : PRv w pb nv tv dv o) (hO : OwnP w B v n L) : v.ownBlock ≠ some pb := by
  intro hb
  rcases hO.out.2 with ⟨rfl, _⟩ | ⟨g, cap, cur, rfl, e2, e3, _⟩
  · simp [Value.ownBlock] at hb
  · simp [Value.ownBlock] at hb
    subst hb
    have := h.blk
    rw [e3] at this
    simp at this
theorem PutI.refl {w B pb nv tv dv o m D} (h1 : PRv w pb nv tv dv o) (h2 : OwnP w B dv m D) : PutI w w B pb nv tv dv dv o m D := ⟨h1, h2, Below.refl _ _, fun _ _ _ _ => rfl, .inl rfl⟩
theorem PutI.next {w wr w2 : World} {B pb nv tv dv dv' v2 o m D} {C : Array Value} {t : TypeId} {E : List Pt} {k : Nat} (h : PutI w wr B pb nv tv dv dv' o m D) (hB : B ≤ pb) (hO2 : OwnP w2 B v2 k E) (hG2 : ((wr.alloc (.cells C t)).drew).grownBy w2 dv'.ownBlock) (hW2 : Grew ((wr.alloc (.cells C t)).drew) w2 dv' v2 m 1) :
    PRv w2 pb nv tv dv' o ∧ PutI w (w2.setCell ⟨pb, 2, none⟩ v2) B pb nv tv dv v2 o k E := by
  have hold : ∀ g, g < wr.heap.size → dv'.ownBlock ≠ some g → w2.heap[g]? = wr.heap[g]? := fun g hg hne => by
    rw [grown_at hG2 (by rw [drew_heap]; simp; omega) hne, drew_heap]
    exact heap_alloc_old wr _ hg
  have hpb := h.prv.lt
  have hap := h.prv.apart h.own
  have hP2 : PRv w2 pb nv tv dv' o := ⟨by rw [hold pb hpb hap]; exact h.prv.blk⟩
  have hv2 : v2.ownBlock ≠ some pb := hP2.apart hO2
  have hs0 := h.bel.size
  have hs1 : wr.heap.size + 1 ≤ w2.heap.size := by have := hG2.size; rw [drew_heap] at this; simpa using this
  refine ⟨hP2, ⟨heap_set_at hP2.blk⟩, ⟨hO2.len, own_move hO2.out fun g hg => heap_set_other (fun e => hv2 (e ▸ hg))⟩, ?_, ?_, ?_⟩
  · have hb1 : Below B wr w2 := ((((Below.refl B wr).alloc (by omega) _).drew).grown hG2 (by rw [drew_heap]; simp; omega) (fun k hk => (own_block h.own.out hk).1))
    exact (h.bel.trans hb1).setCell (p := ⟨pb, 2, none⟩) hB _
  · intro g hg hne hdv
    rw [heap_set_other hne]
    have h1 : dv'.ownBlock ≠ some g := by
      rcases h.dvb with e | ⟨g', h1, e⟩
      · rw [e]; exact hdv
      · rw [e]; intro e2; cases e2; omega
    rw [hold g (by omega) h1]
    exact h.oth g hg hne hdv
  · cases hW2 with
    | room g cap h1 h2 =>
      have : v2.ownBlock = dv'.ownBlock := by rw [h1, h2]; rfl
      rw [this]; exact h.dvb
    | new h1 h2 =>
      right
      refine ⟨_, ?_, h1⟩
      rw [drew_heap]; simp; omega
theorem PtV.oth {w wr : World} {pa cap L} (h : PtV w pa cap L) (ho : ∀ g, pa = some ⟨g, 0, none⟩ → g < w.heap.size → wr.heap[g]? = w.heap[g]?) (hs : w.heap.size ≤ wr.heap.size) : PtV wr pa cap L := ⟨h.le, h.mx, fun hn => by
  obtain ⟨g, e, hg, hc⟩ := h.out hn
  have hk := ho g e hg
  have hcell : ∀ q, wr.cell? ⟨g, q, none⟩ = w.cell? ⟨g, q, none⟩ := fun q => by simp [World.cell?, hk]
  exact ⟨g, e, by omega, fun i hi => by rw [hcell, hcell, hcell]; exact hc i hi⟩⟩

set_option maxRecDepth 10000 in
set_option maxHeartbeats 4000000 in
theorem put_any (w : World) (B pb : Nat) (nv tv dv : Value) (o : Int) (m n : Nat) (D L : List Pt) (pa : Option Addr) (cap : Nat) (hP : PRv w pb nv tv dv o) (hD : OwnP w B dv m D) (hL : PtV w pa cap L) (hn : n = L.length) (hB : B ≤ pb) (hmn : m + n ≤ 100000000)
    (hap : ∀ g, pa = some ⟨g, 0, none⟩ → g ≠ pb ∧ dv.ownBlock ≠ some g) :
    Calls Tryd.prog 17 #[.pointer (some ⟨pb, 0, none⟩), .slice pa n cap] w fun e w' => e = .returned (.tuple #[]) ∧ ∃ dv', PutI w w' B pb nv tv dv dv' o (m + n) (D ++ L.reverse) := by
  have HN : Hid (n = L.length) := hn
  have HAP : Hid (∀ g, pa = some ⟨g, 0, none⟩ → g ≠ pb ∧ dv.ownBlock ≠ some g) := hap
  have hcap : n ≤ cap := by have := hL.le; omega
  have hcm := hL.mx
  clear hn hap
  go_enter Tryd.func17, Tryd.ntmps17
  go_wp2_with fail
  go_loopw [4] (fun v wr => ∃ (j : Nat) (dv' : Value), j ≤ n ∧ v = .int .i64 ((j : Int) - 1) ∧ PutI w wr B pb nv tv dv dv' o (m + (n - j)) (D ++ (L.drop j).reverse)) (fun v _ => (intOf v + 1).toNat)
  case atStart => exact ⟨n, dv, by omega, rfl, by rw [List.drop_of_length_le (by have := HN.out; omega)]; simpa using PutI.refl hP hD⟩
  case round =>
    obtain ⟨j, dv', hj, rfl, HI⟩ := hrel
    by_cases h0 : 0 < j
    · obtain ⟨i, rfl⟩ : ∃ i, j = i + 1 := ⟨j - 1, by omega⟩
      have hLr : PtV wr pa cap L := hL.oth (fun g e hg => HI.oth g hg (HAP.out g e).1 (HAP.out g e).2) HI.bel.size
      obtain ⟨g, rfl, hg, hc⟩ := hLr.out (by intro e; have := HN.out; simp [e] at this; omega)
      obtain ⟨p0, p1, p2⟩ := hc i (by have := HN.out; omega)
      obtain ⟨q0, q1, q2, q3⟩ := HI.prv.cells
      obtain ⟨da, dc, rfl, hd1, hd2, _, hda⟩ := HI.own.view
      obtain ⟨pt, hpt⟩ : ∃ pt, pt = L[i]'(by have := HN.out; omega) := ⟨_, rfl⟩
      rw [← hpt] at p0 p1 p2
      have HPT : Hid (L.drop i = pt :: L.drop (i + 1)) := by rw [hpt]; exact List.drop_eq_getElem_cons _
      clear hpt hc
      have hin : i < n := by omega
      have hfz : wr.frozen? ⟨pb, 2, none⟩ = false := by simp [World.frozen?, HI.prv.blk]
      have hbs := HI.bel.size
      have hpl := HI.prv.lt
      go_wp2_with fail
      go_region_law (refine step_append_part rfl _ _ rfl B _ (m + (n - (i + 1))) (D ++ (L.drop (i + 1)).reverse) (by simp [Act.eval]) (HI.own.keep ((Below.refl _ _).alloc (Nat.le_refl _) _).drew) ⟨wr.heap.size, 0, none⟩ pt (by simp [Act.eval]) (cells3 _ _ _) (by omega) (by first | omega | (simp; done) | (simp; omega)) ?_; intro v2 w2 hO2 hG2 hW2; obtain ⟨hP2, HI2⟩ := HI.next hB hO2 hG2 hW2; obtain ⟨a2, c2, rfl, _, _, _, _⟩ := hO2.view; have r2 := hP2.cells.2.2.1; have hfz2 : w2.frozen? ⟨pb, 2, none⟩ = false := (by simp [World.frozen?, hP2.blk]); clear hO2 hG2 hW2 hP2)
      all_goals
        go_wp2_with fail
        go_roundw
        case rel => exact ⟨i, _, by omega, by first | rfl | go_num, by
          have e1 : m + (n - i) = m + (n - (i + 1)) + 1 := sub_one_add m n i hin
          rw [HPT.out, e1, List.reverse_cons, ← List.append_assoc]
          exact HI2⟩
        case measure => simp [intOf]; try omega
    · have hj0 : j = 0 := by omega
      subst hj0
      have hneg : ((0 : Nat) : Int) - 1 = -1 := by omega
      rw [hneg]
      go_wp2_with fail
      refine bodyPost_end (v := .tuple #[]) (by simp [results, Tryd.results17, go_sem]) rfl ⟨rfl, dv', by simpa using HI⟩
end Go.Proofs.YtjepkcebfojiaaaDoor
