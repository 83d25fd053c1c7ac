import Derived.Test.YtddcpbidlbiamaaHpY
import Derived.Test.YtddcpbidlbiamaaHpK
set_option linter.unusedVariables false
set_option linter.unusedSimpArgs false
namespace Go.Proofs.Ytddcpbidlbiamaa
open Go.ChangeShapes Go.WideShapes Go.ChangeAt Go.RowKit

theorem infoS : (Try.prog.info? 32).map (fun i => (i.zero, i.size, i.bytes)) = some (some (.slice none 0 0), 1, 24) := by kernel_rfl
/-- append(lists, l). -/
theorem wpList_append_sl {w0 : World} {ops : Array Oper} {rest : List Oper} {op : Oper} {a : Act} {Q : Exit → Act → World → Prop} (hgd : op.guard = none) (s x : Operand)
    (ho : op.op = .call { callee := .builtin .append, args := #[s, x], argTypes := #[36, 36] })
    (B : Nat) (v : Value) (n g : Nat) (vs : List Value) (ya : Option Addr) (yl yc : Nat) (hs : a.eval s = v) (hown : w0.ownsRow B 32 1 v n vs) (hx : a.eval x = .slice (some ⟨g, 0, none⟩) 1 1) (hg : g = w0.heap.size)
    (hl : n + 1 ≤ 1000000000) (hB : B ≤ w0.heap.size)
    (h : ∀ v' w', w'.ownsRow B 32 1 v' (n + 1) (vs ++ [.slice ya yl yc]) → GI B w0 w' v v' → wpList Try.prog ops Q rest (a.put op.dst v') w') : wpList Try.prog ops Q (op :: rest) a (w0.alloc (.cells #[.slice ya yl yc] 32)) := by
  subst hg
  obtain ⟨i0, hi, hz0, hz1, hz2⟩ := info_parts infoS
  refine wpList_append_where hgd s x 36 ho B 32 i0 (.slice none 0 0) 1 24 Try.underlying36 hi hz0 hz1 hz2 rfl (by decide) v n vs hs (hown.alloc _) ⟨w0.heap.size, 0, none⟩ 1 1 (by omega) [.slice ya yl yc] hx rfl (cell_one_newI _ _ _) (fun u hu => by simp at hu; subst hu; rfl) (by unfold maxLen; omega) (by omega) (by simp; omega) ?_
  intro v' w' h1 h2 h3
  exact h v' w' h1 (gi_of hown hB h2 h3)

/-- What the statement holds: the heap, the addresses, the words that it wants. -/
structure KS (w wr : World) (h m n : Nat) (tk : Int) (f : Int → Int) (c : Nat) (av wv : Value) (L : List RB) : Prop where
  fs : FSt w wr h m n tk (lnOf L) f c
  wd : Words L tk f
  at_ : OwnI wr w.heap.size av L.length (L.map RB.a)
  wt : wr.ownsRow w.heap.size 32 1 wv L.length (L.map RB.vn)
  own : ∀ x ∈ L, OwnI wr w.heap.size x.vn x.ns.length x.ns
  shp : ∀ x ∈ L, x.va = .slice none 0 0 ∧ x.vf = .slice none 0 0 ∧ (x.ns.length : Int) = x.n ∧ x.ns.length < 50
  nod : (idsOf L).Nodup
  apt : ∀ g, av.ownBlock = some g → g ∉ idsOf L
  bd : tk ≤ 51 * L.length

theorem KS.mem_ids {w wr h m n tk f c av wv L} (H : KS w wr h m n tk f c av wv L) {g : Nat} (hg : g ∈ idsOf L) : ∃ x ∈ L, x.vn.ownBlock = some g := by
  obtain ⟨x, hx, hg⟩ := List.mem_flatMap.1 hg
  obtain ⟨s1, s2, _⟩ := H.shp x hx
  rcases ids_mem.1 hg with h | h | h
  · exact ⟨x, hx, h⟩
  · rw [s1] at h; simp [Value.ownBlock] at h
  · rw [s2] at h; simp [Value.ownBlock] at h
theorem tg_row {w : World} {B e s n xs} {v : Value} (h : w.ownsRow B e s v n xs) {g : Nat} (hg : v.ownBlock = some g) : tg w g = e + 2 := by
  obtain ⟨cur, e⟩ := row_at h hg
  exact tg_cells e

/-- One block more. -/
theorem KS.add {w wr w1 w2 w3 w4 : World} {h m n tk f c av wv L} (H : KS w wr h m n tk f c av wv L) (q : Nat) (hq : q < 50)
    (hC : CH w1 h m n (tk + q + 1) (upd (lnOf L) (tk + 1) (some (q : Int))) f (c + 1)) (hO : Only (CF h m n) wr w1)
    {av'} (hA : OwnI w2 w.heap.size av' (L.length + 1) (L.map RB.a ++ [tk + 1])) (hG2 : GI w.heap.size w1 w2 av av')
    {g : Nat} (hg : g = w2.heap.size) (hr : w3.ownsRow w.heap.size 3 1 (.slice (some ⟨g, 0, none⟩) q q) q (madeCells (Value.int .i64 0).cells (q * 1)).toList) (hg3 : w2.grownBy w3 none)
    {wv'} (hW : w4.ownsRow w.heap.size 32 1 wv' (L.length + 1) (L.map RB.vn ++ [.slice (some ⟨g, 0, none⟩) q q])) (hG4 : GI w.heap.size w3 w4 wv wv') :
    KS w w4 h m n (tk + q + 1) f (c + 1) av' wv' (L ++ [⟨tk + 1, q, .slice (some ⟨g, 0, none⟩) q q, .slice none 0 0, .slice none 0 0, List.replicate q 0, [], []⟩]) := by
  have hB := H.fs.bel.size
  -- from wr to w1
  have wt1 : w1.ownsRow w.heap.size 32 1 wv L.length (L.map RB.vn) := own_move H.wt fun k hk => hO.block k (own_block H.wt hk).2 (fun hf => by have := H.fs.ch.tg hf; have := tg_row H.wt hk; omega)
  have own1 : ∀ x ∈ L, OwnI w1 w.heap.size x.vn x.ns.length x.ns := fun x hx => (H.own x hx).move fun k hk => hO.block k (own_block (H.own x hx).out hk).2 (fun hf => by have := H.fs.ch.tg hf; have := (H.own x hx).tg hk; omega)
  have at1 : OwnI w1 w.heap.size av L.length (L.map RB.a) := H.at_.move fun k hk => hO.block k (own_block H.at_.out hk).2 (fun hf => by have := H.fs.ch.tg hf; have := H.at_.tg hk; omega)
  have F1 := H.fs.next hC hO
  -- to w2
  have c2 : CH w2 h m n (tk + q + 1) (upd (lnOf L) (tk + 1) (some (q : Int))) f (c + 1) := hC.move fun k hk => hG2.blk k (hC.lt k hk) (fun e => by have := hC.tg hk; have := at1.tg e; omega)
  have wt2 : w2.ownsRow w.heap.size 32 1 wv L.length (L.map RB.vn) := own_move wt1 fun k hk => hG2.blk k (own_block wt1 hk).2 (fun e => by have := tg_row wt1 hk; have := at1.tg e; omega)
  have own2 : ∀ x ∈ L, OwnI w2 w.heap.size x.vn x.ns.length x.ns := fun x hx => (own1 x hx).move fun k hk => hG2.blk k (own_block (own1 x hx).out hk).2 (fun e => H.apt k e (List.mem_flatMap.2 ⟨x, hx, mem_vn hk⟩))
  -- to w3
  have b3 : Below w2.heap.size w2 w3 := ⟨hg3.os, hg3.tape, hg3.output, hg3.size, fun k hk => hg3.block k hk (by simp)⟩
  have c3 := c2.move (w' := w3) fun k hk => b3.block k (c2.lt k hk)
  have wt3 := own_keep wt2 b3.block
  have own3 : ∀ x ∈ L, OwnI w3 w.heap.size x.vn x.ns.length x.ns := fun x hx => (own2 x hx).keep b3
  have at3 := hA.keep b3
  have new3 : OwnI w3 w.heap.size (.slice (some ⟨g, 0, none⟩) q q) q (List.replicate q 0) := ⟨by simp, by
    have e : (madeCells (Value.int .i64 0).cells (q * 1)).toList = ivs (List.replicate q 0) := by
      apply List.ext_getElem
      · simp [ivs, size_madeCells]
      · intro j h1 h2
        simp [ivs, madeCells, Value.cells]
        have : j % 1 = 0 := Nat.mod_one j
        simp [this]
    rw [← e]
    exact hr⟩
  -- to w4
  have c4 := c3.move (w' := w4) fun k hk => hG4.blk k (c3.lt k hk) (fun e => by have := c3.tg hk; have := tg_row wt3 e; omega)
  have own4 : ∀ x ∈ L, OwnI w4 w.heap.size x.vn x.ns.length x.ns := fun x hx => (own3 x hx).move fun k hk => hG4.blk k (own_block (own3 x hx).out hk).2 (fun e => by have := (own3 x hx).tg hk; have := tg_row wt3 e; omega)
  have at4 : OwnI w4 w.heap.size av' (L.length + 1) (L.map RB.a ++ [tk + 1]) := at3.move fun k hk => hG4.blk k (own_block at3.out hk).2 (fun e => by have := at3.tg hk; have := tg_row wt3 e; omega)
  have new4 : OwnI w4 w.heap.size (.slice (some ⟨g, 0, none⟩) q q) q (List.replicate q 0) := new3.move fun k hk => hG4.blk k (own_block new3.out hk).2 (fun e => by have := new3.tg hk; have := tg_row wt3 e; omega)
  have hx : (⟨tk + 1, q, .slice (some ⟨g, 0, none⟩) q q, .slice none 0 0, .slice none 0 0, List.replicate q 0, [], []⟩ : RB).a = tk + 1 := rfl
  have hids : idsOf (L ++ [⟨tk + 1, q, .slice (some ⟨g, 0, none⟩) q q, .slice none 0 0, .slice none 0 0, List.replicate q 0, [], []⟩]) = idsOf L ++ [g] := by
    simp [idsOf, RB.ids, Value.ownBlock]
  have old : ∀ k, k ∈ idsOf L → k < w1.heap.size := fun k hk => by
    obtain ⟨x, hx, e⟩ := H.mem_ids hk
    exact (own_block (own1 x hx).out e).2
  have s12 := hG2.bel.size
  refine ⟨⟨?_, ((F1.bel.trans hG2.bel).trans (b3.mono (Nat.le_trans F1.bel.size s12))).trans hG4.bel, H.fs.bas⟩, ?_, by simpa using at4, by simpa using hW, ?_, ?_, ?_, ?_, ?_⟩
  · rw [lnOf_snoc H.wd.lay hx]
    exact c4
  · refine ⟨H.wd.lay.snoc hx (by simp), ?_, ?_, fun y hy => H.wd.zr y (by omega)⟩
    · intro x hx
      rcases List.mem_append.1 hx with h | h
      · exact H.wd.e x h
      · simp at h; subst h; rfl
    · intro x hx i hi hn
      rcases List.mem_append.1 hx with h | h
      · exact H.wd.wd x h i hi hn
      · simp at h
        subst h
        simp at hn
        rw [H.wd.zr _ (by simp; omega)]
        unfold RB.val
        rw [if_pos (by omega)]
        simp [List.getElem?_replicate]
        split <;> rfl
  · intro x hx
    rcases List.mem_append.1 hx with h | h
    · exact own4 x h
    · simp at h; subst h; simpa using new4
  · intro x hx
    rcases List.mem_append.1 hx with h | h
    · exact H.shp x h
    · simp at h; subst h; simp; omega
  · rw [hids, List.nodup_append]
    refine ⟨H.nod, by simp, fun a ha b hb e => ?_⟩
    simp at hb
    have := old a ha
    omega
  · intro k hk
    rw [hids]
    intro hm
    rcases List.mem_append.1 hm with h | h
    · rcases hG2.own k hk with h2 | h2
      · exact H.apt k h2 h
      · have := old k h; omega
    · simp at h
      have := (own_block hA.out hk).2
      omega
  · have := H.bd
    simp
    omega
/-- One word is another one: in the heap (w1), and in what is wanted. -/
theorem KS.put {w wr w1 : World} {h m n tk f c av wv L} (H : KS w wr h m n tk f c av wv L) {k : Nat} (hk : k < L.length) (j : Nat) (y : Int) (hj : j < (L[k]).ns.length)
    (hC : CH w1 h m n tk (lnOf L) (upd f ((L[k]).a + 1 + j) y) (c + 1)) (hO : Only (CF h m n) wr w1) {g cp l : Nat} (hv : (L[k]).vn = .slice (some ⟨g, 0, none⟩) l cp) (hl : l = (L[k]).ns.length) :
    KS w (w1.setCell ⟨g, j, none⟩ (.int .i64 y)) h m n tk (upd f ((L[k]).a + 1 + j) y) (c + 1) av wv (L.set k { L[k] with ns := (L[k]).ns.set j y }) := by
  subst hl
  have wt1 : w1.ownsRow w.heap.size 32 1 wv L.length (L.map RB.vn) := own_move H.wt fun k hk => hO.block k (own_block H.wt hk).2 (fun hf => by have := H.fs.ch.tg hf; have := tg_row H.wt hk; omega)
  have own1 : ∀ x ∈ L, OwnI w1 w.heap.size x.vn x.ns.length x.ns := fun x hx => (H.own x hx).move fun k hk => hO.block k (own_block (H.own x hx).out hk).2 (fun hf => by have := H.fs.ch.tg hf; have := (H.own x hx).tg hk; omega)
  have at1 : OwnI w1 w.heap.size av L.length (L.map RB.a) := H.at_.move fun k hk => hO.block k (own_block H.at_.out hk).2 (fun hf => by have := H.fs.ch.tg hf; have := H.at_.tg hk; omega)
  have F1 := H.fs.next hC hO
  have hvb : (L[k]).vn.ownBlock = some g := by rw [hv]; rfl
  have ok := own1 _ (List.getElem_mem hk)
  have tgk := ok.tg hvb
  have hgB := (own_block ok.out hvb).1
  have hsh := H.shp _ (List.getElem_mem hk)
  obtain ⟨x, hx⟩ : ∃ x : RB, x = { L[k] with ns := (L[k]).ns.set j y } := ⟨_, rfl⟩
  have ids_eq : x.ids = (L[k]).ids := by rw [hx]; rfl
  rw [← hx]
  have hxa : x.a = (L[k]).a := by rw [hx]
  have hxn : x.n = (L[k]).n := by rw [hx]
  have mapv : (L.set k x).map RB.vn = L.map RB.vn := by
    rw [List.map_set]
    exact set_same (by simp [hk, hx])
  have mapa : (L.set k x).map RB.a = L.map RB.a := by
    rw [List.map_set]
    exact set_same (by simp [hk, hx])
  have idsm : ∀ q, q ∈ idsOf (L.set k x) → q ∈ idsOf L := fun q hq => (ids_set_mem (N := q + 1) k hk x (fun g hg => .inl (by rw [← ids_eq]; exact hg)) q hq).elim id (fun h => by omega)
  refine ⟨⟨?_, F1.bel.setCell (p := ⟨g, j, none⟩) hgB _, H.fs.bas⟩, ?_, ?_, ?_, ?_, ?_, ?_, ?_, ?_⟩
  · rw [lnOf_set k hk x hxa hxn]
    exact hC.move fun q hq => heap_set_other (fun e => by have := hC.tg hq; rw [e] at this; omega)
  · refine H.wd.set hk j y (by omega) (by have := hsh.2.2.1; omega) x hxa hxn (by rw [hx]; exact H.wd.e L[k] (List.getElem_mem hk)) (fun i hi => ?_)
    rw [hx]
    exact val_near (L[k]) (L[k]) j 0 y ⟨rfl, rfl, rfl, rfl⟩ (by simp) (by omega) hj i hi
  · rw [mapa]
    simpa using at1.seto (g := g) (q := j) (fun e => H.apt g e (List.mem_flatMap.2 ⟨_, List.getElem_mem hk, mem_vn hvb⟩)) _
  · rw [mapv]
    simpa using own_move (w' := w1.setCell ⟨g, j, none⟩ (.int .i64 y)) wt1 fun q hq => heap_set_other (fun e => by have := tg_row wt1 hq; rw [e] at this; omega)
  · intro z hz
    obtain ⟨l, hl, rfl⟩ := List.getElem_of_mem hz
    simp at hl
    rw [List.getElem_set]
    split
    · rw [hx]
      have := ok
      rw [hv] at this ⊢
      simpa using this.set hj y
    · rename_i hne
      exact (own1 _ (List.getElem_mem hl)).seto (fun e => ids_apart H.nod hk hl (fun e => hne e.symm) g (mem_vn e) (mem_vn hvb)) _
  · intro z hz
    rcases List.mem_or_eq_of_mem_set hz with h | rfl
    · exact H.shp z h
    · rw [hx]; simpa using hsh
  · exact ids_set_nod (N := wr.heap.size) L H.nod (fun g hg => by obtain ⟨x, hx, e⟩ := H.mem_ids hg; exact (own_block (H.own x hx).out e).2) k hk x (by rw [ids_eq]; exact ids_of_nod H.nod hk) (fun g hg => .inl (by rw [← ids_eq]; exact hg))
  · intro q hq hm
    exact H.apt q hq (idsm q hm)
  · simpa using H.bd
end Go.Proofs.Ytddcpbidlbiamaa
