import Derived.Test.YtfbkopjncmkbiaaGreatDoorJav
import Derived.Test.YtfbkopjncmkbiaaGreatDoorJaw
import Derived.Test.YtfbkopjncmkbiaaGreatDoorJax
set_option linter.unusedVariables false
set_option linter.unusedSimpArgs false
namespace Go.Proofs.YtfbkopjncmkbiaaGreatDoor
open Go.ChangeShapes Go.WideShapes Go.ChangeAt Go.RowKit Go.Maps
structure Mst where
 mb : Nat
 fb : Nat
 fo : Nat
 fn : Nat
 fc : Nat
 hb : Nat
 hm : Nat
 hn : Nat
 lo : Nat
 hi : Nat
 w0 : World
structure Mdy where
 ia : Option Addr
 ic : Nat
 vw : Value
 vn : Value
 vp : Value
 ve : Value
def acv (s : Mst) (a : Ac) : List Value := [.pointer (some ⟨s.fb, s.fo + a.fi * 5, none⟩), .int .i64 (a.bk : Int), .int .i64 (a.bh : Int), .int .i64 (a.fst : Int)]
def tblM : List Value := [.nilFunc, .func (.func 34) #[] #[], .func (.func 48) #[] #[], .func (.func 48) #[] #[], .func (.func 48) #[] #[], .func (.func 35) #[] #[], .func (.func 35) #[] #[], .func (.func 48) #[] #[], .func (.func 48) #[] #[], .func (.func 48) #[] #[], .func (.func 48) #[] #[], .func (.func 36) #[] #[], .func (.func 36) #[] #[], .func (.func 48) #[] #[], .func (.func 48) #[] #[], .func (.func 48) #[] #[], .func (.func 48) #[] #[], .func (.func 48) #[] #[], .func (.func 48) #[] #[], .func (.func 48) #[] #[], .func (.func 37) #[] #[], .func (.func 38) #[] #[], .func (.func 39) #[] #[], .func (.func 40) #[] #[], .func (.func 41) #[] #[], .func (.func 42) #[] #[], .func (.func 43) #[] #[], .func (.func 44) #[] #[], .func (.func 45) #[] #[], .func (.func 46) #[] #[], .func (.func 47) #[] #[]]
def mcs (s : Mst) (d : Mdy) (M : Ms) : List Value := tblM ++ [.slice (some ⟨s.fb, s.fo, none⟩) s.fn s.fc, .slice d.ia M.inp.length d.ic, .pointer (some ⟨s.hb, 0, none⟩),
 .pointer (some ⟨s.fb, s.fo + M.here.fi * 5, none⟩), .int .i64 (M.here.bk : Int), .int .i64 (M.here.bh : Int), .int .i64 (M.here.fst : Int), d.vw, d.vn, d.vp, d.ve, .int .i64 M.fin, .int .i64 M.kd, .int .i64 M.vl, .int .i64 M.steps, .int .i64 M.words, .int .i64 M.deep, .bool M.rests]
def Agr (s : Mst) (w : World) : Prop := ∀ k, s.lo <= k -> k < s.hi -> w.heap[k]? = s.w0.heap[k]?
def foot (s : Mst) (d : Mdy) (k : Nat) : Prop := k = s.mb \/ CF s.hb s.hm s.hn k \/ d.vw.ownBlock = some k \/ d.vn.ownBlock = some k \/ d.vp.ownBlock = some k \/ d.ve.ownBlock = some k
structure MRest (FS : List Fu) (s : Mst) (d : Mdy) (w : World) (I N P : List Int) (W : List Ac) (E : List (Int × Int)) (hp : Hpd) : Prop where
 agr : Agr s w
 fus : ∀ w', Agr s w' -> Fus w' (some ⟨s.fb, s.fo, none⟩) s.fc FS
 fn : s.fn = FS.length
 inp : ∀ w', Agr s w' -> Ints w' d.ia d.ic I
 ch : CH w s.hb s.hm s.hn hp.tk hp.ln hp.mm hp.c
 nums : OwnI w s.hi d.vn N.length N
 phis : OwnI w s.hi d.vp P.length P
 apart : ∀ b, d.vn.ownBlock = some b -> d.vp.ownBlock ≠ some b
 wait : Row w s.hi 73 4 d.vw (W.map (acv s))
 ev : Row w s.hi 55 2 d.ve (E.map evc)
 evs : E.length <= 1048576
 hi : s.lo <= s.hi /\ s.hi <= w.heap.size
 out : ∀ k, k = s.mb \/ CF s.hb s.hm s.hn k -> k < s.lo \/ s.hi <= k
 box : ∃ A, w.heap[s.mb]? = some (.cells A 80 (0, 0))
theorem not_own {w : World} {B e z v n xs} (h : w.ownsRow B e z v n xs) {g : Nat} {x : Obj} (hx : w.heap[g]? = some x) (hne : ∀ cs f, x ≠ .cells cs e f) : v.ownBlock ≠ some g := by
 rcases h.2 with ⟨rfl, _⟩ | ⟨g', cap, cur, rfl, e2, e3, _⟩
 ·simp [Value.ownBlock]
 ·intro e
  simp [Value.ownBlock] at e
  subst e
  rw [hx] at e3
  exact hne _ _ (Option.some.inj e3)
theorem cf_row {w : World} {h m n tk ln f c B e z v k xs} (H : CH w h m n tk ln f c) (ho : w.ownsRow B e z v k xs) (he : e ≠ 92) : ∀ g, CF h m n g -> v.ownBlock ≠ some g := by
 obtain ⟨D, ⟨es, cl, d1, _⟩, _⟩ := H.o1
 obtain ⟨E, ⟨es2, cl2, e1, _⟩, _⟩ := H.o2
 rintro g (rfl | rfl | rfl)
 ·exact not_own ho H.box (fun cs f q => he (by cases q; rfl))
 ·exact not_own ho d1 (fun cs f q => by cases q)
 ·exact not_own ho e1 (fun cs f q => by cases q)
theorem cf_mb {w : World} {h m n tk ln f c g A fr} (H : CH w h m n tk ln f c) (hb : w.heap[g]? = some (.cells A 80 fr)) : ¬ CF h m n g := by
 obtain ⟨D, ⟨es, cl, d1, _⟩, _⟩ := H.o1
 obtain ⟨E, ⟨es2, cl2, e1, _⟩, _⟩ := H.o2
 rintro (rfl | rfl | rfl)
 ·have := H.box; rw [hb] at this; cases this
 ·rw [hb] at d1; cases d1
 ·rw [hb] at e1; cases e1
structure Foo (s : Mst) (d d' : Mdy) (w w' : World) : Prop where
 only : Only (foot s d) w w'
 new : ∀ k, foot s d' k -> foot s d k \/ w.heap.size <= k
theorem Foo.refl (s : Mst) (d : Mdy) (w : World) : Foo s d d w w := ⟨Only.refl _ _, fun k h => .inl h⟩
theorem Foo.trans {s d d' d'' w w' w''} (h : Foo s d d' w w') (k : Foo s d' d'' w' w'') : Foo s d d'' w w'' :=
 ⟨h.only.trans k.only fun i hi hf => (h.new i hf).elim id (fun q => by omega), fun i hf => (k.new i hf).elim (fun q => h.new i q) (fun q => .inr (Nat.le_trans h.only.size q))⟩
theorem Foo.of_below {s d w w'} (h : Below w.heap.size w w') : Foo s d d w w' := ⟨Only.of_below h _, fun k q => .inl q⟩
theorem MRest.row_mb {FS : List Fu} {s : Mst} {d : Mdy} {w : World} {inp nums phis : List Int} {wait : List Ac} {ev : List (Int × Int)} {hp : Hpd} (h : MRest FS s d w inp nums phis wait ev hp) : d.vn.ownBlock ≠ some s.mb /\ d.vp.ownBlock ≠ some s.mb /\ d.vw.ownBlock ≠ some s.mb /\ d.ve.ownBlock ≠ some s.mb /\ ¬ CF s.hb s.hm s.hn s.mb := by
 obtain ⟨A, hA⟩ := h.box
 exact ⟨own_not h.nums.out hA (by decide), own_not h.phis.out hA (by decide), own_not h.wait.out hA (by decide), own_not h.ev.out hA (by decide), cf_mb h.ch hA⟩
theorem MRest.box_ne {FS : List Fu} {s : Mst} {d : Mdy} {w w' : World} {inp nums phis : List Int} {wait : List Ac} {ev : List (Int × Int)} {hp : Hpd} (h : MRest FS s d w inp nums phis wait ev hp) (hs : w.heap.size <= w'.heap.size) (hk : ∀ k, k < w.heap.size -> k ≠ s.mb -> w'.heap[k]? = w.heap[k]?) (hA : ∃ A, w'.heap[s.mb]? = some (.cells A 80 (0, 0))) : MRest FS s d w' inp nums phis wait ev hp := by
 obtain ⟨n1, n2, n3, n4, n5⟩ := h.row_mb
 have hh := h.hi
 refine ⟨fun k h1 h2 => ?_, h.fus, h.fn, h.inp, ?_, ?_, ?_, h.apart, ?_, ?_, h.evs, ⟨hh.1, by omega⟩, h.out, hA⟩
 ·rw [hk k (by omega) (fun e => by have := h.out k (.inl e); omega)]; exact h.agr k h1 h2
 ·exact h.ch.move fun g hg => hk g (h.ch.lt g hg) (fun e => n5 (e ▸ hg))
 ·exact ⟨h.nums.len, own_move h.nums.out fun g hg => hk g (own_block h.nums.out hg).2 (fun e => n1 (e ▸ hg))⟩
 ·exact ⟨h.phis.len, own_move h.phis.out fun g hg => hk g (own_block h.phis.out hg).2 (fun e => n2 (e ▸ hg))⟩
 ·exact h.wait.move fun g hg => hk g (own_block h.wait.out hg).2 (fun e => n3 (e ▸ hg))
 ·exact h.ev.move fun g hg => hk g (own_block h.ev.out hg).2 (fun e => n4 (e ▸ hg))
theorem MRest.set {FS : List Fu} {s : Mst} {d : Mdy} {w : World} {inp nums phis : List Int} {wait : List Ac} {ev : List (Int × Int)} {hp : Hpd} (h : MRest FS s d w inp nums phis wait ev hp) (i : Nat) (v : Value) : MRest FS s d (w.setCell ⟨s.mb, i, none⟩ v) inp nums phis wait ev hp := by
 obtain ⟨A, hA⟩ := h.box
 exact h.box_ne (by simp [World.setCell]) (fun k _ hk => heap_set_other hk) ⟨_, heap_set_at hA⟩
theorem MRest.below {FS : List Fu} {s : Mst} {d : Mdy} {w w' : World} {inp nums phis : List Int} {wait : List Ac} {ev : List (Int × Int)} {hp : Hpd} (h : MRest FS s d w inp nums phis wait ev hp) (hb : Below w.heap.size w w') : MRest FS s d w' inp nums phis wait ev hp := by
 obtain ⟨A, hA⟩ := h.box
 exact h.box_ne hb.size (fun k hk _ => hb.block k hk) ⟨A, (hb.block _ (gl hA)).trans hA⟩
theorem MRest.setNums {FS : List Fu} {s : Mst} {d : Mdy} {w w' : World} {inp nums phis : List Int} {wait : List Ac} {ev : List (Int × Int)} {hp : Hpd} (h : MRest FS s d w inp nums phis wait ev hp) {v' : Value} {nums' : List Int} (g : GI s.hi w w' d.vn v') (ho : OwnI w' s.hi v' nums'.length nums') : MRest FS s { d with vn := v' } w' inp nums' phis wait ev hp /\ w'.heap[s.mb]? = w.heap[s.mb]? /\ Foo s d { d with vn := v' } w w' := by
 obtain ⟨A, hA⟩ := h.box
 obtain ⟨n1, n2, n3, n4, n5⟩ := h.row_mb
 have hh := h.hi
 have hmb := g.blk s.mb (gl hA) n1
 have hsz := g.size
 refine ⟨⟨fun k h1 h2 => ?_, h.fus, h.fn, h.inp, ?_, ho, ?_, ?_, ?_, ?_, h.evs, ⟨hh.1, by omega⟩, h.out, A, hmb.trans hA⟩, hmb, ⟨⟨g.bel.os, g.bel.tape, g.bel.output, hsz, fun k hk hn => g.blk k hk (fun e => hn (.inr (.inr (.inr (.inl e)))))⟩, fun k hk => ?_⟩⟩
 ·rw [g.bel.block k h2]; exact h.agr k h1 h2
 ·exact h.ch.move fun b hb => g.blk b (h.ch.lt b hb) (cf_row h.ch h.nums.out (by decide) b hb)
 ·exact h.phis.gi g (fun b hb e => h.apart b e hb)
 ·intro b hb hp
  exact h.phis.giA g (fun b hb e => h.apart b e hb) b hp hb
 ·exact h.wait.move fun b hb => g.blk b (own_block h.wait.out hb).2 (fun e => own_apart h.wait.out h.nums.out (by decide) b hb e)
 ·exact h.ev.move fun b hb => g.blk b (own_block h.ev.out hb).2 (fun e => own_apart h.ev.out h.nums.out (by decide) b hb e)
 ·rcases hk with q | q | q | q | q | q
  ·exact .inl (.inl q)
  ·exact .inl (.inr (.inl q))
  ·exact .inl (.inr (.inr (.inl q)))
  ·rcases g.own k q with e | e
   ·exact .inl (.inr (.inr (.inr (.inl e))))
   ·exact .inr e
  ·exact .inl (.inr (.inr (.inr (.inr (.inl q)))))
  ·exact .inl (.inr (.inr (.inr (.inr (.inr q)))))
theorem MRest.setPhis {FS : List Fu} {s : Mst} {d : Mdy} {w w' : World} {inp nums phis : List Int} {wait : List Ac} {ev : List (Int × Int)} {hp : Hpd} (h : MRest FS s d w inp nums phis wait ev hp) {v' : Value} {phis' : List Int} (g : GI s.hi w w' d.vp v') (ho : OwnI w' s.hi v' phis'.length phis') : MRest FS s { d with vp := v' } w' inp nums phis' wait ev hp /\ w'.heap[s.mb]? = w.heap[s.mb]? /\ Foo s d { d with vp := v' } w w' := by
 obtain ⟨A, hA⟩ := h.box
 obtain ⟨n1, n2, n3, n4, n5⟩ := h.row_mb
 have hh := h.hi
 have hmb := g.blk s.mb (gl hA) n2
 have hsz := g.size
 refine ⟨⟨fun k h1 h2 => ?_, h.fus, h.fn, h.inp, ?_, ?_, ho, ?_, ?_, ?_, h.evs, ⟨hh.1, by omega⟩, h.out, A, hmb.trans hA⟩, hmb, ⟨⟨g.bel.os, g.bel.tape, g.bel.output, hsz, fun k hk hn => g.blk k hk (fun e => hn (.inr (.inr (.inr (.inr (.inl e))))))⟩, fun k hk => ?_⟩⟩
 ·rw [g.bel.block k h2]; exact h.agr k h1 h2
 ·exact h.ch.move fun b hb => g.blk b (h.ch.lt b hb) (cf_row h.ch h.phis.out (by decide) b hb)
 ·exact h.nums.gi g (fun b hb e => h.apart b hb e)
 ·intro b hb hp
  exact h.nums.giA g (fun b hb e => h.apart b hb e) b hb hp
 ·exact h.wait.move fun b hb => g.blk b (own_block h.wait.out hb).2 (fun e => own_apart h.wait.out h.phis.out (by decide) b hb e)
 ·exact h.ev.move fun b hb => g.blk b (own_block h.ev.out hb).2 (fun e => own_apart h.ev.out h.phis.out (by decide) b hb e)
 ·rcases hk with q | q | q | q | q | q
  ·exact .inl (.inl q)
  ·exact .inl (.inr (.inl q))
  ·exact .inl (.inr (.inr (.inl q)))
  ·exact .inl (.inr (.inr (.inr (.inl q))))
  ·rcases g.own k q with e | e
   ·exact .inl (.inr (.inr (.inr (.inr (.inl e)))))
   ·exact .inr e
  ·exact .inl (.inr (.inr (.inr (.inr (.inr q)))))
theorem MRest.setWait {FS : List Fu} {s : Mst} {d : Mdy} {w w' : World} {inp nums phis : List Int} {wait : List Ac} {ev : List (Int × Int)} {hp : Hpd} (h : MRest FS s d w inp nums phis wait ev hp) {v' : Value} {wait' : List Ac} (g : GI s.hi w w' d.vw v') (ho : Row w' s.hi 73 4 v' (wait'.map (acv s))) : MRest FS s { d with vw := v' } w' inp nums phis wait' ev hp /\ w'.heap[s.mb]? = w.heap[s.mb]? /\ Foo s d { d with vw := v' } w w' := by
 obtain ⟨A, hA⟩ := h.box
 obtain ⟨n1, n2, n3, n4, n5⟩ := h.row_mb
 have hh := h.hi
 have hmb := g.blk s.mb (gl hA) n3
 have hsz := g.size
 refine ⟨⟨fun k h1 h2 => ?_, h.fus, h.fn, h.inp, ?_, ?_, ?_, h.apart, ho, ?_, h.evs, ⟨hh.1, by omega⟩, h.out, A, hmb.trans hA⟩, hmb, ⟨⟨g.bel.os, g.bel.tape, g.bel.output, hsz, fun k hk hn => g.blk k hk (fun e => hn (.inr (.inr (.inl e))))⟩, fun k hk => ?_⟩⟩
 ·rw [g.bel.block k h2]; exact h.agr k h1 h2
 ·exact h.ch.move fun b hb => g.blk b (h.ch.lt b hb) (cf_row h.ch h.wait.out (by decide) b hb)
 ·exact ⟨h.nums.len, own_move h.nums.out fun b hb => g.blk b (own_block h.nums.out hb).2 (fun e => own_apart h.nums.out h.wait.out (by decide) b hb e)⟩
 ·exact ⟨h.phis.len, own_move h.phis.out fun b hb => g.blk b (own_block h.phis.out hb).2 (fun e => own_apart h.phis.out h.wait.out (by decide) b hb e)⟩
 ·exact h.ev.move fun b hb => g.blk b (own_block h.ev.out hb).2 (fun e => own_apart h.ev.out h.wait.out (by decide) b hb e)
 ·rcases hk with q | q | q | q | q | q
  ·exact .inl (.inl q)
  ·exact .inl (.inr (.inl q))
  ·rcases g.own k q with e | e
   ·exact .inl (.inr (.inr (.inl e)))
   ·exact .inr e
  ·exact .inl (.inr (.inr (.inr (.inl q))))
  ·exact .inl (.inr (.inr (.inr (.inr (.inl q)))))
  ·exact .inl (.inr (.inr (.inr (.inr (.inr q)))))
theorem MRest.setEv {FS : List Fu} {s : Mst} {d : Mdy} {w w' : World} {inp nums phis : List Int} {wait : List Ac} {ev : List (Int × Int)} {hp : Hpd} (h : MRest FS s d w inp nums phis wait ev hp) {v' : Value} {ev' : List (Int × Int)} (g : GI s.hi w w' d.ve v') (ho : Row w' s.hi 55 2 v' (ev'.map evc)) (hl : ev'.length <= 1048576) : MRest FS s { d with ve := v' } w' inp nums phis wait ev' hp /\ w'.heap[s.mb]? = w.heap[s.mb]? /\ Foo s d { d with ve := v' } w w' := by
 obtain ⟨A, hA⟩ := h.box
 obtain ⟨n1, n2, n3, n4, n5⟩ := h.row_mb
 have hh := h.hi
 have hmb := g.blk s.mb (gl hA) n4
 have hsz := g.size
 refine ⟨⟨fun k h1 h2 => ?_, h.fus, h.fn, h.inp, ?_, ?_, ?_, h.apart, ?_, ho, hl, ⟨hh.1, by omega⟩, h.out, A, hmb.trans hA⟩, hmb, ⟨⟨g.bel.os, g.bel.tape, g.bel.output, hsz, fun k hk hn => g.blk k hk (fun e => hn (.inr (.inr (.inr (.inr (.inr e))))))⟩, fun k hk => ?_⟩⟩
 ·rw [g.bel.block k h2]; exact h.agr k h1 h2
 ·exact h.ch.move fun b hb => g.blk b (h.ch.lt b hb) (cf_row h.ch h.ev.out (by decide) b hb)
 ·exact ⟨h.nums.len, own_move h.nums.out fun b hb => g.blk b (own_block h.nums.out hb).2 (fun e => own_apart h.nums.out h.ev.out (by decide) b hb e)⟩
 ·exact ⟨h.phis.len, own_move h.phis.out fun b hb => g.blk b (own_block h.phis.out hb).2 (fun e => own_apart h.phis.out h.ev.out (by decide) b hb e)⟩
 ·exact h.wait.move fun b hb => g.blk b (own_block h.wait.out hb).2 (fun e => own_apart h.wait.out h.ev.out (by decide) b hb e)
 ·rcases hk with q | q | q | q | q | q
  ·exact .inl (.inl q)
  ·exact .inl (.inr (.inl q))
  ·exact .inl (.inr (.inr (.inl q)))
  ·exact .inl (.inr (.inr (.inr (.inl q))))
  ·exact .inl (.inr (.inr (.inr (.inr (.inl q)))))
  ·rcases g.own k q with e | e
   ·exact .inl (.inr (.inr (.inr (.inr (.inr e)))))
   ·exact .inr e
structure Mach (FS : List Fu) (s : Mst) (d : Mdy) (w : World) (M : Ms) : Prop where
 box : w.heap[s.mb]? = some (.cells (mcs s d M).toArray 80 (0, 0))
 rest : MRest FS s d w M.inp M.nums M.phis M.wait M.ev M.hp
theorem Foo.set (s : Mst) (d : Mdy) (w : World) (i : Nat) (v : Value) : Foo s d d w (w.setCell ⟨s.mb, i, none⟩ v) := ⟨(Only.of_set w _ v).mono fun k _ hk => .inl hk, fun k hk => .inl hk⟩
structure McC (s : Mst) (d : Mdy) (w : World) (M : Ms) : Prop where
 c31 : w.cell? ⟨s.mb, 31, none⟩ = some (.slice (some ⟨s.fb, s.fo, none⟩) s.fn s.fc)
 c32 : w.cell? ⟨s.mb, 32, none⟩ = some (.slice d.ia M.inp.length d.ic)
 c34 : w.cell? ⟨s.mb, 34, none⟩ = some (.pointer (some ⟨s.fb, s.fo + M.here.fi * 5, none⟩))
 c35 : w.cell? ⟨s.mb, 35, none⟩ = some (.int .i64 (M.here.bk : Int))
 c36 : w.cell? ⟨s.mb, 36, none⟩ = some (.int .i64 (M.here.bh : Int))
 c37 : w.cell? ⟨s.mb, 37, none⟩ = some (.int .i64 (M.here.fst : Int))
 c38 : w.cell? ⟨s.mb, 38, none⟩ = some d.vw
 c39 : w.cell? ⟨s.mb, 39, none⟩ = some d.vn
 c40 : w.cell? ⟨s.mb, 40, none⟩ = some d.vp
 lt : s.mb < w.heap.size
theorem Mach.cells {FS s d w M} (h : Mach FS s d w M) : McC s d w M :=
 ⟨cell_arr h.box rfl, cell_arr h.box rfl, cell_arr h.box rfl, cell_arr h.box rfl, cell_arr h.box rfl, cell_arr h.box rfl, cell_arr h.box rfl, cell_arr h.box rfl, cell_arr h.box rfl, (gl h.box)⟩
theorem Mach.below {FS s d w w' M} (h : Mach FS s d w M) (hb : Below w.heap.size w w') : Mach FS s d w' M := ⟨(hb.block _ (gl h.box)).trans h.box, h.rest.below hb⟩
theorem Mach.fus {FS s d w M} (h : Mach FS s d w M) : Fus w (some ⟨s.fb, s.fo, none⟩) s.fc FS := h.rest.fus w h.rest.agr
theorem Mach.fn {FS s d w M} (h : Mach FS s d w M) : s.fn = FS.length := h.rest.fn
set_option maxRecDepth 100000 in
theorem mIn_any (w : World) {fb p b o n c bk bh fst : Nat} (c4 : w.cell? ⟨fb, p + 4, none⟩ = some (.slice (some ⟨b, o, none⟩) n c)) (hbk : bk < n) (hn : n <= 9223372036854775807) :
 Calls Tryz.prog 54 #[.agg #[.pointer (some ⟨fb, p, none⟩), .int .i64 bk, .int .i64 bh, .int .i64 fst]] w fun e w' => e = .returned (.pointer (some ⟨b, o + bk * 6, none⟩)) /\ Below w.heap.size w w' := by
 have hlt : fb < w.heap.size := block_lt_of_cell c4
 have A0 := below_new w (.cells #[.pointer (some ⟨fb, p, none⟩), .int .i64 bk, .int .i64 bh, .int .i64 fst] 73)
 have HA : Hid _ := A0
 clear A0
 go_enter Tryz.func54, Tryz.ntmps54
 go_wp2_with fail
 go_quiet (fail)
 go_wp2_with fail
 go_ret
 exact ⟨rfl, below_drawn HA.out _⟩
set_option maxRecDepth 100000 in
theorem mNumber_any {FS s d w M} (h : Mach FS s d w M) (v : Nat) (x : Int) (hx : M.nums[M.here.fst + v]? = some x) (hl : M.nums.length <= 1000000000000) :
 Calls Tryz.prog 83 #[.pointer (some ⟨s.mb, 0, none⟩), .int .i64 (v : Int)] w fun e w' => e = .returned (.int .i64 x) /\ Below w.heap.size w w' := by
 obtain ⟨c31, c32, c34, c35, c36, c37, c38, c39, c40, hlt⟩ := h.cells
 have hlen : M.here.fst + v < M.nums.length := (List.getElem?_eq_some_iff.1 hx).1
 obtain ⟨ao, c, e, hI⟩ := h.rest.nums.ints
 obtain ⟨b, o, rfl, k1⟩ := hI.at hlen
 have e2 : M.nums[M.here.fst + v] = x := (List.getElem?_eq_some_iff.1 hx).2
 rw [e2] at k1
 rw [e] at c39
 have hc := hI.le
 have hmx := hI.mx
 obtain ⟨n, hn⟩ : ∃ n, n = M.nums.length := ⟨_, rfl⟩
 obtain ⟨f, hf⟩ : ∃ f, f = M.here.fst := ⟨_, rfl⟩
 obtain ⟨mb, hmb⟩ : ∃ mb, mb = s.mb := ⟨_, rfl⟩
 rw [<- hn] at c39 hlen hc hl
 rw [<- hf] at c37 k1 hlen
 rw [<- hmb] at c37 c39 hlt ⊢
 obtain ⟨q, hq⟩ : ∃ q, q = f + v := ⟨_, rfl⟩
 rw [<- hq] at k1 hlen
 have hwr : (f : Int) + (v : Int) = (q : Int) := by omega
 have hwx : IntKind.i64.wrap (q : Int) = (q : Int) := by rw [IntKind.wrap_i64]; omega
 have hqn : (q : Int) < (n : Int) := by omega
 clear hI hx e e2 hn hf h c31 c32 c34 c35 c36 c38 c40 hmb hq
 go_enter Tryz.func83, Tryz.ntmps83
 go_wp2_with fail
 go_quiet (fail)
 go_wp2_with fail
 go_ret
 exact ⟨rfl, below_drawn (Below.refl _ _) _⟩
set_option maxRecDepth 100000 in
theorem mArg_any {FS s d w M} (h : Mach FS s d w M) (v : Vl) (ka : Option Addr) (kl kc : Nat) (hkl : kl = v.args.length) (hI : Ints w ka kc v.args) (i : Nat) (hi : i <= 8) (x : Int) (hx : M.arg v i = some x) (hl : M.nums.length <= 1000000000000) :
 Calls Tryz.prog 70 #[.pointer (some ⟨s.mb, 0, none⟩), .agg #[.int .i64 v.op, .int .i64 v.ty, .int .i64 v.imm, .slice ka kl kc], .int .i64 (i : Int)] w fun e w' => e = .returned (.int .i64 x) /\ Below w.heap.size w w' := by
 have hle := hI.le
 have hmx := hI.mx
 have A0 := below_new w (.cells #[.int .i64 v.op, .int .i64 v.ty, .int .i64 v.imm, .slice ka kl kc] 45)
 have HA : Hid _ := A0
 obtain ⟨mb, hmb⟩ : ∃ mb, mb = s.mb := ⟨_, rfl⟩
 rw [<- hmb]
 by_cases hlt : i < kl
 ·have hix : i < v.args.length := by omega
  have hI2 := hI.below A0 (Nat.le_refl _)
  obtain ⟨b, o, rfl, k1⟩ := hI2.at hix
  unfold Ms.arg at hx
  rw [dif_pos hix] at hx
  unfold Ms.num at hx
  split at hx
  ·next h0 =>
   obtain ⟨q, hq⟩ : ∃ q : Nat, v.args[i] = (q : Int) := ⟨v.args[i].toNat, by omega⟩
   rw [hq] at hx k1
   rw [Int.toNat_natCast] at hx
   have HN : Hid (Calls Tryz.prog 83 #[.pointer (some ⟨mb, 0, none⟩), .int .i64 (q : Int)] (w.alloc (.cells #[.int .i64 v.op, .int .i64 v.ty, .int .i64 v.imm, .slice (some ⟨b, o, none⟩) kl kc] 45)) fun e w' => e = .returned (.int .i64 x) /\ Below (w.alloc (.cells #[.int .i64 v.op, .int .i64 v.ty, .int .i64 v.imm, .slice (some ⟨b, o, none⟩) kl kc] 45)).heap.size (w.alloc (.cells #[.int .i64 v.op, .int .i64 v.ty, .int .i64 v.imm, .slice (some ⟨b, o, none⟩) kl kc] 45)) w') := by
    rw [hmb]
    exact mNumber_any (h.below A0) q x hx hl
   have hil : (i : Int) < (kl : Int) := by omega
   clear h hI hI2 hx hkl A0 hmb hq h0
   go_enter Tryz.func70, Tryz.ntmps70
   go_wp2_with (go_at_call 83; refine Calls.mono HN.out ?_; rintro e w1 ⟨rfl, hb1⟩)
   go_ret
   exact ⟨rfl, HA.out.trans (hb1.mono HA.out.size)⟩
  ·cases hx
 ·unfold Ms.arg at hx
  rw [dif_neg (by omega)] at hx
  cases hx
  have hil : (kl : Int) <= (i : Int) := by omega
  clear h hI hkl A0 hmb
  go_enter Tryz.func70, Tryz.ntmps70
  go_wp2_with fail
  go_ret
  exact ⟨rfl, HA.out⟩
theorem box_at {w : World} {mb i : Nat} {A A' : List Value} {v : Value} {t : TypeId} (h : w.heap[mb]? = some (.cells A.toArray t (0, 0))) (e : A.set i v = A') : (w.setCell ⟨mb, i, none⟩ v).heap[mb]? = some (.cells A'.toArray t (0, 0)) := by
 have := heap_set_at (i := i) (v := v) h
 rw [this, <- e]
 simp
theorem gi_set {w : World} {B g c n : Nat} {L : List Int} (h : OwnI w B (.slice (some ⟨g, 0, none⟩) n c) n L) (q : Nat) (hq : q < n) (x : Int) : OwnI (w.setCell ⟨g, q, none⟩ (.int .i64 x)) B (.slice (some ⟨g, 0, none⟩) n c) n (L.set q x) /\ GI B w (w.setCell ⟨g, q, none⟩ (.int .i64 x)) (.slice (some ⟨g, 0, none⟩) n c) (.slice (some ⟨g, 0, none⟩) n c) := by
 have hb := (own_block h.out rfl).1
 refine ⟨⟨by simpa using h.len, ?_⟩, ?_⟩
 ·have := own_set h.out q (by omega) (.int .i64 x)
  simpa [ivs, List.map_set] using this
 ·exact ⟨(Below.refl _ _).setCell (show B <= (⟨g, q, none⟩ : Addr).block from hb) _, fun k _ hk => heap_set_other (fun e => hk (by rw [e]; rfl)), fun k hk => .inl hk⟩
set_option maxRecDepth 100000 in
set_option maxHeartbeats 1000000 in
theorem mSet_vp {FS s d w M} (h : Mach FS s d w M) (v : Nat) (x : Int) (hv : M.here.fst + v <= 1000000000) (hl : M.nums.length <= 1000000000) :
 Calls Tryz.prog 52 #[.pointer (some ⟨s.mb, 0, none⟩), .int .i64 (v : Int), .int .i64 x] w fun e w' => e = .returned (.tuple #[]) /\ ∃ d', Mach FS s d' w' (M.put v x) /\ Foo s d d' w w' /\ d'.vp = d.vp := by
 obtain ⟨c31, c32, c34, c35, c36, c37, c38, c39, c40, hlt⟩ := h.cells
 obtain ⟨f, hf⟩ : ∃ f, f = M.here.fst := ⟨_, rfl⟩
 obtain ⟨mb, hmb⟩ : ∃ mb, mb = s.mb := ⟨_, rfl⟩
 obtain ⟨q, hq⟩ : ∃ q, q = f + v := ⟨_, rfl⟩
 have hqv : q <= 1000000000 := by omega
 have hwr : (f : Int) + (v : Int) = (q : Int) := by omega
 have hwx : IntKind.i64.wrap (q : Int) = (q : Int) := by rw [IntKind.wrap_i64]; omega
 obtain ⟨na, nc, e, _, hnc⟩ := own_slice h.rest.nums.out
 obtain ⟨nl, hnl⟩ : ∃ nl, nl = M.nums.length := ⟨_, rfl⟩
 have hput : M.put v x = { M with nums := setN M.nums q x } := by unfold Ms.put; rw [hq, hf]
 rw [hput]
 by_cases hin : q < M.nums.length
 ·obtain ⟨g, c, e1, hc1, hc2, hB, hg⟩ := own_some h.rest.nums.out (by omega)
  have HF : Hid (∃ d', Mach FS s d' (w.setCell ⟨g, q, none⟩ (.int .i64 x)) { M with nums := setN M.nums q x } /\ Foo s d d' w (w.setCell ⟨g, q, none⟩ (.int .i64 x)) /\ d'.vp = d.vp) := by
   have O := h.rest.nums
   rw [e1] at O
   have hs := gi_set O q hin x
   have eN : setN M.nums q x = M.nums.set q x := by unfold setN; rw [show q + 1 - M.nums.length = 0 by omega]; simp
   have R := h.rest.setNums (v' := d.vn) (nums' := M.nums.set q x) (by rw [e1]; exact hs.2) (by rw [e1]; simpa using hs.1)
   rw [eN]
   exact ⟨d, ⟨R.2.1.trans h.box, R.1⟩, R.2.2, rfl⟩
  rw [e1] at c39
  have hcz : w.cell? ⟨g, q, none⟩ = some (.int .i64 M.nums[q]) := by
   have O := h.rest.nums.out
   rw [e1] at O
   rw [own_cell O q (by omega)]
   simp [ivs, hin]
  have hfz : w.frozen? ⟨g, q, none⟩ = false := by
   have O := h.rest.nums.out
   rw [e1] at O
   exact own_fz O q
  generalize M.nums[q] = y at hcz
  rw [<- hnl] at c39 hin hc1 hl
  rw [<- hf] at c37
  rw [<- hmb] at c37 c39 hlt ⊢
  have hqn : (q : Int) < (nl : Int) := by omega
  clear h c31 c32 c34 c35 c36 c38 c40 hmb hq hf hnl e e1 hput hv
  go_enter Tryz.func52, Tryz.ntmps52
  go_wp2_with fail
  exact bodyPost_end (v := .tuple #[]) (by simp [results, Tryz.results52, go_sem]) rfl ⟨rfl, HF.out⟩
 ·obtain ⟨k, hk⟩ : ∃ k, k = q + 1 - M.nums.length := ⟨_, rfl⟩
  have hk0 : 0 < k := by omega
  have hlim : nl + k <= 17592186044416 := by omega
  obtain ⟨hi, hhi⟩ : ∃ hi, hi = s.hi := ⟨_, rfl⟩
  obtain ⟨N, hN⟩ : ∃ N, N = M.nums := ⟨_, rfl⟩
  have HHI : Hid (hi <= w.drew.heap.size) := by have := h.rest.hi.2; show hi <= w.heap.size; omega
  have hd : Below w.heap.size w w.drew := (Below.refl _ _).drew
  have hD := h.below hd
  have HON : Hid (OwnI w.drew hi (.slice na nl nc) nl N) := by
   have := hD.rest.nums
   rw [e] at this
   rw [hhi, hnl, hN]; exact this
  have PUT : Hid (∀ v6 w6, OwnI w6 hi v6 (nl + k) (N ++ List.replicate k 0) -> GI hi w.drew w6 (.slice na nl nc) v6 -> w6.cell? ⟨mb, 39, none⟩ = some (.slice na nl nc) /\ w6.frozen? ⟨mb, 39, none⟩ = false /\ mb < w6.heap.size /\ (∃ g c, v6 = .slice (some ⟨g, 0, none⟩) (nl + k) c /\ nl + k <= c /\ c <= 9223372036854775807 /\ g < (w6.setCell ⟨mb, 39, none⟩ v6).heap.size /\ (w6.setCell ⟨mb, 39, none⟩ v6).cell? ⟨g, q, none⟩ = some (.int .i64 0) /\ (w6.setCell ⟨mb, 39, none⟩ v6).frozen? ⟨g, q, none⟩ = false /\ Hid (∃ d', Mach FS s d' ((w6.setCell ⟨mb, 39, none⟩ v6).setCell ⟨g, q, none⟩ (.int .i64 x)) { M with nums := setN M.nums q x } /\ Foo s d d' w ((w6.setCell ⟨mb, 39, none⟩ v6).setCell ⟨g, q, none⟩ (.int .i64 x)) /\ d'.vp = d.vp)) /\ (w6.setCell ⟨mb, 39, none⟩ v6).cell? ⟨mb, 39, none⟩ = some v6) := by
   intro v6 w6 h6 g6
   have e9 : (N ++ List.replicate k 0).length = nl + k := by simp [hN, hnl]
   have R := hD.rest.setNums (v' := v6) (nums' := N ++ List.replicate k 0) (by rw [e, <- hhi, <- hnl]; exact g6) (by rw [<- hhi, e9]; exact h6)
   have b6 := R.2.1.trans hD.box
   have hs39 := box_at (A' := mcs s { d with vn := v6 } { M with nums := N ++ List.replicate k 0 }) (i := 39) (v := v6) b6 rfl
   have R9 := R.1.set 39 v6
   have F9 := R.2.2.trans (Foo.set s { d with vn := v6 } w6 39 v6)
   rw [<- hmb] at b6 hs39 R9 F9
   refine ⟨?_, fz_of b6, (gl b6), ?_, cell_arr hs39 rfl⟩
   ·have : w6.cell? ⟨mb, 39, none⟩ = some d.vn := cell_arr b6 rfl
    rw [this, e, <- hnl]
   ·have O9 := R9.nums
    rw [e9] at O9
    obtain ⟨g, c, e1, hc1, hc2, hB, hg⟩ := own_some O9.out (by omega)
    have e1' : v6 = .slice (some ⟨g, 0, none⟩) (nl + k) c := e1
    have O10 := O9
    have eq9 : ({ d with vn := v6 } : Mdy).vn = .slice (some ⟨g, 0, none⟩) (nl + k) c := e1
    rw [eq9] at O10
    have hqk : q < nl + k := by omega
    have hs := gi_set O10 q hqk x
    have eN : setN M.nums q x = (N ++ List.replicate k 0).set q x := by unfold setN; rw [hN, hk]
    have R10 := R9.setNums (v' := v6) (nums' := (N ++ List.replicate k 0).set q x) (by rw [eq9, <- e1']; rw [<- e1'] at hs; exact hs.2) (by rw [<- e1'] at hs; simpa [e9] using hs.1)
    refine ⟨g, c, e1', hc1, hc2, hg, ?_, ?_, { d with vn := v6 }, ⟨?_, ?_⟩, ?_, rfl⟩
    ·rw [own_cell O10.out q (by omega)]
     have hq2 : nl <= q := by omega
     simp [ivs]
     rw [List.getElem?_append_right (by rw [hN, List.length_map, <- hnl]; exact hq2)]
     rw [List.getElem?_replicate, if_pos (by rw [hN, List.length_map, <- hnl]; omega)]
    ·exact own_fz O10.out q
    ·rw [R10.2.1, <- hmb, hs39, eN]; rfl
    ·rw [eN]; exact R10.1
    ·exact (Foo.of_below hd).trans (F9.trans R10.2.2)
  have S0 : (fun w' : World => w'.cell? ⟨mb, 39, none⟩ = some (.slice na nl nc)) w.drew := by
   have := c39
   rw [e, <- hnl, <- hmb] at this
   exact this
  rw [e, <- hnl] at c39
  rw [<- hnl] at hin hl
  rw [<- hf] at c37
  rw [<- hmb] at c37 c39 hlt ⊢
  have hqn : (nl : Int) <= (q : Int) := by omega
  have hkk : (q : Int) + 1 - (nl : Int) = (k : Int) := by omega
  have hwk : IntKind.i64.wrap (k : Int) = (k : Int) := by rw [IntKind.wrap_i64]; omega
  have hwq : IntKind.i64.wrap ((q : Int) + 1) = (q : Int) + 1 := by rw [IntKind.wrap_i64]; omega
  have hqk2 : (q : Int) < ((nl + k : Nat) : Int) := by omega
  clear h hD c31 c32 c34 c35 c36 c38 c40 hmb hq hf hnl e hput hv hN hhi hk
  go_enter Tryz.func52, Tryz.ntmps52
  go_wp2_with fail
  refine led_start (S := fun w' : World => w'.cell? ⟨mb, 39, none⟩ = some (.slice na nl nc)) (z := 19) (by kernel_rfl) ?_
  refine led_t (i := 0) (v := ?v0) rfl (by kernel_rfl) (.inl ⟨by rfl, ?hy0⟩) S0 ?rest0
  case hy0 =>
   rintro w' h1
   go_simp
   all_goals with_reducible rfl
  try simp only [Act.put, List.getElem_toArray, List.getElem_cons_succ, List.getElem_cons_zero, List.setIfInBounds_toArray, List.set_cons_zero, List.set_cons_succ]
  refine led_t (i := 1) (v := ?v1) rfl (by kernel_rfl) (.inl ⟨by rfl, ?hy1⟩) S0 ?rest1
  case hy1 =>
   rintro w' h1
   go_simp
   all_goals with_reducible rfl
  try simp only [Act.put, List.getElem_toArray, List.getElem_cons_succ, List.getElem_cons_zero, List.setIfInBounds_toArray, List.set_cons_zero, List.set_cons_succ]
  refine led_t (i := 2) (v := ?v2) rfl (by kernel_rfl) (.inl ⟨by rfl, ?hy2⟩) S0 ?rest2
  case hy2 =>
   rintro w' h1
   go_simp
   all_goals with_reducible rfl
  try simp only [Act.put, List.getElem_toArray, List.getElem_cons_succ, List.getElem_cons_zero, List.setIfInBounds_toArray, List.set_cons_zero, List.set_cons_succ]
  refine led_t (i := 3) (v := ?v3) rfl (by kernel_rfl) (.inl ⟨by rfl, ?hy3⟩) S0 ?rest3
  case hy3 =>
   rintro w' h1
   go_simp
   all_goals with_reducible rfl
  try simp only [Act.put, List.getElem_toArray, List.getElem_cons_succ, List.getElem_cons_zero, List.setIfInBounds_toArray, List.set_cons_zero, List.set_cons_succ]
  refine led_t (i := 4) (v := ?v4) rfl (by kernel_rfl) (.inl ⟨by rfl, ?hy4⟩) S0 ?rest4
  case hy4 =>
   rintro w' h1
   go_simp
   all_goals with_reducible rfl
  try simp only [Act.put, List.getElem_toArray, List.getElem_cons_succ, List.getElem_cons_zero, List.setIfInBounds_toArray, List.set_cons_zero, List.set_cons_succ]
  refine led_t (i := 5) (v := ?v5) rfl (by kernel_rfl) (.inl ⟨by rfl, ?hy5⟩) S0 ?rest5
  case hy5 =>
   rintro w' h1
   go_simp
   all_goals with_reducible rfl
  try simp only [Act.put, List.getElem_toArray, List.getElem_cons_succ, List.getElem_cons_zero, List.setIfInBounds_toArray, List.set_cons_zero, List.set_cons_succ]
  refine led_t (i := 6) (v := ?v6) rfl (by kernel_rfl) (.inl ⟨by rfl, ?hy6⟩) S0 ?rest6
  case hy6 =>
   rintro w' h1
   go_simp
   all_goals with_reducible rfl
  try simp only [Act.put, List.getElem_toArray, List.getElem_cons_succ, List.getElem_cons_zero, List.setIfInBounds_toArray, List.set_cons_zero, List.set_cons_succ]
  refine led_t (i := 7) (v := ?v7) rfl (by kernel_rfl) (.inl ⟨by rfl, ?hy7⟩) S0 ?rest7
  case hy7 =>
   rintro w' h1
   go_simp
   all_goals with_reducible rfl
  try simp only [Act.put, List.getElem_toArray, List.getElem_cons_succ, List.getElem_cons_zero, List.setIfInBounds_toArray, List.set_cons_zero, List.set_cons_succ]
  refine led_t (i := 8) (v := ?v8) rfl (by kernel_rfl) (.inl ⟨by rfl, ?hy8⟩) S0 ?rest8
  case hy8 =>
   rintro w' h1
   go_simp
   all_goals with_reducible rfl
  try simp only [Act.put, List.getElem_toArray, List.getElem_cons_succ, List.getElem_cons_zero, List.setIfInBounds_toArray, List.set_cons_zero, List.set_cons_succ]
  refine led_t (i := 9) (v := ?v9) rfl (by kernel_rfl) (.inl ⟨by rfl, ?hy9⟩) S0 ?rest9
  case hy9 =>
   rintro w' h1
   go_simp
   all_goals with_reducible rfl
  try simp only [Act.put, List.getElem_toArray, List.getElem_cons_succ, List.getElem_cons_zero, List.setIfInBounds_toArray, List.set_cons_zero, List.set_cons_succ]
  refine led_t (i := 10) (v := ?v10) rfl (by kernel_rfl) (.inl ⟨by rfl, ?hy10⟩) S0 ?rest10
  case hy10 =>
   rintro w' h1
   go_simp
   all_goals with_reducible rfl
  try simp only [Act.put, List.getElem_toArray, List.getElem_cons_succ, List.getElem_cons_zero, List.setIfInBounds_toArray, List.set_cons_zero, List.set_cons_succ]
  refine led_t (i := 11) (v := ?v11) rfl (by kernel_rfl) (.inl ⟨by rfl, ?hy11⟩) S0 ?rest11
  case hy11 =>
   rintro w' h1
   go_simp
   all_goals with_reducible rfl
  try simp only [Act.put, List.getElem_toArray, List.getElem_cons_succ, List.getElem_cons_zero, List.setIfInBounds_toArray, List.set_cons_zero, List.set_cons_succ]
  refine led_t (i := 12) (v := ?v12) rfl (by kernel_rfl) (.inl ⟨by rfl, ?hy12⟩) S0 ?rest12
  case hy12 =>
   rintro w' h1
   go_simp
   all_goals with_reducible rfl
  try simp only [Act.put, List.getElem_toArray, List.getElem_cons_succ, List.getElem_cons_zero, List.setIfInBounds_toArray, List.set_cons_zero, List.set_cons_succ]
  refine led_t (i := 13) (v := ?v13) rfl (by kernel_rfl) (.inl ⟨by rfl, ?hy13⟩) S0 ?rest13
  case hy13 =>
   rintro w' h1
   go_simp
   all_goals with_reducible rfl
  try simp only [Act.put, List.getElem_toArray, List.getElem_cons_succ, List.getElem_cons_zero, List.setIfInBounds_toArray, List.set_cons_zero, List.set_cons_succ]
  refine led_t (i := 14) (v := ?v14) rfl (by kernel_rfl) (.inl ⟨by rfl, ?hy14⟩) S0 ?rest14
  case hy14 =>
   rintro w' h1
   go_simp
   all_goals with_reducible rfl
  try simp only [Act.put, List.getElem_toArray, List.getElem_cons_succ, List.getElem_cons_zero, List.setIfInBounds_toArray, List.set_cons_zero, List.set_cons_succ]
  refine led_one (i := 15) rfl (by kernel_rfl) ?_
  intro K2 hK2
  refine step_append_makeG rfl _ _ rfl hi (.slice na nl nc) nl N (by simp [Act.eval]) HON.out k (by simp [Act.eval]) hk0 hlim HHI.out ?_
  intro v6 w6 h6 g6
  have S6 := PUT.out v6 w6 h6 g6
  refine hK2 _ _ (fun _ => S6.1) ?_
  clear hK2
  obtain ⟨a6, c6, e6, _, _⟩ := own_slice h6.out
  subst e6
  have P6 : Hid _ := S6.2
  have T6 := S6.1
  have F6 := S6.2.1
  have H6 : Hid _ := h6
  clear h6 g6 S6
  try simp only [Act.put, List.getElem_toArray, List.getElem_cons_succ, List.getElem_cons_zero, List.setIfInBounds_toArray, List.set_cons_zero, List.set_cons_succ]
  refine led_one (i := 16) rfl (by kernel_rfl) ?_
  intro K3 hK3
  rw [if_pos (by rfl)]
  go_simp
  refine hK3 _ _ (fun _ => T6) ?_
  clear hK3
  try simp only [Act.put, List.getElem_toArray, List.getElem_cons_succ, List.getElem_cons_zero, List.setIfInBounds_toArray, List.set_cons_zero, List.set_cons_succ]
  refine led_one (i := 17) rfl (by kernel_rfl) ?_
  intro K4 hK4
  rw [if_pos (by rfl)]
  go_simp
  refine hK4 _ _ (fun _ => T6) ?_
  clear hK4
  try simp only [Act.put, List.getElem_toArray, List.getElem_cons_succ, List.getElem_cons_zero, List.setIfInBounds_toArray, List.set_cons_zero, List.set_cons_succ]
  refine led_one (i := 18) rfl (by kernel_rfl) ?_
  intro K5 hK5
  rw [if_pos (by rfl)]
  go_simp
  refine hK5 _ _ (fun _ => T6) ?_
  clear hK5
  try simp only [Act.put, List.getElem_toArray, List.getElem_cons_succ, List.getElem_cons_zero, List.setIfInBounds_toArray, List.set_cons_zero, List.set_cons_succ]
  refine led_one (i := 19) rfl (by kernel_rfl) ?_
  intro K7 hK7
  rw [if_pos (by rfl)]
  go_simp
  refine hK7 _ _ (fun h => absurd rfl h) ?_
  clear hK7
  refine led_done (by kernel_rfl) ?_
  obtain ⟨_, hx6, ⟨g, c, e1, hc1, hc2, hgl, hz, hfz, HF⟩, hc9⟩ := P6.out
  cases e1
  obtain ⟨W9, hW9⟩ : ∃ W9, W9 = w6.setCell ⟨mb, 39, none⟩ (.slice (some ⟨g, 0, none⟩) (nl + k) c6) := ⟨_, rfl⟩
  rw [<- hW9] at hgl hz hfz HF hc9 ⊢
  obtain ⟨nk, hnk⟩ : ∃ nk, nk = nl + k := ⟨_, rfl⟩
  rw [<- hnk] at hc1 hc9 hqk2 ⊢
  have hmb9 : mb < W9.heap.size := block_lt_of_cell hc9
  have hqnk : q < nk := by omega
  clear hW9 P6 H6 PUT S0 T6 F6 hx6 HON HHI hnk hin hlim c37 c39 hlt
  go_wp2_with fail
  exact bodyPost_end (v := .tuple #[]) (by simp [results, Tryz.results52, go_sem]) rfl ⟨rfl, HF.out⟩
theorem mSet_any {FS s d w M} (h : Mach FS s d w M) (v : Nat) (x : Int) (hv : M.here.fst + v <= 1000000000) (hl : M.nums.length <= 1000000000) :
 Calls Tryz.prog 52 #[.pointer (some ⟨s.mb, 0, none⟩), .int .i64 (v : Int), .int .i64 x] w fun e w' => e = .returned (.tuple #[]) /\ ∃ d', Mach FS s d' w' (M.put v x) /\ Foo s d d' w w' :=
 (mSet_vp h v x hv hl).mono fun e w' ⟨q1, d', q2, q3, _⟩ => ⟨q1, d', q2, q3⟩
end Go.Proofs.YtfbkopjncmkbiaaGreatDoor
