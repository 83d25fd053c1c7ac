import Derived.Deep.OwnRows
import Derived.Laws.OwnMore
import Derived.Test.YtfbkopjncmkbiabGreatDoorKab
set_option linter.unusedVariables false
set_option linter.unusedSimpArgs false
namespace Go.Proofs.YtfbkopjncmkbiabGreatDoor
open Go.ChangeShapes Go.WideShapes Go.ChangeAt Go.RowKit Go.Maps
theorem made_own (w : World) (B : Nat) (hB : B <= w.heap.size) (z : Value) (e : TypeId) (n : Nat) (hn : n <= 9223372036854775807) : (w.alloc (.cells (madeCells #[z] n) e)).ownsRow B e 1 (.slice (some ⟨w.heap.size, 0, none⟩) n n) n (List.replicate n z) :=
 ⟨by simp, .inr ⟨w.heap.size, n, madeCells #[z] n, rfl, hB, heap_alloc_new _ _, Nat.le_refl _, by unfold maxLen; omega, by rw [size_madeCells]; omega, by rw [toList_madeCells_one, List.take_of_length_le (by simp)]⟩⟩
structure OwnBl (w : World) (B : Nat) (v : Value) (n : Nat) (L : List Bool) : Prop where
 len : n = L.length
 out : w.ownsRow B 4 1 v n (L.map Value.bool)
theorem OwnBl.nil (w : World) (B : Nat) : OwnBl w B (.slice none 0 0) 0 [] := ⟨rfl, World.ownsRow_nil _ _ _ _⟩
theorem OwnBl.keep {w w' B v n L} (h : OwnBl w B v n L) (hb : Below w.heap.size w w') : OwnBl w' B v n L := ⟨h.len, own_keep h.out hb.block⟩
theorem OwnBl.move {w w' : World} {B v n L} (h : OwnBl w B v n L) (hk : ∀ g, v.ownBlock = some g -> w'.heap[g]? = w.heap[g]?) : OwnBl w' B v n L := ⟨h.len, own_move h.out hk⟩
theorem OwnBl.bls {w B v n L} (h : OwnBl w B v n L) : ∃ ao c, v = .slice ao n c /\ Bls w ao c L := by
 obtain ⟨ao, c, e, h1, h2⟩ := own_slice h.out
 subst e
 refine ⟨ao, c, rfl, by rw [<- h.len]; exact h1, h2, fun hn => ?_⟩
 have hp : 0 < n := by rw [h.len]; exact List.length_pos_iff.2 hn
 obtain ⟨g, c', e, _, _, hB, hg⟩ := own_some h.out hp
 cases e
 refine ⟨g, 0, rfl, hg, fun i hi => ?_⟩
 have := own_cell h.out i (by rw [h.len]; omega)
 rw [Nat.zero_add, this]
 simp [hi]
theorem OwnBl.set {w : World} {B g c n : Nat} {L : List Bool} (h : OwnBl w B (.slice (some ⟨g, 0, none⟩) n c) n L) (q : Nat) (hq : q < n) (u : Bool) : OwnBl (w.setCell ⟨g, q, none⟩ (.bool u)) B (.slice (some ⟨g, 0, none⟩) n c) n (L.set q u) :=
 ⟨by simpa using h.len, by have := own_set h.out q (by omega) (.bool u); rwa [<- List.map_set] at this⟩
theorem infoBool : (Tryz.prog.info? 4).map (fun i => (i.zero, i.size, i.bytes)) = some (some (.bool false), 1, 1) := by kernel_rfl
def rch (n : Nat) (bl : List Int) : List Bool := (List.range n).map fun i : Nat => decide ((i : Int) ∈ bl)
theorem rch_len (n : Nat) (bl : List Int) : (rch n bl).length = n := by simp [rch]
theorem rch_nil (n : Nat) : rch n [] = List.replicate n false := by
 refine List.ext_getElem (by simp [rch]) fun i h1 h2 => ?_
 simp [rch]
theorem rch_set (n : Nat) (bl : List Int) (b : Nat) : (rch n bl).set b true = rch n (bl ++ [(b : Int)]) := by
 refine List.ext_getElem (by simp [rch]) fun i h1 h2 => ?_
 rw [List.getElem_set]
 simp only [rch, List.getElem_map, List.getElem_range, List.mem_append, List.mem_singleton]
 by_cases e : b = i
 ·subst e; simp
 ·rw [if_neg e]
  have : ¬ ((i : Int) = b) := by omega
  simp [this]
def reachP (Ls : List (List Int)) : List Bool := if goodP Ls = true then rch Ls.length (walkP Ls).bl else []
theorem wrun_wi {Ls : List (List Int)} (hg : goodP Ls = true) : ∀ (k : Nat) (s : DS), WI Ls s -> WI Ls (wrun Ls k s)
 | 0, s, h => h
 | k + 1, s, h => by
   rw [wrun]
   split
   ·exact h
   ·next hne =>
    obtain ⟨bl, mt, op⟩ := s
    rcases List.eq_nil_or_concat op with he | ⟨st, ⟨b, t⟩, he⟩
    ·exact absurd he hne
    ·rw [List.concat_eq_append] at he
     subst he
     refine wrun_wi hg k _ ?_
     cases e : fst0 bl ((rowOf Ls b).drop t) with
     | none =>
       have : wstep Ls ⟨bl, mt, st ++ [(b, t)]⟩ = ⟨bl, mt, st⟩ := by simp [wstep, e]
       rw [this]
       exact ⟨h.nd, h.rng, h.len, fun p hp => h.ops p (by simp; exact .inl hp), by have := h.few; simp at this ⊢; omega⟩
     | some j =>
       obtain ⟨h1, h2, h3⟩ := fst0_some e
       obtain ⟨p1, p2, _⟩ := h.push hg (k := j) (by simp at h1; omega) (by simpa [List.getD] using h2) (fun i hi => by simpa [List.getD] using h3 i hi)
       rw [p2]; exact p1
theorem walkP_wi {Ls : List (List Int)} (hg : goodP Ls = true) : WI Ls (walkP Ls) := wrun_wi hg _ _ (WI.zero hg)
set_option maxHeartbeats 1000000 in
theorem reach_any (w : World) (ao : Option Addr) (n c : Nat) (Ls : List (List Int)) (hn : n = Ls.length) (h : IRow w ao c Ls) (hsz : n <= 100000000) :
 Calls Tryz.prog 88 #[.slice ao n c] w fun e w' => ∃ v, e = .returned v /\ OwnBl w' w.heap.size v (reachP Ls).length (reachP Ls) /\ Below w.heap.size w w' := by
 have hgd := good_any w ao n c Ls hn h
 by_cases hg : goodP Ls = true
 ·rw [hg] at hgd
  have hwi := walkP_wi hg
  have hmk := run_make_row' (P := Tryz.prog) 120 4 (.bool false) 1 Tryz.underlying120 infoBool rfl .i64 .i64 n (by omega) (by omega)
  obtain ⟨w1, hw1⟩ : ∃ w1, w1 = w.alloc (.cells (madeCells #[.bool false] n) 4) := ⟨_, rfl⟩
  have o1 : OwnBl w1 w.heap.size (.slice (some ⟨w.heap.size, 0, none⟩) n n) n (rch n []) := ⟨by simp [rch], by rw [hw1, rch_nil]; simpa using made_own w w.heap.size (Nat.le_refl _) (.bool false) 4 n (by omega)⟩
  have hb1 : Below w.heap.size w w1 := by rw [hw1]; exact (Below.refl _ _).alloc (Nat.le_refl _) _
  have hs1 : w1.heap.size = w.heap.size + 1 := by rw [hw1]; simp
  have hwk := walkOf_any w1 ao n c Ls hn (h.below hb1 (Nat.le_refl _)) hg hsz
  have HN : Hid (n = Ls.length) := hn
  have HR : Hid (reachP Ls = rch n (walkP Ls).bl) := by show _ = _; rw [reachP, if_pos hg, hn]
  have HWI : Hid _ := hwi
  have HO1 : Hid _ := o1
  have HB1 : Hid _ := hb1
  have hle : (walkP Ls).bl.length <= n := by have := hwi.le; omega
  clear h hn hg hwi o1 hb1
  go_enter Tryz.func88, Tryz.ntmps88
  go_wp2_with fail
  refine hgd.mono ?_
  rintro e w' ⟨rfl, rfl⟩
  go_wp2_with fail
  rw [<- hw1]
  refine hwk.mono ?_
  rintro e w2 ⟨rfl, ⟨v1, v2, HW⟩, hb2⟩
  clear hwk hgd hmk
  have hsB := hb2.size
  obtain ⟨a1, c1, e1, n1, n1'⟩ := own_slice HW.o1.out
  have kb : w2.cell? ⟨w1.heap.size + 1, 0, none⟩ = some v1 := cell_arr (i := 0) HW.box rfl
  rw [e1] at kb
  obtain ⟨bl, hbl⟩ : ∃ bl, bl = (walkP Ls).bl := ⟨_, rfl⟩
  rw [<- hbl] at kb hle n1
  have HI1 : Hid (OwnI w2 w1.heap.size (.slice a1 bl.length c1) bl.length bl) := by have := HW.o1; rw [e1, <- hbl] at this; exact this
  have HRG : Hid (∀ x ∈ bl, 0 <= x /\ x < n) := by rw [hbl]; intro x hx; have := HWI.out.rng x hx; have := HN.out; omega
  have O2 := HO1.out.keep hb2
  have HB2 : Hid (Below w'.heap.size w' w2) := HB1.out.trans (hb2.mono HB1.out.size)
  rw [<- hbl] at HR
  clear HW hb2 hbl HO1 HB1 HWI e1 hw1
  rw [hs1] at kb
  go_wp2_with fail
  go_loopw [18] (fun v wr => ∃ k : Nat, k <= bl.length /\ v = .int .i64 k /\ Hid (OwnBl wr w'.heap.size (.slice (some ⟨w'.heap.size, 0, none⟩) n n) n (rch n (bl.take k))) /\ Hid (OwnI wr w1.heap.size (.slice a1 bl.length c1) bl.length bl) /\ Hid (Below w'.heap.size w' wr)) (fun v _ => bl.length - (intOf v).toNat)
  case atStart => exact ⟨0, by omega, rfl, O2, HI1.out, HB2.out⟩
  case round =>
   obtain ⟨k, hk, rfl, HO, HI, HB⟩ := hrel
   by_cases hlt : k < bl.length
   ·obtain ⟨ao1, co1, e1, hI⟩ := HI.out.ints
    cases e1
    obtain ⟨b0, o0, rfl, kx⟩ := hI.at hlt
    have hx := HRG.out bl[k] (List.getElem_mem hlt)
    obtain ⟨x, hxx⟩ : ∃ x, x = bl[k] := ⟨_, rfl⟩
    rw [<- hxx] at kx hx
    obtain ⟨xn, rfl⟩ : ∃ xn : Nat, x = (xn : Int) := ⟨x.toNat, by omega⟩
    have hxn : xn < n := by omega
    have HX : Hid ((xn : Int) = bl[k]) := hxx
    have kc : wr.cell? ⟨w'.heap.size, xn, none⟩ = some (.bool ((rch n (bl.take k))[xn]'(by rw [rch_len]; exact hxn))) := by
     have := own_cell HO.out.out xn (by omega)
     rw [this]; simp [rch_len, hxn]
    have kf := own_fz HO.out.out xn
    have HO' := HO.out.set xn hxn true
    rw [rch_set] at HO'
    have HOX : Hid _ := HO'
    have HIX : Hid (OwnI (wr.setCell ⟨w'.heap.size, xn, none⟩ (.bool true)) w1.heap.size (.slice (some ⟨b0, o0, none⟩) bl.length c1) bl.length bl) := ⟨HI.out.len, own_move HI.out.out fun g hg => heap_set_other (own_apart HI.out.out HO.out.out (by decide) g hg ∘ (fun e => by rw [e]; rfl))⟩
    have HBX : Hid (Below w'.heap.size w' (wr.setCell ⟨w'.heap.size, xn, none⟩ (.bool true))) := HB.out.setCell (Nat.le_refl _) _
    clear hxx hx hI HO'
    go_wp2_with fail
    go_roundw
    case rel =>
     refine ⟨k + 1, by omega, by go_num, ?_, HIX.out, HBX.out⟩
     rw [<- List.take_append_getElem hlt, <- HX.out]
     exact HOX.out
    case measure => simp [intOf]; omega
   ·have hkn : k = bl.length := by omega
    subst hkn
    go_wp2_with fail
    go_ret
    have := HO.out
    rw [List.take_of_length_le (Nat.le_refl _)] at this
    refine ⟨_, rfl, ?_, HB.out⟩
    rw [HR.out, rch_len]
    exact this
 ·have hf : goodP Ls = false := by simpa using hg
  have HR : Hid (reachP Ls = []) := by show _ = _; rw [reachP, if_neg hg]
  rw [hf] at hgd
  clear h hg hf hn
  go_enter Tryz.func88, Tryz.ntmps88
  go_wp2_with fail
  refine hgd.mono ?_
  rintro e w' ⟨rfl, rfl⟩
  go_wp2_with fail
  go_ret
  rw [HR.out]
  exact ⟨_, rfl, OwnBl.nil _ _, Below.refl _ _⟩
def gn (l : List Int) (i : Nat) : Int := l.getD i 0
theorem gn_set {l : List Int} {i j : Nat} {v : Int} (hi : i < l.length) : gn (l.set i v) j = if j = i then v else gn l j := by
 unfold gn
 by_cases h : j = i
 ·subst h; simp [hi]
 ·rw [if_neg h]; simp [List.getD, List.getElem?_set, Ne.symm h]
theorem gn_at {l : List Int} {i : Nat} (hi : i < l.length) : gn l i = l[i] := by simp [gn, hi]
structure Fo where
 up : List Int
 best : List Int
def wayUp (up : List Int) : Nat -> Nat -> List Nat
 | 0, _ => []
 | f + 1, x => if 0 <= gn up (gn up x).toNat then x :: wayUp up f (gn up x).toNat else []
def stp (door : List Int) (low : Nat) (f : Fo) : Fo :=
 ⟨f.up.set low (gn f.up (gn f.up low).toNat), if gn door (gn f.best (gn f.up low).toNat).toNat < gn door (gn f.best low).toNat then f.best.set low (gn f.best (gn f.up low).toNat) else f.best⟩
def shorten (door : List Int) (f : Fo) (x : Nat) : Fo := (wayUp f.up (x + 1) x).foldr (stp door) f
def lst (door : List Int) (f : Fo) (x : Nat) : Nat × Fo := if gn f.up x < 0 then (x, f) else ((gn (shorten door f x).best x).toNat, shorten door f x)
structure FI (n : Nat) (door : List Int) (f : Fo) : Prop where
 ld : door.length = n
 lu : f.up.length = n
 lb : f.best.length = n
 dr : ∀ i, i < n -> 0 <= gn door i /\ gn door i < n
 ur : ∀ i, i < n -> -1 <= gn f.up i /\ gn f.up i < i
 br : ∀ i, i < n -> 0 <= gn f.best i /\ gn f.best i < n
theorem FI.stp {n : Nat} {door : List Int} {f : Fo} (h : FI n door f) {low : Nat} (hl : low < n) (h0 : 0 <= gn f.up low) (h1 : 0 <= gn f.up (gn f.up low).toNat) : FI n door (stp door low f) /\ ∀ i, 0 <= gn (Go.Proofs.YtfbkopjncmkbiabGreatDoor.stp door low f).up i ↔ 0 <= gn f.up i := by
 have hu := h.ur low hl
 have ha : (gn f.up low).toNat < n := by omega
 have hu2 := h.ur _ ha
 have hb := h.br _ ha
 refine ⟨⟨h.ld, by simp [Go.Proofs.YtfbkopjncmkbiabGreatDoor.stp, h.lu], ?_, h.dr, fun i hi => ?_, fun i hi => ?_⟩, fun i => ?_⟩
 ·unfold Go.Proofs.YtfbkopjncmkbiabGreatDoor.stp
  simp only
  split
  ·simp [h.lb]
  ·exact h.lb
 ·unfold Go.Proofs.YtfbkopjncmkbiabGreatDoor.stp
  simp only
  rw [gn_set (by rw [h.lu]; exact hl)]
  split
  ·next e => subst e; omega
  ·exact h.ur i hi
 ·unfold Go.Proofs.YtfbkopjncmkbiabGreatDoor.stp
  simp only
  split
  ·rw [gn_set (by rw [h.lb]; exact hl)]
   split
   ·exact hb
   ·exact h.br i hi
  ·exact h.br i hi
 ·unfold Go.Proofs.YtfbkopjncmkbiabGreatDoor.stp
  simp only
  rw [gn_set (by rw [h.lu]; exact hl)]
  split
  ·next e => subst e; simp [h0, h1]
  ·rfl
theorem way_ok {n : Nat} {door : List Int} {f : Fo} (h : FI n door f) : ∀ (q x : Nat), x < n -> 0 <= gn f.up x -> ∀ y ∈ wayUp f.up q x, y < n /\ 0 <= gn f.up y /\ 0 <= gn f.up (gn f.up y).toNat
 | 0, _, _, _, y, hy => by simp [wayUp] at hy
 | q + 1, x, hx, h0, y, hy => by
   simp only [wayUp] at hy
   split at hy
   ·next h1 =>
    rcases List.mem_cons.1 hy with rfl | hy
    ·exact ⟨hx, h0, h1⟩
    ·have := h.ur x hx
     exact way_ok h q _ (by omega) h1 y hy
   ·simp at hy
theorem way_le {n : Nat} {door : List Int} {f : Fo} (h : FI n door f) : ∀ (q x : Nat), x < n -> 0 <= gn f.up x -> (∀ y ∈ wayUp f.up q x, y <= x) /\ (wayUp f.up q x).Nodup
 | 0, _, _, _ => by simp [wayUp]
 | q + 1, x, hx, h0 => by
   simp only [wayUp]
   split
   ·next h1 =>
    have hu := h.ur x hx
    obtain ⟨i1, i2⟩ := way_le h q (gn f.up x).toNat (by omega) h1
    refine ⟨fun y hy => ?_, List.nodup_cons.2 ⟨fun hm => ?_, i2⟩⟩
    ·rcases List.mem_cons.1 hy with rfl | hy
     ·exact Nat.le_refl _
     ·have := i1 y hy; omega
    ·have := i1 x hm; omega
   ·simp
theorem fold_other (door : List Int) (f : Fo) (y : Nat) : ∀ (l : List Nat), y ∉ l -> gn (l.foldr (stp door) f).up y = gn f.up y
 | [], _ => rfl
 | x :: l, h => by
   have hne : x ≠ y := fun e => h (by simp [e])
   rw [List.foldr_cons]
   have ih := fold_other door f y l fun hm => h (by simp [hm])
   show gn ((l.foldr (stp door) f).up.set x _) y = _
   rw [<- ih]
   simp [gn, List.getD, List.getElem?_set, hne]
theorem fold_ok {n : Nat} {door : List Int} {f : Fo} (h : FI n door f) : ∀ (l : List Nat), l.Nodup -> (∀ y ∈ l, y < n /\ 0 <= gn f.up y /\ 0 <= gn f.up (gn f.up y).toNat) -> FI n door (l.foldr (stp door) f) /\ ∀ i, 0 <= gn (l.foldr (stp door) f).up i ↔ 0 <= gn f.up i
 | [], _, _ => ⟨h, fun _ => Iff.rfl⟩
 | y :: l, hd, hl => by
   obtain ⟨d1, d2⟩ := List.nodup_cons.1 hd
   obtain ⟨h1, h2⟩ := fold_ok h l d2 fun z hz => hl z (by simp [hz])
   obtain ⟨y1, y2, y3⟩ := hl y (by simp)
   rw [List.foldr_cons]
   have e := fold_other door f y l d1
   have k0 : 0 <= gn (l.foldr (stp door) f).up y := by rw [e]; exact y2
   have k1 : 0 <= gn (l.foldr (stp door) f).up (gn (l.foldr (stp door) f).up y).toNat := by rw [e]; exact (h2 _).2 y3
   obtain ⟨p1, p2⟩ := h1.stp y1 k0 k1
   exact ⟨p1, fun i => (p2 i).trans (h2 i)⟩
theorem FI.shorten {n : Nat} {door : List Int} {f : Fo} (h : FI n door f) {x : Nat} (hx : x < n) (h0 : 0 <= gn f.up x) : FI n door (shorten door f x) /\ ∀ i, 0 <= gn (Go.Proofs.YtfbkopjncmkbiabGreatDoor.shorten door f x).up i ↔ 0 <= gn f.up i :=
 fold_ok h _ (way_le h _ x hx h0).2 (way_ok h _ x hx h0)
theorem FI.lst {n : Nat} {door : List Int} {f : Fo} (h : FI n door f) {x : Nat} (hx : x < n) : FI n door (lst door f x).2 /\ (Go.Proofs.YtfbkopjncmkbiabGreatDoor.lst door f x).1 < n /\ ∀ i, 0 <= gn (Go.Proofs.YtfbkopjncmkbiabGreatDoor.lst door f x).2.up i ↔ 0 <= gn f.up i := by
 unfold Go.Proofs.YtfbkopjncmkbiabGreatDoor.lst
 split
 ·exact ⟨h, hx, fun _ => Iff.rfl⟩
 ·obtain ⟨h1, h2⟩ := h.shorten hx (by omega)
  have := h1.br x hx
  exact ⟨h1, by show (gn _ x).toNat < n; omega, h2⟩
theorem ivs_at {l : List Int} {i : Nat} (hi : i < l.length) : (ivs l).toArray[i]? = some (.int .i64 (gn l i)) := by simp [ivs, gn, hi]
structure FR (w : World) (fb gd gu gb n : Nat) (door : List Int) (f : Fo) : Prop where
 box : w.heap[fb]? = some (.cells #[.slice (some ⟨gd, 0, none⟩) n n, .slice (some ⟨gu, 0, none⟩) n n, .slice (some ⟨gb, 0, none⟩) n n] 181 (0, 0))
 d : w.heap[gd]? = some (.cells (ivs door).toArray 3 (0, 0))
 u : w.heap[gu]? = some (.cells (ivs f.up).toArray 3 (0, 0))
 b : w.heap[gb]? = some (.cells (ivs f.best).toArray 3 (0, 0))
 ne : gd ≠ gu /\ gd ≠ gb /\ gu ≠ gb
def FF (fb gd gu gb k : Nat) : Prop := k = fb \/ k = gd \/ k = gu \/ k = gb
theorem FR.lt {w fb gd gu gb n door f} (h : FR w fb gd gu gb n door f) : ∀ k, FF fb gd gu gb k -> k < w.heap.size := by
 rintro k (rfl | rfl | rfl | rfl)
 ·exact (gl h.box)
 ·exact (gl h.d)
 ·exact (gl h.u)
 ·exact (gl h.b)
theorem FR.move {w w' : World} {fb gd gu gb n door f} (h : FR w fb gd gu gb n door f) (hk : ∀ k, FF fb gd gu gb k -> w'.heap[k]? = w.heap[k]?) : FR w' fb gd gu gb n door f :=
 ⟨(hk fb (.inl rfl)).trans h.box, (hk gd (.inr (.inl rfl))).trans h.d, (hk gu (.inr (.inr (.inl rfl)))).trans h.u, (hk gb (.inr (.inr (.inr rfl)))).trans h.b, h.ne⟩
theorem FR.drewN {w fb gd gu gb n door f} (h : FR w fb gd gu gb n door f) (k : Nat) : FR (w.drewN k) fb gd gu gb n door f := h.move fun g hg => drewN_at w k g (h.lt g hg)
theorem FR.drew {w fb gd gu gb n door f} (h : FR w fb gd gu gb n door f) : FR w.drew fb gd gu gb n door f := h.drewN 1
theorem FR.fne {w fb gd gu gb n door f} (h : FR w fb gd gu gb n door f) : fb ≠ gd /\ fb ≠ gu /\ fb ≠ gb := by
 refine ⟨?_, ?_, ?_⟩
 ·rintro rfl; have := h.box; rw [h.d] at this; simp only [Option.some.injEq, Obj.cells.injEq] at this; exact absurd this.2.1 (by decide)
 ·rintro rfl; have := h.box; rw [h.u] at this; simp only [Option.some.injEq, Obj.cells.injEq] at this; exact absurd this.2.1 (by decide)
 ·rintro rfl; have := h.box; rw [h.b] at this; simp only [Option.some.injEq, Obj.cells.injEq] at this; exact absurd this.2.1 (by decide)
theorem FR.boxes {w fb gd gu gb n door f} (h : FR w fb gd gu gb n door f) : w.cell? ⟨fb, 0, none⟩ = some (.slice (some ⟨gd, 0, none⟩) n n) /\ w.cell? ⟨fb, 1, none⟩ = some (.slice (some ⟨gu, 0, none⟩) n n) /\ w.cell? ⟨fb, 2, none⟩ = some (.slice (some ⟨gb, 0, none⟩) n n) :=
 ⟨cell_arr h.box rfl, cell_arr h.box rfl, cell_arr h.box rfl⟩
theorem FR.kd {w fb gd gu gb n door f} (h : FR w fb gd gu gb n door f) (hf : FI n door f) {i : Nat} (hi : i < n) : w.cell? ⟨gd, i, none⟩ = some (.int .i64 (gn door i)) := cell_arr h.d (ivs_at (by rw [hf.ld]; exact hi))
theorem FR.ku {w fb gd gu gb n door f} (h : FR w fb gd gu gb n door f) (hf : FI n door f) {i : Nat} (hi : i < n) : w.cell? ⟨gu, i, none⟩ = some (.int .i64 (gn f.up i)) := cell_arr h.u (ivs_at (by rw [hf.lu]; exact hi))
theorem FR.kb {w fb gd gu gb n door f} (h : FR w fb gd gu gb n door f) (hf : FI n door f) {i : Nat} (hi : i < n) : w.cell? ⟨gb, i, none⟩ = some (.int .i64 (gn f.best i)) := cell_arr h.b (ivs_at (by rw [hf.lb]; exact hi))
theorem ivs_set (l : List Int) (i : Nat) (v : Int) : (ivs l).toArray.setIfInBounds i (.int .i64 v) = (ivs (l.set i v)).toArray := by
 simp [ivs, List.map_set]
theorem FR.setU {w fb gd gu gb n door f} (h : FR w fb gd gu gb n door f) (i : Nat) (v : Int) : FR (w.setCell ⟨gu, i, none⟩ (.int .i64 v)) fb gd gu gb n door ⟨f.up.set i v, f.best⟩ :=
 ⟨(heap_set_other h.fne.2.1).trans h.box, (heap_set_other h.ne.1).trans h.d, by have := heap_set_at (i := i) (v := .int .i64 v) h.u; rw [ivs_set] at this; exact this, (heap_set_other h.ne.2.2.symm).trans h.b, h.ne⟩
theorem FR.setB {w fb gd gu gb n door f} (h : FR w fb gd gu gb n door f) (i : Nat) (v : Int) : FR (w.setCell ⟨gb, i, none⟩ (.int .i64 v)) fb gd gu gb n door ⟨f.up, f.best.set i v⟩ :=
 ⟨(heap_set_other h.fne.2.2).trans h.box, (heap_set_other h.ne.2.1).trans h.d, (heap_set_other h.ne.2.2).trans h.u, by have := heap_set_at (i := i) (v := .int .i64 v) h.b; rw [ivs_set] at this; exact this, h.ne⟩
theorem FR.setD {w fb gd gu gb n door f} (h : FR w fb gd gu gb n door f) (i : Nat) (v : Int) : FR (w.setCell ⟨gd, i, none⟩ (.int .i64 v)) fb gd gu gb n (door.set i v) f :=
 ⟨(heap_set_other h.fne.1).trans h.box, by have := heap_set_at (i := i) (v := .int .i64 v) h.d; rw [ivs_set] at this; exact this, (heap_set_other h.ne.1.symm).trans h.u, (heap_set_other h.ne.2.1.symm).trans h.b, h.ne⟩
theorem only_gi {F : Nat -> Prop} {B : Nat} {w w2 w6 : World} {v v' : Value} {n : Nat} {L : List Int} (h : Only F w w2) (ho : OwnI w2 w.heap.size v n L) (g : GI B w2 w6 v v') : Only F w w6 :=
 ⟨g.bel.os.trans h.os, g.bel.tape.trans h.tape, g.bel.output.trans h.output, Nat.le_trans h.size g.bel.size, fun k hk hn => (g.blk k (Nat.lt_of_lt_of_le hk h.size) (fun e => by have := (own_block ho.out e).1; omega)).trans (h.block k hk hn)⟩
theorem only_drewN {F : Nat -> Prop} {w w2 : World} (h : Only F w w2) (k : Nat) : Only F w (w2.drewN k) := by
 have hb := below_drewN (Below.refl w2.heap.size w2) k
 exact ⟨hb.os.trans h.os, hb.tape.trans h.tape, hb.output.trans h.output, Nat.le_trans h.size hb.size, fun g hg hn => (hb.block g (Nat.lt_of_lt_of_le hg h.size)).trans (h.block g hg hn)⟩
theorem only_set {F : Nat -> Prop} {w w2 : World} (h : Only F w w2) (g i : Nat) (v : Value) (hF : F g) : Only F w (w2.setCell ⟨g, i, none⟩ v) :=
 ⟨h.os, h.tape, h.output, by simpa [World.setCell] using h.size, fun k hk hn => (heap_set_other (fun e => hn (by rw [e]; exact hF))).trans (h.block k hk hn)⟩
def nI (l : List Nat) : List Int := l.map fun x : Nat => (x : Int)
set_option maxRecDepth 100000 in
set_option maxHeartbeats 4000000 in
theorem shorten_any (w : World) {fb gd gu gb n door f} (H : FR w fb gd gu gb n door f) (hf : FI n door f) (hn : n <= 100000000) (x : Nat) (hx : x < n) (h0 : 0 <= gn f.up x) :
 Calls Tryz.prog 180 #[.pointer (some ⟨fb, 0, none⟩), .int .i64 x] w fun e w' => e = .returned (.tuple #[]) /\ FR w' fb gd gu gb n door (shorten door f x) /\ Only (fun k => k = gu \/ k = gb) w w' := by
 have HH : Hid _ := H
 have HF : Hid _ := hf
 clear H hf
 go_enter Tryz.func180, Tryz.ntmps180
 go_wp2_with fail
 go_loopg [1, 4] (x + 1) (fun q av wv wr => ∃ (y : Nat) (way : List Nat) (ao : Option Addr) (c : Nat), y < n /\ y < q /\ av = .int .i64 (y : Int) /\ wv = .slice ao way.length c /\ Hid (OwnI wr w.heap.size (.slice ao way.length c) way.length (nI way)) /\ Hid (FR wr fb gd gu gb n door f) /\ Hid (0 <= gn f.up y) /\ Hid (way ++ wayUp f.up q y = wayUp f.up (x + 1) x) /\ Hid (Only (fun k => k = gu \/ k = gb) w wr))
 case atStart => exact ⟨x, [], none, 0, hx, by omega, rfl, rfl, OwnI.nil _ _, HH.out, h0, by show _ = _; simp, Only.refl _ _⟩
 case round =>
  obtain ⟨y, way, ao, c, hy, hyq, rfl, rfl, HO, HR, HP, HW, HB⟩ := hrel
  have hfy := HF.out.ur y hy
  obtain ⟨a, ha⟩ : ∃ a : Nat, gn f.up y = (a : Int) := ⟨(gn f.up y).toNat, by have := HP.out; omega⟩
  have han : a < n := by omega
  have hay : a < y := by omega
  obtain ⟨c0, c1, c2⟩ := HR.out.boxes
  have k1 := HR.out.ku HF.out hy
  rw [ha] at k1
  have k2 := HR.out.ku HF.out han
  obtain ⟨z, hz⟩ : ∃ z, z = gn f.up a := ⟨_, rfl⟩
  rw [<- hz] at k2
  obtain ⟨q, rfl⟩ : ∃ q, gk = q + 1 := ⟨gk - 1, by omega⟩
  have HZ : Hid (z = gn f.up a) := hz
  have HA : Hid (gn f.up y = (a : Int)) := ha
  clear hfy ha hz
  have hwl : way.length <= n := by
   have h1 := way_le HF.out (x + 1) x hx h0
   rw [<- HW.out] at h1
   have h3 := nodup_le n (nI way) (by
    have := (List.nodup_append.1 h1.2).1
    exact List.Pairwise.map _ (fun a b hab => by intro e; exact hab (by exact_mod_cast e)) this) (fun z hz => by
    simp [nI] at hz
    obtain ⟨z', hz', rfl⟩ := hz
    have := h1.1 z' (by simp [hz'])
    omega)
   simpa [nI] using h3
  by_cases hz0 : 0 <= z
  ·have F6 : Hid (∀ (k : Nat) (w6 : World) (v6 : Value), OwnI w6 w.heap.size v6 (way.length + 1) (nI way ++ [(y : Int)]) -> GI w.heap.size (wr.drewN k) w6 (.slice ao way.length c) v6 -> FR w6 fb gd gu gb n door f /\ Only (fun k => k = gu \/ k = gb) w w6) := by
    intro k w6 v6 h6 g6
    have o1 := HO.out.keep (below_drewN (Below.refl wr.heap.size wr) k)
    refine ⟨(HR.out.drewN k).move fun g hg => g6.blk g ((HR.out.drewN k).lt g hg) (fun e => ?_), only_gi (only_drewN HB.out k) o1 g6⟩
    have := (own_block o1.out e).1
    have := HH.out.lt g hg
    omega
   have hl9 : way.length + 1 <= 17592186044416 := by omega
   go_wp2_with fail
   go_quiet (fail)
   have O1 := HO.out.keep (below_drewN (Below.refl wr.heap.size wr) nq)
   have HO1 : Hid _ := O1
   have hs2 : w.heap.size <= (wr.drewN nq).heap.size := by have := HB.out.size; have := (below_drewN (Below.refl wr.heap.size wr) nq).size; omega
   clear k1 k2 c0 c1 c2 O1
   obtain ⟨w2, hw2⟩ : ∃ w2, w2 = wr.drewN nq := ⟨_, rfl⟩
   have F6' := F6.out nq
   rw [<- hw2] at HO1 hs2 F6' ⊢
   have HF6 : Hid _ := F6'
   clear F6 F6' hw2
   go_wp2_with (first
    | (at_builtin; refine wpList_append_intG (w0 := w2) rfl _ _ rfl w.heap.size (.slice ao way.length c) way.length (nI way) (y : Int) rfl HO1.out rfl hl9 hs2 ?_; intro v6 w6 h6 g6
       obtain ⟨R6, B6⟩ := HF6.out w6 v6 h6 g6
       obtain ⟨c0, c1, c2⟩ := R6.boxes
       have k1 := R6.ku HF.out hy
       rw [HA.out] at k1
       obtain ⟨a6, d6, e6, _, _⟩ := own_slice h6.out
       subst e6
       have HR6 : Hid _ := R6
       have HB6 : Hid _ := B6
       have HO6 : Hid _ := h6
       clear R6 B6 h6 g6)
    | go_in)
   go_roundg q
   case rel =>
    refine ⟨a, way ++ [y], a6, d6, han, by omega, rfl, by simp, ?_, HR6.out, ?_, ?_, HB6.out⟩
    ·have := HO6.out
     rw [show way.length + 1 = (way ++ [y]).length by simp, show nI way ++ [(y : Int)] = nI (way ++ [y]) by simp [nI]] at this
     exact this
    ·show 0 <= gn f.up a; rw [<- HZ.out]; exact hz0
    ·show _ = _
     have h1 := HW.out
     rw [wayUp, HA.out, Int.toNat_natCast, <- HZ.out, if_pos hz0] at h1
     rw [<- h1]; simp
   case measure => omega
  ·have HE : way = wayUp f.up (x + 1) x := by
    have h1 := HW.out
    rw [wayUp, HA.out, Int.toNat_natCast, <- HZ.out, if_neg hz0, List.append_nil] at h1
    exact h1
   obtain ⟨m, hm⟩ : ∃ m, m = way.length := ⟨_, rfl⟩
   rw [<- hm] at hwl ⊢
   have HO2 : Hid (OwnI wr w.heap.size (.slice ao m c) m (nI way)) := by have := HO.out; rw [<- hm] at this; exact this
   have HM : Hid (m = way.length) := hm
   have hm9 : m <= 100000000 := by omega
   have WN : Hid (way.Nodup /\ ∀ z ∈ way, z < n /\ 0 <= gn f.up z /\ 0 <= gn f.up (gn f.up z).toNat) := by
    rw [HE]
    exact ⟨(way_le HF.out (x + 1) x hx h0).2, way_ok HF.out (x + 1) x hx h0⟩
   have HEE : Hid _ := HE
   clear hm HE HO
   go_wp2_with fail
   go_quiet (fail)
   have O3 := HO2.out.keep (below_drewN (Below.refl wr.heap.size wr) nq)
   have R3 := HR.out.drewN nq
   have B3 := only_drewN HB.out nq
   clear k1 k2 c0 c1 c2
   obtain ⟨w3, hw3⟩ : ∃ w3, w3 = wr.drewN nq := ⟨_, rfl⟩
   rw [<- hw3] at O3 R3 B3 ⊢
   have HO3 : Hid _ := O3
   have HR3 : Hid _ := R3
   have HB3 : Hid _ := B3
   clear O3 R3 B3 hw3 HO2 HR HB
   go_wp2_with fail
   go_loopg [5] m (fun q iv wr => ∃ k : Nat, k <= m /\ q = k /\ iv = .int .i64 ((k : Int) - 1) /\ Hid (FR wr fb gd gu gb n door ((way.drop k).foldr (stp door) f)) /\ Hid (OwnI wr w.heap.size (.slice ao m c) m (nI way)) /\ Hid (Only (fun k => k = gu \/ k = gb) w wr))
   case atStart => exact ⟨m, Nat.le_refl _, rfl, by first | rfl | go_num, by rw [HM.out, List.drop_length]; exact HR3.out, HO3.out, HB3.out⟩
   case round =>
    clear HO3 HR3 HB3
    obtain ⟨k, hk, rfl, rfl, HR, HO, HB⟩ := hrel
    cases gk with
    | zero =>
      go_wp2_with fail
      refine bodyPost_end (v := .tuple #[]) (by simp [results, Tryz.results180, go_sem]) rfl ⟨rfl, ?_, HB.out⟩
      have := HR.out
      rw [List.drop_zero, HEE.out] at this
      exact this
    | succ j =>
      have hjm : j < way.length := by have := HM.out; omega
      obtain ⟨low, hlow⟩ : ∃ low, low = way[j] := ⟨_, rfl⟩
      obtain ⟨F, hF⟩ : ∃ F, F = (way.drop (j + 1)).foldr (stp door) f := ⟨_, rfl⟩
      have hlm : low ∈ way := by rw [hlow]; exact List.getElem_mem _
      obtain ⟨l1, l2, l3⟩ := WN.out.2 low hlm
      have hnd : low ∉ way.drop (j + 1) /\ (way.drop (j + 1)).Nodup := by
       have h1 : (way.drop j).Nodup := List.Nodup.sublist (List.drop_sublist _ _) WN.out.1
       rw [List.drop_eq_getElem_cons hjm, <- hlow] at h1
       exact List.nodup_cons.1 h1
      obtain ⟨p1, p2⟩ := fold_ok HF.out _ hnd.2 (fun z hz => WN.out.2 z (List.mem_of_mem_drop hz))
      have p3 := fold_other door f low _ hnd.1
      rw [<- hF] at p1 p2 p3
      have hstep : (way.drop j).foldr (stp door) f = stp door low F := by rw [List.drop_eq_getElem_cons hjm, <- hlow, List.foldr_cons, hF]
      obtain ⟨a2, ha2⟩ : ∃ a2 : Nat, gn F.up low = (a2 : Int) := ⟨(gn F.up low).toNat, by rw [p3]; omega⟩
      have ha2n : a2 < n := by have := (p1.ur low l1).2; omega
      obtain ⟨ba, hba⟩ : ∃ ba : Nat, gn F.best a2 = (ba : Int) := ⟨(gn F.best a2).toNat, by have := (p1.br a2 ha2n).1; omega⟩
      have hban : ba < n := by have := (p1.br a2 ha2n).2; omega
      obtain ⟨bw, hbw⟩ : ∃ bw : Nat, gn F.best low = (bw : Int) := ⟨(gn F.best low).toNat, by have := (p1.br low l1).1; omega⟩
      have hbwn : bw < n := by have := (p1.br low l1).2; omega
      obtain ⟨da, hda⟩ : ∃ da, gn door ba = da := ⟨_, rfl⟩
      obtain ⟨dw, hdw⟩ : ∃ dw, gn door bw = dw := ⟨_, rfl⟩
      obtain ⟨ua, hua⟩ : ∃ ua, gn F.up a2 = ua := ⟨_, rfl⟩
      have hst : stp door low F = ⟨F.up.set low ua, if da < dw then F.best.set low (ba : Int) else F.best⟩ := by
       unfold stp
       rw [ha2, Int.toNat_natCast, hua, hba, hbw, Int.toNat_natCast, Int.toNat_natCast, hda, hdw]
      obtain ⟨gw, cw, e5, _, _, hgw, hgl⟩ := own_some HO.out.out (by omega)
      cases e5
      have kw : wr.cell? ⟨gw, j, none⟩ = some (.int .i64 (low : Int)) := by
       rw [own_cell HO.out.out j (by omega)]
       simp [ivs, nI, hjm, hlow]
      have HR' := HR.out
      rw [<- hF] at HR'
      obtain ⟨c0, c1, c2⟩ := HR'.boxes
      have k1 := HR'.ku p1 l1
      rw [ha2] at k1
      have k2 := HR'.kb p1 ha2n
      rw [hba] at k2
      have k3 := HR'.kb p1 l1
      rw [hbw] at k3
      have k4 := HR'.kd p1 hban
      rw [hda] at k4
      have k5 := HR'.kd p1 hbwn
      rw [hdw] at k5
      have k6 := HR'.ku p1 ha2n
      rw [hua] at k6
      have HRF : Hid _ := HR'
      have HP1 : Hid _ := p1
      have HST : Hid ((way.drop j).foldr (stp door) f = ⟨F.up.set low ua, if da < dw then F.best.set low (ba : Int) else F.best⟩) := by show _ = _; rw [hstep, hst]
      clear hlow hF hlm l2 l3 hnd p1 p2 p3 hstep ha2 hba hbw hda hdw hua hst HR'
      -- the last store, and the round's end
      have FIN : Hid (∀ (w5 : World) (bs : List Int), bs = (if da < dw then F.best.set low (ba : Int) else F.best) -> FR w5 fb gd gu gb n door ⟨F.up, bs⟩ -> Only (fun k => k = gu \/ k = gb) w w5 -> OwnI w5 w.heap.size (.slice (some ⟨gw, 0, none⟩) m c) m (nI way) -> FR (w5.setCell ⟨gu, low, none⟩ (.int .i64 ua)).drew fb gd gu gb n door ((way.drop j).foldr (stp door) f) /\ OwnI (w5.setCell ⟨gu, low, none⟩ (.int .i64 ua)).drew w.heap.size (.slice (some ⟨gw, 0, none⟩) m c) m (nI way) /\ Only (fun k => k = gu \/ k = gb) w (w5.setCell ⟨gu, low, none⟩ (.int .i64 ua)).drew) := by
       intro w5 bs e1 r5 b5 o5
       rw [HST.out, <- e1]
       have hgu := HH.out.lt gu (.inr (.inr (.inl rfl)))
       exact ⟨(r5.setU low ua).drew, ⟨o5.len, own_move o5.out fun g hg => heap_set_other (by have := (own_block o5.out hg).1; omega)⟩, only_drewN (only_set b5 gu low _ (.inl rfl)) 1⟩
      have FRZ : Hid (∀ (w5 : World) (bs : List Int), FR w5 fb gd gu gb n door ⟨F.up, bs⟩ -> w5.cell? ⟨gu, a2, none⟩ = some (.int .i64 ua) /\ w5.cell? ⟨gu, low, none⟩ = some (.int .i64 (a2 : Int)) /\ w5.frozen? ⟨gu, low, none⟩ = false) := by
       intro w5 bs r5
       have e1 : gn F.up a2 = ua := by have h1 := HRF.out.ku HP1.out ha2n; rw [k6] at h1; cases h1; rfl
       have e2 : gn F.up low = (a2 : Int) := by have h1 := HRF.out.ku HP1.out l1; rw [k1] at h1; simp only [Option.some.injEq, Value.int.injEq, true_and] at h1; exact h1.symm
       refine ⟨?_, ?_, fz_of r5.u⟩
       ·rw [<- e1]; exact cell_arr r5.u (ivs_at (by rw [HP1.out.lu]; exact ha2n))
       ·rw [<- e2]; exact cell_arr r5.u (ivs_at (by rw [HP1.out.lu]; exact l1))
      by_cases hdd : da < dw
      ·go_wp2_with fail
       go_quiet (fail)
       go_wp2_with fail
       have R4 := HRF.out.drewN nq
       have B4 := only_drewN HB.out nq
       have O4 := HO.out.keep (below_drewN (Below.refl wr.heap.size wr) nq)
       have q2 : (wr.drewN nq).cell? ⟨gb, a2, none⟩ = some (.int .i64 (ba : Int)) := by rw [World.cell?_of_block (w := wr) (drewN_at wr nq gb (HRF.out.lt gb (.inr (.inr (.inr rfl)))))]; exact k2
       have q3 : (wr.drewN nq).cell? ⟨gb, low, none⟩ = some (.int .i64 (bw : Int)) := by rw [World.cell?_of_block (w := wr) (drewN_at wr nq gb (HRF.out.lt gb (.inr (.inr (.inr rfl)))))]; exact k3
       obtain ⟨w4, hw4⟩ : ∃ w4, w4 = wr.drewN nq := ⟨_, rfl⟩
       rw [<- hw4] at R4 B4 O4 q2 q3 ⊢
       clear hw4 c0 c1 c2 k1 k2 k3 k4 k5 k6 kw
       obtain ⟨c0, c1, c2⟩ := R4.boxes
       have z4 : w4.frozen? ⟨gb, low, none⟩ = false := fz_of R4.b
       have R5 : FR (w4.setCell ⟨gb, low, none⟩ (.int .i64 (ba : Int))).drew fb gd gu gb n door ⟨F.up, F.best.set low (ba : Int)⟩ := (R4.setB low (ba : Int)).drew
       have B5 : Only (fun k => k = gu \/ k = gb) w (w4.setCell ⟨gb, low, none⟩ (.int .i64 (ba : Int))).drew := only_drewN (only_set B4 gb low (.int .i64 (ba : Int)) (.inr rfl)) 1
       have O5 : OwnI (w4.setCell ⟨gb, low, none⟩ (.int .i64 (ba : Int))).drew w.heap.size (.slice (some ⟨gw, 0, none⟩) m c) m (nI way) := by
        have hgb := HH.out.lt gb (.inr (.inr (.inr rfl)))
        exact ⟨O4.len, own_move O4.out fun g hg => heap_set_other (by have := (own_block O4.out hg).1; omega)⟩
       have HR5 : Hid _ := R5
       have HB5 : Hid _ := B5
       have HO5 : Hid _ := O5
       clear R5 B5 O5 R4 B4 O4
       go_region
       obtain ⟨w5, hw5⟩ : ∃ w5, w5 = (w4.setCell ⟨gb, low, none⟩ (.int .i64 (ba : Int))).drew := ⟨_, rfl⟩
       rw [<- hw5] at HR5 HB5 HO5 ⊢
       clear hw5 c0 c1 c2 q2 q3 z4
       obtain ⟨c0, c1, c2⟩ := HR5.out.boxes
       obtain ⟨q6, q7, z5⟩ := FRZ.out w5 _ HR5.out
       go_wp2_with fail
       go_region
       go_wp2_with fail
       obtain ⟨e1, e2, e3⟩ := FIN.out w5 _ (if_pos hdd).symm HR5.out HB5.out HO5.out
       go_roundg j
       case rel => exact ⟨j, by omega, rfl, by go_num, e1, e2, e3⟩
       case measure => omega
      ·go_wp2_with fail
       go_quiet (fail)
       go_wp2_with fail
       have R5 := HRF.out.drewN nq
       have B5 := only_drewN HB.out nq
       have O5 := HO.out.keep (below_drewN (Below.refl wr.heap.size wr) nq)
       obtain ⟨w5, hw5⟩ : ∃ w5, w5 = wr.drewN nq := ⟨_, rfl⟩
       rw [<- hw5] at R5 B5 O5 ⊢
       have HR5 : Hid (FR w5 fb gd gu gb n door ⟨F.up, F.best⟩) := R5
       have HB5 : Hid _ := B5
       have HO5 : Hid _ := O5
       clear hw5 c0 c1 c2 k1 k2 k3 k4 k5 k6 kw R5 B5 O5
       obtain ⟨c0, c1, c2⟩ := HR5.out.boxes
       obtain ⟨q6, q7, z5⟩ := FRZ.out w5 _ HR5.out
       go_region
       go_wp2_with fail
       obtain ⟨e1, e2, e3⟩ := FIN.out w5 _ (if_neg (by omega)).symm HR5.out HB5.out HO5.out
       go_roundg j
       case rel => exact ⟨j, by omega, rfl, by go_num, e1, e2, e3⟩
       case measure => omega
end Go.Proofs.YtfbkopjncmkbiabGreatDoor
