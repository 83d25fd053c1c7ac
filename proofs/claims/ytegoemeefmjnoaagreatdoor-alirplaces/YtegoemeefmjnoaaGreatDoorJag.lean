import Derived.Test.YtegoemeefmjnoaaGreatDoorJad
import Derived.Test.YtegoemeefmjnoaaGreatDoorJae
import Derived.Test.YtegoemeefmjnoaaGreatDoorJaf
set_option linter.unusedVariables false
set_option linter.unusedSimpArgs false
namespace Go.Proofs.YtegoemeefmjnoaaGreatDoor
open Go.ChangeShapes Go.WideShapes Go.ChangeAt Go.RowKit Go.Maps
theorem below_newA (w : World) (X : Obj) : Below w.heap.size w (w.alloc X) := (Below.refl _ _).alloc (Nat.le_refl _) _
theorem below_drawnA {B : Nat} {a w : World} (h : Below B a w) (q : Nat) : Below B a (w.drewN q) := ⟨h.os, h.tape, h.output, h.size, h.block⟩
structure Ai where
 op : Int
 imm : Int
 dst : Int × Int
 args : List (Int × Int)
 saves : List Int
structure Ab where
 body : List Ai
 kind : Int
 val : Int × Int
 ways : List Int
structure Af where
 name : ByteArray
 params : List (Int × Int)
 result : Int
 slots : Int
 blks : List Ab
def lov (l : Int × Int) : List Value := [.int .i64 l.1, .int .i64 l.2]
def Locs (w : World) (ao : Option Addr) (c : Nat) (L : List (Int × Int)) : Prop := StsG w ao c 2 (L.map lov)
def aiv (x : Ai) (a1 : Option Addr) (c1 : Nat) (a2 : Option Addr) (c2 : Nat) : List Value := [.int .i64 x.op, .int .i64 x.imm, .int .i64 x.dst.1, .int .i64 x.dst.2, .slice a1 x.args.length c1, .slice a2 x.saves.length c2]
def EnI (w : World) (cs : List Value) (x : Ai) : Prop := ∃ a1 c1 a2 c2, cs = aiv x a1 c1 a2 c2 /\ Locs w a1 c1 x.args /\ Ints w a2 c2 x.saves
def abv (b : Ab) (a1 : Option Addr) (c1 : Nat) (a2 : Option Addr) (c2 : Nat) : List Value := [.slice a1 b.body.length c1, .int .i64 b.kind, .int .i64 b.val.1, .int .i64 b.val.2, .slice a2 b.ways.length c2]
def EnB (w : World) (cs : List Value) (b : Ab) : Prop := ∃ a1 c1 a2 c2, cs = abv b a1 c1 a2 c2 /\ Lst EnI 6 w a1 c1 b.body /\ Ints w a2 c2 b.ways
def afv (f : Af) (a1 : Option Addr) (c1 : Nat) (a2 : Option Addr) (c2 : Nat) : List Value := [.string f.name, .slice a1 f.params.length c1, .int .i64 f.result, .int .i64 f.slots, .slice a2 f.blks.length c2]
def EnF (w : World) (cs : List Value) (f : Af) : Prop := ∃ a1 c1 a2 c2, cs = afv f a1 c1 a2 c2 /\ Locs w a1 c1 f.params /\ Lst EnB 5 w a2 c2 f.blks
theorem Locs.below {w w' ao c L K} (h : Locs w ao c L) (hb : Below K w w') (hK : w.heap.size <= K) : Locs w' ao c L := StsG.below h hb hK
theorem enI_below {w w' K} (hb : Below K w w') (hK : w.heap.size <= K) (cs : List Value) (x : Ai) (h : EnI w cs x) : EnI w' cs x := by
 obtain ⟨a1, c1, a2, c2, e, h1, h2⟩ := h
 exact ⟨a1, c1, a2, c2, e, h1.below hb hK, h2.below hb hK⟩
theorem enB_below {w w' K} (hb : Below K w w') (hK : w.heap.size <= K) (cs : List Value) (x : Ab) (h : EnB w cs x) : EnB w' cs x := by
 obtain ⟨a1, c1, a2, c2, e, h1, h2⟩ := h
 exact ⟨a1, c1, a2, c2, e, h1.below hb hK (enI_below hb hK), h2.below hb hK⟩
theorem enF_below {w w' K} (hb : Below K w w') (hK : w.heap.size <= K) (cs : List Value) (x : Af) (h : EnF w cs x) : EnF w' cs x := by
 obtain ⟨a1, c1, a2, c2, e, h1, h2⟩ := h
 exact ⟨a1, c1, a2, c2, e, h1.below hb hK, h2.below hb hK (enB_below hb hK)⟩
def Afs (w : World) (ao : Option Addr) (c : Nat) (N : List Af) : Prop := Lst EnF 5 w ao c N
theorem Afs.below {w w' ao c N K} (h : Afs w ao c N) (hb : Below K w w') (hK : w.heap.size <= K) : Afs w' ao c N := Lst.below h hb hK (enF_below hb hK)
theorem Locs.at {w ao c L} (h : Locs w ao c L) {j : Nat} (hj : j < L.length) : ∃ b o, ao = some ⟨b, o, none⟩ /\ b < w.heap.size /\ w.cell? ⟨b, o + j * 2, none⟩ = some (.int .i64 L[j].1) /\ w.cell? ⟨b, o + j * 2 + 1, none⟩ = some (.int .i64 L[j].2) := by
 obtain ⟨b, o, e, hl, hc⟩ := StsG.at h (j := j) (by simpa using hj)
 have hg : (L.map lov).getD j [] = lov L[j] := by simp [List.getD, hj]
 rw [hg] at hc
 exact ⟨b, o, e, hl, hc 0 _ rfl, hc 1 _ rfl⟩
structure Fa where
 fi : Nat
 bk : Nat
 bh : Nat
 rg : List Int
 sl : Int -> Option Int
 c : Nat
def Fa.get (F : Fa) (l : Int × Int) : Option Int :=
 if l.1 = 1 then (if 0 <= l.2 then F.rg[l.2.toNat]? else none)
 else if l.1 = 2 then (if fitsB l.2 then some ((F.sl l.2).getD (-1)) else none)
 else some (-1)
def Fa.set (F : Fa) (l : Int × Int) (x : Int) : Option Fa :=
 if l.1 = 1 then (if 0 <= l.2 /\ l.2.toNat < F.rg.length then some { F with rg := F.rg.set l.2.toNat x } else none)
 else if l.1 = 2 then (if (fitsB l.2 && (fitsB x && decide (F.c < 1000000000))) = true then some { F with sl := upd F.sl l.2 (some x), c := F.c + 1 } else none)
 else some F
def keeps (R : List Int) (S : List Int) : List Int := S.foldl (fun A k => A.set k.toNat (R.getD k.toNat 0)) (List.replicate 8 (-1))
def Fa.keep (F : Fa) (S : List Int) : Option Fa := if S.all (fun k => decide (0 <= k) && decide (k < 8)) then some { F with rg := keeps F.rg S } else none
def Fa.new (n : Nat) : Fa := ⟨n, 0, 0, List.replicate 8 (-1), fun _ => none, 0⟩
structure Ma where
 here : Fa
 wait : List Fa
 wv : Wv
def Ma.over (M : Ma) : Bool := M.wv.over
def Ma.get (M : Ma) (l : Int × Int) : Option Int := M.here.get l
def Ma.set (M : Ma) (l : Int × Int) (x : Int) : Option Ma := (M.here.set l x).map fun F => { M with here := F }
def allA : List (Option Int) -> Option (List Int)
 | [] => some []
 | none :: _ => none
 | some x :: L => (allA L).map (x :: ·)
def Ma.gets (M : Ma) (L : List (Int × Int)) : Option (List Int) := allA (L.map M.get)
def Fa.puts : Fa -> List (Int × Int) -> List Int -> Option Fa
 | F, [], _ => some F
 | F, p :: P, X => match X with
   | [] => none
   | x :: X' => match F.set p x with
     | none => none
     | some F' => F'.puts P X'
def Ma.begin (M : Ma) (F : Fa) : Ma := { M with here := F, wv := { M.wv with deep := max M.wv.deep ((M.wait.length : Int) + 1) } }
def Ma.call (FS : List Af) (M : Ma) (x : Ai) : Option Ma :=
 if x.imm < 0 then none else
 match FS[x.imm.toNat]? with
 | none => none
 | some f =>
   if f.blks.isEmpty \/ f.params.length > x.args.length then none else
   match M.gets (x.args.take f.params.length) with
   | none => none
   | some A => match (Fa.new x.imm.toNat).puts f.params A with
     | none => none
     | some F => some (({ M with wait := M.wait ++ [M.here] } : Ma).begin F)
def Ma.enter (FS : List Af) (M : Ma) (t : Int) : Option Ma :=
 if t < 0 then none else
 match FS[M.here.fi]? with
 | none => none
 | some f => if t.toNat < f.blks.length then some { M with here := { M.here with bk := t.toNat, bh := 0 } } else none
def insOf (FS : List Af) (F : Fa) : Option Ai :=
 match FS[F.fi]? with
 | none => none
 | some f => match f.blks[F.bk]? with
   | none => none
   | some b => if F.bh < 1 then none else b.body[F.bh - 1]?
def Ma.back (FS : List Af) (M : Ma) (v : Int) : Option Ma :=
 match M.wait.getLast? with
 | none => some { M with wv := { M.wv with fin := 1 } }
 | some F => match insOf FS F with
   | none => none
   | some x => match F.keep x.saves with
     | none => none
     | some F' => match F'.set x.dst v with
       | none => none
       | some F2 => some { M with here := F2, wait := M.wait.dropLast }
def Ma.leave (FS : List Af) (M : Ma) (b : Ab) : Option Ma :=
 if b.kind = 1 then (if b.ways.length < 1 then none else M.enter FS (b.ways.getD 0 0))
 else if b.kind = 2 then (if b.ways.length < 2 then none else match M.get b.val with | none => none | some x => if x ≠ 0 then M.enter FS (b.ways.getD 0 0) else M.enter FS (b.ways.getD 1 0))
 else if b.kind = 3 then (match M.get b.val with | none => none | some x => M.back FS x)
 else if b.kind = 4 then (match M.get b.val with | none => none | some x => some { M with wv := M.wv.panic 6 x })
 else none
def Ma.doI (FS : List Af) (M : Ma) (x : Ai) : Option Ma :=
 if x.op = 25 then M.call FS x else
 if 3 < x.args.length then none else
 match M.gets x.args with
 | none => none
 | some A => match M.wv.opr x.op x.imm (A.getD 0 0) (A.getD 1 0) (A.getD 2 0) with
   | none => none
   | some (V, n) => if V.over then some { M with wv := V } else ({ M with wv := V } : Ma).set x.dst n
def Ma.on (M : Ma) : Ma := { M with here := { M.here with bh := M.here.bh + 1 } }
def Ma.adv (FS : List Af) (M : Ma) : Option Ma :=
 match FS[M.here.fi]? with
 | none => none
 | some f => match f.blks[M.here.bk]? with
   | none => none
   | some b =>
     if M.here.bh = b.body.length then M.leave FS b else
     match b.body[M.here.bh]? with
     | none => none
     | some x => M.on.doI FS x
theorem row_lower {w : World} {B B' e z : Nat} {v : Value} {xs : List (List Value)} (h : Row w B' e z v xs) (hB : B <= B') : Row w B e z v xs := by
 refine ⟨⟨h.out.1, ?_⟩, h.len⟩
 rcases h.out.2 with q | ⟨g, cap, cur, q1, q2, q3⟩
 ·exact .inl q
 ·exact .inr ⟨g, cap, cur, q1, by omega, q3⟩
def StB (w : World) (B F : Nat) (X : Nat -> Prop) (P : World -> Prop) : Prop := ∀ W, (∀ b, B <= b -> b < F -> ¬ X b -> W.heap[b]? = w.heap[b]?) -> P W
theorem StB.move {w w' : World} {B F X P} (h : StB w B F X P) (hk : ∀ b, B <= b -> b < F -> ¬ X b -> w'.heap[b]? = w.heap[b]?) : StB w' B F X P := fun W hW => h W fun b h1 h2 h3 => (hW b h1 h2 h3).trans (hk b h1 h2 h3)
theorem StB.widen {w : World} {B F F' X P} (h : StB w B F X P) (hF : F <= F') : StB w B F' X P := fun W hW => h W fun b h1 h2 h3 => hW b h1 (by omega) h3
theorem StB.sub {w : World} {B F : Nat} {X Y : Nat -> Prop} {P} (h : StB w B F X P) (hs : ∀ b, Y b -> X b) : StB w B F Y P := fun W hW => h W fun b h1 h2 h3 => hW b h1 h2 (fun q => h3 (hs b q))
structure Opn {α : Type} (En : World -> List Value -> α -> Prop) (e : TypeId) (z : Nat) (w0 w : World) (B F : Nat) (X : Nat -> Prop) (v : Value) (j q : Nat) (N : List α) (xs : List (List Value)) : Prop where
 low : Below B w0 w
 row : Row w B e z v xs
 one : ∀ u ∈ xs.flatten, u.oneCell' = true
 len : xs.length = N.length
 own : ∀ g, v.ownBlock = some g -> X g /\ g < F
 dn : ∀ i (h : i < N.length), i < j -> StB w B F X (fun W => En W (xs.getD i []) N[i])
 un : ∀ i (h : i < N.length), q <= i -> En w0 (xs.getD i []) N[i]
 sz : B <= F /\ F <= w.heap.size
theorem Opn.move {α : Type} {En : World -> List Value -> α -> Prop} {e z w0 w w' B F X v j q} {N : List α} {xs} (h : Opn En e z w0 w B F X v j q N xs) (hb : Below F w w') : Opn En e z w0 w' B F X v j q N xs :=
 ⟨h.low.trans (hb.mono h.sz.1), h.row.move fun g hg => hb.block g (h.own g hg).2, h.one, h.len, h.own, fun i hi hij => (h.dn i hi hij).move fun b _ h2 _ => hb.block b h2, h.un, h.sz.1, Nat.le_trans h.sz.2 hb.size⟩
theorem Opn.up {α : Type} {En : World -> List Value -> α -> Prop} {e z w0 w B F F' X v j q} {N : List α} {xs} (h : Opn En e z w0 w B F X v j q N xs) (hF : F <= F') (hs : F' <= w.heap.size) : Opn En e z w0 w B F' X v j q N xs :=
 ⟨h.low, h.row, h.one, h.len, fun g hg => ⟨(h.own g hg).1, Nat.lt_of_lt_of_le (h.own g hg).2 hF⟩, fun i hi hij => (h.dn i hi hij).widen hF, h.un, Nat.le_trans h.sz.1 hF, hs⟩
theorem Opn.at {α : Type} {En : World -> List Value -> α -> Prop} {e z w0 w B F X v j q} {N : List α} {xs} (h : Opn En e z w0 w B F X v j q N xs) {i : Nat} (hi : i < N.length) : ∃ g c, v = .slice (some ⟨g, 0, none⟩) N.length c /\ N.length <= c /\ c <= 9223372036854775807 /\ B <= g /\ g < F /\ g < w.heap.size /\ X g /\ (∀ o, w.frozen? ⟨g, o, none⟩ = false) /\ ∀ r u, (xs.getD i [])[r]? = some u -> w.cell? ⟨g, i * z + r, none⟩ = some u := by
 have hx : i < xs.length := by rw [h.len]; exact hi
 obtain ⟨g, c, A, ev, q1, q2, q3, q4⟩ := h.row.some (by omega)
 have hR := h.row
 have hO := h.own
 subst ev
 rw [h.len] at q1
 refine ⟨g, c, by rw [h.len], q1, q2, q3, (hO g rfl).2, (gl q4), (hO g rfl).1, fun o => fz_of q4, fun r u hu => ?_⟩
 have hg : xs.getD i [] = xs[i] := by simp [List.getD, hx]
 rw [hg] at hu
 exact hR.cell rfl hx (by rw [<- hR.len _ (List.getElem_mem hx)]; exact (List.getElem?_eq_some_iff.1 hu).1) hu
theorem Opn.put {α : Type} {En : World -> List Value -> α -> Prop} {e z w0 w B F X v j q} {N : List α} {xs} (h : Opn En e z w0 w B F X v j q N xs) (hj : j < N.length) {g n c : Nat} (ev : v = .slice (some ⟨g, 0, none⟩) n c) {r : Nat} (hr : r < z) (u : Value) (hu : u.oneCell' = true) : Opn En e z w0 (w.setCell ⟨g, j * z + r, none⟩ u) B F X v j (max q (j + 1)) N (xs.set j ((xs.getD j []).set r u)) := by
 have hx : j < xs.length := by rw [h.len]; exact hj
 have hg : xs.getD j [] = xs[j] := by simp [List.getD, hx]
 have hX : X g := (h.own g (by rw [ev]; rfl)).1
 have hn : n = xs.length := by
  obtain ⟨g', c', A, ev', _⟩ := h.row.some (by omega)
  rw [ev] at ev'
  cases ev'
  rfl
 have hBg : B <= g := (own_block h.row.out (g := g) (by rw [ev]; rfl)).1
 have hR1 := h.row
 rw [hg]
 refine ⟨h.low.setCell hBg _, by rw [ev] at hR1 ⊢; exact rowSetG hR1 hn hx hr u, ?_, by rw [List.length_set]; exact h.len, h.own, fun i hi hij => ?_, fun i hi hij => ?_, h.sz.1, by simp [World.setCell]; exact h.sz.2⟩
 ·rw [flatSetG xs h.row.len j hx r hr u]
  intro y hy
  rcases List.mem_or_eq_of_mem_set hy with q | q
  ·exact h.one y q
  ·rw [q]; exact hu
 ·have hne : (xs.set j ((xs[j]).set r u)).getD i [] = xs.getD i [] := by
   simp only [List.getD]
   rw [List.getElem?_set_ne (by omega)]
  rw [hne]
  exact (h.dn i hi hij).move fun b _ _ h3 => heap_set_other (fun e => h3 (e ▸ hX))
 ·have hne : (xs.set j ((xs[j]).set r u)).getD i [] = xs.getD i [] := by
   simp only [List.getD]
   rw [List.getElem?_set_ne (by omega)]
  rw [hne]
  exact h.un i hi (by omega)
theorem Opn.close {α : Type} {En : World -> List Value -> α -> Prop} {e z w0 w B F X v j} {N : List α} {xs} (h : Opn En e z w0 w B F X v j (j + 1) N xs) (hj : j < N.length) {F' : Nat} (hF : F <= F') (hs : F' <= w.heap.size) (hd : StB w B F' X (fun W => En W (xs.getD j []) N[j])) : Opn En e z w0 w B F' X v (j + 1) (j + 1) N xs :=
 have k := h.up hF hs
 ⟨k.low, k.row, k.one, k.len, k.own, fun i hi hij => by
  by_cases q : i = j
  ·subst q; exact hd
  ·exact k.dn i hi (by omega), k.un, k.sz⟩
theorem Opn.start {α : Type} {En : World -> List Value -> α -> Prop} {e z : Nat} {w0 w2 w4 : World} {B B1 : Nat} {v : Value} {N : List α} {xs : List (List Value)} {X : Nat -> Prop} (hB : B <= B1) (hlow : Below B w0 w4) (hr : Row w2 B1 e z v xs) (hk : ∀ g, v.ownBlock = some g -> w4.heap[g]? = w2.heap[g]?) (h1 : ∀ u ∈ xs.flatten, u.oneCell' = true) (hl : xs.length = N.length) (hu : ∀ i (h : i < N.length), En w0 (xs.getD i []) N[i]) (hs : w2.heap.size <= w4.heap.size) (hs2 : B <= w2.heap.size) (hX : ∀ g, v.ownBlock = some g -> X g) : Opn En e z w0 w4 B w4.heap.size X v 0 0 N xs :=
 ⟨hlow, row_lower (hr.move hk) hB, h1, hl, fun g hg => ⟨hX g hg, Nat.lt_of_lt_of_le (own_block hr.out hg).2 hs⟩, fun i _ h => absurd h (by omega), fun i h _ => hu i h, by omega, Nat.le_refl _⟩
theorem Opn.fin {α : Type} {En : World -> List Value -> α -> Prop} {e z w0 w B F X v q} {N : List α} {xs} (h : Opn En e z w0 w B F X v N.length q N xs) {Y : Nat -> Prop} (hY : ∀ b, Y b -> X b) (hV : ∀ g, v.ownBlock = some g -> ¬ Y g) : ∃ ao c, v = .slice ao N.length c /\ StB w B F Y (fun W => Lst En z W ao c N) := by
 obtain ⟨ao, c, ev, hs⟩ := row_sts h.row h.one
 rw [h.len] at ev
 refine ⟨ao, c, ev, fun W hW => ⟨xs, h.len, hs.move fun b o eb hl => ?_, fun i hi => h.dn i hi hi W fun b h1 h2 h3 => hW b h1 h2 (fun y => h3 (hY b y))⟩⟩
 subst ev eb
 have hb := own_block h.row.out (g := b) rfl
 exact hW b hb.1 (h.own b rfl).2 (hV b rfl)
theorem row_stB {w1 : World} {B1 B e z v} {xs : List (List Value)} (h : Row w1 B1 e z v xs) (h1 : ∀ u ∈ xs.flatten, u.oneCell' = true) {X : Nat -> Prop} (hX : ∀ b, X b -> b < B1) (hB : B <= B1) : ∃ ao c, v = .slice ao xs.length c /\ StB w1 B w1.heap.size X (fun W => StsG W ao c z xs) := by
 obtain ⟨ao, c, ev, hs⟩ := row_sts h h1
 refine ⟨ao, c, ev, fun W hW => hs.move fun b o e hl => ?_⟩
 subst ev e
 have hb := own_block h.out (g := b) rfl
 exact hW b (by omega) hb.2 (fun q => by have := hX b q; omega)
theorem ints_stB {w1 : World} {B1 B : Nat} {v : Value} {n : Nat} {L : List Int} (h : OwnI w1 B1 v n L) {X : Nat -> Prop} (hX : ∀ b, X b -> b < B1) (hB : B <= B1) : ∃ ao c, v = .slice ao n c /\ StB w1 B w1.heap.size X (fun W => Ints W ao c L) := by
 have hl := h.len
 rcases Nat.eq_zero_or_pos n with h0 | h0
 ·obtain ⟨ao, c, ev, q1, q2⟩ := own_slice h.out
  have : L = [] := List.length_eq_zero_iff.1 (by omega)
  subst this
  exact ⟨ao, c, ev, fun W _ => ⟨by simp, q2, fun q => absurd rfl q⟩⟩
 ·obtain ⟨g, c, ev, q1, q2, q3, q4⟩ := own_some h.out h0
  subst ev
  refine ⟨_, c, rfl, fun W hW => ?_⟩
  have hb := hW g (by omega) q4 (fun q => by have := hX g q; omega)
  refine ⟨by omega, q2, fun _ => ⟨g, 0, rfl, ?_, fun i hi => ?_⟩⟩
  ·by_cases q : g < W.heap.size
   ·exact q
   ·rw [Array.getElem?_eq_none (by omega), Array.getElem?_eq_getElem q4] at hb
    cases hb
  ·rw [Nat.zero_add, World.cell?_of_block (w := w1) hb, own_cell h.out i (by omega)]
   simp [ivs, hi]
theorem lov_one (L : List (Int × Int)) : ∀ u ∈ (L.map lov).flatten, u.oneCell' = true := fun u hu => by
 obtain ⟨l, hl, hu⟩ := List.mem_flatten.1 hu
 obtain ⟨e, _, rfl⟩ := List.mem_map.1 hl
 simp [lov] at hu
 rcases hu with rfl | rfl <;> rfl
theorem copyI {w0 w w1 w2 : World} {e B F : Nat} {X : Nat -> Prop} {v : Value} {i : Nat} {N : List Ai} {xs : List (List Value)} (h : Opn EnI e 6 w0 w B F X v i i N xs) (hF : F = w.heap.size) (hX : ∀ b, X b -> b < w.heap.size) (hi : i < N.length) {t1 : TypeId} {v1 v2 : Value} {n2 : Nat} (b1 : Below w.heap.size w w1) (r1 : Row w1 w.heap.size t1 2 v1 (N[i].args.map lov)) (b2 : Below w1.heap.size w1 w2) (r2 : OwnI w2 w1.heap.size v2 n2 N[i].saves) {g n c : Nat} (ev : v = .slice (some ⟨g, 0, none⟩) n c) :
 ∃ xs', Opn EnI e 6 w0 ((w2.setCell ⟨g, i * 6 + 4, none⟩ v1).setCell ⟨g, i * 6 + 5, none⟩ v2) B ((w2.setCell ⟨g, i * 6 + 4, none⟩ v1).setCell ⟨g, i * 6 + 5, none⟩ v2).heap.size X v (i + 1) (i + 1) N xs' := by
 have hBF := h.sz.1
 obtain ⟨a1, c1, a2, c2, ex, h1, h2⟩ := h.un i hi (Nat.le_refl _)
 have hXg : X g := (h.own g (by rw [ev]; rfl)).1
 obtain ⟨a1', c1', e1, s1⟩ := row_stB (B := B) r1 (lov_one _) hX (by omega)
 obtain ⟨a2', c2', e2, s2⟩ := ints_stB (B := B) r2 (X := X) (fun b hb => by have := hX b hb; have := b1.size; omega) (by have := b1.size; omega)
 have hm := (h.move (w' := w2) (by rw [hF]; exact b1.trans (b2.mono b1.size)))
 have p1 := hm.put hi ev (r := 4) (by omega) v1 (by rw [e1]; rfl)
 have p2 := p1.put hi ev (r := 5) (by omega) v2 (by rw [e2]; rfl)
 have hx : i < xs.length := by rw [h.len]; exact hi
 have eq1 : (xs.set i ((xs.getD i []).set 4 v1)).getD i [] = (xs.getD i []).set 4 v1 := Part.entry hx _
 rw [eq1] at p2
 have hmx : max (max i (i + 1)) (i + 1) = i + 1 := by omega
 rw [hmx] at p2
 refine ⟨_, p2.close hi (by simp [World.setCell]; have := b1.size; have := b2.size; omega) (Nat.le_refl _) ?_⟩
 rw [Part.entry (by rw [List.length_set]; exact hx), ex]
 have sz : ((w2.setCell ⟨g, i * 6 + 4, none⟩ v1).setCell ⟨g, i * 6 + 5, none⟩ v2).heap.size = w2.heap.size := by simp [World.setCell]
 have kk : ∀ b, ¬ X b -> ((w2.setCell ⟨g, i * 6 + 4, none⟩ v1).setCell ⟨g, i * 6 + 5, none⟩ v2).heap[b]? = w2.heap[b]? := fun b hb => by
  have hne : b ≠ g := fun e => hb (e ▸ hXg)
  rw [heap_set_other hne, heap_set_other hne]
 have n2e : n2 = N[i].saves.length := r2.len
 intro W hW
 refine ⟨a1', c1', a2', c2', by rw [e1, e2, n2e]; simp [aiv], ?_, ?_⟩
 ·exact s1 W fun b q1 q2 q3 => (hW b q1 (by rw [sz]; have := b2.size; omega) q3).trans ((kk b q3).trans (b2.block b q2))
 ·exact s2 W fun b q1 q2 q3 => (hW b q1 (by rw [sz]; exact q2) q3).trans (kk b q3)
structure BOpen (eB eI : TypeId) (w0 w4 : World) (B F : Nat) (X : Nat -> Prop) (v : Value) (k : Nat) (N : List Ab) (hk : k < N.length) (v1 : Value) (wr : World) (i : Nat) : Prop where
 out : ∃ ys a1 c1 a2 c2 zs, Opn EnB eB 5 w0 w4 B F X v k (k + 1) N ys /\ ys.getD k [] = abv N[k] a1 c1 a2 c2 /\ v1 = .slice a1 N[k].body.length c1 /\ StB w4 B w4.heap.size (fun b => X b \/ v1.ownBlock = some b) (fun W => Ints W a2 c2 N[k].ways) /\ Opn EnI eI 6 w0 wr B wr.heap.size (fun b => X b \/ v1.ownBlock = some b) v1 i i N[k].body zs
 on : Only (fun b => v1.ownBlock = some b) w4 wr
 new : ∀ g, v1.ownBlock = some g -> F <= g
 fx : ∀ b, X b -> b < F
theorem BOpen.start {eB eI : TypeId} {w0 w w1 w2 : World} {B : Nat} {X : Nat -> Prop} {v : Value} {k : Nat} {N : List Ab} {ys : List (List Value)} (h : Opn EnB eB 5 w0 w B w.heap.size X v k k N ys) (hX : ∀ b, X b -> b < w.heap.size) (hk : k < N.length) {v1 v2 : Value} {n2 : Nat} {zs : List (List Value)} (b1 : Below w.heap.size w w1) (r1 : Row w1 w.heap.size eI 6 v1 zs) (hz1 : ∀ u ∈ zs.flatten, u.oneCell' = true) (hzl : zs.length = N[k].body.length) (hzu : ∀ i (h : i < N[k].body.length), EnI w0 (zs.getD i []) N[k].body[i]) (b2 : Below w1.heap.size w1 w2) (r2 : OwnI w2 w1.heap.size v2 n2 N[k].ways) {g n c : Nat} (ev : v = .slice (some ⟨g, 0, none⟩) n c) {w4 : World} (hw4 : w4 = (w2.setCell ⟨g, k * 5, none⟩ v1).setCell ⟨g, k * 5 + 4, none⟩ v2) :
 BOpen eB eI w0 w4 B w.heap.size X v k N hk v1 w4 0 := by
 have hBF := h.sz.1
 obtain ⟨a1, c1, a2, c2, ex, _, _⟩ := h.un k hk (Nat.le_refl _)
 have hXg : X g := (h.own g (by rw [ev]; rfl)).1
 obtain ⟨a1', c1', e1, q1⟩ := own_slice r1.out
 rw [hzl] at e1
 obtain ⟨a2', c2', e2, s2⟩ := ints_stB (B := B) r2 (X := fun b => X b \/ v1.ownBlock = some b) (fun b hb => hb.elim (fun q => by have := hX b q; have := b1.size; omega) (fun q => (own_block r1.out q).2)) (by have := b1.size; omega)
 have hm := (h.move (w' := w2) (b1.trans (b2.mono b1.size)))
 have p1 := hm.put hk ev (r := 0) (by omega) v1 (by rw [e1]; rfl)
 have p2 := p1.put hk ev (r := 4) (by omega) v2 (by rw [e2]; rfl)
 have hx : k < ys.length := by rw [h.len]; exact hk
 rw [Part.entry hx] at p2
 have hmx : max (max k (k + 1)) (k + 1) = k + 1 := by omega
 rw [hmx] at p2
 simp only [Nat.add_zero] at p2
 rw [<- hw4] at p2
 have sz : w4.heap.size = w2.heap.size := by rw [hw4]; simp [World.setCell]
 have kk : ∀ b, b ≠ g -> w4.heap[b]? = w2.heap[b]? := fun b hne => by rw [hw4, heap_set_other hne, heap_set_other hne]
 have n2e : n2 = N[k].ways.length := r2.len
 have hgl := hX g hXg
 refine ⟨⟨_, a1', c1', a2', c2', zs, p2, ?_, e1, ?_, ?_⟩, Only.refl _ _, fun g' hg' => (own_block r1.out hg').1, hX⟩
 ·rw [Part.entry (by rw [List.length_set]; exact hx), ex, e1, e2, n2e]
  simp [abv]
 ·rw [sz]
  exact s2.move fun b _ _ h3 => kk b (fun e => h3 (.inl (e ▸ hXg)))
 ·refine Opn.start (w2 := w1) (B1 := w.heap.size) hBF p2.low r1 (fun g' hg' => ?_) hz1 hzl hzu (by rw [sz]; exact b2.size) (by have := b1.size; omega) (fun g' hg' => .inr hg')
  have hb := own_block r1.out hg'
  exact (kk g' (by omega)).trans (b2.block g' hb.2)
theorem BOpen.close {eB eI w0 w4 B F X v k N hk v1 wr} (h : BOpen eB eI w0 w4 B F X v k N hk v1 wr N[k].body.length) : ∃ ys, Opn EnB eB 5 w0 wr B wr.heap.size X v (k + 1) (k + 1) N ys := by
 obtain ⟨ys, a1, c1, a2, c2, zs, p, ex, e1, sw, pi⟩ := h.out
 have hb : Below F w4 wr := h.on.below p.sz.2 (fun b hb => h.new b hb)
 have pm := p.move hb
 obtain ⟨ao, co, ev, sl⟩ := pi.fin (Y := X) (fun b q => .inl q) (fun g hg q => by have := h.new g hg; have := h.fx g q; omega)
 rw [e1] at ev
 cases ev
 refine ⟨ys, pm.close hk (Nat.le_trans p.sz.2 h.on.size) (Nat.le_refl _) ?_⟩
 rw [ex]
 intro W hW
 refine ⟨a1, c1, a2, c2, rfl, sl W hW, sw W fun b q1 q2 q3 => ?_⟩
 exact (hW b q1 (Nat.lt_of_lt_of_le q2 h.on.size) (fun q => q3 (.inl q))).trans (h.on.block b q2 (fun q => q3 (.inr q)))
structure FOpen (eF eB : TypeId) (w0 w4 : World) (B F : Nat) (X : Nat -> Prop) (v : Value) (j : Nat) (N : List Af) (hj : j < N.length) (v2 : Value) (wr : World) (k : Nat) : Prop where
 out : ∃ xs a1 c1 a2 c2 ys, Opn EnF eF 5 w0 w4 B F X v j (j + 1) N xs /\ xs.getD j [] = afv N[j] a1 c1 a2 c2 /\ v2 = .slice a2 N[j].blks.length c2 /\ StB w4 B w4.heap.size (fun b => X b \/ v2.ownBlock = some b) (fun W => Locs W a1 c1 N[j].params) /\ Opn EnB eB 5 w0 wr B wr.heap.size (fun b => X b \/ v2.ownBlock = some b) v2 k k N[j].blks ys
 on : Only (fun b => v2.ownBlock = some b) w4 wr
 new : ∀ g, v2.ownBlock = some g -> F <= g
 fx : ∀ b, X b -> b < F
theorem FOpen.start {eF eB t1 : TypeId} {w0 w w1 w2 : World} {B : Nat} {X : Nat -> Prop} {v : Value} {j : Nat} {N : List Af} {xs : List (List Value)} (h : Opn EnF eF 5 w0 w B w.heap.size X v j j N xs) (hX : ∀ b, X b -> b < w.heap.size) (hj : j < N.length) {v1 v2 : Value} {ys : List (List Value)} (b1 : Below w.heap.size w w1) (r1 : Row w1 w.heap.size t1 2 v1 (N[j].params.map lov)) (b2 : Below w1.heap.size w1 w2) (r2 : Row w2 w1.heap.size eB 5 v2 ys) (hz1 : ∀ u ∈ ys.flatten, u.oneCell' = true) (hzl : ys.length = N[j].blks.length) (hzu : ∀ i (h : i < N[j].blks.length), EnB w0 (ys.getD i []) N[j].blks[i]) {g n c : Nat} (ev : v = .slice (some ⟨g, 0, none⟩) n c) {w4 : World} (hw4 : w4 = (w2.setCell ⟨g, j * 5 + 1, none⟩ v1).setCell ⟨g, j * 5 + 4, none⟩ v2) :
 FOpen eF eB w0 w4 B w.heap.size X v j N hj v2 w4 0 := by
 have hBF := h.sz.1
 have hs1 := b1.size
 have hs2 := b2.size
 obtain ⟨a1, c1, a2, c2, ex, _, _⟩ := h.un j hj (Nat.le_refl _)
 have hXg : X g := (h.own g (by rw [ev]; rfl)).1
 obtain ⟨a1', c1', e1, s1⟩ := row_stB (B := B) r1 (lov_one _) hX hBF
 obtain ⟨a2', c2', e2, q2⟩ := own_slice r2.out
 rw [hzl] at e2
 simp only [List.length_map] at e1
 have hm := (h.move (w' := w2) (b1.trans (b2.mono b1.size)))
 have p1 := hm.put hj ev (r := 1) (by omega) v1 (by rw [e1]; rfl)
 have p2 := p1.put hj ev (r := 4) (by omega) v2 (by rw [e2]; rfl)
 have hx : j < xs.length := by rw [h.len]; exact hj
 rw [Part.entry hx] at p2
 have hmx : max (max j (j + 1)) (j + 1) = j + 1 := by omega
 rw [hmx] at p2
 rw [<- hw4] at p2
 have sz : w4.heap.size = w2.heap.size := by rw [hw4]; simp [World.setCell]
 have kk : ∀ b, b ≠ g -> w4.heap[b]? = w2.heap[b]? := fun b hne => by rw [hw4, heap_set_other hne, heap_set_other hne]
 have hgl := hX g hXg
 refine ⟨⟨_, a1', c1', a2', c2', ys, p2, ?_, e2, ?_, ?_⟩, Only.refl _ _, fun g' hg' => by have := (own_block r2.out hg').1; omega, hX⟩
 ·rw [Part.entry (by rw [List.length_set]; exact hx), ex, e1, e2]
  simp [afv]
 ·intro W hW
  refine s1 W fun b q1 q2' q3 => ?_
  have hbn : ¬ (X b \/ v2.ownBlock = some b) := fun q => q.elim q3 (fun r => by have := (own_block r2.out r).1; omega)
  exact (hW b q1 (by rw [sz]; omega) hbn).trans ((kk b (fun e => q3 (e ▸ hXg))).trans (b2.block b q2'))
 ·refine Opn.start (w2 := w2) (B1 := w1.heap.size) (by omega) p2.low r2 (fun g' hg' => ?_) hz1 hzl hzu (by omega) (by omega) (fun g' hg' => .inr hg')
  have hb := own_block r2.out hg'
  exact kk g' (by omega)
theorem FOpen.close {eF eB w0 w4 B F X v j N hj v2 wr} (h : FOpen eF eB w0 w4 B F X v j N hj v2 wr N[j].blks.length) : ∃ xs, Opn EnF eF 5 w0 wr B wr.heap.size X v (j + 1) (j + 1) N xs := by
 obtain ⟨xs, a1, c1, a2, c2, ys, p, ex, e1, sw, pi⟩ := h.out
 have hb : Below F w4 wr := h.on.below p.sz.2 (fun b hb => h.new b hb)
 have pm := p.move hb
 obtain ⟨ao, co, ev, sl⟩ := pi.fin (Y := X) (fun b q => .inl q) (fun g hg q => by have := h.new g hg; have := h.fx g q; omega)
 rw [e1] at ev
 cases ev
 refine ⟨xs, pm.close hj (Nat.le_trans p.sz.2 h.on.size) (Nat.le_refl _) ?_⟩
 rw [ex]
 intro W hW
 refine ⟨a1, c1, a2, c2, rfl, sw W fun b q1 q2 q3 => ?_, sl W hW⟩
 exact (hW b q1 (Nat.lt_of_lt_of_le q2 h.on.size) (fun q => q3 (.inl q))).trans (h.on.block b q2 (fun q => q3 (.inr q)))
theorem FOpen.cells {eF eB w0 w4 B F X v j N hj v2 wr k} (h : FOpen eF eB w0 w4 B F X v j N hj v2 wr k) {g n c : Nat} (ev : v = .slice (some ⟨g, 0, none⟩) n c) : wr.cell? ⟨g, j * 5 + 4, none⟩ = some v2 /\ g < wr.heap.size := by
 obtain ⟨xs, a1, c1, a2, c2, ys, p, ex, e1, sw, pi⟩ := h.out
 have hb : Below F w4 wr := h.on.below p.sz.2 (fun b hb => h.new b hb)
 obtain ⟨g', c', ev', _, _, _, _, hl, _, _, hc⟩ := (p.move hb).at hj
 rw [ev] at ev'
 cases ev'
 exact ⟨hc 4 _ (by rw [ex, e1]; rfl), hl⟩
theorem BOpen.cells {eB eI w0 w4 B F X v k N hk v1 wr i} (h : BOpen eB eI w0 w4 B F X v k N hk v1 wr i) {g n c : Nat} (ev : v = .slice (some ⟨g, 0, none⟩) n c) : wr.cell? ⟨g, k * 5, none⟩ = some v1 /\ g < wr.heap.size := by
 obtain ⟨ys, a1, c1, a2, c2, zs, p, ex, e1, sw, pi⟩ := h.out
 have hb : Below F w4 wr := h.on.below p.sz.2 (fun b hb => h.new b hb)
 obtain ⟨g', c', ev', _, _, _, _, hl, _, _, hc⟩ := (p.move hb).at hk
 rw [ev] at ev'
 cases ev'
 exact ⟨hc 0 _ (by rw [ex, e1]; rfl), hl⟩
theorem BOpen.next {eB eI w0 w4 B F X v k N hk v1 wr i} (h : BOpen eB eI w0 w4 B F X v k N hk v1 wr i) (hi : i < N[k].body.length) {t1 : TypeId} {u1 u2 : Value} {n2 : Nat} {w1 w2 : World} (b1 : Below wr.heap.size wr w1) (r1 : Row w1 wr.heap.size t1 2 u1 (N[k].body[i].args.map lov)) (b2 : Below w1.heap.size w1 w2) (r2 : OwnI w2 w1.heap.size u2 n2 N[k].body[i].saves) {g n c : Nat} (ev : v1 = .slice (some ⟨g, 0, none⟩) n c) {w9 : World} (hw9 : w9 = (w2.setCell ⟨g, i * 6 + 4, none⟩ u1).setCell ⟨g, i * 6 + 5, none⟩ u2) : BOpen eB eI w0 w4 B F X v k N hk v1 w9 (i + 1) := by
 obtain ⟨ys, a1, c1, a2, c2, zs, p, ex, e1, sw, pi⟩ := h.out
 have hs4 := p.sz.2
 have hon := h.on.size
 have hXi : ∀ b, (X b \/ v1.ownBlock = some b) -> b < wr.heap.size := fun b hb => hb.elim (fun q => by have := h.fx b q; omega) (fun q => (own_block pi.row.out q).2)
 obtain ⟨zs', pi'⟩ := copyI pi rfl hXi hi b1 r1 b2 r2 ev
 rw [<- hw9] at pi'
 have hown : v1.ownBlock = some g := by rw [ev]; rfl
 refine ⟨⟨ys, a1, c1, a2, c2, zs', p, ex, e1, sw, pi'⟩, ?_, h.new, h.fx⟩
 have o2 : Only (fun b => v1.ownBlock = some b) wr w9 := by
  rw [hw9]
  exact (((Only.of_below b1 (fun b => v1.ownBlock = some b)).trans (Only.of_below b2 (fun b => v1.ownBlock = some b)) (fun _ _ e => e)).trans ((Only.of_set w2 ⟨g, i * 6 + 4, none⟩ u1).mono (F' := fun b => v1.ownBlock = some b) fun b _ e => by rw [hown]; exact congrArg some e.symm) (fun _ _ e => e)).trans ((Only.of_set _ ⟨g, i * 6 + 5, none⟩ u2).mono (F' := fun b => v1.ownBlock = some b) fun b _ e => by rw [hown]; exact congrArg some e.symm) (fun _ _ e => e)
 exact h.on.trans o2 (fun _ _ e => e)
theorem FOpen.next {eF eB w0 w4 B F X v j N hj v2 wk k} (h : FOpen eF eB w0 w4 B F X v j N hj v2 wk k) {wr : World} (hp : ∃ ys, Opn EnB eB 5 w0 wr B wr.heap.size (fun b => X b \/ v2.ownBlock = some b) v2 (k + 1) (k + 1) N[j].blks ys) (o : Only (fun b => v2.ownBlock = some b) wk wr) : FOpen eF eB w0 w4 B F X v j N hj v2 wr (k + 1) := by
 obtain ⟨xs, a1, c1, a2, c2, ys, p, ex, e1, sw, pi⟩ := h.out
 obtain ⟨ys', p'⟩ := hp
 exact ⟨⟨xs, a1, c1, a2, c2, ys', p, ex, e1, sw, p'⟩, h.on.trans o (fun _ _ e => e), h.new, h.fx⟩
end Go.Proofs.YtegoemeefmjnoaaGreatDoor
