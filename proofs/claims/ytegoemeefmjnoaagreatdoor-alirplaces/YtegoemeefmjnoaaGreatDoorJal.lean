import Derived.Test.YtegoemeefmjnoaaGreatDoorJaj
import Derived.Test.YtegoemeefmjnoaaGreatDoorJak
set_option linter.unusedVariables false
set_option linter.unusedSimpArgs false
namespace Go.Proofs.YtegoemeefmjnoaaGreatDoor
open Go.ChangeShapes Go.WideShapes Go.ChangeAt Go.RowKit Go.Maps
theorem agr_inW {s : Wst} {b o : Nat} (h : ∀ W, AgrW s W -> ∃ v, W.cell? ⟨b, o, none⟩ = some v) : s.st b := by
 by_cases hb : s.st b
 ·exact hb
 ·exfalso
  obtain ⟨v, hv⟩ := h { s.w0 with heap := s.w0.heap.setIfInBounds b (.map #[] 0) } (fun k h1 => by
   show (s.w0.heap.setIfInBounds b _)[k]? = _
   have hne : b ≠ k := fun e => hb (by rw [e]; exact h1)
   rw [Array.getElem?_setIfInBounds_ne hne])
  have hlt : b < (s.w0.heap.setIfInBounds b (.map #[] 0)).size := block_lt_of_cell hv
  simp at hlt
  simp [World.cell?, Array.getElem?_setIfInBounds_self_of_lt, hlt] at hv
theorem agr_cellW {s : Wst} {b : Nat} (hb : s.st b) {W : World} (hW : AgrW s W) (o : Nat) : W.cell? ⟨b, o, none⟩ = s.w0.cell? ⟨b, o, none⟩ := World.cell?_of_block (w := s.w0) (hW b hb)
theorem agr_selfW {s : Wst} : AgrW s s.w0 := fun k _ => rfl
theorem Lst.atL {α : Type} {En : World -> List Value -> α -> Prop} {z w ao c N} (h : Lst En z w ao c N) {j : Nat} (hj : j < N.length) : ∃ b o cs, ao = some ⟨b, o, none⟩ /\ b < w.heap.size /\ cs.length = z /\ (∀ r u, cs[r]? = some u -> w.cell? ⟨b, o + j * z + r, none⟩ = some u) /\ En w cs N[j] := by
 obtain ⟨xs, e, hs, hE⟩ := h.out
 have hx : j < xs.length := by omega
 obtain ⟨b, o, ea, hl, hc⟩ := hs.at (j := j) hx
 exact ⟨b, o, _, ea, hl, by rw [show xs.getD j [] = xs[j] by simp [List.getD, hx]]; exact hs.len _ (List.getElem_mem hx), hc, hE j hj⟩
theorem lst_st {s : Wst} {α : Type} {En : World -> List Value -> α -> Prop} {z : Nat} (hz : 0 < z) {ao : Option Addr} {c : Nat} {N : List α} (h : ∀ W, AgrW s W -> Lst En z W ao c N) {i : Nat} (hi : i < N.length) : ∃ b o cs, ao = some ⟨b, o, none⟩ /\ s.st b /\ (∀ W, AgrW s W -> b < W.heap.size /\ ∀ r u, cs[r]? = some u -> W.cell? ⟨b, o + i * z + r, none⟩ = some u) /\ ∀ W, AgrW s W -> En W cs N[i] := by
 obtain ⟨b, o, cs, ea, hl, hz0, hc, hE⟩ := (h s.w0 agr_selfW).atL hi
 have hst : s.st b := agr_inW (o := o + i * z) fun W hW => by
  obtain ⟨b', o', cs', ea', hl', hz', hc', _⟩ := (h W hW).atL hi
  rw [ea] at ea'
  cases ea'
  exact ⟨_, hc' 0 (cs'[0]'(by omega)) (by simp)⟩
 refine ⟨b, o, cs, ea, hst, fun W hW => ?_, fun W hW => ?_⟩
 ·obtain ⟨b', o', cs', ea', hl', _⟩ := (h W hW).atL hi
  rw [ea] at ea'
  cases ea'
  exact ⟨hl', fun r u hu => by rw [agr_cellW hst hW]; exact hc r u hu⟩
 ·obtain ⟨b', o', cs', ea', hl', hz', hc', hE'⟩ := (h W hW).atL hi
  rw [ea] at ea'
  cases ea'
  have : cs' = cs := by
   refine List.ext_getElem (by omega) fun r h1 h2 => ?_
   have q1 := hc' r cs'[r] (by simp)
   have q2 := hc r cs[r] (by simp)
   rw [agr_cellW hst hW, q2] at q1
   exact (Option.some.inj q1).symm
  rw [<- this]
  exact hE'
theorem fun_st {s : Wst} {ao : Option Addr} {c : Nat} {N : List Af} (h : ∀ W, AgrW s W -> Afs W ao c N) {i : Nat} (hi : i < N.length) : ∃ b o a1 c1 a2 c2, ao = some ⟨b, o, none⟩ /\ s.st b /\ (∀ W, AgrW s W -> b < W.heap.size /\ ∀ r u, (afv N[i] a1 c1 a2 c2)[r]? = some u -> W.cell? ⟨b, o + i * 5 + r, none⟩ = some u) /\ (∀ W, AgrW s W -> Locs W a1 c1 N[i].params) /\ ∀ W, AgrW s W -> Lst EnB 5 W a2 c2 N[i].blks := by
 obtain ⟨b, o, cs, ea, hst, hc, hE⟩ := lst_st (by omega) h hi
 obtain ⟨a1, c1, a2, c2, e, h1, h2⟩ := hE s.w0 agr_selfW
 subst e
 have key : ∀ W, AgrW s W -> Locs W a1 c1 N[i].params /\ Lst EnB 5 W a2 c2 N[i].blks := fun W hW => by
  obtain ⟨a1', c1', a2', c2', e, q1, q2⟩ := hE W hW
  simp [afv] at e
  obtain ⟨⟨rfl, rfl⟩, rfl, rfl⟩ := e
  exact ⟨q1, q2⟩
 exact ⟨b, o, a1, c1, a2, c2, ea, hst, hc, fun W hW => (key W hW).1, fun W hW => (key W hW).2⟩
theorem blk_st {s : Wst} {ao : Option Addr} {c : Nat} {N : List Ab} (h : ∀ W, AgrW s W -> Lst EnB 5 W ao c N) {i : Nat} (hi : i < N.length) : ∃ b o a1 c1 a2 c2, ao = some ⟨b, o, none⟩ /\ s.st b /\ (∀ W, AgrW s W -> b < W.heap.size /\ ∀ r u, (abv N[i] a1 c1 a2 c2)[r]? = some u -> W.cell? ⟨b, o + i * 5 + r, none⟩ = some u) /\ (∀ W, AgrW s W -> Lst EnI 6 W a1 c1 N[i].body) /\ ∀ W, AgrW s W -> Ints W a2 c2 N[i].ways := by
 obtain ⟨b, o, cs, ea, hst, hc, hE⟩ := lst_st (by omega) h hi
 obtain ⟨a1, c1, a2, c2, e, h1, h2⟩ := hE s.w0 agr_selfW
 subst e
 have key : ∀ W, AgrW s W -> Lst EnI 6 W a1 c1 N[i].body /\ Ints W a2 c2 N[i].ways := fun W hW => by
  obtain ⟨a1', c1', a2', c2', e, q1, q2⟩ := hE W hW
  simp [abv] at e
  obtain ⟨⟨rfl, rfl⟩, rfl, rfl⟩ := e
  exact ⟨q1, q2⟩
 exact ⟨b, o, a1, c1, a2, c2, ea, hst, hc, fun W hW => (key W hW).1, fun W hW => (key W hW).2⟩
theorem ins_st {s : Wst} {ao : Option Addr} {c : Nat} {N : List Ai} (h : ∀ W, AgrW s W -> Lst EnI 6 W ao c N) {i : Nat} (hi : i < N.length) : ∃ b o a1 c1 a2 c2, ao = some ⟨b, o, none⟩ /\ s.st b /\ (∀ W, AgrW s W -> b < W.heap.size /\ ∀ r u, (aiv N[i] a1 c1 a2 c2)[r]? = some u -> W.cell? ⟨b, o + i * 6 + r, none⟩ = some u) /\ (∀ W, AgrW s W -> Locs W a1 c1 N[i].args) /\ ∀ W, AgrW s W -> Ints W a2 c2 N[i].saves := by
 obtain ⟨b, o, cs, ea, hst, hc, hE⟩ := lst_st (by omega) h hi
 obtain ⟨a1, c1, a2, c2, e, h1, h2⟩ := hE s.w0 agr_selfW
 subst e
 have key : ∀ W, AgrW s W -> Locs W a1 c1 N[i].args /\ Ints W a2 c2 N[i].saves := fun W hW => by
  obtain ⟨a1', c1', a2', c2', e, q1, q2⟩ := hE W hW
  simp [aiv] at e
  obtain ⟨⟨rfl, rfl⟩, rfl, rfl⟩ := e
  exact ⟨q1, q2⟩
 exact ⟨b, o, a1, c1, a2, c2, ea, hst, hc, fun W hW => (key W hW).1, fun W hW => (key W hW).2⟩
structure Fns (FS : List Af) (s : Ast) : Prop where
 fus : ∀ W, AgrW s.ws W -> Afs W (some ⟨s.fb, s.fo, none⟩) s.fc FS
 fn : s.fn = FS.length
 bbs : ∀ i (h : i < FS.length), FS[i].blks ≠ [] /\ ∃ mc, ∀ W, AgrW s.ws W -> W.cell? ⟨s.fb, s.fo + i * 5 + 4, none⟩ = some (.slice (some ⟨s.bb i, s.bo i, none⟩) FS[i].blks.length mc)
 few : ∀ i (h : i < FS.length), ∀ j (k : j < FS[i].blks.length), FS[i].blks[j].body.length <= 1000000000
theorem Fns.fn_at {FS s} (h : Fns FS s) {i : Nat} (hi : i < FS.length) : ∃ pa pc mc, s.ws.st s.fb /\ (∀ W, AgrW s.ws W -> s.fb < W.heap.size /\ W.cell? ⟨s.fb, s.fo + i * 5 + 1, none⟩ = some (.slice pa FS[i].params.length pc) /\ W.cell? ⟨s.fb, s.fo + i * 5 + 4, none⟩ = some (.slice (some ⟨s.bb i, s.bo i, none⟩) FS[i].blks.length mc)) /\ FS[i].blks.length <= mc /\ mc <= 9223372036854775807 /\ (∀ W, AgrW s.ws W -> Locs W pa pc FS[i].params) /\ ∀ W, AgrW s.ws W -> Lst EnB 5 W (some ⟨s.bb i, s.bo i, none⟩) mc FS[i].blks := by
 obtain ⟨b, o, a1, c1, a2, c2, ea, hst, hc, h1, h2⟩ := fun_st h.fus hi
 cases ea
 obtain ⟨hne, mc, hm⟩ := h.bbs i hi
 have e4 := (hc s.ws.w0 agr_selfW).2 4 _ rfl
 rw [hm s.ws.w0 agr_selfW] at e4
 simp at e4
 obtain ⟨rfl, rfl⟩ := e4
 have hle := (h2 s.ws.w0 agr_selfW).le
 exact ⟨a1, c1, mc, hst, fun W hW => ⟨(hc W hW).1, (hc W hW).2 1 _ rfl, hm W hW⟩, hle.1, hle.2, h1, h2⟩
theorem Fns.blk_at {FS s} (h : Fns FS s) {i : Nat} (hi : i < FS.length) {j : Nat} (hj : j < FS[i].blks.length) : ∃ a1 c1 a2 c2, s.ws.st (s.bb i) /\ (∀ W, AgrW s.ws W -> s.bb i < W.heap.size /\ W.cell? ⟨s.bb i, s.bo i + j * 5, none⟩ = some (.slice a1 FS[i].blks[j].body.length c1) /\ W.cell? ⟨s.bb i, s.bo i + j * 5 + 1, none⟩ = some (.int .i64 FS[i].blks[j].kind) /\ W.cell? ⟨s.bb i, s.bo i + j * 5 + 2, none⟩ = some (.int .i64 FS[i].blks[j].val.1) /\ W.cell? ⟨s.bb i, s.bo i + j * 5 + 3, none⟩ = some (.int .i64 FS[i].blks[j].val.2) /\ W.cell? ⟨s.bb i, s.bo i + j * 5 + 4, none⟩ = some (.slice a2 FS[i].blks[j].ways.length c2)) /\ (∀ W, AgrW s.ws W -> Lst EnI 6 W a1 c1 FS[i].blks[j].body) /\ ∀ W, AgrW s.ws W -> Ints W a2 c2 FS[i].blks[j].ways := by
 obtain ⟨pa, pc, mc, hst, hc, _, _, _, hB⟩ := h.fn_at hi
 obtain ⟨b, o, a1, c1, a2, c2, ea, hst2, hc2, h1, h2⟩ := blk_st hB hj
 cases ea
 exact ⟨a1, c1, a2, c2, hst2, fun W hW => ⟨(hc2 W hW).1, (hc2 W hW).2 0 _ rfl, (hc2 W hW).2 1 _ rfl, (hc2 W hW).2 2 _ rfl, (hc2 W hW).2 3 _ rfl, (hc2 W hW).2 4 _ rfl⟩, h1, h2⟩
structure InsAt (s : Wst) (b p : Nat) (x : Ai) : Prop where
 out : ∃ a1 c1 a2 c2, s.st b /\ (∀ W, AgrW s W -> b < W.heap.size /\ W.cell? ⟨b, p, none⟩ = some (.int .i64 x.op) /\ W.cell? ⟨b, p + 1, none⟩ = some (.int .i64 x.imm) /\ W.cell? ⟨b, p + 2, none⟩ = some (.int .i64 x.dst.1) /\ W.cell? ⟨b, p + 2 + 1, none⟩ = some (.int .i64 x.dst.2) /\ W.cell? ⟨b, p + 4, none⟩ = some (.slice a1 x.args.length c1) /\ W.cell? ⟨b, p + 5, none⟩ = some (.slice a2 x.saves.length c2)) /\ (∀ W, AgrW s W -> Locs W a1 c1 x.args) /\ ∀ W, AgrW s W -> Ints W a2 c2 x.saves
theorem insAt_of {s : Wst} {ao : Option Addr} {c : Nat} {N : List Ai} (h : ∀ W, AgrW s W -> Lst EnI 6 W ao c N) {i : Nat} (hi : i < N.length) : ∃ b o, ao = some ⟨b, o, none⟩ /\ InsAt s b (o + i * 6) N[i] := by
 obtain ⟨b, o, a1, c1, a2, c2, ea, hst, hc, h1, h2⟩ := ins_st h hi
 exact ⟨b, o, ea, a1, c1, a2, c2, hst, fun W hW => ⟨(hc W hW).1, (hc W hW).2 0 _ rfl, (hc W hW).2 1 _ rfl, (hc W hW).2 2 _ rfl, (hc W hW).2 3 _ rfl, (hc W hW).2 4 _ rfl, (hc W hW).2 5 _ rfl⟩, h1, h2⟩
theorem FB.enter {s Q t w b F m} (h : FB s Q t w b F m) (k : Nat) : FB s Q t ((w.setCell ⟨b, 1, none⟩ (.pointer (some ⟨s.bb F.fi, s.bo F.fi + k * 5, none⟩))).setCell ⟨b, 2, none⟩ (.int .i64 0)) b { F with bk := k, bh := 0 } m /\ Only (fun k => k = b) w ((w.setCell ⟨b, 1, none⟩ (.pointer (some ⟨s.bb F.fi, s.bo F.fi + k * 5, none⟩))).setCell ⟨b, 2, none⟩ (.int .i64 0)) :=
 ⟨⟨box_set (box_set h.box rfl) rfl, h.rg, h.sm.move fun g hg => (heap_set_other (h.ne hg)).trans (heap_set_other (h.ne hg))⟩, (Only.of_set w ⟨b, 1, none⟩ _).trans (Only.of_set _ ⟨b, 2, none⟩ _) (fun _ _ e => e)⟩
set_option maxRecDepth 100000 in
theorem fEnter_any {FS s Q t w b F m} (hN : Fns FS s) (h : FB s Q t w b F m) (hA : AgrW s.ws w) {f : Af} (hf : FS[F.fi]? = some f) (k : Nat) (hk : k < f.blks.length) :
 Calls Tryz.prog 51 #[.pointer (some ⟨b, 0, none⟩), .int .i64 (k : Int)] w fun e w' => e = .returned (.tuple #[]) /\ FB s Q t w' b { F with bk := k, bh := 0 } m /\ Only (fun k => k = b) w w' := by
 obtain ⟨hi, ef⟩ := List.getElem?_eq_some_iff.1 hf
 obtain ⟨pa, pc, mc, _, hc, hm1, hm2, _⟩ := hN.fn_at hi
 rw [ef] at hc hm1
 obtain ⟨q1, q2, q3⟩ := hc w hA
 have hlt := h.lt
 have c0 : w.cell? ⟨b, 0, none⟩ = some (.pointer (some ⟨s.fb, s.fo + F.fi * 5, none⟩)) := cell_arr h.box rfl
 have c1 : w.cell? ⟨b, 1, none⟩ = some (.pointer (some ⟨s.bb F.fi, s.bo F.fi + F.bk * 5, none⟩)) := cell_arr h.box rfl
 have c2 : w.cell? ⟨b, 2, none⟩ = some (.int .i64 (F.bh : Int)) := cell_arr h.box rfl
 have f1 : w.frozen? ⟨b, 1, none⟩ = false := fz_of h.box
 have f2 : w.frozen? ⟨b, 2, none⟩ = false := fz_of h.box
 have HF : Hid _ := h.enter k
 have hki : (k : Int) < (f.blks.length : Int) := by omega
 have hmx : f.blks.length <= 9223372036854775807 := by omega
 clear h hc q2 hm1 hf ef hN
 generalize f.blks.length = nb at *
 generalize s.fo + F.fi * 5 = fp at *
 generalize F.bh = bh at c2
 generalize s.bo F.fi + F.bk * 5 = p6 at c1
 generalize s.bb F.fi = bb at *
 generalize s.bo F.fi = bo at *
 generalize s.fb = fb at *
 go_enter Tryz.func51, Tryz.ntmps51
 go_wp2_with fail
 exact bodyPost_end (v := .tuple #[]) (by simp [results, Tryz.results51, go_sem]) rfl ⟨rfl, HF.out⟩
theorem insOf_some {FS : List Af} {F : Fa} {x : Ai} (h : insOf FS F = some x) : ∃ f b, FS[F.fi]? = some f /\ f.blks[F.bk]? = some b /\ 1 <= F.bh /\ b.body[F.bh - 1]? = some x := by
 unfold insOf at h
 cases hf : FS[F.fi]? with
 | none => rw [hf] at h; cases h
 | some f =>
   rw [hf] at h
   simp only at h
   cases hb : f.blks[F.bk]? with
   | none => rw [hb] at h; cases h
   | some b =>
     rw [hb] at h
     simp only at h
     split at h
     ·cases h
     ·exact ⟨f, b, rfl, hb, by omega, h⟩
set_option maxRecDepth 100000 in
theorem fLast_any {FS s Q t w b F m} (hN : Fns FS s) (h : FB s Q t w b F m) (hA : AgrW s.ws w) {x : Ai} (hx : insOf FS F = some x) :
 Calls Tryz.prog 46 #[.pointer (some ⟨b, 0, none⟩)] w fun e w' => (∃ ib p, e = .returned (.pointer (some ⟨ib, p, none⟩)) /\ InsAt s.ws ib p x) /\ Below w.heap.size w w' := by
 obtain ⟨f, k, hf, hk, h1, hb⟩ := insOf_some hx
 obtain ⟨hi, ef⟩ := List.getElem?_eq_some_iff.1 hf
 subst ef
 obtain ⟨hj, ek⟩ := List.getElem?_eq_some_iff.1 hk
 subst ek
 obtain ⟨hl, ex⟩ := List.getElem?_eq_some_iff.1 hb
 obtain ⟨a1, c1, a2, c2, -, hc, hI, -⟩ := hN.blk_at hi hj
 obtain ⟨ib, io, ea, hIA⟩ := insAt_of hI hl
 rw [ex] at hIA
 subst ea
 obtain ⟨q1, q2, -⟩ := hc w hA
 have hlt := h.lt
 have k1 : w.cell? ⟨b, 1, none⟩ = some (.pointer (some ⟨s.bb F.fi, s.bo F.fi + F.bk * 5, none⟩)) := cell_arr h.box rfl
 have k2 : w.cell? ⟨b, 2, none⟩ = some (.int .i64 (F.bh : Int)) := cell_arr h.box rfl
 obtain ⟨j, hj1⟩ : ∃ j, F.bh = j + 1 := ⟨F.bh - 1, by omega⟩
 have hfew := hN.few F.fi hi F.bk hj
 rw [hj1] at k2 hl hIA
 simp only [Nat.add_sub_cancel] at hl hIA
 have hki : (j : Int) < ((FS[F.fi].blks[F.bk].body.length : Nat) : Int) := by omega
 have HIA : Hid _ := hIA
 have hbi := ((hI w hA).le)
 clear h hc hI hf hk hb hx ex hIA hN
 generalize FS[F.fi].blks[F.bk].body.length = nb at q2 hfew hl hki hbi
 generalize s.bo F.fi + F.bk * 5 = bp at *
 generalize s.bb F.fi = bb at *
 have hw1 : IntKind.i64.wrap ((j : Int) + 1) = (j : Int) + 1 := by rw [IntKind.wrap_i64]; omega
 have hw2 : IntKind.i64.wrap ((j : Int) + 1 - 1) = (j : Int) := by rw [IntKind.wrap_i64]; omega
 have hw3 : IntKind.i64.wrap (j : Int) = (j : Int) := by rw [IntKind.wrap_i64]; omega
 clear hj1
 go_enter Tryz.func46, Tryz.ntmps46
 go_wp2_with fail
 go_quiet (fail)
 go_wp2_with fail
 go_ret
 exact ⟨⟨_, _, rfl, HIA.out⟩, by first | exact Below.refl _ _ | exact below_drawnA (Below.refl _ _) _⟩
theorem heap_setRow_otherA {w : World} {g k : Nat} {cs : Array Value} (h : k ≠ g) : (w.setRow g cs).heap[k]? = w.heap[k]? := by
 simp only [World.setRow, Array.getElem?_modify]
 rw [if_neg (by omega)]
theorem only_setRowA (w : World) (g : Nat) (cs : Array Value) : Only (fun k => k = g) w (w.setRow g cs) := ⟨rfl, rfl, rfl, by simp, fun k _ hn => heap_setRow_otherA hn⟩
theorem below_setRowA {B : Nat} {a w : World} (h : Below B a w) {g : Nat} (hg : B <= g) (cs : Array Value) : Below B a (w.setRow g cs) := ⟨h.os, h.tape, h.output, by simp; exact h.size, fun k hk => (heap_setRow_otherA (by omega)).trans (h.block k hk)⟩
theorem frame_new (s : Ast) (i : Nat) : fav s (Fa.new i) none = [.pointer (some ⟨s.fb, s.fo + i * 5, none⟩), .pointer (some ⟨s.bb i, s.bo i, none⟩), .int .i64 0, .int .i64 (-1), .int .i64 (-1), .int .i64 (-1), .int .i64 (-1), .int .i64 (-1), .int .i64 (-1), .int .i64 (-1), .int .i64 (-1), .map none] := by
 simp [fav, Fa.new, List.replicate]
set_option maxRecDepth 100000 in
set_option maxHeartbeats 4000000 in
theorem frameOf_any {FS s w} (hN : Fns FS s) (hA : AgrW s.ws w) {i : Nat} (hi : i < FS.length) :
 Calls Tryz.prog 26 #[.pointer (some ⟨s.fb, s.fo + i * 5, none⟩)] w fun e w' => e = .returned (.agg (fav s (Fa.new i) none).toArray) /\ Below w.heap.size w w' := by
 obtain ⟨pa, pc, mc, _, hc, hm1, hm2, _⟩ := hN.fn_at hi
 obtain ⟨q1, q2, q3⟩ := hc w hA
 have hne := (hN.bbs i hi).1
 have hpos : 0 < FS[i].blks.length := List.length_pos_iff.2 hne
 have hpi : (0 : Int) < ((FS[i].blks.length : Nat) : Int) := by omega
 obtain ⟨W1, hW1⟩ : ∃ W1, W1 = (w.alloc (.cells #[.pointer none, .pointer none, .int .i64 0, .int .i64 0, .int .i64 0, .int .i64 0, .int .i64 0, .int .i64 0, .int .i64 0, .int .i64 0, .int .i64 0, .map none] 80)).alloc (.cells #[.pointer (some ⟨s.fb, s.fo + i * 5, none⟩), .pointer (some ⟨s.bb i, s.bo i, none⟩), .int .i64 0, .int .i64 0, .int .i64 0, .int .i64 0, .int .i64 0, .int .i64 0, .int .i64 0, .int .i64 0, .int .i64 0, .map none] 80) := ⟨_, rfl⟩
 have HB1 : Hid (Below w.heap.size w W1) := by rw [hW1]; exact ((Below.refl _ _).alloc (Nat.le_refl _) _).alloc (by simp) _
 have HZ : Hid (W1.heap[w.heap.size]? = some (.cells #[.pointer none, .pointer none, .int .i64 0, .int .i64 0, .int .i64 0, .int .i64 0, .int .i64 0, .int .i64 0, .int .i64 0, .int .i64 0, .int .i64 0, .map none] 80 (0, 0))) := by rw [hW1]; exact heap_alloc2_old w _ _
 have hC : W1.heap[w.heap.size + 1]? = some (.cells #[.pointer (some ⟨s.fb, s.fo + i * 5, none⟩), .pointer (some ⟨s.bb i, s.bo i, none⟩), .int .i64 0, .int .i64 0, .int .i64 0, .int .i64 0, .int .i64 0, .int .i64 0, .int .i64 0, .int .i64 0, .int .i64 0, .map none] 80 (0, 0)) := by rw [hW1]; exact heap_alloc2_new w _ _
 have l0 : w.heap.size < W1.heap.size := (gl HZ.out)
 have l1 : w.heap.size + 1 < W1.heap.size := (gl hC)
 have hFB : FB s [] 80 W1 (w.heap.size + 1) ⟨i, 0, 0, [0, 0, 0, 0, 0, 0, 0, 0], fun _ => none, 0⟩ none := ⟨by simpa [fav] using hC, rfl, SlM.start _ _⟩
 have HK : Hid (Calls Tryz.prog 42 #[.pointer (some ⟨w.heap.size + 1, 0, none⟩), .slice none 0 0] W1 fun e w' => e = .returned (.tuple #[]) /\ FB s [] 80 w' (w.heap.size + 1) (Fa.new i) none /\ Only (fun k => k = w.heap.size + 1) W1 w') := fKeep_any hFB (S := []) ⟨by simp, by omega, fun q => absurd rfl q⟩ rfl (fun ib io e _ => by cases e) (Fa.new i) rfl
 clear hc q2 hne hC hFB
 generalize FS[i].blks.length = nb at *
 go_enter Tryz.func26, Tryz.ntmps26
 go_upto_region 2 with fail
 rw [<- hW1]
 clear hW1
 obtain ⟨cb, hcb⟩ : ∃ cb, cb = w.heap.size + 1 := ⟨_, rfl⟩
 obtain ⟨rb, hrb⟩ : ∃ rb, rb = w.heap.size := ⟨_, rfl⟩
 rw [<- hcb] at HK ⊢
 rw [<- hrb]
 have lrb : rb < W1.heap.size := by rw [hrb]; exact l0
 have lcb : cb < W1.heap.size := by rw [hcb]; exact l1
 have HCB : Hid (cb = w.heap.size + 1) := hcb
 have HRB : Hid (rb = w.heap.size) := hrb
 clear hcb hrb q1 q3 l0 l1
 go_upto_region 3 with (go_at_call 42; refine Calls.mono HK.out ?_; rintro e w2 ⟨rfl, h2, h3⟩; have H2 : Hid _ := h2; have H3 : Hid _ := h3; clear h2 h3)
 have hbx := H2.out.box
 rw [List.append_nil, frame_new] at hbx
 have k0 : w2.cell? ⟨cb, 0, none⟩ = some (.pointer (some ⟨s.fb, s.fo + i * 5, none⟩)) := cell_arr hbx rfl
 have k1 : w2.cell? ⟨cb, 1, none⟩ = some (.pointer (some ⟨s.bb i, s.bo i, none⟩)) := cell_arr hbx rfl
 have k2 : w2.cell? ⟨cb, 2, none⟩ = some (.int .i64 0) := cell_arr hbx rfl
 have k3 : w2.cell? ⟨cb, 3, none⟩ = some (.int .i64 (-1)) := cell_arr hbx rfl
 have k4 : w2.cell? ⟨cb, 4, none⟩ = some (.int .i64 (-1)) := cell_arr hbx rfl
 have k5 : w2.cell? ⟨cb, 5, none⟩ = some (.int .i64 (-1)) := cell_arr hbx rfl
 have k6 : w2.cell? ⟨cb, 6, none⟩ = some (.int .i64 (-1)) := cell_arr hbx rfl
 have k7 : w2.cell? ⟨cb, 7, none⟩ = some (.int .i64 (-1)) := cell_arr hbx rfl
 have k8 : w2.cell? ⟨cb, 8, none⟩ = some (.int .i64 (-1)) := cell_arr hbx rfl
 have k9 : w2.cell? ⟨cb, 9, none⟩ = some (.int .i64 (-1)) := cell_arr hbx rfl
 have k10 : w2.cell? ⟨cb, 10, none⟩ = some (.int .i64 (-1)) := cell_arr hbx rfl
 have k11 : w2.cell? ⟨cb, 11, none⟩ = some (.map none) := cell_arr hbx rfl
 have lc2 : cb < w2.heap.size := (gl hbx)
 have hne : rb ≠ cb := by rw [HCB.out, HRB.out]; omega
 have hz2 : w2.heap[rb]? = some (.cells #[.pointer none, .pointer none, .int .i64 0, .int .i64 0, .int .i64 0, .int .i64 0, .int .i64 0, .int .i64 0, .int .i64 0, .int .i64 0, .int .i64 0, .map none] 80 (0, 0)) := (H3.out.block rb lrb hne).trans (by rw [HRB.out]; exact HZ.out)
 have HZ2 : Hid _ := hz2
 obtain ⟨w3, hw3⟩ : ∃ w3, w3 = w2.setRow rb #[.pointer (some ⟨s.fb, s.fo + i * 5, none⟩), .pointer (some ⟨s.bb i, s.bo i, none⟩), .int .i64 0, .int .i64 (-1), .int .i64 (-1), .int .i64 (-1), .int .i64 (-1), .int .i64 (-1), .int .i64 (-1), .int .i64 (-1), .int .i64 (-1), .map none] := ⟨_, rfl⟩
 have HR3 : Hid (w3.heap[rb]? = some (.cells #[.pointer (some ⟨s.fb, s.fo + i * 5, none⟩), .pointer (some ⟨s.bb i, s.bo i, none⟩), .int .i64 0, .int .i64 (-1), .int .i64 (-1), .int .i64 (-1), .int .i64 (-1), .int .i64 (-1), .int .i64 (-1), .int .i64 (-1), .int .i64 (-1), .map none] 80 (0, 0))) := by rw [hw3]; exact setRow_heap w2 rb _ _ _ _ hz2
 have HB3 : Hid (Below w.heap.size w w3) := by
  have b2 : Below w.heap.size w w2 := HB1.out.trans (H3.out.below (B := w.heap.size) HB1.out.size (fun k hk => by rw [hk, HCB.out]; omega))
  rw [hw3]
  exact below_setRowA b2 (by rw [HRB.out]; exact Nat.le_refl _) _
 have HW3 : Hid _ := hw3
 clear hw3 hbx hz2 hne
 go_wp2_with (refine wpList_store_row rfl _ _ _ rfl rb _ rfl rfl 80 _ HZ2.out (by kernel_rfl) rfl (by kernel_rfl) ?_; rw [<- HW3.out]; clear HW3)
 refine bodyPost_ret (v := .agg (fav s (Fa.new i) none).toArray) ?_ rfl ⟨rfl, HB3.out⟩
 rw [frame_new]
 exact results_cell_row Tryz.results26 _ _ rb 80 _ (0, 0) _ rfl HR3.out Tryz.underlying80 rfl (by kernel_rfl)
set_option maxRecDepth 100000 in
set_option maxHeartbeats 4000000 in
theorem mCalcW {s P Q d w V} (h : Wm s P Q d w V) (op a b : Int) :
 Calls Tryz.prog 75 #[.pointer (some ⟨s.mb, s.o, none⟩), .int .i64 op, .int .i64 a, .int .i64 b] w fun e w' => e = .returned (.int .i64 (doIW op a b)) /\ ∃ d', Wm s P Q d' w' (V.calc op a b) /\ FooW s d d' w w' := by
 obtain ⟨R, hR⟩ : ∃ R, R = doIW op a b := ⟨_, rfl⟩
 have HDO : Hid (∀ w2, (∃ d', Wm s P Q d' w2 (V.calc op a b) /\ FooW s d d' w w2) -> Calls Tryz.prog 93 #[.int .i64 op, .int .i64 a, .int .i64 b] w2 fun e w' => e = .returned (.tuple #[.int .i64 R, .bool (isOpW op)]) /\ ∃ d', Wm s P Q d' w' (V.calc op a b) /\ FooW s d d' w w') := by
  rintro w2 ⟨d', q1, q2⟩
  refine (do_anyW op a b w2).mono ?_
  rintro e w' ⟨rfl, hb⟩
  exact ⟨by rw [hR], d', q1.below hb, q2.trans (FooW.of_below hb)⟩
 have HST : Hid (∀ k, Calls Tryz.prog 85 #[.pointer (some ⟨s.mb, s.o + 1, none⟩), .int .i64 k] w fun e w' => e = .returned (.tuple #[]) /\ ∃ d', Wm s P Q d' w' (V.stuck k) /\ FooW s d d' w w') := fun k => mStuckW h k
 have HIB : Hid _ := isBoolW w a
 have hlt := h.cells.lt
 rw [<- hR]
 clear hR
 generalize hmb : s.mb = mb at hlt HST ⊢
 clear hmb
 generalize hso : s.o = so at HST ⊢
 clear hso
 by_cases o5 : op = 5
 ·subst o5
  by_cases hb : b = 0
  ·have tb : (b == 0) = true := by simp [hb]
   have ec : V.calc 5 a b = V.stuck 3 := by unfold Wv.calc; rw [if_pos ⟨.inl rfl, hb⟩]
   rw [ec]
   rw [ec] at HDO
   clear ec
   clear hb
   clear h
   go_enter Tryz.func75, Tryz.ntmps75
   go_wp2_with (first | (go_at_call 93; refine Calls.mono (HDO.out w2 H2.out) ?_; rintro e w8 ⟨rfl, h8⟩; have H8 := show Hid _ from h8; clear h8) | (go_at_call 85; refine Calls.mono (HST.out 3) ?_; rintro e w2 ⟨rfl, h2⟩; have H2 := show Hid _ from h2; clear h2))
   go_ret
   exact ⟨rfl, H8.out⟩
  ·have tb : (b == 0) = false := by simp [hb]
   have ec : V.calc 5 a b = V := by unfold Wv.calc; rw [if_neg (by omega), if_neg (by omega), if_neg (by omega)]
   rw [ec]
   rw [ec] at HDO
   have HM0 : Hid (∃ d', Wm s P Q d' w V /\ FooW s d d' w w) := ⟨d, h, FooW.refl _ _ _⟩
   clear ec
   clear hb
   clear h
   go_enter Tryz.func75, Tryz.ntmps75
   go_wp2_with (first | (go_at_call 93; refine Calls.mono (HDO.out _ HM0.out) ?_; rintro e w8 ⟨rfl, h8⟩; have H8 := show Hid _ from h8; clear h8))
   go_ret
   exact ⟨rfl, H8.out⟩
 by_cases o6 : op = 6
 ·subst o6
  by_cases hb : b = 0
  ·have tb : (b == 0) = true := by simp [hb]
   have ec : V.calc 6 a b = V.stuck 3 := by unfold Wv.calc; rw [if_pos ⟨.inr rfl, hb⟩]
   rw [ec]
   rw [ec] at HDO
   clear ec
   clear hb o5
   clear h
   go_enter Tryz.func75, Tryz.ntmps75
   go_wp2_with (first | (go_at_call 93; refine Calls.mono (HDO.out w2 H2.out) ?_; rintro e w8 ⟨rfl, h8⟩; have H8 := show Hid _ from h8; clear h8) | (go_at_call 85; refine Calls.mono (HST.out 3) ?_; rintro e w2 ⟨rfl, h2⟩; have H2 := show Hid _ from h2; clear h2))
   go_ret
   exact ⟨rfl, H8.out⟩
  ·have tb : (b == 0) = false := by simp [hb]
   have ec : V.calc 6 a b = V := by unfold Wv.calc; rw [if_neg (by omega), if_neg (by omega), if_neg (by omega)]
   rw [ec]
   rw [ec] at HDO
   have HM0 : Hid (∃ d', Wm s P Q d' w V /\ FooW s d d' w w) := ⟨d, h, FooW.refl _ _ _⟩
   clear ec
   clear hb o5
   clear h
   go_enter Tryz.func75, Tryz.ntmps75
   go_wp2_with (first | (go_at_call 93; refine Calls.mono (HDO.out _ HM0.out) ?_; rintro e w8 ⟨rfl, h8⟩; have H8 := show Hid _ from h8; clear h8))
   go_ret
   exact ⟨rfl, H8.out⟩
 by_cases o11 : op = 11
 ·subst o11
  by_cases hb : b < 0
  ·have tb : decide (b < 0) = true := by simp [hb]
   have ec : V.calc 11 a b = V.stuck 4 := by unfold Wv.calc; rw [if_neg (by omega), if_pos ⟨.inl rfl, hb⟩]
   rw [ec]
   rw [ec] at HDO
   clear ec
   clear hb
   clear h
   go_enter Tryz.func75, Tryz.ntmps75
   go_wp2_with (first | (go_at_call 93; refine Calls.mono (HDO.out w2 H2.out) ?_; rintro e w8 ⟨rfl, h8⟩; have H8 := show Hid _ from h8; clear h8) | (go_at_call 85; refine Calls.mono (HST.out 4) ?_; rintro e w2 ⟨rfl, h2⟩; have H2 := show Hid _ from h2; clear h2))
   go_ret
   exact ⟨rfl, H8.out⟩
  ·have tb : decide (b < 0) = false := by simp [hb]
   have ec : V.calc 11 a b = V := by unfold Wv.calc; rw [if_neg (by omega), if_neg (by omega), if_neg (by omega)]
   rw [ec]
   rw [ec] at HDO
   have HM0 : Hid (∃ d', Wm s P Q d' w V /\ FooW s d d' w w) := ⟨d, h, FooW.refl _ _ _⟩
   clear ec
   clear hb
   clear h
   go_enter Tryz.func75, Tryz.ntmps75
   go_wp2_with (first | (go_at_call 93; refine Calls.mono (HDO.out _ HM0.out) ?_; rintro e w8 ⟨rfl, h8⟩; have H8 := show Hid _ from h8; clear h8))
   go_ret
   exact ⟨rfl, H8.out⟩
 by_cases o12 : op = 12
 ·subst o12
  by_cases hb : b < 0
  ·have tb : decide (b < 0) = true := by simp [hb]
   have ec : V.calc 12 a b = V.stuck 4 := by unfold Wv.calc; rw [if_neg (by omega), if_pos ⟨.inr rfl, hb⟩]
   rw [ec]
   rw [ec] at HDO
   clear ec
   clear hb
   clear h
   go_enter Tryz.func75, Tryz.ntmps75
   go_wp2_with (first | (go_at_call 93; refine Calls.mono (HDO.out w2 H2.out) ?_; rintro e w8 ⟨rfl, h8⟩; have H8 := show Hid _ from h8; clear h8) | (go_at_call 85; refine Calls.mono (HST.out 4) ?_; rintro e w2 ⟨rfl, h2⟩; have H2 := show Hid _ from h2; clear h2))
   go_ret
   exact ⟨rfl, H8.out⟩
  ·have tb : decide (b < 0) = false := by simp [hb]
   have ec : V.calc 12 a b = V := by unfold Wv.calc; rw [if_neg (by omega), if_neg (by omega), if_neg (by omega)]
   rw [ec]
   rw [ec] at HDO
   have HM0 : Hid (∃ d', Wm s P Q d' w V /\ FooW s d d' w w) := ⟨d, h, FooW.refl _ _ _⟩
   clear ec
   clear hb
   clear h
   go_enter Tryz.func75, Tryz.ntmps75
   go_wp2_with (first | (go_at_call 93; refine Calls.mono (HDO.out _ HM0.out) ?_; rintro e w8 ⟨rfl, h8⟩; have H8 := show Hid _ from h8; clear h8))
   go_ret
   exact ⟨rfl, H8.out⟩
 by_cases o19 : op = 19
 ·subst o19
  by_cases hb : a = 0 \/ a = 1
  ·rw [decide_eq_true hb] at HIB
   have ec : V.calc 19 a b = V := by unfold Wv.calc; rw [if_neg (by omega), if_neg (by omega), if_neg (by simp [hb])]
   rw [ec]
   rw [ec] at HDO
   have HM0 : Hid (∃ d', Wm s P Q d' w V /\ FooW s d d' w w) := ⟨d, h, FooW.refl _ _ _⟩
   clear ec hb
   clear h
   go_enter Tryz.func75, Tryz.ntmps75
   go_wp2_with (first | (go_at_call 93; refine Calls.mono (HDO.out _ HM0.out) ?_; rintro e w8 ⟨rfl, h8⟩; have H8 := show Hid _ from h8; clear h8) | (go_at_call 92; refine Calls.mono HIB.out ?_; rintro e w1 ⟨rfl, rfl⟩))
   go_ret
   exact ⟨rfl, H8.out⟩
  ·rw [decide_eq_false hb] at HIB
   have ec : V.calc 19 a b = V.stuck 5 := by unfold Wv.calc; rw [if_neg (by omega), if_neg (by omega), if_pos ⟨rfl, hb⟩]
   rw [ec]
   rw [ec] at HDO
   clear ec
   clear hb
   clear h
   go_enter Tryz.func75, Tryz.ntmps75
   go_wp2_with (first | (go_at_call 93; refine Calls.mono (HDO.out w2 H2.out) ?_; rintro e w8 ⟨rfl, h8⟩; have H8 := show Hid _ from h8; clear h8) | (go_at_call 85; refine Calls.mono (HST.out 5) ?_; rintro e w2 ⟨rfl, h2⟩; have H2 := show Hid _ from h2; clear h2) | (go_at_call 92; refine Calls.mono HIB.out ?_; rintro e w1 ⟨rfl, rfl⟩))
   go_ret
   exact ⟨rfl, H8.out⟩
 have t5 : (op == 5) = false := by simp [o5]
 have t6 : (op == 6) = false := by simp [o6]
 have t11 : (op == 11) = false := by simp [o11]
 have t12 : (op == 12) = false := by simp [o12]
 have t19 : (op == 19) = false := by simp [o19]
 have ec : V.calc op a b = V := by unfold Wv.calc; rw [if_neg (by omega), if_neg (by omega), if_neg (by omega)]
 rw [ec]
 rw [ec] at HDO
 have HM0 : Hid (∃ d', Wm s P Q d' w V /\ FooW s d d' w w) := ⟨d, h, FooW.refl _ _ _⟩
 clear ec o5 o6 o11 o12 o19
 clear h
 go_enter Tryz.func75, Tryz.ntmps75
 go_wp2_with (first | (go_at_call 93; refine Calls.mono (HDO.out _ HM0.out) ?_; rintro e w8 ⟨rfl, h8⟩; have H8 := show Hid _ from h8; clear h8))
 go_ret
 exact ⟨rfl, H8.out⟩
set_option maxRecDepth 100000 in
theorem mTrapW {s P Q d w V} (h : Wm s P Q d w V) (k : Int) (b : Bool) :
 Calls Tryz.prog 74 #[.pointer (some ⟨s.mb, s.o, none⟩), .int .i64 k, .bool b] w fun e w' => e = .returned (.tuple #[]) /\ ∃ d', Wm s P Q d' w' (if b = true then V.panic k 0 else V) /\ FooW s d d' w w' := by
 have HP : Hid _ := mPanicW h k 0
 have HM : Hid (∃ d', Wm s P Q d' w V /\ FooW s d d' w w) := ⟨d, h, FooW.refl _ _ _⟩
 have hlt := h.cells.lt
 generalize s.mb = mb at *
 generalize s.o = so at *
 clear h
 cases b with
 | true =>
   go_enter Tryz.func74, Tryz.ntmps74
   go_wp2_with (go_at_call 54; refine Calls.mono HP.out ?_; rintro e w2 ⟨rfl, h2⟩; have H2 := show Hid _ from h2; clear h2)
   exact bodyPost_end (v := .tuple #[]) (by simp [results, Tryz.results74, go_sem]) rfl ⟨rfl, by simpa using H2.out⟩
 | false =>
   go_enter Tryz.func74, Tryz.ntmps74
   go_wp2_with fail
   exact bodyPost_end (v := .tuple #[]) (by simp [results, Tryz.results74, go_sem]) rfl ⟨rfl, by simpa using HM.out⟩
end Go.Proofs.YtegoemeefmjnoaaGreatDoor
