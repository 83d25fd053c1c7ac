import Derived.Deep.RegionHeld
import Derived.Test.YtfbkopjncmkbiabGreatDoorKas
set_option linter.unusedVariables false
set_option linter.unusedSimpArgs false
namespace Go.Proofs.YtfbkopjncmkbiabGreatDoor
open Go.ChangeShapes Go.WideShapes Go.ChangeAt Go.RowKit Go.Maps
def treeF (f : Fu) : List Int := treeP (waysP f)
def usesP (f : Fu) : Bool := evr (useB f (placesP f) (regP (treeF f))) 0 f.blks
structure PlOK (n m : Nat) (P : List (Int × Int)) : Prop where
 len : P.length = m
 ok : ∀ v : Nat, (P.getD v (0, 0)).1 = -1 \/ (0 <= (P.getD v (0, 0)).1 /\ (P.getD v (0, 0)).1 < n)
theorem PlOK.set {n m P} (h : PlOK n m P) (i : Nat) (v : Int × Int) (hv : v.1 = -1 \/ (0 <= v.1 /\ v.1 < n)) : PlOK n m (P.set i v) := by
 refine ⟨by simpa using h.len, fun x => ?_⟩
 have := h.ok x
 simp only [List.getD, List.getElem?_set] at this ⊢
 split
 ·split
  ·simpa using hv
  ·next e _ => subst e; simp_all
 ·exact this
theorem PlOK.plL {n m : Nat} {v : Int × Int} (hv : v.1 = -1 \/ (0 <= v.1 /\ v.1 < (n : Int))) : ∀ (L : List Int) (P : List (Int × Int)), PlOK n m P -> PlOK n m (plL v L P)
 | [], P, h => h
 | x :: L, P, h => PlOK.plL hv L _ (h.set x.toNat v hv)
theorem PlOK.plB {n m : Nat} {b : Nat} (hb : b < n) {L : List Int} : ∀ (k : Nat) (P : List (Int × Int)), PlOK n m P -> PlOK n m (plB b L k P)
 | 0, P, h => h
 | k + 1, P, h => (PlOK.plB hb k P h).set _ _ (.inr (by simp; omega))
theorem plK_ok {f : Fu} (h0 : 0 < f.blks.length) : ∀ k, k <= f.blks.length -> PlOK f.blks.length f.vals.length (plK f k)
 | 0, _ => PlOK.plL (.inl rfl) _ _ ⟨by simp, fun v => .inr (by simp [List.getD, List.getElem?_replicate]; split <;> simp <;> omega)⟩
 | k + 1, hk => by
   simp only [plK, plS]
   exact PlOK.plB (by omega) _ _ (PlOK.plL (.inr (by simp; omega)) _ _ (plK_ok h0 k (by omega)))
theorem everyU1_at (w : World) {s : ByteArray} {pa : Option Addr} {pn pc : Nat} {r : Int} {va : Option Addr} {vn vc : Nat} {ba : Option Addr} {bn bc : Nat} {fa : Option Addr} {fn fc : Nat} {f : Fu} {FS : List Fu} (C : Ctx w s pa pn pc r va vn vc ba bn bc fa fn fc f FS) (hform : formP FS f = true) (hph : phisP f = true) (fb : Nat) (hf : w.heap[fb]? = some (.cells #[.string s, .slice pa pn pc, .int .i64 r, .slice va vn vc, .slice ba bn bc, .slice fa fn fc] 77 (0, 0))) {ub : Nat} {qa : Option Addr} {qc : Nat} {ra : Option Addr} {rc : Nat} {P R : List (Int × Int)} (U : UC w ub qa vn qc ra bn rc P R) (T : Bool) (hT : evr (useB f P R) 0 f.blks = T) :
 Calls Tryz.prog 82 #[.slice ba bn bc, .func (.func 102) #[] #[.pointer (some ⟨fb, 0, none⟩), .pointer (some ⟨ub, 0, none⟩)]] w fun e w' => e = .returned (.bool T) /\ Below w.heap.size w w' := by
 subst hT
 have hargs : ∀ x, wi f.vals.length x = true -> ∀ y ∈ (gv f x).args, wi f.vals.length y = true := by
  intro x hx y hy
  simp only [wi, decide_eq_true_eq] at hx
  obtain ⟨j, rfl⟩ : ∃ j : Nat, x = j := ⟨x.toNat, by omega⟩
  rw [gv_at f j (by omega)] at hy
  have := formP_vals hform _ (List.getElem_mem (show j < f.vals.length by omega))
  simp only [valueP, Bool.and_eq_true, List.all_eq_true] at this
  exact this.2.2.2.1 y hy
 refine everyB_any w ba bc bn f.blks C.eb C.hb _ _ _ opens_u1 _ (Asks.two fun W i x hi hb hv => ?_)
 obtain ⟨ka, kc, la, lc, ma, mc, na, nc, rfl, h1, h2, h3, h4⟩ := hv.out
 have hbk := (formP_blocks hform).2 _ (List.getElem_mem hi)
 have hp := blockP_ph hbk
 have ht := blockP_term hbk
 have hpr : ∀ x ∈ f.blks[i].preds, wi f.blks.length x = true := by
  simp only [blockP, Bool.and_eq_true, List.all_eq_true] at hbk
  exact hbk.2.2.1
 simp only [phisP, Bool.and_eq_true, List.all_eq_true] at hph
 have hpb := hph.2 _ (List.getElem_mem hi)
 simp only [phiB, phP, Bool.and_eq_true, List.all_eq_true, decide_eq_true_eq] at hpb
 rw [<- C.ev] at hargs hp ht
 rw [<- C.eb] at hpr
 exact uses1_any W (C.below hb (Nat.le_refl _)) fb ((hb.block _ (gl hf)).trans hf) (U.below hb) i (by have := C.eb; omega) ka _ kc la _ lc _ _ ma _ mc na _ nc _ _ _ _ rfl h1 rfl h2 rfl h4 hpr (fun x hx => ⟨hp.1 x hx, hargs x (hp.1 x hx), (hpb.1 x hx).2⟩) (fun x hx => ⟨hp.2 x hx, hargs x (hp.2 x hx)⟩) (fun h => ht (.inr (.inr h)))
theorem led_two {P : Program} {ops : Array Oper} {Q : Exit -> Act -> World -> Prop} {S : World -> Prop} {z i j : Nat} {oi oj : Oper} {k : Nat} {l : Array Bool} {a : Act} {w : World} (hi : ops[i]? = some oi) (hj : ops[j]? = some oj) (hr : Region.ready .any ops l = [i, j])
 (h1 : ∀ K' : Act -> World -> Prop, (∀ a' w', (i ≠ z -> S w') -> led P ops Q S z k (l.setIfInBounds i true) a' w' -> K' a' w') -> if Region.wanted oi (yielded ops a.tmps) = true then Oper.wp P oi a w K' Q else K' (a.put oi.dst undef) w)
 (h2 : ∀ K' : Act -> World -> Prop, (∀ a' w', (j ≠ z -> S w') -> led P ops Q S z k (l.setIfInBounds j true) a' w' -> K' a' w') -> if Region.wanted oj (yielded ops a.tmps) = true then Oper.wp P oj a w K' Q else K' (a.put oj.dst undef) w) : led P ops Q S z (k + 1) l a w := by
 refine ⟨fun h0 => absurd h0 (by rw [hr]; simp), fun m hm => ?_⟩
 rw [hr] at hm
 simp only [List.mem_cons, List.not_mem_nil, or_false] at hm
 rcases hm with rfl | rfl
 ·exact wpOp_step hi fun K' hK => h1 K' fun a' w' h3 h4 => hK a' w' ⟨h3, h4⟩
 ·exact wpOp_step hj fun K' hK => h2 K' fun a' w' h3 h4 => hK a' w' ⟨h3, h4⟩
theorem Pl.ne {w : World} {g n t L ub} {A : Array Value} {t' : TypeId} {fz : Nat × Nat} (h : Pl w g n t L) (hx : w.heap[ub]? = some (.cells A t' fz)) (hne : t ≠ t') : g ≠ ub := by
 rintro rfl
 have := h.row
 rw [hx] at this
 simp only [Option.some.injEq, Obj.cells.injEq] at this
 exact hne this.2.1.symm
theorem uses_end {w W : World} {A : Obj} {ub gpl grg vn bn : Nat} {P R : List (Int × Int)} (AX : Af1 w A W) (hub : w.heap.size + 1 <= ub) (hp : Pl W gpl vn 134 P) (hr : Pl W grg bn 160 R) {u0 u1 : Value} (hx : W.heap[ub]? = some (.cells #[u0, u1] 131 (0, 0))) (v0 v1 : Value) :
 Af1 w A ((W.setCell ⟨ub, 0, none⟩ v0).setCell ⟨ub, 1, none⟩ v1) /\ Pl ((W.setCell ⟨ub, 0, none⟩ v0).setCell ⟨ub, 1, none⟩ v1) gpl vn 134 P /\ Pl ((W.setCell ⟨ub, 0, none⟩ v0).setCell ⟨ub, 1, none⟩ v1) grg bn 160 R /\ ((W.setCell ⟨ub, 0, none⟩ v0).setCell ⟨ub, 1, none⟩ v1).heap[ub]? = some (.cells #[v0, v1] 131 (0, 0)) := by
 have n1 := hp.ne hx (by decide)
 have n2 := hr.ne hx (by decide)
 refine ⟨⟨(AX.b.setCell (by show w.heap.size + 1 <= ub; exact hub) _).setCell (by show w.heap.size + 1 <= ub; exact hub) _⟩, ⟨(heap_set_other n1).trans ((heap_set_other n1).trans hp.row), hp.len⟩, ⟨(heap_set_other n2).trans ((heap_set_other n2).trans hr.row), hr.len⟩, ?_⟩
 have h1 := heap_set_at (i := 0) (v := v0) hx
 have h2 := heap_set_at (i := 1) (v := v1) h1
 simpa using h2
set_option maxRecDepth 100000 in
set_option maxHeartbeats 8000000 in
theorem usesFit_any (w : World) {s : ByteArray} {pa : Option Addr} {pn pc : Nat} {r : Int} {va : Option Addr} {vn vc : Nat} {ba : Option Addr} {bn bc : Nat} {fa : Option Addr} {fn fc : Nat} {f : Fu} {FS : List Fu} (C : Ctx w s pa pn pc r va vn vc ba bn bc fa fn fc f FS) (hform : formP FS f = true) (hph : phisP f = true) (hre : reachedP f = true) (hbn : bn <= 1000000) :
 Calls Tryz.prog 58 #[.agg #[.string s, .slice pa pn pc, .int .i64 r, .slice va vn vc, .slice ba bn bc, .slice fa fn fc]] w fun e w' => e = .returned (.bool (usesP f)) /\ Below w.heap.size w w' := by
 have hg := ways_good hform
 have h0 := (formP_blocks hform).1
 have tk := tree_ok hg (reached_all hre h0 hg)
 have tl : (treeF f).length = bn := by rw [treeF, treeP_len hg, waysP_len, C.eb]
 have AB : Af1 w (.cells #[.string s, .slice pa pn pc, .int .i64 r, .slice va vn vc, .slice ba bn bc, .slice fa fn fc] 77) (w.alloc (.cells #[.string s, .slice pa pn pc, .int .i64 r, .slice va vn vc, .slice ba bn bc, .slice fa fn fc] 77)) := Af1.refl _ _
 have A0 : Af1 w (.cells #[.string s, .slice pa pn pc, .int .i64 r, .slice va vn vc, .slice ba bn bc, .slice fa fn fc] 77) (w.alloc (.cells #[.string s, .slice pa pn pc, .int .i64 r, .slice va vn vc, .slice ba bn bc, .slice fa fn fc] 77)).drew := AB.next (Below.refl _ _).drew
 have HPL : Hid (∀ W, Af1 w (.cells #[.string s, .slice pa pn pc, .int .i64 r, .slice va vn vc, .slice ba bn bc, .slice fa fn fc] 77) W -> Calls Tryz.prog 99 #[.agg #[.string s, .slice pa pn pc, .int .i64 r, .slice va vn vc, .slice ba bn bc, .slice fa fn fc]] W fun e w' => ∃ g, e = .returned (.slice (some ⟨g, 0, none⟩) vn vn) /\ Pl w' g vn 134 (placesP f) /\ Below W.heap.size W w') := fun W h => places_any W (C.below h.low (Nat.le_refl _)) hform hbn
 have HTO : Hid (∀ W, Af1 w (.cells #[.string s, .slice pa pn pc, .int .i64 r, .slice va vn vc, .slice ba bn bc, .slice fa fn fc] 77) W -> Calls Tryz.prog 84 #[.agg #[.string s, .slice pa pn pc, .int .i64 r, .slice va vn vc, .slice ba bn bc, .slice fa fn fc]] W fun e w' => ∃ go, e = .returned (.slice (some ⟨go, 0, none⟩) bn bn) /\ IRow w' (some ⟨go, 0, none⟩) bn (waysP f) /\ Below W.heap.size W w') := fun W h => to_any W (C.below h.low (Nat.le_refl _)) (by omega)
 have HTR : Hid (∀ W go, IRow W (some ⟨go, 0, none⟩) bn (waysP f) -> Calls Tryz.prog 101 #[.slice (some ⟨go, 0, none⟩) bn bn] W fun e w' => ∃ ta tc, e = .returned (.slice ta bn tc) /\ Ints w' ta tc (treeF f) /\ Below W.heap.size W w') := fun W go hI => by
  refine (tree_any W _ bn bn (waysP f) (by rw [waysP_len]; exact C.eb) hI hbn (fun l hl => by have := ways_two hform l hl; omega)).mono ?_
  rintro e w' ⟨v, rfl, hO, hb⟩
  obtain ⟨ta, tc, et, hT⟩ := hO.ints
  exact ⟨ta, tc, by rw [et]; show Ending.returned (.slice ta (treeF f).length tc) = _; rw [tl], hT, hb⟩
 have HRG : Hid (∀ W ta tc, Ints W ta tc (treeF f) -> Calls Tryz.prog 100 #[.slice ta bn tc] W fun e w' => ∃ g, e = .returned (.slice (some ⟨g, 0, none⟩) bn bn) /\ Pl w' g bn 160 (regP (treeF f)) /\ Below W.heap.size W w') := fun W ta tc hT => regions_any W ta bn tc (treeF f) tl.symm hT tk hbn
 have HEV : Hid (∀ W gpl grg ub, Af1 w (.cells #[.string s, .slice pa pn pc, .int .i64 r, .slice va vn vc, .slice ba bn bc, .slice fa fn fc] 77) W -> Pl W gpl vn 134 (placesP f) -> Pl W grg bn 160 (regP (treeF f)) -> W.heap[ub]? = some (.cells #[.slice (some ⟨gpl, 0, none⟩) vn vn, .slice (some ⟨grg, 0, none⟩) bn bn] 131 (0, 0)) -> Calls Tryz.prog 82 #[.slice ba bn bc, .func (.func 102) #[] #[.pointer (some ⟨w.heap.size, 0, none⟩), .pointer (some ⟨ub, 0, none⟩)]] W fun e w' => e = .returned (.bool (usesP f)) /\ Below W.heap.size W w') := by
  intro W gpl grg ub hA p1 p2 hu
  have hok := plK_ok h0 f.blks.length (Nat.le_refl _)
  have hvn : vn <= 9223372036854775807 := by have := C.hv.le; have := C.hv.mx; have := C.ev; omega
  refine everyU1_at W (C.below hA.low (Nat.le_refl _)) hform hph w.heap.size hA.one (P := placesP f) (R := regP (treeF f)) ⟨hu, p1.len.symm, p2.len.symm, p1.prs hvn, p2.prs (by omega), fun v hv => ?_⟩ _ rfl
  have := hok.ok v
  have e := C.eb
  unfold placesP
  omega
 generalize usesP f = UR at HEV
 clear C hform hph hre hg h0 tk tl AB
 have AX := A0
 clear A0
 go_enter Tryz.func58, Tryz.ntmps58
 go_wp2_with fail
 refine led_start (S := fun w' : World => Af1 w (.cells #[.string s, .slice pa pn pc, .int .i64 r, .slice va vn vc, .slice ba bn bc, .slice fa fn fc] 77) w') (z := 8) (by kernel_rfl) ?_
 refine led_t (i := 0) (v := ?v0) rfl (by kernel_rfl) (.inl ⟨by rfl, ?hy0⟩) AX ?rest0
 case hy0 =>
  rintro w' h1
  obtain ⟨g0, g1, g2, g3, g4, g5⟩ := fcells h1.one
  go_simp
  all_goals with_reducible rfl
 try simp only [Act.put, zi, zz, zs]
 refine led_t (i := 2) (v := ?v2) rfl (by kernel_rfl) (.inl ⟨by rfl, ?hy2⟩) AX ?rest2
 case hy2 =>
  rintro w' h1
  obtain ⟨g0, g1, g2, g3, g4, g5⟩ := fcells h1.one
  go_simp
  all_goals with_reducible rfl
 try simp only [Act.put, zi, zz, zs]
 obtain ⟨w0, hw0⟩ : ∃ u, u = (w.alloc (.cells #[.string s, .slice pa pn pc, .int .i64 r, .slice va vn vc, .slice ba bn bc, .slice fa fn fc] 77)).drew := ⟨_, rfl⟩
 rw [<- hw0] at AX ⊢
 clear hw0
 refine led_two (i := 1) (j := 7) rfl rfl (by kernel_rfl) ?_ ?_
 ·skip
  intro K1 hK1
  rw [if_pos (by rfl)]
  go_simp
  refine (HPL.out _ AX).mono ?_
  rintro e w1 ⟨gpl, rfl, hp, hb1⟩
  replace AX := AX.next hb1
  refine hK1 _ _ (fun _ => AX) ?_
  clear hK1 hb1
  try simp only [Act.put, zi, zz, zs]
  refine led_two (i := 3) (j := 7) rfl rfl (by kernel_rfl) ?_ ?_
  ·skip
   intro K2 hK2
   rw [if_pos (by rfl)]
   go_simp
   refine (HTO.out _ AX).mono ?_
   rintro e w2 ⟨go, rfl, hi, hb2⟩
   replace hp := hp.keep hb2
   replace AX := AX.next hb2
   refine hK2 _ _ (fun _ => AX) ?_
   clear hK2 hb2
   try simp only [Act.put, zi, zz, zs]
   refine led_two (i := 4) (j := 7) rfl rfl (by kernel_rfl) ?_ ?_
   ·skip
    intro K3 hK3
    rw [if_pos (by rfl)]
    go_simp
    refine (HTR.out _ _ hi).mono ?_
    rintro e w3 ⟨ta, tc, rfl, ht, hb3⟩
    clear hi
    replace hp := hp.keep hb3
    replace AX := AX.next hb3
    refine hK3 _ _ (fun _ => AX) ?_
    clear hK3 hb3
    try simp only [Act.put, zi, zz, zs]
    refine led_two (i := 5) (j := 7) rfl rfl (by kernel_rfl) ?_ ?_
    ·skip
     intro K4 hK4
     rw [if_pos (by rfl)]
     go_simp
     refine (HRG.out _ _ _ ht).mono ?_
     rintro e w4 ⟨grg, rfl, hr, hb4⟩
     clear ht
     replace hp := hp.keep hb4
     replace AX := AX.next hb4
     refine hK4 _ _ (fun _ => AX) ?_
     clear hK4 hb4
     try simp only [Act.put, zi, zz, zs]
     refine led_n 6 AX ?_
     refine led_one (i := 7) rfl (by kernel_rfl) ?_
     intro K6 hK6
     rw [if_pos (by rfl)]
     go_simp
     have hub := AX.size
     have hx := heap_alloc_new w4 (.cells #[.slice none 0 0, .slice none 0 0] 131)
     have hb6 := below_new w4 (.cells #[.slice none 0 0, .slice none 0 0] 131)
     replace hp := hp.keep hb6
     replace hr := hr.keep hb6
     replace AX := AX.next hb6
     refine hK6 _ _ (fun _ => AX) ?_
     clear hK6 hb6
     try simp only [Act.put, zi, zz, zs]
     obtain ⟨w6, hw6⟩ : ∃ u, u = w4.alloc (.cells #[.slice none 0 0, .slice none 0 0] 131) := ⟨_, rfl⟩
     rw [<- hw6] at AX hx hp hr ⊢
     clear hw6
     obtain ⟨AE, pE, rE, xE⟩ := uses_end AX hub hp hr hx (.slice (some ⟨gpl, 0, none⟩) vn vn) (.slice (some ⟨grg, 0, none⟩) bn bn)
     have HEE := show Hid _ from HEV.out _ gpl grg _ AE pE rE xE
     have HAE := show Hid _ from AE
     obtain ⟨g0, g1, g2, g3, g4, g5⟩ := fcells AE.one
     have x0 := cell_arr (i := 0) hx rfl
     have x1 := cell_arr (i := 1) hx rfl
     have z0 : World.frozen? _ ⟨_, 0, none⟩ = false := fz_of hx
     have z1 : World.frozen? _ ⟨_, 1, none⟩ = false := fz_of hx
     refine led_one (i := 8) rfl (by kernel_rfl) ?_
     intro K7 hK7
     rw [if_pos (by rfl)]
     go_simp
     refine hK7 _ _ (fun h => absurd rfl h) ?_
     clear hK7 AX hp hr hx AE pE rE xE x0 x1 z0 z1
     refine led_done (by kernel_rfl) ?_
     go_wp2_with (go_at_call 82; refine Calls.mono HEE.out ?_; rintro e wz ⟨rfl, hbz⟩)
     go_ret
     exact ⟨rfl, (HAE.out.next hbz).low⟩
    ·skip
     intro K8 hK8
     rw [if_pos (by rfl)]
     go_simp
     have hub := AX.size
     have hx := heap_alloc_new w3 (.cells #[.slice none 0 0, .slice none 0 0] 131)
     have hb8 := below_new w3 (.cells #[.slice none 0 0, .slice none 0 0] 131)
     replace hp := hp.keep hb8
     replace ht := ht.below hb8 (Nat.le_refl _)
     replace AX := AX.next hb8
     refine hK8 _ _ (fun _ => AX) ?_
     clear hK8 hb8
     try simp only [Act.put, zi, zz, zs]
     obtain ⟨w8, hw8⟩ : ∃ u, u = w3.alloc (.cells #[.slice none 0 0, .slice none 0 0] 131) := ⟨_, rfl⟩
     rw [<- hw8] at AX hx hp ht ⊢
     clear hw8
     refine led_one (i := 5) rfl (by kernel_rfl) ?_
     intro K9 hK9
     rw [if_pos (by rfl)]
     go_simp
     refine (HRG.out _ _ _ ht).mono ?_
     rintro e w9 ⟨grg, rfl, hr, hb9⟩
     clear ht
     replace hp := hp.keep hb9
     replace hx := (hb9.block _ (gl hx)).trans hx
     replace AX := AX.next hb9
     refine hK9 _ _ (fun _ => AX) ?_
     clear hK9 hb9
     try simp only [Act.put, zi, zz, zs]
     refine led_n 6 AX ?_
     obtain ⟨AE, pE, rE, xE⟩ := uses_end AX hub hp hr hx (.slice (some ⟨gpl, 0, none⟩) vn vn) (.slice (some ⟨grg, 0, none⟩) bn bn)
     have HEE := show Hid _ from HEV.out _ gpl grg _ AE pE rE xE
     have HAE := show Hid _ from AE
     obtain ⟨g0, g1, g2, g3, g4, g5⟩ := fcells AE.one
     have x0 := cell_arr (i := 0) hx rfl
     have x1 := cell_arr (i := 1) hx rfl
     have z0 : World.frozen? _ ⟨_, 0, none⟩ = false := fz_of hx
     have z1 : World.frozen? _ ⟨_, 1, none⟩ = false := fz_of hx
     refine led_one (i := 8) rfl (by kernel_rfl) ?_
     intro K11 hK11
     rw [if_pos (by rfl)]
     go_simp
     refine hK11 _ _ (fun h => absurd rfl h) ?_
     clear hK11 AX hp hr hx AE pE rE xE x0 x1 z0 z1
     refine led_done (by kernel_rfl) ?_
     go_wp2_with (go_at_call 82; refine Calls.mono HEE.out ?_; rintro e wz ⟨rfl, hbz⟩)
     go_ret
     exact ⟨rfl, (HAE.out.next hbz).low⟩
   ·skip
    intro K12 hK12
    rw [if_pos (by rfl)]
    go_simp
    have hub := AX.size
    have hx := heap_alloc_new w2 (.cells #[.slice none 0 0, .slice none 0 0] 131)
    have hb12 := below_new w2 (.cells #[.slice none 0 0, .slice none 0 0] 131)
    replace hp := hp.keep hb12
    replace hi := hi.below hb12 (Nat.le_refl _)
    replace AX := AX.next hb12
    refine hK12 _ _ (fun _ => AX) ?_
    clear hK12 hb12
    try simp only [Act.put, zi, zz, zs]
    obtain ⟨w12, hw12⟩ : ∃ u, u = w2.alloc (.cells #[.slice none 0 0, .slice none 0 0] 131) := ⟨_, rfl⟩
    rw [<- hw12] at AX hx hp hi ⊢
    clear hw12
    refine led_one (i := 4) rfl (by kernel_rfl) ?_
    intro K13 hK13
    rw [if_pos (by rfl)]
    go_simp
    refine (HTR.out _ _ hi).mono ?_
    rintro e w13 ⟨ta, tc, rfl, ht, hb13⟩
    clear hi
    replace hp := hp.keep hb13
    replace hx := (hb13.block _ (gl hx)).trans hx
    replace AX := AX.next hb13
    refine hK13 _ _ (fun _ => AX) ?_
    clear hK13 hb13
    try simp only [Act.put, zi, zz, zs]
    refine led_one (i := 5) rfl (by kernel_rfl) ?_
    intro K14 hK14
    rw [if_pos (by rfl)]
    go_simp
    refine (HRG.out _ _ _ ht).mono ?_
    rintro e w14 ⟨grg, rfl, hr, hb14⟩
    clear ht
    replace hp := hp.keep hb14
    replace hx := (hb14.block _ (gl hx)).trans hx
    replace AX := AX.next hb14
    refine hK14 _ _ (fun _ => AX) ?_
    clear hK14 hb14
    try simp only [Act.put, zi, zz, zs]
    refine led_n 6 AX ?_
    obtain ⟨AE, pE, rE, xE⟩ := uses_end AX hub hp hr hx (.slice (some ⟨gpl, 0, none⟩) vn vn) (.slice (some ⟨grg, 0, none⟩) bn bn)
    have HEE := show Hid _ from HEV.out _ gpl grg _ AE pE rE xE
    have HAE := show Hid _ from AE
    obtain ⟨g0, g1, g2, g3, g4, g5⟩ := fcells AE.one
    have x0 := cell_arr (i := 0) hx rfl
    have x1 := cell_arr (i := 1) hx rfl
    have z0 : World.frozen? _ ⟨_, 0, none⟩ = false := fz_of hx
    have z1 : World.frozen? _ ⟨_, 1, none⟩ = false := fz_of hx
    refine led_one (i := 8) rfl (by kernel_rfl) ?_
    intro K16 hK16
    rw [if_pos (by rfl)]
    go_simp
    refine hK16 _ _ (fun h => absurd rfl h) ?_
    clear hK16 AX hp hr hx AE pE rE xE x0 x1 z0 z1
    refine led_done (by kernel_rfl) ?_
    go_wp2_with (go_at_call 82; refine Calls.mono HEE.out ?_; rintro e wz ⟨rfl, hbz⟩)
    go_ret
    exact ⟨rfl, (HAE.out.next hbz).low⟩
  ·skip
   intro K17 hK17
   rw [if_pos (by rfl)]
   go_simp
   have hub := AX.size
   have hx := heap_alloc_new w1 (.cells #[.slice none 0 0, .slice none 0 0] 131)
   have hb17 := below_new w1 (.cells #[.slice none 0 0, .slice none 0 0] 131)
   replace hp := hp.keep hb17
   replace AX := AX.next hb17
   refine hK17 _ _ (fun _ => AX) ?_
   clear hK17 hb17
   try simp only [Act.put, zi, zz, zs]
   obtain ⟨w17, hw17⟩ : ∃ u, u = w1.alloc (.cells #[.slice none 0 0, .slice none 0 0] 131) := ⟨_, rfl⟩
   rw [<- hw17] at AX hx hp ⊢
   clear hw17
   refine led_one (i := 3) rfl (by kernel_rfl) ?_
   intro K18 hK18
   rw [if_pos (by rfl)]
   go_simp
   refine (HTO.out _ AX).mono ?_
   rintro e w18 ⟨go, rfl, hi, hb18⟩
   replace hp := hp.keep hb18
   replace hx := (hb18.block _ (gl hx)).trans hx
   replace AX := AX.next hb18
   refine hK18 _ _ (fun _ => AX) ?_
   clear hK18 hb18
   try simp only [Act.put, zi, zz, zs]
   refine led_one (i := 4) rfl (by kernel_rfl) ?_
   intro K19 hK19
   rw [if_pos (by rfl)]
   go_simp
   refine (HTR.out _ _ hi).mono ?_
   rintro e w19 ⟨ta, tc, rfl, ht, hb19⟩
   clear hi
   replace hp := hp.keep hb19
   replace hx := (hb19.block _ (gl hx)).trans hx
   replace AX := AX.next hb19
   refine hK19 _ _ (fun _ => AX) ?_
   clear hK19 hb19
   try simp only [Act.put, zi, zz, zs]
   refine led_one (i := 5) rfl (by kernel_rfl) ?_
   intro K20 hK20
   rw [if_pos (by rfl)]
   go_simp
   refine (HRG.out _ _ _ ht).mono ?_
   rintro e w20 ⟨grg, rfl, hr, hb20⟩
   clear ht
   replace hp := hp.keep hb20
   replace hx := (hb20.block _ (gl hx)).trans hx
   replace AX := AX.next hb20
   refine hK20 _ _ (fun _ => AX) ?_
   clear hK20 hb20
   try simp only [Act.put, zi, zz, zs]
   refine led_n 6 AX ?_
   obtain ⟨AE, pE, rE, xE⟩ := uses_end AX hub hp hr hx (.slice (some ⟨gpl, 0, none⟩) vn vn) (.slice (some ⟨grg, 0, none⟩) bn bn)
   have HEE := show Hid _ from HEV.out _ gpl grg _ AE pE rE xE
   have HAE := show Hid _ from AE
   obtain ⟨g0, g1, g2, g3, g4, g5⟩ := fcells AE.one
   have x0 := cell_arr (i := 0) hx rfl
   have x1 := cell_arr (i := 1) hx rfl
   have z0 : World.frozen? _ ⟨_, 0, none⟩ = false := fz_of hx
   have z1 : World.frozen? _ ⟨_, 1, none⟩ = false := fz_of hx
   refine led_one (i := 8) rfl (by kernel_rfl) ?_
   intro K22 hK22
   rw [if_pos (by rfl)]
   go_simp
   refine hK22 _ _ (fun h => absurd rfl h) ?_
   clear hK22 AX hp hr hx AE pE rE xE x0 x1 z0 z1
   refine led_done (by kernel_rfl) ?_
   go_wp2_with (go_at_call 82; refine Calls.mono HEE.out ?_; rintro e wz ⟨rfl, hbz⟩)
   go_ret
   exact ⟨rfl, (HAE.out.next hbz).low⟩
 ·skip
  intro K23 hK23
  rw [if_pos (by rfl)]
  go_simp
  have hub := AX.size
  have hx := heap_alloc_new w0 (.cells #[.slice none 0 0, .slice none 0 0] 131)
  have hb23 := below_new w0 (.cells #[.slice none 0 0, .slice none 0 0] 131)
  replace AX := AX.next hb23
  refine hK23 _ _ (fun _ => AX) ?_
  clear hK23 hb23
  try simp only [Act.put, zi, zz, zs]
  obtain ⟨w23, hw23⟩ : ∃ u, u = w0.alloc (.cells #[.slice none 0 0, .slice none 0 0] 131) := ⟨_, rfl⟩
  rw [<- hw23] at AX hx ⊢
  clear hw23
  refine led_one (i := 1) rfl (by kernel_rfl) ?_
  intro K24 hK24
  rw [if_pos (by rfl)]
  go_simp
  refine (HPL.out _ AX).mono ?_
  rintro e w24 ⟨gpl, rfl, hp, hb24⟩
  replace hx := (hb24.block _ (gl hx)).trans hx
  replace AX := AX.next hb24
  refine hK24 _ _ (fun _ => AX) ?_
  clear hK24 hb24
  try simp only [Act.put, zi, zz, zs]
  refine led_one (i := 3) rfl (by kernel_rfl) ?_
  intro K25 hK25
  rw [if_pos (by rfl)]
  go_simp
  refine (HTO.out _ AX).mono ?_
  rintro e w25 ⟨go, rfl, hi, hb25⟩
  replace hp := hp.keep hb25
  replace hx := (hb25.block _ (gl hx)).trans hx
  replace AX := AX.next hb25
  refine hK25 _ _ (fun _ => AX) ?_
  clear hK25 hb25
  try simp only [Act.put, zi, zz, zs]
  refine led_one (i := 4) rfl (by kernel_rfl) ?_
  intro K26 hK26
  rw [if_pos (by rfl)]
  go_simp
  refine (HTR.out _ _ hi).mono ?_
  rintro e w26 ⟨ta, tc, rfl, ht, hb26⟩
  clear hi
  replace hp := hp.keep hb26
  replace hx := (hb26.block _ (gl hx)).trans hx
  replace AX := AX.next hb26
  refine hK26 _ _ (fun _ => AX) ?_
  clear hK26 hb26
  try simp only [Act.put, zi, zz, zs]
  refine led_one (i := 5) rfl (by kernel_rfl) ?_
  intro K27 hK27
  rw [if_pos (by rfl)]
  go_simp
  refine (HRG.out _ _ _ ht).mono ?_
  rintro e w27 ⟨grg, rfl, hr, hb27⟩
  clear ht
  replace hp := hp.keep hb27
  replace hx := (hb27.block _ (gl hx)).trans hx
  replace AX := AX.next hb27
  refine hK27 _ _ (fun _ => AX) ?_
  clear hK27 hb27
  try simp only [Act.put, zi, zz, zs]
  refine led_n 6 AX ?_
  obtain ⟨AE, pE, rE, xE⟩ := uses_end AX hub hp hr hx (.slice (some ⟨gpl, 0, none⟩) vn vn) (.slice (some ⟨grg, 0, none⟩) bn bn)
  have HEE := show Hid _ from HEV.out _ gpl grg _ AE pE rE xE
  have HAE := show Hid _ from AE
  obtain ⟨g0, g1, g2, g3, g4, g5⟩ := fcells AE.one
  have x0 := cell_arr (i := 0) hx rfl
  have x1 := cell_arr (i := 1) hx rfl
  have z0 : World.frozen? _ ⟨_, 0, none⟩ = false := fz_of hx
  have z1 : World.frozen? _ ⟨_, 1, none⟩ = false := fz_of hx
  refine led_one (i := 8) rfl (by kernel_rfl) ?_
  intro K29 hK29
  rw [if_pos (by rfl)]
  go_simp
  refine hK29 _ _ (fun h => absurd rfl h) ?_
  clear hK29 AX hp hr hx AE pE rE xE x0 x1 z0 z1
  refine led_done (by kernel_rfl) ?_
  go_wp2_with (go_at_call 82; refine Calls.mono HEE.out ?_; rintro e wz ⟨rfl, hbz⟩)
  go_ret
  exact ⟨rfl, (HAE.out.next hbz).low⟩
def faultP (FS : List Fu) (f : Fu) : Int := if predsP f = false then 91 else if reachedP f = false then 92 else if phisP f = false then 93 else if onceP f = false then 94 else if typesP FS f = false then 95 else if usesP f = false then 96 else 0
set_option maxRecDepth 100000 in
set_option maxHeartbeats 4000000 in
theorem fault_any (w : World) {s : ByteArray} {pa : Option Addr} {pn pc : Nat} {r : Int} {va : Option Addr} {vn vc : Nat} {ba : Option Addr} {bn bc : Nat} {fa : Option Addr} {fn fc : Nat} {f : Fu} {FS : List Fu} (C : Ctx w s pa pn pc r va vn vc ba bn bc fa fn fc f FS) (hfs : ∀ G ∈ FS, formP FS G = true) (hform : formP FS f = true) (hbn : bn <= 1000000) (hbulk : totK f f.blks.length <= 1000000000) :
 Calls Tryz.prog 22 #[.agg #[.string s, .slice pa pn pc, .int .i64 r, .slice va vn vc, .slice ba bn bc, .slice fa fn fc]] w fun e w' => e = .returned (.int .i64 (faultP FS f)) /\ Below w.heap.size w w' := by
 have A0 : Af1 w (.cells #[.string s, .slice pa pn pc, .int .i64 r, .slice va vn vc, .slice ba bn bc, .slice fa fn fc] 77) (w.alloc (.cells #[.string s, .slice pa pn pc, .int .i64 r, .slice va vn vc, .slice ba bn bc, .slice fa fn fc] 77)) := Af1.refl _ _
 have H0 : Hid (∀ W, Af1 w (.cells #[.string s, .slice pa pn pc, .int .i64 r, .slice va vn vc, .slice ba bn bc, .slice fa fn fc] 77) W -> ∀ T, predsP f = T -> Calls Tryz.prog 53 #[.agg #[.string s, .slice pa pn pc, .int .i64 r, .slice va vn vc, .slice ba bn bc, .slice fa fn fc]] W fun e w' => e = .returned (.bool T) /\ Below W.heap.size W w') := fun W h T hT => by
  subst hT
  exact predsFit_any W (C.below h.low (Nat.le_refl _)) hform hbn
 have H1 : Hid (∀ W, Af1 w (.cells #[.string s, .slice pa pn pc, .int .i64 r, .slice va vn vc, .slice ba bn bc, .slice fa fn fc] 77) W -> ∀ T, reachedP f = T -> Calls Tryz.prog 54 #[.agg #[.string s, .slice pa pn pc, .int .i64 r, .slice va vn vc, .slice ba bn bc, .slice fa fn fc]] W fun e w' => e = .returned (.bool T) /\ Below W.heap.size W w') := fun W h T hT => by
  subst hT
  exact allReached_any W (C.below h.low (Nat.le_refl _)) (by omega)
 have H2 : Hid (∀ W, Af1 w (.cells #[.string s, .slice pa pn pc, .int .i64 r, .slice va vn vc, .slice ba bn bc, .slice fa fn fc] 77) W -> ∀ T, phisP f = T -> Calls Tryz.prog 55 #[.agg #[.string s, .slice pa pn pc, .int .i64 r, .slice va vn vc, .slice ba bn bc, .slice fa fn fc]] W fun e w' => e = .returned (.bool T) /\ Below W.heap.size W w') := fun W h T hT => by
  subst hT
  exact phisFit_any W (C.below h.low (Nat.le_refl _)) hform
 have H3 : Hid (∀ W, Af1 w (.cells #[.string s, .slice pa pn pc, .int .i64 r, .slice va vn vc, .slice ba bn bc, .slice fa fn fc] 77) W -> ∀ T, onceP f = T -> Calls Tryz.prog 56 #[.agg #[.string s, .slice pa pn pc, .int .i64 r, .slice va vn vc, .slice ba bn bc, .slice fa fn fc]] W fun e w' => e = .returned (.bool T) /\ Below W.heap.size W w') := fun W h T hT => by
  subst hT
  exact eachOnce_any W (C.below h.low (Nat.le_refl _)) hform hbulk
 have H4 : Hid (∀ W, Af1 w (.cells #[.string s, .slice pa pn pc, .int .i64 r, .slice va vn vc, .slice ba bn bc, .slice fa fn fc] 77) W -> ∀ T, typesP FS f = T -> Calls Tryz.prog 57 #[.agg #[.string s, .slice pa pn pc, .int .i64 r, .slice va vn vc, .slice ba bn bc, .slice fa fn fc]] W fun e w' => e = .returned (.bool T) /\ Below W.heap.size W w') := fun W h T hT => by
  subst hT
  exact typesFit_any W (C.below h.low (Nat.le_refl _)) hfs hform
 have H5 : Hid (∀ W, Af1 w (.cells #[.string s, .slice pa pn pc, .int .i64 r, .slice va vn vc, .slice ba bn bc, .slice fa fn fc] 77) W -> phisP f = true -> reachedP f = true -> ∀ T, usesP f = T -> Calls Tryz.prog 58 #[.agg #[.string s, .slice pa pn pc, .int .i64 r, .slice va vn vc, .slice ba bn bc, .slice fa fn fc]] W fun e w' => e = .returned (.bool T) /\ Below W.heap.size W w') := fun W h hph hre T hT => by
  subst hT
  exact usesFit_any W (C.below h.low (Nat.le_refl _)) hform hph hre hbn
 unfold faultP
 clear C hfs hform hbn hbulk
 cases q0 : predsP f with
 | false =>
   go_enter Tryz.func22, Tryz.ntmps22
   go_wp2_with (first
    | (go_at_call 53; refine (H0.out _ A0 _ q0).mono ?_; rintro e w0 ⟨rfl, hb0⟩; have A1 := A0.next hb0; obtain ⟨y0, y1, y2, y3, y4, y5⟩ := fcells A1.one))
   go_ret
   exact ⟨by simp, A1.low⟩
 | true =>
 cases q1 : reachedP f with
 | false =>
   go_enter Tryz.func22, Tryz.ntmps22
   go_wp2_with (first
    | (go_at_call 54; refine (H1.out _ A1 _ q1).mono ?_; rintro e w1 ⟨rfl, hb1⟩; have A2 := A1.next hb1; obtain ⟨y0, y1, y2, y3, y4, y5⟩ := fcells A2.one)
    | (go_at_call 53; refine (H0.out _ A0 _ q0).mono ?_; rintro e w0 ⟨rfl, hb0⟩; have A1 := A0.next hb0; obtain ⟨y0, y1, y2, y3, y4, y5⟩ := fcells A1.one))
   go_ret
   exact ⟨by simp, A2.low⟩
 | true =>
 cases q2 : phisP f with
 | false =>
   go_enter Tryz.func22, Tryz.ntmps22
   go_wp2_with (first
    | (go_at_call 55; refine (H2.out _ A2 _ q2).mono ?_; rintro e w2 ⟨rfl, hb2⟩; have A3 := A2.next hb2; obtain ⟨y0, y1, y2, y3, y4, y5⟩ := fcells A3.one)
    | (go_at_call 54; refine (H1.out _ A1 _ q1).mono ?_; rintro e w1 ⟨rfl, hb1⟩; have A2 := A1.next hb1; obtain ⟨y0, y1, y2, y3, y4, y5⟩ := fcells A2.one)
    | (go_at_call 53; refine (H0.out _ A0 _ q0).mono ?_; rintro e w0 ⟨rfl, hb0⟩; have A1 := A0.next hb0; obtain ⟨y0, y1, y2, y3, y4, y5⟩ := fcells A1.one))
   go_ret
   exact ⟨by simp, A3.low⟩
 | true =>
 cases q3 : onceP f with
 | false =>
   go_enter Tryz.func22, Tryz.ntmps22
   go_wp2_with (first
    | (go_at_call 56; refine (H3.out _ A3 _ q3).mono ?_; rintro e w3 ⟨rfl, hb3⟩; have A4 := A3.next hb3; obtain ⟨y0, y1, y2, y3, y4, y5⟩ := fcells A4.one)
    | (go_at_call 55; refine (H2.out _ A2 _ q2).mono ?_; rintro e w2 ⟨rfl, hb2⟩; have A3 := A2.next hb2; obtain ⟨y0, y1, y2, y3, y4, y5⟩ := fcells A3.one)
    | (go_at_call 54; refine (H1.out _ A1 _ q1).mono ?_; rintro e w1 ⟨rfl, hb1⟩; have A2 := A1.next hb1; obtain ⟨y0, y1, y2, y3, y4, y5⟩ := fcells A2.one)
    | (go_at_call 53; refine (H0.out _ A0 _ q0).mono ?_; rintro e w0 ⟨rfl, hb0⟩; have A1 := A0.next hb0; obtain ⟨y0, y1, y2, y3, y4, y5⟩ := fcells A1.one))
   go_ret
   exact ⟨by simp, A4.low⟩
 | true =>
 cases q4 : typesP FS f with
 | false =>
   go_enter Tryz.func22, Tryz.ntmps22
   go_wp2_with (first
    | (go_at_call 57; refine (H4.out _ A4 _ q4).mono ?_; rintro e w4 ⟨rfl, hb4⟩; have A5 := A4.next hb4; obtain ⟨y0, y1, y2, y3, y4, y5⟩ := fcells A5.one)
    | (go_at_call 56; refine (H3.out _ A3 _ q3).mono ?_; rintro e w3 ⟨rfl, hb3⟩; have A4 := A3.next hb3; obtain ⟨y0, y1, y2, y3, y4, y5⟩ := fcells A4.one)
    | (go_at_call 55; refine (H2.out _ A2 _ q2).mono ?_; rintro e w2 ⟨rfl, hb2⟩; have A3 := A2.next hb2; obtain ⟨y0, y1, y2, y3, y4, y5⟩ := fcells A3.one)
    | (go_at_call 54; refine (H1.out _ A1 _ q1).mono ?_; rintro e w1 ⟨rfl, hb1⟩; have A2 := A1.next hb1; obtain ⟨y0, y1, y2, y3, y4, y5⟩ := fcells A2.one)
    | (go_at_call 53; refine (H0.out _ A0 _ q0).mono ?_; rintro e w0 ⟨rfl, hb0⟩; have A1 := A0.next hb0; obtain ⟨y0, y1, y2, y3, y4, y5⟩ := fcells A1.one))
   go_ret
   exact ⟨by simp, A5.low⟩
 | true =>
 cases q5 : usesP f with
 | false =>
   go_enter Tryz.func22, Tryz.ntmps22
   go_wp2_with (first
    | (go_at_call 58; refine (H5.out _ A5 q2 q1 _ q5).mono ?_; rintro e w5 ⟨rfl, hb5⟩; have A6 := A5.next hb5; obtain ⟨y0, y1, y2, y3, y4, y5⟩ := fcells A6.one)
    | (go_at_call 57; refine (H4.out _ A4 _ q4).mono ?_; rintro e w4 ⟨rfl, hb4⟩; have A5 := A4.next hb4; obtain ⟨y0, y1, y2, y3, y4, y5⟩ := fcells A5.one)
    | (go_at_call 56; refine (H3.out _ A3 _ q3).mono ?_; rintro e w3 ⟨rfl, hb3⟩; have A4 := A3.next hb3; obtain ⟨y0, y1, y2, y3, y4, y5⟩ := fcells A4.one)
    | (go_at_call 55; refine (H2.out _ A2 _ q2).mono ?_; rintro e w2 ⟨rfl, hb2⟩; have A3 := A2.next hb2; obtain ⟨y0, y1, y2, y3, y4, y5⟩ := fcells A3.one)
    | (go_at_call 54; refine (H1.out _ A1 _ q1).mono ?_; rintro e w1 ⟨rfl, hb1⟩; have A2 := A1.next hb1; obtain ⟨y0, y1, y2, y3, y4, y5⟩ := fcells A2.one)
    | (go_at_call 53; refine (H0.out _ A0 _ q0).mono ?_; rintro e w0 ⟨rfl, hb0⟩; have A1 := A0.next hb0; obtain ⟨y0, y1, y2, y3, y4, y5⟩ := fcells A1.one))
   go_ret
   exact ⟨by simp, A6.low⟩
 | true =>
 go_enter Tryz.func22, Tryz.ntmps22
 go_wp2_with (first
  | (go_at_call 58; refine (H5.out _ A5 q2 q1 _ q5).mono ?_; rintro e w5 ⟨rfl, hb5⟩; have A6 := A5.next hb5; obtain ⟨y0, y1, y2, y3, y4, y5⟩ := fcells A6.one)
  | (go_at_call 57; refine (H4.out _ A4 _ q4).mono ?_; rintro e w4 ⟨rfl, hb4⟩; have A5 := A4.next hb4; obtain ⟨y0, y1, y2, y3, y4, y5⟩ := fcells A5.one)
  | (go_at_call 56; refine (H3.out _ A3 _ q3).mono ?_; rintro e w3 ⟨rfl, hb3⟩; have A4 := A3.next hb3; obtain ⟨y0, y1, y2, y3, y4, y5⟩ := fcells A4.one)
  | (go_at_call 55; refine (H2.out _ A2 _ q2).mono ?_; rintro e w2 ⟨rfl, hb2⟩; have A3 := A2.next hb2; obtain ⟨y0, y1, y2, y3, y4, y5⟩ := fcells A3.one)
  | (go_at_call 54; refine (H1.out _ A1 _ q1).mono ?_; rintro e w1 ⟨rfl, hb1⟩; have A2 := A1.next hb1; obtain ⟨y0, y1, y2, y3, y4, y5⟩ := fcells A2.one)
  | (go_at_call 53; refine (H0.out _ A0 _ q0).mono ?_; rintro e w0 ⟨rfl, hb0⟩; have A1 := A0.next hb0; obtain ⟨y0, y1, y2, y3, y4, y5⟩ := fcells A1.one))
 go_ret
 exact ⟨by simp, A6.low⟩
end Go.Proofs.YtfbkopjncmkbiabGreatDoor
