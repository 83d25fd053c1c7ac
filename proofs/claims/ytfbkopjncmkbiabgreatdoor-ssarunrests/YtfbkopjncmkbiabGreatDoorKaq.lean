import Derived.Laws.AppendOwnNone
import Derived.Laws.MakeOwn
import Derived.Test.YtfbkopjncmkbiabGreatDoorKap
set_option linter.unusedVariables false
set_option linter.unusedSimpArgs false
namespace Go.Proofs.YtfbkopjncmkbiabGreatDoor
open Go.ChangeShapes Go.WideShapes Go.ChangeAt Go.RowKit Go.Maps
structure PF (w wr : World) (A : Array Value) (B gt n : Nat) (vs : List Value) (S : List (List Int)) (Ls : List (List Int)) : Prop where
 fo : wr.heap[B]? = some (.cells A 77 (0, 0))
 fa : FA wr B (B + 1) n vs S
 box : wr.heap[B + 2]? = some (.cells #[.slice (some ⟨B + 1, 0, none⟩) n n] 116 (0, 0))
 tr : TR w wr gt n n Ls
 low : Below B w wr
 gt : B + 2 < gt
theorem PF.put {w wr w6 : World} {A B gt n vs S Ls} (h : PF w wr A B gt n vs S Ls) {p : Nat} (hp : p < n) {v6 : Value} {x : Int} (h6 : OwnI w6 B v6 ((S.getD p []).length + 1) (S.getD p [] ++ [x])) (g6 : GI B wr w6 (vs.getD p vn0) v6) :
 PF w (w6.setCell ⟨B + 1, p, none⟩ v6) A B gt n (vs.set p v6) (S.set p (S.getD p [] ++ [x])) Ls /\ w6.heap[B + 1]? = some (.cells vs.toArray 23 (0, 0)) /\ w6.heap[B + 2]? = some (.cells #[.slice (some ⟨B + 1, 0, none⟩) n n] 116 (0, 0)) := by
 have o1 := (g6.blk (B + 1) (gl h.fa.out) (h.fa.go_ne hp)).trans h.fa.out
 have o2 := (g6.blk (B + 2) (gl h.box) (own_not (h.fa.own p hp).out h.box (by decide))).trans h.box
 have o0 := (g6.blk B (gl h.fo) (own_not (h.fa.own p hp).out h.fo (by decide))).trans h.fo
 obtain ⟨vt, t1, t2, t3⟩ := h.tr.out
 have o3 := (g6.blk gt (gl t1) (own_not (h.fa.own p hp).out t1 (by decide))).trans t1
 have hgt := h.gt
 refine ⟨⟨(heap_set_other (by omega)).trans o0, h.fa.app hp h6 g6, (heap_set_other (by omega)).trans o2, ⟨vt, (heap_set_other (by omega)).trans o3, t2, t3⟩, (h.low.trans g6.bel).setCell (by show B <= B + 1; omega) _, hgt⟩, o1, o2⟩
theorem PF.alloc {w wr : World} {A B gt n vs S Ls} (h : PF w wr A B gt n vs S Ls) (hB : B <= wr.heap.size) (X : Obj) : PF w (wr.alloc X) A B gt n vs S Ls :=
 ⟨by rw [heap_alloc_old _ _ (gl h.fo)]; exact h.fo, h.fa.move ((Below.refl _ _).alloc (Nat.le_refl _) _), by rw [heap_alloc_old _ _ (gl h.box)]; exact h.box, h.tr.alloc X, h.low.alloc hB _, h.gt⟩
theorem PF.drew {w wr : World} {A B gt n vs S Ls} (h : PF w wr A B gt n vs S Ls) : PF w wr.drew A B gt n vs S Ls := by
 have hb : Below wr.heap.size wr wr.drew := (Below.refl _ _).drew
 obtain ⟨vt, t1, t2, t3⟩ := h.tr.out
 exact ⟨(hb.block _ (gl h.fo)).trans h.fo, h.fa.move hb, (hb.block _ (gl h.box)).trans h.box, ⟨vt, (hb.block _ (gl t1)).trans t1, t2, t3⟩, h.low.trans (hb.mono (by have := (gl h.box); omega)), h.gt⟩
theorem opens_pr : Opens 85 := Opens.of Tryz.func85 (by kernel_rfl) rfl
theorem preds1_any (w : World) (gb ao n : Nat) (S : List (List Int)) (hS : IRow w (some ⟨ao, 0, none⟩) n S) (hn : n = S.length) (hbx : w.heap[gb]? = some (.cells #[.slice (some ⟨ao, 0, none⟩) n n] 116 (0, 0))) (i : Nat) (hi : i < n) (ka : Option Addr) (kl kc : Nat) (la : Option Addr) (ll lc : Nat) (kd vl : Int) (ma : Option Addr) (ml mc : Nat) (na : Option Addr) (nl nc : Nat) (N : List Int) (e4 : nl = N.length) (h4 : Ints w na nc N) :
 Calls Tryz.prog 85 #[.int .i64 i, .agg #[.slice ka kl kc, .slice la ll lc, .int .i64 kd, .int .i64 vl, .slice ma ml mc, .slice na nl nc], .pointer (some ⟨gb, 0, none⟩)] w fun e w' => e = .returned (.bool (decide (N = S.getD i []))) /\ Below w.heap.size w w' := by
 have hlg := (gl hbx)
 have A0 : Af1 w (.cells #[.slice ka kl kc, .slice la ll lc, .int .i64 kd, .int .i64 vl, .slice ma ml mc, .slice na nl nc] 30) (w.alloc (.cells #[.slice ka kl kc, .slice la ll lc, .int .i64 kd, .int .i64 vl, .slice ma ml mc, .slice na nl nc] 30)) := Af1.refl _ _
 have c0 : (w.alloc (.cells #[.slice ka kl kc, .slice la ll lc, .int .i64 kd, .int .i64 vl, .slice ma ml mc, .slice na nl nc] 30)).cell? ⟨gb, 0, none⟩ = some (.slice (some ⟨ao, 0, none⟩) n n) := cell_arr ((A0.low.block _ hlg).trans hbx) rfl
 have hS' := hS.below A0.low (Nat.le_refl _)
 obtain ⟨b1, o1, xa, xc, e1, k1, hX⟩ := hS'.at (show i < S.length by omega)
 cases e1
 rw [Nat.zero_add] at k1
 have eS : S.getD i [] = S[i] := by simp [show i < S.length by omega]
 rw [eS]
 have hnx : n <= 9223372036854775807 := hS.mx
 have HE : Hid (∀ q, Calls Tryz.prog 86 #[.slice na nl nc, .slice xa S[i].length xc] ((w.alloc (.cells #[.slice ka kl kc, .slice la ll lc, .int .i64 kd, .int .i64 vl, .slice ma ml mc, .slice na nl nc] 30)).drewN q) fun e w' => e = .returned (.bool (decide (N = S[i]))) /\ ∃ m, w' = ((w.alloc (.cells #[.slice ka kl kc, .slice la ll lc, .int .i64 kd, .int .i64 vl, .slice ma ml mc, .slice na nl nc] 30)).drewN q).drewN m) := fun q => equal_any _ _ _ _ _ _ _ N S[i] e4 rfl ((h4.below A0.low (Nat.le_refl _)).below (below_drawn (Below.refl _ _) q) (Nat.le_refl _)) (hX.below (below_drawn (Below.refl _ _) q) (Nat.le_refl _))
 generalize decide (N = S[i]) = R at HE
 generalize S[i].length = xl at HE k1
 clear hS hS' h4 hX e4 hn eS hbx
 go_enter Tryz.func85, Tryz.ntmps85
 go_wp2_with fail
 go_quiet (first | (go_at_call 86; exact Calls.quiet_of (HE.out _)))
 go_wp2_with fail
 go_ret
 exact ⟨rfl, below_drawn A0.low _⟩
theorem below_new (w : World) (X : Obj) : Below w.heap.size w (w.alloc X) := (Below.refl _ _).alloc (Nat.le_refl _) _
theorem everyPr_at (w : World) {s : ByteArray} {pa : Option Addr} {pn pc : Nat} {r : Int} {va : Option Addr} {vn vc : Nat} {ba : Option Addr} {bn bc : Nat} {fa : Option Addr} {fn fc : Nat} {f : Fu} {FS : List Fu} (C : Ctx w s pa pn pc r va vn vc ba bn bc fa fn fc f FS) (gb ao n : Nat) (hnb : n = bn) (S : List (List Int)) (hS : IRow w (some ⟨ao, 0, none⟩) n S) (hn : n = S.length) (hbx : w.heap[gb]? = some (.cells #[.slice (some ⟨ao, 0, none⟩) n n] 116 (0, 0))) (R : Bool) (hR : evr (fun b k => decide (k.preds = S.getD b [])) 0 f.blks = R) :
 Calls Tryz.prog 82 #[.slice ba bn bc, .func (.func 85) #[] #[.pointer (some ⟨gb, 0, none⟩)]] w fun e w' => e = .returned (.bool R) /\ Below w.heap.size w w' := by
 subst hR
 refine everyB_any w ba bc bn f.blks C.eb C.hb _ _ _ opens_pr _ (Asks.one fun W i x hi hb hv => ?_)
 obtain ⟨ka, kc, la, lc, ma, mc, na, nc, rfl, h1, h2, h3, h4⟩ := hv.out
 exact preds1_any W gb ao n S (hS.below hb (Nat.le_refl _)) hn ((hb.block _ (gl hbx)).trans hbx) i (by have := C.eb; omega) ka _ kc la _ lc _ _ ma _ mc na _ nc _ rfl h4
set_option maxRecDepth 100000 in
set_option maxHeartbeats 4000000 in
theorem predsFit_any (w : World) {s : ByteArray} {pa : Option Addr} {pn pc : Nat} {r : Int} {va : Option Addr} {vn vc : Nat} {ba : Option Addr} {bn bc : Nat} {fa : Option Addr} {fn fc : Nat} {f : Fu} {FS : List Fu} (C : Ctx w s pa pn pc r va vn vc ba bn bc fa fn fc f FS) (hform : formP FS f = true) (hbn : bn <= 1000000) :
 Calls Tryz.prog 53 #[.agg #[.string s, .slice pa pn pc, .int .i64 r, .slice va vn vc, .slice ba bn bc, .slice fa fn fc]] w fun e w' => e = .returned (.bool (predsP f)) /\ Below w.heap.size w w' := by
 have hmk := run_make_row' (P := Tryz.prog) 116 23 (.slice none 0 0) 24 Tryz.underlying116 infoSl rfl .i64 .i64 bn (by omega) (by omega)
 have h0 := (formP_blocks hform).1
 have hpos : 0 < bn := by have := C.eb; omega
 obtain ⟨n, hnn⟩ : ∃ n, n = bn := ⟨_, rfl⟩
 have hn1 : n <= 1000000 := by omega
 have hn2 : 0 < n := by omega
 obtain ⟨B1, hB1⟩ : ∃ B1, B1 = w.heap.size := ⟨_, rfl⟩
 obtain ⟨w2, hw2⟩ : ∃ w2, w2 = ((w.alloc (.cells #[.string s, .slice pa pn pc, .int .i64 r, .slice va vn vc, .slice ba bn bc, .slice fa fn fc] 77)).alloc (.cells (madeCells #[.slice none 0 0] bn) 23)).alloc (.cells #[.slice (some ⟨w.heap.size + 1, 0, none⟩) bn bn] 116) := ⟨_, rfl⟩
 have b2 : Af1 w (.cells #[.string s, .slice pa pn pc, .int .i64 r, .slice va vn vc, .slice ba bn bc, .slice fa fn fc] 77) w2 := by
  rw [hw2]
  exact ((Af1.refl w _).next (below_new _ _)).next (below_new _ _)
 have sz2 : w2.heap.size = B1 + 2 + 1 := by rw [hw2, hB1]; simp
 have f0 : FA w2 B1 (B1 + 1) n (List.replicate n vn0) (List.replicate n []) := by
  have := FA.start (w.alloc (.cells #[.string s, .slice pa pn pc, .int .i64 r, .slice va vn vc, .slice ba bn bc, .slice fa fn fc] 77)) B1 bn (by rw [hB1]; simp)
  rw [show (w.alloc (.cells #[.string s, .slice pa pn pc, .int .i64 r, .slice va vn vc, .slice ba bn bc, .slice fa fn fc] 77)).heap.size = B1 + 1 by rw [hB1]; simp] at this
  rw [hw2, hnn]
  exact this.move (below_new _ _)
 have x0 : w2.heap[B1 + 2]? = some (.cells #[.slice (some ⟨B1 + 1, 0, none⟩) n n] 116 (0, 0)) := by
  rw [hw2, hB1, hnn]
  have := heap_alloc_new ((w.alloc (.cells #[.string s, .slice pa pn pc, .int .i64 r, .slice va vn vc, .slice ba bn bc, .slice fa fn fc] 77)).alloc (.cells (madeCells #[.slice none 0 0] bn) 23)) (.cells #[.slice (some ⟨w.heap.size + 1, 0, none⟩) bn bn] 116)
  simpa using this
 have HC : Hid (∀ w', Below w.heap.size w w' -> Ctx w' s pa pn pc r va vn vc ba bn bc fa fn fc f FS) := fun w' h => C.below h (Nat.le_refl _)
 have HC0 : Hid _ := C
 have fc := fcells b2.one
 obtain ⟨fc0, fc1, fc2, fc3, fc4, fc5⟩ := fc
 have HF0 : Hid _ := f0
 have HX0 : Hid _ := x0
 have HB2 : Hid _ := b2
 have HSZ : Hid _ := sz2
 have HB1 : Hid (B1 = w.heap.size) := hB1
 have HNN : Hid (n = bn) := hnn
 have HEB : Hid (bn = f.blks.length) := C.eb
 have HWT : Hid (∀ l ∈ waysP f, l.length <= 2) := ways_two hform
 have HWI : Hid (∀ b ∈ f.blks, blockP f b = true) := (formP_blocks hform).2
 have HST : Hid (∀ w3 gt, Below w2.heap.size w2 w3 -> w2.heap.size <= gt -> TR w w3 gt bn bn (waysP f) -> PF w w3 #[.string s, .slice pa pn pc, .int .i64 r, .slice va vn vc, .slice ba bn bc, .slice fa fn fc] B1 gt n (List.replicate n vn0) (List.replicate n []) (waysP f)) := by
  intro w3 gt hb hg T
  refine ⟨?_, f0.move hb, (hb.block _ (by omega)).trans x0, by rw [hnn]; exact T, ?_, by omega⟩
  ·rw [hB1]; exact (hb.block _ (by omega)).trans b2.one
  ·rw [hB1]; exact b2.low.trans (hb.mono (by have := b2.size; omega))
 clear C f0 x0 b2 sz2 hform h0
 go_enter Tryz.func53, Tryz.ntmps53
 go_wp2_with (fail)
 rw [<- hw2]
 clear hw2 hmk
 go_wp2_with (go_at_call 84; refine (to_at _ w HB2.out.low HC0.out (by omega)).mono ?_; rintro e w3 ⟨gt, rfl, hI3, hb3, hgt, T3⟩; have HP0 := show Hid _ from HST.out w3 gt hb3 hgt T3)
 clear hI3 hb3 hgt T3 fc0 fc1 fc2 fc3 fc4 fc5 HST HF0 HX0 HSZ
 rw [<- hB1]
 clear hB1
 rw [<- hnn]
 clear hnn
 go_loopw [16] (fun v wr => ∃ (k : Nat) (vs : List Value), k <= n /\ v = .int .i64 k /\ Hid (PF w wr #[.string s, .slice pa pn pc, .int .i64 r, .slice va vn vc, .slice ba bn bc, .slice fa fn fc] B1 gt n vs (frN n (waysP f) k) (waysP f)) /\ Hid (∀ i, ((frN n (waysP f) k).getD i []).length <= k * 2)) (fun v _ => n - (intOf v).toNat)
 case atStart =>
  refine ⟨0, _, by omega, rfl, HP0, fun i => ?_⟩
  simp only [frN, List.getD, List.getElem?_replicate]
  split <;> simp
 case round =>
  clear HP0
  obtain ⟨k, vs, hk, rfl, HP, HL⟩ := hrel
  by_cases hlt : k < n
  ·have hk2 : k < f.blks.length := by have := HEB.out; have := HNN.out; omega
   obtain ⟨vt, t1, t2, t3⟩ := HP.out.tr.out
   obtain ⟨ra, rc, er, hIr⟩ := t3 k hlt
   have ew := waysP_at f k hk2
   obtain ⟨row, hrow⟩ : ∃ row, row = f.blks[k].ways := ⟨_, rfl⟩
   rw [ew, <- hrow] at er hIr
   have hvt : k < vt.length := by omega
   have kr : wr.cell? ⟨gt, k, none⟩ = some (.slice ra row.length rc) := cell_arr t1 (by rw [<- er]; simp [List.getD, hvt])
   have hgtl : gt < wr.heap.size := (gl t1)
   have hr2 : row.length <= 2 := HWT.out row (by rw [hrow]; exact List.mem_map.2 ⟨_, List.getElem_mem hk2, rfl⟩)
   have HRW : Hid (∀ y ∈ row, 0 <= y /\ y < (n : Int)) := by
    intro y hy
    have := (blockP_ways (HWI.out _ (List.getElem_mem hk2))).2 y (by rw [<- hrow]; exact hy)
    simp only [wi, decide_eq_true_eq] at this
    have := HEB.out; have := HNN.out; omega
   have HRO : Hid ((waysP f).getD k [] = row) := by rw [hrow]; exact ew
   have HIR : Hid (Ints w ra rc row) := hIr
   obtain ⟨rl, hrl⟩ : ∃ rl, rl = row.length := ⟨_, rfl⟩
   rw [<- hrl] at kr hr2
   have HRL : Hid (rl = row.length) := hrl
   clear t1 t2 t3 er hIr ew hrow hrl hvt
   go_wp2_with fail
   go_loopw [23] (fun v wr' => ∃ (j : Nat) (vs' : List Value), j <= rl /\ v = .int .i64 j /\ Hid (PF w wr' #[.string s, .slice pa pn pc, .int .i64 r, .slice va vn vc, .slice ba bn bc, .slice fa fn fc] B1 gt n vs' (frIn k (row.take j) (frN n (waysP f) k)) (waysP f)) /\ Hid (∀ i, ((frIn k (row.take j) (frN n (waysP f) k)).getD i []).length <= k * 2 + j)) (fun v _ => rl - (intOf v).toNat)
   case atStart => exact ⟨0, vs, by omega, rfl, HP.out, fun i => HL.out i⟩
   case round =>
    clear HP HL kr hgtl
    obtain ⟨j, vs', hj, rfl, HP, HL⟩ := hrel
    by_cases hjl : j < rl
    ·have hjr : j < row.length := by have := HRL.out; omega
     obtain ⟨b3, o3, rfl, ky⟩ := (HIR.out.below HP.out.low (by have := HB1.out; omega)).at hjr
     have hyr := HRW.out row[j] (List.getElem_mem hjr)
     obtain ⟨p, hp⟩ : ∃ p : Nat, row[j] = (p : Int) := ⟨row[j].toNat, by omega⟩
     rw [hp] at ky
     have hpn : p < n := by omega
     obtain ⟨S, hS⟩ : ∃ S, S = frIn k (row.take j) (frN n (waysP f) k) := ⟨_, rfl⟩
     have hP := HP.out
     have hL := HL.out
     rw [<- hS] at hP hL
     have HNEXT : Hid (frIn k (row.take (j + 1)) (frN n (waysP f) k) = S.set p (S.getD p [] ++ [(k : Int)])) := by
      show _ = _
      rw [frIn_take _ _ _ hjr, hp, Int.toNat_natCast, hS]
     obtain ⟨av, cv, ev, _, _⟩ := own_slice (hP.fa.own p hpn).out
     have hvl : p < vs'.length := by rw [hP.fa.lv]; exact hpn
     have kv : wr.cell? ⟨B1 + 1, p, none⟩ = some (.slice av (S.getD p []).length cv) := by
      rw [<- ev]
      exact cell_arr hP.fa.out (by simp [hvl])
     have kb : wr.cell? ⟨B1 + 2, 0, none⟩ = some (.slice (some ⟨B1 + 1, 0, none⟩) n n) := cell_arr hP.box rfl
     obtain ⟨sl, hsl⟩ : ∃ sl, sl = (S.getD p []).length := ⟨_, rfl⟩
     have hlp : sl + 1 <= 17592186044416 := by have := hL p; omega
     have hsB : B1 <= wr.heap.size := by have := (gl hP.fo); omega
     have OP : OwnI wr B1 (.slice av sl cv) sl (S.getD p []) := by have := hP.fa.own p hpn; rw [ev, <- hsl] at this; exact this
     have hb1 : Below wr.heap.size wr (wr.drew.alloc (.cells #[.int .i64 (k : Int)] 3)) := ((Below.refl _ _).drew).alloc (by simp) _
     have HOP1 : Hid (OwnI (wr.drew.alloc (.cells #[.int .i64 (k : Int)] 3)) B1 (.slice av sl cv) sl (S.getD p [])) := OP.keep hb1
     have hP1 := hP.drew.alloc (by simpa using hsB) (.cells #[.int .i64 (k : Int)] 3)
     have PUT : Hid (∀ v6 w6, OwnI w6 B1 v6 (sl + 1) (S.getD p [] ++ [(k : Int)]) -> GI B1 (wr.drew.alloc (.cells #[.int .i64 (k : Int)] 3)) w6 (.slice av sl cv) v6 -> w6.cell? ⟨B1 + 1, p, none⟩ = some (.slice av sl cv) /\ w6.frozen? ⟨B1 + 1, p, none⟩ = false /\ w6.cell? ⟨B1 + 2, 0, none⟩ = some (.slice (some ⟨B1 + 1, 0, none⟩) n n) /\ Hid (PF w (w6.setCell ⟨B1 + 1, p, none⟩ v6) #[.string s, .slice pa pn pc, .int .i64 r, .slice va vn vc, .slice ba bn bc, .slice fa fn fc] B1 gt n (vs'.set p v6) (S.set p (S.getD p [] ++ [(k : Int)])) (waysP f))) := by
      intro v6 w6 h6 g6
      have q := hP1.put hpn (v6 := v6) (x := (k : Int)) (w6 := w6) (by rw [<- hsl]; exact h6) (by rw [ev, <- hsl]; exact g6)
      refine ⟨?_, fz_of q.2.1, cell_arr q.2.2 rfl, q.1⟩
      rw [hsl, <- ev]
      exact cell_arr q.2.1 (by simp [hvl])
     rw [<- hsl] at kv
     have S0 : (fun w' : World => w'.cell? ⟨B1 + 2, 0, none⟩ = some (.slice (some ⟨B1 + 1, 0, none⟩) n n) /\ w'.cell? ⟨B1 + 1, p, none⟩ = some (.slice av sl cv)) wr.drew := ⟨cellD kb, cellD kv⟩
     have S1 : (fun w' : World => w'.cell? ⟨B1 + 2, 0, none⟩ = some (.slice (some ⟨B1 + 1, 0, none⟩) n n) /\ w'.cell? ⟨B1 + 1, p, none⟩ = some (.slice av sl cv)) (wr.drew.alloc (.cells #[.int .i64 (k : Int)] 3)) := ⟨cellA (cellD kb), cellA (cellD kv)⟩
     have HLS : Hid (∀ i, (S.getD i []).length <= k * 2 + j) := hL
     have HLE : Hid (S.length = n) := hP.fa.ls
     clear HP HL hP hL hS hsl OP hP1 hb1 ev kb kv hyr hp hvl
     go_wp2_with fail
     refine led_start (S := fun w' : World => w'.cell? ⟨B1 + 2, 0, none⟩ = some (.slice (some ⟨B1 + 1, 0, none⟩) n n) /\ w'.cell? ⟨B1 + 1, p, none⟩ = some (.slice av sl cv)) (z := 10) (by kernel_rfl) ?_
     refine led_n 0 S0 ?_
     refine led_n 1 S0 ?_
     refine led_n 2 S0 ?_
     refine led_n 3 S0 ?_
     refine led_n 4 S0 ?_
     refine led_n 5 S0 ?_
     refine led_n 6 S0 ?_
     refine led_one (i := 7) rfl (by kernel_rfl) ?_
     intro K' hK
     rw [if_pos (by rfl)]
     go_simp
     refine hK _ _ (fun _ => S1) ?_
     clear hK
     try simp only [Act.put, zi, zz, zs]
     refine led_one (i := 8) rfl (by kernel_rfl) ?_
     intro K2 hK2
     refine step_append_intG rfl _ _ rfl B1 (.slice av sl cv) sl (S.getD p []) (k : Int) (by simp [Act.eval]) HOP1.out wr.heap.size (by simp [Act.eval]) (by simp) hlp (by simp; omega) ?_
     intro v6 w6 h6 g6
     obtain ⟨q6, p6, b6, HA6⟩ := PUT.out v6 w6 h6 g6
     refine hK2 _ _ (fun _ => ⟨b6, q6⟩) ?_
     clear hK2
     obtain ⟨a6, c6, e6, _, _⟩ := own_slice h6.out
     subst e6
     have S6 := show (fun w' : World => w'.cell? ⟨B1 + 2, 0, none⟩ = some (.slice (some ⟨B1 + 1, 0, none⟩) n n) /\ w'.cell? ⟨B1 + 1, p, none⟩ = some (.slice av sl cv)) w6 from ⟨b6, q6⟩
     try simp only [Act.put, zi, zz, zs]
     refine led_n 9 S6 ?_
     refine led_one (i := 10) rfl (by kernel_rfl) ?_
     intro K3 hK3
     rw [if_pos (by rfl)]
     go_simp
     refine hK3 _ _ (fun h => absurd rfl h) ?_
     clear hK3 S0 S1 S6 q6 b6 p6 h6 g6 PUT
     refine led_done (by kernel_rfl) ?_
     go_wp2_with fail
     go_roundw
     case rel =>
      refine ⟨j + 1, _, by omega, by go_num, by rw [HNEXT.out]; exact HA6.out, ?_⟩
      intro i
      rw [HNEXT.out, getD_setL (by rw [HLE.out]; exact hpn)]
      have := HLS.out i
      split
      ·next e => subst e; simp at this ⊢; omega
      ·omega
     case measure => simp [intOf]; omega
    ·have hjr : j = rl := by omega
     subst hjr
     have hP := HP.out
     have hL := HL.out
     rw [List.take_of_length_le (by have := HRL.out; omega)] at hP hL
     have HP' : Hid _ := hP
     have HL' : Hid _ := hL
     clear hP hL HP HL
     go_wp2_with fail
     go_roundw
     case rel =>
      refine ⟨k + 1, vs', by omega, by go_num, ?_, fun i => ?_⟩
      ·simp only [frN]; rw [HRO.out]; exact HP'.out
      ·have := HL'.out i
       simp only [frN]; rw [HRO.out]
       omega
     case measure => simp [intOf]; omega
  ·have hkn : k = n := by omega
   subst hkn
   have hP := HP.out
   have efr : frN k (waysP f) k = frP f := by unfold frP; rw [<- HEB.out, <- HNN.out]
   rw [efr] at hP
   obtain ⟨fc0, fc1, fc2, fc3, fc4, fc5⟩ := fcells hP.fo
   have kb : wr.cell? ⟨B1 + 2, 0, none⟩ = some (.slice (some ⟨B1 + 1, 0, none⟩) k k) := cell_arr hP.box rfl
   obtain ⟨av, cv, ev, _, _⟩ := own_slice (hP.fa.own 0 (by omega)).out
   have hvl : 0 < vs.length := by rw [hP.fa.lv]; omega
   have kv : wr.cell? ⟨B1 + 1, 0, none⟩ = some (.slice av ((frP f).getD 0 []).length cv) := by
    rw [<- ev]
    exact cell_arr hP.fa.out (by simp [hvl])
   have hC := HC.out wr (by rw [<- HB1.out]; exact hP.low)
   have HE : Hid (∀ R, evr (fun b k => decide (k.preds = (frP f).getD b [])) 0 f.blks = R -> Calls Tryz.prog 82 #[.slice ba bn bc, .func (.func 85) #[] #[.pointer (some ⟨B1 + 2, 0, none⟩)]] wr fun e w' => e = .returned (.bool R) /\ Below wr.heap.size wr w') := fun R hR => everyPr_at wr hC (B1 + 2) (B1 + 1) k HNN.out (frP f) (hP.fa.irow (by omega)) hP.fa.ls.symm hP.box R hR
   have HLOW : Hid (Below w.heap.size w wr) := by have := hP.low; rw [HB1.out] at this; exact this
   have hpos2 : 0 < k := by have := HNN.out; omega
   obtain ⟨l, hl0⟩ : ∃ l, l = ((frP f).getD 0 []).length := ⟨_, rfl⟩
   obtain ⟨R, hR⟩ : ∃ R, R = evr (fun b k => decide (k.preds = (frP f).getD b [])) 0 f.blks := ⟨_, rfl⟩
   have HPP : Hid (predsP f = (decide (l = 0) && R)) := by show _ = _; unfold predsP; rw [hl0, hR]
   have HR : Hid (evr (fun b k => decide (k.preds = (frP f).getD b [])) 0 f.blks = R) := hR.symm
   rw [<- hl0] at kv
   clear HP HL hP hC efr ev hvl hl0 hR
   by_cases hl : l = 0
   ·subst hl
    go_wp2_with (go_at_call 82; refine (HE.out _ HR.out).mono ?_; rintro e w9 ⟨rfl, hb9⟩)
    go_ret
    exact ⟨by rw [HPP.out]; simp, HLOW.out.trans (hb9.mono HLOW.out.size)⟩
   ·have hl2 : ((l : Int) == 0) = false := by simp; omega
    have HPF : Hid (predsP f = false) := by show _ = _; rw [HPP.out, decide_eq_false hl]; rfl
    clear hl
    go_wp2_with fail
    go_ret
    exact ⟨by rw [HPF.out]; rfl, HLOW.out⟩
theorem OwnI.cut {w : World} {B g c m : Nat} {L : List Int} {x : Int} (hm : m = L.length) (h : OwnI w B (.slice (some ⟨g, 0, none⟩) (m + 1) c) (m + 1) (L ++ [x])) : OwnI w B (.slice (some ⟨g, 0, none⟩) m c) m L := by
 subst hm
 rcases h.out.2 with ⟨e, _⟩ | ⟨g', cap, cur, e, e2, e3, e4, e5, e6, e7⟩
 ·cases e
 ·cases e
  refine ⟨rfl, ⟨by simp [ivs], .inr ⟨g, c, cur, rfl, e2, e3, by omega, e5, e6, ?_⟩⟩⟩
  have := congrArg (List.take (L.length * 1)) e7
  rw [List.take_take, Nat.min_eq_left (by omega)] at this
  rw [this]
  simp [ivs]
theorem GI.self (B : Nat) (w : World) (v : Value) : GI B w w v v := ⟨Below.refl _ _, fun g _ _ => rfl, fun g hg => .inl hg⟩
theorem run_append_zero {P : Program} {w : World} (base : Nat) (t ty e : TypeId) (i : TypeInfo) (size : Nat) (ht : P.underlying t = some (.slice e)) (hi : P.info? e = some i) (v : Value) (n : Nat) (xs : List Value) (hown : w.ownsRow base e size v n xs) (xo : Option Addr) (c : Nat) :
 (Builtin.append_ #[t, t] ty #[v, .slice xo 0 c]).run P w = .ok v w := by
 rcases hown.2 with ⟨rfl, rfl⟩ | ⟨g, cap, cur, rfl, _, _, hnc, _⟩
 ·cases xo <;> simp [Builtin.append_, run_underlying ht, sizeOf, typeInfo, hi, Builtin.lenOf, Builtin.firstCells, loadCells, loadCellsFrom]
 ·cases xo <;> simp [Builtin.append_, run_underlying ht, sizeOf, typeInfo, hi, Builtin.lenOf, Builtin.firstCells, hnc, storeCells, loadCells, loadCellsFrom]
theorem step_append_manyG {w : World} {ops : Array Oper} {op : Oper} {a : Act} {K : Act -> World -> Prop} {Q : Exit -> Act -> World -> Prop} {E : Prop} (hgd : op.guard = none) (s x : Operand)
 (ho : op.op = .call { callee := .builtin .append, args := #[s, x], argTypes := #[23, 23] })
 (B : Nat) (v : Value) (n : Nat) (L : List Int) (hs : a.eval s = v) (hown : OwnI w B v n L) (xo : Option Addr) (m c : Nat) (M : List Int) (hx : a.eval x = .slice xo m c) (hm : m = M.length) (hI : Ints w xo c M)
 (hl : n + m <= 17592186044416) (hB : B <= w.heap.size)
 (h : ∀ v' w', OwnI w' B v' (n + m) (L ++ M) -> GI B w w' v v' -> K (a.put op.dst v') w') : if Region.wanted op (yielded ops a.tmps) = true then Oper.wp Tryz.prog op a w K Q else E := by
 have hw : Region.wanted op (yielded ops a.tmps) = true := by simp [Region.wanted, hgd]
 rw [if_pos hw]
 obtain ⟨i0, hi, hz0, hz1, hz2⟩ := info_parts info3i
 by_cases h0 : m = 0
 ·have hM : M = [] := List.length_eq_zero_iff.1 (by omega)
  subst hM
  subst h0
  have hr := run_append_zero (P := Tryz.prog) (w := w) B 23 op.type 3 i0 1 Tryz.underlying23 hi v n (ivs L) hown.out xo c
  unfold Oper.wp execOp
  simp only [ho, resolve, invoke, builtin, Sem.run_bind, Sem.run_pure, Result.andThen_ok, List.map_toArray, List.map_cons, List.map_nil, hs, hx, hr]
  exact h v w (by simpa using hown) (GI.self _ _ _)
 ·obtain ⟨g, o, rfl, hA⟩ := hI.out (by intro e; rw [e] at hm; simp at hm; omega)
  have hc : ∀ j u, (ivs M)[j]? = some u -> w.cell? ((⟨g, o, none⟩ : Addr).add j) = some u := by
   intro j u hj
   have hjl : j < M.length := by
    have := (List.getElem?_eq_some_iff.1 hj).1
    simpa [ivs] using this
   have := hA.cell j hjl
   rw [add_none, this]
   simp [ivs, hjl] at hj
   rw [hj]
  obtain ⟨v', w', hr, h2, h3, h4⟩ := run_append_where (P := Tryz.prog) (w := w) B 23 op.type 3 i0 (.int .i64 0) 1 8 Tryz.underlying23 hi hz0 hz1 hz2 rfl (by decide) v n (ivs L) hown.out ⟨g, o, none⟩ m c (by omega) (ivs M) (by simp [ivs, hm]) hc (ivs_one M) (by unfold maxLen; omega) (by omega) hB
  unfold Oper.wp execOp
  simp only [ho, resolve, invoke, builtin, Sem.run_bind, Sem.run_pure, Result.andThen_ok, List.map_toArray, List.map_cons, List.map_nil, hs, hx, hr]
  refine h v' w' ⟨by have := hown.len; simp; omega, by simpa [ivs] using h2⟩ ⟨?_, fun b h5 h6 => grown_at h3 h5 h6, fun b hb => ?_⟩
  ·exact (Below.refl _ _).grown h3 hB (fun k hk => (own_block hown.out hk).1)
  ·rcases h4.out with ⟨g', cap, e1, e2⟩ | ⟨e1, _⟩
   ·subst e1 e2; exact .inl hb
   ·rw [e1] at hb; cases hb; right; exact Nat.le_refl _
theorem run_room (c : Nat) (h : c <= 100000000) (w : World) : (Instr.makeSlice 23 (.int .i64 0) (.int .i64 (c : Int))).run Tryz.prog w = .ok (.slice (some ⟨w.heap.size, 0, none⟩) 0 c) (w.alloc (.cells (madeCells #[.int .i64 0] c) 3)) := by
 obtain ⟨i0, hi, hz0, hz1, hz2⟩ := info_parts info3i
 have hr := run_make (P := Tryz.prog) w 23 3 i0 (.int .i64 0) Tryz.underlying23 hi hz0 .i64 .i64 0 c (Int.le_refl _) (by omega) (by rw [hz2]; omega) (by omega)
 simp only [Int.toNat_natCast, hz1, Nat.mul_one, Int.toNat_zero] at hr
 exact hr
theorem room_own (w : World) (B c : Nat) (hB : B <= w.heap.size) (hc : c <= 100000000) : OwnI (w.alloc (.cells (madeCells #[.int .i64 0] c) 3)) B (.slice (some ⟨w.heap.size, 0, none⟩) 0 c) 0 [] :=
 ⟨rfl, World.ownsRow_made w _ c hB (by unfold maxLen; omega) (by rw [Nat.mul_one]; exact size_madeCells _ _)⟩
end Go.Proofs.YtfbkopjncmkbiabGreatDoor
