import Derived.Test.YtchobeakieljpaaGreatDoorLuN
import Derived.Test.YtchobeakieljpaaGreatDoorLyN
import Derived.Test.YtchobeakieljpaaGreatDoorLyD
set_option linter.unusedVariables false
set_option linter.unusedSimpArgs false
namespace Go.Proofs.YtchobeakieljpaaGreatDoor
open Go.ChangeShapes Go.WideShapes Go.ChangeAt Go.RowKit

/-- The first node's Value is turned. -/
theorem CN.val0 {w : World} {B g c n : Nat} {p : Nd × Value} {ps : List (Nd × Value)} (h : CN w B (.slice (some ⟨g, 0, none⟩) n c) n (p :: ps)) (v : Int) : CN (w.setCell ⟨g, 7, none⟩ (.int .i64 v)) B (.slice (some ⟨g, 0, none⟩) n c) n (({ p.1 with val := v }, p.2) :: ps) := by
  have e : ncs (({ p.1 with val := v }, p.2) :: ps) = (ncs (p :: ps)).set 7 (.int .i64 v) := by simp [ncs, nc]
  have kd : ∀ q ∈ p :: ps, OwnI (w.setCell ⟨g, 7, none⟩ (.int .i64 v)) B q.2 q.1.kids.length q.1.kids := fun q hq => by
    have hk := h.kid q hq
    exact ⟨hk.len, own_move hk.out fun b hb => heap_set_other (fun e => own_apart hk.out h.own (by decide) b hb (by rw [e]; rfl))⟩
  refine ⟨by simpa using h.len, by rw [e]; exact own_set h.own 7 _, fun q hq => ?_, ?_⟩
  · rcases List.mem_cons.1 hq with rfl | hq
    · exact kd p (by simp)
    · exact kd q (by simp [hq])
  · have := h.apt
    rw [List.pairwise_cons] at this ⊢
    exact this
/-- Check of a lent tree. -/
theorem lent_check (w : World) (hTab : Tab w) {s M C FC} (h : Lnt w s M C FC) (U : List Nd) (F : List Int) (hU : U.length = s.n) (hF : F.length = s.fn) (hFI : FI M C U s.n) (hFF : FC.take s.fn = F) (hm : s.n ≤ 1000000000) (r : Int) (hr : r = if chk ⟨U, F⟩ = true then 0 else 30) :
    Calls Tryz.prog 12 #[.agg #[.slice (some ⟨s.nb, 0, none⟩) s.n s.nc, .slice (some ⟨s.fb, 0, none⟩) s.fn s.fc]] w fun e w' => e = .returned (.int .i64 r) ∧ Below w.heap.size w w' := by
  rw [hr]
  exact check_any w hTab _ s.nc s.n _ s.fc s.fn ⟨U, F⟩ hU.symm hF.symm (h.nodes hFI hU) (h.ints hFF) hm
theorem LT.shp {M : List (Nd × Value)} {C C' : List Kd} {FC : List Int} {T : Tr} {U : List Nd} (h : LT M C FC T) (hS : Shp C C') (hU : U.map Nd.kids = T.nodes.map Nd.kids) (hb : ∀ n ∈ T.nodes, n.kids.length ≤ 120000) : ∀ q (h : q < U.length) (hc : q < C'.length), (U[q]).kids.length ≤ (C'[q]).l.length ∧ (U[q]).kids.length ≤ 1000000000 := fun q h1 h2 => by
  have h3 : q < T.nodes.length := by have := congrArg List.length hU; simp at this; omega
  have h4 : q < C.length := by rw [hS.len]; exact h2
  have e : (U[q]).kids = (T.nodes[q]).kids := by
    have h5 : (U.map Nd.kids)[q]'(by simpa using h1) = (T.nodes.map Nd.kids)[q]'(by simpa using h3) := List.getElem_of_eq hU _
    simpa using h5
  have := (hS.out q h4 h2).2.2
  rw [h.kl q h3 h4] at this
  have hb' := hb _ (List.getElem_mem h3)
  rw [e]
  simp [MK] at this
  omega
structure UTr (N : List Nd) (P : List (Nd × Value)) : Prop where
  kds : (P.map Prod.fst).map Nd.kids = N.map Nd.kids
  nms : (P.map Prod.fst).map Nd.name = N.map Nd.name
theorem UTr.len {N P} (h : UTr N P) : (P.map Prod.fst).length = N.length := by have := congrArg List.length h.kds; simpa using this
theorem UTr.kb {N P} (h : UTr N P) {b : Nat} (hb : ∀ n ∈ N, n.kids.length ≤ b) : ∀ n ∈ P.map Prod.fst, n.kids.length ≤ b := fun n hn => by
  have h1 : n.kids ∈ N.map Nd.kids := by rw [← h.kds]; exact List.mem_map.2 ⟨n, hn, rfl⟩
  obtain ⟨m, hm, e⟩ := List.mem_map.1 h1
  rw [← e]
  exact hb m hm
theorem UTr.nb {N P} (h : UTr N P) {b : Nat} (hb : ∀ n ∈ N, n.name.length ≤ b) : ∀ n ∈ P.map Prod.fst, n.name.length ≤ b := fun n hn => by
  have h1 : n.name ∈ N.map Nd.name := by rw [← h.nms]; exact List.mem_map.2 ⟨n, hn, rfl⟩
  obtain ⟨m, hm, e⟩ := List.mem_map.1 h1
  rw [← e]
  exact hb m hm
/-- The copy, its first Value turned, beside the lent tree. -/
structure C8 (w5 w8 : World) (B' : Nat) (s : Sh) (M : List (Nd × Value)) (C : List Kd) (FC : List Int) (N : List Nd) (va : Option Addr) (vc nn : Nat) (fa : Option Addr) (fcc fn : Nat) (F : List Int) (ub : Nat) (P : List (Nd × Value)) : Prop where
  cn : CN w8 B' (.slice va nn vc) nn P
  ut : UTr N P
  fu : OwnI w8 B' (.slice fa fn fcc) fn F
  ln : Lnt w8 s M C FC
  box : w8.heap[ub]? = some (.cells #[.slice va nn vc, .slice fa fn fcc] 27 (0, 0))
  bel : Below w5.heap.size w5 w8
theorem C8.cells {w5 w8 : World} {B' s M C FC N va vc nn fa fcc fn F ub P} (h : C8 w5 w8 B' s M C FC N va vc nn fa fcc fn F ub P) : w8.cell? ⟨ub, 0, none⟩ = some (.slice va nn vc) ∧ w8.cell? ⟨ub, 1, none⟩ = some (.slice fa fn fcc) := ⟨cell_arr h.box rfl, cell_arr h.box rfl⟩
theorem C8.set {w5 w7 : World} {B' s M C FC N g vc nn fa fcc fn F ub} {p : Nd × Value} {ps : List (Nd × Value)} (h : C8 w5 w7 B' s M C FC N (some ⟨g, 0, none⟩) vc nn fa fcc fn F ub (p :: ps)) (hE : s.E ≤ B') (hB : w5.heap.size ≤ B') :
    C8 w5 (w7.setCell ⟨g, 7, none⟩ (.int .i64 (-1))) B' s M C FC N (some ⟨g, 0, none⟩) vc nn fa fcc fn F ub (({ p.1 with val := -1 }, p.2) :: ps) := by
  have hg := own_block h.cn.own (g := g) rfl
  exact ⟨h.cn.val0 (-1), ⟨by have := h.ut.kds; simpa using this, by have := h.ut.nms; simpa using this⟩, h.fu.set_other (own_apart h.cn.own h.fu.out (by decide) g rfl) 7 _, h.ln.setFar (by omega) _, (heap_set_other (fun e => own_not h.cn.own h.box (by decide) (by rw [e]; rfl))).trans h.box, h.bel.setCell (p := ⟨g, 7, none⟩) (by show w5.heap.size ≤ g; omega) _⟩
set_option maxRecDepth 10000 in
set_option maxHeartbeats 8000000 in
theorem checks_any (w : World) (hA : AllTab w) (no : Option Addr) (nc nn : Nat) (fo : Option Addr) (fc fn : Nat) (T : Tr) (hnn : nn = T.nodes.length) (hfn : fn = T.funcs.length) (hN : Nodes w no nc T.nodes) (hF : Ints w fo fc T.funcs) (hKN : KNil w no T.nodes) (hfz : fo = none → fc = 0) (hm : nn ≤ 120000) (hfm : fn ≤ 120000) (hkl : ∀ n ∈ T.nodes, n.kids.length ≤ 120000) (hsb : ∀ n ∈ T.nodes, n.name.length ≤ 1000000000000000) :
    Calls Tryz.prog 6 #[.agg #[.slice no nn nc, .slice fo fn fc]] w fun e w' => e = .returned (.bool true) ∧ Below w.heap.size w w' := by
  have HH : Hid (nn = T.nodes.length ∧ fn = T.funcs.length) := ⟨hnn, hfn⟩
  have HKL : Hid _ := hkl
  have HSB : Hid _ := hsb
  have HA : Hid (AllTab w) := hA
  obtain ⟨r, hr⟩ : ∃ r : Int, r = if chk T = true then 0 else 30 := ⟨_, rfl⟩
  have HR : Hid (r = if chk T = true then 0 else 30) := hr
  clear hnn hfn hkl hsb hA hr
  go_enter Tryz.func6, Tryz.ntmps6
  go_wp2_with fail
  obtain ⟨w1, hw1⟩ : ∃ w1, w1 = w.alloc (.cells #[.slice no nn nc, .slice fo fn fc] 27) := ⟨_, rfl⟩
  have hb1 : Below w.heap.size w w1 := by rw [hw1]; exact (Below.refl _ _).alloc (Nat.le_refl _) _
  have hbx1 : w1.heap[w.heap.size]? = some (.cells #[.slice no nn nc, .slice fo fn fc] 27 (0, 0)) := by rw [hw1]; exact heap_alloc_last _ _
  have hs1 : w1.heap.size = w.heap.size + 1 := by rw [hw1]; simp
  rw [← hw1]
  have HS1 : Hid (w1.heap.size = w.heap.size + 1) := hs1
  clear hw1 hs1
  refine (lend_any w1 no nc nn fo fc fn T HH.out.1 HH.out.2 (hN.below hb1 (Nat.le_refl _)) (hF.below hb1 (Nat.le_refl _)) (hKN.below hN hb1) hfz hm hfm HKL.out).mono ?_
  rintro e w2 ⟨⟨s, M, C, FC, rfl, hsB, hsE, hsn, hsf, HL2, HT⟩, hb2⟩
  have HSS : Hid (s.B = w.heap.size + 2 ∧ s.E = w2.heap.size ∧ s.n = nn ∧ s.fn = fn) := ⟨by rw [hsB, HS1.out], hsE, by rw [hsn, HH.out.1], by rw [hsf, HH.out.2]⟩
  clear hsB hsE hsn hsf
  have hbx2 := (hb2.block w.heap.size (by have := HS1.out; omega)).trans hbx1
  have hw2 : Below w.heap.size w w2 := hb1.trans (hb2.mono (by have := HS1.out; omega))
  have p0 : w2.cell? ⟨w.heap.size, 0, none⟩ = some (.slice no nn nc) := cell_arr hbx2 rfl
  have p1 : w2.cell? ⟨w.heap.size, 1, none⟩ = some (.slice fo fn fc) := cell_arr hbx2 rfl
  go_wp2_with fail
  have RC := rCheck_any w2 no nc nn fo fc fn T HH.out.1 HH.out.2 (hN.below hw2 (Nat.le_refl _)) (hF.below hw2 (Nat.le_refl _)) (by omega) (by omega) (fun n hn => by have := HKL.out n hn; omega) HSB.out
  rw [← HR.out] at RC
  refine RC.mono ?_
  rintro e w3 ⟨rfl, hb3⟩
  clear RC p0 p1
  have HL3 := HL2.keep hb3
  have hw3 : Below w.heap.size w w3 := hw2.trans (hb3.mono hw2.size)
  have hbx3 := (hb3.block w.heap.size (Array.getElem?_eq_some_iff.1 hbx2).1).trans hbx2
  have p0 : w3.cell? ⟨w.heap.size, 0, none⟩ = some (.slice no nn nc) := cell_arr hbx3 rfl
  have p1 : w3.cell? ⟨w.heap.size, 1, none⟩ = some (.slice fo fn fc) := cell_arr hbx3 rfl
  have q0 := HL3.cells.1
  have q1 := HL3.cells.2.1
  go_wp2_with fail
  refine (lent_check w3 (HA.out.below hw3).tab HL3 T.nodes T.funcs (by rw [HSS.out.2.2.1, HH.out.1]) (by rw [HSS.out.2.2.2, HH.out.2]) (by rw [HSS.out.2.2.1, HH.out.1]; exact HT.fi) (by rw [HT.fc, HSS.out.2.2.2, HH.out.2]; simp) (by have := HSS.out; omega) r HR.out).mono ?_
  rintro e w4 ⟨rfl, hb4⟩
  clear p0 p1 q0 q1
  have HL4 := HL3.keep hb4
  have hw4 : Below w.heap.size w w4 := hw3.trans (hb4.mono hw3.size)
  have hbx4 := (hb4.block w.heap.size (Array.getElem?_eq_some_iff.1 hbx3).1).trans hbx3
  have p0 : w4.cell? ⟨w.heap.size, 0, none⟩ = some (.slice no nn nc) := cell_arr hbx4 rfl
  have p1 : w4.cell? ⟨w.heap.size, 1, none⟩ = some (.slice fo fn fc) := cell_arr hbx4 rfl
  go_wp2_with fail
  refine (kept_any w4 s M C FC HL4 no nc nn fo fc fn T (hN.below hw4 (Nat.le_refl _)) (hF.below hw4 (Nat.le_refl _)) HT HH.out.1 HH.out.2 HSS.out.2.2.1 HSS.out.2.2.2 (by omega) (by omega) (fun n hn => by have := HKL.out n hn; omega)).mono ?_
  rintro e w5 ⟨rfl, ⟨M5, C5, HL5, HS5⟩, ht5⟩
  clear p0 p1 HL4 HL3 HL2
  have hw5 : Below w.heap.size w w5 := hw4.trans (ht5.bel.mono (by have := HSS.out; omega))
  have hbx5 := (ht5.bel.block w.heap.size (by have := HSS.out; omega)).trans hbx4
  have p0 : w5.cell? ⟨w.heap.size, 0, none⟩ = some (.slice no nn nc) := cell_arr hbx5 rfl
  have p1 : w5.cell? ⟨w.heap.size, 1, none⟩ = some (.slice fo fn fc) := cell_arr hbx5 rfl
  have hE5 : s.E ≤ w5.heap.size := HL5.top.2.2.2.1
  go_wp2_with fail
  refine (copied_any w5 no nc nn fo fc fn T.nodes T.funcs HH.out.1 HH.out.2 (hN.below hw5 (Nat.le_refl _)) (hF.below hw5 (Nat.le_refl _)) (hKN.below hN hw5) hfz (by omega) (by omega) (fun n hn => by have := HKL.out n hn; omega)).mono ?_
  rintro e w6 ⟨v, fv, P, rfl, HC6, hP, HF6, hap, hb6⟩
  clear p0 p1
  obtain ⟨va, vc, rfl⟩ := own_slice HC6.own
  obtain ⟨fa, fcc, rfl⟩ := own_slice HF6.out
  obtain ⟨ub, hub⟩ : ∃ ub, ub = w6.heap.size := ⟨_, rfl⟩
  obtain ⟨w7, hw7⟩ : ∃ w7, w7 = w6.alloc (.cells #[.slice va nn vc, .slice fa fn fcc] 27) := ⟨_, rfl⟩
  have hb7 : Below w6.heap.size w6 w7 := by rw [hw7]; exact (Below.refl _ _).alloc (Nat.le_refl _) _
  have hbx7 : w7.heap[ub]? = some (.cells #[.slice va nn vc, .slice fa fn fcc] 27 (0, 0)) := by rw [hw7, hub]; exact heap_alloc_last _ _
  have HX7 : C8 w5 w7 (w5.heap.size + 1 + 1 + 1) s M5 C5 FC T.nodes va vc nn fa fcc fn T.funcs ub P := ⟨HC6.keep hb7, ⟨by rw [hP], by rw [hP]⟩, HF6.keep hb7, (HL5.keep hb6).keep hb7, hbx7, hb6.trans (hb7.mono hb6.size)⟩
  have hub5 : w5.heap.size ≤ ub := by rw [hub]; exact hb6.size
  have HE7 : Hid (w7 = w6.alloc (.cells #[.slice va nn vc, .slice fa fn fcc] 27) ∧ ub = w6.heap.size) := ⟨hw7, hub⟩
  clear hw7 hub hb7 HC6 HF6 hap hb6 hP
  by_cases hn0 : nn = 0
  case pos =>
    have hz : ¬ (0 : Int) < (nn : Int) := by omega
    have HN0 : Hid (nn = 0) := hn0
    clear hn0
    go_wp2_with fail
    obtain ⟨w8, hw8⟩ : ∃ w8, w8 = w7 := ⟨_, rfl⟩
    obtain ⟨P8, hP8⟩ : ∃ P8, P8 = P := ⟨_, rfl⟩
    rw [← HE7.out.1, ← HE7.out.2, ← hw8]
    have HX : C8 w5 w8 (w5.heap.size + 1 + 1 + 1) s M5 C5 FC T.nodes va vc nn fa fcc fn T.funcs ub P8 := by rw [hw8, hP8]; exact HX7
    clear hw8 hP8 HX7 HE7 hbx7
    have b01 := HX.cells
    obtain ⟨b0, b1⟩ := b01
    obtain ⟨no8, nc8, fo8, fc8, e1, e2, HAp⟩ := Ap.new (B := s.B) (E := s.E) HX.cn HX.fu (by omega)
    cases e1
    cases e2
    refine (fill_any w8 s M5 C5 FC HX.ln _ _ nn _ _ fn (P8.map Prod.fst) T.funcs HAp (by rw [HX.ut.len]; exact HH.out.1) HH.out.2 HSS.out.2.2.1 HSS.out.2.2.2 (by omega) (by omega) (HT.shp HS5 HX.ut.kds HKL.out)).mono ?_
    rintro e w9 ⟨rfl, ⟨⟨M9, C9, FC9, HL9, HS9, HF9, HG9⟩, ht9⟩⟩
    clear b0 b1
    have hE8 : s.E ≤ w8.heap.size := HX.ln.top.2.2.2.1
    have hw8 : Below w.heap.size w w8 := hw5.trans (HX.bel.mono hw5.size)
    have hw9 : Below w.heap.size w w9 := hw8.trans (ht9.bel.mono (by have := HSS.out; omega))
    have hbx8 := (HX.bel.block w.heap.size (Array.getElem?_eq_some_iff.1 hbx5).1).trans hbx5
    have hbx9 := (ht9.bel.block w.heap.size (by have := HSS.out; omega)).trans hbx8
    have hub9 := ht9.box (by omega : s.E ≤ ub) HX.box
    have q0 := HL9.cells.1
    have q1 := HL9.cells.2.1
    obtain ⟨r2, hr2⟩ : ∃ r2 : Int, r2 = if chk ⟨P8.map Prod.fst, T.funcs⟩ = true then 0 else 30 := ⟨_, rfl⟩
    have HR2 : Hid (r2 = if chk ⟨P8.map Prod.fst, T.funcs⟩ = true then 0 else 30) := hr2
    clear hr2
    go_wp2_with fail
    refine (lent_check w9 (HA.out.below hw9).tab HL9 (P8.map Prod.fst) T.funcs (by rw [HX.ut.len, HSS.out.2.2.1, HH.out.1]) (by rw [HSS.out.2.2.2, HH.out.2]) HF9 HG9 (by have := HSS.out; omega) r2 HR2.out).mono ?_
    rintro e w10 ⟨rfl, hb10⟩
    clear q0 q1
    have HL10 := HL9.keep hb10
    have hw10 : Below w.heap.size w w10 := hw9.trans (hb10.mono hw9.size)
    have hbx10 := (hb10.block w.heap.size (Array.getElem?_eq_some_iff.1 hbx9).1).trans hbx9
    have hub10 := (hb10.block ub (Array.getElem?_eq_some_iff.1 hub9).1).trans hub9
    have p0 : w10.cell? ⟨w.heap.size, 0, none⟩ = some (.slice no nn nc) := cell_arr hbx10 rfl
    have p1 : w10.cell? ⟨w.heap.size, 1, none⟩ = some (.slice fo fn fc) := cell_arr hbx10 rfl
    go_wp2_with fail
    refine (fill_any w10 s M9 C9 FC9 HL10 no nc nn fo fc fn T.nodes T.funcs (Ap.old hN hF hw10 (by have := HSS.out; omega)) HH.out.1 HH.out.2 HSS.out.2.2.1 HSS.out.2.2.2 (by omega) (by omega) (HT.shp (HS5.trans HS9) rfl HKL.out)).mono ?_
    rintro e w11 ⟨rfl, ⟨⟨M11, C11, FC11, HL11, HS11, HF11, HG11⟩, ht11⟩⟩
    clear p0 p1
    have hw11 : Below w.heap.size w w11 := hw10.trans (ht11.bel.mono (by have := HSS.out; omega))
    have hub11 := ht11.box (by omega : s.E ≤ ub) hub10
    have q0 := HL11.cells.1
    have q1 := HL11.cells.2.1
    go_wp2_with fail
    refine (lent_check w11 (HA.out.below hw11).tab HL11 T.nodes T.funcs (by rw [HSS.out.2.2.1, HH.out.1]) (by rw [HSS.out.2.2.2, HH.out.2]) HF11 HG11 (by have := HSS.out; omega) r HR.out).mono ?_
    rintro e w12 ⟨rfl, hb12⟩
    clear q0 q1
    have hw12 : Below w.heap.size w w12 := hw11.trans (hb12.mono hw11.size)
    have hub12 := (hb12.block ub (Array.getElem?_eq_some_iff.1 hub11).1).trans hub11
    have b0 : w12.cell? ⟨ub, 0, none⟩ = some (.slice va nn vc) := cell_arr hub12 rfl
    have b1 : w12.cell? ⟨ub, 1, none⟩ = some (.slice fa fn fcc) := cell_arr hub12 rfl
    have hub13 : ub < w12.drew.heap.size := by have := (Array.getElem?_eq_some_iff.1 hub12).1; simpa using this
    have ht12 : Tch s.B s.E w8 w12 := ((ht9.below hb10 (by have := HL9.top.2.2.2.1; have := HL9.bot; have := HL9.top.2.2.1; omega)).trans ht11).below hb12 (by have := HL11.top.2.2.2.1; have := HL11.bot; have := HL11.top.2.2.1; omega)
    have RC2 : ∀ wx, Below w12.heap.size w12 wx → Calls Tryz.prog 15 #[.agg #[.slice va nn vc, .slice fa fn fcc]] wx fun e w' => e = .returned (.int .i64 r2) ∧ Below wx.heap.size wx w' := fun wx hx => by
      rw [HR2.out]
      exact rCheck_any wx va vc nn fa fcc fn ⟨P8.map Prod.fst, T.funcs⟩ (by rw [HX.ut.len]; exact HH.out.1) HH.out.2 ((HAp.nod w12 ht12).below hx (Nat.le_refl _)) ((HAp.fun_ w12 ht12).below hx (Nat.le_refl _)) (by omega) (by omega) (HX.ut.kb fun n hn => by have := HKL.out n hn; omega) (HX.ut.nb HSB.out)
    go_wp2_with fail
    go_region_held (fun w' => w'.cell? ⟨ub, 0, none⟩ = some (.slice va nn vc) ∧ w'.cell? ⟨ub, 1, none⟩ = some (.slice fa fn fcc))
     (refine ⟨?_, ?_⟩ <;> first | with_reducible exact cellD b0 | with_reducible exact cellD b1 | with_reducible exact cell_below hb13 hub13 (cellD b0) | with_reducible exact cell_below hb13 hub13 (cellD b1))
     (first
      | (go_at_call 13; refine (num3_any _ _).mono ?_; rintro e w' ⟨rfl, rfl⟩)
      | (go_at_call 15; refine (RC2 _ (Below.refl _ _).drew).mono ?_; rintro e w13 ⟨rfl, hb13⟩))
    go_wp2_with fail
    go_ret
    exact ⟨by simp, hw12.trans (((Below.refl _ _).drew.trans hb13).mono hw12.size)⟩
  case neg =>
    have hz : (0 : Int) < (nn : Int) := by omega
    have hz2 : 0 < nn := by omega
    obtain ⟨g, vc', e, hvc1, hvc2, _, _⟩ := own_blkOf HX7.cn.own hz2
    cases e
    cases P with
    | nil => have := HX7.cn.len; simp at this; omega
    | cons p ps =>
    have hgub : ¬ ub = g := fun e => own_not HX7.cn.own HX7.box (by decide) (by rw [e]; rfl)
    obtain ⟨y, hy⟩ : ∃ v, w7.cell? ⟨g, 7, none⟩ = some v := ⟨_, (row_cell HX7.cn.own HX7.cn.len 0 (by simp) 7 (by omega)).trans (List.getElem?_eq_getElem (by simp [Go.Proofs.YtchobeakieljpaaGreatDoor.nc]))⟩
    have hyf : w7.frozen? ⟨g, 7, none⟩ = false := row_fz HX7.cn.own 7
    have HX8 := HX7.set (by omega) (by omega)
    have b01 := HX7.cells
    obtain ⟨d0, d1⟩ := b01
    have hw7 := HE7.out.1
    have hub := HE7.out.2
    subst hub
    subst hw7
    go_wp2_with fail
    obtain ⟨P8, hP8⟩ : ∃ P8, P8 = ({ p.1 with val := -1 }, p.2) :: ps := ⟨_, rfl⟩
    rw [← hP8] at HX8
    obtain ⟨w8, hw8⟩ : ∃ w8, w8 = (w6.alloc (.cells #[.slice (some ⟨g, 0, none⟩) nn vc, .slice fa fn fcc] 27)).setCell ⟨g, 7, none⟩ (.int .i64 (-1)) := ⟨_, rfl⟩
    rw [← hw8] at HX8 ⊢
    obtain ⟨ub, hub⟩ : ∃ ub, ub = w6.heap.size := ⟨_, rfl⟩
    rw [← hub] at HX8 hub5 ⊢
    have HX := HX8
    clear hw8 hP8 HX7 HE7 hbx7 hub HX8 d0 d1 hy hyf hgub
    have b01 := HX.cells
    obtain ⟨b0, b1⟩ := b01
    obtain ⟨no8, nc8, fo8, fc8, e1, e2, HAp⟩ := Ap.new (B := s.B) (E := s.E) HX.cn HX.fu (by omega)
    cases e1
    cases e2
    refine (fill_any w8 s M5 C5 FC HX.ln _ _ nn _ _ fn (P8.map Prod.fst) T.funcs HAp (by rw [HX.ut.len]; exact HH.out.1) HH.out.2 HSS.out.2.2.1 HSS.out.2.2.2 (by omega) (by omega) (HT.shp HS5 HX.ut.kds HKL.out)).mono ?_
    rintro e w9 ⟨rfl, ⟨⟨M9, C9, FC9, HL9, HS9, HF9, HG9⟩, ht9⟩⟩
    clear b0 b1
    have hE8 : s.E ≤ w8.heap.size := HX.ln.top.2.2.2.1
    have hw8 : Below w.heap.size w w8 := hw5.trans (HX.bel.mono hw5.size)
    have hw9 : Below w.heap.size w w9 := hw8.trans (ht9.bel.mono (by have := HSS.out; omega))
    have hbx8 := (HX.bel.block w.heap.size (Array.getElem?_eq_some_iff.1 hbx5).1).trans hbx5
    have hbx9 := (ht9.bel.block w.heap.size (by have := HSS.out; omega)).trans hbx8
    have hub9 := ht9.box (by omega : s.E ≤ ub) HX.box
    have q0 := HL9.cells.1
    have q1 := HL9.cells.2.1
    obtain ⟨r2, hr2⟩ : ∃ r2 : Int, r2 = if chk ⟨P8.map Prod.fst, T.funcs⟩ = true then 0 else 30 := ⟨_, rfl⟩
    have HR2 : Hid (r2 = if chk ⟨P8.map Prod.fst, T.funcs⟩ = true then 0 else 30) := hr2
    clear hr2
    go_wp2_with fail
    refine (lent_check w9 (HA.out.below hw9).tab HL9 (P8.map Prod.fst) T.funcs (by rw [HX.ut.len, HSS.out.2.2.1, HH.out.1]) (by rw [HSS.out.2.2.2, HH.out.2]) HF9 HG9 (by have := HSS.out; omega) r2 HR2.out).mono ?_
    rintro e w10 ⟨rfl, hb10⟩
    clear q0 q1
    have HL10 := HL9.keep hb10
    have hw10 : Below w.heap.size w w10 := hw9.trans (hb10.mono hw9.size)
    have hbx10 := (hb10.block w.heap.size (Array.getElem?_eq_some_iff.1 hbx9).1).trans hbx9
    have hub10 := (hb10.block ub (Array.getElem?_eq_some_iff.1 hub9).1).trans hub9
    have p0 : w10.cell? ⟨w.heap.size, 0, none⟩ = some (.slice no nn nc) := cell_arr hbx10 rfl
    have p1 : w10.cell? ⟨w.heap.size, 1, none⟩ = some (.slice fo fn fc) := cell_arr hbx10 rfl
    go_wp2_with fail
    refine (fill_any w10 s M9 C9 FC9 HL10 no nc nn fo fc fn T.nodes T.funcs (Ap.old hN hF hw10 (by have := HSS.out; omega)) HH.out.1 HH.out.2 HSS.out.2.2.1 HSS.out.2.2.2 (by omega) (by omega) (HT.shp (HS5.trans HS9) rfl HKL.out)).mono ?_
    rintro e w11 ⟨rfl, ⟨⟨M11, C11, FC11, HL11, HS11, HF11, HG11⟩, ht11⟩⟩
    clear p0 p1
    have hw11 : Below w.heap.size w w11 := hw10.trans (ht11.bel.mono (by have := HSS.out; omega))
    have hub11 := ht11.box (by omega : s.E ≤ ub) hub10
    have q0 := HL11.cells.1
    have q1 := HL11.cells.2.1
    go_wp2_with fail
    refine (lent_check w11 (HA.out.below hw11).tab HL11 T.nodes T.funcs (by rw [HSS.out.2.2.1, HH.out.1]) (by rw [HSS.out.2.2.2, HH.out.2]) HF11 HG11 (by have := HSS.out; omega) r HR.out).mono ?_
    rintro e w12 ⟨rfl, hb12⟩
    clear q0 q1
    have hw12 : Below w.heap.size w w12 := hw11.trans (hb12.mono hw11.size)
    have hub12 := (hb12.block ub (Array.getElem?_eq_some_iff.1 hub11).1).trans hub11
    have b0 : w12.cell? ⟨ub, 0, none⟩ = some (.slice (some ⟨g, 0, none⟩) nn vc) := cell_arr hub12 rfl
    have b1 : w12.cell? ⟨ub, 1, none⟩ = some (.slice fa fn fcc) := cell_arr hub12 rfl
    have hub13 : ub < w12.drew.heap.size := by have := (Array.getElem?_eq_some_iff.1 hub12).1; simpa using this
    have ht12 : Tch s.B s.E w8 w12 := ((ht9.below hb10 (by have := HL9.top.2.2.2.1; have := HL9.bot; have := HL9.top.2.2.1; omega)).trans ht11).below hb12 (by have := HL11.top.2.2.2.1; have := HL11.bot; have := HL11.top.2.2.1; omega)
    have RC2 : ∀ wx, Below w12.heap.size w12 wx → Calls Tryz.prog 15 #[.agg #[.slice (some ⟨g, 0, none⟩) nn vc, .slice fa fn fcc]] wx fun e w' => e = .returned (.int .i64 r2) ∧ Below wx.heap.size wx w' := fun wx hx => by
      rw [HR2.out]
      exact rCheck_any wx (some ⟨g, 0, none⟩) vc nn fa fcc fn ⟨P8.map Prod.fst, T.funcs⟩ (by rw [HX.ut.len]; exact HH.out.1) HH.out.2 ((HAp.nod w12 ht12).below hx (Nat.le_refl _)) ((HAp.fun_ w12 ht12).below hx (Nat.le_refl _)) (by omega) (by omega) (HX.ut.kb fun n hn => by have := HKL.out n hn; omega) (HX.ut.nb HSB.out)
    go_wp2_with fail
    go_region_held (fun w' => w'.cell? ⟨ub, 0, none⟩ = some (.slice (some ⟨g, 0, none⟩) nn vc) ∧ w'.cell? ⟨ub, 1, none⟩ = some (.slice fa fn fcc))
     (refine ⟨?_, ?_⟩ <;> first | with_reducible exact cellD b0 | with_reducible exact cellD b1 | with_reducible exact cell_below hb13 hub13 (cellD b0) | with_reducible exact cell_below hb13 hub13 (cellD b1))
     (first
      | (go_at_call 13; refine (num3_any _ _).mono ?_; rintro e w' ⟨rfl, rfl⟩)
      | (go_at_call 15; refine (RC2 _ (Below.refl _ _).drew).mono ?_; rintro e w13 ⟨rfl, hb13⟩))
    go_wp2_with fail
    go_ret
    exact ⟨by simp, hw12.trans (((Below.refl _ _).drew.trans hb13).mono hw12.size)⟩
end Go.Proofs.YtchobeakieljpaaGreatDoor
