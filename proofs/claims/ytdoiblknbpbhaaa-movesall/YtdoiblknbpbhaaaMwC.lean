import Derived.Test.YtdoiblknbpbhaaaMwB
set_option linter.unusedVariables false
set_option linter.unusedSimpArgs false
namespace Go.Proofs.Ytdoiblknbpbhaaa
open Go.ChangeShapes Go.WideShapes Go.ChangeAt Go.RowKit Go.Maps

theorem KL.kells {w B kb lv mv vs ms col} (h : KL w B kb lv mv vs ms col) : w.cell? ⟨kb, 0, none⟩ = some (.bool false) ∧ w.cell? ⟨kb, 1, none⟩ = some lv ∧ w.cell? ⟨kb, 3, none⟩ = some mv :=
  ⟨cell_arr h.box rfl, cell_arr h.box rfl, cell_arr h.box rfl⟩
theorem KL.frz {w B kb lv mv vs ms col} (h : KL w B kb lv mv vs ms col) (i : Nat) : w.frozen? ⟨kb, i, none⟩ = false := fz_of h.box
/-- All that hold's loop needs. -/
structure HS (w0 w : World) (B kb : Nat) (lv0 mv0 : Value) (col0 : Nat → Option (Int × Nat)) (lv mv : Value) (vs : List Value) (ms : List Int) (col : Nat → Option (Int × Nat)) (far : Value) (n : Nat) (y : Int) : Prop where
  k : KL w B kb lv mv vs ms col
  e : KE vs ms col
  f : Far w B col far n y
  le : ColLe col0 col
  on : Only (KF kb lv0 mv0 col0) w0 w
  sub : ∀ k, k < w0.heap.size → KF kb lv mv col k → KF kb lv0 mv0 col0 k
theorem HS.addL {w0 w w6 : World} {B kb lv0 mv0 col0 lv mv vs ms col far n y lv6 vs6} (h : KL w B kb lv mv vs ms col) (f : Far w B col far n y) (on : Only (KF kb lv0 mv0 col0) w0 w) (sub : ∀ k, k < w0.heap.size → KF kb lv mv col k → KF kb lv0 mv0 col0 k) (h6 : OwnV w6 B lv6 vs6) (g6 : GI B w w6 lv lv6) :
    KL (w6.setCell ⟨kb, 1, none⟩ lv6) B kb lv6 mv vs6 ms col ∧ Far (w6.setCell ⟨kb, 1, none⟩ lv6) B col far n y ∧ Only (KF kb lv0 mv0 col0) w0 (w6.setCell ⟨kb, 1, none⟩ lv6) ∧ ∀ k, k < w0.heap.size → KF kb lv6 mv col k → KF kb lv0 mv0 col0 k := by
  obtain ⟨a1, a2, a3, a4⟩ := h.addL h6 g6
  exact ⟨a1, f.move a2, on.trans a3 sub, fun k hk hf => sub k hk (a4 k (by have := on.size; omega) hf)⟩
theorem HS.addM {w0 w w6 : World} {B kb lv0 mv0 col0 lv mv vs ms col far n y mv6 ms6} (h : KL w B kb lv mv vs ms col) (f : Far w B col far n y) (on : Only (KF kb lv0 mv0 col0) w0 w) (sub : ∀ k, k < w0.heap.size → KF kb lv mv col k → KF kb lv0 mv0 col0 k) (h6 : OwnI w6 B mv6 ms6.length ms6) (g6 : GI B w w6 mv mv6) :
    KL (w6.setCell ⟨kb, 3, none⟩ mv6) B kb lv mv6 vs ms6 col ∧ Far (w6.setCell ⟨kb, 3, none⟩ mv6) B col far n y ∧ Only (KF kb lv0 mv0 col0) w0 (w6.setCell ⟨kb, 3, none⟩ mv6) ∧ ∀ k, k < w0.heap.size → KF kb lv mv6 col k → KF kb lv0 mv0 col0 k := by
  obtain ⟨a1, a2, a3, a4⟩ := h.addM h6 g6
  exact ⟨a1, f.move a2, on.trans a3 sub, fun k hk hf => sub k hk (a4 k (by have := on.size; omega) hf)⟩
set_option maxRecDepth 100000 in
set_option maxHeartbeats 8000000 in
theorem hold_any (w : World) {B kb lv mv vs ms col far n} {m : Nat} (hk : KL w B kb lv mv vs ms col) (he : KE vs ms col) (hf : Far w B col far n (m : Int)) (hn : n ≤ 1000000) (hm : m ≤ 1000000) (hl : ms.length ≤ 1000000) :
    Calls Try.prog 30 #[.pointer (some ⟨kb, 0, none⟩), far, .int .i64 m] w fun e w' => e = .returned (.tuple #[]) ∧ ∃ lv' mv' vs' ms' col' far' n', ms'.length ≤ ms.length + 41 ∧ ms.length < ms'.length ∧ HS w w' B kb lv mv col lv' mv' vs' ms' col' far' n' (m : Int) := by
  obtain ⟨fa, fc, rfl, hfc, hfc2⟩ := own_slice hf.own.out
  obtain ⟨k0, k1, k3⟩ := hk.kells
  have z1 := hk.frz 1
  have z3 := hk.frz 3
  obtain ⟨n1, _, n3, _, _⟩ := hk.nes
  have hB : B ≤ w.heap.size := by have := hk.lo; omega
  obtain ⟨la, lc, rfl, _, _⟩ := own_slice hk.l.out
  obtain ⟨ma, mc, rfl, _, _⟩ := own_slice hk.m.out
  obtain ⟨lb, hlb⟩ : ∃ lb, lb = vs.length := ⟨_, rfl⟩
  obtain ⟨mb, hmb⟩ : ∃ mb, mb = ms.length := ⟨_, rfl⟩
  have hlm : lb = mb := by rw [hlb, hmb]; exact he.len
  have HFM : Hid (FitM ((-9, (m : Int)), (0, 0))) := fitM_mk (x := (m : Int)) (by omega)
  have HK : Hid _ := hk
  have HE : Hid _ := he
  have HF : Hid _ := hf
  have HLB : Hid (lb = vs.length) := hlb
  have HMB : Hid (mb = ms.length) := hmb
  rw [← hlb] at k1
  rw [← hmb] at k3
  have hvl : vs.length + 1 ≤ 1759218604441 := by omega
  have hB2 : kb < w.heap.size := n1
  clear hk he hf hlb hmb hlm n1 n3 k0
  go_enter Try.func30, Try.ntmps30
  go_wp2_with (first
    | (at_builtin; refine wpList_append_slG (w0 := w) rfl _ _ rfl B (.slice la lb lc) vs fa n fc rfl (by rw [HLB.out]; exact HK.out.l) rfl hvl hB ?_; intro v6 w6 h6 g6
       obtain ⟨a6, c6, e6, _, _⟩ := own_slice h6.out
       have q6 : (vs ++ [Value.slice fa n fc]).length = lb + 1 := by rw [HLB.out]; simp
       rw [q6] at e6
       subst e6
       have g6' : GI B w w6 (.slice la vs.length lc) (.slice a6 (lb + 1) c6) := by rw [← HLB.out]; exact g6
       have S6 := HS.addL (w0 := w) HK.out HF.out (Only.refl _ _) (fun k _ hf => hf) h6 g6'
       obtain ⟨S1, S2, S3, S4⟩ := S6
       obtain ⟨z6, k6⟩ : ∃ z, w6.cell? ⟨kb, 1, none⟩ = some z := ⟨_, cell_arr ((g6'.blk kb hB2 HK.out.nes.2.1).trans HK.out.box) rfl⟩
       have fz6 : w6.frozen? ⟨kb, 1, none⟩ = false := fz_of ((g6'.blk kb hB2 HK.out.nes.2.1).trans HK.out.box)
       have k63 := S1.kells.2.2
       have z63 := S1.frz 3
       rw [← HMB.out] at k63
       have HS1 : Hid _ := S1
       have HS2 : Hid _ := S2
       have HS3 : Hid _ := S3
       have HS4 : Hid _ := S4
       have hB7 : B ≤ (w6.setCell ⟨kb, 1, none⟩ (.slice a6 (lb + 1) c6)).heap.size := by have := S1.lo; have := S1.nes.1; omega
       have hml : mb + 1 ≤ 17592186044416 := by have := HMB.out; omega
       clear h6 g6 g6' S1 S2 S3 S4 k1 k3 z1 z3)
    | (at_builtin; refine wpList_append_intG (w0 := w6.setCell ⟨kb, 1, none⟩ (.slice a6 (lb + 1) c6)) rfl _ _ rfl B (.slice ma mb mc) mb ms (m : Int) rfl (by rw [HMB.out]; exact HS1.out.m) (by simp [Act.eval, World.setCell]) hml hB7 ?_; intro v8 w8 h8 g8
       obtain ⟨a8, c8, e8, _, _⟩ := own_slice h8.out
       subst e8
       have h8' : OwnI w8 B (.slice a8 (mb + 1) c8) (ms ++ [(m : Int)]).length (ms ++ [(m : Int)]) := by rw [show (ms ++ [(m : Int)]).length = mb + 1 by rw [HMB.out]; simp]; exact h8
       have g8' : GI B (w6.setCell ⟨kb, 1, none⟩ (.slice a6 (lb + 1) c6)) w8 (.slice ma ms.length mc) (.slice a8 (mb + 1) c8) := by rw [← HMB.out]; exact g8
       obtain ⟨S1, S2, S3, S4⟩ := HS.addM HS1.out HS2.out HS3.out HS4.out h8' g8'
       obtain ⟨z8, k8⟩ : ∃ z, w8.cell? ⟨kb, 3, none⟩ = some z := ⟨_, cell_arr ((g8'.blk kb HS1.out.nes.1 HS1.out.nes.2.2.1).trans HS1.out.box) rfl⟩
       have fz8 : w8.frozen? ⟨kb, 3, none⟩ = false := fz_of ((g8'.blk kb HS1.out.nes.1 HS1.out.nes.2.2.1).trans HS1.out.box)
       have HH : Hid (HS w (w8.setCell ⟨kb, 3, none⟩ (.slice a8 (mb + 1) c8)) B kb (.slice la vs.length lc) (.slice ma ms.length mc) col (.slice a6 (lb + 1) c6) (.slice a8 (mb + 1) c8) (vs ++ [.slice fa n fc]) (ms ++ [(m : Int)]) col (.slice fa n fc) n (m : Int)) := ⟨S1, HE.out.add HF.out.el (by omega), S2, ColLe.refl _, S3, S4⟩
       clear h8 g8 h8' g8' S1 S2 S3 S4 k63 z63 k6 fz6)
    | go_in)
  go_loopg [6, 7] 40 (fun q fv iv wr => ∃ (i : Nat) (lv' mv' : Value) (vs' : List Value) (ms' : List Int) (col' : Nat → Option (Int × Nat)) (a' : Option Addr) (c' : Nat), i ≤ 40 ∧ q = 40 - i ∧ fv = .slice a' (n + i) c' ∧ iv = .int .i64 i ∧ Hid (ms'.length ≤ ms.length + 1 + i ∧ ms.length < ms'.length) ∧ Hid (HS w wr B kb (.slice la vs.length lc) (.slice ma ms.length mc) col lv' mv' vs' ms' col' (.slice a' (n + i) c') (n + i) (m : Int)))
  case atStart => exact ⟨0, _, _, _, _, _, fa, fc, by omega, by omega, rfl, rfl, ⟨by simp, by simp⟩, HH.out⟩
  case round =>
    clear HH HS1 HS2 HS3 HS4 k8 fz8
    obtain ⟨i, lv', mv', vs', ms', col', fa', fc', hi, rfl, rfl, rfl, HLEN, HH⟩ := hrel
    by_cases hlt : i < 40
    · have hHk := HH.out.k
      obtain ⟨la', lc', rfl, _, _⟩ := own_slice hHk.l.out
      obtain ⟨ma', mc', rfl, _, _⟩ := own_slice hHk.m.out
      obtain ⟨lb', hlb'⟩ : ∃ lb', lb' = vs'.length := ⟨_, rfl⟩
      obtain ⟨mb', hmb'⟩ : ∃ mb', mb' = ms'.length := ⟨_, rfl⟩
      have HLB' : Hid (lb' = vs'.length) := hlb'
      have HMB' : Hid (mb' = ms'.length) := hmb'
      have hB' : B ≤ wr.heap.size := by have := hHk.lo; have := hHk.nes.1; omega
      have hvl' : vs'.length + 1 ≤ 1759218604441 := by have := HH.out.e.len; have := HLEN.out.1; omega
      have hml' : mb' + 1 ≤ 17592186044416 := by have := HLEN.out.1; omega
      clear hHk hlb' hmb'
      by_cases htk : i < 16 ∨ i = 39
      · have hguard : (i : Int) < 16 ∨ (¬ (i : Int) < 16 ∧ ((i : Int) == 39) = true) := by rcases htk with q | q; left; omega; right; simp; omega
        rcases hguard with hgd | ⟨hg2, hgd⟩
        all_goals
          go_wp2_with (first
            | (at_builtin; refine wpList_append_mvJ (w0 := wr) rfl _ _ rfl B (.slice fa' (n + i) fc') (n + i) (List.replicate (n + i) (mkM (m : Int))) (-9) (m : Int) 0 0 rfl HH.out.f.own HFM.out rfl (by omega) hB' ?_; intro v5 w5 h5 g5
               obtain ⟨col5, c5, K5, F5, O5, S5⟩ := HH.out.k.far HH.out.f h5 g5
               obtain ⟨a5, d5, e5, _, _⟩ := own_slice F5.own.out
               subst e5
               have k51 := K5.kells.2.1
               have z51 := K5.frz 1
               rw [← HLB'.out] at k51
               have hB5 : B ≤ w5.heap.size := by have := K5.lo; have := K5.nes.1; omega
               have HK5 : Hid _ := K5
               have HF5 : Hid _ := F5
               have HC5 : Hid _ := c5
               have HO5 : Hid _ := HH.out.on.trans O5 HH.out.sub
               have HS5 : Hid (∀ k, k < w.heap.size → KF kb (.slice la' vs'.length lc') (.slice ma' ms'.length mc') col5 k → KF kb (.slice la vs.length lc) (.slice ma ms.length mc) col k) := fun k hk hf => HH.out.sub k hk (S5 k (by have := HH.out.on.size; omega) hf)
               clear h5 g5 c5 K5 F5 O5 S5)
            | (at_builtin; refine wpList_append_slG (w0 := w5) rfl _ _ rfl B (.slice la' lb' lc') vs' a5 (n + i + 1) d5 rfl (by rw [HLB'.out]; exact HK5.out.l) rfl hvl' hB5 ?_; intro v6 w6 h6 g6
               obtain ⟨a6, c6, e6, _, _⟩ := own_slice h6.out
               have q6 : (vs' ++ [Value.slice a5 (n + i + 1) d5]).length = lb' + 1 := by rw [HLB'.out]; simp
               rw [q6] at e6
               subst e6
               have g6' : GI B w5 w6 (.slice la' vs'.length lc') (.slice a6 (lb' + 1) c6) := by rw [← HLB'.out]; exact g6
               obtain ⟨S1, S2, S3, S4⟩ := HS.addL (w0 := w) HK5.out HF5.out HO5.out HS5.out h6 g6'
               obtain ⟨z6, k6⟩ : ∃ z, w6.cell? ⟨kb, 1, none⟩ = some z := ⟨_, cell_arr ((g6'.blk kb HK5.out.nes.1 HK5.out.nes.2.1).trans HK5.out.box) rfl⟩
               have fz6 : w6.frozen? ⟨kb, 1, none⟩ = false := fz_of ((g6'.blk kb HK5.out.nes.1 HK5.out.nes.2.1).trans HK5.out.box)
               have k63 := S1.kells.2.2
               have z63 := S1.frz 3
               rw [← HMB'.out] at k63
               have HS1 : Hid _ := S1
               have HS2 : Hid _ := S2
               have HS3 : Hid _ := S3
               have HS4 : Hid _ := S4
               have hB7 : B ≤ (w6.setCell ⟨kb, 1, none⟩ (.slice a6 (lb' + 1) c6)).heap.size := by have := S1.lo; have := S1.nes.1; omega
               clear h6 g6 g6' S1 S2 S3 S4 k51 z51)
            | (at_builtin; refine wpList_append_intG (w0 := w6.setCell ⟨kb, 1, none⟩ (.slice a6 (lb' + 1) c6)) rfl _ _ rfl B (.slice ma' mb' mc') mb' ms' (m : Int) rfl (by rw [HMB'.out]; exact HS1.out.m) (by simp [Act.eval, World.setCell]) hml' hB7 ?_; intro v8 w8 h8 g8
               obtain ⟨a8, c8, e8, _, _⟩ := own_slice h8.out
               subst e8
               have h8' : OwnI w8 B (.slice a8 (mb' + 1) c8) (ms' ++ [(m : Int)]).length (ms' ++ [(m : Int)]) := by rw [show (ms' ++ [(m : Int)]).length = mb' + 1 by rw [HMB'.out]; simp]; exact h8
               have g8' : GI B (w6.setCell ⟨kb, 1, none⟩ (.slice a6 (lb' + 1) c6)) w8 (.slice ma' ms'.length mc') (.slice a8 (mb' + 1) c8) := by rw [← HMB'.out]; exact g8
               obtain ⟨S1, S2, S3, S4⟩ := HS.addM HS1.out HS2.out HS3.out HS4.out h8' g8'
               obtain ⟨z8, k8⟩ : ∃ z, w8.cell? ⟨kb, 3, none⟩ = some z := ⟨_, cell_arr ((g8'.blk kb HS1.out.nes.1 HS1.out.nes.2.2.1).trans HS1.out.box) rfl⟩
               have fz8 : w8.frozen? ⟨kb, 3, none⟩ = false := fz_of ((g8'.blk kb HS1.out.nes.1 HS1.out.nes.2.2.1).trans HS1.out.box)
               have HN8 : Hid (HS w (w8.setCell ⟨kb, 3, none⟩ (.slice a8 (mb' + 1) c8)) B kb (.slice la vs.length lc) (.slice ma ms.length mc) col (.slice a6 (lb' + 1) c6) (.slice a8 (mb' + 1) c8) (vs' ++ [.slice a5 (n + i + 1) d5]) (ms' ++ [(m : Int)]) col5 (.slice a5 (n + i + 1) d5) (n + i + 1) (m : Int)) := ⟨S1, (HH.out.e.mono HC5.out).add HF5.out.el (by omega), S2, HH.out.le.trans HC5.out, S3, S4⟩
               clear h8 g8 h8' g8' S1 S2 S3 S4 k63 z63 k6 fz6)
            | go_in)
          go_roundg (40 - (i + 1))
          case rel => exact ⟨i + 1, _, _, _, _, _, a5, d5, by omega, rfl, rfl, by go_num, ⟨by have := HLEN.out.1; simp; omega, by have := HLEN.out.2; simp; omega⟩, HN8.out⟩
          case measure => omega
      · have h16 : ¬ (i : Int) < 16 := by omega
        have h39 : ((i : Int) == 39) = false := by simp; omega
        go_wp2_with (first
            | (at_builtin; refine wpList_append_mvJ (w0 := wr) rfl _ _ rfl B (.slice fa' (n + i) fc') (n + i) (List.replicate (n + i) (mkM (m : Int))) (-9) (m : Int) 0 0 rfl HH.out.f.own HFM.out rfl (by omega) hB' ?_; intro v5 w5 h5 g5
               obtain ⟨col5, c5, K5, F5, O5, S5⟩ := HH.out.k.far HH.out.f h5 g5
               obtain ⟨a5, d5, e5, _, _⟩ := own_slice F5.own.out
               subst e5
               have HN5 : Hid (HS w w5 B kb (.slice la vs.length lc) (.slice ma ms.length mc) col (.slice la' vs'.length lc') (.slice ma' ms'.length mc') vs' ms' col5 (.slice a5 (n + i + 1) d5) (n + i + 1) (m : Int)) := ⟨K5, HH.out.e.mono c5, F5, HH.out.le.trans c5, HH.out.on.trans O5 HH.out.sub, fun k hk hf => HH.out.sub k hk (S5 k (by have := HH.out.on.size; omega) hf)⟩
               clear h5 g5 c5 K5 F5 O5 S5)
            | go_in)
        go_roundg (40 - (i + 1))
        case rel => exact ⟨i + 1, _, _, _, _, _, a5, d5, by omega, rfl, rfl, by go_num, ⟨by have := HLEN.out.1; omega, HLEN.out.2⟩, HN5.out⟩
        case measure => omega
    · go_wp2_with fail
      refine bodyPost_end (v := .tuple #[]) (by simp [results, Try.results30, go_sem]) rfl ⟨rfl, lv', mv', vs', ms', col', _, _, by have := HLEN.out.1; omega, HLEN.out.2, HH.out⟩
end Go.Proofs.Ytdoiblknbpbhaaa
