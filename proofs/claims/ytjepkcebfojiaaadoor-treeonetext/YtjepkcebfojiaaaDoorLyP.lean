import Derived.Test.YtjepkcebfojiaaaDoorLyG
import Derived.Deep.LoopGhost
import Derived.Test.YtjepkcebfojiaaaDoorTrH
set_option linter.unusedVariables false
set_option linter.unusedSimpArgs false
namespace Go.Proofs.YtjepkcebfojiaaaDoor
open Go.ChangeShapes Go.WideShapes Go.ChangeAt Go.RowKit

/-- A part that the contracts bear, the rest being s. -/
def OKp (N : List Nd) (s : Ps) (p : Pt) : Prop :=
  (p.form = 0 ∧ s.text.length + p.text.length ≤ 1000000000)
  ∨ (p.form = 1 ∧ ∃ j : Nat, p.node = (j : Int) ∧ ∃ h : j < N.length, NdOK N N[j] ∧ s.todo.length + 2 * N[j].kids.length + 4 ≤ 100000000 ∧ s.opn + 1 ≤ 1000000000)
  ∨ (p.form = 3 ∧ s.text.length + s.opn + 1 ≤ 1000000000)
  ∨ (p.form = 4 ∧ ∃ o, s.opn = o + 1 ∧ s.text.length + o + 2 ≤ 1000000000)

set_option maxHeartbeats 1000000 in
theorem pp_any (w : World) (B F pb : Nat) (no : Option Addr) (nn nc : Nat) (N : List Nd) (S : Ps) (p : Pt) (hE : Env w B no nn nc N) (hS : PSt w B F pb (.slice no nn nc) S) (hF : F ≤ w.heap.size) (hOK : OKp N S p) :
    Calls Tryd.prog 27 #[.pointer (some ⟨pb, 0, none⟩), .agg #[.int .i64 p.form, .string (bs p.text), .int .i64 p.node]] w fun e w' => e = .returned (.tuple #[]) ∧ PSt w' B w'.heap.size pb (.slice no nn nc) (pstep N ⟨S.text, p :: S.todo, S.opn⟩) ∧ Below B w w' := by
  have hB := hS.le
  rcases hOK with ⟨hf, hl⟩ | ⟨hf, j, hj, hjl, hok, hb1, hb2⟩ | ⟨hf, hl⟩ | ⟨hf, o, ho, hl⟩
  · have e : pstep N ⟨S.text, p :: S.todo, S.opn⟩ = ⟨S.text ++ p.text, S.todo, S.opn⟩ := by simp [pstep, hf]
    rw [e, hf]
    exact pp_text w B F pb _ S hS hF (bs p.text) p.text rfl p.node hl
  · have e0 : ndOf N p.node = N[j] := by rw [hj]; simp [ndOf, List.getD, hjl]
    have e : pstep N ⟨S.text, p :: S.todo, S.opn⟩ = ⟨S.text, ndParts N N[j] ++ S.todo, if N[j].kind = 3 then S.opn + 1 else S.opn⟩ := by simp [pstep, hf, e0]
    rw [e, hf, hj]
    refine pp_whole w B F pb no nn nc S hS hF N hE.nodes hE.nn j hjl (bs p.text) _ (fun ka kc hK hc => ?_)
    obtain ⟨b, o, e1, hc⟩ := hc
    have hb : ∀ K, K ≤ w.heap.size → Below K w ((w.alloc (.cells #[.int .i64 1, .string (bs p.text), .int .i64 (j : Int)] 52)).drew) := fun K hK => ((Below.refl _ _).alloc hK _).drew
    refine (node_any _ B F pb no nn nc N S (hE.below (hb B (by omega))) (hS.below (hb F hF) (Nat.le_refl _)) (by rw [drew_heap]; simp; omega) N[j] hok ka kc (hK.below (hb _ (Nat.le_refl _)) (Nat.le_refl _)) (fun hne => hE.kids j hjl e1 hc hne) hb1 hb2).mono ?_
    rintro e w' ⟨h1, h2, h3⟩
    exact ⟨h1, h2, (hb B (by omega)).trans h3⟩
  · have e : pstep N ⟨S.text, p :: S.todo, S.opn⟩ = ⟨S.text ++ tabs S.opn, S.todo, S.opn⟩ := by simp [pstep, hf]
    rw [e, hf]
    exact pp_line w B F pb _ S hS hF hl (bs p.text) p.node
  · have e : pstep N ⟨S.text, p :: S.todo, S.opn⟩ = ⟨S.text ++ tabs o ++ [125], S.todo, o⟩ := by simp [pstep, hf, ho]
    rw [e, hf]
    exact pp_end w B F pb _ S hS hF (bs p.text) p.node o ho hl

/-- So many steps that the contracts bear, to the end. -/
inductive RunsOK (N : List Nd) : Nat → Ps → Ps → Prop
  | fin (s : Ps) : s.todo = [] → RunsOK N 0 s s
  | more {n s s' p r} : s.todo = p :: r → OKp N ⟨s.text, r, s.opn⟩ p → r.length ≤ 100000000 → RunsOK N n (pstep N s) s' → RunsOK N (n + 1) s s'

theorem RunsOK.inv {N k s s'} (h : RunsOK N k s s') : (k = 0 ∧ s' = s ∧ s.todo = []) ∨ ∃ n p r, k = n + 1 ∧ s.todo = p :: r ∧ OKp N ⟨s.text, r, s.opn⟩ p ∧ r.length ≤ 100000000 ∧ RunsOK N n (pstep N s) s' := by
  cases h with
  | fin _ h => exact .inl ⟨rfl, rfl, h⟩
  | more h1 h2 h3 h4 => exact .inr ⟨_, _, _, rfl, h1, h2, h3, h4⟩
theorem PSv.pop {w B F pb nv S tv da m dc n p r} (h : PSv w B F pb nv S tv (.slice da (m + 1) dc) n (m + 1)) (hr : S.todo = p :: r) (hF : F ≤ w.heap.size) :
    PSv (w.setCell ⟨pb, 2, none⟩ (.slice da m dc)) B F pb nv ⟨S.text, r, S.opn⟩ tv (.slice da m dc) n m ∧ Below B w (w.setCell ⟨pb, 2, none⟩ (.slice da m dc)) := by
  have hm : m = r.length := by have := h.tod.len; rw [hr] at this; simpa using this
  have ht := h.tod.take m (by omega)
  have e : (S.todo.reverse).take m = r.reverse := by rw [hr, List.reverse_cons, List.take_append_of_le_length (by simp; omega), List.take_of_length_le (by simp; omega)]
  rw [e] at ht
  have hd : ∀ g, (Value.slice da m dc).ownBlock = some g → g < F := fun g hg => h.dlt g (by cases da with | none => simp [Value.ownBlock] at hg | some a => exact hg)
  have hpb : (Value.slice da m dc).ownBlock ≠ some pb := h.prv.apart ht
  refine ⟨⟨⟨heap_set_at h.prv.blk⟩, ⟨h.txt.len, own_move h.txt.out fun g hg => heap_set_other (fun e => h.prv.apartB h.txt (by rw [← e]; exact hg))⟩, ⟨ht.len, own_move ht.out fun g hg => heap_set_other (fun e => hpb (by rw [← e]; exact hg))⟩, h.tlt, hd, h.base, h.lt⟩, ?_⟩
  exact (Below.refl _ _).setCell (p := ⟨pb, 2, none⟩) h.base _

set_option maxRecDepth 10000 in
set_option maxHeartbeats 4000000 in
theorem printAll_st (w : World) (B F pb : Nat) (no : Option Addr) (nn nc : Nat) (N : List Nd) (S S' : Ps) (k : Nat) (hE : Env w B no nn nc N) (hS : PSt w B F pb (.slice no nn nc) S) (hF : F ≤ w.heap.size) (hR : RunsOK N k S S') :
    Calls Tryd.prog 19 #[.pointer (some ⟨pb, 0, none⟩)] w fun e w' => e = .returned (.tuple #[]) ∧ PSt w' B w'.heap.size pb (.slice no nn nc) S' ∧ Below B w w' := by
  have hB := hS.le
  have HE : Hid _ := hE
  clear hE
  go_enter Tryd.func19, Tryd.ntmps19
  go_wp2_with fail
  go_loopg [] k (fun k wr => ∃ T : Ps, RunsOK N k T S' ∧ PSt wr B wr.heap.size pb (.slice no nn nc) T ∧ Below B w wr)
  case atStart => exact ⟨S, hR, hS.up hF, Below.refl _ _⟩
  case round =>
    obtain ⟨T, hRT, hT, hbr⟩ := hrel
    have hbs := hbr.size
    rcases hRT.inv with ⟨rfl, rfl, hT0⟩ | ⟨n', p, r, rfl, hT0, hok, hrl, hrest⟩
    · obtain ⟨tv, dv, n, m, h⟩ := hT.out
      have hm : m = 0 := by have := h.tod.len; rw [hT0] at this; simpa using this
      subst hm
      obtain ⟨da, dc, rfl⟩ := own_slice h.tod.out
      obtain ⟨q0, q1, q2, q3⟩ := h.prv.cells
      have hlt := h.lt
      go_wp2_with fail
      exact bodyPost_end (v := .tuple #[]) (by simp [results, Tryd.results19, go_sem]) rfl ⟨rfl, hT, hbr⟩
    · obtain ⟨tv, dv, n, m, h⟩ := hT.out
      have hm : m = r.length + 1 := by have := h.tod.len; rw [hT0] at this; simpa using this
      obtain ⟨m1, hm1⟩ : ∃ m1, m1 = r.length := ⟨_, rfl⟩
      rw [← hm1] at hm hrl
      subst hm
      obtain ⟨da, dc, rfl, hd1, hd2, hV, hda⟩ := h.tod.view
      obtain ⟨g, rfl, hg, hc⟩ := hV.out (by rw [hT0]; simp)
      obtain ⟨p0, p1, p2⟩ := hc m1 (by rw [hT0]; simp; omega)
      have hel : (T.todo.reverse)[m1]'(by rw [hT0]; simp; omega) = p := by
        simp only [hT0, List.reverse_cons]
        rw [List.getElem_append_right (by simp; omega)]
        simp [hm1]
      rw [hel] at p0 p1 p2
      obtain ⟨HP1, hbp⟩ := h.pop hT0 (Nat.le_refl _)
      obtain ⟨q0, q1, q2, q3⟩ := h.prv.cells
      have hlt := h.lt
      have hfz : wr.frozen? ⟨pb, 2, none⟩ = false := fz_of h.prv.blk
      have hgp : ¬ g = pb := fun e => h.prv.apart h.tod (by rw [e]; rfl)
      have hmI : ((m1 + 1 : Nat) : Int) - 1 = (m1 : Int) := by omega
      have hm1c : m1 ≤ dc := by omega
      have HOK : Hid (OKp N ⟨T.text, r, T.opn⟩ p) := hok
      have HT0 : Hid (T = ⟨T.text, p :: r, T.opn⟩) := by show _ = _; rw [← hT0]
      clear hok hT0 hel hm1 hc h hT
      have hsz : (wr.setCell ⟨pb, 2, none⟩ (.slice (some ⟨g, 0, none⟩) m1 dc)).heap.size = wr.heap.size := by simp [World.setCell]
      go_wp2_with fail
      refine (pp_any _ B wr.heap.size pb no nn nc N ⟨T.text, r, T.opn⟩ p (HE.out.below ((hbr.trans hbp).alloc (by rw [hsz]; omega) _)) ((PSt.mk ⟨_, _, _, _, HP1⟩).below ((Below.refl _ _).alloc (by rw [hsz]; omega) _) (Nat.le_refl _)) (by simp [World.setCell]) HOK.out).mono ?_
      rintro e w3 ⟨rfl, HS3, hb3⟩
      have hb3w : Below B w w3 := ((hbr.trans hbp).alloc (by rw [hsz]; omega) _).trans hb3
      have HS4 : PSt w3 B w3.heap.size pb (.slice no nn nc) (pstep N T) := by rw [HT0.out]; exact HS3
      clear hb3 HS3 p0 p1 p2 q0 q1 q2 q3 hfz HP1 hbp
      go_wp2_with fail
      go_roundg n'
      case rel => exact ⟨_, hrest, HS4, hb3w⟩
      case measure => omega
end Go.Proofs.YtjepkcebfojiaaaDoor
namespace Go.Proofs.YtjepkcebfojiaaaDoor
open Go.ChangeShapes Go.WideShapes Go.ChangeAt Go.RowKit

theorem ret_ti {v : Value} {a b : Int} (h : a = b) : Ending.returned (.tuple #[v, .int .i64 a]) = .returned (.tuple #[v, .int .i64 b]) := by rw [h]

set_option maxRecDepth 10000 in
set_option maxHeartbeats 4000000 in
theorem print_no (w : World) (hTab : Tab w) (no : Option Addr) (nc nn : Nat) (fo : Option Addr) (fc fn : Nat) (T : Tr) (hnn : nn = T.nodes.length) (hfn : fn = T.funcs.length) (hN : Nodes w no nc T.nodes) (hF : Ints w fo fc T.funcs) (hm : nn ≤ 1000000000) (hc : chk T = false) :
    Calls Tryd.prog 8 #[.agg #[.slice no nn nc, .slice fo fn fc]] w fun e w' => e = .returned (.tuple #[.slice none 0 0, .int .i64 30]) ∧ Below w.heap.size w w' := by
  have hb1 : ∀ (X : Obj) (K : Nat), K ≤ w.heap.size → Below K w (w.alloc X) := fun X K hK => (Below.refl _ _).alloc hK _
  have HH : Hid (nn = T.nodes.length ∧ fn = T.funcs.length ∧ chk T = false) := ⟨hnn, hfn, hc⟩
  clear hnn hfn hc
  go_enter Tryd.func8, Tryd.ntmps8
  go_wp2_with fail
  refine (check_any _ (hTab.below (hb1 _ _ (Nat.le_refl _)) hTab.1) no nc nn fo fc fn T HH.out.1 HH.out.2.1 (hN.below (hb1 _ _ (Nat.le_refl _)) (Nat.le_refl _)) (hF.below (hb1 _ _ (Nat.le_refl _)) (Nat.le_refl _)) hm).mono ?_
  rintro e w1 ⟨rfl, hbc⟩
  rw [HH.out.2.2]
  have hbw : Below w.heap.size w w1 := (hb1 _ _ (Nat.le_refl _)).trans (hbc.mono (by simp))
  simp only [Bool.false_eq_true, if_false]
  go_wp2_with fail
  go_ret2
  exact ⟨rfl, hbw⟩

/-- All functions, one after another. -/
inductive PrintsOK (N : List Nd) : List Int → Ps → Ps → Prop
  | nil (s : Ps) : PrintsOK N [] s s
  | cons {f r s s1 s2 k} : RunsOK N k ⟨s.text, [wp f], s.opn⟩ s1 → s1.todo = [] → PrintsOK N r s1 s2 → PrintsOK N (f :: r) s s2
theorem PrintsOK.inv {N f r s s2} (h : PrintsOK N (f :: r) s s2) : ∃ k s1, RunsOK N k ⟨s.text, [wp f], s.opn⟩ s1 ∧ s1.todo = [] ∧ PrintsOK N r s1 s2 := by
  cases h with
  | cons h1 h2 h3 => exact ⟨_, _, h1, h2, h3⟩
theorem PrintsOK.done {N s s2} (h : PrintsOK N [] s s2) : s2 = s := by cases h; rfl

set_option maxRecDepth 10000 in
set_option maxHeartbeats 4000000 in
theorem print_yes (w : World) (hTab : Tab w) (hTT : 1 < w.heap.size ∧ 3 < w.heap.size) (hT1 : ∀ i, i < 4 → w.cell? ⟨1, i, none⟩ = some (.string (bs (TYPES.getD i [])))) (hT2 : ∀ i, i < 23 → w.cell? ⟨3, i, none⟩ = some (.string (bs (OPS.getD i [])))) (hTP : ∀ w', Below w.heap.size w w' → TabP w')
    (no : Option Addr) (nc nn : Nat) (fo : Option Addr) (fc fn : Nat) (T : Tr) (hnn : nn = T.nodes.length) (hfn : fn = T.funcs.length) (hN : Nodes w no nc T.nodes) (hF : Ints w fo fc T.funcs) (hm : nn ≤ 1000000000) (hc : chk T = true) (S' : Ps) (hP : PrintsOK T.nodes T.funcs ⟨[], [], 0⟩ S') :
    Calls Tryd.prog 8 #[.agg #[.slice no nn nc, .slice fo fn fc]] w fun e w' => (∃ v n, e = .returned (.tuple #[v, .int .i64 0]) ∧ OwnB w' w.heap.size v n S'.text) ∧ Below w.heap.size w w' := by
  have hb1 : ∀ (X : Obj) (K : Nat), K ≤ w.heap.size → Below K w (w.alloc X) := fun X K hK => (Below.refl _ _).alloc hK _
  have HH : Hid (nn = T.nodes.length ∧ fn = T.funcs.length ∧ chk T = true) := ⟨hnn, hfn, hc⟩
  have hfc : fn ≤ fc := by have := hF.le; omega
  have hfm := hF.mx
  have HT1 : Hid _ := hT1
  have HT2 : Hid _ := hT2
  have HTP : Hid _ := hTP
  have HTT : Hid _ := hTT
  clear hnn hfn hc hT1 hT2 hTP hTT
  go_enter Tryd.func8, Tryd.ntmps8
  go_wp2_with fail
  refine (check_any _ (hTab.below (hb1 _ _ (Nat.le_refl _)) hTab.1) no nc nn fo fc fn T HH.out.1 HH.out.2.1 (hN.below (hb1 _ _ (Nat.le_refl _)) (Nat.le_refl _)) (hF.below (hb1 _ _ (Nat.le_refl _)) (Nat.le_refl _)) hm).mono ?_
  rintro e w1 ⟨rfl, hbc⟩
  rw [HH.out.2.2]
  have hbw : Below w.heap.size w w1 := (hb1 _ _ (Nat.le_refl _)).trans (hbc.mono (by simp))
  have hs1 := hbc.size
  simp at hs1
  have f0 : w1.cell? ⟨w.heap.size, 0, none⟩ = some (.slice no nn nc) := cell_below hbc (by simp) (by simp)
  have f1 : w1.cell? ⟨w.heap.size, 1, none⟩ = some (.slice fo fn fc) := cell_below hbc (by simp) (by simp)
  have hlt1 : w.heap.size < w1.heap.size := by omega
  simp only [if_true]
  clear hbc
  go_wp2_with fail
  have hbA : Below w1.heap.size w1 (w1.alloc (.cells #[.slice no nn nc, .slice none 0 0, .slice none 0 0, .int .i64 0] 49)) := (Below.refl _ _).alloc (Nat.le_refl _) _
  have hS0 : PSt (w1.alloc (.cells #[.slice no nn nc, .slice none 0 0, .slice none 0 0, .int .i64 0] 49)) w1.heap.size (w1.heap.size + 1) w1.heap.size (.slice no nn nc) ⟨[], [], 0⟩ :=
    ⟨_, _, 0, 0, ⟨heap_alloc_last _ _⟩, OwnB.nil _ _, OwnP.nil _ _, (fun g hg => by simp [Value.ownBlock] at hg), (fun g hg => by simp [Value.ownBlock] at hg), Nat.le_refl _, by omega⟩
  have hE0 : Env w1 w1.heap.size no nn nc T.nodes := ⟨⟨w1, rfl, Below.refl _ _, hN.below hbw (Nat.le_refl _),
    ⟨⟨by have := HTT.out.1; omega, by have := HTT.out.2; omega, Nat.le_refl _⟩, fun i hi => cell_below hbw HTT.out.1 (HT1.out i hi), fun i hi => cell_below hbw HTT.out.2 (HT2.out i hi)⟩,
    fun w' hb => HTP.out w' (hbw.trans (hb.mono (by omega)))⟩, HH.out.1⟩
  have HE : Hid _ := hE0
  clear hE0 f0 f1
  go_loopw [19] (fun c wr => ∃ (i : Nat) (U : Ps), i ≤ fn ∧ c = .int .i64 i ∧ PrintsOK T.nodes (T.funcs.drop i) U S' ∧ U.todo = [] ∧ PSt wr w1.heap.size wr.heap.size w1.heap.size (.slice no nn nc) U ∧ Below w1.heap.size w1 wr) (fun c _ => fn - (intOf c).toNat)
  case atStart => exact ⟨0, _, by omega, rfl, by simpa using hP, rfl, hS0.up (by simp), hbA⟩
  case round =>
    obtain ⟨i, U, hi, rfl, hPU, hU0, hSU, hbr⟩ := hrel
    have hbs := hbr.size
    have hbrw : Below w.heap.size w wr := hbw.trans (hbr.mono (by omega))
    have hpl := hSU.le
    by_cases hlt : i < fn
    · obtain ⟨b, o, rfl, hA⟩ := hF.out (by intro e; have := HH.out.2.1; simp [e] at this; omega)
      have p0 := (hA.below hbrw hA.lt).cell i (HH.out.2.1 ▸ hlt)
      rw [List.drop_eq_getElem_cons (HH.out.2.1 ▸ hlt)] at hPU
      obtain ⟨f, hf⟩ : ∃ f, f = T.funcs[i]'(HH.out.2.1 ▸ hlt) := ⟨_, rfl⟩
      rw [← hf] at p0 hPU
      obtain ⟨k, U1, hR, hU1, hP1⟩ := hPU.inv
      have HPU : Hid _ := hPU
      clear hf hPU
      go_wp2_with (first
        | (go_at_call 18; refine (whole_any _ _).mono ?_; rintro e w' ⟨rfl, rfl⟩)
        | (go_at_call 17; refine (put_new _ _ w1.heap.size wr.heap.size w1.heap.size (.slice no nn nc) U [wp f] 1 _ (hSU.below (by repeat (first | refine Below.alloc ?_ (by first | omega | (simp; done) | (simp; omega)) _ | refine Below.drew ?_ | exact Below.refl _ _)) (Nat.le_refl _)) (by first | omega | (simp; done) | (simp; omega)) (by simp) rfl rfl (by rw [hU0]; simp)).mono ?_; rintro e w4 ⟨rfl, HS4, hb4, _⟩; have hb4w : Below w1.heap.size w1 w4 := (by refine hbr.trans (Below.trans ?_ hb4); exact (by repeat (first | refine Below.alloc ?_ (by first | omega | (simp; done) | (simp; omega)) _ | refine Below.drew ?_ | exact Below.refl _ _))); clear hb4; rw [hU0] at HS4)
        | (go_at_call 19; refine (printAll_st _ w1.heap.size _ w1.heap.size no nn nc T.nodes ⟨U.text, [wp f], U.opn⟩ U1 k (HE.out.below hb4w) HS4 (Nat.le_refl _) hR).mono ?_; rintro e w5 ⟨rfl, HS5, hb5⟩; have hb5w := hb4w.trans hb5))
      go_roundw
      case rel => exact ⟨i + 1, U1, by omega, by go_num, hP1, hU1, HS5, hb5w⟩
      case measure => simp [intOf]; omega
    · obtain rfl : i = fn := by omega
      rw [List.drop_of_length_le (by have := HH.out.2.1; omega)] at hPU
      obtain rfl := hPU.done
      obtain ⟨tv, dv, n, m, h⟩ := hSU.out
      obtain ⟨q0, q1, q2, q3⟩ := h.prv.cells
      go_wp2_with fail
      go_ret2
      exact ⟨⟨_, n, rfl, ⟨h.txt.len, h.txt.out.1, h.txt.out.2.imp id (fun ⟨g, c, cur, e1, e2, e3⟩ => ⟨g, c, cur, e1, by omega, e3⟩)⟩⟩, hbrw⟩
end Go.Proofs.YtjepkcebfojiaaaDoor
