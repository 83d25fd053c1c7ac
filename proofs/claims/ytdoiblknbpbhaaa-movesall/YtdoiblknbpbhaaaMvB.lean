import Derived.Test.YtdoiblknbpbhaaaDmA
import Derived.Test.YtdoiblknbpbhaaaMvA
import Derived.Maps.Own
import Derived.Maps.OwnSet
import Derived.Maps.Views
import Derived.WideKeyEntry
import Derived.DeepKeys4
set_option linter.unusedVariables false
set_option linter.unusedSimpArgs false
namespace Go.Proofs.Ytdoiblknbpbhaaa
open Go.ChangeShapes Go.WideShapes Go.ChangeAt Go.RowKit Go.Maps
open Go.ChangeMaps (setBlock heap_setBlock_same heap_setBlock_other)

/-- A place's or a number's two parts are numbers of the machine. -/
structure FitL (p : Lc) : Prop where
  k : Fits p.1
  n : Fits p.2
abbrev lcV (p : Lc) : Value := .agg #[.int .i64 p.1, .int .i64 p.2]
def kl (p : Lc) : Lit := .string (keyBytes [.int .i64 p.1, .int .i64 p.2])
theorem kt : Try.prog.keyType 24 = true := by kernel_rfl
theorem cellsLoc : Try.prog.cellsOf 24 = 2 := by kernel_rfl
theorem cellsInt : Try.prog.cellsOf 3 = 1 := by kernel_rfl
theorem tsize : ∃ m, Try.prog.types.size = m + 1 := ⟨_, rfl⟩
theorem laidOut : laidOutB Try.prog = true := by kernel_rfl
theorem rowLoc : (24 : TypeId) < Try.prog.types.size := of_decide_eq_true (by kernel_rfl)
theorem wideLoc : (match Try.prog.underlying 24 with | some (.array _ _) | some (.struct _) => true | _ => false) = true := by rw [Try.underlying24]
theorem lawLoc : WideMaps.KeyLaw Try.prog 24 := deep_law_laid laidOut (m := 3) (by omega) rowLoc (by kernel_rfl) wideLoc
theorem keyedLoc : Keyed Try.prog 24 := Keyed.of_law lawLoc
theorem key_of {p : Lc} (h : FitL p) : keyOf Try.prog 24 (.agg #[.int .i64 p.1, .int .i64 p.2]) = some (kl p) := by
  obtain ⟨m, hm⟩ := tsize
  have h1 := h.k.wf
  have h2 := h.n.wf
  unfold keyOf
  rw [Try.underlying24]
  simp only [kt, Bool.true_and]
  rw [if_pos (by simp [Value.formed, Try.underlying24, cellsLoc])]
  rw [hm]
  simp [Program.keyLits, Try.underlying24, Try.underlying3, cellsLoc, cellsInt, Value.cells, h1, h2, kl]
theorem kl_inj {p q : Lc} (hp : FitL p) (hq : FitL q) (e : kl p = kl q) : p = q := by
  have h := keyedLoc.inj (key_of hp) (by rw [e]; exact key_of hq)
  simp at h
  exact Prod.ext h.1 h.2
/-- A map by places at block mb: h tells what it has, g what it holds (0 where it has nothing). -/
structure MpL (w : World) (mb n : Nat) (h : Lc → Bool) (g : Lc → Int) : Prop where
  out : ∃ D, w.ownsMap Try.prog 24 (plainElem (H := Unit) Try.prog 3) mb n D ∧ IsMap D ∧ ∀ p, FitL p → Maps.has D (kl p) = h p ∧ D.atKey (kl p) (.lit (.int .i64 0)) = .lit (.int .i64 (g p))
theorem zeroI (w : World) : (zeroValue 3).run Try.prog w = .ok (.int .i64 0) w := by kernel_rfl
theorem MpL.made (w : World) : MpL (w.alloc (.map #[] 0)) w.heap.size 0 (fun _ => false) (fun _ => 0) :=
  ⟨.map [], World.ownsMap_made w _ _ _, isMap_empty, fun p _ => ⟨rfl, rfl⟩⟩
theorem MpL.mono {w mb n h g} (H : MpL w mb n h g) {n' : Nat} (hn : n ≤ n') : MpL w mb n' h g := by
  obtain ⟨D, d1, d2⟩ := H.out
  exact ⟨D, d1.mono hn, d2⟩
theorem MpL.lt {w mb n h g} (H : MpL w mb n h g) : mb < w.heap.size := by
  obtain ⟨D, d1, _⟩ := H.out
  exact d1.lt
theorem MpL.move {w w' : World} {mb n h g} (H : MpL w mb n h g) (hk : w'.heap[mb]? = w.heap[mb]?) : MpL w' mb n h g := by
  obtain ⟨D, ⟨es, cl, e1, e2⟩, d2⟩ := H.out
  exact ⟨D, ⟨es, cl, hk.trans e1, e2⟩, d2⟩
theorem MpL.isMap {w mb n h g} (H : MpL w mb n h g) : ∃ es cl, w.heap[mb]? = some (.map es cl) := by
  obtain ⟨D, ⟨es, cl, e1, _⟩, _⟩ := H.out
  exact ⟨es, cl, e1⟩
theorem MpL.look {w mb n h g} (H : MpL w mb n h g) {p : Lc} (hp : FitL p) : (Instr.lookup 51 (.map (some mb)) (.agg #[.int .i64 p.1, .int .i64 p.2]) false).run Try.prog w = .ok (.int .i64 (g p)) w := by
  obtain ⟨D, d1, d2, d3⟩ := H.out
  obtain ⟨c, hrun, hat, hwc⟩ := d1.lookup_int keyedLoc Try.underlying51 Try.underlying3 (zeroI w) (key_of hp)
  rw [(d3 p hp).2] at hat
  have e : g p = c := by simpa using hat
  rw [e]
  exact hrun
theorem MpL.look2 {w mb n h g} (H : MpL w mb n h g) {p : Lc} (hp : FitL p) : (Instr.lookup 51 (.map (some mb)) (.agg #[.int .i64 p.1, .int .i64 p.2]) true).run Try.prog w = .ok (.tuple #[.int .i64 (g p), .bool (h p)]) w := by
  obtain ⟨D, d1, d2, d3⟩ := H.out
  obtain ⟨v, ps, hrun, hv⟩ := d1.look_ok keyedLoc Try.underlying51 (zeroI w) (plainElem_int (H := Unit) Try.underlying3 (q := .i64) (a := 0) (by decide)) (key_of hp)
  rw [(d3 p hp).2] at hv
  obtain ⟨c, rfl, hc, hwc⟩ := plainElem_int_inv Try.underlying3 hv
  rw [(d3 p hp).1] at hrun
  have e : g p = c := by simp at hc; exact hc.1
  rw [e]
  exact hrun
theorem MpL.put {w mb n h g} (H : MpL w mb n h g) (hn : n < 1000000000) {p : Lc} (hp : FitL p) {v : Int} (hv : Fits v) : ∃ w', (Instr.mapUpdate 51 (.map (some mb)) (.agg #[.int .i64 p.1, .int .i64 p.2]) (.int .i64 v)).run Try.prog w = .ok () w' ∧ MpL w' mb (n + 1) (fun q => decide (q = p) || h q) (fun q => if q = p then v else g q) ∧ w.grownBy w' (some mb) := by
  obtain ⟨D, d1, d2, d3⟩ := H.out
  obtain ⟨w', hrun, o1, g1⟩ := d1.update keyedLoc Try.underlying51 (by unfold maxLen; omega) (key_of hp) (plainElem_int Try.underlying3 hv.wf)
  refine ⟨w', hrun, ⟨_, o1, d2.put _ _, fun q hq => ?_⟩, g1⟩
  by_cases e : q = p
  · subst e
    exact ⟨by rw [has_put_same d2 (keyedLoc.key (key_of hq))]; simp, by rw [atKey_put_same d2 (keyedLoc.key (key_of hq)), if_pos rfl]⟩
  · have hne : kl q ≠ kl p := fun e2 => e (kl_inj hq hp e2)
    exact ⟨by rw [has_put_other hne, (d3 q hq).1]; simp [e], by rw [atKey_put_other hne, (d3 q hq).2, if_neg e]⟩
theorem grown_set {w : World} {b : Nat} {es : Array MapEntry} {cl : Nat} (hb : w.heap[b]? = some (.map es cl)) (o : Obj) : w.grownBy (setBlock w b o) (some b) :=
  ⟨rfl, rfl, rfl, by simp [setBlock], fun i _ hi => heap_setBlock_other hb _ (fun e => hi (by rw [e]))⟩
/-- What mapEntry leaves: the map as it is, or one entry more that holds 0. -/
theorem entry_shape {w : World} {b : Nat} {es : Array MapEntry} {cl : Nat} {R : Value → Option (DataW Unit × List MemPlace)} (hb : w.heap[b]? = some (.map es cl)) (F : WideElems.Fit Try.prog 24 R es cl) {key : Value} {l : Lit} (hkey : keyOf Try.prog 24 key = some l) :
    ∃ x, (Instr.mapEntry 51 (.map (some b)) key).run Try.prog w = .ok x (setBlock w b (.map es cl)) ∨ ((Instr.mapEntry 51 (.map (some b)) key).run Try.prog w = .ok x (setBlock w b (.map (es.push ⟨key, .int .i64 0, cl⟩) (cl + 1))) ∧ (Instr.mapUpdate 51 (.map (some b)) key (.int .i64 0)).run Try.prog w = .ok () (setBlock w b (.map (es.push ⟨key, .int .i64 0, cl⟩) (cl + 1))) ∧ (Instr.lookup 51 (.map (some b)) key false).run Try.prog w = .ok (.int .i64 0) w) := by
  have K := lawLoc
  have ht := Try.underlying51
  rcases K.find w hkey es.toList F.keys with ⟨h1, h2⟩ | ⟨j, e0, h1, h2, h3⟩
  · refine ⟨.tuple #[.int .i64 0, goInt cl], .inr ⟨?_, ?_, ?_⟩⟩
    · simp [Instr.mapEntry, run_underlying ht, MapKept.run_getObj_map hb, K.check w false hkey, h1, zeroI, MapKept.run_setObj_map _ hb, Result.andThen, setBlock]
    · simp [Instr.mapUpdate, run_underlying ht, MapKept.run_getObj_map hb, K.check w false hkey, h1, MapKept.run_setObj_map _ hb, Result.andThen, setBlock]
    · obtain ⟨hr, _⟩ | ⟨e0, y, he0, hk0, _⟩ := fit_look false keyedLoc ht (zeroI w) hb F hkey
      · exact hr
      · exact absurd hk0 (h2 e0 he0)
  · have hj : es[j]? = some e0 := by simpa using h2
    have hsame : es.modify j (fun e => { e with key := key }) = es := by
      apply Array.ext'
      rw [Array.toList_modify, List.modify_eq_set, h2]
      simp only [Option.map_some, Option.getD_some]
      have : ({ e0 with key := key } : MapEntry) = e0 := by rw [← h3]
      simp [this]
      exact WideElems.set_self _ _ _ h2
    refine ⟨.tuple #[e0.val, goInt e0.born], .inl ?_⟩
    simp [Instr.mapEntry, run_underlying ht, MapKept.run_getObj_map hb, K.check w false hkey, h1, hj, h3, K.stays w hkey, hsame, MapKept.run_setObj_map _ hb, Result.andThen, setBlock]
theorem MpL.entry {w mb n h g} (H : MpL w mb n h g) (hn : n < 1000000000) {p : Lc} (hp : FitL p) : ∃ (v0 : Value) (st : Nat) (w1 : World) (h1 : Lc → Bool), (Instr.mapEntry 51 (.map (some mb)) (.agg #[.int .i64 p.1, .int .i64 p.2])).run Try.prog w = .ok (.tuple #[v0, .int .i64 st]) w1 ∧ MpL w1 mb (n + 1) h1 g ∧ w.grownBy w1 (some mb) ∧
      ∀ w2 : World, w2.heap[mb]? = w1.heap[mb]? → ∀ v : Int, Fits v → ∃ w3, (Instr.entryStore 51 (.map (some mb)) (.int .i64 st) (.int .i64 v)).run Try.prog w2 = .ok () w3 ∧ MpL w3 mb (n + 1) (fun q => decide (q = p) || h q) (fun q => if q = p then v else g q) ∧ w2.grownBy w3 (some mb) := by
  have H0 := H
  obtain ⟨D, ⟨es, cl, hb, F, hs, hD⟩, d2, d3⟩ := H.out
  obtain ⟨v0, st, es1, c1, r1, _, r3⟩ := WideElems.entry_then_store lawLoc Try.underlying51 (zeroI) hb F (key_of hp)
  have hw1 : (setBlock w mb (.map es1 c1)).heap[mb]? = some (.map es1 c1) := heap_setBlock_same hb _
  have hM : ∃ h1, MpL (setBlock w mb (.map es1 c1)) mb (n + 1) h1 g := by
    obtain ⟨x, e | ⟨e, e2, e5⟩⟩ := entry_shape hb F (key_of hp)
    · rw [r1] at e
      have e3 : setBlock w mb (.map es1 c1) = setBlock w mb (.map es cl) := by injection e
      rw [e3]
      exact ⟨h, (H0.move ((heap_setBlock_same hb _).trans hb.symm)).mono (by omega)⟩
    · rw [r1] at e
      obtain ⟨w', q1, q2, q3⟩ := H0.put hn hp (v := 0) (by unfold Fits; omega)
      rw [e2] at q1
      have e3 : setBlock w mb (.map es1 c1) = setBlock w mb (.map (es.push ⟨.agg #[.int .i64 p.1, .int .i64 p.2], .int .i64 0, cl⟩) (cl + 1)) := by injection e
      have e4 : setBlock w mb (.map (es.push ⟨.agg #[.int .i64 p.1, .int .i64 p.2], .int .i64 0, cl⟩) (cl + 1)) = w' := by injection q1
      rw [e3, e4]
      rw [H0.look hp] at e5
      have e6 : g p = 0 := by injection e5 with e5; injection e5
      have e7 : (fun q => if q = p then 0 else g q) = g := by
        funext q
        by_cases e : q = p
        · rw [if_pos e, e, e6]
        · rw [if_neg e]
      rw [e7] at q2
      exact ⟨_, q2⟩
  obtain ⟨h1, hM⟩ := hM
  refine ⟨v0, st, _, h1, r1, hM, grown_set hb _, fun w2 hw2 v hv => ?_⟩
  have hw2' := hw2.trans hw1
  obtain ⟨es', c', q1, q2⟩ := r3 w2 (.int .i64 v) hw2'
  obtain ⟨w', p1, p2, p3⟩ := H0.put hn hp hv
  rw [q2] at p1
  have e4 : setBlock w mb (.map es' c') = w' := by injection p1
  rw [← e4] at p2
  exact ⟨_, q1, p2.move ((heap_setBlock_same hw2' _).trans (heap_setBlock_same hb _).symm), grown_set hw2' _⟩
end Go.Proofs.Ytdoiblknbpbhaaa
