import Derived.Test.YtjiaedckecfjbaaDoorVfT
import Derived.RangeFuncIn
import Derived.RangeFuncLeaves
set_option linter.unusedVariables false
set_option linter.unusedSimpArgs false
namespace Go.Proofs.YtjiaedckecfjbaaDoor
open Go.ChangeShapes Go.WideShapes Go.ChangeAt Go.RowKit Go.Maps Go.WideMaps

theorem only_put (w : World) (r : Nat) (o : Obj) : Only (fun q => q = r) w (w.putObj r o) := ⟨rfl, rfl, rfl, by simp, fun k _ hn => World.putObj_heap_other hn⟩
/-- A range over the reader's instructions: the caller's memory I between two rounds lies below w and is not the reader's. -/
theorem wp_rangeIns {w0 w : World} {rb : Nat} {ao : Option Addr} {n cap next gb hb : Nat} {B : List Int} {fa : Option Addr} {fc : Nat} {FS : List Rf} {Fb : Nat → Prop} {g : Operand} {ps : Array Tmp} {assign body : Code} {Q : Exit → Act → World → Prop} {a : Act}
    (h : SqS w0 w w rb ao n cap B gb hb fa fc FS Fb next) (hn : n ≤ 900000000) (hfl : FS.length ≤ 900000000) (hg : ∀ f ∈ FS, GoodF f) (hfa : ∀ b o, fa = some ⟨b, o, none⟩ → b < w.heap.size)
    (hgv : a.eval g = .func (.func 45) #[] #[.pointer (some ⟨gb, 0, none⟩), .pointer (some ⟨hb, 0, none⟩)]) (hps : ps.size = 1)
    (I : List Ri → World → Prop) (hI : ∀ pre A A', I pre A → Only (fun q => q = rb ∨ w.heap.size ≤ q) A A' → I pre A') (h0 : I [] w) (Ax : Ri → Act → World → Prop) (hAx : ∀ x a' A A', Ax x a' A → Only (fun q => q = w.heap.size + 1) A A' → Ax x a' A')
    (hassign : ∀ (l : Nat) (pre : List Ri) (x : Ri) (W : World) (K : Act → World → Prop), I pre W → w.heap.size + 1 < W.heap.size → (∀ a' W', Ax x a' W' → I pre W' → Below W.heap.size W W' → K a' W') → assign.wpIn (Fence.wide.inRound l) 3 Tryd.prog (Exit.then K (fun _ _ _ => False)) { tmps := (ps.zip #[insV x]).foldl (fun t (p, v) => t.setIfInBounds p v) a.tmps, defers := [] } W)
    (hbody : ∀ (l : Nat) (pre : List Ri) (x : Ri) (a' : Act) (W : World), Ax x a' W → I pre W → pre.length < n → (∀ L q, rdIns B FS.length FS next = .ok (L, q) → ∃ R, L = pre ++ x :: R) → body.wpIn (Fence.wide.inRound l) 3 Tryd.prog (fun e _ W' => e = .normal ∧ I (pre ++ [x]) W' ∧ Only Fb W W') a' W)
    (hok : ∀ (L : List Ri) (q : Nat) (W : World), rdIns B FS.length FS next = .ok (L, q) → I L W → Rd w0 W rb ao n cap B q → Only (fun q => q = rb ∨ Fb q) w W → W.heap[w.heap.size]? = some (.deferred (some [])) → Q .normal { a with defers := { target := .collected w.heap.size, args := #[] } :: a.defers } W)
    (hbad : ∀ (p : Nat) (W : World), rdIns B FS.length FS next = .error p → Below w0.heap.size w0 W → W.heap[w.heap.size]? = some (.deferred (some [])) → Q (.panic [{ v := .iface 52 (.int .i64 p), recovered := false }]) { a with defers := { target := .collected w.heap.size, args := #[] } :: a.defers } W) :
    (Code.rangeFunc g ps assign body).wp Tryd.prog Q a w := by
  refine (wpIn_wide (n := 5)).1 (wpIn_rangeFunc ?_)
  intro fn hfn
  obtain ⟨rec, hrec⟩ : ∃ rec : LoopState → Option Code → Loop, rec = fun st pe => { state := st, pending := pe, fn, tmps := a.tmps, params := ps, assign, body, defers := w.heap.size } := ⟨_, rfl⟩
  obtain ⟨W1, hW1⟩ : ∃ W1, (w.alloc (.deferred (some []))).alloc (.loop (rec .ready none)) = W1 := ⟨_, rfl⟩
  have hL1 : W1.heap[w.heap.size + 1]? = some (.loop (rec .ready none)) := by
    rw [← hW1]; have := World.alloc_heap_new (w.alloc (.deferred (some []))) (.loop (rec .ready none)); rwa [World.size_alloc] at this
  have hK1 : W1.heap[w.heap.size]? = some (.deferred (some [])) := by
    rw [← hW1]; exact (Below.heap_alloc _ _ _ (by simp)).trans (World.alloc_heap_new w _)
  have b1 : Below w.heap.size w W1 := by
    rw [← hW1]; exact ((Below.refl _ w).alloc (Nat.le_refl _) _).alloc (by simp) _
  have sz1 : W1.heap.size = w.heap.size + 2 := by rw [← hW1]; simp
  have lrb : rb < w.heap.size := (Array.getElem?_eq_some_iff.1 h.rd.box).1
  have lgb : gb < w.heap.size := (Array.getElem?_eq_some_iff.1 h.gbx).1
  have lhb : hb < w.heap.size := (Array.getElem?_eq_some_iff.1 h.hbx).1
  have hI1 : I [] W1 := hI _ _ _ h0 (Only.of_below b1 _)
  have hS1 : SqS w0 W1 W1 rb ao n cap B gb hb fa fc FS (fun q => Fb q ∨ q = w.heap.size + 1) next := by
    have q := h.keep b1
    refine ⟨q.rd, q.gbx, q.hbx, q.fs, q.pl, ⟨fun e => ?_, fun e => ?_, fun e => ?_, fun b o e1 e => ?_⟩, fun k e => ?_, Only.refl _ _⟩
    · rcases e with e | e
      · exact h.nf.1 e
      · omega
    · rcases e with e | e
      · exact h.nf.2.1 e
      · omega
    · rcases e with e | e
      · exact h.nf.2.2.1 e
      · omega
    · rcases e with e | e
      · exact h.nf.2.2.2 b o e1 e
      · have := hfa b o e1
        omega
    · rcases e with e | e
      · have := h.fl k e
        omega
      · have := h.rd.low.size
        omega
  refine ⟨w.heap.size + 1, [{ target := .collected w.heap.size, args := #[] }], W1, { target := .fn (.func 45) #[.pointer (some ⟨gb, 0, none⟩), .pointer (some ⟨hb, 0, none⟩)], args := #[.func (.yield (w.heap.size + 1)) #[] #[]] }, W1, 45,
    #[.func (.yield (w.heap.size + 1)) #[] #[], .pointer (some ⟨gb, 0, none⟩), .pointer (some ⟨hb, 0, none⟩)], W1, ?_, ?_, ?_, ?_, fun _ => by omega, ?_⟩
  · rw [← hW1, hrec]; exact run_enterLoop_outer _ _ _ _ _
  · simp only [resolve, hgv]
    simp [go_sem]
  · intro f' hf'; trivial
  · have eg : ∀ args w, (callFunc 45 args).run Tryd.prog w = .ok (.enter 45 args) w := enters_of Tryd.func45 (by kernel_rfl) rfl
    simp [invoke, go_sem, eg]
  · refine (callsIn_wide.2 (insSeq_any hS1 hn hfl hg (w.heap.size + 1) (fun pre W => I pre W ∧ W.heap[w.heap.size + 1]? = some (.loop (rec .ready none)) ∧ W.heap[w.heap.size]? = some (.deferred (some []))) ?_ ?_ ⟨hI1, hL1, hK1⟩)).mono ?_
    · rintro pre A A' ⟨hi, hl, hk⟩ o
      have l1 := (Array.getElem?_eq_some_iff.1 hl).1
      have l2 := (Array.getElem?_eq_some_iff.1 hk).1
      exact ⟨hI _ _ _ hi (o.mono fun i _ e => .inl e), (o.block _ l1 (by omega)).trans hl, (o.block _ l2 (by omega)).trans hk⟩
    · rintro pre x A ⟨hi, hl, hk⟩ hlen hpre
      have l1 := (Array.getElem?_eq_some_iff.1 hl).1
      have l2 := (Array.getElem?_eq_some_iff.1 hk).1
      have hy := run_yield (P := Tryd.prog) (args := #[insV x]) hl (by rw [hrec]; exact hps.symm)
      rw [hrec] at hy
      refine ⟨fn, _, assign, body, hy, roundIn_of_wpIn hfn (hassign _ pre x A _ hi l1 fun a' A1 hx hi1 bA => ?_)⟩
      have hl1 : A1.heap[w.heap.size + 1]? = some (.loop (rec .ready none)) := (bA.block _ l1).trans hl
      have hk1 : A1.heap[w.heap.size]? = some (.deferred (some [])) := (bA.block _ l2).trans hk
      have m1 := (Array.getElem?_eq_some_iff.1 hl1).1
      have m2 := (Array.getElem?_eq_some_iff.1 hk1).1
      refine ⟨_, run_beginRound hl1 (by rw [hrec]), ?_⟩
      obtain ⟨W2, hW2⟩ : ∃ W2, W2 = A1.putObj (w.heap.size + 1) (.loop { rec .ready none with state := .busy }) := ⟨_, rfl⟩
      rw [← hW2]
      have o1 : Only (fun q => q = w.heap.size + 1) A1 W2 := by rw [hW2]; exact only_put _ _ _
      have o2 : Only (fun q => q = w.heap.size + 1) A W2 := (Only.of_below bA _).on o1
      have hl2 : W2.heap[w.heap.size + 1]? = some (.loop { rec .ready none with state := .busy }) := by rw [hW2]; exact World.putObj_heap_same m1
      have hk2 : W2.heap[w.heap.size]? = some (.deferred (some [])) := (o1.block _ m2 (by omega)).trans hk1
      have hi2 : I pre W2 := hI _ _ _ hi (o2.mono fun i _ e => .inr (by have e : i = w.heap.size + 1 := e; omega))
      refine wpIn_mono (hbody _ pre x a' W2 (hAx _ _ _ _ hx o1) hi2 hlen hpre) ?_
      rintro e a3 W3 ⟨rfl, hi3, o3⟩
      have nl : ¬ Fb (w.heap.size + 1) := fun e => by have := (h.fl _ e).2; omega
      have nk : ¬ Fb w.heap.size := fun e => by have := (h.fl _ e).2; omega
      have hl3 : W3.heap[w.heap.size + 1]? = some (.loop { rec .ready none with state := .busy }) := (o3.block _ (Array.getElem?_eq_some_iff.1 hl2).1 nl).trans hl2
      have hk3 : W3.heap[w.heap.size]? = some (.deferred (some [])) := (o3.block _ (Array.getElem?_eq_some_iff.1 hk2).1 nk).trans hk2
      have he := run_endRound (P := Tryd.prog) none hl3
      rw [hrec] at he
      obtain ⟨W4, hW4⟩ : ∃ W4, W4 = W3.putObj (w.heap.size + 1) (.loop (rec .ready none)) := ⟨_, rfl⟩
      have o4 : Only (fun q => q = w.heap.size + 1) W3 W4 := by rw [hW4]; exact only_put _ _ _
      refine ⟨.bool true, W4, ?_, rfl, ⟨hI _ _ _ hi3 (o4.mono fun i _ e => .inr (by have e : i = w.heap.size + 1 := e; omega)), ?_, ?_⟩, ?_⟩
      · rw [hW4, hrec]; exact he
      · rw [hW4]; exact World.putObj_heap_same (Array.getElem?_eq_some_iff.1 hl3).1
      · exact (o4.block _ (Array.getElem?_eq_some_iff.1 hk3).1 (by omega)).trans hk3
      · exact ((o2.mono fun i _ e => .inr e).on (o3.mono fun i _ e => .inl e)).on (o4.mono fun i _ e => .inr e)
    · intro e W2 q
      have hkD : W2.heap[w.heap.size]? = some (.deferred (some [])) := by
        refine (q.on.block _ (Array.getElem?_eq_some_iff.1 hK1).1 ?_).trans hK1
        rintro (e | e | e)
        · omega
        · have := (h.fl _ e).2; omega
        · omega
      cases hr : rdIns B FS.length FS next with
      | error p =>
        have he := q.bad p hr
        subst he
        exact hbad p W2 hr q.low hkD
      | ok X =>
        obtain ⟨L, q1⟩ := X
        obtain ⟨⟨v, rfl⟩, ⟨hi, hl, hk⟩, hrd⟩ := q.ok L q1 hr
        have hend := run_endLoop (P := Tryd.prog) hl (by rw [hrec]; simp)
        rw [hrec] at hend
        obtain ⟨W5, hW5⟩ : ∃ W5, W5 = W2.putObj (w.heap.size + 1) (.loop (rec .exhausted none)) := ⟨_, rfl⟩
        have o5 : Only (fun q => q = w.heap.size + 1) W2 W5 := by rw [hW5]; exact only_put _ _ _
        refine ⟨none, W5, by rw [hW5, hrec]; exact hend, ?_⟩
        have o6 : Only (fun q => q = rb ∨ Fb q) w W2 := (Only.of_below b1 (fun q => q = rb ∨ Fb q)).trans q.on fun i hi e => by
          rcases e with e | e | e
          · exact .inl e
          · exact .inr e
          · omega
        refine hok L q1 _ hr (hI _ _ _ hi (o5.mono fun i _ e => .inr (by have e : i = w.heap.size + 1 := e; omega))) (hrd.only o5 (by omega) (fun k hk => by have hk : k = w.heap.size + 1 := hk; have := h.rd.low.size; omega)) (o6.trans o5 fun i hi e => ?_) ((o5.block _ (Array.getElem?_eq_some_iff.1 hkD).1 (by omega)).trans hkD)
        have e : i = w.heap.size + 1 := e
        omega
/-- The same with a variable that is not named. -/
theorem wp_rangeSkip {w0 w : World} {rb : Nat} {ao : Option Addr} {n cap next gb hb : Nat} {B : List Int} {fa : Option Addr} {fc : Nat} {FS : List Rf} {Fb : Nat → Prop} {g : Operand} {p : Tmp} {body : Code} {Q : Exit → Act → World → Prop} {a : Act}
    (h : SqS w0 w w rb ao n cap B gb hb fa fc FS Fb next) (hn : n ≤ 900000000) (hfl : FS.length ≤ 900000000) (hg : ∀ f ∈ FS, GoodF f) (hfa : ∀ b o, fa = some ⟨b, o, none⟩ → b < w.heap.size)
    (hgv : a.eval g = .func (.func 45) #[] #[.pointer (some ⟨gb, 0, none⟩), .pointer (some ⟨hb, 0, none⟩)])
    (I : List Ri → World → Prop) (hI : ∀ pre A A', I pre A → Only (fun q => q = rb ∨ w.heap.size ≤ q) A A' → I pre A') (h0 : I [] w)
    (hbody : ∀ (l : Nat) (pre : List Ri) (x : Ri) (W : World), I pre W → pre.length < n → (∀ L q, rdIns B FS.length FS next = .ok (L, q) → ∃ R, L = pre ++ x :: R) → body.wpIn (Fence.wide.inRound l) 3 Tryd.prog (fun e _ W' => e = .normal ∧ I (pre ++ [x]) W' ∧ Only Fb W W') { tmps := a.tmps.setIfInBounds p (insV x), defers := [] } W)
    (hok : ∀ (L : List Ri) (q : Nat) (W : World), rdIns B FS.length FS next = .ok (L, q) → I L W → Rd w0 W rb ao n cap B q → Only (fun q => q = rb ∨ Fb q) w W → W.heap[w.heap.size]? = some (.deferred (some [])) → Q .normal { a with defers := { target := .collected w.heap.size, args := #[] } :: a.defers } W)
    (hbad : ∀ (p : Nat) (W : World), rdIns B FS.length FS next = .error p → Below w0.heap.size w0 W → W.heap[w.heap.size]? = some (.deferred (some [])) → Q (.panic [{ v := .iface 52 (.int .i64 p), recovered := false }]) { a with defers := { target := .collected w.heap.size, args := #[] } :: a.defers } W) :
    (Code.rangeFunc g #[p] Code.skip body).wp Tryd.prog Q a w := by
  refine wp_rangeIns h hn hfl hg hfa hgv rfl I hI h0 (fun x a' _ => a' = { tmps := a.tmps.setIfInBounds p (insV x), defers := [] }) (fun _ _ _ _ e _ => e) ?_ ?_ hok hbad
  · intro l pre x W K hi hlt hK
    exact wpIn_skip (hK _ _ (by simp) hi (Below.refl _ _))
  · rintro l pre x a' W rfl hi hlen hpre
    exact hbody l pre x W hi hlen hpre
end Go.Proofs.YtjiaedckecfjbaaDoor
