import Derived.Test.YtjiaedckecfjbaaDoorVfV
set_option linter.unusedVariables false
set_option linter.unusedSimpArgs false
namespace Go.Proofs.YtjiaedckecfjbaaDoor
open Go.ChangeShapes Go.WideShapes Go.ChangeAt Go.RowKit Go.Maps Go.WideMaps
attribute [local go_sem] Oper.semAt_some

theorem rdN_len {B k least most next v} (h : rdN B k least most next = .ok v) : next + k ≤ B.length := by
  unfold rdN at h
  split at h
  · cases h
  · omega
theorem rdNm_len {B M next T} (h : rdNm B M next = .ok T) : 1 ≤ T.length ∧ next + 1 + T.length ≤ B.length := by
  unfold rdNm at h
  split at h
  · cases h
  · next k e1 =>
    have r := rdN_range e1
    split at h
    · cases h
    · next q =>
      split at h
      · cases h
        have e : (fldT B (next + 1) k.toNat).length = k.toNat := by
          unfold fldT
          rw [List.length_map]
          exact fldB_len B (by omega)
        rw [e]
        omega
      · cases h
theorem rdFn_len {B M params next T fr ct pa} (h : rdFn B M params next = .ok (T, fr, ct, pa)) : 1 ≤ T.length ∧ next + 1 + T.length + 8 + 4 + 1 ≤ B.length := by
  unfold rdFn at h
  split at h
  · cases h
  · next e0 =>
    split at h
    · cases h
    · split at h
      · cases h
      · split at h
        · cases h
        · next e3 =>
          cases h
          have := rdNm_len e0
          have := rdN_len e3
          omega
theorem rdFns_good {B : List Int} {main : Int} (hB : B.length ≤ 268435456) : ∀ {m : Nat} {i first : Int} {A FS : List Rf} {next q : Nat}, rdFns B main m i first A next = .ok (FS, q) → (∀ f ∈ A, GoodF f) → 0 ≤ first ∧ first ≤ 4294967295 * (A.length : Int) → A.length * 15 ≤ next → ∀ f ∈ FS, GoodF f
  | 0, i, first, A, FS, next, q, h, hA, _, _ => by
    simp only [rdFns, Except.ok.injEq, Prod.mk.injEq] at h
    obtain ⟨rfl, rfl⟩ := h
    exact hA
  | m + 1, i, first, A, FS, next, q, h, hA, hf, hl => by
    simp only [rdFns] at h
    cases hr : rdFn B (A.map fun f : Rf => nml f.name) (if i = main then 0 else 8) next with
    | error p => rw [hr] at h; cases h
    | ok x =>
      rw [hr] at h
      obtain ⟨T, fr, ct, pa⟩ := x
      have hg := rdFn_rng hr
      have hn := rdFn_len hr
      refine rdFns_good hB h (fun f hf2 => ?_) ?_ ?_
      · rcases List.mem_append.1 hf2 with e | e
        · exact hA f e
        · rw [List.mem_singleton] at e
          subst e
          refine ⟨hg.1, hf.1, hg.2.1.1, hg.2.1.2, ?_⟩
          show first + ct ≤ _
          have := hg.2.1
          omega
      · rw [List.length_append, List.length_singleton]
        have := hg.2.1
        omega
      · rw [List.length_append, List.length_singleton]
        omega
theorem rdFns_fewA {B : List Int} {main : Int} : ∀ {m : Nat} {i first : Int} {A FS : List Rf} {next q : Nat}, rdFns B main m i first A next = .ok (FS, q) → A.length * 15 ≤ next → next ≤ B.length → FS.length * 15 ≤ B.length
  | 0, i, first, A, FS, next, q, h, hA, hB => by
    simp only [rdFns, Except.ok.injEq, Prod.mk.injEq] at h
    obtain ⟨rfl, rfl⟩ := h
    omega
  | m + 1, i, first, A, FS, next, q, h, hA, hB => by
    simp only [rdFns] at h
    cases hr : rdFn B (A.map fun f : Rf => nml f.name) (if i = main then 0 else 8) next with
    | error p => rw [hr] at h; cases h
    | ok x =>
      rw [hr] at h
      obtain ⟨T, fr, ct, pa⟩ := x
      have hn := rdFn_len hr
      refine rdFns_fewA h ?_ hn.2
      rw [List.length_append, List.length_singleton]
      omega
theorem rdFns_few {B : List Int} {main : Int} {m : Nat} {FS : List Rf} {next q : Nat} (h : rdFns B main m 0 0 [] next = .ok (FS, q)) : FS.length ≤ B.length ∨ FS.length = 0 := by
  cases m with
  | zero =>
    simp only [rdFns, Except.ok.injEq, Prod.mk.injEq] at h
    right
    rw [← h.1]
    rfl
  | succ m =>
    left
    have h0 := h
    simp only [rdFns] at h
    cases hr : rdFn B (([] : List Rf).map fun f : Rf => nml f.name) (if (0 : Int) = main then 0 else 8) next with
    | error p => rw [hr] at h; cases h
    | ok x =>
      obtain ⟨T, fr, ct, pa⟩ := x
      have hn := rdFn_len hr
      have := rdFns_fewA h0 (by simp) (by omega)
      omega
theorem rdIns1_more {B : List Int} {f : Rf} {k : Int} : ∀ {m next : Nat} {L : List Ri} {q : Nat}, rdIns1 B f k m next = .ok (L, q) → next + L.length ≤ q
  | 0, next, L, q, h => by
    simp only [rdIns1, Except.ok.injEq, Prod.mk.injEq] at h
    obtain ⟨rfl, rfl⟩ := h
    exact Nat.le_refl _
  | m + 1, next, L, q, h => by
    simp only [rdIns1] at h
    split at h
    · cases h
    · next x q1 e1 =>
      split at h
      · cases h
      · next L1 q2 e2 =>
        cases h
        have := rdIn_more e1
        have := rdIns1_more e2
        rw [List.length_cons]
        omega
theorem rdIns_more {B : List Int} {k : Int} : ∀ {FS : List Rf} {next : Nat} {L : List Ri} {q : Nat}, rdIns B k FS next = .ok (L, q) → next + L.length ≤ q
  | [], next, L, q, h => by
    simp only [rdIns, Except.ok.injEq, Prod.mk.injEq] at h
    obtain ⟨rfl, rfl⟩ := h
    exact Nat.le_refl _
  | f :: FS, next, L, q, h => by
    simp only [rdIns] at h
    split at h
    · cases h
    · next L1 q1 e1 =>
      split at h
      · cases h
      · next L2 q2 e2 =>
        cases h
        have := rdIns1_more e1
        have := rdIns_more e2
        rw [List.length_append]
        omega
/-- A row that is the caller's, as a slice that is read. -/
theorem rowSts {w : World} {B : Nat} {e : TypeId} {z n c : Nat} {ao : Option Addr} {xs : List (List Value)} (h : Row w B e z (.slice ao n c) xs) (hn : 0 < xs.length) (hz : 0 < z) (h1 : ∀ u ∈ xs.flatten, u.oneCell' = true) : n = xs.length ∧ StsG w ao c z xs ∧ ∃ b, ao = some ⟨b, 0, none⟩ ∧ B ≤ b ∧ b < w.heap.size := by
  obtain ⟨g, c2, q, p1, p2, p3, p4⟩ := own_some h.out hn
  cases q
  refine ⟨rfl, ⟨p1, p2, h.len, h1, fun _ => ⟨g, 0, rfl, p4, fun j u hu => ?_⟩⟩, g, rfl, p3, p4⟩
  have hj : j < xs.flatten.length := (List.getElem?_eq_some_iff.1 hu).1
  rw [flat_len xs h.len] at hj
  rw [Nat.zero_add, own_cell h.out j hj, hu]
theorem rfv_one (FS : List Rf) : ∀ u ∈ (FS.map rfv).flatten, u.oneCell' = true := fun u hu => by
  obtain ⟨x, hx, hu⟩ := List.mem_flatten.1 hu
  obtain ⟨f, _, rfl⟩ := List.mem_map.1 hx
  simp [rfv] at hu
  rcases hu with rfl | rfl | rfl | rfl | rfl <;> rfl
theorem own_baseF {w : World} {B B' e s n xs} {v : Value} (h : w.ownsRow B e s v n xs) (hB : B' ≤ B) : w.ownsRow B' e s v n xs := by
  refine ⟨h.1, h.2.imp id ?_⟩
  rintro ⟨g, cap, cur, e1, e2, e3⟩
  exact ⟨g, cap, cur, e1, by omega, e3⟩
/-- Code that is not yet. -/
def zCd : Array Value := #[.slice none 0 0, .slice none 0 0, .int .i64 0]
/-- The reader and the two boxes of code. -/
structure CdS (w0 w W : World) (rb : Nat) (ao : Option Addr) (n cap : Nat) (B : List Int) (sb cb : Nat) (X : Array Value) (next : Nat) : Prop where
  rd : Rd w0 W rb ao n cap B next
  only : Only (fun q => q = rb) w W
  sbox : W.heap[sb]? = some (.cells zCd 25 (0, 0))
  cbox : W.heap[cb]? = some (.cells X 25 (0, 0))
  pl : rb < w.heap.size ∧ w.heap.size = sb ∧ cb = sb + 1
theorem CdS.moved {w0 w W W' rb ao n cap B sb cb X next next'} (h : CdS w0 w W rb ao n cap B sb cb X next) (r : Rd w0 W' rb ao n cap B next') (o : Only (fun q => q = rb) W W') : CdS w0 w W' rb ao n cap B sb cb X next' :=
  ⟨r, h.only.on o, (o.block _ (Array.getElem?_eq_some_iff.1 h.sbox).1 (by have := h.pl; omega)).trans h.sbox, (o.block _ (Array.getElem?_eq_some_iff.1 h.cbox).1 (by have := h.pl; omega)).trans h.cbox, h.pl⟩
theorem CdS.keep {w0 w W W' rb ao n cap B sb cb X next} (h : CdS w0 w W rb ao n cap B sb cb X next) (b : Below W.heap.size W W') : CdS w0 w W' rb ao n cap B sb cb X next := h.moved (h.rd.keep b) (Only.of_below b _)
theorem CdS.far {w0 w W W' rb ao n cap B sb cb X next next'} {F : Nat → Prop} (h : CdS w0 w W rb ao n cap B sb cb X next) (r : Rd w0 W' rb ao n cap B next') (o : Only F W W') (hF : ∀ q, F q → q = rb ∨ cb < q) : CdS w0 w W' rb ao n cap B sb cb X next' := by
  have p := h.pl
  refine ⟨r, h.only.trans o (fun i hi e => ?_), (o.block _ (Array.getElem?_eq_some_iff.1 h.sbox).1 (fun e => by have := hF _ e; omega)).trans h.sbox, (o.block _ (Array.getElem?_eq_some_iff.1 h.cbox).1 (fun e => by have := hF _ e; omega)).trans h.cbox, h.pl⟩
  have := hF _ e
  show i = rb
  omega
theorem CdS.set {w0 w W rb ao n cap B sb cb X next} (h : CdS w0 w W rb ao n cap B sb cb X next) (i : Nat) (u : Value) : CdS w0 w (W.setCell ⟨cb, i, none⟩ u) rb ao n cap B sb cb (X.setIfInBounds i u) next := by
  have o : Only (fun q => q = cb) W (W.setCell ⟨cb, i, none⟩ u) := Only.of_set W ⟨cb, i, none⟩ u
  have p := h.pl
  have p3 := h.rd.ge
  exact ⟨h.rd.only o (by omega) (fun k hk => by have hk : k = cb := hk; omega), h.only.trans o (fun q hq e => by have e : q = cb := e; omega), (o.block _ (Array.getElem?_eq_some_iff.1 h.sbox).1 (by omega)).trans h.sbox, heap_set_at (i := i) (v := u) h.cbox, h.pl⟩
theorem CdS.start {w0 w rb ao n cap B next} (h : Rd w0 w rb ao n cap B next) : CdS w0 w ((w.alloc (.cells zCd 25)).alloc (.cells zCd 25)) rb ao n cap B w.heap.size (w.heap.size + 1) zCd next := by
  have s1 : (w.alloc (.cells zCd 25)).heap.size = w.heap.size + 1 := Array.size_push _
  have b : Below w.heap.size w ((w.alloc (.cells zCd 25)).alloc (.cells zCd 25)) := (below_newX w _).alloc (by rw [s1]; exact Nat.le_succ _) _
  refine ⟨h.keep b, Only.of_below b _, ?_, ?_, (Array.getElem?_eq_some_iff.1 h.box).1, rfl, rfl⟩
  · exact ((below_newX (w.alloc (.cells zCd 25)) _).block w.heap.size (by rw [s1]; exact Nat.lt_succ_self _)).trans (heap_alloc_new _ _)
  · have := heap_alloc_new (w.alloc (.cells zCd 25)) (.cells zCd 25)
    rwa [s1] at this
/-- The count of instructions in its box. -/
structure TotS (W : World) (tb k : Nat) : Prop where
  out : W.heap[tb]? = some (.cells #[.int .i64 (k : Int)] 3 (0, 0))
theorem TotS.move {W W' tb k} {F : Nat → Prop} (h : TotS W tb k) (o : Only F W W') (hF : ¬ F tb) : TotS W' tb k := ⟨(o.block _ (Array.getElem?_eq_some_iff.1 h.out).1 hF).trans h.out⟩
theorem TotS.set {W tb k} (h : TotS W tb k) (j : Nat) : TotS (W.setCell ⟨tb, 0, none⟩ (.int .i64 (j : Int))) tb j := ⟨heap_set_at (i := 0) (v := .int .i64 (j : Int)) h.out⟩
theorem Rd.back {w0 W rb ao n cap B next} (h : Rd w0 W rb ao n cap B next) (k : Nat) (hk : k ≤ n) : Rd w0 (W.setCell ⟨rb, 1, none⟩ (.int .i64 (k : Int))) rb ao n cap B k :=
  ⟨heap_set_at (i := 1) (v := .int .i64 (k : Int)) h.box, h.by_, h.low.setCell h.ge _, h.ge, h.cap, hk⟩
/-- Code, its functions read, its instructions counted. -/
structure CdT (w0 w W : World) (rb : Nat) (ao : Option Addr) (n cap : Nat) (B : List Int) (sb cb : Nat) (X : Array Value) (tb db gf fn fc k : Nat) (FS : List Rf) (next : Nat) : Prop where
  cd : CdS w0 w W rb ao n cap B sb cb X next
  tot : TotS W tb k
  dd : W.heap[db]? = some (.deferred (some []))
  row : Row W (cb + 1) 40 5 (.slice (some ⟨gf, 0, none⟩) fn fc) (FS.map rfv)
  pt : cb < gf ∧ gf < tb ∧ tb < db
theorem CdT.far {w0 w W W' rb ao n cap B sb cb X tb db gf fn fc k FS next next'} {F : Nat → Prop} (h : CdT w0 w W rb ao n cap B sb cb X tb db gf fn fc k FS next) (r : Rd w0 W' rb ao n cap B next') (o : Only F W W') (hF : ∀ q, F q → q = rb ∨ db < q) : CdT w0 w W' rb ao n cap B sb cb X tb db gf fn fc k FS next' := by
  have p := h.cd.pl
  have p2 := h.pt
  refine ⟨h.cd.far r o (fun q e => by have := hF q e; omega), h.tot.move o (fun e => by have := hF _ e; omega), (o.block _ (Array.getElem?_eq_some_iff.1 h.dd).1 (fun e => by have := hF _ e; omega)).trans h.dd, h.row.move fun g hg => ?_, h.pt⟩
  have e : g = gf := by
    simp [Value.ownBlock] at hg
    exact hg.symm
  exact o.block g (own_block h.row.out hg).2 (fun e => by have := hF _ e; omega)
theorem CdT.keep {w0 w W W' rb ao n cap B sb cb X tb db gf fn fc k FS next} (h : CdT w0 w W rb ao n cap B sb cb X tb db gf fn fc k FS next) (b : Below W.heap.size W W') : CdT w0 w W' rb ao n cap B sb cb X tb db gf fn fc k FS next := h.far (F := fun _ => False) (h.cd.rd.keep b) (Only.of_below b _) (fun _ e => e.elim)
theorem CdT.set {w0 w W rb ao n cap B sb cb X tb db gf fn fc k FS next} (h : CdT w0 w W rb ao n cap B sb cb X tb db gf fn fc k FS next) (i : Nat) (u : Value) : CdT w0 w (W.setCell ⟨cb, i, none⟩ u) rb ao n cap B sb cb (X.setIfInBounds i u) tb db gf fn fc k FS next := by
  have o : Only (fun q => q = cb) W (W.setCell ⟨cb, i, none⟩ u) := Only.of_set W ⟨cb, i, none⟩ u
  have p2 := h.pt
  refine ⟨h.cd.set i u, h.tot.move o (by omega), (o.block _ (Array.getElem?_eq_some_iff.1 h.dd).1 (by omega)).trans h.dd, h.row.move fun g hg => ?_, h.pt⟩
  have e : g = gf := by
    simp [Value.ownBlock] at hg
    exact hg.symm
  exact o.block g (own_block h.row.out hg).2 (by omega)
theorem CdT.fin {w0 w W rb ao n cap B sb cb X tb db gf fn fc k FS next} (h : CdT w0 w W rb ao n cap B sb cb X tb db gf fn fc k FS next) (u0 u1 u2 : Value) :
    (((W.setCell ⟨sb, 0, none⟩ u0).setCell ⟨sb, 1, none⟩ u1).setCell ⟨sb, 2, none⟩ u2).heap[sb]? = some (.cells #[u0, u1, u2] 25 (0, 0)) ∧ (((W.setCell ⟨sb, 0, none⟩ u0).setCell ⟨sb, 1, none⟩ u1).setCell ⟨sb, 2, none⟩ u2).heap[db]? = some (.deferred (some [])) ∧ Only (fun q => q = sb) W (((W.setCell ⟨sb, 0, none⟩ u0).setCell ⟨sb, 1, none⟩ u1).setCell ⟨sb, 2, none⟩ u2) := by
  have o1 : ∀ (V : World) (i : Nat) (u : Value), Only (fun q => q = sb) V (V.setCell ⟨sb, i, none⟩ u) := fun V i u => Only.of_set V ⟨sb, i, none⟩ u
  have o : Only (fun q => q = sb) W (((W.setCell ⟨sb, 0, none⟩ u0).setCell ⟨sb, 1, none⟩ u1).setCell ⟨sb, 2, none⟩ u2) := ((o1 _ _ _).on (o1 _ _ _)).on (o1 _ _ _)
  have p1 := h.cd.pl
  have p2 := h.pt
  have a0 := heap_set_at (i := 0) (v := u0) h.cd.sbox
  have a1 := heap_set_at (i := 1) (v := u1) a0
  exact ⟨heap_set_at (i := 2) (v := u2) a1, (o.block _ (Array.getElem?_eq_some_iff.1 h.dd).1 (by omega)).trans h.dd, o⟩
/-- What is made ahead of the second reading: the room, the closure's boxes. -/
structure MkS (W X : World) (rb : Nat) (fa : Option Addr) (fn fc N gi hb gb : Nat) : Prop where
  row : X.ownsRow W.heap.size 55 5 (.slice (some ⟨gi, 0, none⟩) 0 N) 0 []
  hbx : X.heap[hb]? = some (.cells #[.pointer (some ⟨rb, 0, none⟩)] 63 (0, 0))
  gbx : X.heap[gb]? = some (.cells #[.slice fa fn fc] 23 (0, 0))
  bel : Below W.heap.size W X
  pl : W.heap.size ≤ gi ∧ W.heap.size ≤ hb ∧ W.heap.size ≤ gb ∧ gi ≠ hb ∧ gi ≠ gb ∧ gi < X.heap.size
/-- Behind a range over a function a throw asks only for its mark. -/
theorem wp_marked {P : Program} {c : Code} {Q : Exit → Act → World → Prop} {a : Act} {w : World} (D : List Deferred) (Z : List PanicEntry → World → Prop) (hz : ∀ ch t w', Z ch w' → Q (.panic ch) { tmps := t, defers := D } w')
    (h : c.wp P (fun e a' w' => match e with
      | .panic ch => a'.defers = D ∧ Z ch w'
      | e => Q e a' w') a w) : c.wp P Q a w := by
  refine Code.wp_mono (fun e a' w' q => ?_) h
  cases e with
  | panic ch =>
    obtain ⟨t, d⟩ := a'
    obtain ⟨q1, q2⟩ := q
    cases q1
    exact hz ch t w' q2
  | normal => exact q
  | ret => exact q
  | exit id => exact q
  | goto l => exact q
  | outgrown => exact q
theorem lec_two {P : Program} {ops : Array Oper} {Q : Exit → Act → World → Prop} {S : World → Prop} {z i j : Nat} {oi oj : Oper} {k : Nat} {l : Array Bool} {a : Act} {w : World} (hi : ops[i]? = some oi) (hj : ops[j]? = some oj) (hr : Region.ready .any ops l = [i, j])
    (h : ∀ K' : Act → World → Prop, (∀ a' w', ((l.setIfInBounds i true).getD z true = false → S w') → lec P ops Q S z k (l.setIfInBounds i true) a' w' → K' a' w') → if Region.wanted oi (yielded ops a.tmps) = true then Oper.wp P oi a w K' Q else K' (a.put oi.dst undef) w)
    (h' : ∀ K' : Act → World → Prop, (∀ a' w', ((l.setIfInBounds j true).getD z true = false → S w') → lec P ops Q S z k (l.setIfInBounds j true) a' w' → K' a' w') → if Region.wanted oj (yielded ops a.tmps) = true then Oper.wp P oj a w K' Q else K' (a.put oj.dst undef) w) : lec P ops Q S z (k + 1) l a w := by
  refine ⟨fun h0 => absurd h0 (by rw [hr]; simp), fun x hx => ?_⟩
  rw [hr] at hx
  simp at hx
  rcases hx with rfl | rfl
  · exact wpOp_step hi fun K' hK => h K' fun a' w' h1 h2 => hK a' w' ⟨h1, h2⟩
  · exact wpOp_step hj fun K' hK => h' K' fun a' w' h1 h2 => hK a' w' ⟨h1, h2⟩
theorem lec_l {P : Program} {ops : Array Oper} {Q : Exit → Act → World → Prop} {S : World → Prop} {z k : Nat} {l l' : Array Bool} {a : Act} {w : World} (h : l = l') (g : lec P ops Q S z k l' a w) : lec P ops Q S z k l a w := h ▸ g
theorem two_waysD {A G : Nat → Nat → Nat → World → Prop} {p : Prop} (h : (∀ P Q R X, A P Q R X → G P Q R X) → p) (g : ∀ P Q R X, A P Q R X → G P Q R X) : p := h g
theorem two_new {W0 : World} (W : World) {o1 o2 : Obj} (b : Below W0.heap.size W0 W) (hs : W.heap.size = W0.heap.size) :
    Below W0.heap.size W0 ((W.alloc o1).alloc o2) ∧ ((W.alloc o1).alloc o2).heap[W0.heap.size]? = some o1 ∧ ((W.alloc o1).alloc o2).heap[W0.heap.size + 1]? = some o2 ∧ ((W.alloc o1).alloc o2).heap.size = W0.heap.size + 2 := by
  have s1 : (W.alloc o1).heap.size = W.heap.size + 1 := Array.size_push _
  have s2 : ((W.alloc o1).alloc o2).heap.size = (W.alloc o1).heap.size + 1 := Array.size_push _
  refine ⟨(b.alloc (by omega) _).alloc (by omega) _, ?_, ?_, by omega⟩
  · exact ((below_newX (W.alloc o1) o2).block W0.heap.size (by omega)).trans (by rw [← hs]; exact heap_alloc_new W o1)
  · have q := heap_alloc_new (W.alloc o1) o2
    rw [s1, hs] at q
    exact q
theorem MkS.two {W X1 : World} {rb fn fc N : Nat} {fa : Option Addr} (b : Below W.heap.size W X1) (hr : X1.ownsRow W.heap.size 55 5 (.slice (some ⟨W.heap.size, 0, none⟩) 0 N) 0 []) :
    MkS W ((X1.alloc (.cells #[.pointer (some ⟨rb, 0, none⟩)] 63)).alloc (.cells #[.slice fa fn fc] 23)) rb fa fn fc N W.heap.size X1.heap.size (X1.heap.size + 1) := by
  obtain ⟨q1, q2, q3, q4⟩ := two_new (W0 := X1) X1 (o1 := .cells #[.pointer (some ⟨rb, 0, none⟩)] 63) (o2 := .cells #[.slice fa fn fc] 23) (Below.refl _ _) rfl
  have l1 : W.heap.size < X1.heap.size := (own_block hr rfl).2
  exact ⟨own_move hr fun g hg => q1.block g (own_block hr hg).2, q2, q3, b.trans (q1.mono b.size), Nat.le_refl _, by omega, by omega, by omega, by omega, by omega⟩
theorem MkS.one {W w5 X1 : World} {rb fn fc N : Nat} {fa : Option Addr} (b : Below W.heap.size W w5 ∧ w5.heap[W.heap.size]? = some (.cells #[.pointer (some ⟨rb, 0, none⟩)] 63 (0, 0)) ∧ w5.heap[W.heap.size + 1]? = some (.cells #[.slice fa fn fc] 23 (0, 0)) ∧ w5.heap.size = W.heap.size + 2) (hr : X1.ownsRow W.heap.size 55 5 (.slice (some ⟨w5.heap.size, 0, none⟩) 0 N) 0 []) (g : w5.grownBy X1 none) :
    MkS W X1 rb fa fn fc N w5.heap.size W.heap.size (W.heap.size + 1) := by
  obtain ⟨b1, b2, b3, b4⟩ := b
  have l1 : w5.heap.size < X1.heap.size := (own_block hr rfl).2
  have k : ∀ i, i < w5.heap.size → X1.heap[i]? = w5.heap[i]? := fun i hi => g.block i hi (fun e => by cases e)
  exact ⟨hr, (k _ (by omega)).trans b2, (k _ (by omega)).trans b3, b1.grown g b1.size (fun k hk => by cases hk), by omega, Nat.le_refl _, by omega, by omega, by omega, l1⟩
/-- What code answers. -/
structure CodP (w0 w w' : World) (B : List Int) (e : Ending) : Prop where
  ok : ∀ main FS L, rdCode B = .ok (main, FS, L) → ∃ gi fa fc, e = .returned (.agg #[.slice (some ⟨gi, 0, none⟩) L.length L.length, .slice fa FS.length fc, .int .i64 main]) ∧ w'.ownsRow w.heap.size 55 5 (.slice (some ⟨gi, 0, none⟩) L.length L.length) L.length (L.map riv).flatten ∧ Row w' w.heap.size 40 5 (.slice fa FS.length fc) (FS.map rfv) ∧ ∃ gf, fa = some ⟨gf, 0, none⟩ ∧ gf < gi
  bad : ∀ p, rdCode B = .error p → e = thrC (p : Int)
  low : Below w0.heap.size w0 w'
theorem CodP.thr {w0 w w' B p} (h : rdCode B = .error p) (b : Below w0.heap.size w0 w') : CodP w0 w w' B (thrC (p : Int)) :=
  ⟨fun _ _ _ hv => (by rw [h] at hv; cases hv), fun q hq => (by rw [h] at hq; cases hq; rfl), b⟩
set_option maxRecDepth 100000 in
set_option maxHeartbeats 4000000 in
theorem rCode_any {w0 w : World} {rb : Nat} {ao : Option Addr} {n cap : Nat} {B : List Int} (h : Rd w0 w rb ao n cap B 0) (hT : Tab w0) (hn : n ≤ 268435456) :
    Calls Tryd.prog 20 #[.pointer (some ⟨rb, 0, none⟩)] w fun e w' => CodP w0 w w' B e := by
  have HT : Hid (Tab w0 ∧ n ≤ 268435456 ∧ n = B.length) := ⟨hT, hn, h.by_.len⟩
  obtain ⟨sb, hsb⟩ : ∃ sb, sb = w.heap.size := ⟨_, rfl⟩
  obtain ⟨cb, hcb⟩ : ∃ cb, cb = w.heap.size + 1 := ⟨_, rfl⟩
  obtain ⟨W1, hW1⟩ : ∃ W1, W1 = (w.alloc (.cells #[.slice none 0 0, .slice none 0 0, .int .i64 0] 25)).alloc (.cells #[.slice none 0 0, .slice none 0 0, .int .i64 0] 25) := ⟨_, rfl⟩
  have HC1 : Hid (CdS w0 w W1 rb ao n cap B sb cb zCd 0) := by rw [hW1, hcb, hsb]; exact CdS.start h
  have HN : Hid (Calls Tryd.prog 28 #[.pointer (some ⟨rb, 0, none⟩)] W1 fun e w' => MovP w0 W1 w' rb ao n cap B (rdMk B mkB 0) e) := rMark_any HC1.out.rd
  clear h hT hn
  refine callsIn_wide.1 (callsIn_of_wp_marks (n := 5) Tryd.func20 rfl trivial ?_ rfl)
  refine wpIn_wide.2 ?_
  simp only [Tryd.ntmps20, List.size_toArray, List.length_cons, List.length_nil, Nat.reduceAdd, Nat.reduceSub, Array.replicate_succ, Array.replicate_zero, List.push_toArray, List.append_toArray, List.nil_append, List.cons_append]
  go_upto_region 2 with fail
  rw [← hW1, ← hcb, ← hsb]
  clear hW1 hcb hsb
  cases hr0 : rdMk B mkB 0 with
  | error p =>
    have HE : Hid (rdCode B = .error p) := by show _ = _; unfold rdCode; rw [hr0]
    rw [hr0] at HN
    clear hr0
    go_wp2_with fail
    refine Calls.mono HN.out ?_
    intro e w2 q
    have HB : Hid _ := q.low
    have hq := q.bad p rfl
    subst hq
    clear q HN
    unfold thrC
    go_wp2_with fail
    exact CodP.thr HE.out HB.out
  | ok q0 =>
    have HE : Hid (rdCode B = match rdN B 4 1 4294967295 q0 with
      | .error p => .error p
      | .ok count => match rdN B 4 0 (count - 1) (q0 + 4) with
        | .error p => .error p
        | .ok main => match rdFns B main count.toNat 0 0 [] (q0 + 8) with
          | .error p => .error p
          | .ok (FS, q2) => match rdIns B FS.length FS q2 with
            | .error p => .error p
            | .ok (L, q3) => if q3 = B.length then .ok (main, FS, L) else .error q3) := by show _ = _; unfold rdCode; rw [hr0]; rfl
    rw [hr0] at HN
    clear hr0
    go_wp2_with fail
    refine Calls.mono HN.out ?_
    intro e w2 q
    have hq := q.ok q0 rfl
    have HC2 : Hid (CdS w0 w w2 rb ao n cap B sb cb zCd q0) := HC1.out.moved hq.2.1 hq.2.2
    have hq := hq.1
    subst hq
    clear q HN HC1
    have HN : Hid (Calls Tryd.prog 29 #[.pointer (some ⟨rb, 0, none⟩), .int .i64 4, .int .i64 1, .int .i64 4294967295] w2 fun e w' => NumP w0 w2 w' rb ao n cap B 4 1 4294967295 q0 e) := rNumber_any HC2.out.rd 4 (by omega) 1 4294967295
    cases hr : rdN B 4 1 4294967295 q0 with
    | error p =>
      have HE2 : Hid (rdCode B = .error p) := by show _ = _; rw [HE.out, hr]
      have HR : Hid _ := hr
      clear hr
      go_wp2_with fail
      refine Calls.mono HN.out ?_
      intro e w3 q
      have HB : Hid _ := q.low
      have hq := q.bad p HR.out
      subst hq
      clear q HN
      unfold thrC
      go_wp2_with fail
      exact CodP.thr HE2.out HB.out
    | ok count =>
      obtain ⟨m, rfl⟩ : ∃ m : Nat, count = (m : Int) := ⟨count.toNat, by have := rdN_range hr; omega⟩
      have HE2 : Hid (rdCode B = match rdN B 4 0 ((m : Int) - 1) (q0 + 4) with
        | .error p => .error p
        | .ok main => match rdFns B main ((m : Int)).toNat 0 0 [] (q0 + 8) with
          | .error p => .error p
          | .ok (FS, q2) => match rdIns B FS.length FS q2 with
            | .error p => .error p
            | .ok (L, q3) => if q3 = B.length then .ok (main, FS, L) else .error q3) := by show _ = _; rw [HE.out, hr]
      have hg := rdN_range hr
      have HR : Hid _ := hr
      clear hr
      go_wp2_with fail
      refine Calls.mono HN.out ?_
      intro e w3 q
      have hq := q.ok _ HR.out
      have HC3 : Hid (CdS w0 w w3 rb ao n cap B sb cb zCd (q0 + 4)) := HC2.out.moved hq.2 q.on
      have hq := hq.1
      subst hq
      clear q HN HC2 HR HE
      have hw : wrap64 ((m : Int) - 1) = (m : Int) - 1 := by unfold wrap64; omega
      have HN : Hid (Calls Tryd.prog 29 #[.pointer (some ⟨rb, 0, none⟩), .int .i64 4, .int .i64 0, .int .i64 ((m : Int) - 1)] w3 fun e w' => NumP w0 w3 w' rb ao n cap B 4 0 ((m : Int) - 1) (q0 + 4) e) := rNumber_any HC3.out.rd 4 (by omega) 0 ((m : Int) - 1)
      cases hr : rdN B 4 0 ((m : Int) - 1) (q0 + 4) with
      | error p =>
        have HE3 : Hid (rdCode B = .error p) := by show _ = _; rw [HE2.out, hr]
        have HR : Hid _ := hr
        clear hr
        go_wp2_with fail
        refine Calls.mono HN.out ?_
        intro e w4 q
        have HB : Hid _ := q.low
        have hq := q.bad p HR.out
        subst hq
        clear q HN
        unfold thrC
        go_wp2_with fail
        exact CodP.thr HE3.out HB.out
      | ok main =>
        have HE3 : Hid (rdCode B = match rdFns B main m 0 0 [] (q0 + 4 + 4) with
          | .error p => .error p
          | .ok (FS, q2) => match rdIns B FS.length FS q2 with
            | .error p => .error p
            | .ok (L, q3) => if q3 = B.length then .ok (main, FS, L) else .error q3) := by show _ = _; rw [HE2.out, hr, Int.toNat_natCast]
        have HR : Hid _ := hr
        have HMG : Hid (1 ≤ m ∧ m ≤ 4294967295) := by show _ ∧ _; omega
        clear hr
        go_wp2_with fail
        refine Calls.mono HN.out ?_
        intro e w4 q
        have hq := q.ok main HR.out
        have HC4 : Hid (CdS w0 w w4 rb ao n cap B sb cb zCd (q0 + 4 + 4)) := HC3.out.moved hq.2 q.on
        have hq := hq.1
        subst hq
        clear q HN HC3 HR HE2 hw hg
        have c2 : w4.cell? ⟨cb, 2, none⟩ = some (.int .i64 0) := cell_arr HC4.out.cbox rfl
        have z2 : w4.frozen? ⟨cb, 2, none⟩ = false := fz_of HC4.out.cbox
        have lc := (Array.getElem?_eq_some_iff.1 HC4.out.cbox).1
        obtain ⟨W5, hW5⟩ : ∃ W5, W5 = w4.setCell ⟨cb, 2, none⟩ (.int .i64 main) := ⟨_, rfl⟩
        have HC5 : Hid (CdS w0 w W5 rb ao n cap B sb cb #[.slice none 0 0, .slice none 0 0, .int .i64 main] (q0 + 4 + 4)) := by rw [hW5]; exact HC4.out.set 2 _
        go_upto_region 5 with fail
        rw [← hW5]
        clear hW5 c2 z2 lc HC4
        have c2 : W5.cell? ⟨cb, 2, none⟩ = some (.int .i64 main) := cell_arr HC5.out.cbox rfl
        have lc := (Array.getElem?_eq_some_iff.1 HC5.out.cbox).1
        have HN : Hid (Calls Tryd.prog 30 #[.pointer (some ⟨rb, 0, none⟩), .int .i64 (m : Int), .int .i64 main] W5 fun e w' => FnsP w0 W5 w' rb ao n cap B main m (q0 + 4 + 4) e) := rFunctions_any m main HC5.out.rd HT.out.1 (by have := HT.out.2; omega) HMG.out.2
        cases hr : rdFns B main m 0 0 [] (q0 + 4 + 4) with
        | error p =>
          have HE4 : Hid (rdCode B = .error p) := by show _ = _; rw [HE3.out, hr]
          have HR : Hid _ := hr
          clear hr
          go_wp2_with fail
          refine Calls.mono HN.out ?_
          intro e w6 q
          have HB : Hid _ := q.low
          have hq := q.bad p HR.out
          subst hq
          clear q HN
          unfold thrC
          go_wp2_with fail
          exact CodP.thr HE4.out HB.out
        | ok X =>
          obtain ⟨FS, q2⟩ := X
          have HE4 : Hid (rdCode B = match rdIns B FS.length FS q2 with
            | .error p => .error p
            | .ok (L, q3) => if q3 = B.length then .ok (main, FS, L) else .error q3) := by show _ = _; rw [HE3.out, hr]
          have HFS : Hid (FS.length = m ∧ ∀ f ∈ FS, GoodF f) := ⟨by have := (rdFns_len hr).1; simpa using this, rdFns_good (by have := HT.out.2; omega) hr (fun f hf => by simp at hf) (by simp) (by simp)⟩
          have HR : Hid _ := hr
          clear hr
          go_wp2_with fail
          refine Calls.mono HN.out ?_
          intro e w6 q
          obtain ⟨v, hv, hrow, hrd, hon⟩ := q.ok FS q2 HR.out
          obtain ⟨fa, fc, rfl, -, -⟩ := own_slice hrow.out
          obtain ⟨fn, hfn⟩ : ∃ fn, fn = (FS.map rfv).length := ⟨_, rfl⟩
          rw [← hfn] at hv hrow
          have HFN : Hid (fn = FS.length ∧ fn = m) := by have := HFS.out.1; rw [List.length_map] at hfn; exact ⟨hfn, by omega⟩
          have HC6 : Hid (CdS w0 w w6 rb ao n cap B sb cb #[.slice none 0 0, .slice none 0 0, .int .i64 main] q2) := HC5.out.moved hrd hon
          have HRW6 : Hid (Row w6 (W5.heap.size + 1) 40 5 (.slice fa fn fc) (FS.map rfv) ∧ cb < W5.heap.size) := ⟨hrow, lc⟩
          subst hv
          have HR0 : Hid (rdFns B main m 0 0 [] (q0 + 4 + 4) = .ok (FS, q2)) := HR.out
          clear q HN HC5 HR HE3 hrow hrd hon c2 lc hfn
          have c1 : w6.cell? ⟨cb, 1, none⟩ = some (.slice none 0 0) := cell_arr HC6.out.cbox rfl
          have z1 : w6.frozen? ⟨cb, 1, none⟩ = false := fz_of HC6.out.cbox
          have lc := (Array.getElem?_eq_some_iff.1 HC6.out.cbox).1
          obtain ⟨W7, hW7⟩ : ∃ W7, W7 = w6.setCell ⟨cb, 1, none⟩ (.slice fa fn fc) := ⟨_, rfl⟩
          have HC7 : Hid (CdS w0 w W7 rb ao n cap B sb cb #[.slice none 0 0, .slice fa fn fc, .int .i64 main] q2) := by rw [hW7]; exact HC6.out.set 1 _
          have HRW : Hid (Row W7 (cb + 1) 40 5 (.slice fa fn fc) (FS.map rfv)) := by
            rw [hW7]
            have hb := HRW6.out.2
            have q := HRW6.out.1.move (w' := w6.setCell ⟨cb, 1, none⟩ (.slice fa fn fc)) fun g hg => heap_set_other (by have := (own_block HRW6.out.1.out hg).1; omega)
            exact ⟨own_baseF q.out (by omega), q.len⟩
          go_upto_region 6 with fail
          rw [← hW7]
          clear hW7 c1 z1 lc HC6 HRW6
          have r1 : W7.cell? ⟨rb, 1, none⟩ = some (.int .i64 (q2 : Int)) := cell_arr HC7.out.rd.box rfl
          have lr := (Array.getElem?_eq_some_iff.1 HC7.out.rd.box).1
          obtain ⟨tb, htb⟩ : ∃ tb, tb = W7.heap.size := ⟨_, rfl⟩
          obtain ⟨W8, hW8⟩ : ∃ W8, W8 = W7.alloc (.cells #[.int .i64 0] 3) := ⟨_, rfl⟩
          have b8 : Below W7.heap.size W7 W8 := by rw [hW8]; exact below_newX _ _
          have HC8 : Hid (CdS w0 w W8 rb ao n cap B sb cb #[.slice none 0 0, .slice fa fn fc, .int .i64 main] q2) := HC7.out.keep b8
          have HRW8 : Hid (Row W8 (cb + 1) 40 5 (.slice fa fn fc) (FS.map rfv)) := HRW.out.keep b8
          have HTB : Hid (W8.heap[tb]? = some (.cells #[.int .i64 0] 3 (0, 0)) ∧ W8.heap.size = tb + 1) := by rw [hW8, htb]; exact ⟨heap_alloc_new _ _, Array.size_push _⟩
          have HGB : Hid (∀ g, (Value.slice fa fn fc).ownBlock = some g → g < tb) := fun g hg => by rw [htb]; exact (own_block HRW.out.out hg).2
          go_upto_region 8 with fail
          rw [← hW8, ← htb]
          clear hW8 htb r1 lr HC7 HRW b8
          have c1 : W8.cell? ⟨cb, 1, none⟩ = some (.slice fa fn fc) := cell_arr HC8.out.cbox rfl
          have lc := (Array.getElem?_eq_some_iff.1 HC8.out.cbox).1
          have HI8 : Hid _ := rInstructions_any W8 rb fa fn fc
          go_wp2_with (go_at_call 31; refine Calls.mono HI8.out ?_; rintro e w9 ⟨rfl, hw9⟩)
          obtain ⟨W9, hW9⟩ : ∃ W9, W9 = (W8.alloc (.cells #[.pointer (some ⟨rb, 0, none⟩)] 63)).alloc (.cells #[.slice fa fn fc] 23) := ⟨_, rfl⟩
          rw [← hW9]
          clear HI8 c1 lc
          have z8 : W8.heap.size = tb + 1 := HTB.out.2
          have s1 : (W8.alloc (.cells #[.pointer (some ⟨rb, 0, none⟩)] 63)).heap.size = W8.heap.size + 1 := Array.size_push _
          have b9 : Below W8.heap.size W8 W9 := by rw [hW9]; exact (below_newX W8 _).alloc (by rw [s1]; exact Nat.le_succ _) _
          have z9 : W9.heap.size = tb + 3 := by rw [hW9, show ∀ (V : World) (o : Obj), (V.alloc o).heap.size = V.heap.size + 1 from fun V o => Array.size_push _, s1, z8]
          have h9 : W9.heap[tb + 1]? = some (.cells #[.pointer (some ⟨rb, 0, none⟩)] 63 (0, 0)) := by
            rw [hW9, ← z8]
            exact ((below_newX (W8.alloc (.cells #[.pointer (some ⟨rb, 0, none⟩)] 63)) _).block W8.heap.size (by rw [s1]; exact Nat.lt_succ_self _)).trans (heap_alloc_new _ _)
          have g9 : W9.heap[tb + 1 + 1]? = some (.cells #[.slice fa fn fc] 23 (0, 0)) := by
            have q := heap_alloc_new (W8.alloc (.cells #[.pointer (some ⟨rb, 0, none⟩)] 63)) (.cells #[.slice fa fn fc] 23)
            rw [s1, z8] at q
            rw [hW9]
            exact q
          rw [z8]
          have HC9 : Hid (CdS w0 w W9 rb ao n cap B sb cb #[.slice none 0 0, .slice fa fn fc, .int .i64 main] q2) := HC8.out.keep b9
          have HRW9 : Hid (Row W9 (cb + 1) 40 5 (.slice fa fn fc) (FS.map rfv)) := HRW8.out.keep b9
          have ht9 : W9.heap[tb]? = some (.cells #[.int .i64 0] 3 (0, 0)) := (b9.block tb (by omega)).trans HTB.out.1
          obtain ⟨gf, hgf, hgl, hcg⟩ : ∃ gf, fa = some ⟨gf, 0, none⟩ ∧ gf < tb ∧ cb + 1 ≤ gf := by
            obtain ⟨-, -, gf, q1, q2, q3⟩ := rowSts HRW9.out (by rw [List.length_map]; have := HFN.out; have := HMG.out; omega) (by omega) (rfv_one FS)
            exact ⟨gf, q1, HGB.out gf (by rw [q1]; rfl), q2⟩
          have HGF : Hid (fa = some ⟨gf, 0, none⟩ ∧ gf < tb ∧ cb + 1 ≤ gf) := ⟨hgf, hgl, hcg⟩
          have HQ9 : Hid (SqS w0 W9 W9 rb ao n cap B (tb + 1 + 1) (tb + 1) fa fc FS (fun q => q = tb) q2) := by
            have p := HC9.out.pl
            have p3 := HC9.out.rd.ge
            obtain ⟨-, q1, -⟩ := rowSts HRW9.out (by rw [List.length_map]; have := HFN.out; have := HMG.out; omega) (by omega) (rfv_one FS)
            refine ⟨HC9.out.rd, by rw [← HFN.out.1]; exact g9, h9, q1, ⟨by omega, by omega, fun b o e => by rw [hgf] at e; cases e; omega⟩, ⟨by omega, by omega, by omega, fun b o e => by rw [hgf] at e; cases e; omega⟩, fun q e => by have e : q = tb := e; omega, Only.refl _ _⟩
          have HZ9 : Hid (W9.heap.size = tb + 3) := z9
          clear hW9 HC8 HRW8 HTB b9 h9 g9 z8 s1 HGB
          subst hgf
          clear hgl hcg
          refine wp_rangeSkip (Fb := fun q => q = tb) HQ9.out (by have := HT.out.2; omega) (by have := HFN.out; have := rdFns_few HR0.out; have := HT.out.2; omega) HFS.out.2 (fun b o e => by cases e; have := HGF.out; omega) rfl (fun pre W => TotS W tb pre.length) ?hI ⟨ht9⟩ ?body ?okZ ?badZ
          case hI =>
            intro pre A A' hi o
            have p := HC9.out.pl
            have := HGF.out
            exact hi.move o (by omega)
          case body =>
            intro l pre x W hi hlen hpre
            unfold insV
            simp only [List.setIfInBounds_toArray, List.set_cons_succ, List.set_cons_zero]
            have t0 : W.cell? ⟨tb, 0, none⟩ = some (.int .i64 (pre.length : Int)) := cell_arr hi.out rfl
            have lt := (Array.getElem?_eq_some_iff.1 hi.out).1
            have zt : W.frozen? ⟨tb, 0, none⟩ = false := fz_of hi.out
            have hwt : wrap64 ((pre.length : Int) + 1) = (((pre ++ [x]).length : Nat) : Int) := by
              rw [List.length_append, List.length_singleton]
              have := HT.out.2.1
              unfold wrap64
              omega
            have HI : Hid _ := hi
            clear ht9 z9 hi hlen hpre
            generalize (pre ++ [x]).length = k1 at *
            gi_wp2_with fail
            exact ⟨HI.out.set k1, Only.of_set W ⟨tb, 0, none⟩ _⟩
          case okZ =>
            intro L q3 W hr hi hrd ho hD
            have HE5 : Hid (rdCode B = if q3 = B.length then .ok (main, FS, L) else .error q3) := by show _ = _; rw [HE4.out, hr]
            have HT10 : Hid (CdT w0 w W rb ao n cap B sb cb #[.slice none 0 0, .slice (some ⟨gf, 0, none⟩) fn fc, .int .i64 main] tb W9.heap.size gf fn fc L.length FS q3) := by
              have p := HGF.out.2
              have p1 := HC9.out.pl
              refine ⟨HC9.out.far hrd ho (fun q e => by rcases e with e | e <;> omega), hi, hD, HRW9.out.move fun g hg => ?_, by omega, by omega, by omega⟩
              have e : g = gf := by
                simp [Value.ownBlock] at hg
                exact hg.symm
              exact ho.block g (own_block HRW9.out.out hg).2 (by omega)
            have HR5 : Hid (rdIns B FS.length FS q2 = .ok (L, q3)) := hr
            have HQ2 : Hid (q2 ≤ n) := HC9.out.rd.le
            have HQL : Hid (q3 ≤ n ∧ L.length ≤ n) := ⟨hrd.le, by have := (rdIns_more hr); have := hrd.le; omega⟩
            have HLE : Hid (∀ V, Below W.heap.size W V → Calls Tryd.prog 33 #[.pointer (some ⟨rb, 0, none⟩)] V fun e w' => e = .returned (.int .i64 ((n : Int) - (q3 : Int))) ∧ Below V.heap.size V w') := fun V b => left_any V (hrd.keep b).box (by have := HT.out.2; omega) hrd.le
            have HSR : Hid (∀ V, Below W.heap.size W V → V.cell? ⟨rb, 1, none⟩ = some (.int .i64 (q3 : Int)) ∧ rb < V.heap.size) := fun V b => ⟨cell_arr (hrd.keep b).box rfl, (Array.getElem?_eq_some_iff.1 (hrd.keep b).box).1⟩
            clear ht9 z9 hr hi hrd ho hD HQ9 HC9 HRW9 HE4
            have Sz := HSR.out W.drew (Below.refl _ _).drew
            by_cases hq3 : q3 = B.length
            · have ht : ((n : Int) - (q3 : Int) == 0) = true := by
                have := HT.out.2.2
                have e : (n : Int) - (q3 : Int) = 0 := by omega
                rw [e]
                rfl
              have HE6 : Hid (rdCode B = .ok (main, FS, L)) := by show _ = _; rw [HE5.out, if_pos hq3]
              clear HE5 hq3
              go_upto_region 10 with fail
              refine wp_marked [{ target := .collected W9.heap.size, args := #[] }] (fun ch w' => ∃ w'', (Instr.takeDeferred W9.heap.size).run Tryd.prog w' = .ok [] w'' ∧ CodP w0 w w'' B (.panicked ch)) (fun ch t w' hz => ?hz) ?_
              case hz =>
                obtain ⟨w'', h1, h2⟩ := hz
                exact ⟨by simp, .inl ⟨_, _, rfl, h1, h2⟩⟩
              refine lec_start (S := fun w' : World => w'.cell? ⟨rb, 1, none⟩ = some (.int .i64 (q3 : Int)) ∧ rb < w'.heap.size) (z := 10) (by kernel_rfl) ?_
              show lec _ _ _ _ _ 11 _ _ _
              try simp only [List.size_toArray, List.length_cons, List.length_nil, Array.replicate]
              refine lec_takeP (i := 0) (v := ?v0a) rfl (by kernel_rfl) (by kernel_rfl) (by kernel_rfl) (by kernel_rfl) (fun _ _ _ h => h) (.inl ⟨by rfl, ?hy0a⟩) Sz ?rest0a
              case hy0a =>
                rintro w' _
                go_simp
                all_goals with_reducible rfl
              try simp only [Act.put, List.getElem_toArray, List.getElem_cons_succ, List.getElem_cons_zero, List.setIfInBounds_toArray, List.set_cons_zero, List.set_cons_succ]
              refine lec_takeP (i := 1) (v := ?v1a) rfl (by kernel_rfl) (by kernel_rfl) (by kernel_rfl) (by kernel_rfl) (fun _ _ _ h => h) (.inl ⟨by rfl, ?hy1a⟩) Sz ?rest1a
              case hy1a =>
                rintro w' _
                go_simp
                all_goals with_reducible rfl
              try simp only [Act.put, List.getElem_toArray, List.getElem_cons_succ, List.getElem_cons_zero, List.setIfInBounds_toArray, List.set_cons_zero, List.set_cons_succ]
              refine lec_takeP (i := 2) (v := ?v2a) rfl (by kernel_rfl) (by kernel_rfl) (by kernel_rfl) (by kernel_rfl) (fun _ _ _ h => h) (.inl ⟨by rfl, ?hy2a⟩) Sz ?rest2a
              case hy2a =>
                rintro w' _
                go_simp
                all_goals with_reducible rfl
              try simp only [Act.put, List.getElem_toArray, List.getElem_cons_succ, List.getElem_cons_zero, List.setIfInBounds_toArray, List.set_cons_zero, List.set_cons_succ]
              refine lec_takeP (i := 5) (v := ?v5a) rfl (by kernel_rfl) (by kernel_rfl) (by kernel_rfl) (by kernel_rfl) (fun _ _ _ h => h) (.inl ⟨by rfl, ?hy5a⟩) Sz ?rest5a
              case hy5a =>
                rintro w' _
                go_simp
                all_goals with_reducible rfl
              try simp only [Act.put, List.getElem_toArray, List.getElem_cons_succ, List.getElem_cons_zero, List.setIfInBounds_toArray, List.set_cons_zero, List.set_cons_succ]
              refine lec_takeP (i := 6) (v := ?v6a) rfl (by kernel_rfl) (by kernel_rfl) (by kernel_rfl) (by kernel_rfl) (fun _ _ _ h => h) (.inl ⟨by rfl, ?hy6a⟩) Sz ?rest6a
              case hy6a =>
                rintro w' _
                go_simp
                all_goals with_reducible rfl
              try simp only [Act.put, List.getElem_toArray, List.getElem_cons_succ, List.getElem_cons_zero, List.setIfInBounds_toArray, List.set_cons_zero, List.set_cons_succ]
              refine lec_takeP (i := 7) (v := ?v7a) rfl (by kernel_rfl) (by kernel_rfl) (by kernel_rfl) (by kernel_rfl) (fun _ _ _ h => h) (.inl ⟨by rfl, ?hy7a⟩) Sz ?rest7a
              case hy7a =>
                rintro w' _
                go_simp
                all_goals with_reducible rfl
              try simp only [Act.put, List.getElem_toArray, List.getElem_cons_succ, List.getElem_cons_zero, List.setIfInBounds_toArray, List.set_cons_zero, List.set_cons_succ]
              refine lec_takeP (i := 8) (v := ?v8a) rfl (by kernel_rfl) (by kernel_rfl) (by kernel_rfl) (by kernel_rfl) (fun _ _ _ h => h) (.inl ⟨by rfl, ?hy8a⟩) Sz ?rest8a
              case hy8a =>
                rintro w' _
                go_simp
                all_goals with_reducible rfl
              try simp only [Act.put, List.getElem_toArray, List.getElem_cons_succ, List.getElem_cons_zero, List.setIfInBounds_toArray, List.set_cons_zero, List.set_cons_succ]
              refine lec_takeT [10] (i := 9) (v := ?v9a) rfl (by kernel_rfl) (by kernel_rfl) (by kernel_rfl) (by kernel_rfl) (fun _ _ _ h => h) (.inl ⟨by rfl, ?hy9a⟩) Sz ?rest9a
              case hy9a =>
                rintro w' ⟨h1, h2⟩
                go_simp
                all_goals with_reducible rfl
              try simp only [Act.put, List.getElem_toArray, List.getElem_cons_succ, List.getElem_cons_zero, List.setIfInBounds_toArray, List.set_cons_zero, List.set_cons_succ]
              refine lec_one (i := 3) rfl (by kernel_rfl) ?_
              intro K3 hK3
              rw [if_pos (by rfl)]
              go_simp
              refine Calls.mono (HLE.out _ (Below.refl _ _).drew) ?_
              rintro e w10 ⟨rfl, b10⟩
              have HB10 : Hid (Below W.heap.size W w10) := (Below.refl _ _).drew.trans b10
              have HTX : Hid (CdT w0 w w10 rb ao n cap B sb cb #[.slice none 0 0, .slice (some ⟨gf, 0, none⟩) fn fc, .int .i64 main] tb W9.heap.size gf fn fc L.length FS q3) := HT10.out.keep HB10.out
              have Sq := HSR.out w10 HB10.out
              clear b10
              go_simp
              refine hK3 _ _ (fun _ => Sq) ?_
              clear Sz
              clear hK3
              try simp only [Act.put, List.getElem_toArray, List.getElem_cons_succ, List.getElem_cons_zero, List.setIfInBounds_toArray, List.set_cons_zero, List.set_cons_succ]
              have Sz := Sq
              refine lec_takeP (i := 4) (v := ?v4a) rfl (by kernel_rfl) (by kernel_rfl) (by kernel_rfl) (by kernel_rfl) (fun _ _ _ h => h) (.inl ⟨by rfl, ?hy4a⟩) Sz ?rest4a
              case hy4a =>
                rintro w' _
                go_simp
                all_goals with_reducible rfl
              try simp only [Act.put, List.getElem_toArray, List.getElem_cons_succ, List.getElem_cons_zero, List.setIfInBounds_toArray, List.set_cons_zero, List.set_cons_succ]
              refine lec_one (i := 10) rfl (by kernel_rfl) ?_
              intro K10 hK10
              rw [if_pos (by rfl)]
              go_simp
              refine (hold_yes _ _).mono ?_
              rintro e w11 ⟨rfl, rfl⟩
              go_simp
              refine hK10 _ _ (fun _ => Sq) ?_
              clear hK10
              try simp only [Act.put, List.getElem_toArray, List.getElem_cons_succ, List.getElem_cons_zero, List.setIfInBounds_toArray, List.set_cons_zero, List.set_cons_succ]
              refine lec_done (by kernel_rfl) ?_
              show Exit.then _ _ Exit.normal _ _
              clear Sq
              have r1 : w10.cell? ⟨rb, 1, none⟩ = some (.int .i64 (q3 : Int)) := cell_arr HTX.out.cd.rd.box rfl
              have zr : w10.frozen? ⟨rb, 1, none⟩ = false := fz_of HTX.out.cd.rd.box
              have lr := (Array.getElem?_eq_some_iff.1 HTX.out.cd.rd.box).1
              obtain ⟨W11, hW11⟩ : ∃ W11, W11 = w10.setCell ⟨rb, 1, none⟩ (.int .i64 (q2 : Int)) := ⟨_, rfl⟩
              have HT11 : Hid (CdT w0 w W11 rb ao n cap B sb cb #[.slice none 0 0, .slice (some ⟨gf, 0, none⟩) fn fc, .int .i64 main] tb W9.heap.size gf fn fc L.length FS q2) := by rw [hW11]; exact HTX.out.far (HTX.out.cd.rd.back q2 HQ2.out) (Only.of_set w10 ⟨rb, 1, none⟩ _) (fun q e => .inl e)
              go_upto_region 12 with fail
              rw [← hW11]
              clear hW11 r1 zr lr HTX
              refine wp_marked [{ target := .collected W9.heap.size, args := #[] }] (fun ch w' => ∃ w'', (Instr.takeDeferred W9.heap.size).run Tryd.prog w' = .ok [] w'' ∧ CodP w0 w w'' B (.panicked ch)) (fun ch t w' hz => ?hz) ?_
              case hz =>
                obtain ⟨w'', h1, h2⟩ := hz
                exact ⟨by simp, .inl ⟨_, _, rfl, h1, h2⟩⟩
              have HS12 : Hid (∀ V, Below W11.heap.size W11 V → (fun w' : World => w'.cell? ⟨tb, 0, none⟩ = some (.int .i64 (L.length : Int)) ∧ w'.cell? ⟨cb, 1, none⟩ = some (.slice (some ⟨gf, 0, none⟩) fn fc) ∧ tb < w'.heap.size ∧ cb < w'.heap.size) V) := fun V b => by
                have q := HT11.out.keep b
                exact ⟨cell_arr q.tot.out rfl, cell_arr q.cd.cbox rfl, (Array.getElem?_eq_some_iff.1 q.tot.out).1, (Array.getElem?_eq_some_iff.1 q.cd.cbox).1⟩
              have Sz := HS12.out W11.drew (Below.refl _ _).drew
              refine lec_start (S := fun w' : World => w'.cell? ⟨tb, 0, none⟩ = some (.int .i64 (L.length : Int)) ∧ w'.cell? ⟨cb, 1, none⟩ = some (.slice (some ⟨gf, 0, none⟩) fn fc) ∧ tb < w'.heap.size ∧ cb < w'.heap.size) (z := 8) (by kernel_rfl) ?_
              show lec _ _ _ _ _ 9 _ _ _
              try simp only [List.size_toArray, List.length_cons, List.length_nil, Array.replicate]
              refine lec_takeT [1, 6, 7, 8] (i := 0) (v := ?v0c) rfl (by kernel_rfl) (by kernel_rfl) (by kernel_rfl) (by kernel_rfl) (fun _ _ _ h => h) (.inl ⟨by rfl, ?hy0c⟩) Sz ?rest0c
              case hy0c =>
                rintro w' ⟨h1, h2, h3, h4⟩
                go_simp
                all_goals with_reducible rfl
              try simp only [Act.put, List.getElem_toArray, List.getElem_cons_succ, List.getElem_cons_zero, List.setIfInBounds_toArray, List.set_cons_zero, List.set_cons_succ]
              refine lec_takeP (i := 2) (v := ?v2c) rfl (by kernel_rfl) (by kernel_rfl) (by kernel_rfl) (by kernel_rfl) (fun _ _ _ h => h) (.inl ⟨by rfl, ?hy2c⟩) Sz ?rest2c
              case hy2c =>
                rintro w' _
                go_simp
                all_goals with_reducible rfl
              try simp only [Act.put, List.getElem_toArray, List.getElem_cons_succ, List.getElem_cons_zero, List.setIfInBounds_toArray, List.set_cons_zero, List.set_cons_succ]
              refine lec_takeP (i := 3) (v := ?v3c) rfl (by kernel_rfl) (by kernel_rfl) (by kernel_rfl) (by kernel_rfl) (fun _ _ _ h => h) (.inl ⟨by rfl, ?hy3c⟩) Sz ?rest3c
              case hy3c =>
                rintro w' _
                go_simp
                all_goals with_reducible rfl
              try simp only [Act.put, List.getElem_toArray, List.getElem_cons_succ, List.getElem_cons_zero, List.setIfInBounds_toArray, List.set_cons_zero, List.set_cons_succ]
              refine lec_takeT [5, 6, 7, 8] (i := 4) (v := ?v4c) rfl (by kernel_rfl) (by kernel_rfl) (by kernel_rfl) (by kernel_rfl) (fun _ _ _ h => h) (.inl ⟨by rfl, ?hy4c⟩) Sz ?rest4c
              case hy4c =>
                rintro w' ⟨h1, h2, h3, h4⟩
                go_simp
                all_goals with_reducible rfl
              try simp only [Act.put, List.getElem_toArray, List.getElem_cons_succ, List.getElem_cons_zero, List.setIfInBounds_toArray, List.set_cons_zero, List.set_cons_succ]
              have HMK : Hid (∀ V : World, W11.heap.size ≤ V.heap.size → ∃ w', (Instr.makeSlice 22 (.int .i64 0) (.int .i64 (L.length : Int))).run Tryd.prog V = .ok (.slice (some ⟨V.heap.size, 0, none⟩) 0 L.length) w' ∧ w'.ownsRow W11.heap.size 55 5 (.slice (some ⟨V.heap.size, 0, none⟩) 0 L.length) 0 [] ∧ V.grownBy w' none) := fun V hV => by
                obtain ⟨i0, hif, hz0, hz1, hz2⟩ := info_parts (show (Tryd.prog.info? 55).map (fun i => (i.zero, i.size, i.bytes)) = some (some (.agg #[.int .i64 0, .int .i64 0, .int .i64 0, .int .i64 0, .int .i64 0]), 5, 40) by kernel_rfl)
                exact run_make_own V W11.heap.size 22 55 i0 _ 5 Tryd.underlying22 hif hz0 hz1 .i64 .i64 L.length (by rw [hz2]; have := HQL.out.2; have := HT.out.2.1; omega) (by unfold maxLen; have := HQL.out.2; have := HT.out.2.1; omega) hV
              apply two_waysD (A := fun gi hb gb X => MkS W11 X rb (some ⟨gf, 0, none⟩) fn fc L.length gi hb gb)
              case h =>
                intro key
                refine lec_two (i := 1) (j := 5) rfl rfl (by kernel_rfl) ?_ ?_
                · intro K1 hK1
                  rw [if_pos (by rfl)]
                  go_simp
                  obtain ⟨X1, hmk, hrow1, hgr1⟩ := HMK.out W11.drew (Nat.le_refl _)
                  rw [hmk]
                  have HB1 : Hid (Below W11.heap.size W11 X1) := (Below.refl _ _).drew.grown hgr1 (Nat.le_refl _) (fun k hk => by cases hk)
                  have HRO1 : Hid (X1.ownsRow W11.heap.size 55 5 (.slice (some ⟨W11.heap.size, 0, none⟩) 0 L.length) 0 []) := hrow1
                  have Sx := HS12.out X1 HB1.out
                  obtain ⟨gi, hgi⟩ : ∃ gi, gi = W11.drew.heap.size := ⟨_, rfl⟩
                  have HGI : Hid (gi = W11.heap.size) := hgi
                  rw [← hgi]
                  clear hmk hrow1 hgr1 hgi
                  go_simp
                  refine hK1 _ _ (fun _ => Sx) ?_
                  clear hK1
                  try simp only [Act.put, List.getElem_toArray, List.getElem_cons_succ, List.getElem_cons_zero, List.setIfInBounds_toArray, List.set_cons_zero, List.set_cons_succ]
                  refine lec_one (i := 5) rfl (by kernel_rfl) ?_
                  intro K5 hK5
                  rw [if_pos (by rfl)]
                  go_simp
                  refine Calls.mono (rInstructions_any X1 rb (some ⟨gf, 0, none⟩) fn fc) ?_
                  rintro e w5 ⟨rfl, hw5⟩
                  obtain ⟨gb, hgb⟩ : ∃ gb, gb = X1.heap.size + 1 := ⟨_, rfl⟩
                  obtain ⟨hb, hhb⟩ : ∃ hb, hb = X1.heap.size := ⟨_, rfl⟩
                  have HA : Hid (MkS W11 w5 rb (some ⟨gf, 0, none⟩) fn fc L.length gi hb gb) := by
                    rw [hw5, HGI.out, hgb, hhb]
                    exact MkS.two HB1.out HRO1.out
                  have Sr := HS12.out w5 HA.out.bel
                  rw [← hgb, ← hhb]
                  clear hw5 hgb hhb
                  go_simp
                  refine hK5 _ _ (fun _ => Sr) ?_
                  clear hK5
                  try simp only [Act.put, List.getElem_toArray, List.getElem_cons_succ, List.getElem_cons_zero, List.setIfInBounds_toArray, List.set_cons_zero, List.set_cons_succ]
                  refine lec_l (l' := #[true, true, true, true, true, true, false, false, false]) (by kernel_rfl) ?_
                  exact key gi hb gb w5 HA.out
                · intro K5 hK5
                  rw [if_pos (by rfl)]
                  go_simp
                  refine Calls.mono (rInstructions_any W11.drew rb (some ⟨gf, 0, none⟩) fn fc) ?_
                  rintro e w5 ⟨rfl, hw5⟩
                  have HB5 : Hid (Below W11.heap.size W11 w5 ∧ w5.heap[W11.heap.size]? = some (.cells #[.pointer (some ⟨rb, 0, none⟩)] 63 (0, 0)) ∧ w5.heap[W11.heap.size + 1]? = some (.cells #[.slice (some ⟨gf, 0, none⟩) fn fc] 23 (0, 0)) ∧ w5.heap.size = W11.heap.size + 2) := by
                    rw [hw5]
                    exact two_new W11.drew (Below.refl _ _).drew rfl
                  have Sx := HS12.out w5 HB5.out.1
                  obtain ⟨gb, hgb⟩ : ∃ gb, gb = W11.drew.heap.size + 1 := ⟨_, rfl⟩
                  obtain ⟨hb, hhb⟩ : ∃ hb, hb = W11.drew.heap.size := ⟨_, rfl⟩
                  have HGB : Hid (gb = W11.heap.size + 1 ∧ hb = W11.heap.size) := ⟨hgb, hhb⟩
                  rw [← hgb, ← hhb]
                  clear hw5 hgb hhb
                  go_simp
                  refine hK5 _ _ (fun _ => Sx) ?_
                  clear hK5
                  try simp only [Act.put, List.getElem_toArray, List.getElem_cons_succ, List.getElem_cons_zero, List.setIfInBounds_toArray, List.set_cons_zero, List.set_cons_succ]
                  refine lec_one (i := 1) rfl (by kernel_rfl) ?_
                  intro K1 hK1
                  rw [if_pos (by rfl)]
                  go_simp
                  obtain ⟨X1, hmk, hrow1, hgr1⟩ := HMK.out w5 HB5.out.1.size
                  rw [hmk]
                  obtain ⟨gi, hgi⟩ : ∃ gi, gi = w5.heap.size := ⟨_, rfl⟩
                  have HA : Hid (MkS W11 X1 rb (some ⟨gf, 0, none⟩) fn fc L.length gi hb gb) := by
                    rw [HGB.out.1, HGB.out.2, hgi]
                    exact MkS.one HB5.out hrow1 hgr1
                  have Sr := HS12.out X1 HA.out.bel
                  rw [← hgi]
                  clear hmk hrow1 hgr1 hgi
                  go_simp
                  refine hK1 _ _ (fun _ => Sr) ?_
                  clear hK1
                  try simp only [Act.put, List.getElem_toArray, List.getElem_cons_succ, List.getElem_cons_zero, List.setIfInBounds_toArray, List.set_cons_zero, List.set_cons_succ]
                  refine lec_l (l' := #[true, true, true, true, true, true, false, false, false]) (by kernel_rfl) ?_
                  exact key gi hb gb X1 HA.out
              case g =>
                intro gi hb gb X hA
                have HA : Hid (MkS W11 X rb (some ⟨gf, 0, none⟩) fn fc L.length gi hb gb) := hA
                clear hA
                have HT12 : Hid (CdT w0 w X rb ao n cap B sb cb #[.slice none 0 0, .slice (some ⟨gf, 0, none⟩) fn fc, .int .i64 main] tb W9.heap.size gf fn fc L.length FS q2) := HT11.out.keep HA.out.bel
                have HDB : Hid (W9.heap.size < gi ∧ gi ≠ rb) := by
                  have q1 := (Array.getElem?_eq_some_iff.1 HT11.out.dd).1
                  have q2 := (Array.getElem?_eq_some_iff.1 HT11.out.cd.rd.box).1
                  have q3 := HA.out.pl
                  exact ⟨by omega, by omega⟩
                have HAP : Hid (Calls Tryd.prog 34 #[.slice (some ⟨gi, 0, none⟩) 0 L.length, .func (.func 45) #[] #[.pointer (some ⟨gb, 0, none⟩), .pointer (some ⟨hb, 0, none⟩)]] X fun e w' => e = .returned (.slice (some ⟨gi, 0, none⟩) L.length L.length) ∧ w'.ownsRow W11.heap.size 55 5 (.slice (some ⟨gi, 0, none⟩) L.length L.length) L.length (L.map riv).flatten ∧ Rd w0 w' rb ao n cap B q3 ∧ Only (fun q => q = rb ∨ q = gi) X w') := by
                  have p := HA.out.pl
                  have p1 := HT12.out.cd.pl
                  have p2 := HT12.out.pt
                  have p3 := HDB.out
                  have lr := (Array.getElem?_eq_some_iff.1 HT11.out.cd.rd.box).1
                  have lf : gf < W11.heap.size := by have q1 := (Array.getElem?_eq_some_iff.1 HT11.out.dd).1; omega
                  have lx := HA.out.bel.size
                  obtain ⟨-, q1, -⟩ := rowSts HT12.out.row (by rw [List.length_map]; have := HFN.out; have := HMG.out; omega) (by omega) (rfv_one FS)
                  have l0 := HT12.out.cd.rd.low.size
                  have l1 := HT11.out.cd.rd.low.size
                  refine appendSeq_any (h := ⟨HT12.out.cd.rd, by rw [← HFN.out.1]; exact HA.out.gbx, HA.out.hbx, q1, ⟨by omega, by omega, fun b o e => by cases e; omega⟩, ⟨by omega, by omega, by omega, fun b o e => by cases e; omega⟩, fun q e => by have e : q = gi := e; omega, Only.refl _ _⟩) (by have := HT.out.2.1; omega) (by have := HFN.out; have := rdFns_few HR0.out; have := HT.out.2; omega) HFS.out.2 (fun b o e => by cases e; omega) HR5.out rfl HA.out.row
                refine lec_one (i := 6) rfl (by kernel_rfl) ?_
                intro K6 hK6
                rw [if_pos (by rfl)]
                go_simp
                refine Calls.mono HAP.out ?_
                rintro e w6 ⟨rfl, hrow6, hrd6, ho6⟩
                have HT13 : Hid (CdT w0 w w6 rb ao n cap B sb cb #[.slice none 0 0, .slice (some ⟨gf, 0, none⟩) fn fc, .int .i64 main] tb W9.heap.size gf fn fc L.length FS q3) := HT12.out.far hrd6 ho6 (fun q e => by have := HDB.out; rcases e with e | e <;> omega)
                have HRO : Hid (w6.ownsRow W11.heap.size 55 5 (.slice (some ⟨gi, 0, none⟩) L.length L.length) L.length (L.map riv).flatten) := hrow6
                have Sr : (fun w' : World => w'.cell? ⟨tb, 0, none⟩ = some (.int .i64 (L.length : Int)) ∧ w'.cell? ⟨cb, 1, none⟩ = some (.slice (some ⟨gf, 0, none⟩) fn fc) ∧ tb < w'.heap.size ∧ cb < w'.heap.size) w6 := ⟨cell_arr HT13.out.tot.out rfl, cell_arr HT13.out.cd.cbox rfl, (Array.getElem?_eq_some_iff.1 HT13.out.tot.out).1, (Array.getElem?_eq_some_iff.1 HT13.out.cd.cbox).1⟩
                clear hrow6 hrd6 ho6 HAP HT12
                go_simp
                refine hK6 _ _ (fun _ => Sr) ?_
                clear hK6
                try simp only [Act.put, List.getElem_toArray, List.getElem_cons_succ, List.getElem_cons_zero, List.setIfInBounds_toArray, List.set_cons_zero, List.set_cons_succ]
                refine lec_takeP (i := 7) (v := ?v7c) rfl (by kernel_rfl) (by kernel_rfl) (by kernel_rfl) (by kernel_rfl) (fun _ _ _ h => h) (.inl ⟨by rfl, ?hy7c⟩) Sr ?rest7c
                case hy7c =>
                  rintro w' _
                  go_simp
                  all_goals with_reducible rfl
                try simp only [Act.put, List.getElem_toArray, List.getElem_cons_succ, List.getElem_cons_zero, List.setIfInBounds_toArray, List.set_cons_zero, List.set_cons_succ]
                have c0 : w6.cell? ⟨cb, 0, none⟩ = some (.slice none 0 0) := cell_arr HT13.out.cd.cbox rfl
                have z0 : w6.frozen? ⟨cb, 0, none⟩ = false := fz_of HT13.out.cd.cbox
                have lc := (Array.getElem?_eq_some_iff.1 HT13.out.cd.cbox).1
                refine lec_one (i := 8) rfl (by kernel_rfl) ?_
                intro K8 hK8
                rw [if_pos (by rfl)]
                go_simp
                obtain ⟨W13, hW13⟩ : ∃ W13, W13 = w6.setCell ⟨cb, 0, none⟩ (.slice (some ⟨gi, 0, none⟩) L.length L.length) := ⟨_, rfl⟩
                have HT14 : Hid (CdT w0 w W13 rb ao n cap B sb cb #[.slice (some ⟨gi, 0, none⟩) L.length L.length, .slice (some ⟨gf, 0, none⟩) fn fc, .int .i64 main] tb W9.heap.size gf fn fc L.length FS q3) := by rw [hW13]; exact HT13.out.set 0 _
                have HRP : Hid (W13.ownsRow W11.heap.size 55 5 (.slice (some ⟨gi, 0, none⟩) L.length L.length) L.length (L.map riv).flatten) := by
                  rw [hW13]
                  refine own_move HRO.out fun g hg => heap_set_other ?_
                  have e : g = gi := by
                    simp [Value.ownBlock] at hg
                    exact hg.symm
                  have := HDB.out
                  have := HT13.out.pt
                  omega
                rw [← hW13]
                clear hW13 c0 z0 lc HRO HT13
                refine hK8 _ _ (fun h => by simp at h) ?_
                clear hK8 Sr
                try simp only [Act.put, List.getElem_toArray, List.getElem_cons_succ, List.getElem_cons_zero, List.setIfInBounds_toArray, List.set_cons_zero, List.set_cons_succ]
                refine lec_done (by kernel_rfl) ?_
                show Exit.then _ _ Exit.normal _ _
                have c0 : W13.cell? ⟨cb, 0, none⟩ = some (.slice (some ⟨gi, 0, none⟩) L.length L.length) := cell_arr HT14.out.cd.cbox rfl
                have s0 : W13.cell? ⟨sb, 0, none⟩ = some (.slice none 0 0) := cell_arr HT14.out.cd.sbox rfl
                have z0 : W13.frozen? ⟨sb, 0, none⟩ = false := fz_of HT14.out.cd.sbox
                have c1 : W13.cell? ⟨cb, 1, none⟩ = some (.slice (some ⟨gf, 0, none⟩) fn fc) := cell_arr HT14.out.cd.cbox rfl
                have s1 : W13.cell? ⟨sb, 1, none⟩ = some (.slice none 0 0) := cell_arr HT14.out.cd.sbox rfl
                have z1 : W13.frozen? ⟨sb, 1, none⟩ = false := fz_of HT14.out.cd.sbox
                have c2 : W13.cell? ⟨cb, 2, none⟩ = some (.int .i64 main) := cell_arr HT14.out.cd.cbox rfl
                have s2 : W13.cell? ⟨sb, 2, none⟩ = some (.int .i64 0) := cell_arr HT14.out.cd.sbox rfl
                have z2 : W13.frozen? ⟨sb, 2, none⟩ = false := fz_of HT14.out.cd.sbox
                have lc := (Array.getElem?_eq_some_iff.1 HT14.out.cd.cbox).1
                have ls := (Array.getElem?_eq_some_iff.1 HT14.out.cd.sbox).1
                have HZ : Hid _ := HT14.out.fin (.slice (some ⟨gi, 0, none⟩) L.length L.length) (.slice (some ⟨gf, 0, none⟩) fn fc) (.int .i64 main)
                go_wp2_with fail
                obtain ⟨V, hV⟩ : ∃ V, V = (((W13.setCell ⟨sb, 0, none⟩ (.slice (some ⟨gi, 0, none⟩) L.length L.length)).setCell ⟨sb, 1, none⟩ (.slice (some ⟨gf, 0, none⟩) fn fc)).setCell ⟨sb, 2, none⟩ (.int .i64 main)) := ⟨_, rfl⟩
                rw [← hV] at HZ ⊢
                obtain ⟨v1, v2, v3⟩ := HZ.out
                have o9 : Only (fun q => q = W9.heap.size) V (V.putObj W9.heap.size (.deferred none)) := only_put _ _ _
                have oA : Only (fun q => q = sb ∨ q = W9.heap.size) W13 (V.putObj W9.heap.size (.deferred none)) := (v3.mono fun i _ e => .inl e).on (o9.mono fun i _ e => .inr e)
                have p1 := HT14.out.cd.pl
                have p2 := HT14.out.pt
                have p3 := HDB.out
                have p4 := HT14.out.cd.rd.ge
                have p5 : w.heap.size ≤ W11.heap.size := by
                  have q1 := (Array.getElem?_eq_some_iff.1 HT11.out.cd.sbox).1
                  omega
                refine ⟨by simp, .inl ⟨_, _, rfl, run_takeDeferred v2, ?_⟩⟩
                refine ⟨.agg #[.slice (some ⟨gi, 0, none⟩) L.length L.length, .slice (some ⟨gf, 0, none⟩) fn fc, .int .i64 main], results_cell_row Tryd.results20 _ _ sb 25 _ (0, 0) _ rfl ((o9.block _ (Array.getElem?_eq_some_iff.1 v1).1 (by omega)).trans v1) Tryd.underlying25 rfl (by kernel_rfl), fun main' FS' L' hv => ?_, fun p hp => (by rw [HE6.out] at hp; cases hp), HT14.out.cd.rd.low.trans (oA.below HT14.out.cd.rd.low.size (fun k e => by rcases e with e | e <;> omega))⟩
                rw [HE6.out] at hv
                cases hv
                refine ⟨gi, some ⟨gf, 0, none⟩, fc, by rw [HFN.out.1], ?_, ?_, gf, rfl, by omega⟩
                · refine own_baseF (own_move HRP.out fun g hg => oA.block g (own_block HRP.out hg).2 ?_) p5
                  have e : g = gi := by
                    simp [Value.ownBlock] at hg
                    exact hg.symm
                  omega
                · have q := HT14.out.row.move (w' := V.putObj W9.heap.size (.deferred none)) fun g hg => oA.block g (own_block HT14.out.row.out hg).2 (by
                    have e : g = gf := by
                      simp [Value.ownBlock] at hg
                      exact hg.symm
                    omega)
                  rw [HFN.out.1] at q
                  exact ⟨own_baseF q.out (by omega), q.len⟩
            · have ht : ((n : Int) - (q3 : Int) == 0) = false := by
                have := HT.out.2.2
                have e : ¬ (n : Int) - (q3 : Int) = 0 := by omega
                simp [e]
              have HE6 : Hid (rdCode B = .error q3) := by show _ = _; rw [HE5.out, if_neg hq3]
              clear HE5 hq3
              go_upto_region 10 with fail
              refine wp_marked [{ target := .collected W9.heap.size, args := #[] }] (fun ch w' => ∃ w'', (Instr.takeDeferred W9.heap.size).run Tryd.prog w' = .ok [] w'' ∧ CodP w0 w w'' B (.panicked ch)) (fun ch t w' hz => ?hz) ?_
              case hz =>
                obtain ⟨w'', h1, h2⟩ := hz
                exact ⟨by simp, .inl ⟨_, _, rfl, h1, h2⟩⟩
              refine lec_start (S := fun w' : World => w'.cell? ⟨rb, 1, none⟩ = some (.int .i64 (q3 : Int)) ∧ rb < w'.heap.size) (z := 10) (by kernel_rfl) ?_
              show lec _ _ _ _ _ 11 _ _ _
              try simp only [List.size_toArray, List.length_cons, List.length_nil, Array.replicate]
              refine lec_takeP (i := 0) (v := ?v0b) rfl (by kernel_rfl) (by kernel_rfl) (by kernel_rfl) (by kernel_rfl) (fun _ _ _ h => h) (.inl ⟨by rfl, ?hy0b⟩) Sz ?rest0b
              case hy0b =>
                rintro w' _
                go_simp
                all_goals with_reducible rfl
              try simp only [Act.put, List.getElem_toArray, List.getElem_cons_succ, List.getElem_cons_zero, List.setIfInBounds_toArray, List.set_cons_zero, List.set_cons_succ]
              refine lec_takeP (i := 1) (v := ?v1b) rfl (by kernel_rfl) (by kernel_rfl) (by kernel_rfl) (by kernel_rfl) (fun _ _ _ h => h) (.inl ⟨by rfl, ?hy1b⟩) Sz ?rest1b
              case hy1b =>
                rintro w' _
                go_simp
                all_goals with_reducible rfl
              try simp only [Act.put, List.getElem_toArray, List.getElem_cons_succ, List.getElem_cons_zero, List.setIfInBounds_toArray, List.set_cons_zero, List.set_cons_succ]
              refine lec_takeP (i := 2) (v := ?v2b) rfl (by kernel_rfl) (by kernel_rfl) (by kernel_rfl) (by kernel_rfl) (fun _ _ _ h => h) (.inl ⟨by rfl, ?hy2b⟩) Sz ?rest2b
              case hy2b =>
                rintro w' _
                go_simp
                all_goals with_reducible rfl
              try simp only [Act.put, List.getElem_toArray, List.getElem_cons_succ, List.getElem_cons_zero, List.setIfInBounds_toArray, List.set_cons_zero, List.set_cons_succ]
              refine lec_takeP (i := 5) (v := ?v5b) rfl (by kernel_rfl) (by kernel_rfl) (by kernel_rfl) (by kernel_rfl) (fun _ _ _ h => h) (.inl ⟨by rfl, ?hy5b⟩) Sz ?rest5b
              case hy5b =>
                rintro w' _
                go_simp
                all_goals with_reducible rfl
              try simp only [Act.put, List.getElem_toArray, List.getElem_cons_succ, List.getElem_cons_zero, List.setIfInBounds_toArray, List.set_cons_zero, List.set_cons_succ]
              refine lec_takeP (i := 6) (v := ?v6b) rfl (by kernel_rfl) (by kernel_rfl) (by kernel_rfl) (by kernel_rfl) (fun _ _ _ h => h) (.inl ⟨by rfl, ?hy6b⟩) Sz ?rest6b
              case hy6b =>
                rintro w' _
                go_simp
                all_goals with_reducible rfl
              try simp only [Act.put, List.getElem_toArray, List.getElem_cons_succ, List.getElem_cons_zero, List.setIfInBounds_toArray, List.set_cons_zero, List.set_cons_succ]
              refine lec_takeP (i := 7) (v := ?v7b) rfl (by kernel_rfl) (by kernel_rfl) (by kernel_rfl) (by kernel_rfl) (fun _ _ _ h => h) (.inl ⟨by rfl, ?hy7b⟩) Sz ?rest7b
              case hy7b =>
                rintro w' _
                go_simp
                all_goals with_reducible rfl
              try simp only [Act.put, List.getElem_toArray, List.getElem_cons_succ, List.getElem_cons_zero, List.setIfInBounds_toArray, List.set_cons_zero, List.set_cons_succ]
              refine lec_takeP (i := 8) (v := ?v8b) rfl (by kernel_rfl) (by kernel_rfl) (by kernel_rfl) (by kernel_rfl) (fun _ _ _ h => h) (.inl ⟨by rfl, ?hy8b⟩) Sz ?rest8b
              case hy8b =>
                rintro w' _
                go_simp
                all_goals with_reducible rfl
              try simp only [Act.put, List.getElem_toArray, List.getElem_cons_succ, List.getElem_cons_zero, List.setIfInBounds_toArray, List.set_cons_zero, List.set_cons_succ]
              refine lec_takeT [10] (i := 9) (v := ?v9b) rfl (by kernel_rfl) (by kernel_rfl) (by kernel_rfl) (by kernel_rfl) (fun _ _ _ h => h) (.inl ⟨by rfl, ?hy9b⟩) Sz ?rest9b
              case hy9b =>
                rintro w' ⟨h1, h2⟩
                go_simp
                all_goals with_reducible rfl
              try simp only [Act.put, List.getElem_toArray, List.getElem_cons_succ, List.getElem_cons_zero, List.setIfInBounds_toArray, List.set_cons_zero, List.set_cons_succ]
              refine lec_one (i := 3) rfl (by kernel_rfl) ?_
              intro K3 hK3
              rw [if_pos (by rfl)]
              go_simp
              refine Calls.mono (HLE.out _ (Below.refl _ _).drew) ?_
              rintro e w10 ⟨rfl, b10⟩
              have HB10 : Hid (Below W.heap.size W w10) := (Below.refl _ _).drew.trans b10
              have HTX : Hid (CdT w0 w w10 rb ao n cap B sb cb #[.slice none 0 0, .slice (some ⟨gf, 0, none⟩) fn fc, .int .i64 main] tb W9.heap.size gf fn fc L.length FS q3) := HT10.out.keep HB10.out
              have Sq := HSR.out w10 HB10.out
              clear b10
              go_simp
              refine hK3 _ _ (fun _ => Sq) ?_
              clear Sz
              clear hK3
              try simp only [Act.put, List.getElem_toArray, List.getElem_cons_succ, List.getElem_cons_zero, List.setIfInBounds_toArray, List.set_cons_zero, List.set_cons_succ]
              have Sz := Sq
              refine lec_takeP (i := 4) (v := ?v4b) rfl (by kernel_rfl) (by kernel_rfl) (by kernel_rfl) (by kernel_rfl) (fun _ _ _ h => h) (.inl ⟨by rfl, ?hy4b⟩) Sz ?rest4b
              case hy4b =>
                rintro w' _
                go_simp
                all_goals with_reducible rfl
              try simp only [Act.put, List.getElem_toArray, List.getElem_cons_succ, List.getElem_cons_zero, List.setIfInBounds_toArray, List.set_cons_zero, List.set_cons_succ]
              refine lec_one (i := 10) rfl (by kernel_rfl) ?_
              intro K10 hK10
              rw [if_pos (by rfl)]
              go_simp
              refine (hold_no _ _).mono ?_
              rintro e w11 ⟨rfl, rfl⟩
              unfold thrC
              go_simp
              exact ⟨_, run_takeDeferred HTX.out.dd, CodP.thr HE6.out (HTX.out.cd.rd.low.trans ((only_put _ _ _).below HTX.out.cd.rd.low.size (fun k e => by have e : k = W9.heap.size := e; have := HTX.out.pt; have := HTX.out.cd.pl; have := HTX.out.cd.rd.ge; omega)))⟩
          case badZ =>
            intro p W hr hB hD
            have HE6 : Hid (rdCode B = .error p) := by show _ = _; rw [HE4.out, hr]
            refine ⟨by simp, .inl ⟨_, _, rfl, run_takeDeferred hD, ?_⟩⟩
            exact CodP.thr HE6.out (hB.trans ((only_put _ _ _).below hB.size (fun k e => by have e : k = W9.heap.size := e; have := HC9.out.rd.low.size; omega)))
end Go.Proofs.YtjiaedckecfjbaaDoor
