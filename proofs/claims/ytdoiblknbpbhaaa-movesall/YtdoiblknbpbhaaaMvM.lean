import Derived.Test.YtdoiblknbpbhaaaMvL
set_option linter.unusedVariables false
set_option linter.unusedSimpArgs false
namespace Go.Proofs.Ytdoiblknbpbhaaa
open Go.ChangeShapes Go.WideShapes Go.ChangeAt Go.RowKit Go.Maps

/-- The operations of Refuse's test of a move. -/
def opsR4 : Array Oper :=
  #[{ dst := some 14, op := Op.move (Operand.tmp 0), type := 22, pos := "moves.go:15", after := #[],
          guard := none },
        { dst := some 15, op := Op.move (Operand.tmp 5), type := 3, pos := "moves.go:15", after := #[], guard := none },
        { dst := some 16, op := Op.indexAddr 22 (Operand.tmp 14) (Operand.tmp 15), type := 0, pos := "moves.go:15",
          after := #[{ on := 0, ground := Ground.data }, { on := 1, ground := Ground.data }], guard := none },
        { dst := some 17, op := Op.fieldAddr 36 (Operand.tmp 16) 0, type := 0, pos := "moves.go:15",
          after := #[{ on := 2, ground := Ground.data }], guard := none },
        { dst := some 18, op := Op.load 24 (Operand.tmp 17), type := 24, pos := "moves.go:15",
          after := #[{ on := 3, ground := Ground.data }], guard := none },
        { dst := some 19,
          op := Op.call { callee := Callee.value (Operand.func 35), args := #[Operand.tmp 18], argTypes := #[24] },
          type := 4, pos := "moves.go:15", after := #[{ on := 4, ground := Ground.data }], guard := none },
        { dst := some 20, op := Op.unOp UnOp.not 4 (Operand.tmp 19), type := 4, pos := "moves.go:15",
          after := #[{ on := 5, ground := Ground.data }], guard := none },
        { dst := some 21, op := Op.move (Operand.tmp 20), type := 4, pos := "moves.go:15",
          after := #[{ on := 6, ground := Ground.data }, { on := 5, ground := Ground.chain }], guard := none },
        { dst := some 22, op := Op.move (Operand.tmp 0), type := 22, pos := "moves.go:15",
          after := #[{ on := 7, ground := Ground.guard }], guard := some (7, false) },
        { dst := some 23, op := Op.move (Operand.tmp 5), type := 3, pos := "moves.go:15",
          after := #[{ on := 7, ground := Ground.guard }], guard := some (7, false) },
        { dst := some 24, op := Op.indexAddr 22 (Operand.tmp 22) (Operand.tmp 23), type := 0, pos := "moves.go:15",
          after :=
            #[{ on := 8, ground := Ground.data }, { on := 9, ground := Ground.data },
              { on := 7, ground := Ground.guard }],
          guard := some (7, false) },
        { dst := some 25, op := Op.fieldAddr 36 (Operand.tmp 24) 1, type := 0, pos := "moves.go:15",
          after := #[{ on := 10, ground := Ground.data }, { on := 7, ground := Ground.guard }],
          guard := some (7, false) },
        { dst := some 26, op := Op.load 24 (Operand.tmp 25), type := 24, pos := "moves.go:15",
          after := #[{ on := 11, ground := Ground.data }, { on := 7, ground := Ground.guard }],
          guard := some (7, false) },
        { dst := some 27,
          op := Op.call { callee := Callee.value (Operand.func 35), args := #[Operand.tmp 26], argTypes := #[24] },
          type := 4, pos := "moves.go:15",
          after :=
            #[{ on := 12, ground := Ground.data }, { on := 7, ground := Ground.chain },
              { on := 7, ground := Ground.guard }],
          guard := some (7, false) },
        { dst := some 28, op := Op.unOp UnOp.not 4 (Operand.tmp 27), type := 4, pos := "moves.go:15",
          after := #[{ on := 13, ground := Ground.data }, { on := 7, ground := Ground.guard }],
          guard := some (7, false) },
        { dst := some 29, op := Op.move (Operand.tmp 28), type := 4, pos := "moves.go:15",
          after :=
            #[{ on := 14, ground := Ground.data }, { on := 13, ground := Ground.chain },
              { on := 7, ground := Ground.guard }],
          guard := some (7, false) },
        { dst := some 30, op := Op.move (Operand.tmp 0), type := 22, pos := "moves.go:15",
          after := #[{ on := 15, ground := Ground.guard }], guard := some (15, true) },
        { dst := some 31, op := Op.move (Operand.tmp 5), type := 3, pos := "moves.go:15",
          after := #[{ on := 15, ground := Ground.guard }], guard := some (15, true) },
        { dst := some 32, op := Op.indexAddr 22 (Operand.tmp 30) (Operand.tmp 31), type := 0, pos := "moves.go:15",
          after :=
            #[{ on := 16, ground := Ground.data }, { on := 17, ground := Ground.data },
              { on := 15, ground := Ground.guard }],
          guard := some (15, true) },
        { dst := some 33, op := Op.fieldAddr 36 (Operand.tmp 32) 1, type := 0, pos := "moves.go:15",
          after := #[{ on := 18, ground := Ground.data }, { on := 15, ground := Ground.guard }],
          guard := some (15, true) },
        { dst := some 34, op := Op.fieldAddr 24 (Operand.tmp 33) 0, type := 0, pos := "moves.go:15",
          after := #[{ on := 19, ground := Ground.data }, { on := 15, ground := Ground.guard }],
          guard := some (15, true) },
        { dst := some 35, op := Op.load 3 (Operand.tmp 34), type := 3, pos := "moves.go:15",
          after := #[{ on := 20, ground := Ground.data }, { on := 15, ground := Ground.guard }],
          guard := some (15, true) },
        { dst := some 36, op := Op.binOp BinOp.neq 3 (Operand.tmp 35) (Operand.const (Value.int IntKind.i64 3)) 3,
          type := 4, pos := "moves.go:15",
          after := #[{ on := 21, ground := Ground.data }, { on := 15, ground := Ground.guard }],
          guard := some (15, true) },
        { dst := some 37, op := Op.pick (Operand.tmp 29) (Operand.tmp 36) (Operand.const (Value.bool false)), type := 4,
          pos := "moves.go:15",
          after :=
            #[{ on := 15, ground := Ground.data }, { on := 22, ground := Ground.data },
              { on := 7, ground := Ground.guard }],
          guard := some (7, false) },
        { dst := some 38, op := Op.pick (Operand.tmp 21) (Operand.const (Value.bool true)) (Operand.tmp 37), type := 4,
          pos := "moves.go:15", after := #[{ on := 7, ground := Ground.data }, { on := 23, ground := Ground.data }],
          guard := none },
        { dst := some 39, op := Op.move (Operand.tmp 38), type := 4, pos := "moves.go:15",
          after := #[{ on := 24, ground := Ground.data }, { on := 15, ground := Ground.chain }], guard := none },
        { dst := some 40, op := Op.move (Operand.tmp 0), type := 22, pos := "moves.go:15",
          after := #[{ on := 25, ground := Ground.guard }], guard := some (25, false) },
        { dst := some 41, op := Op.move (Operand.tmp 5), type := 3, pos := "moves.go:15",
          after := #[{ on := 25, ground := Ground.guard }], guard := some (25, false) },
        { dst := some 42, op := Op.indexAddr 22 (Operand.tmp 40) (Operand.tmp 41), type := 0, pos := "moves.go:15",
          after :=
            #[{ on := 26, ground := Ground.data }, { on := 27, ground := Ground.data },
              { on := 25, ground := Ground.guard }],
          guard := some (25, false) },
        { dst := some 43, op := Op.fieldAddr 36 (Operand.tmp 42) 0, type := 0, pos := "moves.go:15",
          after := #[{ on := 28, ground := Ground.data }, { on := 25, ground := Ground.guard }],
          guard := some (25, false) },
        { dst := some 44, op := Op.load 24 (Operand.tmp 43), type := 24, pos := "moves.go:15",
          after := #[{ on := 29, ground := Ground.data }, { on := 25, ground := Ground.guard }],
          guard := some (25, false) },
        { dst := some 45, op := Op.load 24 (Operand.tmp 3), type := 24, pos := "moves.go:15",
          after := #[{ on := 25, ground := Ground.guard }], guard := some (25, false) },
        { dst := some 46,
          op :=
            Op.call
              { callee := Callee.value (Operand.func 27), args := #[Operand.tmp 44, Operand.tmp 45],
                argTypes := #[24, 24] },
          type := 4, pos := "moves.go:15",
          after :=
            #[{ on := 30, ground := Ground.data }, { on := 31, ground := Ground.data },
              { on := 25, ground := Ground.chain }, { on := 25, ground := Ground.guard }],
          guard := some (25, false) },
        { dst := some 47, op := Op.pick (Operand.tmp 39) (Operand.const (Value.bool true)) (Operand.tmp 46), type := 4,
          pos := "moves.go:15", after := #[{ on := 25, ground := Ground.data }, { on := 32, ground := Ground.data }],
          guard := none },
        { dst := some 48, op := Op.move (Operand.tmp 47), type := 4, pos := "moves.go:15",
          after := #[{ on := 33, ground := Ground.data }, { on := 32, ground := Ground.chain }], guard := none },
        { dst := some 49, op := Op.move (Operand.tmp 0), type := 22, pos := "moves.go:15",
          after := #[{ on := 34, ground := Ground.guard }], guard := some (34, false) },
        { dst := some 50, op := Op.move (Operand.tmp 5), type := 3, pos := "moves.go:15",
          after := #[{ on := 34, ground := Ground.guard }], guard := some (34, false) },
        { dst := some 51, op := Op.indexAddr 22 (Operand.tmp 49) (Operand.tmp 50), type := 0, pos := "moves.go:15",
          after :=
            #[{ on := 35, ground := Ground.data }, { on := 36, ground := Ground.data },
              { on := 34, ground := Ground.guard }],
          guard := some (34, false) },
        { dst := some 52, op := Op.fieldAddr 36 (Operand.tmp 51) 1, type := 0, pos := "moves.go:15",
          after := #[{ on := 37, ground := Ground.data }, { on := 34, ground := Ground.guard }],
          guard := some (34, false) },
        { dst := some 53, op := Op.load 24 (Operand.tmp 52), type := 24, pos := "moves.go:15",
          after := #[{ on := 38, ground := Ground.data }, { on := 34, ground := Ground.guard }],
          guard := some (34, false) },
        { dst := some 54, op := Op.load 24 (Operand.tmp 3), type := 24, pos := "moves.go:15",
          after := #[{ on := 34, ground := Ground.guard }], guard := some (34, false) },
        { dst := some 55,
          op :=
            Op.call
              { callee := Callee.value (Operand.func 27), args := #[Operand.tmp 53, Operand.tmp 54],
                argTypes := #[24, 24] },
          type := 4, pos := "moves.go:15",
          after :=
            #[{ on := 39, ground := Ground.data }, { on := 40, ground := Ground.data },
              { on := 34, ground := Ground.chain }, { on := 34, ground := Ground.guard }],
          guard := some (34, false) },
        { dst := some 56, op := Op.pick (Operand.tmp 48) (Operand.const (Value.bool true)) (Operand.tmp 55), type := 4,
          pos := "moves.go:15", after := #[{ on := 34, ground := Ground.data }, { on := 41, ground := Ground.data }],
          guard := none }]
theorem led_name {P : Program} {ops : Array Oper} {Q : Exit → Act → World → Prop} {S : World → Prop} {z k : Nat} {l : Array Bool} {a : Act} {w : World} (O : Array Oper) (h : ops = O) (hg : led P O Q S z k l a w) : led P ops Q S z k l a w := by
  subst h
  exact hg
set_option maxRecDepth 100000 in
set_option maxHeartbeats 40000000 in
theorem refuse_any (w : World) {la : Option Addr} {ln lc : Nat} {l : List Mv} (hL : Mvs w la lc l) (hn : ln = l.length) (t : Lc) :
    Calls Try.prog 26 #[.slice la ln lc, .agg #[.int .i64 t.1, .int .i64 t.2]] w fun e w' => e = .returned (.int .i64 (errP t l)) ∧ Below w.heap.size w w' := by
  obtain ⟨t1, t2⟩ := t
  have hmx : ln ≤ 9223372036854775807 := by have := hL.le; have := hL.mx; omega
  have HL : Hid (Mvs w la lc l) := hL
  have HN : Hid (ln = l.length) := hn
  unfold errP placedP
  obtain ⟨R, hR⟩ : ∃ R, l.all (mvOk (t1, t2)) = R := ⟨_, rfl⟩
  have HR : Hid (l.all (mvOk (t1, t2)) = R) := hR
  rw [hR]
  obtain ⟨V, hV⟩ : ∃ V, plP (t1, t2) = V := ⟨_, rfl⟩
  rw [hV]
  have HPT : Hid (∀ w', Calls Try.prog 35 #[.agg #[.int .i64 t1, .int .i64 t2]] w' fun e w'' => e = .returned (.bool V) ∧ Below w'.heap.size w' w'') := fun w' => by
    refine (refPlace_any w' (t1, t2)).mono ?_
    rintro e w'' ⟨rfl, rfl⟩
    exact ⟨by rw [hV], below_new _ _⟩
  obtain ⟨E, hE⟩ : ∃ E : Int, (if (V && R) = true then (if (l.map Prod.fst).Nodup then 0 else 130) else 131) = E := ⟨_, rfl⟩
  have HE : Hid ((if (V && R) = true then (if (l.map Prod.fst).Nodup then 0 else 130) else 131) = E) := hE
  rw [hE]
  obtain ⟨wt, hwt⟩ : ∃ W, W = w.alloc (.cells #[.int .i64 t1, .int .i64 t2] 24) := ⟨_, rfl⟩
  have HB0 : Hid (Below w.heap.size w wt) := by rw [hwt]; exact below_new _ _
  have HT0 : Hid (wt.heap[w.heap.size]? = some (.cells #[.int .i64 t1, .int .i64 t2] 24 (0, 0))) := by rw [hwt]; exact heap_alloc_new _ _
  clear hL hn hR hV hE
  simp only
  go_enter Try.func26, Try.ntmps26
  go_wp2_with fail
  rw [← hwt]
  clear hwt
  go_loopw [5] (fun v wr => ∃ k : Nat, k ≤ ln ∧ v = .int .i64 k ∧ Hid (∀ i, ∀ h : i < l.length, i < k → mvOk (t1, t2) l[i] = true) ∧ Hid (Below w.heap.size w wr) ∧ Hid (wr.heap[w.heap.size]? = some (.cells #[.int .i64 t1, .int .i64 t2] 24 (0, 0)))) (fun v _ => ln - (intOf v).toNat)
  case atStart => exact ⟨0, by omega, rfl, fun i h hi => by omega, HB0, HT0⟩
  case round =>
    clear HB0 HT0
    obtain ⟨k, hk, rfl, HP, HB, HT⟩ := hrel
    have x0 : wr.cell? ⟨w.heap.size, 0, none⟩ = some (.int .i64 t1) := cell_arr HT.out rfl
    have x1 : wr.cell? ⟨w.heap.size, 1, none⟩ = some (.int .i64 t2) := cell_arr HT.out rfl
    have xs : w.heap.size < wr.heap.size := (Array.getElem?_eq_some_iff.1 HT.out).1
    by_cases hlt : k < ln
    · have hkf : k < l.length := by have := HN.out; omega
      obtain ⟨b, o, rfl, hbl, c0, c1, c2, c3⟩ := (HL.out.below HB.out (Nat.le_refl _)).at hkf
      have HM : Hid (mvOk (t1, t2) l[k] = true → ∀ i, ∀ h : i < l.length, i < k + 1 → mvOk (t1, t2) l[i] = true) := fun hm i h hi => by
        by_cases e : i = k
        · subst e; exact hm
        · exact HP.out i h (by omega)
      have HF : Hid (mvOk (t1, t2) l[k] = false → E = 131) := fun hm => by
        have hR : R = false := by
          rw [← HR.out]
          exact List.all_eq_false.2 ⟨l[k], List.getElem_mem hkf, by rw [hm]; simp⟩
        rw [← HE.out, hR]
        simp
      generalize l[k] = m at c0 c1 c2 c3 HM HF
      obtain ⟨⟨m1, m2⟩, ⟨m3, m4⟩⟩ := m
      simp only at c0 c1 c2 c3
      rw [mvOk_doc] at HM HF
      have S0 : (fun w' : World => Below wr.heap.size wr w' ∧ w'.cell? ⟨b, o + k * 4, none⟩ = some (.int .i64 m1) ∧ w'.cell? ⟨b, o + k * 4 + 1, none⟩ = some (.int .i64 m2) ∧ w'.cell? ⟨b, o + k * 4 + 2, none⟩ = some (.int .i64 m3) ∧ w'.cell? ⟨b, o + k * 4 + 3, none⟩ = some (.int .i64 m4) ∧ w'.cell? ⟨w.heap.size, 0, none⟩ = some (.int .i64 t1) ∧ w'.cell? ⟨w.heap.size, 1, none⟩ = some (.int .i64 t2)) wr.drew := ⟨(Below.refl _ _).drew, c0, c1, c2, c3, x0, x1⟩
      have HSB : Hid (∀ w' w'' : World, (fun w' : World => Below wr.heap.size wr w' ∧ w'.cell? ⟨b, o + k * 4, none⟩ = some (.int .i64 m1) ∧ w'.cell? ⟨b, o + k * 4 + 1, none⟩ = some (.int .i64 m2) ∧ w'.cell? ⟨b, o + k * 4 + 2, none⟩ = some (.int .i64 m3) ∧ w'.cell? ⟨b, o + k * 4 + 3, none⟩ = some (.int .i64 m4) ∧ w'.cell? ⟨w.heap.size, 0, none⟩ = some (.int .i64 t1) ∧ w'.cell? ⟨w.heap.size, 1, none⟩ = some (.int .i64 t2)) w' → Below w'.heap.size w' w'' → (fun w' : World => Below wr.heap.size wr w' ∧ w'.cell? ⟨b, o + k * 4, none⟩ = some (.int .i64 m1) ∧ w'.cell? ⟨b, o + k * 4 + 1, none⟩ = some (.int .i64 m2) ∧ w'.cell? ⟨b, o + k * 4 + 2, none⟩ = some (.int .i64 m3) ∧ w'.cell? ⟨b, o + k * 4 + 3, none⟩ = some (.int .i64 m4) ∧ w'.cell? ⟨w.heap.size, 0, none⟩ = some (.int .i64 t1) ∧ w'.cell? ⟨w.heap.size, 1, none⟩ = some (.int .i64 t2)) w'') := fun w' w'' hs hb => ⟨hs.1.trans (hb.mono hs.1.size), (hb.cell (p := ⟨b, o + k * 4, none⟩) (Nat.lt_of_lt_of_le hbl hs.1.size)).trans hs.2.1, (hb.cell (p := ⟨b, o + k * 4 + 1, none⟩) (Nat.lt_of_lt_of_le hbl hs.1.size)).trans hs.2.2.1, (hb.cell (p := ⟨b, o + k * 4 + 2, none⟩) (Nat.lt_of_lt_of_le hbl hs.1.size)).trans hs.2.2.2.1, (hb.cell (p := ⟨b, o + k * 4 + 3, none⟩) (Nat.lt_of_lt_of_le hbl hs.1.size)).trans hs.2.2.2.2.1, (hb.cell (p := ⟨w.heap.size, 0, none⟩) (Nat.lt_of_lt_of_le xs hs.1.size)).trans hs.2.2.2.2.2.1, (hb.cell (p := ⟨w.heap.size, 1, none⟩) (Nat.lt_of_lt_of_le xs hs.1.size)).trans hs.2.2.2.2.2.2⟩
      obtain ⟨b1, hb1⟩ : ∃ b, plP (m1, m2) = b := ⟨_, rfl⟩
      obtain ⟨b2, hb2⟩ : ∃ b, plP (m3, m4) = b := ⟨_, rfl⟩
      obtain ⟨e4, he4⟩ : ∃ b, decide (((m1, m2) : Lc) = (t1, t2)) = b := ⟨_, rfl⟩
      obtain ⟨e5, he5⟩ : ∃ b, decide (((m3, m4) : Lc) = (t1, t2)) = b := ⟨_, rfl⟩
      have HP1 : Hid (∀ w', (fun w' : World => Below wr.heap.size wr w' ∧ w'.cell? ⟨b, o + k * 4, none⟩ = some (.int .i64 m1) ∧ w'.cell? ⟨b, o + k * 4 + 1, none⟩ = some (.int .i64 m2) ∧ w'.cell? ⟨b, o + k * 4 + 2, none⟩ = some (.int .i64 m3) ∧ w'.cell? ⟨b, o + k * 4 + 3, none⟩ = some (.int .i64 m4) ∧ w'.cell? ⟨w.heap.size, 0, none⟩ = some (.int .i64 t1) ∧ w'.cell? ⟨w.heap.size, 1, none⟩ = some (.int .i64 t2)) w' → Calls Try.prog 35 #[.agg #[.int .i64 m1, .int .i64 m2]] w' fun e w'' => e = .returned (.bool b1) ∧ (fun w' : World => Below wr.heap.size wr w' ∧ w'.cell? ⟨b, o + k * 4, none⟩ = some (.int .i64 m1) ∧ w'.cell? ⟨b, o + k * 4 + 1, none⟩ = some (.int .i64 m2) ∧ w'.cell? ⟨b, o + k * 4 + 2, none⟩ = some (.int .i64 m3) ∧ w'.cell? ⟨b, o + k * 4 + 3, none⟩ = some (.int .i64 m4) ∧ w'.cell? ⟨w.heap.size, 0, none⟩ = some (.int .i64 t1) ∧ w'.cell? ⟨w.heap.size, 1, none⟩ = some (.int .i64 t2)) w'') := fun w' hs => by
        refine (refPlace_any w' (m1, m2)).mono ?_
        rintro e w'' ⟨rfl, rfl⟩
        exact ⟨by rw [hb1], HSB.out _ _ hs (below_new _ _)⟩
      have HP2 : Hid (∀ w', (fun w' : World => Below wr.heap.size wr w' ∧ w'.cell? ⟨b, o + k * 4, none⟩ = some (.int .i64 m1) ∧ w'.cell? ⟨b, o + k * 4 + 1, none⟩ = some (.int .i64 m2) ∧ w'.cell? ⟨b, o + k * 4 + 2, none⟩ = some (.int .i64 m3) ∧ w'.cell? ⟨b, o + k * 4 + 3, none⟩ = some (.int .i64 m4) ∧ w'.cell? ⟨w.heap.size, 0, none⟩ = some (.int .i64 t1) ∧ w'.cell? ⟨w.heap.size, 1, none⟩ = some (.int .i64 t2)) w' → Calls Try.prog 35 #[.agg #[.int .i64 m3, .int .i64 m4]] w' fun e w'' => e = .returned (.bool b2) ∧ (fun w' : World => Below wr.heap.size wr w' ∧ w'.cell? ⟨b, o + k * 4, none⟩ = some (.int .i64 m1) ∧ w'.cell? ⟨b, o + k * 4 + 1, none⟩ = some (.int .i64 m2) ∧ w'.cell? ⟨b, o + k * 4 + 2, none⟩ = some (.int .i64 m3) ∧ w'.cell? ⟨b, o + k * 4 + 3, none⟩ = some (.int .i64 m4) ∧ w'.cell? ⟨w.heap.size, 0, none⟩ = some (.int .i64 t1) ∧ w'.cell? ⟨w.heap.size, 1, none⟩ = some (.int .i64 t2)) w'') := fun w' hs => by
        refine (refPlace_any w' (m3, m4)).mono ?_
        rintro e w'' ⟨rfl, rfl⟩
        exact ⟨by rw [hb2], HSB.out _ _ hs (below_new _ _)⟩
      have HS1 : Hid (∀ w', (fun w' : World => Below wr.heap.size wr w' ∧ w'.cell? ⟨b, o + k * 4, none⟩ = some (.int .i64 m1) ∧ w'.cell? ⟨b, o + k * 4 + 1, none⟩ = some (.int .i64 m2) ∧ w'.cell? ⟨b, o + k * 4 + 2, none⟩ = some (.int .i64 m3) ∧ w'.cell? ⟨b, o + k * 4 + 3, none⟩ = some (.int .i64 m4) ∧ w'.cell? ⟨w.heap.size, 0, none⟩ = some (.int .i64 t1) ∧ w'.cell? ⟨w.heap.size, 1, none⟩ = some (.int .i64 t2)) w' → Calls Try.prog 27 #[.agg #[.int .i64 m1, .int .i64 m2], .agg #[.int .i64 t1, .int .i64 t2]] w' fun e w'' => e = .returned (.bool e4) ∧ (fun w' : World => Below wr.heap.size wr w' ∧ w'.cell? ⟨b, o + k * 4, none⟩ = some (.int .i64 m1) ∧ w'.cell? ⟨b, o + k * 4 + 1, none⟩ = some (.int .i64 m2) ∧ w'.cell? ⟨b, o + k * 4 + 2, none⟩ = some (.int .i64 m3) ∧ w'.cell? ⟨b, o + k * 4 + 3, none⟩ = some (.int .i64 m4) ∧ w'.cell? ⟨w.heap.size, 0, none⟩ = some (.int .i64 t1) ∧ w'.cell? ⟨w.heap.size, 1, none⟩ = some (.int .i64 t2)) w'') := fun w' hs => by
        refine (same_any w' (m1, m2) (t1, t2)).mono ?_
        rintro e w'' ⟨rfl, hb⟩
        exact ⟨by rw [he4], HSB.out _ _ hs hb⟩
      have HS2 : Hid (∀ w', (fun w' : World => Below wr.heap.size wr w' ∧ w'.cell? ⟨b, o + k * 4, none⟩ = some (.int .i64 m1) ∧ w'.cell? ⟨b, o + k * 4 + 1, none⟩ = some (.int .i64 m2) ∧ w'.cell? ⟨b, o + k * 4 + 2, none⟩ = some (.int .i64 m3) ∧ w'.cell? ⟨b, o + k * 4 + 3, none⟩ = some (.int .i64 m4) ∧ w'.cell? ⟨w.heap.size, 0, none⟩ = some (.int .i64 t1) ∧ w'.cell? ⟨w.heap.size, 1, none⟩ = some (.int .i64 t2)) w' → Calls Try.prog 27 #[.agg #[.int .i64 m3, .int .i64 m4], .agg #[.int .i64 t1, .int .i64 t2]] w' fun e w'' => e = .returned (.bool e5) ∧ (fun w' : World => Below wr.heap.size wr w' ∧ w'.cell? ⟨b, o + k * 4, none⟩ = some (.int .i64 m1) ∧ w'.cell? ⟨b, o + k * 4 + 1, none⟩ = some (.int .i64 m2) ∧ w'.cell? ⟨b, o + k * 4 + 2, none⟩ = some (.int .i64 m3) ∧ w'.cell? ⟨b, o + k * 4 + 3, none⟩ = some (.int .i64 m4) ∧ w'.cell? ⟨w.heap.size, 0, none⟩ = some (.int .i64 t1) ∧ w'.cell? ⟨w.heap.size, 1, none⟩ = some (.int .i64 t2)) w'') := fun w' hs => by
        refine (same_any w' (m3, m4) (t1, t2)).mono ?_
        rintro e w'' ⟨rfl, hb⟩
        exact ⟨by rw [he5], HSB.out _ _ hs hb⟩
      rw [hb1, hb2, he4, he5] at HM HF
      clear hb1 hb2 he4 he5 HSB c0 c1 c2 c3 x0 x1
      go_wp2_with fail
      refine led_start (S := fun w' : World => Below wr.heap.size wr w' ∧ w'.cell? ⟨b, o + k * 4, none⟩ = some (.int .i64 m1) ∧ w'.cell? ⟨b, o + k * 4 + 1, none⟩ = some (.int .i64 m2) ∧ w'.cell? ⟨b, o + k * 4 + 2, none⟩ = some (.int .i64 m3) ∧ w'.cell? ⟨b, o + k * 4 + 3, none⟩ = some (.int .i64 m4) ∧ w'.cell? ⟨w.heap.size, 0, none⟩ = some (.int .i64 t1) ∧ w'.cell? ⟨w.heap.size, 1, none⟩ = some (.int .i64 t2)) (z := 100) (by kernel_rfl) ?_
      show led _ _ _ _ _ 43 _ _ _
      refine led_name opsR4 rfl ?_
      refine led_takeF (i := 0) (oi := { dst := some 14, op := Op.move (Operand.tmp 0), type := 22, pos := "moves.go:15", after := #[], guard := none }) (v := ?v0a) rfl (by kernel_rfl) (by kernel_rfl) (by kernel_rfl) (by kernel_rfl) (fun _ _ _ h => h) (.inl ⟨by kernel_rfl, ?hy0a⟩) S0 ?rest0a
      case hy0a =>
        rintro w' ⟨h0, h1, h2, h3, h4, h5, h6⟩
        go_simp
        all_goals with_reducible rfl
      try simp only [Act.put, List.setIfInBounds_toArray, List.set_cons_zero, List.set_cons_succ]
      refine led_takeF (i := 1) (oi := { dst := some 15, op := Op.move (Operand.tmp 5), type := 3, pos := "moves.go:15", after := #[], guard := none }) (v := ?v1a) rfl (by kernel_rfl) (by kernel_rfl) (by kernel_rfl) (by kernel_rfl) (fun _ _ _ h => h) (.inl ⟨by kernel_rfl, ?hy1a⟩) S0 ?rest1a
      case hy1a =>
        rintro w' ⟨h0, h1, h2, h3, h4, h5, h6⟩
        go_simp
        all_goals with_reducible rfl
      try simp only [Act.put, List.setIfInBounds_toArray, List.set_cons_zero, List.set_cons_succ]
      refine led_takeF (i := 2) (oi := { dst := some 16, op := Op.indexAddr 22 (Operand.tmp 14) (Operand.tmp 15), type := 0, pos := "moves.go:15", after := #[{ on := 0, ground := Ground.data }, { on := 1, ground := Ground.data }], guard := none }) (v := ?v2a) rfl (by kernel_rfl) (by kernel_rfl) (by kernel_rfl) (by kernel_rfl) (fun _ _ _ h => h) (.inl ⟨by kernel_rfl, ?hy2a⟩) S0 ?rest2a
      case hy2a =>
        rintro w' ⟨h0, h1, h2, h3, h4, h5, h6⟩
        go_simp
        all_goals with_reducible rfl
      try simp only [Act.put, List.setIfInBounds_toArray, List.set_cons_zero, List.set_cons_succ]
      refine led_takeF (i := 3) (oi := { dst := some 17, op := Op.fieldAddr 36 (Operand.tmp 16) 0, type := 0, pos := "moves.go:15", after := #[{ on := 2, ground := Ground.data }], guard := none }) (v := ?v3a) rfl (by kernel_rfl) (by kernel_rfl) (by kernel_rfl) (by kernel_rfl) (fun _ _ _ h => h) (.inl ⟨by kernel_rfl, ?hy3a⟩) S0 ?rest3a
      case hy3a =>
        rintro w' ⟨h0, h1, h2, h3, h4, h5, h6⟩
        go_simp
        all_goals with_reducible rfl
      try simp only [Act.put, List.setIfInBounds_toArray, List.set_cons_zero, List.set_cons_succ]
      refine led_takeF (i := 4) (oi := { dst := some 18, op := Op.load 24 (Operand.tmp 17), type := 24, pos := "moves.go:15", after := #[{ on := 3, ground := Ground.data }], guard := none }) (v := ?v4a) rfl (by kernel_rfl) (by kernel_rfl) (by kernel_rfl) (by kernel_rfl) (fun _ _ _ h => h) (.inl ⟨by kernel_rfl, ?hy4a⟩) S0 ?rest4a
      case hy4a =>
        rintro w' ⟨h0, h1, h2, h3, h4, h5, h6⟩
        go_simp
        all_goals with_reducible rfl
      try simp only [Act.put, List.setIfInBounds_toArray, List.set_cons_zero, List.set_cons_succ]
      refine led_one (i := 5) (oi := { dst := some 19, op := Op.call { callee := Callee.value (Operand.func 35), args := #[Operand.tmp 18], argTypes := #[24] }, type := 4, pos := "moves.go:15", after := #[{ on := 4, ground := Ground.data }], guard := none }) rfl (by kernel_rfl) ?_
      intro K5 hK5
      rw [if_pos (by rfl)]
      go_simp
      refine (HP1.out _ S0).mono ?_
      rintro e wS1 ⟨rfl, S1⟩
      refine hK5 _ _ (fun _ => S1) ?_
      clear hK5
      try simp only [Act.put, List.setIfInBounds_toArray, List.set_cons_zero, List.set_cons_succ]
      cases b1
      ·
        refine led_takeF (i := 6) (oi := { dst := some 20, op := Op.unOp UnOp.not 4 (Operand.tmp 19), type := 4, pos := "moves.go:15", after := #[{ on := 5, ground := Ground.data }], guard := none }) (v := ?v6b) rfl (by kernel_rfl) (by kernel_rfl) (by kernel_rfl) (by kernel_rfl) (fun _ _ _ h => h) (.inl ⟨by kernel_rfl, ?hy6b⟩) S1 ?rest6b
        case hy6b =>
          rintro w' ⟨h0, h1, h2, h3, h4, h5, h6⟩
          go_simp
          all_goals with_reducible rfl
        try simp only [Act.put, List.setIfInBounds_toArray, List.set_cons_zero, List.set_cons_succ]
        refine led_takeF (i := 7) (oi := { dst := some 21, op := Op.move (Operand.tmp 20), type := 4, pos := "moves.go:15", after := #[{ on := 6, ground := Ground.data }, { on := 5, ground := Ground.chain }], guard := none }) (v := ?v7b) rfl (by kernel_rfl) (by kernel_rfl) (by kernel_rfl) (by kernel_rfl) (fun _ _ _ h => h) (.inl ⟨by kernel_rfl, ?hy7b⟩) S1 ?rest7b
        case hy7b =>
          rintro w' ⟨h0, h1, h2, h3, h4, h5, h6⟩
          go_simp
          all_goals with_reducible rfl
        try simp only [Act.put, List.setIfInBounds_toArray, List.set_cons_zero, List.set_cons_succ]
        refine led_takeF (i := 8) (oi := { dst := some 22, op := Op.move (Operand.tmp 0), type := 22, pos := "moves.go:15", after := #[{ on := 7, ground := Ground.guard }], guard := some (7, false) }) (v := undef) rfl (by kernel_rfl) (by kernel_rfl) (by kernel_rfl) (by kernel_rfl) (fun _ _ _ h => h) (.inr ⟨by kernel_rfl, rfl⟩) S1 ?_
        try simp only [Act.put, List.getElem_toArray, List.getElem_cons_succ, List.getElem_cons_zero, List.setIfInBounds_toArray, List.set_cons_zero, List.set_cons_succ]
        refine led_takeF (i := 9) (oi := { dst := some 23, op := Op.move (Operand.tmp 5), type := 3, pos := "moves.go:15", after := #[{ on := 7, ground := Ground.guard }], guard := some (7, false) }) (v := undef) rfl (by kernel_rfl) (by kernel_rfl) (by kernel_rfl) (by kernel_rfl) (fun _ _ _ h => h) (.inr ⟨by kernel_rfl, rfl⟩) S1 ?_
        try simp only [Act.put, List.getElem_toArray, List.getElem_cons_succ, List.getElem_cons_zero, List.setIfInBounds_toArray, List.set_cons_zero, List.set_cons_succ]
        refine led_takeF (i := 10) (oi := { dst := some 24, op := Op.indexAddr 22 (Operand.tmp 22) (Operand.tmp 23), type := 0, pos := "moves.go:15", after := #[{ on := 8, ground := Ground.data }, { on := 9, ground := Ground.data }, { on := 7, ground := Ground.guard }], guard := some (7, false) }) (v := undef) rfl (by kernel_rfl) (by kernel_rfl) (by kernel_rfl) (by kernel_rfl) (fun _ _ _ h => h) (.inr ⟨by kernel_rfl, rfl⟩) S1 ?_
        try simp only [Act.put, List.getElem_toArray, List.getElem_cons_succ, List.getElem_cons_zero, List.setIfInBounds_toArray, List.set_cons_zero, List.set_cons_succ]
        refine led_takeF (i := 11) (oi := { dst := some 25, op := Op.fieldAddr 36 (Operand.tmp 24) 1, type := 0, pos := "moves.go:15", after := #[{ on := 10, ground := Ground.data }, { on := 7, ground := Ground.guard }], guard := some (7, false) }) (v := undef) rfl (by kernel_rfl) (by kernel_rfl) (by kernel_rfl) (by kernel_rfl) (fun _ _ _ h => h) (.inr ⟨by kernel_rfl, rfl⟩) S1 ?_
        try simp only [Act.put, List.getElem_toArray, List.getElem_cons_succ, List.getElem_cons_zero, List.setIfInBounds_toArray, List.set_cons_zero, List.set_cons_succ]
        refine led_takeF (i := 12) (oi := { dst := some 26, op := Op.load 24 (Operand.tmp 25), type := 24, pos := "moves.go:15", after := #[{ on := 11, ground := Ground.data }, { on := 7, ground := Ground.guard }], guard := some (7, false) }) (v := undef) rfl (by kernel_rfl) (by kernel_rfl) (by kernel_rfl) (by kernel_rfl) (fun _ _ _ h => h) (.inr ⟨by kernel_rfl, rfl⟩) S1 ?_
        try simp only [Act.put, List.getElem_toArray, List.getElem_cons_succ, List.getElem_cons_zero, List.setIfInBounds_toArray, List.set_cons_zero, List.set_cons_succ]
        refine led_takeF (i := 13) (oi := { dst := some 27, op := Op.call { callee := Callee.value (Operand.func 35), args := #[Operand.tmp 26], argTypes := #[24] }, type := 4, pos := "moves.go:15", after := #[{ on := 12, ground := Ground.data }, { on := 7, ground := Ground.chain }, { on := 7, ground := Ground.guard }], guard := some (7, false) }) (v := undef) rfl (by kernel_rfl) (by kernel_rfl) (by kernel_rfl) (by kernel_rfl) (fun _ _ _ h => h) (.inr ⟨by kernel_rfl, rfl⟩) S1 ?_
        try simp only [Act.put, List.getElem_toArray, List.getElem_cons_succ, List.getElem_cons_zero, List.setIfInBounds_toArray, List.set_cons_zero, List.set_cons_succ]
        refine led_takeF (i := 14) (oi := { dst := some 28, op := Op.unOp UnOp.not 4 (Operand.tmp 27), type := 4, pos := "moves.go:15", after := #[{ on := 13, ground := Ground.data }, { on := 7, ground := Ground.guard }], guard := some (7, false) }) (v := undef) rfl (by kernel_rfl) (by kernel_rfl) (by kernel_rfl) (by kernel_rfl) (fun _ _ _ h => h) (.inr ⟨by kernel_rfl, rfl⟩) S1 ?_
        try simp only [Act.put, List.getElem_toArray, List.getElem_cons_succ, List.getElem_cons_zero, List.setIfInBounds_toArray, List.set_cons_zero, List.set_cons_succ]
        refine led_takeF (i := 15) (oi := { dst := some 29, op := Op.move (Operand.tmp 28), type := 4, pos := "moves.go:15", after := #[{ on := 14, ground := Ground.data }, { on := 13, ground := Ground.chain }, { on := 7, ground := Ground.guard }], guard := some (7, false) }) (v := undef) rfl (by kernel_rfl) (by kernel_rfl) (by kernel_rfl) (by kernel_rfl) (fun _ _ _ h => h) (.inr ⟨by kernel_rfl, rfl⟩) S1 ?_
        try simp only [Act.put, List.getElem_toArray, List.getElem_cons_succ, List.getElem_cons_zero, List.setIfInBounds_toArray, List.set_cons_zero, List.set_cons_succ]
        refine led_takeF (i := 16) (oi := { dst := some 30, op := Op.move (Operand.tmp 0), type := 22, pos := "moves.go:15", after := #[{ on := 15, ground := Ground.guard }], guard := some (15, true) }) (v := undef) rfl (by kernel_rfl) (by kernel_rfl) (by kernel_rfl) (by kernel_rfl) (fun _ _ _ h => h) (.inr ⟨by kernel_rfl, rfl⟩) S1 ?_
        try simp only [Act.put, List.getElem_toArray, List.getElem_cons_succ, List.getElem_cons_zero, List.setIfInBounds_toArray, List.set_cons_zero, List.set_cons_succ]
        refine led_takeF (i := 17) (oi := { dst := some 31, op := Op.move (Operand.tmp 5), type := 3, pos := "moves.go:15", after := #[{ on := 15, ground := Ground.guard }], guard := some (15, true) }) (v := undef) rfl (by kernel_rfl) (by kernel_rfl) (by kernel_rfl) (by kernel_rfl) (fun _ _ _ h => h) (.inr ⟨by kernel_rfl, rfl⟩) S1 ?_
        try simp only [Act.put, List.getElem_toArray, List.getElem_cons_succ, List.getElem_cons_zero, List.setIfInBounds_toArray, List.set_cons_zero, List.set_cons_succ]
        refine led_takeF (i := 18) (oi := { dst := some 32, op := Op.indexAddr 22 (Operand.tmp 30) (Operand.tmp 31), type := 0, pos := "moves.go:15", after := #[{ on := 16, ground := Ground.data }, { on := 17, ground := Ground.data }, { on := 15, ground := Ground.guard }], guard := some (15, true) }) (v := undef) rfl (by kernel_rfl) (by kernel_rfl) (by kernel_rfl) (by kernel_rfl) (fun _ _ _ h => h) (.inr ⟨by kernel_rfl, rfl⟩) S1 ?_
        try simp only [Act.put, List.getElem_toArray, List.getElem_cons_succ, List.getElem_cons_zero, List.setIfInBounds_toArray, List.set_cons_zero, List.set_cons_succ]
        refine led_takeF (i := 19) (oi := { dst := some 33, op := Op.fieldAddr 36 (Operand.tmp 32) 1, type := 0, pos := "moves.go:15", after := #[{ on := 18, ground := Ground.data }, { on := 15, ground := Ground.guard }], guard := some (15, true) }) (v := undef) rfl (by kernel_rfl) (by kernel_rfl) (by kernel_rfl) (by kernel_rfl) (fun _ _ _ h => h) (.inr ⟨by kernel_rfl, rfl⟩) S1 ?_
        try simp only [Act.put, List.getElem_toArray, List.getElem_cons_succ, List.getElem_cons_zero, List.setIfInBounds_toArray, List.set_cons_zero, List.set_cons_succ]
        refine led_takeF (i := 20) (oi := { dst := some 34, op := Op.fieldAddr 24 (Operand.tmp 33) 0, type := 0, pos := "moves.go:15", after := #[{ on := 19, ground := Ground.data }, { on := 15, ground := Ground.guard }], guard := some (15, true) }) (v := undef) rfl (by kernel_rfl) (by kernel_rfl) (by kernel_rfl) (by kernel_rfl) (fun _ _ _ h => h) (.inr ⟨by kernel_rfl, rfl⟩) S1 ?_
        try simp only [Act.put, List.getElem_toArray, List.getElem_cons_succ, List.getElem_cons_zero, List.setIfInBounds_toArray, List.set_cons_zero, List.set_cons_succ]
        refine led_takeF (i := 21) (oi := { dst := some 35, op := Op.load 3 (Operand.tmp 34), type := 3, pos := "moves.go:15", after := #[{ on := 20, ground := Ground.data }, { on := 15, ground := Ground.guard }], guard := some (15, true) }) (v := undef) rfl (by kernel_rfl) (by kernel_rfl) (by kernel_rfl) (by kernel_rfl) (fun _ _ _ h => h) (.inr ⟨by kernel_rfl, rfl⟩) S1 ?_
        try simp only [Act.put, List.getElem_toArray, List.getElem_cons_succ, List.getElem_cons_zero, List.setIfInBounds_toArray, List.set_cons_zero, List.set_cons_succ]
        refine led_takeF (i := 22) (oi := { dst := some 36, op := Op.binOp BinOp.neq 3 (Operand.tmp 35) (Operand.const (Value.int IntKind.i64 3)) 3, type := 4, pos := "moves.go:15", after := #[{ on := 21, ground := Ground.data }, { on := 15, ground := Ground.guard }], guard := some (15, true) }) (v := undef) rfl (by kernel_rfl) (by kernel_rfl) (by kernel_rfl) (by kernel_rfl) (fun _ _ _ h => h) (.inr ⟨by kernel_rfl, rfl⟩) S1 ?_
        try simp only [Act.put, List.getElem_toArray, List.getElem_cons_succ, List.getElem_cons_zero, List.setIfInBounds_toArray, List.set_cons_zero, List.set_cons_succ]
        refine led_takeF (i := 23) (oi := { dst := some 37, op := Op.pick (Operand.tmp 29) (Operand.tmp 36) (Operand.const (Value.bool false)), type := 4, pos := "moves.go:15", after := #[{ on := 15, ground := Ground.data }, { on := 22, ground := Ground.data }, { on := 7, ground := Ground.guard }], guard := some (7, false) }) (v := undef) rfl (by kernel_rfl) (by kernel_rfl) (by kernel_rfl) (by kernel_rfl) (fun _ _ _ h => h) (.inr ⟨by kernel_rfl, rfl⟩) S1 ?_
        try simp only [Act.put, List.getElem_toArray, List.getElem_cons_succ, List.getElem_cons_zero, List.setIfInBounds_toArray, List.set_cons_zero, List.set_cons_succ]
        refine led_takeF (i := 24) (oi := { dst := some 38, op := Op.pick (Operand.tmp 21) (Operand.const (Value.bool true)) (Operand.tmp 37), type := 4, pos := "moves.go:15", after := #[{ on := 7, ground := Ground.data }, { on := 23, ground := Ground.data }], guard := none }) (v := ?v24b) rfl (by kernel_rfl) (by kernel_rfl) (by kernel_rfl) (by kernel_rfl) (fun _ _ _ h => h) (.inl ⟨by kernel_rfl, ?hy24b⟩) S1 ?rest24b
        case hy24b =>
          rintro w' ⟨h0, h1, h2, h3, h4, h5, h6⟩
          go_simp
          all_goals with_reducible rfl
        try simp only [Act.put, List.setIfInBounds_toArray, List.set_cons_zero, List.set_cons_succ]
        refine led_takeF (i := 25) (oi := { dst := some 39, op := Op.move (Operand.tmp 38), type := 4, pos := "moves.go:15", after := #[{ on := 24, ground := Ground.data }, { on := 15, ground := Ground.chain }], guard := none }) (v := ?v25b) rfl (by kernel_rfl) (by kernel_rfl) (by kernel_rfl) (by kernel_rfl) (fun _ _ _ h => h) (.inl ⟨by kernel_rfl, ?hy25b⟩) S1 ?rest25b
        case hy25b =>
          rintro w' ⟨h0, h1, h2, h3, h4, h5, h6⟩
          go_simp
          all_goals with_reducible rfl
        try simp only [Act.put, List.setIfInBounds_toArray, List.set_cons_zero, List.set_cons_succ]
        refine led_takeF (i := 26) (oi := { dst := some 40, op := Op.move (Operand.tmp 0), type := 22, pos := "moves.go:15", after := #[{ on := 25, ground := Ground.guard }], guard := some (25, false) }) (v := undef) rfl (by kernel_rfl) (by kernel_rfl) (by kernel_rfl) (by kernel_rfl) (fun _ _ _ h => h) (.inr ⟨by kernel_rfl, rfl⟩) S1 ?_
        try simp only [Act.put, List.getElem_toArray, List.getElem_cons_succ, List.getElem_cons_zero, List.setIfInBounds_toArray, List.set_cons_zero, List.set_cons_succ]
        refine led_takeF (i := 27) (oi := { dst := some 41, op := Op.move (Operand.tmp 5), type := 3, pos := "moves.go:15", after := #[{ on := 25, ground := Ground.guard }], guard := some (25, false) }) (v := undef) rfl (by kernel_rfl) (by kernel_rfl) (by kernel_rfl) (by kernel_rfl) (fun _ _ _ h => h) (.inr ⟨by kernel_rfl, rfl⟩) S1 ?_
        try simp only [Act.put, List.getElem_toArray, List.getElem_cons_succ, List.getElem_cons_zero, List.setIfInBounds_toArray, List.set_cons_zero, List.set_cons_succ]
        refine led_takeF (i := 28) (oi := { dst := some 42, op := Op.indexAddr 22 (Operand.tmp 40) (Operand.tmp 41), type := 0, pos := "moves.go:15", after := #[{ on := 26, ground := Ground.data }, { on := 27, ground := Ground.data }, { on := 25, ground := Ground.guard }], guard := some (25, false) }) (v := undef) rfl (by kernel_rfl) (by kernel_rfl) (by kernel_rfl) (by kernel_rfl) (fun _ _ _ h => h) (.inr ⟨by kernel_rfl, rfl⟩) S1 ?_
        try simp only [Act.put, List.getElem_toArray, List.getElem_cons_succ, List.getElem_cons_zero, List.setIfInBounds_toArray, List.set_cons_zero, List.set_cons_succ]
        refine led_takeF (i := 29) (oi := { dst := some 43, op := Op.fieldAddr 36 (Operand.tmp 42) 0, type := 0, pos := "moves.go:15", after := #[{ on := 28, ground := Ground.data }, { on := 25, ground := Ground.guard }], guard := some (25, false) }) (v := undef) rfl (by kernel_rfl) (by kernel_rfl) (by kernel_rfl) (by kernel_rfl) (fun _ _ _ h => h) (.inr ⟨by kernel_rfl, rfl⟩) S1 ?_
        try simp only [Act.put, List.getElem_toArray, List.getElem_cons_succ, List.getElem_cons_zero, List.setIfInBounds_toArray, List.set_cons_zero, List.set_cons_succ]
        refine led_takeF (i := 30) (oi := { dst := some 44, op := Op.load 24 (Operand.tmp 43), type := 24, pos := "moves.go:15", after := #[{ on := 29, ground := Ground.data }, { on := 25, ground := Ground.guard }], guard := some (25, false) }) (v := undef) rfl (by kernel_rfl) (by kernel_rfl) (by kernel_rfl) (by kernel_rfl) (fun _ _ _ h => h) (.inr ⟨by kernel_rfl, rfl⟩) S1 ?_
        try simp only [Act.put, List.getElem_toArray, List.getElem_cons_succ, List.getElem_cons_zero, List.setIfInBounds_toArray, List.set_cons_zero, List.set_cons_succ]
        refine led_takeF (i := 31) (oi := { dst := some 45, op := Op.load 24 (Operand.tmp 3), type := 24, pos := "moves.go:15", after := #[{ on := 25, ground := Ground.guard }], guard := some (25, false) }) (v := undef) rfl (by kernel_rfl) (by kernel_rfl) (by kernel_rfl) (by kernel_rfl) (fun _ _ _ h => h) (.inr ⟨by kernel_rfl, rfl⟩) S1 ?_
        try simp only [Act.put, List.getElem_toArray, List.getElem_cons_succ, List.getElem_cons_zero, List.setIfInBounds_toArray, List.set_cons_zero, List.set_cons_succ]
        refine led_takeF (i := 32) (oi := { dst := some 46, op := Op.call { callee := Callee.value (Operand.func 27), args := #[Operand.tmp 44, Operand.tmp 45], argTypes := #[24, 24] }, type := 4, pos := "moves.go:15", after := #[{ on := 30, ground := Ground.data }, { on := 31, ground := Ground.data }, { on := 25, ground := Ground.chain }, { on := 25, ground := Ground.guard }], guard := some (25, false) }) (v := undef) rfl (by kernel_rfl) (by kernel_rfl) (by kernel_rfl) (by kernel_rfl) (fun _ _ _ h => h) (.inr ⟨by kernel_rfl, rfl⟩) S1 ?_
        try simp only [Act.put, List.getElem_toArray, List.getElem_cons_succ, List.getElem_cons_zero, List.setIfInBounds_toArray, List.set_cons_zero, List.set_cons_succ]
        refine led_takeF (i := 33) (oi := { dst := some 47, op := Op.pick (Operand.tmp 39) (Operand.const (Value.bool true)) (Operand.tmp 46), type := 4, pos := "moves.go:15", after := #[{ on := 25, ground := Ground.data }, { on := 32, ground := Ground.data }], guard := none }) (v := ?v33b) rfl (by kernel_rfl) (by kernel_rfl) (by kernel_rfl) (by kernel_rfl) (fun _ _ _ h => h) (.inl ⟨by kernel_rfl, ?hy33b⟩) S1 ?rest33b
        case hy33b =>
          rintro w' ⟨h0, h1, h2, h3, h4, h5, h6⟩
          go_simp
          all_goals with_reducible rfl
        try simp only [Act.put, List.setIfInBounds_toArray, List.set_cons_zero, List.set_cons_succ]
        refine led_takeF (i := 34) (oi := { dst := some 48, op := Op.move (Operand.tmp 47), type := 4, pos := "moves.go:15", after := #[{ on := 33, ground := Ground.data }, { on := 32, ground := Ground.chain }], guard := none }) (v := ?v34b) rfl (by kernel_rfl) (by kernel_rfl) (by kernel_rfl) (by kernel_rfl) (fun _ _ _ h => h) (.inl ⟨by kernel_rfl, ?hy34b⟩) S1 ?rest34b
        case hy34b =>
          rintro w' ⟨h0, h1, h2, h3, h4, h5, h6⟩
          go_simp
          all_goals with_reducible rfl
        try simp only [Act.put, List.setIfInBounds_toArray, List.set_cons_zero, List.set_cons_succ]
        refine led_takeF (i := 35) (oi := { dst := some 49, op := Op.move (Operand.tmp 0), type := 22, pos := "moves.go:15", after := #[{ on := 34, ground := Ground.guard }], guard := some (34, false) }) (v := undef) rfl (by kernel_rfl) (by kernel_rfl) (by kernel_rfl) (by kernel_rfl) (fun _ _ _ h => h) (.inr ⟨by kernel_rfl, rfl⟩) S1 ?_
        try simp only [Act.put, List.getElem_toArray, List.getElem_cons_succ, List.getElem_cons_zero, List.setIfInBounds_toArray, List.set_cons_zero, List.set_cons_succ]
        refine led_takeF (i := 36) (oi := { dst := some 50, op := Op.move (Operand.tmp 5), type := 3, pos := "moves.go:15", after := #[{ on := 34, ground := Ground.guard }], guard := some (34, false) }) (v := undef) rfl (by kernel_rfl) (by kernel_rfl) (by kernel_rfl) (by kernel_rfl) (fun _ _ _ h => h) (.inr ⟨by kernel_rfl, rfl⟩) S1 ?_
        try simp only [Act.put, List.getElem_toArray, List.getElem_cons_succ, List.getElem_cons_zero, List.setIfInBounds_toArray, List.set_cons_zero, List.set_cons_succ]
        refine led_takeF (i := 37) (oi := { dst := some 51, op := Op.indexAddr 22 (Operand.tmp 49) (Operand.tmp 50), type := 0, pos := "moves.go:15", after := #[{ on := 35, ground := Ground.data }, { on := 36, ground := Ground.data }, { on := 34, ground := Ground.guard }], guard := some (34, false) }) (v := undef) rfl (by kernel_rfl) (by kernel_rfl) (by kernel_rfl) (by kernel_rfl) (fun _ _ _ h => h) (.inr ⟨by kernel_rfl, rfl⟩) S1 ?_
        try simp only [Act.put, List.getElem_toArray, List.getElem_cons_succ, List.getElem_cons_zero, List.setIfInBounds_toArray, List.set_cons_zero, List.set_cons_succ]
        refine led_takeF (i := 38) (oi := { dst := some 52, op := Op.fieldAddr 36 (Operand.tmp 51) 1, type := 0, pos := "moves.go:15", after := #[{ on := 37, ground := Ground.data }, { on := 34, ground := Ground.guard }], guard := some (34, false) }) (v := undef) rfl (by kernel_rfl) (by kernel_rfl) (by kernel_rfl) (by kernel_rfl) (fun _ _ _ h => h) (.inr ⟨by kernel_rfl, rfl⟩) S1 ?_
        try simp only [Act.put, List.getElem_toArray, List.getElem_cons_succ, List.getElem_cons_zero, List.setIfInBounds_toArray, List.set_cons_zero, List.set_cons_succ]
        refine led_takeF (i := 39) (oi := { dst := some 53, op := Op.load 24 (Operand.tmp 52), type := 24, pos := "moves.go:15", after := #[{ on := 38, ground := Ground.data }, { on := 34, ground := Ground.guard }], guard := some (34, false) }) (v := undef) rfl (by kernel_rfl) (by kernel_rfl) (by kernel_rfl) (by kernel_rfl) (fun _ _ _ h => h) (.inr ⟨by kernel_rfl, rfl⟩) S1 ?_
        try simp only [Act.put, List.getElem_toArray, List.getElem_cons_succ, List.getElem_cons_zero, List.setIfInBounds_toArray, List.set_cons_zero, List.set_cons_succ]
        refine led_takeF (i := 40) (oi := { dst := some 54, op := Op.load 24 (Operand.tmp 3), type := 24, pos := "moves.go:15", after := #[{ on := 34, ground := Ground.guard }], guard := some (34, false) }) (v := undef) rfl (by kernel_rfl) (by kernel_rfl) (by kernel_rfl) (by kernel_rfl) (fun _ _ _ h => h) (.inr ⟨by kernel_rfl, rfl⟩) S1 ?_
        try simp only [Act.put, List.getElem_toArray, List.getElem_cons_succ, List.getElem_cons_zero, List.setIfInBounds_toArray, List.set_cons_zero, List.set_cons_succ]
        refine led_takeF (i := 41) (oi := { dst := some 55, op := Op.call { callee := Callee.value (Operand.func 27), args := #[Operand.tmp 53, Operand.tmp 54], argTypes := #[24, 24] }, type := 4, pos := "moves.go:15", after := #[{ on := 39, ground := Ground.data }, { on := 40, ground := Ground.data }, { on := 34, ground := Ground.chain }, { on := 34, ground := Ground.guard }], guard := some (34, false) }) (v := undef) rfl (by kernel_rfl) (by kernel_rfl) (by kernel_rfl) (by kernel_rfl) (fun _ _ _ h => h) (.inr ⟨by kernel_rfl, rfl⟩) S1 ?_
        try simp only [Act.put, List.getElem_toArray, List.getElem_cons_succ, List.getElem_cons_zero, List.setIfInBounds_toArray, List.set_cons_zero, List.set_cons_succ]
        refine led_takeF (i := 42) (oi := { dst := some 56, op := Op.pick (Operand.tmp 48) (Operand.const (Value.bool true)) (Operand.tmp 55), type := 4, pos := "moves.go:15", after := #[{ on := 34, ground := Ground.data }, { on := 41, ground := Ground.data }], guard := none }) (v := ?v42b) rfl (by kernel_rfl) (by kernel_rfl) (by kernel_rfl) (by kernel_rfl) (fun _ _ _ h => h) (.inl ⟨by kernel_rfl, ?hy42b⟩) S1 ?rest42b
        case hy42b =>
          rintro w' ⟨h0, h1, h2, h3, h4, h5, h6⟩
          go_simp
          all_goals with_reducible rfl
        try simp only [Act.put, List.setIfInBounds_toArray, List.set_cons_zero, List.set_cons_succ]
        refine led_done (by kernel_rfl) ?_
        go_wp2_with fail
        go_ret
        exact ⟨by rw [HF.out (by first | rfl | (simp only [*]; rfl))]; try rfl, HB.out.trans (S1.1.mono HB.out.size)⟩
      ·
        refine led_takeF (i := 6) (oi := { dst := some 20, op := Op.unOp UnOp.not 4 (Operand.tmp 19), type := 4, pos := "moves.go:15", after := #[{ on := 5, ground := Ground.data }], guard := none }) (v := ?v6c) rfl (by kernel_rfl) (by kernel_rfl) (by kernel_rfl) (by kernel_rfl) (fun _ _ _ h => h) (.inl ⟨by kernel_rfl, ?hy6c⟩) S1 ?rest6c
        case hy6c =>
          rintro w' ⟨h0, h1, h2, h3, h4, h5, h6⟩
          go_simp
          all_goals with_reducible rfl
        try simp only [Act.put, List.setIfInBounds_toArray, List.set_cons_zero, List.set_cons_succ]
        refine led_takeF (i := 7) (oi := { dst := some 21, op := Op.move (Operand.tmp 20), type := 4, pos := "moves.go:15", after := #[{ on := 6, ground := Ground.data }, { on := 5, ground := Ground.chain }], guard := none }) (v := ?v7c) rfl (by kernel_rfl) (by kernel_rfl) (by kernel_rfl) (by kernel_rfl) (fun _ _ _ h => h) (.inl ⟨by kernel_rfl, ?hy7c⟩) S1 ?rest7c
        case hy7c =>
          rintro w' ⟨h0, h1, h2, h3, h4, h5, h6⟩
          go_simp
          all_goals with_reducible rfl
        try simp only [Act.put, List.setIfInBounds_toArray, List.set_cons_zero, List.set_cons_succ]
        refine led_takeF (i := 8) (oi := { dst := some 22, op := Op.move (Operand.tmp 0), type := 22, pos := "moves.go:15", after := #[{ on := 7, ground := Ground.guard }], guard := some (7, false) }) (v := ?v8c) rfl (by kernel_rfl) (by kernel_rfl) (by kernel_rfl) (by kernel_rfl) (fun _ _ _ h => h) (.inl ⟨by kernel_rfl, ?hy8c⟩) S1 ?rest8c
        case hy8c =>
          rintro w' ⟨h0, h1, h2, h3, h4, h5, h6⟩
          go_simp
          all_goals with_reducible rfl
        try simp only [Act.put, List.setIfInBounds_toArray, List.set_cons_zero, List.set_cons_succ]
        refine led_takeF (i := 9) (oi := { dst := some 23, op := Op.move (Operand.tmp 5), type := 3, pos := "moves.go:15", after := #[{ on := 7, ground := Ground.guard }], guard := some (7, false) }) (v := ?v9c) rfl (by kernel_rfl) (by kernel_rfl) (by kernel_rfl) (by kernel_rfl) (fun _ _ _ h => h) (.inl ⟨by kernel_rfl, ?hy9c⟩) S1 ?rest9c
        case hy9c =>
          rintro w' ⟨h0, h1, h2, h3, h4, h5, h6⟩
          go_simp
          all_goals with_reducible rfl
        try simp only [Act.put, List.setIfInBounds_toArray, List.set_cons_zero, List.set_cons_succ]
        refine led_takeF (i := 10) (oi := { dst := some 24, op := Op.indexAddr 22 (Operand.tmp 22) (Operand.tmp 23), type := 0, pos := "moves.go:15", after := #[{ on := 8, ground := Ground.data }, { on := 9, ground := Ground.data }, { on := 7, ground := Ground.guard }], guard := some (7, false) }) (v := ?v10c) rfl (by kernel_rfl) (by kernel_rfl) (by kernel_rfl) (by kernel_rfl) (fun _ _ _ h => h) (.inl ⟨by kernel_rfl, ?hy10c⟩) S1 ?rest10c
        case hy10c =>
          rintro w' ⟨h0, h1, h2, h3, h4, h5, h6⟩
          go_simp
          all_goals with_reducible rfl
        try simp only [Act.put, List.setIfInBounds_toArray, List.set_cons_zero, List.set_cons_succ]
        refine led_takeF (i := 11) (oi := { dst := some 25, op := Op.fieldAddr 36 (Operand.tmp 24) 1, type := 0, pos := "moves.go:15", after := #[{ on := 10, ground := Ground.data }, { on := 7, ground := Ground.guard }], guard := some (7, false) }) (v := ?v11c) rfl (by kernel_rfl) (by kernel_rfl) (by kernel_rfl) (by kernel_rfl) (fun _ _ _ h => h) (.inl ⟨by kernel_rfl, ?hy11c⟩) S1 ?rest11c
        case hy11c =>
          rintro w' ⟨h0, h1, h2, h3, h4, h5, h6⟩
          go_simp
          all_goals with_reducible rfl
        try simp only [Act.put, List.setIfInBounds_toArray, List.set_cons_zero, List.set_cons_succ]
        refine led_takeF (i := 12) (oi := { dst := some 26, op := Op.load 24 (Operand.tmp 25), type := 24, pos := "moves.go:15", after := #[{ on := 11, ground := Ground.data }, { on := 7, ground := Ground.guard }], guard := some (7, false) }) (v := ?v12c) rfl (by kernel_rfl) (by kernel_rfl) (by kernel_rfl) (by kernel_rfl) (fun _ _ _ h => h) (.inl ⟨by kernel_rfl, ?hy12c⟩) S1 ?rest12c
        case hy12c =>
          rintro w' ⟨h0, h1, h2, h3, h4, h5, h6⟩
          go_simp
          all_goals with_reducible rfl
        try simp only [Act.put, List.setIfInBounds_toArray, List.set_cons_zero, List.set_cons_succ]
        refine led_one (i := 13) (oi := { dst := some 27, op := Op.call { callee := Callee.value (Operand.func 35), args := #[Operand.tmp 26], argTypes := #[24] }, type := 4, pos := "moves.go:15", after := #[{ on := 12, ground := Ground.data }, { on := 7, ground := Ground.chain }, { on := 7, ground := Ground.guard }], guard := some (7, false) }) rfl (by kernel_rfl) ?_
        intro K13 hK13
        rw [if_pos (by rfl)]
        go_simp
        refine (HP2.out _ S1).mono ?_
        rintro e wS2 ⟨rfl, S2⟩
        refine hK13 _ _ (fun _ => S2) ?_
        clear hK13
        try simp only [Act.put, List.setIfInBounds_toArray, List.set_cons_zero, List.set_cons_succ]
        cases b2
        ·
          obtain ⟨e3, d3⟩ : ∃ e, (m3 == 3) = e := ⟨_, rfl⟩
          refine led_takeF (i := 14) (oi := { dst := some 28, op := Op.unOp UnOp.not 4 (Operand.tmp 27), type := 4, pos := "moves.go:15", after := #[{ on := 13, ground := Ground.data }, { on := 7, ground := Ground.guard }], guard := some (7, false) }) (v := ?v14d) rfl (by kernel_rfl) (by kernel_rfl) (by kernel_rfl) (by kernel_rfl) (fun _ _ _ h => h) (.inl ⟨by kernel_rfl, ?hy14d⟩) S2 ?rest14d
          case hy14d =>
            rintro w' ⟨h0, h1, h2, h3, h4, h5, h6⟩
            go_simp
            all_goals with_reducible rfl
          try simp only [Act.put, List.setIfInBounds_toArray, List.set_cons_zero, List.set_cons_succ]
          refine led_takeF (i := 15) (oi := { dst := some 29, op := Op.move (Operand.tmp 28), type := 4, pos := "moves.go:15", after := #[{ on := 14, ground := Ground.data }, { on := 13, ground := Ground.chain }, { on := 7, ground := Ground.guard }], guard := some (7, false) }) (v := ?v15d) rfl (by kernel_rfl) (by kernel_rfl) (by kernel_rfl) (by kernel_rfl) (fun _ _ _ h => h) (.inl ⟨by kernel_rfl, ?hy15d⟩) S2 ?rest15d
          case hy15d =>
            rintro w' ⟨h0, h1, h2, h3, h4, h5, h6⟩
            go_simp
            all_goals with_reducible rfl
          try simp only [Act.put, List.setIfInBounds_toArray, List.set_cons_zero, List.set_cons_succ]
          refine led_takeF (i := 16) (oi := { dst := some 30, op := Op.move (Operand.tmp 0), type := 22, pos := "moves.go:15", after := #[{ on := 15, ground := Ground.guard }], guard := some (15, true) }) (v := ?v16d) rfl (by kernel_rfl) (by kernel_rfl) (by kernel_rfl) (by kernel_rfl) (fun _ _ _ h => h) (.inl ⟨by kernel_rfl, ?hy16d⟩) S2 ?rest16d
          case hy16d =>
            rintro w' ⟨h0, h1, h2, h3, h4, h5, h6⟩
            go_simp
            all_goals with_reducible rfl
          try simp only [Act.put, List.setIfInBounds_toArray, List.set_cons_zero, List.set_cons_succ]
          refine led_takeF (i := 17) (oi := { dst := some 31, op := Op.move (Operand.tmp 5), type := 3, pos := "moves.go:15", after := #[{ on := 15, ground := Ground.guard }], guard := some (15, true) }) (v := ?v17d) rfl (by kernel_rfl) (by kernel_rfl) (by kernel_rfl) (by kernel_rfl) (fun _ _ _ h => h) (.inl ⟨by kernel_rfl, ?hy17d⟩) S2 ?rest17d
          case hy17d =>
            rintro w' ⟨h0, h1, h2, h3, h4, h5, h6⟩
            go_simp
            all_goals with_reducible rfl
          try simp only [Act.put, List.setIfInBounds_toArray, List.set_cons_zero, List.set_cons_succ]
          refine led_takeF (i := 18) (oi := { dst := some 32, op := Op.indexAddr 22 (Operand.tmp 30) (Operand.tmp 31), type := 0, pos := "moves.go:15", after := #[{ on := 16, ground := Ground.data }, { on := 17, ground := Ground.data }, { on := 15, ground := Ground.guard }], guard := some (15, true) }) (v := ?v18d) rfl (by kernel_rfl) (by kernel_rfl) (by kernel_rfl) (by kernel_rfl) (fun _ _ _ h => h) (.inl ⟨by kernel_rfl, ?hy18d⟩) S2 ?rest18d
          case hy18d =>
            rintro w' ⟨h0, h1, h2, h3, h4, h5, h6⟩
            go_simp
            all_goals with_reducible rfl
          try simp only [Act.put, List.setIfInBounds_toArray, List.set_cons_zero, List.set_cons_succ]
          refine led_takeF (i := 19) (oi := { dst := some 33, op := Op.fieldAddr 36 (Operand.tmp 32) 1, type := 0, pos := "moves.go:15", after := #[{ on := 18, ground := Ground.data }, { on := 15, ground := Ground.guard }], guard := some (15, true) }) (v := ?v19d) rfl (by kernel_rfl) (by kernel_rfl) (by kernel_rfl) (by kernel_rfl) (fun _ _ _ h => h) (.inl ⟨by kernel_rfl, ?hy19d⟩) S2 ?rest19d
          case hy19d =>
            rintro w' ⟨h0, h1, h2, h3, h4, h5, h6⟩
            go_simp
            all_goals with_reducible rfl
          try simp only [Act.put, List.setIfInBounds_toArray, List.set_cons_zero, List.set_cons_succ]
          refine led_takeF (i := 20) (oi := { dst := some 34, op := Op.fieldAddr 24 (Operand.tmp 33) 0, type := 0, pos := "moves.go:15", after := #[{ on := 19, ground := Ground.data }, { on := 15, ground := Ground.guard }], guard := some (15, true) }) (v := ?v20d) rfl (by kernel_rfl) (by kernel_rfl) (by kernel_rfl) (by kernel_rfl) (fun _ _ _ h => h) (.inl ⟨by kernel_rfl, ?hy20d⟩) S2 ?rest20d
          case hy20d =>
            rintro w' ⟨h0, h1, h2, h3, h4, h5, h6⟩
            go_simp
            all_goals with_reducible rfl
          try simp only [Act.put, List.setIfInBounds_toArray, List.set_cons_zero, List.set_cons_succ]
          refine led_takeF (i := 21) (oi := { dst := some 35, op := Op.load 3 (Operand.tmp 34), type := 3, pos := "moves.go:15", after := #[{ on := 20, ground := Ground.data }, { on := 15, ground := Ground.guard }], guard := some (15, true) }) (v := ?v21d) rfl (by kernel_rfl) (by kernel_rfl) (by kernel_rfl) (by kernel_rfl) (fun _ _ _ h => h) (.inl ⟨by kernel_rfl, ?hy21d⟩) S2 ?rest21d
          case hy21d =>
            rintro w' ⟨h0, h1, h2, h3, h4, h5, h6⟩
            go_simp
            all_goals with_reducible rfl
          try simp only [Act.put, List.setIfInBounds_toArray, List.set_cons_zero, List.set_cons_succ]
          cases e3
          ·
            have n4 : (m3 != 3) = true := by simpa using ne_of_beq_false d3
            refine led_takeF (i := 22) (oi := { dst := some 36, op := Op.binOp BinOp.neq 3 (Operand.tmp 35) (Operand.const (Value.int IntKind.i64 3)) 3, type := 4, pos := "moves.go:15", after := #[{ on := 21, ground := Ground.data }, { on := 15, ground := Ground.guard }], guard := some (15, true) }) (v := ?v22e) rfl (by kernel_rfl) (by kernel_rfl) (by kernel_rfl) (by kernel_rfl) (fun _ _ _ h => h) (.inl ⟨by kernel_rfl, ?hy22e⟩) S2 ?rest22e
            case hy22e =>
              rintro w' ⟨h0, h1, h2, h3, h4, h5, h6⟩
              go_simp
              all_goals with_reducible rfl
            try simp only [Act.put, List.setIfInBounds_toArray, List.set_cons_zero, List.set_cons_succ]
            try rw [n4]
            refine led_takeF (i := 23) (oi := { dst := some 37, op := Op.pick (Operand.tmp 29) (Operand.tmp 36) (Operand.const (Value.bool false)), type := 4, pos := "moves.go:15", after := #[{ on := 15, ground := Ground.data }, { on := 22, ground := Ground.data }, { on := 7, ground := Ground.guard }], guard := some (7, false) }) (v := ?v23e) rfl (by kernel_rfl) (by kernel_rfl) (by kernel_rfl) (by kernel_rfl) (fun _ _ _ h => h) (.inl ⟨by kernel_rfl, ?hy23e⟩) S2 ?rest23e
            case hy23e =>
              rintro w' ⟨h0, h1, h2, h3, h4, h5, h6⟩
              go_simp
              all_goals with_reducible rfl
            try simp only [Act.put, List.setIfInBounds_toArray, List.set_cons_zero, List.set_cons_succ]
            refine led_takeF (i := 24) (oi := { dst := some 38, op := Op.pick (Operand.tmp 21) (Operand.const (Value.bool true)) (Operand.tmp 37), type := 4, pos := "moves.go:15", after := #[{ on := 7, ground := Ground.data }, { on := 23, ground := Ground.data }], guard := none }) (v := ?v24e) rfl (by kernel_rfl) (by kernel_rfl) (by kernel_rfl) (by kernel_rfl) (fun _ _ _ h => h) (.inl ⟨by kernel_rfl, ?hy24e⟩) S2 ?rest24e
            case hy24e =>
              rintro w' ⟨h0, h1, h2, h3, h4, h5, h6⟩
              go_simp
              all_goals with_reducible rfl
            try simp only [Act.put, List.setIfInBounds_toArray, List.set_cons_zero, List.set_cons_succ]
            refine led_takeF (i := 25) (oi := { dst := some 39, op := Op.move (Operand.tmp 38), type := 4, pos := "moves.go:15", after := #[{ on := 24, ground := Ground.data }, { on := 15, ground := Ground.chain }], guard := none }) (v := ?v25e) rfl (by kernel_rfl) (by kernel_rfl) (by kernel_rfl) (by kernel_rfl) (fun _ _ _ h => h) (.inl ⟨by kernel_rfl, ?hy25e⟩) S2 ?rest25e
            case hy25e =>
              rintro w' ⟨h0, h1, h2, h3, h4, h5, h6⟩
              go_simp
              all_goals with_reducible rfl
            try simp only [Act.put, List.setIfInBounds_toArray, List.set_cons_zero, List.set_cons_succ]
            refine led_takeF (i := 26) (oi := { dst := some 40, op := Op.move (Operand.tmp 0), type := 22, pos := "moves.go:15", after := #[{ on := 25, ground := Ground.guard }], guard := some (25, false) }) (v := undef) rfl (by kernel_rfl) (by kernel_rfl) (by kernel_rfl) (by kernel_rfl) (fun _ _ _ h => h) (.inr ⟨by kernel_rfl, rfl⟩) S2 ?_
            try simp only [Act.put, List.getElem_toArray, List.getElem_cons_succ, List.getElem_cons_zero, List.setIfInBounds_toArray, List.set_cons_zero, List.set_cons_succ]
            refine led_takeF (i := 27) (oi := { dst := some 41, op := Op.move (Operand.tmp 5), type := 3, pos := "moves.go:15", after := #[{ on := 25, ground := Ground.guard }], guard := some (25, false) }) (v := undef) rfl (by kernel_rfl) (by kernel_rfl) (by kernel_rfl) (by kernel_rfl) (fun _ _ _ h => h) (.inr ⟨by kernel_rfl, rfl⟩) S2 ?_
            try simp only [Act.put, List.getElem_toArray, List.getElem_cons_succ, List.getElem_cons_zero, List.setIfInBounds_toArray, List.set_cons_zero, List.set_cons_succ]
            refine led_takeF (i := 28) (oi := { dst := some 42, op := Op.indexAddr 22 (Operand.tmp 40) (Operand.tmp 41), type := 0, pos := "moves.go:15", after := #[{ on := 26, ground := Ground.data }, { on := 27, ground := Ground.data }, { on := 25, ground := Ground.guard }], guard := some (25, false) }) (v := undef) rfl (by kernel_rfl) (by kernel_rfl) (by kernel_rfl) (by kernel_rfl) (fun _ _ _ h => h) (.inr ⟨by kernel_rfl, rfl⟩) S2 ?_
            try simp only [Act.put, List.getElem_toArray, List.getElem_cons_succ, List.getElem_cons_zero, List.setIfInBounds_toArray, List.set_cons_zero, List.set_cons_succ]
            refine led_takeF (i := 29) (oi := { dst := some 43, op := Op.fieldAddr 36 (Operand.tmp 42) 0, type := 0, pos := "moves.go:15", after := #[{ on := 28, ground := Ground.data }, { on := 25, ground := Ground.guard }], guard := some (25, false) }) (v := undef) rfl (by kernel_rfl) (by kernel_rfl) (by kernel_rfl) (by kernel_rfl) (fun _ _ _ h => h) (.inr ⟨by kernel_rfl, rfl⟩) S2 ?_
            try simp only [Act.put, List.getElem_toArray, List.getElem_cons_succ, List.getElem_cons_zero, List.setIfInBounds_toArray, List.set_cons_zero, List.set_cons_succ]
            refine led_takeF (i := 30) (oi := { dst := some 44, op := Op.load 24 (Operand.tmp 43), type := 24, pos := "moves.go:15", after := #[{ on := 29, ground := Ground.data }, { on := 25, ground := Ground.guard }], guard := some (25, false) }) (v := undef) rfl (by kernel_rfl) (by kernel_rfl) (by kernel_rfl) (by kernel_rfl) (fun _ _ _ h => h) (.inr ⟨by kernel_rfl, rfl⟩) S2 ?_
            try simp only [Act.put, List.getElem_toArray, List.getElem_cons_succ, List.getElem_cons_zero, List.setIfInBounds_toArray, List.set_cons_zero, List.set_cons_succ]
            refine led_takeF (i := 31) (oi := { dst := some 45, op := Op.load 24 (Operand.tmp 3), type := 24, pos := "moves.go:15", after := #[{ on := 25, ground := Ground.guard }], guard := some (25, false) }) (v := undef) rfl (by kernel_rfl) (by kernel_rfl) (by kernel_rfl) (by kernel_rfl) (fun _ _ _ h => h) (.inr ⟨by kernel_rfl, rfl⟩) S2 ?_
            try simp only [Act.put, List.getElem_toArray, List.getElem_cons_succ, List.getElem_cons_zero, List.setIfInBounds_toArray, List.set_cons_zero, List.set_cons_succ]
            refine led_takeF (i := 32) (oi := { dst := some 46, op := Op.call { callee := Callee.value (Operand.func 27), args := #[Operand.tmp 44, Operand.tmp 45], argTypes := #[24, 24] }, type := 4, pos := "moves.go:15", after := #[{ on := 30, ground := Ground.data }, { on := 31, ground := Ground.data }, { on := 25, ground := Ground.chain }, { on := 25, ground := Ground.guard }], guard := some (25, false) }) (v := undef) rfl (by kernel_rfl) (by kernel_rfl) (by kernel_rfl) (by kernel_rfl) (fun _ _ _ h => h) (.inr ⟨by kernel_rfl, rfl⟩) S2 ?_
            try simp only [Act.put, List.getElem_toArray, List.getElem_cons_succ, List.getElem_cons_zero, List.setIfInBounds_toArray, List.set_cons_zero, List.set_cons_succ]
            refine led_takeF (i := 33) (oi := { dst := some 47, op := Op.pick (Operand.tmp 39) (Operand.const (Value.bool true)) (Operand.tmp 46), type := 4, pos := "moves.go:15", after := #[{ on := 25, ground := Ground.data }, { on := 32, ground := Ground.data }], guard := none }) (v := ?v33e) rfl (by kernel_rfl) (by kernel_rfl) (by kernel_rfl) (by kernel_rfl) (fun _ _ _ h => h) (.inl ⟨by kernel_rfl, ?hy33e⟩) S2 ?rest33e
            case hy33e =>
              rintro w' ⟨h0, h1, h2, h3, h4, h5, h6⟩
              go_simp
              all_goals with_reducible rfl
            try simp only [Act.put, List.setIfInBounds_toArray, List.set_cons_zero, List.set_cons_succ]
            refine led_takeF (i := 34) (oi := { dst := some 48, op := Op.move (Operand.tmp 47), type := 4, pos := "moves.go:15", after := #[{ on := 33, ground := Ground.data }, { on := 32, ground := Ground.chain }], guard := none }) (v := ?v34e) rfl (by kernel_rfl) (by kernel_rfl) (by kernel_rfl) (by kernel_rfl) (fun _ _ _ h => h) (.inl ⟨by kernel_rfl, ?hy34e⟩) S2 ?rest34e
            case hy34e =>
              rintro w' ⟨h0, h1, h2, h3, h4, h5, h6⟩
              go_simp
              all_goals with_reducible rfl
            try simp only [Act.put, List.setIfInBounds_toArray, List.set_cons_zero, List.set_cons_succ]
            refine led_takeF (i := 35) (oi := { dst := some 49, op := Op.move (Operand.tmp 0), type := 22, pos := "moves.go:15", after := #[{ on := 34, ground := Ground.guard }], guard := some (34, false) }) (v := undef) rfl (by kernel_rfl) (by kernel_rfl) (by kernel_rfl) (by kernel_rfl) (fun _ _ _ h => h) (.inr ⟨by kernel_rfl, rfl⟩) S2 ?_
            try simp only [Act.put, List.getElem_toArray, List.getElem_cons_succ, List.getElem_cons_zero, List.setIfInBounds_toArray, List.set_cons_zero, List.set_cons_succ]
            refine led_takeF (i := 36) (oi := { dst := some 50, op := Op.move (Operand.tmp 5), type := 3, pos := "moves.go:15", after := #[{ on := 34, ground := Ground.guard }], guard := some (34, false) }) (v := undef) rfl (by kernel_rfl) (by kernel_rfl) (by kernel_rfl) (by kernel_rfl) (fun _ _ _ h => h) (.inr ⟨by kernel_rfl, rfl⟩) S2 ?_
            try simp only [Act.put, List.getElem_toArray, List.getElem_cons_succ, List.getElem_cons_zero, List.setIfInBounds_toArray, List.set_cons_zero, List.set_cons_succ]
            refine led_takeF (i := 37) (oi := { dst := some 51, op := Op.indexAddr 22 (Operand.tmp 49) (Operand.tmp 50), type := 0, pos := "moves.go:15", after := #[{ on := 35, ground := Ground.data }, { on := 36, ground := Ground.data }, { on := 34, ground := Ground.guard }], guard := some (34, false) }) (v := undef) rfl (by kernel_rfl) (by kernel_rfl) (by kernel_rfl) (by kernel_rfl) (fun _ _ _ h => h) (.inr ⟨by kernel_rfl, rfl⟩) S2 ?_
            try simp only [Act.put, List.getElem_toArray, List.getElem_cons_succ, List.getElem_cons_zero, List.setIfInBounds_toArray, List.set_cons_zero, List.set_cons_succ]
            refine led_takeF (i := 38) (oi := { dst := some 52, op := Op.fieldAddr 36 (Operand.tmp 51) 1, type := 0, pos := "moves.go:15", after := #[{ on := 37, ground := Ground.data }, { on := 34, ground := Ground.guard }], guard := some (34, false) }) (v := undef) rfl (by kernel_rfl) (by kernel_rfl) (by kernel_rfl) (by kernel_rfl) (fun _ _ _ h => h) (.inr ⟨by kernel_rfl, rfl⟩) S2 ?_
            try simp only [Act.put, List.getElem_toArray, List.getElem_cons_succ, List.getElem_cons_zero, List.setIfInBounds_toArray, List.set_cons_zero, List.set_cons_succ]
            refine led_takeF (i := 39) (oi := { dst := some 53, op := Op.load 24 (Operand.tmp 52), type := 24, pos := "moves.go:15", after := #[{ on := 38, ground := Ground.data }, { on := 34, ground := Ground.guard }], guard := some (34, false) }) (v := undef) rfl (by kernel_rfl) (by kernel_rfl) (by kernel_rfl) (by kernel_rfl) (fun _ _ _ h => h) (.inr ⟨by kernel_rfl, rfl⟩) S2 ?_
            try simp only [Act.put, List.getElem_toArray, List.getElem_cons_succ, List.getElem_cons_zero, List.setIfInBounds_toArray, List.set_cons_zero, List.set_cons_succ]
            refine led_takeF (i := 40) (oi := { dst := some 54, op := Op.load 24 (Operand.tmp 3), type := 24, pos := "moves.go:15", after := #[{ on := 34, ground := Ground.guard }], guard := some (34, false) }) (v := undef) rfl (by kernel_rfl) (by kernel_rfl) (by kernel_rfl) (by kernel_rfl) (fun _ _ _ h => h) (.inr ⟨by kernel_rfl, rfl⟩) S2 ?_
            try simp only [Act.put, List.getElem_toArray, List.getElem_cons_succ, List.getElem_cons_zero, List.setIfInBounds_toArray, List.set_cons_zero, List.set_cons_succ]
            refine led_takeF (i := 41) (oi := { dst := some 55, op := Op.call { callee := Callee.value (Operand.func 27), args := #[Operand.tmp 53, Operand.tmp 54], argTypes := #[24, 24] }, type := 4, pos := "moves.go:15", after := #[{ on := 39, ground := Ground.data }, { on := 40, ground := Ground.data }, { on := 34, ground := Ground.chain }, { on := 34, ground := Ground.guard }], guard := some (34, false) }) (v := undef) rfl (by kernel_rfl) (by kernel_rfl) (by kernel_rfl) (by kernel_rfl) (fun _ _ _ h => h) (.inr ⟨by kernel_rfl, rfl⟩) S2 ?_
            try simp only [Act.put, List.getElem_toArray, List.getElem_cons_succ, List.getElem_cons_zero, List.setIfInBounds_toArray, List.set_cons_zero, List.set_cons_succ]
            refine led_takeF (i := 42) (oi := { dst := some 56, op := Op.pick (Operand.tmp 48) (Operand.const (Value.bool true)) (Operand.tmp 55), type := 4, pos := "moves.go:15", after := #[{ on := 34, ground := Ground.data }, { on := 41, ground := Ground.data }], guard := none }) (v := ?v42e) rfl (by kernel_rfl) (by kernel_rfl) (by kernel_rfl) (by kernel_rfl) (fun _ _ _ h => h) (.inl ⟨by kernel_rfl, ?hy42e⟩) S2 ?rest42e
            case hy42e =>
              rintro w' ⟨h0, h1, h2, h3, h4, h5, h6⟩
              go_simp
              all_goals with_reducible rfl
            try simp only [Act.put, List.setIfInBounds_toArray, List.set_cons_zero, List.set_cons_succ]
            refine led_done (by kernel_rfl) ?_
            go_wp2_with fail
            go_ret
            exact ⟨by rw [HF.out (by first | rfl | (simp only [*]; rfl))]; try rfl, HB.out.trans (S2.1.mono HB.out.size)⟩
          ·
            have q3 : m3 = 3 := eq_of_beq d3
            clear d3
            subst q3
            refine led_takeF (i := 22) (oi := { dst := some 36, op := Op.binOp BinOp.neq 3 (Operand.tmp 35) (Operand.const (Value.int IntKind.i64 3)) 3, type := 4, pos := "moves.go:15", after := #[{ on := 21, ground := Ground.data }, { on := 15, ground := Ground.guard }], guard := some (15, true) }) (v := ?v22j) rfl (by kernel_rfl) (by kernel_rfl) (by kernel_rfl) (by kernel_rfl) (fun _ _ _ h => h) (.inl ⟨by kernel_rfl, ?hy22j⟩) S2 ?rest22j
            case hy22j =>
              rintro w' ⟨h0, h1, h2, h3, h4, h5, h6⟩
              go_simp
              all_goals with_reducible rfl
            try simp only [Act.put, List.setIfInBounds_toArray, List.set_cons_zero, List.set_cons_succ]
            refine led_takeF (i := 23) (oi := { dst := some 37, op := Op.pick (Operand.tmp 29) (Operand.tmp 36) (Operand.const (Value.bool false)), type := 4, pos := "moves.go:15", after := #[{ on := 15, ground := Ground.data }, { on := 22, ground := Ground.data }, { on := 7, ground := Ground.guard }], guard := some (7, false) }) (v := ?v23j) rfl (by kernel_rfl) (by kernel_rfl) (by kernel_rfl) (by kernel_rfl) (fun _ _ _ h => h) (.inl ⟨by kernel_rfl, ?hy23j⟩) S2 ?rest23j
            case hy23j =>
              rintro w' ⟨h0, h1, h2, h3, h4, h5, h6⟩
              go_simp
              all_goals with_reducible rfl
            try simp only [Act.put, List.setIfInBounds_toArray, List.set_cons_zero, List.set_cons_succ]
            refine led_takeF (i := 24) (oi := { dst := some 38, op := Op.pick (Operand.tmp 21) (Operand.const (Value.bool true)) (Operand.tmp 37), type := 4, pos := "moves.go:15", after := #[{ on := 7, ground := Ground.data }, { on := 23, ground := Ground.data }], guard := none }) (v := ?v24j) rfl (by kernel_rfl) (by kernel_rfl) (by kernel_rfl) (by kernel_rfl) (fun _ _ _ h => h) (.inl ⟨by kernel_rfl, ?hy24j⟩) S2 ?rest24j
            case hy24j =>
              rintro w' ⟨h0, h1, h2, h3, h4, h5, h6⟩
              go_simp
              all_goals with_reducible rfl
            try simp only [Act.put, List.setIfInBounds_toArray, List.set_cons_zero, List.set_cons_succ]
            refine led_takeF (i := 25) (oi := { dst := some 39, op := Op.move (Operand.tmp 38), type := 4, pos := "moves.go:15", after := #[{ on := 24, ground := Ground.data }, { on := 15, ground := Ground.chain }], guard := none }) (v := ?v25j) rfl (by kernel_rfl) (by kernel_rfl) (by kernel_rfl) (by kernel_rfl) (fun _ _ _ h => h) (.inl ⟨by kernel_rfl, ?hy25j⟩) S2 ?rest25j
            case hy25j =>
              rintro w' ⟨h0, h1, h2, h3, h4, h5, h6⟩
              go_simp
              all_goals with_reducible rfl
            try simp only [Act.put, List.setIfInBounds_toArray, List.set_cons_zero, List.set_cons_succ]
            refine led_takeF (i := 26) (oi := { dst := some 40, op := Op.move (Operand.tmp 0), type := 22, pos := "moves.go:15", after := #[{ on := 25, ground := Ground.guard }], guard := some (25, false) }) (v := ?v26j) rfl (by kernel_rfl) (by kernel_rfl) (by kernel_rfl) (by kernel_rfl) (fun _ _ _ h => h) (.inl ⟨by kernel_rfl, ?hy26j⟩) S2 ?rest26j
            case hy26j =>
              rintro w' ⟨h0, h1, h2, h3, h4, h5, h6⟩
              go_simp
              all_goals with_reducible rfl
            try simp only [Act.put, List.setIfInBounds_toArray, List.set_cons_zero, List.set_cons_succ]
            refine led_takeF (i := 27) (oi := { dst := some 41, op := Op.move (Operand.tmp 5), type := 3, pos := "moves.go:15", after := #[{ on := 25, ground := Ground.guard }], guard := some (25, false) }) (v := ?v27j) rfl (by kernel_rfl) (by kernel_rfl) (by kernel_rfl) (by kernel_rfl) (fun _ _ _ h => h) (.inl ⟨by kernel_rfl, ?hy27j⟩) S2 ?rest27j
            case hy27j =>
              rintro w' ⟨h0, h1, h2, h3, h4, h5, h6⟩
              go_simp
              all_goals with_reducible rfl
            try simp only [Act.put, List.setIfInBounds_toArray, List.set_cons_zero, List.set_cons_succ]
            refine led_takeF (i := 28) (oi := { dst := some 42, op := Op.indexAddr 22 (Operand.tmp 40) (Operand.tmp 41), type := 0, pos := "moves.go:15", after := #[{ on := 26, ground := Ground.data }, { on := 27, ground := Ground.data }, { on := 25, ground := Ground.guard }], guard := some (25, false) }) (v := ?v28j) rfl (by kernel_rfl) (by kernel_rfl) (by kernel_rfl) (by kernel_rfl) (fun _ _ _ h => h) (.inl ⟨by kernel_rfl, ?hy28j⟩) S2 ?rest28j
            case hy28j =>
              rintro w' ⟨h0, h1, h2, h3, h4, h5, h6⟩
              go_simp
              all_goals with_reducible rfl
            try simp only [Act.put, List.setIfInBounds_toArray, List.set_cons_zero, List.set_cons_succ]
            refine led_takeF (i := 29) (oi := { dst := some 43, op := Op.fieldAddr 36 (Operand.tmp 42) 0, type := 0, pos := "moves.go:15", after := #[{ on := 28, ground := Ground.data }, { on := 25, ground := Ground.guard }], guard := some (25, false) }) (v := ?v29j) rfl (by kernel_rfl) (by kernel_rfl) (by kernel_rfl) (by kernel_rfl) (fun _ _ _ h => h) (.inl ⟨by kernel_rfl, ?hy29j⟩) S2 ?rest29j
            case hy29j =>
              rintro w' ⟨h0, h1, h2, h3, h4, h5, h6⟩
              go_simp
              all_goals with_reducible rfl
            try simp only [Act.put, List.setIfInBounds_toArray, List.set_cons_zero, List.set_cons_succ]
            refine led_takeF (i := 30) (oi := { dst := some 44, op := Op.load 24 (Operand.tmp 43), type := 24, pos := "moves.go:15", after := #[{ on := 29, ground := Ground.data }, { on := 25, ground := Ground.guard }], guard := some (25, false) }) (v := ?v30j) rfl (by kernel_rfl) (by kernel_rfl) (by kernel_rfl) (by kernel_rfl) (fun _ _ _ h => h) (.inl ⟨by kernel_rfl, ?hy30j⟩) S2 ?rest30j
            case hy30j =>
              rintro w' ⟨h0, h1, h2, h3, h4, h5, h6⟩
              go_simp
              all_goals with_reducible rfl
            try simp only [Act.put, List.setIfInBounds_toArray, List.set_cons_zero, List.set_cons_succ]
            refine led_takeF (i := 31) (oi := { dst := some 45, op := Op.load 24 (Operand.tmp 3), type := 24, pos := "moves.go:15", after := #[{ on := 25, ground := Ground.guard }], guard := some (25, false) }) (v := ?v31j) rfl (by kernel_rfl) (by kernel_rfl) (by kernel_rfl) (by kernel_rfl) (fun _ _ _ h => h) (.inl ⟨by kernel_rfl, ?hy31j⟩) S2 ?rest31j
            case hy31j =>
              rintro w' ⟨h0, h1, h2, h3, h4, h5, h6⟩
              go_simp
              all_goals with_reducible rfl
            try simp only [Act.put, List.setIfInBounds_toArray, List.set_cons_zero, List.set_cons_succ]
            refine led_one (i := 32) (oi := { dst := some 46, op := Op.call { callee := Callee.value (Operand.func 27), args := #[Operand.tmp 44, Operand.tmp 45], argTypes := #[24, 24] }, type := 4, pos := "moves.go:15", after := #[{ on := 30, ground := Ground.data }, { on := 31, ground := Ground.data }, { on := 25, ground := Ground.chain }, { on := 25, ground := Ground.guard }], guard := some (25, false) }) rfl (by kernel_rfl) ?_
            intro K32 hK32
            rw [if_pos (by rfl)]
            go_simp
            refine (HS1.out _ S2).mono ?_
            rintro e wS3 ⟨rfl, S3⟩
            refine hK32 _ _ (fun _ => S3) ?_
            clear hK32
            try simp only [Act.put, List.setIfInBounds_toArray, List.set_cons_zero, List.set_cons_succ]
            cases e4
            ·
              refine led_takeF (i := 33) (oi := { dst := some 47, op := Op.pick (Operand.tmp 39) (Operand.const (Value.bool true)) (Operand.tmp 46), type := 4, pos := "moves.go:15", after := #[{ on := 25, ground := Ground.data }, { on := 32, ground := Ground.data }], guard := none }) (v := ?v33jf) rfl (by kernel_rfl) (by kernel_rfl) (by kernel_rfl) (by kernel_rfl) (fun _ _ _ h => h) (.inl ⟨by kernel_rfl, ?hy33jf⟩) S3 ?rest33jf
              case hy33jf =>
                rintro w' ⟨h0, h1, h2, h3, h4, h5, h6⟩
                go_simp
                all_goals with_reducible rfl
              try simp only [Act.put, List.setIfInBounds_toArray, List.set_cons_zero, List.set_cons_succ]
              refine led_takeF (i := 34) (oi := { dst := some 48, op := Op.move (Operand.tmp 47), type := 4, pos := "moves.go:15", after := #[{ on := 33, ground := Ground.data }, { on := 32, ground := Ground.chain }], guard := none }) (v := ?v34jf) rfl (by kernel_rfl) (by kernel_rfl) (by kernel_rfl) (by kernel_rfl) (fun _ _ _ h => h) (.inl ⟨by kernel_rfl, ?hy34jf⟩) S3 ?rest34jf
              case hy34jf =>
                rintro w' ⟨h0, h1, h2, h3, h4, h5, h6⟩
                go_simp
                all_goals with_reducible rfl
              try simp only [Act.put, List.setIfInBounds_toArray, List.set_cons_zero, List.set_cons_succ]
              refine led_takeF (i := 35) (oi := { dst := some 49, op := Op.move (Operand.tmp 0), type := 22, pos := "moves.go:15", after := #[{ on := 34, ground := Ground.guard }], guard := some (34, false) }) (v := ?v35jf) rfl (by kernel_rfl) (by kernel_rfl) (by kernel_rfl) (by kernel_rfl) (fun _ _ _ h => h) (.inl ⟨by kernel_rfl, ?hy35jf⟩) S3 ?rest35jf
              case hy35jf =>
                rintro w' ⟨h0, h1, h2, h3, h4, h5, h6⟩
                go_simp
                all_goals with_reducible rfl
              try simp only [Act.put, List.setIfInBounds_toArray, List.set_cons_zero, List.set_cons_succ]
              refine led_takeF (i := 36) (oi := { dst := some 50, op := Op.move (Operand.tmp 5), type := 3, pos := "moves.go:15", after := #[{ on := 34, ground := Ground.guard }], guard := some (34, false) }) (v := ?v36jf) rfl (by kernel_rfl) (by kernel_rfl) (by kernel_rfl) (by kernel_rfl) (fun _ _ _ h => h) (.inl ⟨by kernel_rfl, ?hy36jf⟩) S3 ?rest36jf
              case hy36jf =>
                rintro w' ⟨h0, h1, h2, h3, h4, h5, h6⟩
                go_simp
                all_goals with_reducible rfl
              try simp only [Act.put, List.setIfInBounds_toArray, List.set_cons_zero, List.set_cons_succ]
              refine led_takeF (i := 37) (oi := { dst := some 51, op := Op.indexAddr 22 (Operand.tmp 49) (Operand.tmp 50), type := 0, pos := "moves.go:15", after := #[{ on := 35, ground := Ground.data }, { on := 36, ground := Ground.data }, { on := 34, ground := Ground.guard }], guard := some (34, false) }) (v := ?v37jf) rfl (by kernel_rfl) (by kernel_rfl) (by kernel_rfl) (by kernel_rfl) (fun _ _ _ h => h) (.inl ⟨by kernel_rfl, ?hy37jf⟩) S3 ?rest37jf
              case hy37jf =>
                rintro w' ⟨h0, h1, h2, h3, h4, h5, h6⟩
                go_simp
                all_goals with_reducible rfl
              try simp only [Act.put, List.setIfInBounds_toArray, List.set_cons_zero, List.set_cons_succ]
              refine led_takeF (i := 38) (oi := { dst := some 52, op := Op.fieldAddr 36 (Operand.tmp 51) 1, type := 0, pos := "moves.go:15", after := #[{ on := 37, ground := Ground.data }, { on := 34, ground := Ground.guard }], guard := some (34, false) }) (v := ?v38jf) rfl (by kernel_rfl) (by kernel_rfl) (by kernel_rfl) (by kernel_rfl) (fun _ _ _ h => h) (.inl ⟨by kernel_rfl, ?hy38jf⟩) S3 ?rest38jf
              case hy38jf =>
                rintro w' ⟨h0, h1, h2, h3, h4, h5, h6⟩
                go_simp
                all_goals with_reducible rfl
              try simp only [Act.put, List.setIfInBounds_toArray, List.set_cons_zero, List.set_cons_succ]
              refine led_takeF (i := 39) (oi := { dst := some 53, op := Op.load 24 (Operand.tmp 52), type := 24, pos := "moves.go:15", after := #[{ on := 38, ground := Ground.data }, { on := 34, ground := Ground.guard }], guard := some (34, false) }) (v := ?v39jf) rfl (by kernel_rfl) (by kernel_rfl) (by kernel_rfl) (by kernel_rfl) (fun _ _ _ h => h) (.inl ⟨by kernel_rfl, ?hy39jf⟩) S3 ?rest39jf
              case hy39jf =>
                rintro w' ⟨h0, h1, h2, h3, h4, h5, h6⟩
                go_simp
                all_goals with_reducible rfl
              try simp only [Act.put, List.setIfInBounds_toArray, List.set_cons_zero, List.set_cons_succ]
              refine led_takeF (i := 40) (oi := { dst := some 54, op := Op.load 24 (Operand.tmp 3), type := 24, pos := "moves.go:15", after := #[{ on := 34, ground := Ground.guard }], guard := some (34, false) }) (v := ?v40jf) rfl (by kernel_rfl) (by kernel_rfl) (by kernel_rfl) (by kernel_rfl) (fun _ _ _ h => h) (.inl ⟨by kernel_rfl, ?hy40jf⟩) S3 ?rest40jf
              case hy40jf =>
                rintro w' ⟨h0, h1, h2, h3, h4, h5, h6⟩
                go_simp
                all_goals with_reducible rfl
              try simp only [Act.put, List.setIfInBounds_toArray, List.set_cons_zero, List.set_cons_succ]
              refine led_one (i := 41) (oi := { dst := some 55, op := Op.call { callee := Callee.value (Operand.func 27), args := #[Operand.tmp 53, Operand.tmp 54], argTypes := #[24, 24] }, type := 4, pos := "moves.go:15", after := #[{ on := 39, ground := Ground.data }, { on := 40, ground := Ground.data }, { on := 34, ground := Ground.chain }, { on := 34, ground := Ground.guard }], guard := some (34, false) }) rfl (by kernel_rfl) ?_
              intro K41 hK41
              rw [if_pos (by rfl)]
              go_simp
              refine (HS2.out _ S3).mono ?_
              rintro e wS4 ⟨rfl, S4⟩
              refine hK41 _ _ (fun _ => S4) ?_
              clear hK41
              try simp only [Act.put, List.setIfInBounds_toArray, List.set_cons_zero, List.set_cons_succ]
              cases e5
              ·
                refine led_takeF (i := 42) (oi := { dst := some 56, op := Op.pick (Operand.tmp 48) (Operand.const (Value.bool true)) (Operand.tmp 55), type := 4, pos := "moves.go:15", after := #[{ on := 34, ground := Ground.data }, { on := 41, ground := Ground.data }], guard := none }) (v := ?v42jg) rfl (by kernel_rfl) (by kernel_rfl) (by kernel_rfl) (by kernel_rfl) (fun _ _ _ h => h) (.inl ⟨by kernel_rfl, ?hy42jg⟩) S4 ?rest42jg
                case hy42jg =>
                  rintro w' ⟨h0, h1, h2, h3, h4, h5, h6⟩
                  go_simp
                  all_goals with_reducible rfl
                try simp only [Act.put, List.setIfInBounds_toArray, List.set_cons_zero, List.set_cons_succ]
                refine led_done (by kernel_rfl) ?_
                go_wp2_with fail
                go_roundw
                case rel => exact ⟨k + 1, by omega, by go_num, HM.out (by first | rfl | (simp only [*]; rfl)), HB.out.trans (S4.1.mono HB.out.size), (S4.1.block _ xs).trans HT.out⟩
                case measure => simp [intOf]; omega
              ·
                refine led_takeF (i := 42) (oi := { dst := some 56, op := Op.pick (Operand.tmp 48) (Operand.const (Value.bool true)) (Operand.tmp 55), type := 4, pos := "moves.go:15", after := #[{ on := 34, ground := Ground.data }, { on := 41, ground := Ground.data }], guard := none }) (v := ?v42jh) rfl (by kernel_rfl) (by kernel_rfl) (by kernel_rfl) (by kernel_rfl) (fun _ _ _ h => h) (.inl ⟨by kernel_rfl, ?hy42jh⟩) S4 ?rest42jh
                case hy42jh =>
                  rintro w' ⟨h0, h1, h2, h3, h4, h5, h6⟩
                  go_simp
                  all_goals with_reducible rfl
                try simp only [Act.put, List.setIfInBounds_toArray, List.set_cons_zero, List.set_cons_succ]
                refine led_done (by kernel_rfl) ?_
                go_wp2_with fail
                go_ret
                exact ⟨by rw [HF.out (by first | rfl | (simp only [*]; rfl))]; try rfl, HB.out.trans (S4.1.mono HB.out.size)⟩
            ·
              refine led_takeF (i := 33) (oi := { dst := some 47, op := Op.pick (Operand.tmp 39) (Operand.const (Value.bool true)) (Operand.tmp 46), type := 4, pos := "moves.go:15", after := #[{ on := 25, ground := Ground.data }, { on := 32, ground := Ground.data }], guard := none }) (v := ?v33ji) rfl (by kernel_rfl) (by kernel_rfl) (by kernel_rfl) (by kernel_rfl) (fun _ _ _ h => h) (.inl ⟨by kernel_rfl, ?hy33ji⟩) S3 ?rest33ji
              case hy33ji =>
                rintro w' ⟨h0, h1, h2, h3, h4, h5, h6⟩
                go_simp
                all_goals with_reducible rfl
              try simp only [Act.put, List.setIfInBounds_toArray, List.set_cons_zero, List.set_cons_succ]
              refine led_takeF (i := 34) (oi := { dst := some 48, op := Op.move (Operand.tmp 47), type := 4, pos := "moves.go:15", after := #[{ on := 33, ground := Ground.data }, { on := 32, ground := Ground.chain }], guard := none }) (v := ?v34ji) rfl (by kernel_rfl) (by kernel_rfl) (by kernel_rfl) (by kernel_rfl) (fun _ _ _ h => h) (.inl ⟨by kernel_rfl, ?hy34ji⟩) S3 ?rest34ji
              case hy34ji =>
                rintro w' ⟨h0, h1, h2, h3, h4, h5, h6⟩
                go_simp
                all_goals with_reducible rfl
              try simp only [Act.put, List.setIfInBounds_toArray, List.set_cons_zero, List.set_cons_succ]
              refine led_takeF (i := 35) (oi := { dst := some 49, op := Op.move (Operand.tmp 0), type := 22, pos := "moves.go:15", after := #[{ on := 34, ground := Ground.guard }], guard := some (34, false) }) (v := undef) rfl (by kernel_rfl) (by kernel_rfl) (by kernel_rfl) (by kernel_rfl) (fun _ _ _ h => h) (.inr ⟨by kernel_rfl, rfl⟩) S3 ?_
              try simp only [Act.put, List.getElem_toArray, List.getElem_cons_succ, List.getElem_cons_zero, List.setIfInBounds_toArray, List.set_cons_zero, List.set_cons_succ]
              refine led_takeF (i := 36) (oi := { dst := some 50, op := Op.move (Operand.tmp 5), type := 3, pos := "moves.go:15", after := #[{ on := 34, ground := Ground.guard }], guard := some (34, false) }) (v := undef) rfl (by kernel_rfl) (by kernel_rfl) (by kernel_rfl) (by kernel_rfl) (fun _ _ _ h => h) (.inr ⟨by kernel_rfl, rfl⟩) S3 ?_
              try simp only [Act.put, List.getElem_toArray, List.getElem_cons_succ, List.getElem_cons_zero, List.setIfInBounds_toArray, List.set_cons_zero, List.set_cons_succ]
              refine led_takeF (i := 37) (oi := { dst := some 51, op := Op.indexAddr 22 (Operand.tmp 49) (Operand.tmp 50), type := 0, pos := "moves.go:15", after := #[{ on := 35, ground := Ground.data }, { on := 36, ground := Ground.data }, { on := 34, ground := Ground.guard }], guard := some (34, false) }) (v := undef) rfl (by kernel_rfl) (by kernel_rfl) (by kernel_rfl) (by kernel_rfl) (fun _ _ _ h => h) (.inr ⟨by kernel_rfl, rfl⟩) S3 ?_
              try simp only [Act.put, List.getElem_toArray, List.getElem_cons_succ, List.getElem_cons_zero, List.setIfInBounds_toArray, List.set_cons_zero, List.set_cons_succ]
              refine led_takeF (i := 38) (oi := { dst := some 52, op := Op.fieldAddr 36 (Operand.tmp 51) 1, type := 0, pos := "moves.go:15", after := #[{ on := 37, ground := Ground.data }, { on := 34, ground := Ground.guard }], guard := some (34, false) }) (v := undef) rfl (by kernel_rfl) (by kernel_rfl) (by kernel_rfl) (by kernel_rfl) (fun _ _ _ h => h) (.inr ⟨by kernel_rfl, rfl⟩) S3 ?_
              try simp only [Act.put, List.getElem_toArray, List.getElem_cons_succ, List.getElem_cons_zero, List.setIfInBounds_toArray, List.set_cons_zero, List.set_cons_succ]
              refine led_takeF (i := 39) (oi := { dst := some 53, op := Op.load 24 (Operand.tmp 52), type := 24, pos := "moves.go:15", after := #[{ on := 38, ground := Ground.data }, { on := 34, ground := Ground.guard }], guard := some (34, false) }) (v := undef) rfl (by kernel_rfl) (by kernel_rfl) (by kernel_rfl) (by kernel_rfl) (fun _ _ _ h => h) (.inr ⟨by kernel_rfl, rfl⟩) S3 ?_
              try simp only [Act.put, List.getElem_toArray, List.getElem_cons_succ, List.getElem_cons_zero, List.setIfInBounds_toArray, List.set_cons_zero, List.set_cons_succ]
              refine led_takeF (i := 40) (oi := { dst := some 54, op := Op.load 24 (Operand.tmp 3), type := 24, pos := "moves.go:15", after := #[{ on := 34, ground := Ground.guard }], guard := some (34, false) }) (v := undef) rfl (by kernel_rfl) (by kernel_rfl) (by kernel_rfl) (by kernel_rfl) (fun _ _ _ h => h) (.inr ⟨by kernel_rfl, rfl⟩) S3 ?_
              try simp only [Act.put, List.getElem_toArray, List.getElem_cons_succ, List.getElem_cons_zero, List.setIfInBounds_toArray, List.set_cons_zero, List.set_cons_succ]
              refine led_takeF (i := 41) (oi := { dst := some 55, op := Op.call { callee := Callee.value (Operand.func 27), args := #[Operand.tmp 53, Operand.tmp 54], argTypes := #[24, 24] }, type := 4, pos := "moves.go:15", after := #[{ on := 39, ground := Ground.data }, { on := 40, ground := Ground.data }, { on := 34, ground := Ground.chain }, { on := 34, ground := Ground.guard }], guard := some (34, false) }) (v := undef) rfl (by kernel_rfl) (by kernel_rfl) (by kernel_rfl) (by kernel_rfl) (fun _ _ _ h => h) (.inr ⟨by kernel_rfl, rfl⟩) S3 ?_
              try simp only [Act.put, List.getElem_toArray, List.getElem_cons_succ, List.getElem_cons_zero, List.setIfInBounds_toArray, List.set_cons_zero, List.set_cons_succ]
              refine led_takeF (i := 42) (oi := { dst := some 56, op := Op.pick (Operand.tmp 48) (Operand.const (Value.bool true)) (Operand.tmp 55), type := 4, pos := "moves.go:15", after := #[{ on := 34, ground := Ground.data }, { on := 41, ground := Ground.data }], guard := none }) (v := ?v42ji) rfl (by kernel_rfl) (by kernel_rfl) (by kernel_rfl) (by kernel_rfl) (fun _ _ _ h => h) (.inl ⟨by kernel_rfl, ?hy42ji⟩) S3 ?rest42ji
              case hy42ji =>
                rintro w' ⟨h0, h1, h2, h3, h4, h5, h6⟩
                go_simp
                all_goals with_reducible rfl
              try simp only [Act.put, List.setIfInBounds_toArray, List.set_cons_zero, List.set_cons_succ]
              refine led_done (by kernel_rfl) ?_
              go_wp2_with fail
              go_ret
              exact ⟨by rw [HF.out (by first | rfl | (simp only [*]; rfl))]; try rfl, HB.out.trans (S3.1.mono HB.out.size)⟩
        ·
          refine led_takeF (i := 14) (oi := { dst := some 28, op := Op.unOp UnOp.not 4 (Operand.tmp 27), type := 4, pos := "moves.go:15", after := #[{ on := 13, ground := Ground.data }, { on := 7, ground := Ground.guard }], guard := some (7, false) }) (v := ?v14k) rfl (by kernel_rfl) (by kernel_rfl) (by kernel_rfl) (by kernel_rfl) (fun _ _ _ h => h) (.inl ⟨by kernel_rfl, ?hy14k⟩) S2 ?rest14k
          case hy14k =>
            rintro w' ⟨h0, h1, h2, h3, h4, h5, h6⟩
            go_simp
            all_goals with_reducible rfl
          try simp only [Act.put, List.setIfInBounds_toArray, List.set_cons_zero, List.set_cons_succ]
          refine led_takeF (i := 15) (oi := { dst := some 29, op := Op.move (Operand.tmp 28), type := 4, pos := "moves.go:15", after := #[{ on := 14, ground := Ground.data }, { on := 13, ground := Ground.chain }, { on := 7, ground := Ground.guard }], guard := some (7, false) }) (v := ?v15k) rfl (by kernel_rfl) (by kernel_rfl) (by kernel_rfl) (by kernel_rfl) (fun _ _ _ h => h) (.inl ⟨by kernel_rfl, ?hy15k⟩) S2 ?rest15k
          case hy15k =>
            rintro w' ⟨h0, h1, h2, h3, h4, h5, h6⟩
            go_simp
            all_goals with_reducible rfl
          try simp only [Act.put, List.setIfInBounds_toArray, List.set_cons_zero, List.set_cons_succ]
          refine led_takeF (i := 16) (oi := { dst := some 30, op := Op.move (Operand.tmp 0), type := 22, pos := "moves.go:15", after := #[{ on := 15, ground := Ground.guard }], guard := some (15, true) }) (v := undef) rfl (by kernel_rfl) (by kernel_rfl) (by kernel_rfl) (by kernel_rfl) (fun _ _ _ h => h) (.inr ⟨by kernel_rfl, rfl⟩) S2 ?_
          try simp only [Act.put, List.getElem_toArray, List.getElem_cons_succ, List.getElem_cons_zero, List.setIfInBounds_toArray, List.set_cons_zero, List.set_cons_succ]
          refine led_takeF (i := 17) (oi := { dst := some 31, op := Op.move (Operand.tmp 5), type := 3, pos := "moves.go:15", after := #[{ on := 15, ground := Ground.guard }], guard := some (15, true) }) (v := undef) rfl (by kernel_rfl) (by kernel_rfl) (by kernel_rfl) (by kernel_rfl) (fun _ _ _ h => h) (.inr ⟨by kernel_rfl, rfl⟩) S2 ?_
          try simp only [Act.put, List.getElem_toArray, List.getElem_cons_succ, List.getElem_cons_zero, List.setIfInBounds_toArray, List.set_cons_zero, List.set_cons_succ]
          refine led_takeF (i := 18) (oi := { dst := some 32, op := Op.indexAddr 22 (Operand.tmp 30) (Operand.tmp 31), type := 0, pos := "moves.go:15", after := #[{ on := 16, ground := Ground.data }, { on := 17, ground := Ground.data }, { on := 15, ground := Ground.guard }], guard := some (15, true) }) (v := undef) rfl (by kernel_rfl) (by kernel_rfl) (by kernel_rfl) (by kernel_rfl) (fun _ _ _ h => h) (.inr ⟨by kernel_rfl, rfl⟩) S2 ?_
          try simp only [Act.put, List.getElem_toArray, List.getElem_cons_succ, List.getElem_cons_zero, List.setIfInBounds_toArray, List.set_cons_zero, List.set_cons_succ]
          refine led_takeF (i := 19) (oi := { dst := some 33, op := Op.fieldAddr 36 (Operand.tmp 32) 1, type := 0, pos := "moves.go:15", after := #[{ on := 18, ground := Ground.data }, { on := 15, ground := Ground.guard }], guard := some (15, true) }) (v := undef) rfl (by kernel_rfl) (by kernel_rfl) (by kernel_rfl) (by kernel_rfl) (fun _ _ _ h => h) (.inr ⟨by kernel_rfl, rfl⟩) S2 ?_
          try simp only [Act.put, List.getElem_toArray, List.getElem_cons_succ, List.getElem_cons_zero, List.setIfInBounds_toArray, List.set_cons_zero, List.set_cons_succ]
          refine led_takeF (i := 20) (oi := { dst := some 34, op := Op.fieldAddr 24 (Operand.tmp 33) 0, type := 0, pos := "moves.go:15", after := #[{ on := 19, ground := Ground.data }, { on := 15, ground := Ground.guard }], guard := some (15, true) }) (v := undef) rfl (by kernel_rfl) (by kernel_rfl) (by kernel_rfl) (by kernel_rfl) (fun _ _ _ h => h) (.inr ⟨by kernel_rfl, rfl⟩) S2 ?_
          try simp only [Act.put, List.getElem_toArray, List.getElem_cons_succ, List.getElem_cons_zero, List.setIfInBounds_toArray, List.set_cons_zero, List.set_cons_succ]
          refine led_takeF (i := 21) (oi := { dst := some 35, op := Op.load 3 (Operand.tmp 34), type := 3, pos := "moves.go:15", after := #[{ on := 20, ground := Ground.data }, { on := 15, ground := Ground.guard }], guard := some (15, true) }) (v := undef) rfl (by kernel_rfl) (by kernel_rfl) (by kernel_rfl) (by kernel_rfl) (fun _ _ _ h => h) (.inr ⟨by kernel_rfl, rfl⟩) S2 ?_
          try simp only [Act.put, List.getElem_toArray, List.getElem_cons_succ, List.getElem_cons_zero, List.setIfInBounds_toArray, List.set_cons_zero, List.set_cons_succ]
          refine led_takeF (i := 22) (oi := { dst := some 36, op := Op.binOp BinOp.neq 3 (Operand.tmp 35) (Operand.const (Value.int IntKind.i64 3)) 3, type := 4, pos := "moves.go:15", after := #[{ on := 21, ground := Ground.data }, { on := 15, ground := Ground.guard }], guard := some (15, true) }) (v := undef) rfl (by kernel_rfl) (by kernel_rfl) (by kernel_rfl) (by kernel_rfl) (fun _ _ _ h => h) (.inr ⟨by kernel_rfl, rfl⟩) S2 ?_
          try simp only [Act.put, List.getElem_toArray, List.getElem_cons_succ, List.getElem_cons_zero, List.setIfInBounds_toArray, List.set_cons_zero, List.set_cons_succ]
          refine led_takeF (i := 23) (oi := { dst := some 37, op := Op.pick (Operand.tmp 29) (Operand.tmp 36) (Operand.const (Value.bool false)), type := 4, pos := "moves.go:15", after := #[{ on := 15, ground := Ground.data }, { on := 22, ground := Ground.data }, { on := 7, ground := Ground.guard }], guard := some (7, false) }) (v := ?v23k) rfl (by kernel_rfl) (by kernel_rfl) (by kernel_rfl) (by kernel_rfl) (fun _ _ _ h => h) (.inl ⟨by kernel_rfl, ?hy23k⟩) S2 ?rest23k
          case hy23k =>
            rintro w' ⟨h0, h1, h2, h3, h4, h5, h6⟩
            go_simp
            all_goals with_reducible rfl
          try simp only [Act.put, List.setIfInBounds_toArray, List.set_cons_zero, List.set_cons_succ]
          refine led_takeF (i := 24) (oi := { dst := some 38, op := Op.pick (Operand.tmp 21) (Operand.const (Value.bool true)) (Operand.tmp 37), type := 4, pos := "moves.go:15", after := #[{ on := 7, ground := Ground.data }, { on := 23, ground := Ground.data }], guard := none }) (v := ?v24k) rfl (by kernel_rfl) (by kernel_rfl) (by kernel_rfl) (by kernel_rfl) (fun _ _ _ h => h) (.inl ⟨by kernel_rfl, ?hy24k⟩) S2 ?rest24k
          case hy24k =>
            rintro w' ⟨h0, h1, h2, h3, h4, h5, h6⟩
            go_simp
            all_goals with_reducible rfl
          try simp only [Act.put, List.setIfInBounds_toArray, List.set_cons_zero, List.set_cons_succ]
          refine led_takeF (i := 25) (oi := { dst := some 39, op := Op.move (Operand.tmp 38), type := 4, pos := "moves.go:15", after := #[{ on := 24, ground := Ground.data }, { on := 15, ground := Ground.chain }], guard := none }) (v := ?v25k) rfl (by kernel_rfl) (by kernel_rfl) (by kernel_rfl) (by kernel_rfl) (fun _ _ _ h => h) (.inl ⟨by kernel_rfl, ?hy25k⟩) S2 ?rest25k
          case hy25k =>
            rintro w' ⟨h0, h1, h2, h3, h4, h5, h6⟩
            go_simp
            all_goals with_reducible rfl
          try simp only [Act.put, List.setIfInBounds_toArray, List.set_cons_zero, List.set_cons_succ]
          refine led_takeF (i := 26) (oi := { dst := some 40, op := Op.move (Operand.tmp 0), type := 22, pos := "moves.go:15", after := #[{ on := 25, ground := Ground.guard }], guard := some (25, false) }) (v := ?v26k) rfl (by kernel_rfl) (by kernel_rfl) (by kernel_rfl) (by kernel_rfl) (fun _ _ _ h => h) (.inl ⟨by kernel_rfl, ?hy26k⟩) S2 ?rest26k
          case hy26k =>
            rintro w' ⟨h0, h1, h2, h3, h4, h5, h6⟩
            go_simp
            all_goals with_reducible rfl
          try simp only [Act.put, List.setIfInBounds_toArray, List.set_cons_zero, List.set_cons_succ]
          refine led_takeF (i := 27) (oi := { dst := some 41, op := Op.move (Operand.tmp 5), type := 3, pos := "moves.go:15", after := #[{ on := 25, ground := Ground.guard }], guard := some (25, false) }) (v := ?v27k) rfl (by kernel_rfl) (by kernel_rfl) (by kernel_rfl) (by kernel_rfl) (fun _ _ _ h => h) (.inl ⟨by kernel_rfl, ?hy27k⟩) S2 ?rest27k
          case hy27k =>
            rintro w' ⟨h0, h1, h2, h3, h4, h5, h6⟩
            go_simp
            all_goals with_reducible rfl
          try simp only [Act.put, List.setIfInBounds_toArray, List.set_cons_zero, List.set_cons_succ]
          refine led_takeF (i := 28) (oi := { dst := some 42, op := Op.indexAddr 22 (Operand.tmp 40) (Operand.tmp 41), type := 0, pos := "moves.go:15", after := #[{ on := 26, ground := Ground.data }, { on := 27, ground := Ground.data }, { on := 25, ground := Ground.guard }], guard := some (25, false) }) (v := ?v28k) rfl (by kernel_rfl) (by kernel_rfl) (by kernel_rfl) (by kernel_rfl) (fun _ _ _ h => h) (.inl ⟨by kernel_rfl, ?hy28k⟩) S2 ?rest28k
          case hy28k =>
            rintro w' ⟨h0, h1, h2, h3, h4, h5, h6⟩
            go_simp
            all_goals with_reducible rfl
          try simp only [Act.put, List.setIfInBounds_toArray, List.set_cons_zero, List.set_cons_succ]
          refine led_takeF (i := 29) (oi := { dst := some 43, op := Op.fieldAddr 36 (Operand.tmp 42) 0, type := 0, pos := "moves.go:15", after := #[{ on := 28, ground := Ground.data }, { on := 25, ground := Ground.guard }], guard := some (25, false) }) (v := ?v29k) rfl (by kernel_rfl) (by kernel_rfl) (by kernel_rfl) (by kernel_rfl) (fun _ _ _ h => h) (.inl ⟨by kernel_rfl, ?hy29k⟩) S2 ?rest29k
          case hy29k =>
            rintro w' ⟨h0, h1, h2, h3, h4, h5, h6⟩
            go_simp
            all_goals with_reducible rfl
          try simp only [Act.put, List.setIfInBounds_toArray, List.set_cons_zero, List.set_cons_succ]
          refine led_takeF (i := 30) (oi := { dst := some 44, op := Op.load 24 (Operand.tmp 43), type := 24, pos := "moves.go:15", after := #[{ on := 29, ground := Ground.data }, { on := 25, ground := Ground.guard }], guard := some (25, false) }) (v := ?v30k) rfl (by kernel_rfl) (by kernel_rfl) (by kernel_rfl) (by kernel_rfl) (fun _ _ _ h => h) (.inl ⟨by kernel_rfl, ?hy30k⟩) S2 ?rest30k
          case hy30k =>
            rintro w' ⟨h0, h1, h2, h3, h4, h5, h6⟩
            go_simp
            all_goals with_reducible rfl
          try simp only [Act.put, List.setIfInBounds_toArray, List.set_cons_zero, List.set_cons_succ]
          refine led_takeF (i := 31) (oi := { dst := some 45, op := Op.load 24 (Operand.tmp 3), type := 24, pos := "moves.go:15", after := #[{ on := 25, ground := Ground.guard }], guard := some (25, false) }) (v := ?v31k) rfl (by kernel_rfl) (by kernel_rfl) (by kernel_rfl) (by kernel_rfl) (fun _ _ _ h => h) (.inl ⟨by kernel_rfl, ?hy31k⟩) S2 ?rest31k
          case hy31k =>
            rintro w' ⟨h0, h1, h2, h3, h4, h5, h6⟩
            go_simp
            all_goals with_reducible rfl
          try simp only [Act.put, List.setIfInBounds_toArray, List.set_cons_zero, List.set_cons_succ]
          refine led_one (i := 32) (oi := { dst := some 46, op := Op.call { callee := Callee.value (Operand.func 27), args := #[Operand.tmp 44, Operand.tmp 45], argTypes := #[24, 24] }, type := 4, pos := "moves.go:15", after := #[{ on := 30, ground := Ground.data }, { on := 31, ground := Ground.data }, { on := 25, ground := Ground.chain }, { on := 25, ground := Ground.guard }], guard := some (25, false) }) rfl (by kernel_rfl) ?_
          intro K32 hK32
          rw [if_pos (by rfl)]
          go_simp
          refine (HS1.out _ S2).mono ?_
          rintro e wS3 ⟨rfl, S3⟩
          refine hK32 _ _ (fun _ => S3) ?_
          clear hK32
          try simp only [Act.put, List.setIfInBounds_toArray, List.set_cons_zero, List.set_cons_succ]
          cases e4
          ·
            refine led_takeF (i := 33) (oi := { dst := some 47, op := Op.pick (Operand.tmp 39) (Operand.const (Value.bool true)) (Operand.tmp 46), type := 4, pos := "moves.go:15", after := #[{ on := 25, ground := Ground.data }, { on := 32, ground := Ground.data }], guard := none }) (v := ?v33kf) rfl (by kernel_rfl) (by kernel_rfl) (by kernel_rfl) (by kernel_rfl) (fun _ _ _ h => h) (.inl ⟨by kernel_rfl, ?hy33kf⟩) S3 ?rest33kf
            case hy33kf =>
              rintro w' ⟨h0, h1, h2, h3, h4, h5, h6⟩
              go_simp
              all_goals with_reducible rfl
            try simp only [Act.put, List.setIfInBounds_toArray, List.set_cons_zero, List.set_cons_succ]
            refine led_takeF (i := 34) (oi := { dst := some 48, op := Op.move (Operand.tmp 47), type := 4, pos := "moves.go:15", after := #[{ on := 33, ground := Ground.data }, { on := 32, ground := Ground.chain }], guard := none }) (v := ?v34kf) rfl (by kernel_rfl) (by kernel_rfl) (by kernel_rfl) (by kernel_rfl) (fun _ _ _ h => h) (.inl ⟨by kernel_rfl, ?hy34kf⟩) S3 ?rest34kf
            case hy34kf =>
              rintro w' ⟨h0, h1, h2, h3, h4, h5, h6⟩
              go_simp
              all_goals with_reducible rfl
            try simp only [Act.put, List.setIfInBounds_toArray, List.set_cons_zero, List.set_cons_succ]
            refine led_takeF (i := 35) (oi := { dst := some 49, op := Op.move (Operand.tmp 0), type := 22, pos := "moves.go:15", after := #[{ on := 34, ground := Ground.guard }], guard := some (34, false) }) (v := ?v35kf) rfl (by kernel_rfl) (by kernel_rfl) (by kernel_rfl) (by kernel_rfl) (fun _ _ _ h => h) (.inl ⟨by kernel_rfl, ?hy35kf⟩) S3 ?rest35kf
            case hy35kf =>
              rintro w' ⟨h0, h1, h2, h3, h4, h5, h6⟩
              go_simp
              all_goals with_reducible rfl
            try simp only [Act.put, List.setIfInBounds_toArray, List.set_cons_zero, List.set_cons_succ]
            refine led_takeF (i := 36) (oi := { dst := some 50, op := Op.move (Operand.tmp 5), type := 3, pos := "moves.go:15", after := #[{ on := 34, ground := Ground.guard }], guard := some (34, false) }) (v := ?v36kf) rfl (by kernel_rfl) (by kernel_rfl) (by kernel_rfl) (by kernel_rfl) (fun _ _ _ h => h) (.inl ⟨by kernel_rfl, ?hy36kf⟩) S3 ?rest36kf
            case hy36kf =>
              rintro w' ⟨h0, h1, h2, h3, h4, h5, h6⟩
              go_simp
              all_goals with_reducible rfl
            try simp only [Act.put, List.setIfInBounds_toArray, List.set_cons_zero, List.set_cons_succ]
            refine led_takeF (i := 37) (oi := { dst := some 51, op := Op.indexAddr 22 (Operand.tmp 49) (Operand.tmp 50), type := 0, pos := "moves.go:15", after := #[{ on := 35, ground := Ground.data }, { on := 36, ground := Ground.data }, { on := 34, ground := Ground.guard }], guard := some (34, false) }) (v := ?v37kf) rfl (by kernel_rfl) (by kernel_rfl) (by kernel_rfl) (by kernel_rfl) (fun _ _ _ h => h) (.inl ⟨by kernel_rfl, ?hy37kf⟩) S3 ?rest37kf
            case hy37kf =>
              rintro w' ⟨h0, h1, h2, h3, h4, h5, h6⟩
              go_simp
              all_goals with_reducible rfl
            try simp only [Act.put, List.setIfInBounds_toArray, List.set_cons_zero, List.set_cons_succ]
            refine led_takeF (i := 38) (oi := { dst := some 52, op := Op.fieldAddr 36 (Operand.tmp 51) 1, type := 0, pos := "moves.go:15", after := #[{ on := 37, ground := Ground.data }, { on := 34, ground := Ground.guard }], guard := some (34, false) }) (v := ?v38kf) rfl (by kernel_rfl) (by kernel_rfl) (by kernel_rfl) (by kernel_rfl) (fun _ _ _ h => h) (.inl ⟨by kernel_rfl, ?hy38kf⟩) S3 ?rest38kf
            case hy38kf =>
              rintro w' ⟨h0, h1, h2, h3, h4, h5, h6⟩
              go_simp
              all_goals with_reducible rfl
            try simp only [Act.put, List.setIfInBounds_toArray, List.set_cons_zero, List.set_cons_succ]
            refine led_takeF (i := 39) (oi := { dst := some 53, op := Op.load 24 (Operand.tmp 52), type := 24, pos := "moves.go:15", after := #[{ on := 38, ground := Ground.data }, { on := 34, ground := Ground.guard }], guard := some (34, false) }) (v := ?v39kf) rfl (by kernel_rfl) (by kernel_rfl) (by kernel_rfl) (by kernel_rfl) (fun _ _ _ h => h) (.inl ⟨by kernel_rfl, ?hy39kf⟩) S3 ?rest39kf
            case hy39kf =>
              rintro w' ⟨h0, h1, h2, h3, h4, h5, h6⟩
              go_simp
              all_goals with_reducible rfl
            try simp only [Act.put, List.setIfInBounds_toArray, List.set_cons_zero, List.set_cons_succ]
            refine led_takeF (i := 40) (oi := { dst := some 54, op := Op.load 24 (Operand.tmp 3), type := 24, pos := "moves.go:15", after := #[{ on := 34, ground := Ground.guard }], guard := some (34, false) }) (v := ?v40kf) rfl (by kernel_rfl) (by kernel_rfl) (by kernel_rfl) (by kernel_rfl) (fun _ _ _ h => h) (.inl ⟨by kernel_rfl, ?hy40kf⟩) S3 ?rest40kf
            case hy40kf =>
              rintro w' ⟨h0, h1, h2, h3, h4, h5, h6⟩
              go_simp
              all_goals with_reducible rfl
            try simp only [Act.put, List.setIfInBounds_toArray, List.set_cons_zero, List.set_cons_succ]
            refine led_one (i := 41) (oi := { dst := some 55, op := Op.call { callee := Callee.value (Operand.func 27), args := #[Operand.tmp 53, Operand.tmp 54], argTypes := #[24, 24] }, type := 4, pos := "moves.go:15", after := #[{ on := 39, ground := Ground.data }, { on := 40, ground := Ground.data }, { on := 34, ground := Ground.chain }, { on := 34, ground := Ground.guard }], guard := some (34, false) }) rfl (by kernel_rfl) ?_
            intro K41 hK41
            rw [if_pos (by rfl)]
            go_simp
            refine (HS2.out _ S3).mono ?_
            rintro e wS4 ⟨rfl, S4⟩
            refine hK41 _ _ (fun _ => S4) ?_
            clear hK41
            try simp only [Act.put, List.setIfInBounds_toArray, List.set_cons_zero, List.set_cons_succ]
            cases e5
            ·
              refine led_takeF (i := 42) (oi := { dst := some 56, op := Op.pick (Operand.tmp 48) (Operand.const (Value.bool true)) (Operand.tmp 55), type := 4, pos := "moves.go:15", after := #[{ on := 34, ground := Ground.data }, { on := 41, ground := Ground.data }], guard := none }) (v := ?v42kg) rfl (by kernel_rfl) (by kernel_rfl) (by kernel_rfl) (by kernel_rfl) (fun _ _ _ h => h) (.inl ⟨by kernel_rfl, ?hy42kg⟩) S4 ?rest42kg
              case hy42kg =>
                rintro w' ⟨h0, h1, h2, h3, h4, h5, h6⟩
                go_simp
                all_goals with_reducible rfl
              try simp only [Act.put, List.setIfInBounds_toArray, List.set_cons_zero, List.set_cons_succ]
              refine led_done (by kernel_rfl) ?_
              go_wp2_with fail
              go_roundw
              case rel => exact ⟨k + 1, by omega, by go_num, HM.out (by first | rfl | (simp only [*]; rfl)), HB.out.trans (S4.1.mono HB.out.size), (S4.1.block _ xs).trans HT.out⟩
              case measure => simp [intOf]; omega
            ·
              refine led_takeF (i := 42) (oi := { dst := some 56, op := Op.pick (Operand.tmp 48) (Operand.const (Value.bool true)) (Operand.tmp 55), type := 4, pos := "moves.go:15", after := #[{ on := 34, ground := Ground.data }, { on := 41, ground := Ground.data }], guard := none }) (v := ?v42kh) rfl (by kernel_rfl) (by kernel_rfl) (by kernel_rfl) (by kernel_rfl) (fun _ _ _ h => h) (.inl ⟨by kernel_rfl, ?hy42kh⟩) S4 ?rest42kh
              case hy42kh =>
                rintro w' ⟨h0, h1, h2, h3, h4, h5, h6⟩
                go_simp
                all_goals with_reducible rfl
              try simp only [Act.put, List.setIfInBounds_toArray, List.set_cons_zero, List.set_cons_succ]
              refine led_done (by kernel_rfl) ?_
              go_wp2_with fail
              go_ret
              exact ⟨by rw [HF.out (by first | rfl | (simp only [*]; rfl))]; try rfl, HB.out.trans (S4.1.mono HB.out.size)⟩
          ·
            refine led_takeF (i := 33) (oi := { dst := some 47, op := Op.pick (Operand.tmp 39) (Operand.const (Value.bool true)) (Operand.tmp 46), type := 4, pos := "moves.go:15", after := #[{ on := 25, ground := Ground.data }, { on := 32, ground := Ground.data }], guard := none }) (v := ?v33ki) rfl (by kernel_rfl) (by kernel_rfl) (by kernel_rfl) (by kernel_rfl) (fun _ _ _ h => h) (.inl ⟨by kernel_rfl, ?hy33ki⟩) S3 ?rest33ki
            case hy33ki =>
              rintro w' ⟨h0, h1, h2, h3, h4, h5, h6⟩
              go_simp
              all_goals with_reducible rfl
            try simp only [Act.put, List.setIfInBounds_toArray, List.set_cons_zero, List.set_cons_succ]
            refine led_takeF (i := 34) (oi := { dst := some 48, op := Op.move (Operand.tmp 47), type := 4, pos := "moves.go:15", after := #[{ on := 33, ground := Ground.data }, { on := 32, ground := Ground.chain }], guard := none }) (v := ?v34ki) rfl (by kernel_rfl) (by kernel_rfl) (by kernel_rfl) (by kernel_rfl) (fun _ _ _ h => h) (.inl ⟨by kernel_rfl, ?hy34ki⟩) S3 ?rest34ki
            case hy34ki =>
              rintro w' ⟨h0, h1, h2, h3, h4, h5, h6⟩
              go_simp
              all_goals with_reducible rfl
            try simp only [Act.put, List.setIfInBounds_toArray, List.set_cons_zero, List.set_cons_succ]
            refine led_takeF (i := 35) (oi := { dst := some 49, op := Op.move (Operand.tmp 0), type := 22, pos := "moves.go:15", after := #[{ on := 34, ground := Ground.guard }], guard := some (34, false) }) (v := undef) rfl (by kernel_rfl) (by kernel_rfl) (by kernel_rfl) (by kernel_rfl) (fun _ _ _ h => h) (.inr ⟨by kernel_rfl, rfl⟩) S3 ?_
            try simp only [Act.put, List.getElem_toArray, List.getElem_cons_succ, List.getElem_cons_zero, List.setIfInBounds_toArray, List.set_cons_zero, List.set_cons_succ]
            refine led_takeF (i := 36) (oi := { dst := some 50, op := Op.move (Operand.tmp 5), type := 3, pos := "moves.go:15", after := #[{ on := 34, ground := Ground.guard }], guard := some (34, false) }) (v := undef) rfl (by kernel_rfl) (by kernel_rfl) (by kernel_rfl) (by kernel_rfl) (fun _ _ _ h => h) (.inr ⟨by kernel_rfl, rfl⟩) S3 ?_
            try simp only [Act.put, List.getElem_toArray, List.getElem_cons_succ, List.getElem_cons_zero, List.setIfInBounds_toArray, List.set_cons_zero, List.set_cons_succ]
            refine led_takeF (i := 37) (oi := { dst := some 51, op := Op.indexAddr 22 (Operand.tmp 49) (Operand.tmp 50), type := 0, pos := "moves.go:15", after := #[{ on := 35, ground := Ground.data }, { on := 36, ground := Ground.data }, { on := 34, ground := Ground.guard }], guard := some (34, false) }) (v := undef) rfl (by kernel_rfl) (by kernel_rfl) (by kernel_rfl) (by kernel_rfl) (fun _ _ _ h => h) (.inr ⟨by kernel_rfl, rfl⟩) S3 ?_
            try simp only [Act.put, List.getElem_toArray, List.getElem_cons_succ, List.getElem_cons_zero, List.setIfInBounds_toArray, List.set_cons_zero, List.set_cons_succ]
            refine led_takeF (i := 38) (oi := { dst := some 52, op := Op.fieldAddr 36 (Operand.tmp 51) 1, type := 0, pos := "moves.go:15", after := #[{ on := 37, ground := Ground.data }, { on := 34, ground := Ground.guard }], guard := some (34, false) }) (v := undef) rfl (by kernel_rfl) (by kernel_rfl) (by kernel_rfl) (by kernel_rfl) (fun _ _ _ h => h) (.inr ⟨by kernel_rfl, rfl⟩) S3 ?_
            try simp only [Act.put, List.getElem_toArray, List.getElem_cons_succ, List.getElem_cons_zero, List.setIfInBounds_toArray, List.set_cons_zero, List.set_cons_succ]
            refine led_takeF (i := 39) (oi := { dst := some 53, op := Op.load 24 (Operand.tmp 52), type := 24, pos := "moves.go:15", after := #[{ on := 38, ground := Ground.data }, { on := 34, ground := Ground.guard }], guard := some (34, false) }) (v := undef) rfl (by kernel_rfl) (by kernel_rfl) (by kernel_rfl) (by kernel_rfl) (fun _ _ _ h => h) (.inr ⟨by kernel_rfl, rfl⟩) S3 ?_
            try simp only [Act.put, List.getElem_toArray, List.getElem_cons_succ, List.getElem_cons_zero, List.setIfInBounds_toArray, List.set_cons_zero, List.set_cons_succ]
            refine led_takeF (i := 40) (oi := { dst := some 54, op := Op.load 24 (Operand.tmp 3), type := 24, pos := "moves.go:15", after := #[{ on := 34, ground := Ground.guard }], guard := some (34, false) }) (v := undef) rfl (by kernel_rfl) (by kernel_rfl) (by kernel_rfl) (by kernel_rfl) (fun _ _ _ h => h) (.inr ⟨by kernel_rfl, rfl⟩) S3 ?_
            try simp only [Act.put, List.getElem_toArray, List.getElem_cons_succ, List.getElem_cons_zero, List.setIfInBounds_toArray, List.set_cons_zero, List.set_cons_succ]
            refine led_takeF (i := 41) (oi := { dst := some 55, op := Op.call { callee := Callee.value (Operand.func 27), args := #[Operand.tmp 53, Operand.tmp 54], argTypes := #[24, 24] }, type := 4, pos := "moves.go:15", after := #[{ on := 39, ground := Ground.data }, { on := 40, ground := Ground.data }, { on := 34, ground := Ground.chain }, { on := 34, ground := Ground.guard }], guard := some (34, false) }) (v := undef) rfl (by kernel_rfl) (by kernel_rfl) (by kernel_rfl) (by kernel_rfl) (fun _ _ _ h => h) (.inr ⟨by kernel_rfl, rfl⟩) S3 ?_
            try simp only [Act.put, List.getElem_toArray, List.getElem_cons_succ, List.getElem_cons_zero, List.setIfInBounds_toArray, List.set_cons_zero, List.set_cons_succ]
            refine led_takeF (i := 42) (oi := { dst := some 56, op := Op.pick (Operand.tmp 48) (Operand.const (Value.bool true)) (Operand.tmp 55), type := 4, pos := "moves.go:15", after := #[{ on := 34, ground := Ground.data }, { on := 41, ground := Ground.data }], guard := none }) (v := ?v42ki) rfl (by kernel_rfl) (by kernel_rfl) (by kernel_rfl) (by kernel_rfl) (fun _ _ _ h => h) (.inl ⟨by kernel_rfl, ?hy42ki⟩) S3 ?rest42ki
            case hy42ki =>
              rintro w' ⟨h0, h1, h2, h3, h4, h5, h6⟩
              go_simp
              all_goals with_reducible rfl
            try simp only [Act.put, List.setIfInBounds_toArray, List.set_cons_zero, List.set_cons_succ]
            refine led_done (by kernel_rfl) ?_
            go_wp2_with fail
            go_ret
            exact ⟨by rw [HF.out (by first | rfl | (simp only [*]; rfl))]; try rfl, HB.out.trans (S3.1.mono HB.out.size)⟩
    · have hR1 : R = true := by
        rw [← HR.out, List.all_eq_true]
        intro x hx
        obtain ⟨i, hi, rfl⟩ := List.getElem_of_mem hx
        exact HP.out i hi (by have := HN.out; omega)
      obtain rfl : k = ln := by omega
      subst hR1
      cases V
      · go_wp2_with (first | (go_at_call 35; refine (HPT.out _).mono ?_; rintro e w1 ⟨rfl, hb1⟩; have HB1 : Hid _ := hb1; clear hb1))
        go_ret
        exact ⟨by rw [← HE.out]; rfl, HB.out.trans (HB1.out.mono HB.out.size)⟩
      · go_wp2_with (first | (go_at_call 35; refine (HPT.out _).mono ?_; rintro e w1 ⟨rfl, hb1⟩; have HBW : Hid (Below w.heap.size w w1) := HB.out.trans (hb1.mono HB.out.size); clear hb1))
        clear HP HB HT x0 x1 xs hk hlt HR HPT
        go_loopw [6] (fun v wr => ∃ i : Nat, i ≤ k ∧ v = .int .i64 i ∧ Hid ((tks l i).Nodup) ∧ Hid (Below w.heap.size w wr)) (fun v _ => k - (intOf v).toNat)
        case atStart => exact ⟨0, by omega, rfl, List.nodup_nil, HBW⟩
        case round =>
          clear HBW
          obtain ⟨i, hi, rfl, HD, HB⟩ := hrel
          by_cases hik : i < k
          · have hif : i < l.length := by have := HN.out; omega
            have hne : l ≠ [] := by rintro rfl; simp at hif
            obtain ⟨b, o, rfl, hA0⟩ := HL.out.out hne
            have HA : Hid (AtM w b o l) := hA0
            obtain ⟨x, hx⟩ : ∃ x, l[i] = x := ⟨_, rfl⟩
            have HLI : Hid (l[i] = x) := hx
            obtain ⟨⟨x1, x2⟩, x34⟩ := x
            clear hA0 hx
            go_wp2_with fail
            go_loopw [7] (fun v wr => ∃ j : Nat, j ≤ i ∧ v = .int .i64 j ∧ Hid (∀ j', ∀ h : j' < l.length, j' < j → ¬ l[j'].1 = (x1, x2)) ∧ Hid (Below w.heap.size w wr)) (fun v _ => i - (intOf v).toNat)
            case atStart => exact ⟨0, by omega, rfl, fun j' h hj => by omega, HB⟩
            case round =>
              clear HB
              obtain ⟨j, hj, rfl, HJ, HB⟩ := hrel
              by_cases hji : j < i
              · have hjf : j < l.length := by omega
                have hA := HA.out.below HB.out HA.out.lt
                have hbl := hA.lt
                obtain ⟨c0, c1, _, _⟩ := hA.cell i hif
                obtain ⟨d0, d1, _, _⟩ := hA.cell j hjf
                rw [HLI.out] at c0 c1
                obtain ⟨y, hy⟩ : ∃ y, l[j] = y := ⟨_, rfl⟩
                have HLJ : Hid (l[j] = y) := hy
                rw [hy] at d0 d1
                obtain ⟨⟨y1, y2⟩, y34⟩ := y
                simp only at c0 c1 d0 d1
                have S0 : (fun w' : World => Below wr.heap.size wr w' ∧ w'.cell? ⟨b, o + i * 4, none⟩ = some (.int .i64 x1) ∧ w'.cell? ⟨b, o + i * 4 + 1, none⟩ = some (.int .i64 x2) ∧ w'.cell? ⟨b, o + j * 4, none⟩ = some (.int .i64 y1) ∧ w'.cell? ⟨b, o + j * 4 + 1, none⟩ = some (.int .i64 y2)) wr.drew := ⟨(Below.refl _ _).drew, c0, c1, d0, d1⟩
                have HSA : Hid (∀ w', (fun w' : World => Below wr.heap.size wr w' ∧ w'.cell? ⟨b, o + i * 4, none⟩ = some (.int .i64 x1) ∧ w'.cell? ⟨b, o + i * 4 + 1, none⟩ = some (.int .i64 x2) ∧ w'.cell? ⟨b, o + j * 4, none⟩ = some (.int .i64 y1) ∧ w'.cell? ⟨b, o + j * 4 + 1, none⟩ = some (.int .i64 y2)) w' → Calls Try.prog 27 #[.agg #[.int .i64 x1, .int .i64 x2], .agg #[.int .i64 y1, .int .i64 y2]] w' fun e w'' => e = .returned (.bool (decide (((x1, x2) : Lc) = (y1, y2)))) ∧ (fun w' : World => Below wr.heap.size wr w' ∧ w'.cell? ⟨b, o + i * 4, none⟩ = some (.int .i64 x1) ∧ w'.cell? ⟨b, o + i * 4 + 1, none⟩ = some (.int .i64 x2) ∧ w'.cell? ⟨b, o + j * 4, none⟩ = some (.int .i64 y1) ∧ w'.cell? ⟨b, o + j * 4 + 1, none⟩ = some (.int .i64 y2)) w'') := fun w' hs => by
                  refine (same_any w' (x1, x2) (y1, y2)).mono ?_
                  rintro e w'' ⟨rfl, hb⟩
                  exact ⟨rfl, hs.1.trans (hb.mono hs.1.size), (hb.cell (p := ⟨b, o + i * 4, none⟩) (Nat.lt_of_lt_of_le hbl hs.1.size)).trans hs.2.1, (hb.cell (p := ⟨b, o + i * 4 + 1, none⟩) (Nat.lt_of_lt_of_le hbl hs.1.size)).trans hs.2.2.1, (hb.cell (p := ⟨b, o + j * 4, none⟩) (Nat.lt_of_lt_of_le hbl hs.1.size)).trans hs.2.2.2.1, (hb.cell (p := ⟨b, o + j * 4 + 1, none⟩) (Nat.lt_of_lt_of_le hbl hs.1.size)).trans hs.2.2.2.2⟩
                by_cases he : ((x1, x2) : Lc) = (y1, y2)
                · have HQ : Hid (((x1, x2) : Lc) = (y1, y2)) := he
                  have hd : decide (((x1, x2) : Lc) = (y1, y2)) = true := by simpa using he
                  rw [hd] at HSA
                  clear he hd c0 c1 d0 d1 hA hy
                  go_wp2_with fail
                  go_region_held (fun w' : World => Below wr.heap.size wr w' ∧ w'.cell? ⟨b, o + i * 4, none⟩ = some (.int .i64 x1) ∧ w'.cell? ⟨b, o + i * 4 + 1, none⟩ = some (.int .i64 x2) ∧ w'.cell? ⟨b, o + j * 4, none⟩ = some (.int .i64 y1) ∧ w'.cell? ⟨b, o + j * 4 + 1, none⟩ = some (.int .i64 y2)) (first | exact S0 | exact S1) (first | (go_at_call 27; refine (HSA.out _ S0).mono ?_; rintro e w1 ⟨rfl, S1⟩))
                  go_wp2_with fail
                  go_ret
                  refine ⟨?_, HB.out.trans (S1.1.mono HB.out.size)⟩
                  have hnn : ¬ (l.map Prod.fst).Nodup := fun hd => by
                    have h1 := List.pairwise_iff_getElem.1 hd j i (by simpa using hjf) (by simpa using hif) hji
                    simp only [List.getElem_map, HLI.out, HLJ.out] at h1
                    exact h1 HQ.out.symm
                  rw [← HE.out]
                  simp [hnn]
                · have HQ : Hid (¬ ((x1, x2) : Lc) = (y1, y2)) := he
                  have hd : decide (((x1, x2) : Lc) = (y1, y2)) = false := by simpa using he
                  rw [hd] at HSA
                  clear he hd c0 c1 d0 d1 hA hy
                  go_wp2_with fail
                  go_region_held (fun w' : World => Below wr.heap.size wr w' ∧ w'.cell? ⟨b, o + i * 4, none⟩ = some (.int .i64 x1) ∧ w'.cell? ⟨b, o + i * 4 + 1, none⟩ = some (.int .i64 x2) ∧ w'.cell? ⟨b, o + j * 4, none⟩ = some (.int .i64 y1) ∧ w'.cell? ⟨b, o + j * 4 + 1, none⟩ = some (.int .i64 y2)) (first | exact S0 | exact S1) (first | (go_at_call 27; refine (HSA.out _ S0).mono ?_; rintro e w1 ⟨rfl, S1⟩))
                  go_wp2_with fail
                  go_roundw
                  case rel =>
                    refine ⟨j + 1, by omega, by go_num, fun j' h hj' => ?_, HB.out.trans (S1.1.mono HB.out.size)⟩
                    by_cases e : j' = j
                    · subst e; rw [HLJ.out]; exact fun e => HQ.out e.symm
                    · exact HJ.out j' h (by omega)
                  case measure => simp [intOf]; omega
              · obtain rfl : j = i := by omega
                go_wp2_with fail
                go_roundw
                case rel =>
                  refine ⟨j + 1, by omega, by go_num, ?_, HB.out⟩
                  show (tks l (j + 1)).Nodup
                  rw [tos_take hif, HLI.out, List.nodup_append]
                  refine ⟨HD.out, by simp, fun a ha c hc e => ?_⟩
                  simp only [List.mem_singleton] at hc
                  obtain ⟨q, hq, e2⟩ := List.getElem_of_mem ha
                  have hqj : q < j := by have := tks_len (l := l) (k := j) (by omega); omega
                  refine HJ.out q (by omega) hqj ?_
                  rw [← hc, ← e, ← e2]
                  simp [tks]
                case measure => simp [intOf]; omega
          · obtain rfl : i = k := by omega
            have hd := HD.out
            rw [HN.out, tks_all] at hd
            have HDD : Hid ((l.map Prod.fst).Nodup) := hd
            clear hd
            go_wp2_with fail
            go_ret
            exact ⟨by rw [← HE.out]; simp only [Bool.and_self, if_true]; rw [if_pos (show (l.map Prod.fst).Nodup from HDD.out)]; try rfl, HB.out⟩
end Go.Proofs.Ytdoiblknbpbhaaa
