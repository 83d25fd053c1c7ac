import Derived.Test.YtmddjfofedpggaaDoorLxBk
set_option linter.unusedVariables false
namespace Go.Proofs.YtmddjfofedpggaaDoor
open Go.ChangeShapes Go.WideShapes Go.ChangeAt Go.RowKit

theorem results_tok2 {fn : Func} {p q : Tmp} (h : fn.results = #[.cell p 33, .tmp q]) (tmps : Array Value) (w : World) (g : Nat) (t : TypeId) (cs : Array Value) (fr : Nat × Nat) (v1 : Value)
    (hp : tmps.getD p undef = .pointer (some ⟨g, 0, none⟩)) (hq : tmps.getD q undef = v1) (hg : w.heap[g]? = some (.cells cs t fr)) (hi : cs.size = 4) :
    (results fn tmps).run Tryd.prog w = .ok (.tuple #[.agg cs, v1]) w := by
  have hp' : tmps[p]?.getD undef = .pointer (some ⟨g, 0, none⟩) := by simpa using hp
  have hq' : tmps[q]?.getD undef = v1 := by simpa using hq
  simp [results, h, hp', hq', asAddr, run_loadVar_row w g t 33 cs fr _ hg Tryd.underlying33 rfl (by rw [hi]; exact info33)]

theorem spelledW (w : World) (k : Nat) (hk : k < 18) (z : Int) (hz : z = 10 + (k : Int)) (s : ByteArray) (hs : s = bs (WORDS.getD k [])) : Calls Tryd.prog 25 #[.int .i64 z] w fun e w' => e = .returned (.string s) ∧ Below w.heap.size w w' := by
  subst hz hs; exact spelled_word w k hk
theorem spelledS (w : World) (k : Nat) (hk : k < 29) (z : Int) (hz : z = 40 + (k : Int)) (s : ByteArray) (hs : s = bs (SIGNS.getD k [])) : Calls Tryd.prog 25 #[.int .i64 z] w fun e w' => e = .returned (.string s) ∧ Below w.heap.size w w' := by
  subst hz hs; exact spelled_sign w k hk
theorem decimalAt (w : World) (n : Nat) (hn : n ≤ 9223372036854775807) (z : Int) (hz : z = n) (s : ByteArray) (hs : s = bs (dec n)) : Calls Tryd.prog 26 #[.int .i64 z] w fun e w' => e = .returned (.string s) ∧ Below w.heap.size w w' := by
  subst hz hs; exact decimal_any w n hn

/-- What token answers. -/
structure Tells (e : Ending) : Prop where
  out : ∃ (t : Tk) (S : List UInt8) (s u : ByteArray), e = .returned (.tuple #[.agg #[.int .i64 t.kind, .int .i64 0, .int .i64 t.val, .string u], .string s]) ∧ s = bs S ∧ u = bs t.name ∧ Spell S t ∧ S.length ≤ 32

theorem name_new {P S : List UInt8} (v : Nat) (hS : S = P ++ dec v) : nameTk S = ⟨1, 0, S⟩ := by
  refine nameTk_miss (fun i hi e => ?_)
  obtain ⟨_, _, h3, _, _⟩ := word_facts i hi
  cases hd : dec v with
  | nil => exact absurd hd (dec_ne v)
  | cons c l =>
    have h7 := dec_dg v c (by rw [hd]; simp)
    exact h3 c (by rw [e, hS, hd]; simp) h7
theorem spell_v {P : List UInt8} {c : UInt8} {l : List UInt8} (hP : P = c :: l) (h6 : cl c = 6) (hall : ∀ x ∈ P, isNm x = true) (hl : P.length ≤ 8) (v : Nat) (hv : v ≤ 9223372036854775807) : Spell (P ++ dec v) ⟨1, 0, P ++ dec v⟩ ∧ (P ++ dec v).length ≤ 32 := by
  have h19 := dec_len v 19 (by omega) (by omega)
  have := spell_name (S := P ++ dec v) (c := c) (l := l ++ dec v) (by rw [hP]; rfl) h6 (fun x hx => by
    rcases List.mem_append.1 hx with h | h
    · exact hall x h
    · simp [isNm, dec_dg v x h]) (by simp; omega)
  rw [name_new v rfl] at this
  exact ⟨this, by simp; omega⟩
theorem bs_append (A B : List UInt8) : bs A ++ bs B = bs (A ++ B) := by
  unfold bs
  apply ByteArray.ext
  simp [ByteArray.data_append]

set_option maxRecDepth 10000 in
set_option maxHeartbeats 4000000 in
theorem tokenB_any (w : World) (K N G : Int) (hN : -9223372036854775808 ≤ N ∧ N ≤ 9223372036854775807) :
    Calls Tryd.prog 15 #[.agg #[.int .i64 K, .int .i64 N, .int .i64 G]] w fun e w' => Tells e ∧ Below w.heap.size w w' := by
  obtain ⟨i, hi, hz⟩ := and_small K 63 (by omega)
  have hz' : bits BinOp.and IntKind.i64 K 63 = (i : Int) := hz
  clear hz
  obtain ⟨hN1, hN2⟩ := hN
  obtain ⟨v, hv, hvv⟩ : ∃ v : Nat, v ≤ 9223372036854775807 ∧ ((0 ≤ N ∧ N = v) ∨ (N < 0 ∧ -(N + 1) = v)) := by
    by_cases h : 0 ≤ N
    · exact ⟨N.toNat, by omega, .inl ⟨h, by omega⟩⟩
    · exact ⟨(-(N + 1)).toNat, by omega, .inr ⟨by omega, by omega⟩⟩
  have hcase : (10 ≤ i ∧ i < 28) ∨ (40 ≤ i ∧ i < 64) ∨ (28 ≤ i ∧ i < 33) ∨ ((i < 10 ∨ (33 ≤ i ∧ i < 40)) ∧ i % 2 = 0) ∨ ((i < 10 ∨ (33 ≤ i ∧ i < 40)) ∧ i % 2 = 1) := by omega
  rcases hcase with ⟨h1, h2⟩ | ⟨h1, h2⟩ | ⟨h1, h2⟩ | ⟨h1, h2⟩ | ⟨h1, h2⟩
  · obtain ⟨s, hs⟩ : ∃ s, s = bs (WORDS.getD (i - 10) []) := ⟨_, rfl⟩
    have HS : Hid (s = bs (WORDS.getD (i - 10) [])) := hs
    clear hs
    rcases hvv with ⟨h3, h4⟩ | ⟨h3, h4⟩
    all_goals
      clear h4
      go_enter Tryd.func15, Tryd.ntmps15
      go_wp2_with (first
        | (go_at_call 25; refine (spelledW _ (i - 10) (by omega) _ (by omega) s HS.out).mono ?_; rintro e u ⟨rfl, hb⟩; have hg := (hb.block (w.heap.size + 1) (by simp)).trans (heap_two _ _ _))
        | (refine wpList_store_tok rfl _ _ rfl (w.heap.size + 1) i 0 0 ⟨#[]⟩ rfl rfl _ hg rfl ?_))
      refine bodyPost_ret (v := .tuple #[.agg #[.int .i64 i, .int .i64 0, .int .i64 0, .string ⟨#[]⟩], .string s]) ?_ rfl ?_
      · exact results_tok2 Tryd.results15 _ _ (w.heap.size + 1) 33 _ (0, 0) _ rfl rfl (setRow_heap _ _ _ _ _ _ hg) rfl
      refine ⟨⟨⟨10 + ((i - 10 : Nat) : Int), 0, []⟩, _, s, ⟨#[]⟩, ?_, HS.out, rfl, spell_word (by omega), ?_⟩, ?_⟩
      · show Ending.returned _ = Ending.returned (.tuple #[.agg #[.int .i64 (10 + ((i - 10 : Nat) : Int)), .int .i64 0, .int .i64 0, .string ⟨#[]⟩], .string s])
        rw [show (10 : Int) + ((i - 10 : Nat) : Int) = i by omega]
      · have := (word_facts (i - 10) (by omega)).1; revert this; have : ∀ j, j < 18 → (WORDS.getD j []).length ≤ 32 := by decide
        intro _; exact this _ (by omega)
      · exact below_setRow ((((Below.refl _ _).alloc (Nat.le_refl _) _).alloc (by simp) _).trans (hb.mono (by simp; omega))) (by omega) _
  · obtain ⟨s, hs⟩ : ∃ s, s = bs (SIGNS.getD (i - 40) []) := ⟨_, rfl⟩
    have HS : Hid (s = bs (SIGNS.getD (i - 40) [])) := hs
    clear hs
    rcases hvv with ⟨h3, h4⟩ | ⟨h3, h4⟩
    all_goals
      clear h4
      go_enter Tryd.func15, Tryd.ntmps15
      go_wp2_with (first
        | (go_at_call 25; refine (spelledS _ (i - 40) (by omega) _ (by omega) s HS.out).mono ?_; rintro e u ⟨rfl, hb⟩; have hg := (hb.block (w.heap.size + 1) (by simp)).trans (heap_two _ _ _))
        | (refine wpList_store_tok rfl _ _ rfl (w.heap.size + 1) i 0 0 ⟨#[]⟩ rfl rfl _ hg rfl ?_))
      refine bodyPost_ret (v := .tuple #[.agg #[.int .i64 i, .int .i64 0, .int .i64 0, .string ⟨#[]⟩], .string s]) ?_ rfl ?_
      · exact results_tok2 Tryd.results15 _ _ (w.heap.size + 1) 33 _ (0, 0) _ rfl rfl (setRow_heap _ _ _ _ _ _ hg) rfl
      refine ⟨⟨⟨40 + (((i - 40) : Nat) : Int), 0, []⟩, _, s, ⟨#[]⟩, ?_, HS.out, rfl, spell_sign (by omega), ?_⟩, ?_⟩
      · show Ending.returned _ = Ending.returned (.tuple #[.agg #[.int .i64 (40 + (((i - 40) : Nat) : Int)), .int .i64 0, .int .i64 0, .string ⟨#[]⟩], .string s])
        rw [show (40 : Int) + (((i - 40) : Nat) : Int) = i by omega]
      · have := (signs_len (i - 40) (by omega)).1; omega
      · exact below_setRow ((((Below.refl _ _).alloc (Nat.le_refl _) _).alloc (by simp) _).trans (hb.mono (by simp; omega))) (by omega) _
  · obtain ⟨s, hs⟩ : ∃ s, s = bs (SIGNS.getD (i - 4) []) := ⟨_, rfl⟩
    have HS : Hid (s = bs (SIGNS.getD (i - 4) [])) := hs
    clear hs
    rcases hvv with ⟨h3, h4⟩ | ⟨h3, h4⟩
    all_goals
      clear h4
      go_enter Tryd.func15, Tryd.ntmps15
      go_wp2_with (first
        | (go_at_call 25; refine (spelledS _ (i - 4) (by omega) _ (by omega) s HS.out).mono ?_; rintro e u ⟨rfl, hb⟩; have hg := (hb.block (w.heap.size + 1) (by simp)).trans (heap_two _ _ _))
        | (refine wpList_store_tok rfl _ _ rfl (w.heap.size + 1) ((i : Int) + 36) 0 0 ⟨#[]⟩ rfl rfl _ hg rfl ?_))
      refine bodyPost_ret (v := .tuple #[.agg #[.int .i64 ((i : Int) + 36), .int .i64 0, .int .i64 0, .string ⟨#[]⟩], .string s]) ?_ rfl ?_
      · exact results_tok2 Tryd.results15 _ _ (w.heap.size + 1) 33 _ (0, 0) _ rfl rfl (setRow_heap _ _ _ _ _ _ hg) rfl
      refine ⟨⟨⟨40 + (((i - 4) : Nat) : Int), 0, []⟩, _, s, ⟨#[]⟩, ?_, HS.out, rfl, spell_sign (by omega), ?_⟩, ?_⟩
      · show Ending.returned _ = Ending.returned (.tuple #[.agg #[.int .i64 (40 + (((i - 4) : Nat) : Int)), .int .i64 0, .int .i64 0, .string ⟨#[]⟩], .string s])
        rw [show (40 : Int) + (((i - 4) : Nat) : Int) = ((i : Int) + 36) by omega]
      · have := (signs_len (i - 4) (by omega)).1; omega
      · exact below_setRow ((((Below.refl _ _).alloc (Nat.le_refl _) _).alloc (by simp) _).trans (hb.mono (by simp; omega))) (by omega) _
  · obtain ⟨s, hs⟩ : ∃ s, s = bs (dec v) := ⟨_, rfl⟩
    have HS : Hid (s = bs (dec v)) := hs
    clear hs
    have hI2 : ((i : Int) % 2 == 0) = true := by simp; omega
    rcases hvv with ⟨h3, h4⟩ | ⟨h3, h4⟩
    all_goals
      rcases h1 with h1 | ⟨h1, h1'⟩
    all_goals
      go_enter Tryd.func15, Tryd.ntmps15
      go_wp2_with (first
        | (go_at_call 26; refine (decimalAt _ v hv _ (by omega) s HS.out).mono ?_; rintro e u ⟨rfl, hb⟩; have hg := (hb.block (w.heap.size + 1) (by simp)).trans (heap_two _ _ _))
        | (refine wpList_store_tok rfl _ _ rfl (w.heap.size + 1) 2 0 v ⟨#[]⟩ rfl rfl _ hg rfl ?_))
      refine bodyPost_ret (v := .tuple #[.agg #[.int .i64 2, .int .i64 0, .int .i64 v, .string ⟨#[]⟩], .string s]) ?_ rfl ?_
      · exact results_tok2 Tryd.results15 _ _ (w.heap.size + 1) 33 _ (0, 0) _ rfl rfl (setRow_heap _ _ _ _ _ _ hg) rfl
      refine ⟨⟨⟨2, v, []⟩, _, s, ⟨#[]⟩, ?_, HS.out, rfl, spell_num hv, ?_⟩, ?_⟩
      · rfl
      · have := dec_len v 19 (by omega) (by omega); omega
      · exact below_setRow ((((Below.refl _ _).alloc (Nat.le_refl _) _).alloc (by simp) _).trans (hb.mono (by simp; omega))) (by omega) _
  · obtain ⟨d, hd⟩ : ∃ d, d = bs (dec v) := ⟨_, rfl⟩
    have hdz : d.size ≤ 19 := by rw [hd, bs_size]; exact dec_len v 19 (by omega) (by omega)
    have HD : Hid (d = bs (dec v)) := hd
    clear hd
    have hI2 : ((i : Int) % 2 == 0) = false := by simp; omega
    by_cases h33 : v % 3 = 0
    · have hI3 : ((v : Int) % 3 == 0) = true := by simp; omega
      have hsp := spell_v (P := [95, 65, 118]) rfl (by decide) (by decide) (by decide) v hv
      have HX : Hid ((⟨#[95, 65]⟩ : ByteArray) ++ ((⟨#[118]⟩ : ByteArray) ++ d) = bs ([95, 65, 118] ++ dec v)) := by
        rw [HD.out]; show bs [95, 65] ++ (bs [118] ++ bs (dec v)) = _; rw [bs_append, bs_append]; exact rfl
      rcases hvv with ⟨h3, h4⟩ | ⟨h3, h4⟩
      all_goals
        rcases h1 with h1 | ⟨h1, h1'⟩
      all_goals
        go_enter Tryd.func15, Tryd.ntmps15
        go_wp2_with (first
          | (go_at_call 26; refine (decimalAt _ v hv _ (by omega) d HD.out).mono ?_; rintro e u ⟨rfl, hb⟩; have hg := (hb.block (w.heap.size + 1) (by simp)).trans (heap_two _ _ _))
          | (refine wpList_store_tok rfl _ _ rfl (w.heap.size + 1) 1 0 0 _ rfl rfl _ hg rfl ?_))
        refine bodyPost_ret (v := .tuple #[.agg #[.int .i64 1, .int .i64 0, .int .i64 0, .string ((⟨#[95, 65]⟩ : ByteArray) ++ ((⟨#[118]⟩ : ByteArray) ++ d))], .string ((⟨#[95, 65]⟩ : ByteArray) ++ ((⟨#[118]⟩ : ByteArray) ++ d))]) ?_ rfl ?_
        · exact results_tok2 Tryd.results15 _ _ (w.heap.size + 1) 33 _ (0, 0) _ rfl rfl (setRow_heap _ _ _ _ _ _ hg) rfl
        refine ⟨⟨⟨1, 0, [95, 65, 118] ++ dec v⟩, _, _, _, rfl, HX.out, HX.out, hsp.1, hsp.2⟩, ?_⟩
        exact below_setRow ((((Below.refl _ _).alloc (Nat.le_refl _) _).alloc (by simp) _).trans (hb.mono (by simp; omega))) (by omega) _
    · have hI3 : ((v : Int) % 3 == 0) = false := by simp; omega
      have hsp := spell_v (P := [118]) rfl (by decide) (by decide) (by decide) v hv
      have HX : Hid ((⟨#[118]⟩ : ByteArray) ++ d = bs ([118] ++ dec v)) := by
        rw [HD.out]; exact bs_append _ _
      rcases hvv with ⟨h3, h4⟩ | ⟨h3, h4⟩
      all_goals
        rcases h1 with h1 | ⟨h1, h1'⟩
      all_goals
        go_enter Tryd.func15, Tryd.ntmps15
        go_wp2_with (first
          | (go_at_call 26; refine (decimalAt _ v hv _ (by omega) d HD.out).mono ?_; rintro e u ⟨rfl, hb⟩; have hg := (hb.block (w.heap.size + 1) (by simp)).trans (heap_two _ _ _))
          | (refine wpList_store_tok rfl _ _ rfl (w.heap.size + 1) 1 0 0 _ rfl rfl _ hg rfl ?_))
        refine bodyPost_ret (v := .tuple #[.agg #[.int .i64 1, .int .i64 0, .int .i64 0, .string ((⟨#[118]⟩ : ByteArray) ++ d)], .string ((⟨#[118]⟩ : ByteArray) ++ d)]) ?_ rfl ?_
        · exact results_tok2 Tryd.results15 _ _ (w.heap.size + 1) 33 _ (0, 0) _ rfl rfl (setRow_heap _ _ _ _ _ _ hg) rfl
        refine ⟨⟨⟨1, 0, [118] ++ dec v⟩, _, _, _, rfl, HX.out, HX.out, hsp.1, hsp.2⟩, ?_⟩
        exact below_setRow ((((Below.refl _ _).alloc (Nat.le_refl _) _).alloc (by simp) _).trans (hb.mono (by simp; omega))) (by omega) _
end Go.Proofs.YtmddjfofedpggaaDoor
