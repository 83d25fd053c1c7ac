import Derived.Test.YtjepkcebfojiaaaDoorLyF
import Derived.Test.YtjepkcebfojiaaaDoorLyM
import Derived.Deep.RegionHeldLaw
set_option linter.unusedVariables false
set_option linter.unusedSimpArgs false
namespace Go.Proofs.YtjepkcebfojiaaaDoor
open Go.ChangeShapes Go.WideShapes Go.ChangeAt Go.RowKit

/-- The parts of the first i kids, commas between. -/
structure JnP (L : List Int) (i : Nat) (X : List Pt) : Prop where
  out : X = jn (L.take i)
theorem jn_snoc (L : List Int) (x : Int) (h : L ≠ []) : jn (L ++ [x]) = jn L ++ [tp [44, 32]] ++ [wp x] := by
  cases L with
  | nil => exact absurd rfl h
  | cons a r => simp [jn]
theorem JnP.zero (L : List Int) : JnP L 0 [] := ⟨by simp [jn]⟩
theorem JnP.one {L X} (h : JnP L 0 X) (hi : 0 < L.length) : JnP L 1 (X ++ [wp L[0]]) := ⟨by
  rw [h.out]
  cases L with
  | nil => simp at hi
  | cons a r => simp [jn]⟩
theorem JnP.next {L i X} (h : JnP L i X) (h0 : 0 < i) (hi : i < L.length) : JnP L (i + 1) (X ++ [tp [44, 32]] ++ [wp L[i]]) := ⟨by
  rw [h.out, ← List.take_append_getElem hi, jn_snoc _ _ (by intro e; have h : (L.take i).length = 0 := (by rw [e]; rfl); rw [List.length_take] at h; omega)]⟩
theorem jn_len (L : List Int) : (jn L).length ≤ 2 * L.length := by
  have : ∀ l : List Int, (l.flatMap fun x => [tp ([44, 32] : List UInt8), wp x]).length = 2 * l.length := by
    intro l
    induction l with
    | nil => rfl
    | cons a l ih => simp [ih]; omega
  cases L with
  | nil => simp [jn]
  | cons a r => simp only [jn, List.length_cons, this]; omega
theorem JnP.len {L i X} (h : JnP L i X) : X.length ≤ 2 * i := by
  rw [h.out]
  have := jn_len (L.take i)
  simp at this
  omega

set_option maxRecDepth 10000 in
set_option maxHeartbeats 4000000 in
theorem joined_any (w : World) (a : Option Addr) (n c : Nat) (L : List Int) (hn : n = L.length) (hL : Ints w a c L) (hl : n ≤ 1000000) :
    Calls Tryd.prog 52 #[.slice a n c] w fun e w' => (∃ (v : Value) (m : Nat), e = .returned v ∧ OwnP w' w.heap.size v m (jn L)) ∧ Below w.heap.size w w' := by
  have HN : Hid (n = L.length) := hn
  have hnc : n ≤ c := by have := hL.le; omega
  have hcx := hL.mx
  clear hn
  go_enter Tryd.func52, Tryd.ntmps52
  go_wp2_with fail
  go_loopw [3, 8] (fun p v wr => ∃ (i m : Nat) (X : List Pt), i ≤ n ∧ v = .int .i64 i ∧ OwnP wr w.heap.size p m X ∧ JnP L i X ∧ m ≤ 2 * i ∧ Below w.heap.size w wr) (fun _ v _ => n - (intOf v).toNat)
  case atStart => exact ⟨0, 0, [], by omega, rfl, OwnP.nil _ _, JnP.zero L, by omega, Below.refl _ _⟩
  case round =>
    obtain ⟨i, m, X, hi, rfl, HO, HJ, hm, hbr⟩ := hrel
    have hbs := hbr.size
    obtain ⟨pa, pc', rfl⟩ := own_slice HO.out
    by_cases hlt : i < n
    · obtain ⟨b, o, rfl, hA⟩ := (hL.below hbr (Nat.le_refl _)).out (by intro e; have := HN.out; rw [e] at this; simp at this; omega)
      obtain ⟨x, hx⟩ : ∃ x, x = L[i]'(HN.out ▸ hlt) := ⟨_, rfl⟩
      have cx : wr.cell? ⟨b, o + i, none⟩ = some (.int .i64 x) := by rw [hx]; exact hA.cell i _
      have hbl := hA.lt
      have HX : Hid (x = L[i]'(HN.out ▸ hlt)) := hx
      clear hx hA
      by_cases h0 : i = 0
      · subst h0
        rw [Nat.add_zero] at cx
        have HJ2 : JnP L 1 (X ++ [wp x]) := by rw [HX.out]; exact HJ.one (HN.out ▸ hlt)
        go_wp2_with (first
          | (go_at_call 18; refine (whole_any _ _).mono ?_; rintro e w' ⟨rfl, rfl⟩)
          | (at_builtin; refine wpList_append_parts rfl _ _ rfl w.heap.size _ m X [wp x] 1 (wr.heap.size + 1) ?_ (HO.keep ((Below.refl _ _).alloc (Nat.le_refl _) _)) ?_ ?_ ?_ ?_ ?_ ?_ ?_; (next => rfl); (next => rfl); (next => simp); (next => rfl); (next => rfl); (next => omega); (next => simp; omega); intro v2 w2 HO2 hb2; have hbb : Below w.heap.size w w2 := (by refine hbr.trans (Below.trans ?_ hb2); exact ((Below.refl _ _).alloc (by omega) _))))
        go_roundw
        case rel => exact ⟨1, m + 1, _, by omega, by go_num, HO2, HJ2, by omega, hbb⟩
        case measure => simp [intOf]; omega
      · have hi0 : (i : Int) > 0 := by omega
        have HJ2 : JnP L (i + 1) (X ++ [tp [44, 32]] ++ [wp x]) := by rw [HX.out]; exact HJ.next (by omega) (HN.out ▸ hlt)
        go_wp2_with (first
          | (go_at_call 44; refine (text_any _ _).mono ?_; rintro e w' ⟨rfl, rfl⟩)
          | (at_builtin; refine wpList_append_parts rfl _ _ rfl w.heap.size _ m X [tp [44, 32]] 1 (wr.heap.size + 1) ?_ (HO.keep ((Below.refl _ _).alloc (Nat.le_refl _) _)) ?_ ?_ ?_ ?_ ?_ ?_ ?_; (next => rfl); (next => rfl); (next => simp); (next => rfl); (next => rfl); (next => omega); (next => simp; omega); intro v2 w2 HO2 hb2; have hbb : Below w.heap.size w w2 := (by refine hbr.trans (Below.trans ?_ hb2); exact ((Below.refl _ _).alloc (by omega) _)); have hs2 := hbb.size; obtain ⟨pa2, pc2, rfl⟩ := own_slice HO2.out)
          | (go_at_call 18; refine (whole_any _ _).mono ?_; rintro e w' ⟨rfl, rfl⟩)
          | (at_builtin; refine wpList_append_parts rfl _ _ rfl w.heap.size _ (m + 1) (X ++ [tp [44, 32]]) [wp x] 1 (w2.heap.size + 1) ?_ (HO2.keep ((Below.refl _ _).alloc (Nat.le_refl _) _)) ?_ ?_ ?_ ?_ ?_ ?_ ?_; (next => rfl); (next => rfl); (next => simp); (next => rfl); (next => rfl); (next => omega); (next => simp; omega); intro v3 w3 HO3 hb3; have hb3b : Below w.heap.size w w3 := (by refine hbb.trans (Below.trans ?_ hb3); exact ((Below.refl _ _).alloc (by omega) _))))
        go_roundw
        case rel => exact ⟨i + 1, m + 1 + 1, _, by omega, by go_num, HO3, HJ2, by omega, hb3b⟩
        case measure => simp [intOf]; omega
    · obtain rfl : i = n := by omega
      have e : X = jn L := by rw [HJ.out, List.take_of_length_le (by have := HN.out; omega)]
      rw [e] at HO
      go_wp2_with fail
      go_ret
      exact ⟨⟨_, _, rfl, HO⟩, hbr⟩
end Go.Proofs.YtjepkcebfojiaaaDoor
namespace Go.Proofs.YtjepkcebfojiaaaDoor
open Go.ChangeShapes Go.WideShapes Go.ChangeAt Go.RowKit

theorem OwnP.base0 {w B v n L} (h : OwnP w B v n L) : OwnP w 0 v n L := ⟨h.len, h.out.1, h.out.2.imp id fun ⟨g, c, cur, e1, _, e3⟩ => ⟨g, c, cur, e1, Nat.zero_le _, e3⟩⟩
theorem run_append_two {w : World} (B : Nat) (v : Value) (n : Nat) (L : List Pt) (hown : OwnP w B v n L) (B2 : Nat) (v2 : Value) (m : Nat) (X : List Pt) (hown2 : OwnP w B2 v2 m X) (hl : n + m ≤ 100000000) (hB : B ≤ w.heap.size) (ty : TypeId) :
    ∃ v' w', (Builtin.append_ #[47, 47] ty #[v, v2]).run Tryd.prog w = .ok v' w' ∧ OwnP w' B v' (n + m) (L ++ X) ∧ Below B w w' := by
  obtain ⟨i0, hi, hz0, hz1, hz2⟩ := info_parts infoP
  obtain ⟨ao, cap, rfl, hc1, hc2, hV, halt⟩ := hown2.view
  rcases halt with ⟨rfl, rfl, rfl, rfl⟩ | ⟨g, rfl, hBg, hgl⟩
  · refine ⟨v, w, run_append_owned_none (P := Tryd.prog) (w := w) B 47 ty 52 i0 3 Tryd.underlying47 hi v n (pcs L) hown.out, by simpa using hown, Below.refl _ _⟩
  · have hcells := hown2.out.cells (g := g) rfl
    obtain ⟨v', w', hr, h2, h3, _⟩ := run_append_own (P := Tryd.prog) w B 47 ty 52 i0 _ 3 32 Tryd.underlying47 hi hz0 hz1 hz2 rfl (by decide) v n (pcs L) hown.out ⟨g, 0, none⟩ m cap (pcs X) (by rw [pcs_len, hown2.len]) hcells (pcs_one X) (by unfold maxLen; omega) (by omega) hB
    exact ⟨v', w', hr, ⟨by simp; have := hown.len; have := hown2.len; omega, by rw [pcs_app]; exact h2⟩, (Below.refl _ _).grown h3 hB (fun k hk => (own_block hown.out hk).1)⟩
/-- append(l, x...) of parts. -/
theorem wpList_append_two {w : World} {ops : Array Oper} {rest : List Oper} {op : Oper} {a : Act} {Q : Exit → Act → World → Prop} (hgd : op.guard = none) (s x : Operand)
    (ho : op.op = .call { callee := .builtin .append, args := #[s, x], argTypes := #[47, 47] })
    (B : Nat) (v : Value) (n : Nat) (L : List Pt) (hs : a.eval s = v) (hown : OwnP w B v n L) (B2 : Nat) (v2 : Value) (m : Nat) (X : List Pt) (hx : a.eval x = v2) (hown2 : OwnP w B2 v2 m X) (hl : n + m ≤ 100000000) (hB : B ≤ w.heap.size)
    (h : ∀ v' w', OwnP w' B v' (n + m) (L ++ X) → Below B w w' → wpList Tryd.prog ops Q rest (a.put op.dst v') w') : wpList Tryd.prog ops Q (op :: rest) a w := by
  refine wpList_plain hgd fun _ hK => ?_
  obtain ⟨v', w', hr, h1, h2⟩ := run_append_two B v n L hown B2 v2 m X hown2 hl hB op.type
  unfold Oper.wp execOp
  simp only [ho, resolve, invoke, builtin, Sem.run_bind, Sem.run_pure, Result.andThen_ok, List.map_toArray, List.map_cons, List.map_nil, hs, hx, hr]
  exact hK _ _ (h v' w' h1 h2)
theorem step_append_two {w : World} {ops : Array Oper} {op : Oper} {a : Act} {K : Act → World → Prop} {Q : Exit → Act → World → Prop} {E : Prop} (hgd : op.guard = none) (s x : Operand)
    (ho : op.op = .call { callee := .builtin .append, args := #[s, x], argTypes := #[47, 47] })
    (B : Nat) (v : Value) (n : Nat) (L : List Pt) (hs : a.eval s = v) (hown : OwnP w B v n L) (B2 : Nat) (v2 : Value) (m : Nat) (X : List Pt) (hx : a.eval x = v2) (hown2 : OwnP w B2 v2 m X) (hl : n + m ≤ 100000000) (hB : B ≤ w.heap.size)
    (h : ∀ v' w', OwnP w' B v' (n + m) (L ++ X) → Below B w w' → K (a.put op.dst v') w') : if Region.wanted op (yielded ops a.tmps) = true then Oper.wp Tryd.prog op a w K Q else E := by
  have hw : Region.wanted op (yielded ops a.tmps) = true := by simp [Region.wanted, hgd]
  rw [if_pos hw]
  obtain ⟨v', w', hr, h1, h2⟩ := run_append_two B v n L hown B2 v2 m X hown2 hl hB op.type
  unfold Oper.wp execOp
  simp only [ho, resolve, invoke, builtin, Sem.run_bind, Sem.run_pure, Result.andThen_ok, List.map_toArray, List.map_cons, List.map_nil, hs, hx, hr]
  exact h v' w' h1 h2

set_option maxRecDepth 10000 in
set_option maxHeartbeats 4000000 in
theorem putExpr_call (w : World) (B F pb : Nat) (nv : Value) (S : Ps) (hS : PSt w B F pb nv S) (hF : F ≤ w.heap.size)
    (N : List Nd) (n : Nd) (s : ByteArray) (hs : s = bs n.name) (ka : Option Addr) (kl kc : Nat) (hkl : kl = n.kids.length) (hK : Ints w ka kc n.kids) (hnl : n.name.length ≤ 1000) (hk1 : kl ≤ 1000000) (hk : n.kind = 25) (hmn : S.todo.length + 2 * kl + 2 ≤ 100000000) :
    Calls Tryd.prog 51 #[.pointer (some ⟨pb, 0, none⟩), .agg #[.int .i64 n.kind, .int .i64 n.at_, .int .i64 n.wh, .int .i64 n.close, .int .i64 n.decl, .int .i64 n.typ, .int .i64 n.op, .int .i64 n.val, .string s, .slice ka kl kc]] w fun e w' => e = .returned (.tuple #[]) ∧ PSt w' B w'.heap.size pb nv ⟨S.text, exParts N n ++ S.todo, S.opn⟩ ∧ Below B w w' := by
  have hB := hS.le
  obtain ⟨L, hL⟩ : ∃ L, L = exParts N n := ⟨_, rfl⟩
  rw [← hL]
  obtain ⟨k, at_, wh, close, decl, typ, op, val, name, kids⟩ := n
  simp only at hs hk hL hkl hK hnl ⊢
  subst hk
  simp [exParts] at hL
  have HL : Hid (L = tp (name ++ [40]) :: (jn kids ++ [tp [41]])) := by show _ = _; rw [hL]
  have hsz : s.size ≤ 1000 := by rw [hs, bs_size]; exact hnl
  obtain ⟨uu, huu⟩ : ∃ uu, s ++ (⟨#[40]⟩ : ByteArray) = uu := ⟨_, rfl⟩
  have HU : Hid (uu = bs (name ++ [40])) := by
    show _ = _
    rw [← huu, hs, ← bs_appF]; rfl
  have HKL : Hid (kl = kids.length) := hkl
  clear hL hs hkl hnl
  have B8 : (w.alloc (.cells #[.int .i64 25, .int .i64 at_, .int .i64 wh, .int .i64 close, .int .i64 decl, .int .i64 typ, .int .i64 op, .int .i64 val, .string s, .slice ka kl kc] 39)).cell? ⟨w.heap.size, 8, none⟩ = some (.string s) := by simp
  have B9 : (w.alloc (.cells #[.int .i64 25, .int .i64 at_, .int .i64 wh, .int .i64 close, .int .i64 decl, .int .i64 typ, .int .i64 op, .int .i64 val, .string s, .slice ka kl kc] 39)).cell? ⟨w.heap.size, 9, none⟩ = some (.slice ka kl kc) := by simp
  go_enter Tryd.func51, Tryd.ntmps51
  go_wp2_with fail
  go_region_held_law (fun w' => w'.cell? ⟨w.heap.size, 8, none⟩ = some (.string s) ∧ w'.cell? ⟨w.heap.size, 9, none⟩ = some (.slice ka kl kc))
    (refine ⟨?_, ?_⟩ <;> (repeat (first | with_reducible exact B8 | with_reducible exact B9 | with_reducible refine cell_below hb3 (by omega) ?_ | with_reducible refine cell_below hb2 (by first | omega | (simp; done) | (simp; omega)) ?_ | with_reducible refine cellD ?_ | with_reducible refine cellA ?_)))
    (first
      | (go_at_call 44; refine (text_any _ _).mono ?_; rintro e w' ⟨rfl, rfl⟩)
      | (go_at_call 52; refine (joined_any _ ka kl kc kids HKL.out (hK.below (by repeat (first | refine Below.alloc ?_ (by first | omega | (simp; done) | (simp; omega)) _ | refine Below.drew ?_ | exact Below.refl _ _)) (Nat.le_refl _)) hk1).mono ?_; rintro e w2 ⟨⟨v2, m2, rfl, HJ⟩, hb2⟩; have hbF2 : Below F w w2 := (by refine Below.trans ?_ (hb2.mono (by first | omega | (simp; done) | (simp; omega))); exact (by repeat (first | refine Below.alloc ?_ (by first | omega | (simp; done) | (simp; omega)) _ | refine Below.drew ?_ | exact Below.refl _ _))); have hs2 := hb2.size; (try simp at hs2); have hm2 : m2 ≤ 2 * kl := (by rw [HJ.len, HKL.out]; exact jn_len _); obtain ⟨ja, jc, rfl⟩ := own_slice HJ.out; have HJ0 := HJ.base0)
      | (refine step_append_two rfl _ _ rfl (w.heap.size + 1) (.slice (some ⟨w2.heap.size, 0, none⟩) 1 1) 1 [tp (name ++ [40])] (by simp [Act.eval]) (ownp_new w2 #[.int .i64 0, .string uu, .int .i64 0] [tp (name ++ [40])] 1 w2.heap.size (w.heap.size + 1) rfl (by rw [HU.out]; rfl) rfl (by omega) (by omega)) 0 (.slice ja m2 jc) m2 (jn kids) (by simp [Act.eval]) (HJ0.keep (by repeat (first | refine Below.alloc ?_ (by first | omega | (simp; done) | (simp; omega)) _ | refine Below.drew ?_ | exact Below.refl _ _))) (by omega) (by first | omega | (simp; done) | (simp; omega)) ?_; intro v3 w3 HO3 hb3; have hbF3 : Below F w w3 := (by refine hbF2.trans (Below.trans ?_ (hb3.mono (by omega))); exact (by repeat (first | refine Below.alloc ?_ (by first | omega | (simp; done) | (simp; omega)) _ | refine Below.drew ?_ | exact Below.refl _ _))); have hs3 := hb3.size; (try simp at hs3); obtain ⟨a3, c3, rfl⟩ := own_slice HO3.out)
      | (refine step_append_two rfl _ _ rfl (w.heap.size + 1) (.slice (some ⟨w.heap.size + 1 + 1, 0, none⟩) 1 1) 1 [tp (name ++ [40])] (by simp [Act.eval]) (((ownp_new ((w.alloc (.cells #[.int .i64 25, .int .i64 at_, .int .i64 wh, .int .i64 close, .int .i64 decl, .int .i64 typ, .int .i64 op, .int .i64 val, .string s, .slice ka kl kc] 39)).alloc (.cells #[.int .i64 0, .string uu, .int .i64 0] 52)) #[.int .i64 0, .string uu, .int .i64 0] [tp (name ++ [40])] 1 (w.heap.size + 1 + 1) (w.heap.size + 1) (by simp) (by rw [HU.out]; rfl) rfl (by omega) (by omega)).keep (Below.refl _ _).drew).keep hb2) 0 (.slice ja m2 jc) m2 (jn kids) (by simp [Act.eval]) HJ0 (by omega) (by first | omega | (simp; done) | (simp; omega)) ?_; intro v3 w3 HO3 hb3; have hbF3 : Below F w w3 := (by refine hbF2.trans (hb3.mono (by omega))); have hs3 := hb3.size; (try simp at hs3); obtain ⟨a3, c3, rfl⟩ := own_slice HO3.out))
  all_goals
    go_wp2_with (first
      | (go_at_call 44; refine (text_any _ _).mono ?_; rintro e w' ⟨rfl, rfl⟩)
      | (at_builtin; refine wpList_append_parts rfl _ _ rfl (w.heap.size + 1) _ (1 + m2) ([tp (name ++ [40])] ++ jn kids) [tp [41]] 1 (w3.heap.size + 1) ?_ (HO3.keep ((Below.refl _ _).alloc (Nat.le_refl _) _)) ?_ ?_ ?_ ?_ ?_ ?_ ?_; (next => rfl); (next => rfl); (next => simp); (next => rfl); (next => rfl); (next => omega); (next => simp; omega); intro v4 w4 HO4 hb4; obtain ⟨a4, c4, rfl, _, _, hV4, ha4⟩ := HO4.view; have hs4 := hb4.size; (try simp at hs4); have hbF4 : Below F w w4 := (by refine hbF3.trans (Below.trans ?_ (hb4.mono (by omega))); exact (by repeat (first | refine Below.alloc ?_ (by first | omega | (simp; done) | (simp; omega)) _ | refine Below.drew ?_ | exact Below.refl _ _))))
      | (go_at_call 17; refine (put_st _ B F pb nv S _ (1 + m2 + 1) _ _ (hS.below hbF4 (Nat.le_refl _)) (by omega) hV4 HO4.len (by omega) (fun g hg => by rcases ha4 with h | ⟨g', h, h3, _⟩; (· rw [h.1] at hg; cases hg); (· rw [h] at hg; cases hg; omega))).mono ?_; rintro e w5 ⟨rfl, HS, hb5, _⟩; have hbb : Below B w w5 := (hbF4.mono hB).trans hb5; clear hb5))
    first
      | exact bodyPost_end (v := .tuple #[]) (by simp [results, Tryd.results51, go_sem]) rfl ⟨rfl, by rw [HL.out]; exact HS, hbb⟩
      | exact bodyPost_ret (v := .tuple #[]) (by simp [results, Tryd.results51, go_sem]) rfl ⟨rfl, by rw [HL.out]; exact HS, hbb⟩
end Go.Proofs.YtjepkcebfojiaaaDoor
