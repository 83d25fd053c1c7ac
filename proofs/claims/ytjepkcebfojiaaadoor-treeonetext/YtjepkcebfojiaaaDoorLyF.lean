import Derived.Test.YtjepkcebfojiaaaDoorTrM
import Derived.Laws.AppendOwnNone
import Derived.Deep.RegionHeldLaw
import Derived.Test.YtjepkcebfojiaaaDoorTrA
import Derived.Test.YtjepkcebfojiaaaDoorLyH
set_option linter.unusedVariables false
set_option linter.unusedSimpArgs false
namespace Go.Proofs.YtjepkcebfojiaaaDoor
open Go.ChangeShapes Go.WideShapes Go.ChangeAt Go.RowKit

theorem wpList_append_parts {w0 : World} {ops : Array Oper} {rest : List Oper} {op : Oper} {a : Act} {Q : Exit → Act → World → Prop} {C : Array Value} (hgd : op.guard = none) (s x : Operand)
    (ho : op.op = .call { callee := .builtin .append, args := #[s, x], argTypes := #[47, 47] })
    (B : Nat) (v : Value) (n : Nat) (L X : List Pt) (m g : Nat) (hs : a.eval s = v) (hown : OwnP w0 B v n L) (hx : a.eval x = .slice (some ⟨g, 0, none⟩) m m) (hg : g = w0.heap.size) (hC : C.toList = pcs X) (hm : m = X.length)
    (hl : n + m ≤ 100000000) (hB : B ≤ w0.heap.size)
    (h : ∀ v' w', OwnP w' B v' (n + m) (L ++ X) → Below B w0 w' → wpList Tryd.prog ops Q rest (a.put op.dst v') w') : wpList Tryd.prog ops Q (op :: rest) a (w0.alloc (.cells C 52)) := by
  subst hg
  obtain ⟨i0, hi, hz0, hz1, hz2⟩ := info_parts infoP
  refine wpList_append_own _ hgd s x 47 ho B 52 i0 _ 3 32 Tryd.underlying47 hi hz0 hz1 hz2 rfl (by decide) v n (pcs L) hs (hown.out.alloc _) ⟨w0.heap.size, 0, none⟩ m m (pcs X) hx (by rw [pcs_len, hm]) (fun j u hj => ?_) (pcs_one X) (by unfold maxLen; omega) (by omega) (by simp; omega) ?_
  · have e : (⟨w0.heap.size, 0, none⟩ : Addr).add j = ⟨w0.heap.size, j, none⟩ := by unfold Addr.add; split <;> simp_all
    rw [e, ← hC] at *
    simpa using hj
  · intro v' w' h1 h2 _
    refine h v' w' ⟨by simp [hm]; exact hown.len, by rw [pcs_app]; exact h1⟩ ?_
    exact (((Below.refl _ _).alloc hB _).grown h2 (by simp; omega) (fun k hk => (own_block hown.out hk).1))

theorem ownp_new (w : World) (C : Array Value) (L : List Pt) (n g B : Nat) (hg : g = w.heap.size) (hC : C.toList = pcs L) (hn : n = L.length) (hB : B ≤ g) (hl : n ≤ 100000000) : OwnP (w.alloc (.cells C 52)) B (.slice (some ⟨g, 0, none⟩) n n) n L := by
  subst hg
  have hsz : C.size = n * 3 := by rw [← Array.length_toList, hC, pcs_len, hn]
  refine ⟨hn, by rw [pcs_len, hn], .inr ⟨w.heap.size, n, C, rfl, hB, heap_alloc_last _ _, Nat.le_refl _, by unfold maxLen; omega, hsz, ?_⟩⟩
  rw [List.take_of_length_le (by rw [Array.length_toList]; omega), hC]

/-- The number of open blocks set. -/
theorem PSt.opn {w B F pb nv S} (h : PSt w B F pb nv S) (hF : F ≤ w.heap.size) (k : Nat) : PSt (w.setCell ⟨pb, 3, none⟩ (.int .i64 (k : Int))) B F pb nv ⟨S.text, S.todo, k⟩ ∧ Below B w (w.setCell ⟨pb, 3, none⟩ (.int .i64 (k : Int))) := by
  obtain ⟨tv, dv, n, m, h⟩ := h.out
  refine ⟨⟨tv, dv, n, m, ⟨heap_set_at h.prv.blk⟩, ⟨h.txt.len, own_move h.txt.out fun g hg => heap_set_other (fun e => h.prv.apartB h.txt (by rw [← e]; exact hg))⟩, ⟨h.tod.len, own_move h.tod.out fun g hg => heap_set_other (fun e => h.prv.apart h.tod (by rw [← e]; exact hg))⟩, h.tlt, h.dlt, h.base, h.lt⟩, ?_⟩
  exact (Below.refl _ _).setCell (p := ⟨pb, 3, none⟩) h.base _

structure BlP (L : List Int) (i : Nat) (X : List Pt) : Prop where
  out : X = tp [123] :: (L.take i).flatMap fun x => [np, wp x]
theorem BlP.next {L i X} (h : BlP L i X) (hi : i < L.length) : BlP L (i + 1) (X ++ [np, wp L[i]]) := ⟨by
  rw [h.out, ← List.take_append_getElem hi, List.flatMap_append]; simp⟩
theorem BlP.len {L i X} (h : BlP L i X) (hi : i ≤ L.length) : X.length = 1 + 2 * i := by
  have : ∀ l : List Int, (l.flatMap fun x => [np, wp x]).length = 2 * l.length := by
    intro l
    induction l with
    | nil => rfl
    | cons a l ih => simp [ih]; omega
  rw [h.out, List.length_cons, this, List.length_take]; omega

set_option maxRecDepth 10000 in
set_option maxHeartbeats 4000000 in
theorem putBlock_st (w : World) (B F pb : Nat) (nv : Value) (S : Ps) (hS : PSt w B F pb nv S) (hF : F ≤ w.heap.size) (ho : S.opn + 1 ≤ 1000000000)
    (n : Nd) (s : ByteArray) (ka : Option Addr) (kl kc : Nat) (hkl : kl = n.kids.length) (hK : Ints w ka kc n.kids) (hkB : n.kids ≠ [] → ∀ b o, ka = some ⟨b, o, none⟩ → b < B) (hmn : S.todo.length + 2 * kl + 2 ≤ 100000000) :
    Calls Tryd.prog 49 #[.pointer (some ⟨pb, 0, none⟩), .agg #[.int .i64 n.kind, .int .i64 n.at_, .int .i64 n.wh, .int .i64 n.close, .int .i64 n.decl, .int .i64 n.typ, .int .i64 n.op, .int .i64 n.val, .string s, .slice ka kl kc]] w fun e w' => e = .returned (.tuple #[]) ∧ PSt w' B w'.heap.size pb nv ⟨S.text, blParts n ++ S.todo, S.opn + 1⟩ ∧ Below B w w' := by
  have hB := hS.le
  obtain ⟨tv, dv, n1, m1, hv⟩ := hS.out
  obtain ⟨q0, q1, q2, q3⟩ := hv.prv.cells
  have hpl := hv.lt
  have hpb := hv.base
  have HKL : Hid (kl = n.kids.length) := hkl
  have hkc : kl ≤ kc := by have := hK.le; omega
  have hkm := hK.mx
  have hfz : w.frozen? ⟨pb, 3, none⟩ = false := fz_of hv.prv.blk
  have hl1 : pb < w.heap.size := by omega
  have hl2 : pb < w.heap.size + 1 := by omega
  obtain ⟨o, hoo⟩ : ∃ o, o = S.opn := ⟨_, rfl⟩
  rw [← hoo] at q3 ho ⊢
  have HO : Hid (o = S.opn) := hoo
  clear hkl hoo
  go_enter Tryd.func49, Tryd.ntmps49
  go_wp2_with (first | (go_at_call 44; refine (text_any _ _).mono ?_; rintro e w' ⟨rfl, rfl⟩))
  obtain ⟨hS1, hbo⟩ := hS.opn hF (o + 1)
  have hoc : ((o + 1 : Nat) : Int) = (o : Int) + 1 := by omega
  rw [hoc] at hS1 hbo
  obtain ⟨w1, hw1⟩ : ∃ w1, w1 = w.setCell ⟨pb, 3, none⟩ (.int .i64 ((o : Int) + 1)) := ⟨_, rfl⟩
  rw [← hw1] at hS1 hbo ⊢
  have hz1 : w1.heap.size = w.heap.size := by rw [hw1]; simp [World.setCell]
  clear hw1 q0 q1 q2 q3 hfz hv
  have HZ : Hid (w1.heap.size = w.heap.size) := hz1
  go_loopw [4, 19] (fun v c wr => ∃ (i k : Nat) (X : List Pt), i ≤ kl ∧ Hid (k = 1 + 2 * i) ∧ c = .int .i64 i ∧ OwnP wr w.heap.size v k X ∧ BlP n.kids i X ∧ Below w.heap.size w1 wr) (fun _ c _ => kl - (intOf c).toNat)
  case atStart => exact ⟨0, 1, [tp [123]], by omega, rfl, rfl, ownp_new _ _ _ _ _ _ (by simp; omega) rfl rfl (by omega) (by omega), ⟨by simp⟩, (by repeat (first | refine Below.alloc ?_ (by first | omega | (simp; done) | (simp; omega)) _ | exact Below.refl _ _))⟩
  case round =>
    obtain ⟨i, k, X, hi, hk, rfl, HX, HB, hbl⟩ := hrel
    have hbs := hbl.size
    have hbB : Below B w wr := hbo.trans (hbl.mono (by omega))
    have hwz : w.heap.size ≤ wr.heap.size := by have := HZ.out; omega
    obtain ⟨va, vc, rfl⟩ := own_slice HX.out
    by_cases hlt : i < kl
    · have hk1 : k + 2 ≤ 100000000 := by have := hk.out; omega
      obtain ⟨b, oo, rfl, hA⟩ := hK.out (by intro e; have := HKL.out; simp [e] at this; omega)
      have hbb := hkB (by intro e; have := HKL.out; simp [e] at this; omega) b oo rfl
      have p0 := (hA.below hbB hbb).cell i (HKL.out ▸ hlt)
      have HB2 := HB.next (HKL.out ▸ hlt)
      obtain ⟨x, hx⟩ : ∃ x, x = n.kids[i]'(HKL.out ▸ hlt) := ⟨_, rfl⟩
      rw [← hx] at p0 HB2
      clear hx
      go_wp2_with (first
        | (go_at_call 18; refine (whole_any _ _).mono ?_; rintro e w' ⟨rfl, rfl⟩)
        | (at_builtin; refine wpList_append_parts rfl _ _ rfl w.heap.size _ k X [np, wp x] 2 (wr.heap.size + 1) ?_ (HX.keep (by repeat (first | refine Below.alloc ?_ (by first | omega | (simp; done) | (simp; omega)) _ | exact Below.refl _ _))) ?_ (by simp) rfl rfl hk1 (by simp; omega) ?_; (next => rfl); (next => rfl); intro v2 w2 HX2 hb2))
      go_roundw
      case rel => exact ⟨i + 1, k + 2, _, by omega, by have := hk.out; show _ = _; omega, by go_num, HX2, HB2, (hbl.alloc hwz _).trans hb2⟩
      case measure => simp [intOf]; omega
    · obtain rfl : i = kl := by omega
      have hk1 : k + 1 ≤ 100000000 := by have := hk.out; omega
      have HBL : Hid (blParts n = X ++ [ep]) := by
        show _ = _
        rw [HB.out, List.take_of_length_le (by have := HKL.out; omega)]
        simp [blParts]
      go_wp2_with (first
        | (at_builtin; refine wpList_append_parts rfl _ _ rfl w.heap.size _ k X [ep] 1 wr.heap.size ?_ HX ?_ (by simp) rfl rfl hk1 hwz ?_; (next => rfl); (next => rfl); intro v2 w2 HX2 hb2; obtain ⟨a2, c2, rfl, _, _, hV2, ha2⟩ := HX2.view)
        | (go_at_call 17; refine (put_st _ B F pb nv ⟨S.text, S.todo, o + 1⟩ (X ++ [ep]) (k + 1) _ _ (hS1.below ((hbl.trans hb2).mono (by omega)) (Nat.le_refl _)) (by have := hb2.size; omega) hV2 HX2.len (by have := hk.out; show S.todo.length + _ ≤ _; omega) (fun g hg => by rcases ha2 with h | ⟨g', h, h3, _⟩; (· rw [h.1] at hg; cases hg); (· rw [h] at hg; cases hg; omega))).mono ?_; rintro e w3 ⟨rfl, HS, hb3, _⟩))
      have hbf : Below B w w3 := (hbB.trans (hb2.mono (by omega))).trans hb3
      go_wp2_with fail
      first
        | exact bodyPost_end (v := .tuple #[]) (by simp [results, Tryd.results49, go_sem]) rfl ⟨rfl, by rw [HBL.out]; exact HS, hbf⟩
        | exact bodyPost_ret (v := .tuple #[]) (by simp [results, Tryd.results49, go_sem]) rfl ⟨rfl, by rw [HBL.out]; exact HS, hbf⟩
end Go.Proofs.YtjepkcebfojiaaaDoor
namespace Go.Proofs.YtjepkcebfojiaaaDoor
open Go.ChangeShapes Go.WideShapes Go.ChangeAt Go.RowKit

theorem joined_nil (w : World) (a : Option Addr) (c : Nat) : Calls Tryd.prog 52 #[.slice a 0 c] w fun e w' => e = .returned (.slice none 0 0) ∧ w' = w := by
  go_enter Tryd.func52, Tryd.ntmps52
  go_wp2
  go_loop [3, 8] (fun p v => p = .slice none 0 0 ∧ v = .int .i64 0) (fun _ _ => 0)
  case atStart => exact ⟨rfl, rfl⟩
  case round =>
    obtain ⟨rfl, rfl⟩ := hrel
    go_wp2
    go_ret
    exact ⟨rfl, rfl⟩

theorem bs_appF (a b : List UInt8) : bs a ++ bs b = bs (a ++ b) := by
  simp [bs]
  rfl

/-- append(l, parts...) in a statement that draws its order: the parts were just made. -/
theorem step_append_parts {W0 : World} {C : Array Value} {ops : Array Oper} {op : Oper} {a : Act} {K : Act → World → Prop} {Q : Exit → Act → World → Prop} {E : Prop} (hgd : op.guard = none) (s x : Operand)
    (ho : op.op = .call { callee := .builtin .append, args := #[s, x], argTypes := #[47, 47] })
    (B : Nat) (v : Value) (n : Nat) (L X : List Pt) (m g : Nat) (hs : a.eval s = v) (hown : OwnP W0 B v n L) (hx : a.eval x = .slice (some ⟨g, 0, none⟩) m m) (hg : g = W0.heap.size) (hC : C.toList = pcs X) (hm : m = X.length)
    (hl : n + m ≤ 100000000) (hB : B ≤ W0.heap.size)
    (h : ∀ v' w', OwnP w' B v' (n + m) (L ++ X) → Below B W0 w' → K (a.put op.dst v') w') : if Region.wanted op (yielded ops a.tmps) = true then Oper.wp Tryd.prog op a ((W0.alloc (.cells C 52)).drew) K Q else E := by
  subst hg
  have hw : Region.wanted op (yielded ops a.tmps) = true := by simp [Region.wanted, hgd]
  rw [if_pos hw]
  obtain ⟨i0, hi, hz0, hz1, hz2⟩ := info_parts infoP
  obtain ⟨v', w', hr, h2, h3, _⟩ := run_append_own (P := Tryd.prog) ((W0.alloc (.cells C 52)).drew) B 47 op.type 52 i0 _ 3 32 Tryd.underlying47 hi hz0 hz1 hz2 rfl (by decide) v n (pcs L) (hown.keep ((Below.refl _ _).alloc (Nat.le_refl _) _).drew).out ⟨W0.heap.size, 0, none⟩ m m (pcs X) (by rw [pcs_len, hm]) (fun j u hj => by
    have e : (⟨W0.heap.size, 0, none⟩ : Addr).add j = ⟨W0.heap.size, j, none⟩ := by unfold Addr.add; split <;> simp_all
    rw [e, ← hC] at *
    exact cellD (by simpa using hj)) (pcs_one X) (by unfold maxLen; omega) (by omega) (by rw [drew_heap]; simp; omega)
  unfold Oper.wp execOp
  simp only [ho, resolve, invoke, builtin, Sem.run_bind, Sem.run_pure, Result.andThen_ok, List.map_toArray, List.map_cons, List.map_nil, hs, hx, hr]
  exact h v' w' ⟨by simp [hm]; exact hown.len, by rw [pcs_app]; exact h2⟩ ((((Below.refl _ _).alloc hB _).drew).grown h3 (by rw [drew_heap]; simp; omega) (fun k hk => (own_block hown.out hk).1))

set_option maxRecDepth 10000 in
set_option maxHeartbeats 4000000 in
theorem putFunc_one (w : World) (B F pb : Nat) (nv : Value) (S : Ps) (hS : PSt w B F pb nv S) (hF : F ≤ w.heap.size)
    (n : Nd) (s : ByteArray) (hs : s = bs n.name) (hnm : n.name.length ≤ 64) (ka : Option Addr) (kc : Nat) (j : Int) (hkids : n.kids = [j]) (hK : Ints w ka kc n.kids) (hkB : ∀ b o, ka = some ⟨b, o, none⟩ → b < B) (hdecl : n.decl = 0) (hmn : S.todo.length + 4 ≤ 100000000) :
    Calls Tryd.prog 48 #[.pointer (some ⟨pb, 0, none⟩), .agg #[.int .i64 n.kind, .int .i64 n.at_, .int .i64 n.wh, .int .i64 n.close, .int .i64 n.decl, .int .i64 n.typ, .int .i64 n.op, .int .i64 n.val, .string s, .slice ka 1 kc]] w fun e w' => e = .returned (.tuple #[]) ∧ PSt w' B w'.heap.size pb nv ⟨S.text, fnParts n ++ S.todo, S.opn⟩ ∧ Below B w w' := by
  have hB := hS.le
  obtain ⟨b, o, rfl, hA⟩ := hK.out (by rw [hkids]; simp)
  have hbB := hkB b o rfl
  have p0 := hA.cell 0 (by rw [hkids]; simp)
  have hlb := hA.lt
  have hkc : 1 ≤ kc := by have := hK.le; rw [hkids] at this; simpa using this
  have hkm := hK.mx
  simp [hkids] at p0
  have HP : Hid (fnParts n = [tp ([102, 117, 110, 99, 32] ++ n.name ++ [40]), tp [41, 32], wp j, tp [10]]) := by
    show _ = _
    simp [fnParts, hkids, hdecl, jn]
  have hsz : s.size ≤ 64 := by rw [hs, bs_size]; exact hnm
  obtain ⟨uu, huu⟩ : ∃ uu, (⟨#[102, 117, 110, 99, 32]⟩ : ByteArray) ++ s ++ ⟨#[40]⟩ = uu := ⟨_, rfl⟩
  have HU : Hid (uu = bs ([102, 117, 110, 99, 32] ++ n.name ++ [40])) := by
    show _ = _
    rw [← huu, hs, ← bs_appF, ← bs_appF]; rfl
  rw [hdecl]
  clear hs hkids hdecl
  go_enter Tryd.func48, Tryd.ntmps48
  go_wp2_with (first
    | (go_at_call 44; refine (text_any _ _).mono ?_; rintro e w' ⟨rfl, rfl⟩)
    | (go_at_call 52; refine (joined_nil _ _ _).mono ?_; rintro e w' ⟨rfl, rfl⟩))
  have B9 : (w.alloc (.cells #[.int .i64 n.kind, .int .i64 n.at_, .int .i64 n.wh, .int .i64 n.close, .int .i64 0, .int .i64 n.typ, .int .i64 n.op, .int .i64 n.val, .string s, .slice (some ⟨b, o, none⟩) 1 kc] 39)).cell? ⟨w.heap.size, 9, none⟩ = some (.slice (some ⟨b, o, none⟩) 1 kc) := by simp
  have HOP := ownp_new ((w.alloc (.cells #[.int .i64 n.kind, .int .i64 n.at_, .int .i64 n.wh, .int .i64 n.close, .int .i64 0, .int .i64 n.typ, .int .i64 n.op, .int .i64 n.val, .string s, .slice (some ⟨b, o, none⟩) 1 kc] 39)).alloc (.cells #[.int .i64 0, .string uu, .int .i64 0] 52)) #[.int .i64 0, .string uu, .int .i64 0] [tp ([102, 117, 110, 99, 32] ++ n.name ++ [40])] 1 (w.heap.size + 1 + 1) (w.heap.size + 1) (by simp) (by rw [HU.out]; rfl) rfl (by omega) (by omega)
  go_region_held_law (fun w' => w'.cell? ⟨w.heap.size, 9, none⟩ = some (.slice (some ⟨b, o, none⟩) 1 kc) ∧ w'.cell? ⟨b, o, none⟩ = some (.int .i64 j))
    (refine ⟨?_, ?_⟩ <;> (repeat (first | with_reducible exact B9 | with_reducible exact p0 | with_reducible refine HKP _ _ (by first | (left; simp; omega) | (left; omega) | (right; simp; omega) | (right; omega)) ?_ | with_reducible refine cell_below hb2 (by omega) ?_ | with_reducible refine cellD ?_ | with_reducible refine cellA ?_)))
    (first
      | (go_at_call 44; refine (text_any _ _).mono ?_; rintro e w' ⟨rfl, rfl⟩)
      | (go_at_call 18; refine (whole_any _ _).mono ?_; rintro e w' ⟨rfl, rfl⟩)
      | (refine step_append_parts rfl _ _ rfl (w.heap.size + 1) _ 1 _ [tp [41, 32], wp j, tp [10]] 3 (w.heap.size + 1 + 1 + 1 + 1 + 1 + 1) ?_ (HOP.keep (by repeat (first | refine Below.alloc ?_ (by first | omega | (simp; done) | (simp; omega)) _ | refine Below.drew ?_ | exact Below.refl _ _))) ?_ (by simp) rfl rfl (by omega) (by first | omega | (simp; done) | (simp; omega)) ?_; (next => simp [Act.eval]); (next => simp [Act.eval]); intro v2 w2 HX2 hb2; obtain ⟨a2, c2, rfl, _, _, hV2, ha2⟩ := HX2.view; have hs2 := hb2.size; simp at hs2; have hbF : Below F w w2 := (by refine Below.trans ?_ (hb2.mono (by omega)); exact (by repeat (first | refine Below.alloc ?_ (by first | omega | (simp; done) | (simp; omega)) _ | refine Below.drew ?_ | exact Below.refl _ _))))
      | (go_at_call 17; refine (put_st _ B F pb nv S _ (1 + 3) _ _ (hS.below hbF (Nat.le_refl _)) (by omega) hV2 HX2.len (by omega) (fun g hg => by rcases ha2 with h | ⟨g', h, h3, _⟩; (· rw [h.1] at hg; cases hg); (· rw [h] at hg; cases hg; omega))).mono ?_; rintro e w3 ⟨rfl, HS, hb3, HKP⟩))
  all_goals exact bodyPost_end (v := .tuple #[]) (by simp [results, Tryd.results48, go_sem]) rfl ⟨rfl, by rw [HP.out]; exact HS, (hbF.mono hB).trans hb3⟩
end Go.Proofs.YtjepkcebfojiaaaDoor
namespace Go.Proofs.YtjepkcebfojiaaaDoor
open Go.ChangeShapes Go.WideShapes Go.ChangeAt Go.RowKit

set_option maxRecDepth 10000 in
set_option maxHeartbeats 2000000 in
theorem putNode_fn (w : World) (pb : Nat) (at_ wh close decl typ op val : Int) (s : ByteArray) (ka : Option Addr) (kl kc : Nat) (P : World → Prop)
    (hC : Calls Tryd.prog 48 #[.pointer (some ⟨pb, 0, none⟩), .agg #[.int .i64 1, .int .i64 at_, .int .i64 wh, .int .i64 close, .int .i64 decl, .int .i64 typ, .int .i64 op, .int .i64 val, .string s, .slice ka kl kc]] (w.alloc (.cells #[.int .i64 1, .int .i64 at_, .int .i64 wh, .int .i64 close, .int .i64 decl, .int .i64 typ, .int .i64 op, .int .i64 val, .string s, .slice ka kl kc] 39)) fun e w' => e = .returned (.tuple #[]) ∧ P w') :
    Calls Tryd.prog 43 #[.pointer (some ⟨pb, 0, none⟩), .agg #[.int .i64 1, .int .i64 at_, .int .i64 wh, .int .i64 close, .int .i64 decl, .int .i64 typ, .int .i64 op, .int .i64 val, .string s, .slice ka kl kc]] w fun e w' => e = .returned (.tuple #[]) ∧ P w' := by
  have hisFunc : isK 1 1 = true := rfl
  go_enter Tryd.func43, Tryd.ntmps43
  go_wp2_with (first | (go_at_call 26; refine (isFunc_any _ _).mono ?_; rintro e w' ⟨rfl, rfl⟩; rw [hisFunc]) | (go_at_call 48; refine hC.mono ?_; rintro e w3 ⟨rfl, HP⟩))
  first
    | exact bodyPost_end (v := .tuple #[]) (by simp [results, Tryd.results43, go_sem]) rfl ⟨rfl, HP⟩
    | exact bodyPost_ret (v := .tuple #[]) (by simp [results, Tryd.results43, go_sem]) rfl ⟨rfl, HP⟩

set_option maxRecDepth 10000 in
set_option maxHeartbeats 2000000 in
theorem putNode_bl (w : World) (pb : Nat) (at_ wh close decl typ op val : Int) (s : ByteArray) (ka : Option Addr) (kl kc : Nat) (P : World → Prop)
    (hC : Calls Tryd.prog 49 #[.pointer (some ⟨pb, 0, none⟩), .agg #[.int .i64 3, .int .i64 at_, .int .i64 wh, .int .i64 close, .int .i64 decl, .int .i64 typ, .int .i64 op, .int .i64 val, .string s, .slice ka kl kc]] (w.alloc (.cells #[.int .i64 3, .int .i64 at_, .int .i64 wh, .int .i64 close, .int .i64 decl, .int .i64 typ, .int .i64 op, .int .i64 val, .string s, .slice ka kl kc] 39)) fun e w' => e = .returned (.tuple #[]) ∧ P w') :
    Calls Tryd.prog 43 #[.pointer (some ⟨pb, 0, none⟩), .agg #[.int .i64 3, .int .i64 at_, .int .i64 wh, .int .i64 close, .int .i64 decl, .int .i64 typ, .int .i64 op, .int .i64 val, .string s, .slice ka kl kc]] w fun e w' => e = .returned (.tuple #[]) ∧ P w' := by
  have hisFunc : isK 1 3 = false := rfl
  have hisParam : isK 2 3 = false := rfl
  have hisBlock : isK 3 3 = true := rfl
  go_enter Tryd.func43, Tryd.ntmps43
  go_wp2_with (first | (go_at_call 26; refine (isFunc_any _ _).mono ?_; rintro e w' ⟨rfl, rfl⟩; rw [hisFunc]) | (go_at_call 37; refine (isParam_any _ _).mono ?_; rintro e w' ⟨rfl, rfl⟩; rw [hisParam]) | (go_at_call 38; refine (isBlock_any _ _).mono ?_; rintro e w' ⟨rfl, rfl⟩; rw [hisBlock]) | (go_at_call 49; refine hC.mono ?_; rintro e w3 ⟨rfl, HP⟩))
  first
    | exact bodyPost_end (v := .tuple #[]) (by simp [results, Tryd.results43, go_sem]) rfl ⟨rfl, HP⟩
    | exact bodyPost_ret (v := .tuple #[]) (by simp [results, Tryd.results43, go_sem]) rfl ⟨rfl, HP⟩

set_option maxRecDepth 10000 in
set_option maxHeartbeats 2000000 in
theorem putNode_st (w : World) (pb : Nat) (k : Int) (at_ wh close decl typ op val : Int) (s : ByteArray) (ka : Option Addr) (kl kc : Nat) (hk : 4 ≤ k) (hk2 : k ≤ 14) (P : World → Prop)
    (hC : Calls Tryd.prog 50 #[.pointer (some ⟨pb, 0, none⟩), .agg #[.int .i64 k, .int .i64 at_, .int .i64 wh, .int .i64 close, .int .i64 decl, .int .i64 typ, .int .i64 op, .int .i64 val, .string s, .slice ka kl kc]] (w.alloc (.cells #[.int .i64 k, .int .i64 at_, .int .i64 wh, .int .i64 close, .int .i64 decl, .int .i64 typ, .int .i64 op, .int .i64 val, .string s, .slice ka kl kc] 39)) fun e w' => e = .returned (.tuple #[]) ∧ P w') :
    Calls Tryd.prog 43 #[.pointer (some ⟨pb, 0, none⟩), .agg #[.int .i64 k, .int .i64 at_, .int .i64 wh, .int .i64 close, .int .i64 decl, .int .i64 typ, .int .i64 op, .int .i64 val, .string s, .slice ka kl kc]] w fun e w' => e = .returned (.tuple #[]) ∧ P w' := by
  have hisFunc : isK 1 k = false := by simp [isK, isSt]; omega
  have hisParam : isK 2 k = false := by simp [isK, isSt]; omega
  have hisBlock : isK 3 k = false := by simp [isK, isSt]; omega
  have hisStatement : isSt k = true := by simp [isK, isSt]; omega
  go_enter Tryd.func43, Tryd.ntmps43
  go_wp2_with (first | (go_at_call 26; refine (isFunc_any _ _).mono ?_; rintro e w' ⟨rfl, rfl⟩; rw [hisFunc]) | (go_at_call 37; refine (isParam_any _ _).mono ?_; rintro e w' ⟨rfl, rfl⟩; rw [hisParam]) | (go_at_call 38; refine (isBlock_any _ _).mono ?_; rintro e w' ⟨rfl, rfl⟩; rw [hisBlock]) | (go_at_call 39; refine (isStatement_any _ _).mono ?_; rintro e w' ⟨rfl, rfl⟩; rw [hisStatement]) | (go_at_call 50; refine hC.mono ?_; rintro e w3 ⟨rfl, HP⟩))
  first
    | exact bodyPost_end (v := .tuple #[]) (by simp [results, Tryd.results43, go_sem]) rfl ⟨rfl, HP⟩
    | exact bodyPost_ret (v := .tuple #[]) (by simp [results, Tryd.results43, go_sem]) rfl ⟨rfl, HP⟩

set_option maxRecDepth 10000 in
set_option maxHeartbeats 2000000 in
theorem putNode_ex (w : World) (pb : Nat) (k : Int) (at_ wh close decl typ op val : Int) (s : ByteArray) (ka : Option Addr) (kl kc : Nat) (hk : 20 ≤ k) (hk2 : k ≤ 31) (P : World → Prop)
    (hC : Calls Tryd.prog 51 #[.pointer (some ⟨pb, 0, none⟩), .agg #[.int .i64 k, .int .i64 at_, .int .i64 wh, .int .i64 close, .int .i64 decl, .int .i64 typ, .int .i64 op, .int .i64 val, .string s, .slice ka kl kc]] (w.alloc (.cells #[.int .i64 k, .int .i64 at_, .int .i64 wh, .int .i64 close, .int .i64 decl, .int .i64 typ, .int .i64 op, .int .i64 val, .string s, .slice ka kl kc] 39)) fun e w' => e = .returned (.tuple #[]) ∧ P w') :
    Calls Tryd.prog 43 #[.pointer (some ⟨pb, 0, none⟩), .agg #[.int .i64 k, .int .i64 at_, .int .i64 wh, .int .i64 close, .int .i64 decl, .int .i64 typ, .int .i64 op, .int .i64 val, .string s, .slice ka kl kc]] w fun e w' => e = .returned (.tuple #[]) ∧ P w' := by
  have hisFunc : isK 1 k = false := by simp [isK, isSt]; omega
  have hisParam : isK 2 k = false := by simp [isK, isSt]; omega
  have hisBlock : isK 3 k = false := by simp [isK, isSt]; omega
  have hisStatement : isSt k = false := by simp [isSt]; omega
  go_enter Tryd.func43, Tryd.ntmps43
  go_wp2_with (first | (go_at_call 26; refine (isFunc_any _ _).mono ?_; rintro e w' ⟨rfl, rfl⟩; rw [hisFunc]) | (go_at_call 37; refine (isParam_any _ _).mono ?_; rintro e w' ⟨rfl, rfl⟩; rw [hisParam]) | (go_at_call 38; refine (isBlock_any _ _).mono ?_; rintro e w' ⟨rfl, rfl⟩; rw [hisBlock]) | (go_at_call 39; refine (isStatement_any _ _).mono ?_; rintro e w' ⟨rfl, rfl⟩; rw [hisStatement]) | (go_at_call 51; refine hC.mono ?_; rintro e w3 ⟨rfl, HP⟩))
  first
    | exact bodyPost_end (v := .tuple #[]) (by simp [results, Tryd.results43, go_sem]) rfl ⟨rfl, HP⟩
    | exact bodyPost_ret (v := .tuple #[]) (by simp [results, Tryd.results43, go_sem]) rfl ⟨rfl, HP⟩
end Go.Proofs.YtjepkcebfojiaaaDoor
