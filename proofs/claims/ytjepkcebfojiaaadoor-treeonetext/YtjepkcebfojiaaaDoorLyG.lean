import Derived.Test.YtjepkcebfojiaaaDoorLyF
import Derived.Test.YtjepkcebfojiaaaDoorLyH
import Derived.Lib.AppendStr
import Derived.Deep.RegionWith
import Derived.Test.YtjepkcebfojiaaaDoorTrX
import Derived.Test.YtjepkcebfojiaaaDoorTrW
set_option linter.unusedVariables false
set_option linter.unusedSimpArgs false
namespace Go.Proofs.YtjepkcebfojiaaaDoor
open Go.ChangeShapes Go.WideShapes Go.ChangeAt Go.RowKit

theorem step_append_strW {w : World} {ops : Array Oper} {op : Oper} {a : Act} {K : Act → World → Prop} {Q : Exit → Act → World → Prop} {E : Prop} (hgd : op.guard = none) (s x : Operand)
    (ho : op.op = .call { callee := .builtin .append, args := #[s, x], argTypes := #[28, 9] })
    (B : Nat) (v : Value) (n : Nat) (M : List UInt8) (hs : a.eval s = v) (hown : OwnB w B v n M) (u : ByteArray) (X : List UInt8) (hx : a.eval x = .string u) (hu : u = bs X)
    (hl : n + X.length ≤ 1000000000) (hB : B ≤ w.heap.size)
    (h : ∀ v' w', OwnB w' B v' (n + X.length) (M ++ X) → w.grownBy w' v.ownBlock → K (a.put op.dst v') w') : if Region.wanted op (yielded ops a.tmps) = true then Oper.wp Tryd.prog op a w K Q else E := by
  have hw : Region.wanted op (yielded ops a.tmps) = true := by simp [Region.wanted, hgd]
  rw [if_pos hw]
  subst hu
  obtain ⟨i0, hi, hz0, hz1, hz2⟩ := info_parts infoB
  obtain ⟨v', w', hrun, h1, h2, _⟩ := Lib.run_append_own_string (P := Tryd.prog) w B 28 9 op.type 5 i0 Tryd.underlying28 Tryd.underlying9 hi hz0 hz1 hz2 v n (bvs M) hown.out (bs X) (by rw [bs_size]; unfold maxLen; omega) (by rw [bs_size]; omega) hB
  unfold Oper.wp execOp
  simp only [ho, resolve, invoke, builtin, Sem.run_bind, Sem.run_pure, Result.andThen_ok, List.map_toArray, List.map_cons, List.map_nil, hs, hx, hrun]
  rw [bs_size, strCells_bs] at h1
  exact h v' w' ⟨by simp; exact hown.len, by rw [bvs_append]; exact h1⟩ h2

set_option maxRecDepth 10000 in
set_option maxHeartbeats 2000000 in
theorem pp_line (w : World) (B F pb : Nat) (nv : Value) (S : Ps) (hS : PSt w B F pb nv S) (hF : F ≤ w.heap.size) (hl : S.text.length + S.opn + 1 ≤ 1000000000) (t : ByteArray) (k : Int) :
    Calls Tryd.prog 27 #[.pointer (some ⟨pb, 0, none⟩), .agg #[.int .i64 3, .string t, .int .i64 k]] w fun e w' => e = .returned (.tuple #[]) ∧ PSt w' B w'.heap.size pb nv ⟨S.text ++ tabs S.opn, S.todo, S.opn⟩ ∧ Below B w w' := by
  have hB := hS.le
  go_enter Tryd.func27, Tryd.ntmps27
  go_wp2_with (first | (go_at_call 45; refine (break_st _ B F pb nv S (hS.below ((Below.refl _ _).alloc hF _) (Nat.le_refl _)) (by simp; omega) hl).mono ?_; rintro e w3 ⟨rfl, HS, hb⟩; have hbb : Below B w w3 := ((Below.refl _ _).alloc (by omega) _).trans hb; clear hb))
  first
    | exact bodyPost_end (v := .tuple #[]) (by simp [results, Tryd.results27, go_sem]) rfl ⟨rfl, HS, hbb⟩
    | exact bodyPost_ret (v := .tuple #[]) (by simp [results, Tryd.results27, go_sem]) rfl ⟨rfl, HS, hbb⟩

set_option maxRecDepth 10000 in
set_option maxHeartbeats 4000000 in
theorem pp_text (w : World) (B F pb : Nat) (nv : Value) (S : Ps) (hS : PSt w B F pb nv S) (hF : F ≤ w.heap.size) (t : ByteArray) (X : List UInt8) (ht : t = bs X) (k : Int) (hl : S.text.length + X.length ≤ 1000000000) :
    Calls Tryd.prog 27 #[.pointer (some ⟨pb, 0, none⟩), .agg #[.int .i64 0, .string t, .int .i64 k]] w fun e w' => e = .returned (.tuple #[]) ∧ PSt w' B w'.heap.size pb nv ⟨S.text ++ X, S.todo, S.opn⟩ ∧ Below B w w' := by
  have hB := hS.le
  obtain ⟨tv, dv, n, m, h⟩ := hS.out
  obtain ⟨ta, tc, rfl⟩ := own_slice h.txt.out
  obtain ⟨q0, q1, q2, q3⟩ := h.prv.cells
  have hlt := h.lt
  have hpb := h.base
  have hl1 : pb < w.heap.size := by omega
  have hn : n = S.text.length := h.txt.len
  have hnl : n + X.length ≤ 1000000000 := by omega
  have HT : Hid (t = bs X) := ht
  clear hn ht hS
  go_enter Tryd.func27, Tryd.ntmps27
  go_wp2_with fail
  go_region_law (refine step_append_strW rfl _ _ rfl B _ n S.text (by simp [Act.eval]) (h.txt.keep (((Below.refl _ _).alloc (Nat.le_refl _) _).drew)) t X (by simp [Act.eval]) HT.out hnl (by first | omega | (simp; done) | (simp; omega)) ?_; intro v2 w2 hO2 hG2; obtain ⟨hP2, HS2, hb2⟩ := h.app (W := (w.alloc (.cells #[.int .i64 0, .string t, .int .i64 k] 52)).drew) hF (fun g hg => heap_alloc_old w _ hg) (by rw [drew_heap]; simp) (((Below.refl _ _).alloc (by omega) _).drew) hO2 hG2; obtain ⟨a2, c2, rfl⟩ := own_slice hO2.out; have r1 := hP2.cells.2.1; have hfz2 : w2.frozen? ⟨pb, 1, none⟩ = false := fz_of hP2.blk; clear hO2 hG2 hP2)
  all_goals
    first
      | exact bodyPost_end (v := .tuple #[]) (by simp [results, Tryd.results27, go_sem]) rfl ⟨rfl, ⟨_, _, _, _, HS2⟩, hb2⟩
      | (go_wp2_with fail
         first
          | exact bodyPost_end (v := .tuple #[]) (by simp [results, Tryd.results27, go_sem]) rfl ⟨rfl, ⟨_, _, _, _, HS2⟩, hb2⟩
          | exact bodyPost_ret (v := .tuple #[]) (by simp [results, Tryd.results27, go_sem]) rfl ⟨rfl, ⟨_, _, _, _, HS2⟩, hb2⟩)
end Go.Proofs.YtjepkcebfojiaaaDoor
namespace Go.Proofs.YtjepkcebfojiaaaDoor
open Go.ChangeShapes Go.WideShapes Go.ChangeAt Go.RowKit

set_option maxRecDepth 10000 in
set_option maxHeartbeats 4000000 in
theorem pp_end (w : World) (B F pb : Nat) (nv : Value) (S : Ps) (hS : PSt w B F pb nv S) (hF : F ≤ w.heap.size) (t : ByteArray) (k : Int) (o : Nat) (ho : S.opn = o + 1) (hl : S.text.length + o + 2 ≤ 1000000000) :
    Calls Tryd.prog 27 #[.pointer (some ⟨pb, 0, none⟩), .agg #[.int .i64 4, .string t, .int .i64 k]] w fun e w' => e = .returned (.tuple #[]) ∧ PSt w' B w'.heap.size pb nv ⟨S.text ++ tabs o ++ [125], S.todo, o⟩ ∧ Below B w w' := by
  have hB := hS.le
  obtain ⟨tv, dv, n, m, h⟩ := hS.out
  obtain ⟨q0, q1, q2, q3⟩ := h.prv.cells
  rw [ho] at q3
  have hlt := h.lt
  have hpb := h.base
  have hl1 : pb < w.heap.size := by omega
  have hfz : w.frozen? ⟨pb, 3, none⟩ = false := fz_of h.prv.blk
  have hos : ((o + 1 : Nat) : Int) - 1 = (o : Int) := by omega
  obtain ⟨hS1, hbo⟩ := hS.opn hF o
  clear h hS
  go_enter Tryd.func27, Tryd.ntmps27
  go_wp2_with fail
  refine (break_st _ B F pb nv ⟨S.text, S.todo, o⟩ (hS1.below ((Below.refl _ _).alloc (by simp [World.setCell]; omega) _) (Nat.le_refl _)) (by simp [World.setCell]; omega) (by show S.text.length + o + 1 ≤ _; omega)).mono ?_
  rintro e w3 ⟨rfl, HS, hb⟩
  have hb3 : Below B w w3 := (hbo.trans ((Below.refl _ _).alloc (by simp [World.setCell]; omega) _)).trans hb
  clear hb q0 q1 q2 q3 hfz
  obtain ⟨tv, dv, n, m, h⟩ := HS.out
  obtain ⟨ta, tc, rfl⟩ := own_slice h.txt.out
  obtain ⟨q0, q1, q2, q3⟩ := h.prv.cells
  have hlt3 := h.lt
  have hs3 := hb3.size
  have hfz : w3.frozen? ⟨pb, 1, none⟩ = false := fz_of h.prv.blk
  have hn : n = (S.text ++ tabs o).length := h.txt.len
  have hnl : n + 1 ≤ 1000000000 := by rw [hn]; simp [tabs]; omega
  clear hn
  go_wp2_with (first | (at_builtin; refine wpList_append_byte rfl _ _ rfl B _ n _ 125 ?_ h.txt ?_ hnl (by omega) ?_; (next => rfl); (next => rfl); intro v2 w2 hO2 hG2; obtain ⟨hP2, HS2, hb2⟩ := h.app (Nat.le_refl _) (fun g hg => heap_alloc_old w3 _ hg) (by simp) ((Below.refl _ _).alloc (by omega) _) hO2 hG2; obtain ⟨a2, c2, rfl⟩ := own_slice hO2.out; have r1 := hP2.cells.2.1; have hfz2 : w2.frozen? ⟨pb, 1, none⟩ = false := fz_of hP2.blk; clear hO2 hG2 hP2))
  rw [List.append_assoc] at HS2
  have HSF := PSt.mk ⟨_, _, _, _, HS2⟩
  have hbf := hb3.trans hb2
  clear HS2 hb2 hb3
  first
    | exact bodyPost_end (v := .tuple #[]) (by simp [results, Tryd.results27, go_sem]) rfl ⟨rfl, HSF, hbf⟩
    | exact bodyPost_ret (v := .tuple #[]) (by simp [results, Tryd.results27, go_sem]) rfl ⟨rfl, HSF, hbf⟩

set_option maxRecDepth 10000 in
set_option maxHeartbeats 4000000 in
theorem pp_whole (w : World) (B F pb : Nat) (no : Option Addr) (nn nc : Nat) (S : Ps) (hS : PSt w B F pb (.slice no nn nc) S) (hF : F ≤ w.heap.size) (N : List Nd) (hN : Nodes w no nc N) (hnn : nn = N.length) (j : Nat) (hj : j < N.length) (t : ByteArray) (P : World → Prop)
    (hC : ∀ ka kc, (Ints w ka kc N[j].kids) → (∃ b o, no = some ⟨b, o, none⟩ ∧ w.cell? ⟨b, o + j * 10 + 9, none⟩ = some (.slice ka N[j].kids.length kc)) → Calls Tryd.prog 43 #[.pointer (some ⟨pb, 0, none⟩), nv N[j] ka kc] ((w.alloc (.cells #[.int .i64 1, .string t, .int .i64 (j : Int)] 52)).drew) fun e w' => e = .returned (.tuple #[]) ∧ P w') :
    Calls Tryd.prog 27 #[.pointer (some ⟨pb, 0, none⟩), .agg #[.int .i64 1, .string t, .int .i64 (j : Int)]] w fun e w' => e = .returned (.tuple #[]) ∧ P w' := by
  have hB := hS.le
  obtain ⟨tv, dv, n, m, h⟩ := hS.out
  obtain ⟨q0, q1, q2, q3⟩ := h.prv.cells
  have hlt := h.lt
  have hl1 : pb < w.heap.size := by omega
  obtain ⟨b, o, rfl, hbl, hAt⟩ := hN.out (by intro e; simp [e] at hj)
  obtain ⟨ka, kc, c0, c1, c2, c3, c4, c5, c6, c7, c8, c9, hK⟩ := (hAt j hj).out
  have HC := hC ka kc hK ⟨b, o, rfl, c9⟩
  unfold nv at HC
  have hjn : j < nn := by omega
  have hnx : nn ≤ 9223372036854775807 := by have := hN.le; have := hN.mx; omega
  obtain ⟨nd, hnd⟩ : ∃ nd, nd = N[j] := ⟨_, rfl⟩
  rw [← hnd] at c0 c1 c2 c3 c4 c5 c6 c7 c8 c9 HC
  obtain ⟨s, hs⟩ : ∃ s, s = bs nd.name := ⟨_, rfl⟩
  rw [← hs] at c8 HC
  obtain ⟨kl, hkl⟩ : ∃ kl, kl = nd.kids.length := ⟨_, rfl⟩
  rw [← hkl] at c9 HC
  have HCC : Hid _ := HC
  clear hnd hs hkl hAt hnn hK hC HC
  go_enter Tryd.func27, Tryd.ntmps27
  go_wp2_with fail
  go_region_with (first | (go_at_call 43; refine Calls.mono HCC.out ?_; rintro e w3 ⟨rfl, HP⟩))
  all_goals
    first
      | exact bodyPost_end (v := .tuple #[]) (by simp [results, Tryd.results27, go_sem]) rfl ⟨rfl, HP⟩
      | (go_wp2_with fail
         first
          | exact bodyPost_end (v := .tuple #[]) (by simp [results, Tryd.results27, go_sem]) rfl ⟨rfl, HP⟩
          | exact bodyPost_ret (v := .tuple #[]) (by simp [results, Tryd.results27, go_sem]) rfl ⟨rfl, HP⟩)
end Go.Proofs.YtjepkcebfojiaaaDoor
namespace Go.Proofs.YtjepkcebfojiaaaDoor
open Go.ChangeShapes Go.WideShapes Go.ChangeAt Go.RowKit

/-- What the printer leans on: the tree and the tables, all below B. -/
structure Env (w : World) (B : Nat) (no : Option Addr) (nn nc : Nat) (N : List Nd) : Prop where
  out : ∃ w0 : World, w0.heap.size = B ∧ Below B w0 w ∧ Nodes w0 no nc N ∧ TabT w0 B ∧ (∀ w', Below B w0 w' → TabP w')
  nn : nn = N.length
theorem Env.below {w w' B no nn nc N} (h : Env w B no nn nc N) (hb : Below B w w') : Env w' B no nn nc N := by
  obtain ⟨w0, h0, h1, h2, h3, h4⟩ := h.out
  exact ⟨⟨w0, h0, h1.trans hb, h2, h3, h4⟩, h.nn⟩
theorem Env.nodes {w B no nn nc N} (h : Env w B no nn nc N) : Nodes w no nc N := by
  obtain ⟨w0, h0, h1, h2, _⟩ := h.out
  exact h2.below h1 (by omega)
theorem Env.tabt {w B no nn nc N} (h : Env w B no nn nc N) : TabT w B := by
  obtain ⟨w0, h0, h1, _, h3, _⟩ := h.out
  exact h3.below h1
theorem Env.tabp {w B no nn nc N} (h : Env w B no nn nc N) : ∀ w', Below B w w' → TabP w' := by
  obtain ⟨w0, h0, h1, _, _, h4⟩ := h.out
  exact fun w' hb => h4 w' (h1.trans hb)
theorem Env.kids {w B no nn nc N} (h : Env w B no nn nc N) (j : Nat) (hj : j < N.length) {ka kc} {b o : Nat} (e : no = some ⟨b, o, none⟩) (hc : w.cell? ⟨b, o + j * 10 + 9, none⟩ = some (.slice ka N[j].kids.length kc)) (hne : N[j].kids ≠ []) : ∀ b o, ka = some ⟨b, o, none⟩ → b < B := by
  obtain ⟨w0, h0, h1, h2, _⟩ := h.out
  obtain ⟨b', o', e', hl, hA⟩ := h2.out (by intro e; simp [e] at hj)
  obtain ⟨ka', kc', _, _, _, _, _, _, _, _, _, c9, hI⟩ := (hA j hj).out
  rw [e] at e'
  cases e'
  rw [h1.cell (p := ⟨b, _, none⟩) (by show b < B; omega), c9] at hc
  simp at hc
  obtain ⟨rfl, rfl⟩ := hc
  obtain ⟨b2, o2, e2, hA2⟩ := hI.out hne
  intro b3 o3 e3
  rw [e3] at e2
  cases e2
  have := hA2.lt
  omega

/-- Nodes that the contracts so far bear. -/
def NdOK (N : List Nd) (n : Nd) : Prop :=
  (n.kind = 1 ∧ n.decl = 0 ∧ n.name.length ≤ 64 ∧ ∃ k : Int, n.kids = [k]) ∨ n.kind = 3 ∨ n.kind = 5 ∨ (n.kind = 20 ∧ 0 ≤ n.val ∧ n.val ≤ 9223372036854775807)
    ∨ (n.kind = 31 ∧ ∃ i j op : Nat, n.kids = [(i : Int), (j : Int)] ∧ i < N.length ∧ j < N.length ∧ n.op = op ∧ op < 23)

set_option maxHeartbeats 1000000 in
theorem node_any (w : World) (B F pb : Nat) (no : Option Addr) (nn nc : Nat) (N : List Nd) (S : Ps) (hE : Env w B no nn nc N) (hS : PSt w B F pb (.slice no nn nc) S) (hF : F ≤ w.heap.size) (n : Nd) (hOK : NdOK N n) (ka : Option Addr) (kc : Nat) (hK : Ints w ka kc n.kids) (hkB : n.kids ≠ [] → ∀ b o, ka = some ⟨b, o, none⟩ → b < B)
    (hmn : S.todo.length + 2 * n.kids.length + 4 ≤ 100000000) (ho : S.opn + 1 ≤ 1000000000) :
    Calls Tryd.prog 43 #[.pointer (some ⟨pb, 0, none⟩), nv n ka kc] w fun e w' => e = .returned (.tuple #[]) ∧ PSt w' B w'.heap.size pb (.slice no nn nc) ⟨S.text, ndParts N n ++ S.todo, if n.kind = 3 then S.opn + 1 else S.opn⟩ ∧ Below B w w' := by
  have hB := hS.le
  have hb1 : ∀ (X : Obj) (K : Nat), K ≤ w.heap.size → Below K w (w.alloc X) := fun X K hK => (Below.refl _ _).alloc hK _
  have hS1 : ∀ X : Obj, PSt (w.alloc X) B F pb (.slice no nn nc) S := fun X => hS.below (hb1 X F hF) (Nat.le_refl _)
  have hK1 : ∀ X : Obj, Ints (w.alloc X) ka kc n.kids := fun X => hK.below (hb1 X _ (Nat.le_refl _)) (Nat.le_refl _)
  have hE1 : ∀ X : Obj, Env (w.alloc X) B no nn nc N := fun X => hE.below (hb1 X B (by omega))
  have hF1 : ∀ X : Obj, F ≤ (w.alloc X).heap.size := fun X => by simp; omega
  have fin : ∀ (X : Obj) (T : Ps) (f : Nat) (args : Array Value), (Calls Tryd.prog f args (w.alloc X) fun e w' => e = .returned (.tuple #[]) ∧ PSt w' B w'.heap.size pb (.slice no nn nc) T ∧ Below B (w.alloc X) w') → Calls Tryd.prog f args (w.alloc X) fun e w' => e = .returned (.tuple #[]) ∧ PSt w' B w'.heap.size pb (.slice no nn nc) T ∧ Below B w w' :=
    fun X T f args h => h.mono fun e w' ⟨h1, h2, h3⟩ => ⟨h1, h2, (hb1 X B (by omega)).trans h3⟩
  unfold nv
  rcases hOK with ⟨hk, hd, hn, k, hkids⟩ | hk | hk | ⟨hk, hv0, hv1⟩ | ⟨hk, i, j, op, hkids, hi, hj, hop, hop2⟩
  · have e : ndParts N n = fnParts n := by simp [ndParts, hk]
    rw [e, if_neg (by omega), hk]
    have hl : n.kids.length = 1 := by rw [hkids]; rfl
    rw [hl]
    refine putNode_fn w pb n.at_ n.wh n.close n.decl n.typ n.op n.val (bs n.name) ka 1 kc _ (fin _ _ _ _ ?_)
    have H := putFunc_one _ B F pb (.slice no nn nc) S (hS1 (.cells #[.int .i64 1, .int .i64 n.at_, .int .i64 n.wh, .int .i64 n.close, .int .i64 n.decl, .int .i64 n.typ, .int .i64 n.op, .int .i64 n.val, .string (bs n.name), .slice ka 1 kc] 39)) (hF1 _) n _ rfl hn ka kc k hkids (hK1 _) (hkB (by rw [hkids]; simp)) hd (by omega)
    rw [hk] at H
    exact H
  · have e : ndParts N n = blParts n := by simp [ndParts, hk]
    rw [e, if_pos hk, hk]
    refine putNode_bl w pb n.at_ n.wh n.close n.decl n.typ n.op n.val (bs n.name) ka n.kids.length kc _ (fin _ _ _ _ ?_)
    have H := putBlock_st _ B F pb (.slice no nn nc) S (hS1 (.cells #[.int .i64 3, .int .i64 n.at_, .int .i64 n.wh, .int .i64 n.close, .int .i64 n.decl, .int .i64 n.typ, .int .i64 n.op, .int .i64 n.val, .string (bs n.name), .slice ka n.kids.length kc] 39)) (hF1 _) ho n (bs n.name) ka n.kids.length kc rfl (hK1 _) hkB (by omega)
    rw [hk] at H
    exact H
  · have e : ndParts N n = stParts n := by simp [ndParts, hk, isSt]
    rw [e, if_neg (by omega), hk]
    refine putNode_st w pb 5 n.at_ n.wh n.close n.decl n.typ n.op n.val (bs n.name) ka n.kids.length kc (by omega) (by omega) _ (fin _ _ _ _ ?_)
    have H := putSt_set _ B F pb (.slice no nn nc) S (hS1 (.cells #[.int .i64 5, .int .i64 n.at_, .int .i64 n.wh, .int .i64 n.close, .int .i64 n.decl, .int .i64 n.typ, .int .i64 n.op, .int .i64 n.val, .string (bs n.name), .slice ka n.kids.length kc] 39)) (hF1 _) n (bs n.name) rfl ka n.kids.length kc rfl (hK1 _) hk (by omega)
    rw [hk] at H
    exact H
  · have e : ndParts N n = exParts N n := by simp [ndParts, hk, isSt]
    rw [e, if_neg (by omega), hk]
    refine putNode_ex w pb 20 n.at_ n.wh n.close n.decl n.typ n.op n.val (bs n.name) ka n.kids.length kc (by omega) (by omega) _ (fin _ _ _ _ ?_)
    have H := putExpr_num _ B F pb (.slice no nn nc) S (hS1 (.cells #[.int .i64 20, .int .i64 n.at_, .int .i64 n.wh, .int .i64 n.close, .int .i64 n.decl, .int .i64 n.typ, .int .i64 n.op, .int .i64 n.val, .string (bs n.name), .slice ka n.kids.length kc] 39)) (hF1 _) (hE1 _).tabp N n (bs n.name) ka n.kids.length kc hk hv0 hv1 (by omega)
    rw [hk] at H
    exact H
  · have e : ndParts N n = exParts N n := by simp [ndParts, hk, isSt]
    have hl : n.kids.length = 2 := by rw [hkids]; rfl
    rw [e, if_neg (by omega), hl, hk]
    refine putNode_ex w pb 31 n.at_ n.wh n.close n.decl n.typ n.op n.val (bs n.name) ka 2 kc (by omega) (by omega) _ (fin _ _ _ _ ?_)
    have H := putExpr_bin _ B F pb S no nn nc N (hS1 (.cells #[.int .i64 31, .int .i64 n.at_, .int .i64 n.wh, .int .i64 n.close, .int .i64 n.decl, .int .i64 n.typ, .int .i64 n.op, .int .i64 n.val, .string (bs n.name), .slice ka 2 kc] 39)) (hF1 _) (hE1 _).tabt (hE1 _).nodes hE.nn n (bs n.name) ka kc i j (hK1 _) (hkB (by rw [hkids]; simp)) hkids hi hj op hop hop2 hk (by omega)
    rw [hk] at H
    exact H
end Go.Proofs.YtjepkcebfojiaaaDoor
