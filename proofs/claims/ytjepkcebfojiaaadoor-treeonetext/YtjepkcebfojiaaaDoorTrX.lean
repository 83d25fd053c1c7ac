import Derived.Test.YtjepkcebfojiaaaDoorLyM
set_option linter.unusedVariables false
set_option linter.unusedSimpArgs false
namespace Go.Proofs.YtjepkcebfojiaaaDoor
open Go.ChangeShapes Go.WideShapes Go.ChangeAt Go.RowKit

theorem putBinary_st (w : World) (B F pb : Nat) (S : Ps) (no : Option Addr) (nn nc : Nat) (N : List Nd) (hS : PSt w B F pb (.slice no nn nc) S) (hF : F ≤ w.heap.size) (hT : TabT w B) (hN : Nodes w no nc N) (hnn : nn = N.length)
    (n : Nd) (s : ByteArray) (ka : Option Addr) (kc : Nat) (i j : Nat) (hK : Ints w ka kc n.kids) (hkB : ∀ b o, ka = some ⟨b, o, none⟩ → b < B) (hkids : n.kids = [(i : Int), (j : Int)]) (hi : i < N.length) (hj : j < N.length) (op : Nat) (hop : n.op = op) (hop2 : op < 23) (hkind : n.kind = 31) (hmn : S.todo.length + 3 ≤ 100000000) :
    Calls Tryd.prog 58 #[.pointer (some ⟨pb, 0, none⟩), .agg #[.int .i64 n.kind, .int .i64 n.at_, .int .i64 n.wh, .int .i64 n.close, .int .i64 n.decl, .int .i64 n.typ, .int .i64 n.op, .int .i64 n.val, .string s, .slice ka 2 kc]] w fun e w' => e = .returned (.tuple #[]) ∧ PSt w' B w'.heap.size pb (.slice no nn nc) ⟨S.text, exParts N n ++ S.todo, S.opn⟩ ∧ Below B w w' := by
  by_cases h : lv n = 3
  · exact putBinary_3 w B F pb S no nn nc N hS hF hT hN hnn n s ka kc i j hK hkB hkids hi hj op hop hop2 hkind hmn h
  · exact putBinary_n w B F pb S no nn nc N hS hF hT hN hnn n s ka kc i j hK hkB hkids hi hj op hop hop2 hkind hmn h

set_option maxRecDepth 10000 in
set_option maxHeartbeats 4000000 in
theorem putExpr_bin (w : World) (B F pb : Nat) (S : Ps) (no : Option Addr) (nn nc : Nat) (N : List Nd) (hS : PSt w B F pb (.slice no nn nc) S) (hF : F ≤ w.heap.size) (hT : TabT w B) (hN : Nodes w no nc N) (hnn : nn = N.length)
    (n : Nd) (s : ByteArray) (ka : Option Addr) (kc : Nat) (i j : Nat) (hK : Ints w ka kc n.kids) (hkB : ∀ b o, ka = some ⟨b, o, none⟩ → b < B) (hkids : n.kids = [(i : Int), (j : Int)]) (hi : i < N.length) (hj : j < N.length) (op : Nat) (hop : n.op = op) (hop2 : op < 23) (hkind : n.kind = 31) (hmn : S.todo.length + 3 ≤ 100000000) :
    Calls Tryd.prog 51 #[.pointer (some ⟨pb, 0, none⟩), .agg #[.int .i64 n.kind, .int .i64 n.at_, .int .i64 n.wh, .int .i64 n.close, .int .i64 n.decl, .int .i64 n.typ, .int .i64 n.op, .int .i64 n.val, .string s, .slice ka 2 kc]] w fun e w' => e = .returned (.tuple #[]) ∧ PSt w' B w'.heap.size pb (.slice no nn nc) ⟨S.text, exParts N n ++ S.todo, S.opn⟩ ∧ Below B w w' := by
  have hB := hS.le
  have HH : Hid (n.op = op ∧ op < 23 ∧ nn = N.length ∧ n.kids = [(i : Int), (j : Int)]) := ⟨hop, hop2, hnn, hkids⟩
  clear hop hop2 hnn hkids
  have HK31 : Hid (n.kind = 31) := hkind
  rw [hkind]
  clear hkind
  go_enter Tryd.func51, Tryd.ntmps51
  go_wp2_with fail
  have hb1 : ∀ (X : Obj) (K : Nat), K ≤ w.heap.size → Below K w (w.alloc X) := fun X K hK => (Below.refl _ _).alloc hK _
  have H := putBinary_st (w.alloc (.cells #[.int .i64 n.kind, .int .i64 n.at_, .int .i64 n.wh, .int .i64 n.close, .int .i64 n.decl, .int .i64 n.typ, .int .i64 n.op, .int .i64 n.val, .string s, .slice ka 2 kc] 39)) B F pb S no nn nc N (hS.below (hb1 _ F hF) (Nat.le_refl _)) (by simp; omega) (hT.below (hb1 _ B (by omega))) (hN.below (hb1 _ _ (Nat.le_refl _)) (Nat.le_refl _)) HH.out.2.2.1 n s ka kc i j (hK.below (hb1 _ _ (Nat.le_refl _)) (Nat.le_refl _)) hkB HH.out.2.2.2 hi hj op HH.out.1 HH.out.2.1 HK31.out hmn
  rw [HK31.out] at H
  refine H.mono ?_
  rintro e w' ⟨rfl, HS, hb⟩
  have hbb : Below B w w' := (hb1 _ B (by omega)).trans hb
  clear hb H
  go_wp2_with fail
  first
    | exact bodyPost_end (v := .tuple #[]) (by simp [results, Tryd.results51, go_sem]) rfl ⟨rfl, HS, hbb⟩
    | exact bodyPost_ret (v := .tuple #[]) (by simp [results, Tryd.results51, go_sem]) rfl ⟨rfl, HS, hbb⟩

set_option maxRecDepth 10000 in
set_option maxHeartbeats 4000000 in
theorem putSt_set (w : World) (B F pb : Nat) (nv : Value) (S : Ps) (hS : PSt w B F pb nv S) (hF : F ≤ w.heap.size)
    (n : Nd) (s : ByteArray) (hs : s = bs n.name) (ka : Option Addr) (kl kc : Nat) (hkl : kl = n.kids.length) (hK : Ints w ka kc n.kids) (hkind : n.kind = 5) (hmn : S.todo.length + 4 ≤ 100000000) :
    Calls Tryd.prog 50 #[.pointer (some ⟨pb, 0, none⟩), .agg #[.int .i64 n.kind, .int .i64 n.at_, .int .i64 n.wh, .int .i64 n.close, .int .i64 n.decl, .int .i64 n.typ, .int .i64 n.op, .int .i64 n.val, .string s, .slice ka kl kc]] w fun e w' => e = .returned (.tuple #[]) ∧ PSt w' B w'.heap.size pb nv ⟨S.text, stParts n ++ S.todo, S.opn⟩ ∧ Below B w w' := by
  have hB := hS.le
  have HP : Hid (stParts n = valParts n.name [32, 61, 32] n.kids) := by show _ = _; simp [stParts, hkind]
  rw [HP.out]
  rw [hkind, hs]
  have HKL : Hid (kl = n.kids.length) := hkl
  clear hkind hs hkl
  go_enter Tryd.func50, Tryd.ntmps50
  go_wp2_with fail
  refine (putWith_st _ B F pb nv S (hS.below ((Below.refl _ _).alloc hF _) (Nat.le_refl _)) (by simp; omega) hmn n.name [32, 61, 32] ka kc kl n.kids (hK.below ((Below.refl _ _).alloc (Nat.le_refl _) _) (Nat.le_refl _)) HKL.out).mono ?_
  rintro e w' ⟨rfl, HS, hb⟩
  have hbb : Below B w w' := ((Below.refl _ _).alloc (by omega) _).trans hb
  clear hb
  go_wp2_with fail
  first
    | exact bodyPost_end (v := .tuple #[]) (by simp [results, Tryd.results50, go_sem]) rfl ⟨rfl, HS, hbb⟩
    | exact bodyPost_ret (v := .tuple #[]) (by simp [results, Tryd.results50, go_sem]) rfl ⟨rfl, HS, hbb⟩
end Go.Proofs.YtjepkcebfojiaaaDoor
