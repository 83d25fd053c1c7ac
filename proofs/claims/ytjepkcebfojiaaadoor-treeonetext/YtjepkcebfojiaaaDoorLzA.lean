import Derived.Test.YtjepkcebfojiaaaDoorLyM
import Derived.Test.YtjepkcebfojiaaaDoorLyF
set_option linter.unusedVariables false
set_option linter.unusedSimpArgs false
namespace Go.Proofs.YtjepkcebfojiaaaDoor
open Go.ChangeShapes Go.WideShapes Go.ChangeAt Go.RowKit

set_option maxRecDepth 10000 in
set_option maxHeartbeats 4000000 in
theorem putSt_word (w : World) (B F pb : Nat) (nv : Value) (S : Ps) (hS : PSt w B F pb nv S) (hF : F ≤ w.heap.size)
    (n : Nd) (s : ByteArray) (ka : Option Addr) (kl kc : Nat) (hk : n.kind = 13 ∨ n.kind = 14) (hmn : S.todo.length + 1 ≤ 100000000) :
    Calls Tryd.prog 50 #[.pointer (some ⟨pb, 0, none⟩), .agg #[.int .i64 n.kind, .int .i64 n.at_, .int .i64 n.wh, .int .i64 n.close, .int .i64 n.decl, .int .i64 n.typ, .int .i64 n.op, .int .i64 n.val, .string s, .slice ka kl kc]] w fun e w' => e = .returned (.tuple #[]) ∧ PSt w' B w'.heap.size pb nv ⟨S.text, stParts n ++ S.todo, S.opn⟩ ∧ Below B w w' := by
  have hB := hS.le
  obtain ⟨L, hL⟩ : ∃ L, L = stParts n := ⟨_, rfl⟩
  rw [← hL]
  obtain ⟨k, at_, wh, close, decl, typ, op, val, name, kids⟩ := n
  simp only at hk hL ⊢
  rcases hk with rfl | rfl
  all_goals
    simp [stParts] at hL
    have HL : Hid _ := hL
    clear hL
    go_enter Tryd.func50, Tryd.ntmps50
    go_wp2_with (first
      | (go_at_call 44; refine (text_any _ _).mono ?_; rintro e w' ⟨rfl, rfl⟩)
      | (go_at_call 17; refine (put_new _ _ B F pb nv S L 1 _ (hS.below (by repeat (first | refine Below.alloc ?_ (by first | omega | (simp; done) | (simp; omega)) _ | refine Below.drew ?_ | exact Below.refl _ _)) (Nat.le_refl _)) (by simp; omega) (by simp) (by rw [HL.out]; rfl) (by rw [HL.out]; rfl) (by omega)).mono ?_; rintro e w' ⟨rfl, HS, hb, _⟩; have hbb : Below B w w' := (by refine Below.trans ?_ hb; exact (by repeat (first | refine Below.alloc ?_ (by first | omega | (simp; done) | (simp; omega)) _ | refine Below.drew ?_ | exact Below.refl _ _))); clear hb))
    first
      | exact bodyPost_end (v := .tuple #[]) (by simp [results, Tryd.results50, go_sem]) rfl ⟨rfl, HS, hbb⟩
      | exact bodyPost_ret (v := .tuple #[]) (by simp [results, Tryd.results50, go_sem]) rfl ⟨rfl, HS, hbb⟩

set_option maxRecDepth 10000 in
set_option maxHeartbeats 4000000 in
theorem putSt_ret (w : World) (B F pb : Nat) (nv : Value) (S : Ps) (hS : PSt w B F pb nv S) (hF : F ≤ w.heap.size)
    (n : Nd) (s : ByteArray) (ka : Option Addr) (kl kc : Nat) (hkl : kl = n.kids.length) (hK : Ints w ka kc n.kids) (hkind : n.kind = 12) (hmn : S.todo.length + 4 ≤ 100000000) :
    Calls Tryd.prog 50 #[.pointer (some ⟨pb, 0, none⟩), .agg #[.int .i64 n.kind, .int .i64 n.at_, .int .i64 n.wh, .int .i64 n.close, .int .i64 n.decl, .int .i64 n.typ, .int .i64 n.op, .int .i64 n.val, .string s, .slice ka kl kc]] w fun e w' => e = .returned (.tuple #[]) ∧ PSt w' B w'.heap.size pb nv ⟨S.text, stParts n ++ S.todo, S.opn⟩ ∧ Below B w w' := by
  have hB := hS.le
  have HP : Hid (stParts n = valParts [114, 101, 116, 117, 114, 110] [32] n.kids) := by show _ = _; simp [stParts, hkind]
  rw [HP.out]
  rw [hkind]
  have HKL : Hid (kl = n.kids.length) := hkl
  clear hkind hkl
  go_enter Tryd.func50, Tryd.ntmps50
  go_wp2_with fail
  refine (putWith_st _ B F pb nv S (hS.below ((Below.refl _ _).alloc hF _) (Nat.le_refl _)) (by simp; omega) hmn [114, 101, 116, 117, 114, 110] [32] ka kc kl n.kids (hK.below ((Below.refl _ _).alloc (Nat.le_refl _) _) (Nat.le_refl _)) HKL.out).mono ?_
  rintro e w' ⟨rfl, HS, hb⟩
  have hbb : Below B w w' := ((Below.refl _ _).alloc (by omega) _).trans hb
  clear hb
  go_wp2_with fail
  first
    | exact bodyPost_end (v := .tuple #[]) (by simp [results, Tryd.results50, go_sem]) rfl ⟨rfl, HS, hbb⟩
    | exact bodyPost_ret (v := .tuple #[]) (by simp [results, Tryd.results50, go_sem]) rfl ⟨rfl, HS, hbb⟩

set_option maxRecDepth 10000 in
set_option maxHeartbeats 4000000 in
theorem putSt_call (w : World) (B F pb : Nat) (nv : Value) (S : Ps) (hS : PSt w B F pb nv S) (hF : F ≤ w.heap.size)
    (N : List Nd) (n : Nd) (s : ByteArray) (ka : Option Addr) (kc : Nat) (j : Int) (hkids : n.kids = [j]) (hK : Ints w ka kc n.kids) (hkB : ∀ b o, ka = some ⟨b, o, none⟩ → b < B) (hk : n.kind = 7) (hmn : S.todo.length + 2 ≤ 100000000) :
    Calls Tryd.prog 50 #[.pointer (some ⟨pb, 0, none⟩), .agg #[.int .i64 n.kind, .int .i64 n.at_, .int .i64 n.wh, .int .i64 n.close, .int .i64 n.decl, .int .i64 n.typ, .int .i64 n.op, .int .i64 n.val, .string s, .slice ka 1 kc]] w fun e w' => e = .returned (.tuple #[]) ∧ PSt w' B w'.heap.size pb nv ⟨S.text, stParts n ++ S.todo, S.opn⟩ ∧ Below B w w' := by
  have hB := hS.le
  obtain ⟨b, o, rfl, hA⟩ := hK.out (by rw [hkids]; simp)
  have hbB := hkB b o rfl
  have p0 := hA.cell 0 (by rw [hkids]; simp)
  have hlb := hA.lt
  have hlb1 : b < w.heap.size + 1 := by omega
  have hlb2 : b < w.heap.size + 1 + 1 := by omega
  have hlb3 : b < w.heap.size + 1 + 1 + 1 := by omega
  have hkc : 1 ≤ kc := by have := hK.le; rw [hkids] at this; simpa using this
  have hkm := hK.mx
  simp [hkids] at p0
  obtain ⟨L, hL⟩ : ∃ L, L = stParts n := ⟨_, rfl⟩
  rw [← hL]
  obtain ⟨k, at_, wh, close, decl, typ, op, val, name, kids⟩ := n
  simp only at hk hL hkids ⊢
  subst hkids
  clear hK hkB hA
  subst hk
  simp [stParts] at hL
  have HL : Hid _ := hL
  clear hL
  go_enter Tryd.func50, Tryd.ntmps50
  go_wp2_with (first
    | (go_at_call 44; refine (text_any _ _).mono ?_; rintro e w' ⟨rfl, rfl⟩)
    | (go_at_call 18; refine (whole_any _ _).mono ?_; rintro e w' ⟨rfl, rfl⟩)
    | (go_at_call 17; refine (put_new _ _ B F pb nv S L 2 _ (hS.below (by repeat (first | refine Below.alloc ?_ (by first | omega | (simp; done) | (simp; omega)) _ | refine Below.drew ?_ | exact Below.refl _ _)) (Nat.le_refl _)) (by simp; omega) (by simp) (by rw [HL.out]; rfl) (by rw [HL.out]; rfl) (by omega)).mono ?_; rintro e w' ⟨rfl, HS, hb, _⟩; have hbb : Below B w w' := (by refine Below.trans ?_ hb; exact (by repeat (first | refine Below.alloc ?_ (by first | omega | (simp; done) | (simp; omega)) _ | refine Below.drew ?_ | exact Below.refl _ _))); clear hb))
  first
    | exact bodyPost_end (v := .tuple #[]) (by simp [results, Tryd.results50, go_sem]) rfl ⟨rfl, HS, hbb⟩
    | exact bodyPost_ret (v := .tuple #[]) (by simp [results, Tryd.results50, go_sem]) rfl ⟨rfl, HS, hbb⟩

end Go.Proofs.YtjepkcebfojiaaaDoor
namespace Go.Proofs.YtjepkcebfojiaaaDoor
open Go.ChangeShapes Go.WideShapes Go.ChangeAt Go.RowKit

set_option maxRecDepth 10000 in
set_option maxHeartbeats 4000000 in
theorem putSt_tell (w : World) (B F pb : Nat) (nv : Value) (S : Ps) (hS : PSt w B F pb nv S) (hF : F ≤ w.heap.size)
    (N : List Nd) (n : Nd) (s : ByteArray) (ka : Option Addr) (kc : Nat) (j : Int) (hkids : n.kids = [j]) (hK : Ints w ka kc n.kids) (hkB : ∀ b o, ka = some ⟨b, o, none⟩ → b < B) (hk : n.kind = 8 ∨ n.kind = 9) (hmn : S.todo.length + 3 ≤ 100000000) :
    Calls Tryd.prog 50 #[.pointer (some ⟨pb, 0, none⟩), .agg #[.int .i64 n.kind, .int .i64 n.at_, .int .i64 n.wh, .int .i64 n.close, .int .i64 n.decl, .int .i64 n.typ, .int .i64 n.op, .int .i64 n.val, .string s, .slice ka 1 kc]] w fun e w' => e = .returned (.tuple #[]) ∧ PSt w' B w'.heap.size pb nv ⟨S.text, stParts n ++ S.todo, S.opn⟩ ∧ Below B w w' := by
  have hB := hS.le
  obtain ⟨b, o, rfl, hA⟩ := hK.out (by rw [hkids]; simp)
  have hbB := hkB b o rfl
  have p0 := hA.cell 0 (by rw [hkids]; simp)
  have hlb := hA.lt
  have hlb1 : b < w.heap.size + 1 := by omega
  have hlb2 : b < w.heap.size + 1 + 1 := by omega
  have hlb3 : b < w.heap.size + 1 + 1 + 1 := by omega
  have hkc : 1 ≤ kc := by have := hK.le; rw [hkids] at this; simpa using this
  have hkm := hK.mx
  simp [hkids] at p0
  obtain ⟨L, hL⟩ : ∃ L, L = stParts n := ⟨_, rfl⟩
  rw [← hL]
  obtain ⟨k, at_, wh, close, decl, typ, op, val, name, kids⟩ := n
  simp only at hk hL hkids ⊢
  subst hkids
  clear hK hkB hA
  rcases hk with rfl | rfl
  all_goals
    simp [stParts] at hL
    have HL : Hid _ := hL
    clear hL
    go_enter Tryd.func50, Tryd.ntmps50
    go_wp2_with fail
    go_region_with (first
      | (go_at_call 44; refine (text_any _ _).mono ?_; rintro e w' ⟨rfl, rfl⟩)
      | (go_at_call 18; refine (whole_any _ _).mono ?_; rintro e w' ⟨rfl, rfl⟩)
      | (go_at_call 17; refine (put_newD _ _ B F pb nv S L 3 _ (hS.below (by repeat (first | refine Below.alloc ?_ (by first | omega | (simp; done) | (simp; omega)) _ | refine Below.drew ?_ | exact Below.refl _ _)) (Nat.le_refl _)) (by simp; omega) (by simp) (by rw [HL.out]; rfl) (by rw [HL.out]; rfl) (by omega)).mono ?_; rintro e w' ⟨rfl, HS, hb, _⟩; have hbb : Below B w w' := (by refine Below.trans ?_ hb; exact (by repeat (first | refine Below.alloc ?_ (by first | omega | (simp; done) | (simp; omega)) _ | refine Below.drew ?_ | exact Below.refl _ _))); clear hb))
    all_goals (try go_wp2_with fail)
    all_goals first
      | exact bodyPost_end (v := .tuple #[]) (by simp [results, Tryd.results50, go_sem]) rfl ⟨rfl, HS, hbb⟩
      | exact bodyPost_ret (v := .tuple #[]) (by simp [results, Tryd.results50, go_sem]) rfl ⟨rfl, HS, hbb⟩

end Go.Proofs.YtjepkcebfojiaaaDoor
namespace Go.Proofs.YtjepkcebfojiaaaDoor
open Go.ChangeShapes Go.WideShapes Go.ChangeAt Go.RowKit

set_option maxRecDepth 10000 in
set_option maxHeartbeats 4000000 in
theorem putExpr_one (w : World) (B F pb : Nat) (nv : Value) (S : Ps) (hS : PSt w B F pb nv S) (hF : F ≤ w.heap.size)
    (N : List Nd) (n : Nd) (s : ByteArray) (ka : Option Addr) (kc : Nat) (j : Int) (hkids : n.kids = [j]) (hK : Ints w ka kc n.kids) (hkB : ∀ b o, ka = some ⟨b, o, none⟩ → b < B) (hk : n.kind = 27 ∨ n.kind = 28) (hmn : S.todo.length + 3 ≤ 100000000) :
    Calls Tryd.prog 51 #[.pointer (some ⟨pb, 0, none⟩), .agg #[.int .i64 n.kind, .int .i64 n.at_, .int .i64 n.wh, .int .i64 n.close, .int .i64 n.decl, .int .i64 n.typ, .int .i64 n.op, .int .i64 n.val, .string s, .slice ka 1 kc]] w fun e w' => e = .returned (.tuple #[]) ∧ PSt w' B w'.heap.size pb nv ⟨S.text, exParts N n ++ S.todo, S.opn⟩ ∧ Below B w w' := by
  have hB := hS.le
  obtain ⟨b, o, rfl, hA⟩ := hK.out (by rw [hkids]; simp)
  have hbB := hkB b o rfl
  have p0 := hA.cell 0 (by rw [hkids]; simp)
  have hlb := hA.lt
  have hlb1 : b < w.heap.size + 1 := by omega
  have hlb2 : b < w.heap.size + 1 + 1 := by omega
  have hlb3 : b < w.heap.size + 1 + 1 + 1 := by omega
  have hkc : 1 ≤ kc := by have := hK.le; rw [hkids] at this; simpa using this
  have hkm := hK.mx
  simp [hkids] at p0
  obtain ⟨L, hL⟩ : ∃ L, L = exParts N n := ⟨_, rfl⟩
  rw [← hL]
  obtain ⟨k, at_, wh, close, decl, typ, op, val, name, kids⟩ := n
  simp only at hk hL hkids ⊢
  subst hkids
  clear hK hkB hA
  rcases hk with rfl | rfl
  all_goals
    simp [exParts] at hL
    have HL : Hid _ := hL
    clear hL
    go_enter Tryd.func51, Tryd.ntmps51
    go_wp2_with fail
    go_region_with (first
      | (go_at_call 44; refine (text_any _ _).mono ?_; rintro e w' ⟨rfl, rfl⟩)
      | (go_at_call 18; refine (whole_any _ _).mono ?_; rintro e w' ⟨rfl, rfl⟩)
      | (go_at_call 17; refine (put_newD _ _ B F pb nv S L 3 _ (hS.below (by repeat (first | refine Below.alloc ?_ (by first | omega | (simp; done) | (simp; omega)) _ | refine Below.drew ?_ | exact Below.refl _ _)) (Nat.le_refl _)) (by simp; omega) (by simp) (by rw [HL.out]; rfl) (by rw [HL.out]; rfl) (by omega)).mono ?_; rintro e w' ⟨rfl, HS, hb, _⟩; have hbb : Below B w w' := (by refine Below.trans ?_ hb; exact (by repeat (first | refine Below.alloc ?_ (by first | omega | (simp; done) | (simp; omega)) _ | refine Below.drew ?_ | exact Below.refl _ _))); clear hb))
    all_goals (try go_wp2_with fail)
    all_goals first
      | exact bodyPost_end (v := .tuple #[]) (by simp [results, Tryd.results51, go_sem]) rfl ⟨rfl, HS, hbb⟩
      | exact bodyPost_ret (v := .tuple #[]) (by simp [results, Tryd.results51, go_sem]) rfl ⟨rfl, HS, hbb⟩
end Go.Proofs.YtjepkcebfojiaaaDoor
namespace Go.Proofs.YtjepkcebfojiaaaDoor
open Go.ChangeShapes Go.WideShapes Go.ChangeAt Go.RowKit

set_option maxRecDepth 10000 in
set_option maxHeartbeats 4000000 in
theorem putExpr_index (w : World) (B F pb : Nat) (S : Ps) (no : Option Addr) (nn nc : Nat) (N : List Nd) (hS : PSt w B F pb (.slice no nn nc) S) (hF : F ≤ w.heap.size) (hT : TabT w B) (hN : Nodes w no nc N) (hnn : nn = N.length)
    (n : Nd) (s : ByteArray) (ka : Option Addr) (kc : Nat) (i j : Nat) (hK : Ints w ka kc n.kids) (hkB : ∀ b o, ka = some ⟨b, o, none⟩ → b < B) (hkids : n.kids = [(i : Int), (j : Int)]) (hi : i < N.length) (hkind : n.kind = 29) (hmn : S.todo.length + 4 ≤ 100000000) :
    Calls Tryd.prog 51 #[.pointer (some ⟨pb, 0, none⟩), .agg #[.int .i64 n.kind, .int .i64 n.at_, .int .i64 n.wh, .int .i64 n.close, .int .i64 n.decl, .int .i64 n.typ, .int .i64 n.op, .int .i64 n.val, .string s, .slice ka 2 kc]] w fun e w' => e = .returned (.tuple #[]) ∧ PSt w' B w'.heap.size pb (.slice no nn nc) ⟨S.text, exParts N n ++ S.todo, S.opn⟩ ∧ Below B w w' := by
  have hB := hS.le
  obtain ⟨tv, dv, n1, m1, hv⟩ := hS.out
  obtain ⟨b, o, rfl, hA⟩ := hK.out (by rw [hkids]; simp)
  have hbB := hkB b o rfl
  have p0 := hA.cell 0 (by rw [hkids]; simp)
  have p1 := hA.cell 1 (by rw [hkids]; simp)
  have hlb := hA.lt
  have hkc : 2 ≤ kc := by have := hK.le; rw [hkids] at this; simpa using this
  simp [hkids] at p0 p1
  obtain ⟨P1, hP1⟩ : ∃ p, p = vp N i 7 := ⟨_, rfl⟩
  have HP1 : Hid (P1 = vp N i 7) := hP1
  have HPP : Hid (exParts N n = [P1, tp [91], wp j, tp [93]]) := by
    show _ = _
    simp [exParts, hkind, hkids, hP1]
  obtain ⟨kind, at_, wh, close, decl, typ, op, val, name, kids⟩ := n
  simp only at hkind ⊢
  subst hkind
  clear hkids hP1 hK hkB hA
  have B9 : (w.alloc (.cells #[.int .i64 29, .int .i64 at_, .int .i64 wh, .int .i64 close, .int .i64 decl, .int .i64 typ, .int .i64 op, .int .i64 val, .string s, .slice (some ⟨b, o, none⟩) 2 kc] 39)).cell? ⟨w.heap.size, 9, none⟩ = some (.slice (some ⟨b, o, none⟩) 2 kc) := by simp
  go_enter Tryd.func51, Tryd.ntmps51
  go_wp2_with fail
  go_region_held (fun w' => w'.cell? ⟨w.heap.size, 9, none⟩ = some (.slice (some ⟨b, o, none⟩) 2 kc) ∧ w'.cell? ⟨b, o, none⟩ = some (.int .i64 i) ∧ w'.cell? ⟨b, o + 1, none⟩ = some (.int .i64 j)) (refine ⟨?_, ?_, ?_⟩ <;> (repeat (first | with_reducible exact B9 | with_reducible exact p0 | with_reducible exact p1 | with_reducible refine HKP _ _ (by first | (left; simp; omega) | (left; omega) | (right; simp; omega) | (right; omega)) ?_ | with_reducible refine cellD ?_ | with_reducible refine cellA ?_)))
    (first
      | (go_at_call 57; refine (value_at _ pb tv dv S.opn no nn nc N (hv.move (F' := F) (Below.block (by repeat (first | refine Below.alloc ?_ (by first | omega | (simp; done) | (simp; omega)) _ | refine Below.drew ?_ | exact Below.refl _ _))) (Nat.le_refl _)).prv (hN.below (K := w.heap.size) (by repeat (first | refine Below.alloc ?_ (by first | omega | (simp; done) | (simp; omega)) _ | refine Below.drew ?_ | exact Below.refl _ _)) (Nat.le_refl _)) hnn i hi _ P1 HP1.out).mono ?_; rintro e w' ⟨rfl, o1, o2, o3, rfl⟩)
      | (go_at_call 44; refine (text_any _ _).mono ?_; rintro e w' ⟨rfl, rfl⟩)
      | (go_at_call 18; refine (whole_any _ _).mono ?_; rintro e w' ⟨rfl, rfl⟩)
      | (go_at_call 17; refine (put_newD _ _ B F pb (.slice no nn nc) S [P1, tp [91], wp j, tp [93]] 4 _ (hS.below (by repeat (first | refine Below.alloc ?_ (by first | omega | (simp; done) | (simp; omega)) _ | refine Below.drew ?_ | exact Below.refl _ _)) (Nat.le_refl _)) (by simp; omega) (by simp) rfl rfl (by omega)).mono ?_; rintro e w' ⟨rfl, HS, hb, HKP⟩; have hbb : Below B w w' := (by refine Below.trans ?_ hb; exact (by repeat (first | refine Below.alloc ?_ (by first | omega | (simp; done) | (simp; omega)) _ | refine Below.drew ?_ | exact Below.refl _ _)))))
  all_goals (try go_wp2_with fail)
  all_goals first
    | exact bodyPost_end (v := .tuple #[]) (by simp [results, Tryd.results51, go_sem]) rfl ⟨rfl, by rw [HPP.out]; exact HS, hbb⟩
    | exact bodyPost_ret (v := .tuple #[]) (by simp [results, Tryd.results51, go_sem]) rfl ⟨rfl, by rw [HPP.out]; exact HS, hbb⟩
end Go.Proofs.YtjepkcebfojiaaaDoor
namespace Go.Proofs.YtjepkcebfojiaaaDoor
open Go.ChangeShapes Go.WideShapes Go.ChangeAt Go.RowKit

set_option maxRecDepth 10000 in
set_option maxHeartbeats 4000000 in
theorem putExpr_unary (w : World) (B F pb : Nat) (S : Ps) (no : Option Addr) (nn nc : Nat) (N : List Nd) (hS : PSt w B F pb (.slice no nn nc) S) (hF : F ≤ w.heap.size) (hT : TabT w B) (hN : Nodes w no nc N) (hnn : nn = N.length)
    (n : Nd) (s : ByteArray) (ka : Option Addr) (kc : Nat) (i : Nat) (hK : Ints w ka kc n.kids) (hkB : ∀ b o, ka = some ⟨b, o, none⟩ → b < B) (hkids : n.kids = [(i : Int)]) (hi : i < N.length) (op : Nat) (hop : n.op = op) (hop2 : op < 23) (hkind : n.kind = 30) (hmn : S.todo.length + 2 ≤ 100000000) :
    Calls Tryd.prog 51 #[.pointer (some ⟨pb, 0, none⟩), .agg #[.int .i64 n.kind, .int .i64 n.at_, .int .i64 n.wh, .int .i64 n.close, .int .i64 n.decl, .int .i64 n.typ, .int .i64 n.op, .int .i64 n.val, .string s, .slice ka 1 kc]] w fun e w' => e = .returned (.tuple #[]) ∧ PSt w' B w'.heap.size pb (.slice no nn nc) ⟨S.text, exParts N n ++ S.todo, S.opn⟩ ∧ Below B w w' := by
  have hB := hS.le
  obtain ⟨tv, dv, n1, m1, hv⟩ := hS.out
  obtain ⟨b, o, rfl, hA⟩ := hK.out (by rw [hkids]; simp)
  have hbB := hkB b o rfl
  have p0 := hA.cell 0 (by rw [hkids]; simp)
  have hlb := hA.lt
  have hkc : 1 ≤ kc := by have := hK.le; rw [hkids] at this; simpa using this
  simp [hkids] at p0
  have t1 := hT.ops op hop2
  obtain ⟨u, hu⟩ : ∃ u, u = bs (OPS.getD op []) := ⟨_, rfl⟩
  rw [← hu] at t1
  obtain ⟨P1, hP1⟩ : ∃ p, p = vp N i 6 := ⟨_, rfl⟩
  have HP1 : Hid (P1 = vp N i 6) := hP1
  have HU : Hid (u = bs (OPS.getD op [])) := hu
  have HPP : Hid (exParts N n = [tp (OPS.getD op []), P1]) := by
    show _ = _
    simp [exParts, hkind, hkids, hP1, opT, hop, List.getD]
  rw [hop]
  have hlow := hT.low
  obtain ⟨kind, at_, wh, close, decl, typ, opn, val, name, kids⟩ := n
  simp only at hkind hop ⊢
  subst hkind hop
  clear hkids hP1 hK hkB hA hu
  have hg3 : 3 < B := hT.low.2.1
  have B9 : (w.alloc (.cells #[.int .i64 30, .int .i64 at_, .int .i64 wh, .int .i64 close, .int .i64 decl, .int .i64 typ, .int .i64 (op : Int), .int .i64 val, .string s, .slice (some ⟨b, o, none⟩) 1 kc] 39)).cell? ⟨w.heap.size, 9, none⟩ = some (.slice (some ⟨b, o, none⟩) 1 kc) := by simp
  have B6 : (w.alloc (.cells #[.int .i64 30, .int .i64 at_, .int .i64 wh, .int .i64 close, .int .i64 decl, .int .i64 typ, .int .i64 (op : Int), .int .i64 val, .string s, .slice (some ⟨b, o, none⟩) 1 kc] 39)).cell? ⟨w.heap.size, 6, none⟩ = some (.int .i64 (op : Int)) := by simp
  go_enter Tryd.func51, Tryd.ntmps51
  go_wp2_with fail
  go_region_held (fun w' => w'.cell? ⟨w.heap.size, 9, none⟩ = some (.slice (some ⟨b, o, none⟩) 1 kc) ∧ w'.cell? ⟨w.heap.size, 6, none⟩ = some (.int .i64 op) ∧ w'.cell? ⟨b, o, none⟩ = some (.int .i64 i) ∧ w'.cell? ⟨3, op, none⟩ = some (.string u)) (refine ⟨?_, ?_, ?_, ?_⟩ <;> (repeat (first | with_reducible exact B9 | with_reducible exact B6 | with_reducible exact p0 | with_reducible exact t1 | with_reducible refine HKP _ _ (by first | (left; simp; omega) | (left; omega) | (right; simp; omega) | (right; omega)) ?_ | with_reducible refine cellD ?_ | with_reducible refine cellA ?_)))
    (first
      | (go_at_call 57; refine (value_at _ pb tv dv S.opn no nn nc N (hv.move (F' := F) (Below.block (by repeat (first | refine Below.alloc ?_ (by first | omega | (simp; done) | (simp; omega)) _ | refine Below.drew ?_ | exact Below.refl _ _))) (Nat.le_refl _)).prv (hN.below (K := w.heap.size) (by repeat (first | refine Below.alloc ?_ (by first | omega | (simp; done) | (simp; omega)) _ | refine Below.drew ?_ | exact Below.refl _ _)) (Nat.le_refl _)) hnn i hi _ P1 HP1.out).mono ?_; rintro e w' ⟨rfl, o1, o2, o3, rfl⟩)
      | (go_at_call 44; refine (text_any _ _).mono ?_; rintro e w' ⟨rfl, rfl⟩)
      | (go_at_call 17; refine (put_newD _ _ B F pb (.slice no nn nc) S [tp (OPS.getD op []), P1] 2 _ (hS.below (by repeat (first | refine Below.alloc ?_ (by first | omega | (simp; done) | (simp; omega)) _ | refine Below.drew ?_ | exact Below.refl _ _)) (Nat.le_refl _)) (by simp; omega) (by simp) (by rw [HU.out]; rfl) rfl (by omega)).mono ?_; rintro e w' ⟨rfl, HS, hb, HKP⟩; have hbb : Below B w w' := (by refine Below.trans ?_ hb; exact (by repeat (first | refine Below.alloc ?_ (by first | omega | (simp; done) | (simp; omega)) _ | refine Below.drew ?_ | exact Below.refl _ _)))))
  all_goals (try go_wp2_with fail)
  all_goals first
    | exact bodyPost_end (v := .tuple #[]) (by simp [results, Tryd.results51, go_sem]) rfl ⟨rfl, by rw [HPP.out]; exact HS, hbb⟩
    | exact bodyPost_ret (v := .tuple #[]) (by simp [results, Tryd.results51, go_sem]) rfl ⟨rfl, by rw [HPP.out]; exact HS, hbb⟩
end Go.Proofs.YtjepkcebfojiaaaDoor
namespace Go.Proofs.YtjepkcebfojiaaaDoor
open Go.ChangeShapes Go.WideShapes Go.ChangeAt Go.RowKit

set_option maxRecDepth 10000 in
set_option maxHeartbeats 4000000 in
theorem putSt_setAt (w : World) (B F pb : Nat) (nv : Value) (S : Ps) (hS : PSt w B F pb nv S) (hF : F ≤ w.heap.size)
    (n : Nd) (s : ByteArray) (hs : s = bs n.name) (hnl : n.name.length ≤ 1000) (ka : Option Addr) (kc : Nat) (i j : Int) (hK : Ints w ka kc n.kids) (hkB : ∀ b o, ka = some ⟨b, o, none⟩ → b < B) (hkids : n.kids = [i, j]) (hkind : n.kind = 6) (hmn : S.todo.length + 5 ≤ 100000000) :
    Calls Tryd.prog 50 #[.pointer (some ⟨pb, 0, none⟩), .agg #[.int .i64 n.kind, .int .i64 n.at_, .int .i64 n.wh, .int .i64 n.close, .int .i64 n.decl, .int .i64 n.typ, .int .i64 n.op, .int .i64 n.val, .string s, .slice ka 2 kc]] w fun e w' => e = .returned (.tuple #[]) ∧ PSt w' B w'.heap.size pb nv ⟨S.text, stParts n ++ S.todo, S.opn⟩ ∧ Below B w w' := by
  have hB := hS.le
  obtain ⟨tv, dv, n1, m1, hv⟩ := hS.out
  obtain ⟨b, o, rfl, hA⟩ := hK.out (by rw [hkids]; simp)
  have hbB := hkB b o rfl
  have p0 := hA.cell 0 (by rw [hkids]; simp)
  have p1 := hA.cell 1 (by rw [hkids]; simp)
  have hlb := hA.lt
  have hkc : 2 ≤ kc := by have := hK.le; rw [hkids] at this; simpa using this
  simp [hkids] at p0 p1
  have HPP : Hid (stParts n = [tp (n.name ++ [91]), wp i, tp [93, 32, 61, 32], wp j, tp [59]]) := by
    show _ = _
    simp [stParts, hkind, hkids]
  have hsz : s.size ≤ 1000 := by rw [hs, bs_size]; exact hnl
  obtain ⟨uu, huu⟩ : ∃ uu, s ++ (⟨#[91]⟩ : ByteArray) = uu := ⟨_, rfl⟩
  have HU : Hid (uu = bs (n.name ++ [91])) := by
    show _ = _
    rw [← huu, hs, ← bs_appF]; rfl
  obtain ⟨kind, at_, wh, close, decl, typ, op, val, name, kids⟩ := n
  simp only at hkind HU ⊢
  subst hkind
  clear hkids hK hkB hA hs hnl
  have B9 : (w.alloc (.cells #[.int .i64 6, .int .i64 at_, .int .i64 wh, .int .i64 close, .int .i64 decl, .int .i64 typ, .int .i64 op, .int .i64 val, .string s, .slice (some ⟨b, o, none⟩) 2 kc] 39)).cell? ⟨w.heap.size, 9, none⟩ = some (.slice (some ⟨b, o, none⟩) 2 kc) := by simp
  have B8 : (w.alloc (.cells #[.int .i64 6, .int .i64 at_, .int .i64 wh, .int .i64 close, .int .i64 decl, .int .i64 typ, .int .i64 op, .int .i64 val, .string s, .slice (some ⟨b, o, none⟩) 2 kc] 39)).cell? ⟨w.heap.size, 8, none⟩ = some (.string s) := by simp
  go_enter Tryd.func50, Tryd.ntmps50
  go_wp2_with fail
  go_region_held (fun w' => w'.cell? ⟨w.heap.size, 9, none⟩ = some (.slice (some ⟨b, o, none⟩) 2 kc) ∧ w'.cell? ⟨w.heap.size, 8, none⟩ = some (.string s) ∧ w'.cell? ⟨b, o, none⟩ = some (.int .i64 i) ∧ w'.cell? ⟨b, o + 1, none⟩ = some (.int .i64 j)) (refine ⟨?_, ?_, ?_, ?_⟩ <;> (repeat (first | with_reducible exact B9 | with_reducible exact B8 | with_reducible exact p0 | with_reducible exact p1 | with_reducible refine HKP _ _ (by first | (left; simp; omega) | (left; omega) | (right; simp; omega) | (right; omega)) ?_ | with_reducible refine cellD ?_ | with_reducible refine cellA ?_)))
    (first
      | (go_at_call 44; refine (text_any _ _).mono ?_; rintro e w' ⟨rfl, rfl⟩)
      | (go_at_call 18; refine (whole_any _ _).mono ?_; rintro e w' ⟨rfl, rfl⟩)
      | (go_at_call 17; refine (put_newD _ _ B F pb nv S [tp (name ++ [91]), wp i, tp [93, 32, 61, 32], wp j, tp [59]] 5 _ (hS.below (by repeat (first | refine Below.alloc ?_ (by first | omega | (simp; done) | (simp; omega)) _ | refine Below.drew ?_ | exact Below.refl _ _)) (Nat.le_refl _)) (by simp; omega) (by simp) (by rw [HU.out]; rfl) rfl (by omega)).mono ?_; rintro e w' ⟨rfl, HS, hb, HKP⟩; have hbb : Below B w w' := (by refine Below.trans ?_ hb; exact (by repeat (first | refine Below.alloc ?_ (by first | omega | (simp; done) | (simp; omega)) _ | refine Below.drew ?_ | exact Below.refl _ _)))))
  all_goals (try go_wp2_with fail)
  all_goals first
    | exact bodyPost_end (v := .tuple #[]) (by simp [results, Tryd.results50, go_sem]) rfl ⟨rfl, by rw [HPP.out]; exact HS, hbb⟩
    | exact bodyPost_ret (v := .tuple #[]) (by simp [results, Tryd.results50, go_sem]) rfl ⟨rfl, by rw [HPP.out]; exact HS, hbb⟩
end Go.Proofs.YtjepkcebfojiaaaDoor
