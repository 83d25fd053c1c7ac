import Derived.Test.YtjepkcebfojiaaaDoorLyM
import Derived.Test.YtjepkcebfojiaaaDoorTrIt
set_option linter.unusedVariables false
set_option linter.unusedSimpArgs false
namespace Go.Proofs.YtjepkcebfojiaaaDoor
open Go.ChangeShapes Go.WideShapes Go.ChangeAt Go.RowKit

set_option maxRecDepth 10000 in
set_option maxHeartbeats 4000000 in
theorem putExpr_leaf (w : World) (B F pb : Nat) (nv : Value) (S : Ps) (hS : PSt w B F pb nv S) (hF : F ≤ w.heap.size)
    (N : List Nd) (n : Nd) (s : ByteArray) (hs : s = bs n.name) (ka : Option Addr) (kl kc : Nat) (hk : n.kind = 21 ∨ n.kind = 22 ∨ n.kind = 23 ∨ n.kind = 24 ∨ n.kind = 26) (hmn : S.todo.length + 1 ≤ 100000000) :
    Calls Tryd.prog 51 #[.pointer (some ⟨pb, 0, none⟩), .agg #[.int .i64 n.kind, .int .i64 n.at_, .int .i64 n.wh, .int .i64 n.close, .int .i64 n.decl, .int .i64 n.typ, .int .i64 n.op, .int .i64 n.val, .string s, .slice ka kl kc]] w fun e w' => e = .returned (.tuple #[]) ∧ PSt w' B w'.heap.size pb nv ⟨S.text, exParts N n ++ S.todo, S.opn⟩ ∧ Below B w w' := by
  have hB := hS.le
  obtain ⟨L, hL⟩ : ∃ L, L = exParts N n := ⟨_, rfl⟩
  rw [← hL]
  obtain ⟨k, at_, wh, close, decl, typ, op, val, name, kids⟩ := n
  simp only at hs hk hL ⊢
  rcases hk with rfl | rfl | rfl | rfl | rfl
  all_goals
    simp [exParts] at hL
    have HL : Hid _ := hL
    have HS0 : Hid _ := hs
    clear hL hs
    go_enter Tryd.func51, Tryd.ntmps51
    go_wp2_with (first
      | (go_at_call 44; refine (text_any _ _).mono ?_; rintro e w' ⟨rfl, rfl⟩)
      | (go_at_call 17; refine (put_new _ _ B F pb nv S L 1 _ (hS.below (by repeat (first | refine Below.alloc ?_ (by first | omega | (simp; done) | (simp; omega)) _ | refine Below.drew ?_ | exact Below.refl _ _)) (Nat.le_refl _)) (by simp; omega) (by simp) (by rw [HL.out]; first | rfl | (rw [HS0.out]; rfl)) (by rw [HL.out]; rfl) (by omega)).mono ?_; rintro e w' ⟨rfl, HS, hb, _⟩; have hbb : Below B w w' := (by refine Below.trans ?_ hb; exact (by repeat (first | refine Below.alloc ?_ (by first | omega | (simp; done) | (simp; omega)) _ | refine Below.drew ?_ | exact Below.refl _ _))); clear hb))
    first
      | exact bodyPost_end (v := .tuple #[]) (by simp [results, Tryd.results51, go_sem]) rfl ⟨rfl, HS, hbb⟩
      | exact bodyPost_ret (v := .tuple #[]) (by simp [results, Tryd.results51, go_sem]) rfl ⟨rfl, HS, hbb⟩

theorem dec_dcm : ∀ (n : Nat), Lib.decDigits n = dcm n := by
  intro n
  induction n using Nat.strongRecOn with
  | _ n ih =>
    rw [Lib.decDigits, dcm]
    by_cases h : n < 10
    · rw [dif_pos h, dif_pos h]; rfl
    · rw [dif_neg h, dif_neg h, ih (n / 10) (by omega)]; rfl
theorem itoa_dcm {n : Int} (h : 0 ≤ n) : Lib.itoa n = dcm n.toNat := by
  unfold Lib.itoa
  rw [if_neg (by omega)]
  exact dec_dcm _

/-- The table of powers of ten, that strconv reads. -/
structure TabP (w : World) : Prop where
  out : Lib.TabIs Tryd.prog w "internal/strconv.uint64pow10" .u64 Lib.pow10Tab

theorem itoa_at (w : World) (n : Int) (h0 : 0 ≤ n) (h1 : n ≤ 9223372036854775807) (hT : TabP w) (s : ByteArray) (hs : s = bs (dcm n.toNat)) :
    Calls Tryd.prog 56 #[.int .i64 n] w fun e w' => e = .returned (.string s) ∧ Below w.heap.size w w' := by
  refine (itoa_any n (by omega) h1 w hT.out).mono ?_
  rintro e w' ⟨rfl, k, os, rfl⟩
  refine ⟨by rw [hs, itoa_dcm h0]; rfl, ?_⟩
  exact ⟨rfl, rfl, rfl, by simp [Sort.grow], fun g hg => by simp [Sort.grow, Array.getElem?_append, hg]⟩

set_option maxRecDepth 10000 in
set_option maxHeartbeats 4000000 in
theorem putExpr_num (w : World) (B F pb : Nat) (nv : Value) (S : Ps) (hS : PSt w B F pb nv S) (hF : F ≤ w.heap.size) (hP : ∀ w', Below B w w' → TabP w')
    (N : List Nd) (n : Nd) (s : ByteArray) (ka : Option Addr) (kl kc : Nat) (hk : n.kind = 20) (hv0 : 0 ≤ n.val) (hv1 : n.val ≤ 9223372036854775807) (hmn : S.todo.length + 1 ≤ 100000000) :
    Calls Tryd.prog 51 #[.pointer (some ⟨pb, 0, none⟩), .agg #[.int .i64 n.kind, .int .i64 n.at_, .int .i64 n.wh, .int .i64 n.close, .int .i64 n.decl, .int .i64 n.typ, .int .i64 n.op, .int .i64 n.val, .string s, .slice ka kl kc]] w fun e w' => e = .returned (.tuple #[]) ∧ PSt w' B w'.heap.size pb nv ⟨S.text, exParts N n ++ S.todo, S.opn⟩ ∧ Below B w w' := by
  have hB := hS.le
  obtain ⟨L, hL⟩ : ∃ L, L = exParts N n := ⟨_, rfl⟩
  rw [← hL]
  obtain ⟨k, at_, wh, close, decl, typ, op, val, name, kids⟩ := n
  simp only at hk hL hv0 hv1 ⊢
  subst hk
  simp [exParts] at hL
  obtain ⟨t, ht⟩ : ∃ t, t = bs (dcm val.toNat) := ⟨_, rfl⟩
  have HL : Hid _ := hL
  have HT : Hid _ := ht
  have HPP : Hid _ := hP
  clear hL ht hP
  go_enter Tryd.func51, Tryd.ntmps51
  go_wp2_with fail
  refine (itoa_at _ val hv0 hv1 (HPP.out _ (by repeat (first | refine Below.alloc ?_ (by first | omega | (simp; done) | (simp; omega)) _ | refine Below.drew ?_ | exact Below.refl _ _))) t HT.out).mono ?_
  rintro e w1 ⟨rfl, hb1⟩
  have hbw : Below F w w1 := by refine Below.trans ?_ (hb1.mono (by simp; omega)); exact (by repeat (first | refine Below.alloc ?_ (by first | omega | (simp; done) | (simp; omega)) _ | refine Below.drew ?_ | exact Below.refl _ _))
  have hs1 := hbw.size
  go_wp2_with (first
    | (go_at_call 44; refine (text_any _ _).mono ?_; rintro e w' ⟨rfl, rfl⟩)
    | (go_at_call 17; refine (put_new _ _ B F pb nv S L 1 _ ((hS.below hbw (Nat.le_refl _)).below (by repeat (first | refine Below.alloc ?_ (by first | omega | (simp; done) | (simp; omega)) _ | refine Below.drew ?_ | exact Below.refl _ _)) (Nat.le_refl _)) (by simp; omega) (by simp) (by rw [HL.out, HT.out]; rfl) (by rw [HL.out]; rfl) (by omega)).mono ?_; rintro e w' ⟨rfl, HS, hb, _⟩; have hbb : Below B w w' := (by refine (hbw.mono hB).trans (Below.trans ?_ hb); exact (by repeat (first | refine Below.alloc ?_ (by first | omega | (simp; done) | (simp; omega)) _ | refine Below.drew ?_ | exact Below.refl _ _))); clear hb))
  first
    | exact bodyPost_end (v := .tuple #[]) (by simp [results, Tryd.results51, go_sem]) rfl ⟨rfl, HS, hbb⟩
    | exact bodyPost_ret (v := .tuple #[]) (by simp [results, Tryd.results51, go_sem]) rfl ⟨rfl, HS, hbb⟩
end Go.Proofs.YtjepkcebfojiaaaDoor
