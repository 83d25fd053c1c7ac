import Derived.Test.YtfofmmkihhnfmaaGreatDoorJaz
set_option linter.unusedVariables false
set_option linter.unusedSimpArgs false
namespace Go.Proofs.YtfofmmkihhnfmaaGreatDoor
open Go.ChangeShapes Go.WideShapes Go.ChangeAt Go.RowKit Go.Maps
theorem pIteR {P : Rv -> Prop} {c : Prop} [Decidable c] {A B : Rv} (hA : c -> P A) (hB : ¬ c -> P B) : P (if c then A else B) := by
 split
 ·next h => exact hA h
 ·next h => exact hB h
theorem HereR.does {s : Rst} (hP : PgR s) {R : Rv} {A : List (Nat × Int)} {f : Rf} (H : HereR s R A f) : (R.on.does s.FS s.S s.room (R.at s.C)).over = false -> ∃ A' f', AtR s.C s.FS s.S (R.on.does s.FS s.S s.room (R.at s.C)) A' f' := by
 have hF : ∀ g ∈ s.FS, 2 <= Rf.fr g := fun g hg => (hP.form.fr g hg).1
 have hon := H.on
 have hnum := H.num
 have hA := H.at_
 have hnx := hA.nx
 obtain ⟨x, hx⟩ : ∃ x, x = R.at s.C := ⟨_, rfl⟩
 rw [<- hx] at hon hnum ⊢
 obtain ⟨Q, hQ⟩ : ∃ Q : Rv -> Prop, ∀ R', Q R' ↔ (R'.over = false -> ∃ A' f', AtR s.C s.FS s.S R' A' f') := ⟨_, fun _ => Iff.rfl⟩
 refine (hQ _).1 ?_
 have hlt : ¬ (x.op = 21 \/ x.op = 27 \/ x.op = 35) -> R.nx + 1 < f.fi + f.ct := fun e => hon (by simpa [lastF] using e)
 have hq : ∀ R' : Rv, R'.sw = R.sw -> R'.base = R.base -> R'.top = R.top -> R'.frames = R.frames -> R'.nx = R.nx + 1 -> ¬ (x.op = 21 \/ x.op = 27 \/ x.op = 35) -> Q R' :=
  fun R' e1 e2 e3 e4 e5 e6 => (hQ _).2 fun _ => ⟨A, f, hA.go e1 e2 e3 e4 ⟨by omega, by rw [e5]; exact hlt e6⟩⟩
 have ho : ¬ (x.op = 21 \/ x.op = 27 \/ x.op = 35) -> Q R.on := hq R.on rfl rfl rfl rfl rfl
 have hj : (x.op = 21 \/ x.op = 22 \/ x.op = 23) -> Q { R.on with nx := x.n } := fun e => (hQ _).2 fun _ => ⟨A, f, hA.go rfl rfl rfl rfl (by
  have := num_jump hnum e
  exact ⟨this.1, by show x.n < _; omega⟩)⟩
 have hp : ∀ (R' : Rv) (k v : Int), Q (R'.panic k v) := fun R' k v => (hQ _).2 fun h => by simp [Rv.over, Rv.panic] at h
 have ht : ¬ (x.op = 21 \/ x.op = 27 \/ x.op = 35) -> ∀ k v : Int, Q (R.on.tell k v) := fun e k v => by
  unfold Rv.tell
  exact pIteR (fun _ => hq _ rfl rfl rfl rfl rfl e) (fun _ => hq _ rfl rfl rfl rfl rfl e)
 unfold Rv.does
 refine pIteR (fun e => hq _ rfl rfl rfl rfl rfl (by omega)) fun n1 => pIteR (fun e => hq _ rfl rfl rfl rfl rfl (by omega)) fun n2 => pIteR (fun e => hq _ rfl rfl rfl rfl rfl (by omega)) fun n3 => pIteR (fun e => hq _ rfl rfl rfl rfl rfl (by omega)) fun n4 => ?_
 refine pIteR (fun e => hj (by omega)) fun n5 => pIteR (fun e => pIteR (fun _ => hj (by omega)) fun _ => ho (by omega)) fun n6 => pIteR (fun e => pIteR (fun _ => ho (by omega)) fun _ => hj (by omega)) fun n7 => ?_
 refine pIteR (fun e => hq _ rfl rfl rfl rfl rfl (by omega)) fun n8 => pIteR (fun e => ?_) fun n9 => pIteR (fun e => ?_) fun n10 => pIteR (fun e => ?_) fun n11 => pIteR (fun e => ?_) fun n12 => ?_
 ·have hw := num_word hnum (Or.inr e)
  exact (hQ _).2 fun _ => ⟨A, f, (hA.sts hF (i := R.base + x.n) (x := R.on.reg x.a) (by omega)).go rfl rfl rfl rfl ⟨by show f.fi <= R.nx + 1; omega, hlt (by omega)⟩⟩
 ·cases eg : s.FS[x.n.toNat]? with
  | none => exact ho (by omega)
  | some g =>
    show Q (R.on.call s.S g R.on.nx)
    unfold Rv.call
    have hl := hlt (by omega)
    have hb : f.fi <= R.on.nx /\ R.on.nx < f.fi + f.ct := ⟨by show f.fi <= R.nx + 1; omega, hl⟩
    exact pIteR (fun _ => hp _ _ _) fun hle => (hQ _).2 fun _ => ⟨_, _, AtR.push hP.form (hA.go (R' := R.on) rfl rfl rfl rfl hb) eg hb hle⟩
 ·refine (hQ _).2 fun h => ?_
  by_cases hb : R.sw (R.base + 1) = -1
  ·have e2 : R.on.back.over = true := by
    have e3 : R.on.back.fin = if R.sw (R.base + 1) = -1 then 1 else R.fin := rfl
    rw [if_pos hb] at e3
    unfold Rv.over
    rw [e3]
    simp
   rw [e2] at h
   cases h
  ·have z := hA.pop hP.form hb
   exact z
 ·unfold Rv.alloc
  exact pIteR (fun _ => hp _ _ _) fun _ => hq _ rfl rfl rfl rfl rfl (by omega)
 refine pIteR (fun e => hq _ rfl rfl rfl rfl rfl (by omega)) fun n13 => pIteR (fun e => hq _ rfl rfl rfl rfl rfl (by omega)) fun n14 => pIteR (fun e => hq _ rfl rfl rfl rfl rfl (by omega)) fun n15 => ?_
 refine pIteR (fun e => pIteR (fun _ => hp _ _ _) fun _ => ho (by omega)) fun n16 => pIteR (fun e => pIteR (fun _ => hp _ _ _) fun _ => ho (by omega)) fun n17 => pIteR (fun e => pIteR (fun _ => hp _ _ _) fun _ => ho (by omega)) fun n18 => pIteR (fun e => hp _ _ _) fun n19 => pIteR (fun e => ?_) fun n20 => pIteR (fun e => ht (by omega) _ _) fun n21 => ht (by omega) _ _
 unfold Rv.take
 split
 ·exact hp _ _ _
 ·exact hq _ rfl rfl rfl rfl rfl (by omega)
theorem does_few (FS : List Rf) (S room : Int) (R : Rv) (x : Ri) : (R.does FS S room x).cs <= R.cs + 2 /\ (R.does FS S room x).hc <= R.hc + 1 := by
 obtain ⟨Q, hQ⟩ : ∃ Q : Rv -> Prop, ∀ R', Q R' ↔ (R'.cs <= R.cs + 2 /\ R'.hc <= R.hc + 1) := ⟨_, fun _ => Iff.rfl⟩
 refine (hQ _).1 ?_
 have hq : ∀ (R' : Rv) (k l : Nat), k <= 2 -> l <= 1 -> R'.cs = R.cs + k -> R'.hc = R.hc + l -> Q R' := fun R' k l h1 h2 e1 e2 => (hQ _).2 ⟨by omega, by omega⟩
 have q0 : ∀ R' : Rv, R'.cs = R.cs -> R'.hc = R.hc -> Q R' := fun R' e1 e2 => hq R' 0 0 (by omega) (by omega) e1 e2
 have ht : ∀ k v : Int, Q (R.tell k v) := fun k v => by
  unfold Rv.tell
  exact pIteR (fun _ => q0 _ rfl rfl) (fun _ => q0 _ rfl rfl)
 unfold Rv.does
 refine pIteR (fun e => q0 _ rfl rfl) fun _ => pIteR (fun e => q0 _ rfl rfl) fun _ => pIteR (fun e => q0 _ rfl rfl) fun _ => pIteR (fun e => q0 _ rfl rfl) fun _ => pIteR (fun e => q0 _ rfl rfl) fun _ => ?_
 refine pIteR (fun e => pIteR (fun _ => q0 _ rfl rfl) fun _ => q0 _ rfl rfl) fun _ => pIteR (fun e => pIteR (fun _ => q0 _ rfl rfl) fun _ => q0 _ rfl rfl) fun _ => ?_
 refine pIteR (fun e => q0 _ rfl rfl) fun _ => pIteR (fun e => hq _ 1 0 (by omega) (by omega) rfl rfl) fun _ => pIteR (fun e => ?_) fun _ => pIteR (fun e => q0 _ rfl rfl) fun _ => pIteR (fun e => ?_) fun _ => ?_
 ·split
  ·exact q0 _ rfl rfl
  ·unfold Rv.call
   exact pIteR (fun _ => q0 _ rfl rfl) fun _ => hq _ 2 0 (by omega) (by omega) rfl rfl
 ·unfold Rv.alloc
  exact pIteR (fun _ => q0 _ rfl rfl) fun _ => hq _ 0 1 (by omega) (by omega) rfl rfl
 refine pIteR (fun e => q0 _ rfl rfl) fun _ => pIteR (fun e => q0 _ rfl rfl) fun _ => pIteR (fun e => hq _ 0 1 (by omega) (by omega) rfl rfl) fun _ => ?_
 refine pIteR (fun e => pIteR (fun _ => q0 _ rfl rfl) fun _ => q0 _ rfl rfl) fun _ => pIteR (fun e => pIteR (fun _ => q0 _ rfl rfl) fun _ => q0 _ rfl rfl) fun _ => pIteR (fun e => pIteR (fun _ => q0 _ rfl rfl) fun _ => q0 _ rfl rfl) fun _ => pIteR (fun e => q0 _ rfl rfl) fun _ => pIteR (fun e => ?_) fun _ => pIteR (fun e => ht _ _) fun _ => ht _ _
 unfold Rv.take
 split
 ·exact q0 _ rfl rfl
 ·exact q0 _ rfl rfl
theorem RI.stp {s : Rst} (hP : PgR s) {R : Rv} {n : Nat} (h : RI s n R) (ho : R.over = false) (hn : n <= 100000000) : RI s (n + 1) (R.stp s.C s.FS s.S s.room).2 := by
 obtain ⟨A, f, ha⟩ := h.at_ ho
 have H := hereR hP ha
 obtain ⟨j, hj, hjl, pp⟩ := (h.pre hP ho hn).at_
 have ex : R.at s.C = s.C[j] := by
  unfold Rv.at
  rw [hj]
  simp [List.getD, hjl]
 have h1 := h.cs
 have h2 := h.hc
 have h3 := h.steps
 have h4 := h.val.steps
 have key : ValR s.room (R.adv s.C s.FS s.S s.room) /\ ((R.adv s.C s.FS s.S s.room).over = false -> ∃ A' f', AtR s.C s.FS s.S (R.adv s.C s.FS s.S s.room) A' f') /\ (R.adv s.C s.FS s.S s.room).cs <= R.cs + 2 /\ (R.adv s.C s.FS s.S s.room).hc <= R.hc + 1 /\ (R.adv s.C s.FS s.S s.room).steps = R.steps := by
  have hon : ValR s.room R.on := h.val.nx _
  cases hw : R.on.why (R.at s.C) with
  | none =>
    have e : R.adv s.C s.FS s.S s.room = R.on.does s.FS s.S s.room (R.at s.C) := by
     unfold Rv.adv Rv.ins
     rw [hw]
    have hf := does_few s.FS s.S s.room R.on (R.at s.C)
    have hs := does_steps s.FS s.S s.room R.on (R.at s.C)
    have hd := H.does hP
    have hv := hon.does (R.at s.C) (by rw [ex]; exact pp) (fun _ => by rw [ex]; exact hP.nums _ (List.getElem_mem hjl)) hw
    rw [e]
    exact ⟨hv, hd, hf.1, hf.2, hs⟩
  | some k =>
    have e : R.adv s.C s.FS s.S s.room = R.on.stuck k := by
     unfold Rv.adv Rv.ins
     rw [hw]
    rw [e]
    exact ⟨hon.stuck k, fun q => by simp [Rv.over, Rv.stuck] at q, Nat.le_add_right _ _, Nat.le_add_right _ _, rfl⟩
 obtain ⟨k1, k2, k3, k4, k5⟩ := key
 unfold Rv.stp
 rw [if_neg (by rw [ho]; simp)]
 dsimp only
 split
 ·exact ⟨k1, k2, by show (R.adv s.C s.FS s.S s.room).cs <= _; omega, by show (R.adv s.C s.FS s.S s.room).hc <= _; omega, by show (R.adv s.C s.FS s.S s.room).steps <= _; omega⟩
 ·refine ⟨⟨k1.rg, k1.fits, k1.sw, k1.mm, k1.inp, k1.tk, k1.ln, by show 0 <= R.steps + 1; omega⟩, fun q => ?_, by show (R.adv s.C s.FS s.S s.room).cs <= _; omega, by show (R.adv s.C s.FS s.S s.room).hc <= _; omega, by show R.steps + 1 <= _; omega⟩
  obtain ⟨A', f', q2⟩ := k2 q
  exact ⟨A', f', q2.go rfl rfl rfl rfl q2.nx⟩
def Rv.nxt (s : Rst) (R : Rv) : Rv := (R.stp s.C s.FS s.S s.room).2
def Rv.its (s : Rst) : Nat -> Rv -> Rv
 | 0, R => R
 | k + 1, R => Rv.its s k (R.nxt s)
def Rv.cnt (s : Rst) : Nat -> Rv -> Nat
 | 0, _ => 0
 | k + 1, R => if (R.stp s.C s.FS s.S s.room).1 = true then Rv.cnt s k (R.nxt s) + 1 else 0
def Rv.runN (s : Rst) : Nat -> Rv -> Rv
 | 0, R => R
 | k + 1, R => if (R.stp s.C s.FS s.S s.room).1 = true then Rv.runN s k (R.nxt s) else R.nxt s
theorem RI.mono {s : Rst} {n m : Nat} {R : Rv} (h : RI s n R) (hm : n <= m) : RI s m R :=
 ⟨h.val, h.at_, by have := h.cs; omega, by have := h.hc; omega, by have := h.steps; omega⟩
theorem stpR_over {s : Rst} {R : Rv} (ho : R.over = true) : R.stp s.C s.FS s.S s.room = (false, R) := by
 unfold Rv.stp
 rw [if_pos ho]
theorem RI.nxt {s : Rst} (hP : PgR s) {R : Rv} {n : Nat} (h : RI s n R) (hn : n <= 100000000) : RI s (n + 1) (R.nxt s) := by
 unfold Rv.nxt
 cases ho : R.over with
 | true =>
   rw [stpR_over ho]
   exact h.mono (Nat.le_succ n)
 | false => exact h.stp hP ho hn
theorem RI.rstp {s : Rst} (hP : PgR s) {R : Rv} {n : Nat} (h : RI s n R) (hn : n <= 100000000) {T : Bool} (hT : (R.stp s.C s.FS s.S s.room).1 = T) : Rstp s R T (R.nxt s) := by
 cases ho : R.over with
 | true =>
   have e := stpR_over (s := s) ho
   have e2 : R.nxt s = R := by unfold Rv.nxt; rw [e]
   rw [e] at hT
   exact Or.inl ⟨ho, hT.symm, e2⟩
 | false => exact Or.inr ⟨ho, h.pre hP ho hn, by rw [<- hT]; rfl⟩
theorem cntR_le (s : Rst) : ∀ (k : Nat) (R : Rv), Rv.cnt s k R <= k
 | 0, _ => Nat.le_refl _
 | k + 1, R => by
   unfold Rv.cnt
   split
   ·exact Nat.succ_le_succ (cntR_le s k _)
   ·exact Nat.zero_le _
theorem runR_path {s : Rst} (hP : PgR s) : ∀ (k n : Nat) (R : Rv), RI s n R -> n + k <= 100000000 -> (∀ i, i < Rv.cnt s k R -> Rstp s (Rv.its s i R) true (Rv.its s (i + 1) R)) /\ (Rv.cnt s k R < k -> Rstp s (Rv.its s (Rv.cnt s k R) R) false ((Rv.its s (Rv.cnt s k R) R).nxt s)) /\ (Rv.runN s k R = if Rv.cnt s k R < k then (Rv.its s (Rv.cnt s k R) R).nxt s else Rv.its s k R) /\ RI s (n + k) (Rv.runN s k R)
 | 0, n, R, h, _ => ⟨fun i hi => absurd hi (Nat.not_lt_zero _), fun hi => absurd hi (Nat.not_lt_zero _), rfl, h⟩
 | k + 1, n, R, h, hn => by
   have h' := h.nxt hP (by omega)
   cases hT : (R.stp s.C s.FS s.S s.room).1 with
   | true =>
     have hs := h.rstp hP (by omega) hT
     have ec : Rv.cnt s (k + 1) R = Rv.cnt s k (R.nxt s) + 1 := by
      show (if _ then _ else _) = _
      rw [if_pos hT]
     have er : Rv.runN s (k + 1) R = Rv.runN s k (R.nxt s) := by
      show (if _ then _ else _) = _
      rw [if_pos hT]
     have ei : ∀ i, Rv.its s (i + 1) R = Rv.its s i (R.nxt s) := fun i => rfl
     obtain ⟨q1, q2, q3, q4⟩ := runR_path hP k (n + 1) (R.nxt s) h' (by omega)
     rw [ec, er]
     refine ⟨fun i hi => ?_, fun hi => ?_, ?_, ?_⟩
     ·cases i with
      | zero => exact hs
      | succ i =>
        rw [ei, ei]
        exact q1 i (by omega)
     ·rw [ei]
      exact q2 (by omega)
     ·rw [q3, ei, ei]
      by_cases z : Rv.cnt s k (R.nxt s) < k
      ·rw [if_pos z, if_pos (by omega)]
      ·rw [if_neg z, if_neg (by omega)]
     ·rw [show n + (k + 1) = n + 1 + k by omega]
      exact q4
   | false =>
     have hs := h.rstp hP (by omega) hT
     have ec : Rv.cnt s (k + 1) R = 0 := by
      show (if _ then _ else _) = _
      rw [if_neg (by rw [hT]; simp)]
     have er : Rv.runN s (k + 1) R = R.nxt s := by
      show (if _ then _ else _) = _
      rw [if_neg (by rw [hT]; simp)]
     rw [ec, er]
     refine ⟨fun i hi => absurd hi (Nat.not_lt_zero _), fun _ => hs, ?_, ?_⟩
     ·rw [if_pos (by omega)]
      rfl
     ·exact h'.mono (by omega)
theorem mRunR_go {s d w0 w R} {n : Nat} (h : StR s d w0 w R) (hP : PgR s) (hR : RI s n R) {fuel : Nat} (hf : n + fuel <= 100000000) :
 Calls Tryz.prog 11 #[.pointer (some ⟨s.mb, 0, none⟩), .int .i64 fuel] w fun e w' => ∃ v d' B, e = .returned (.tuple #[otvR v (Rv.runN s fuel R), .int .i64 0]) /\ ((Rv.runN s fuel R).over = false -> Rm s d' w' (Rv.runN s fuel R) /\ ∀ k, footR s d' k -> k < B) /\ OvR s d'.ve w' (Rv.runN s fuel R) /\ FooR s d d' w0 w' /\ w.heap.size <= B /\ Row w' B 62 2 v ((Rv.runN s fuel R).ev.map evc) := by
 obtain ⟨q1, q2, q3, _⟩ := runR_path hP fuel n R hR hf
 exact mRunR_any h (by omega) (fun i => Rv.its s i R) rfl q1 q2 q3
theorem RI.start {s : Rst} (hP : PgR s) {m : Nat} {f : Rf} (hm : s.FS[m]? = some f) {I : List Int} (hI : ∀ x ∈ I, Fits x) : RI s 0 ((Rv.zero I).call s.S f (-1)) := by
 have hz : ValR s.room (Rv.zero I) := ⟨rfl, fun x hx => by
  have e : x = 0 := by simpa [Rv.zero] using hx
  rw [e]
  exact fitR_zero, fun _ => fitR_zero, fun _ => fitR_zero, hI, ⟨Int.le_refl 0, Or.inr rfl⟩, fun a k e => (by cases e), Int.le_refl 0⟩
 have hfm := List.mem_of_getElem? hm
 have hc := hP.form.cut f hfm
 have hf := hP.form.fr f hfm
 unfold Rv.call
 split
 ·exact ⟨hz.told 7 0, fun q => by simp [Rv.over, Rv.panic] at q, by show (0 : Nat) <= _; omega, by show (0 : Nat) <= _; omega, Int.le_refl 0⟩
 ·next hle =>
  have hle2 : ¬ f.fr > s.S - 0 := hle
  refine ⟨hz.push f (by unfold Fits; omega) (by show Fits (-1); unfold Fits; omega), fun _ => ⟨[(m, 0)], f, ⟨rfl, rfl, rfl⟩, ⟨m, [], rfl, hm⟩, rfl, ?_, ?_, rfl⟩, Nat.le_refl 2, Nat.le_refl 0, Int.le_refl 0⟩
  ·show 0 + f.fr <= s.S
   omega
  ·show f.fi <= f.fi /\ f.fi < f.fi + f.ct
   omega
theorem form_main {C : List Ri} {FS : List Rf} {m : Int} (h : formR C FS m = true) : ∃ (k : Nat) (f : Rf), m = (k : Int) /\ FS[k]? = some f /\ f.pa = 0 := by
 unfold formR mainF at h
 simp only [Bool.and_eq_true, decide_eq_true_eq] at h
 obtain ⟨_, _, ⟨⟨h1, h2⟩, h3⟩, _⟩ := h
 have hk : m.toNat < FS.length := by omega
 refine ⟨m.toNat, FS[m.toNat], by omega, by simp [hk], ?_⟩
 have e : FS.getD m.toNat ⟨ByteArray.empty, 0, 0, 0, 0⟩ = FS[m.toNat] := by simp [List.getD, hk]
 rw [<- e]
 exact h3
theorem form_pg {s : Rst} {m : Int} (h : formR s.C s.FS m = true) (hC : s.C.length <= 1000000000) (hF : s.FS.length <= 1000000) (hS : 0 <= s.S /\ s.S <= 1099511627776) (hr : 0 <= s.room /\ s.room <= 1099511627776) (hn : ∀ x ∈ s.C, Fits x.n) : PgR s := by
 unfold formR at h
 simp only [Bool.and_eq_true] at h
 exact ⟨foR_of h.1 h.2.2.2, hC, hF, hS, hr, hn⟩
theorem newR_go (w : World) (hTab : Tab w) (ca : Option Addr) (cn cc : Nat) (fa : Option Addr) (fn fc : Nat) (m : Int) (C : List Ri) (FS : List Rf) (hcn : cn = C.length) (hfn : fn = FS.length) (hC : StsG w ca cc 5 (C.map riv)) (hF : StsG w fa fc 5 (FS.map rfv)) (hlen : cn <= 10000000) (hfl : fn <= 1000000) (hnum : ∀ x ∈ C, Fits x.n) (ia : Option Addr) (n ic : Nat) (I : List Int) (hin : n = I.length) (hI : Ints w ia ic I) (hIf : ∀ x ∈ I, Fits x) (S r : Int) (hk : newErr C FS m n S r = 0) :
 Calls Tryz.prog 9 #[.agg #[.slice ca cn cc, .slice fa fn fc, .int .i64 m], .slice ia n ic, .agg #[.int .i64 S, .int .i64 r]] w fun e w' => ∃ s d W9 k f, e = .returned (.tuple #[.pointer (some ⟨s.mb, 0, none⟩), .int .i64 0]) /\ (m = ((k : Nat) : Int) /\ FS[k]? = some f) /\ (s.C = C /\ s.FS = FS /\ s.S = S /\ s.room = r) /\ PgR s /\ RI s 0 ((Rv.zero I).call S f (-1)) /\ Below w.heap.size w W9 /\ StR s d W9 w' ((Rv.zero I).call S f (-1)) /\ (∀ j, footR s d j -> w.heap.size <= j) /\ (∀ j, s.st j -> w.heap.size <= j) := by
 unfold newErr at hk
 have hform : formR C FS m = true := by
  cases e : formR C FS m with
  | true => rfl
  | false => rw [if_pos e] at hk; cases hk
 rw [if_neg (by rw [hform]; simp)] at hk
 have hn : n <= 1048576 := by
  rcases Nat.lt_or_ge 1048576 n with q | q
  ·rw [if_pos q] at hk; cases hk
  ·exact q
 rw [if_neg (by omega)] at hk
 have hl : (0 <= S /\ S <= 1099511627776) /\ (0 <= r /\ r <= 1099511627776) := by
  cases e : (decide (0 <= S /\ S <= 1099511627776) && decide (0 <= r /\ r <= 1099511627776)) with
  | true => simpa using e
  | false => rw [if_pos e] at hk; cases hk
 obtain ⟨k, f, rfl, hf, _⟩ := form_main hform
 refine (newR_yes w hTab ca cn cc fa fn fc k C FS hcn hfn hC hF hlen hfl ia n ic I hin hI hn S r f hf hform hl.1 hl.2).mono ?_
 rintro e w' ⟨s, d, W9, q1, ⟨rfl, rfl, rfl, rfl⟩, q3, q4, q5, q6⟩
 have hP : PgR s := form_pg hform (by omega) (by omega) hl.1 hl.2 hnum
 exact ⟨s, d, W9, k, f, q1, ⟨rfl, hf⟩, ⟨rfl, rfl, rfl, rfl⟩, hP, RI.start hP hf hIf, q3, q4, q5, q6⟩
theorem Evs.atR {w : World} {ao : Option Addr} {c : Nat} {E : List (Int × Int)} (h : Evs w ao c E) {k : Nat} (hk : k < E.length) : ∃ b o, ao = some ⟨b, o, none⟩ /\ b < w.heap.size /\ w.cell? ⟨b, o + k * 2, none⟩ = some (.int .i64 E[k].1) /\ w.cell? ⟨b, o + k * 2 + 1, none⟩ = some (.int .i64 E[k].2) := by
 obtain ⟨b, o, e, hb, hc⟩ := h.out (by intro q; rw [q] at hk; simp at hk)
 have hz : ∀ x ∈ E.map evc, x.length = 2 := by
  intro x hx
  obtain ⟨y, _, rfl⟩ := List.mem_map.1 hx
  rfl
 have f := fun r hr => flat_at (E.map evc) hz k (by simpa using hk) r hr
 refine ⟨b, o, e, hb, ?_, ?_⟩
 ·have := hc (k * 2) (.int .i64 E[k].1) (by have := f 0 (by omega); simpa [evc] using this)
  simpa [add_noneR] using this
 ·have := hc (k * 2 + 1) (.int .i64 E[k].2) (by have := f 1 (by omega); simpa [evc] using this)
  simpa [add_noneR, Nat.add_assoc] using this
theorem Evs.belowR {w w' : World} {ao : Option Addr} {c : Nat} {E : List (Int × Int)} (h : Evs w ao c E) (b : Below w.heap.size w w') : Evs w' ao c E := ⟨h.le, h.mx, h.nil, fun hne => by
 obtain ⟨g, o, e, hlt, hc⟩ := h.out hne
 refine ⟨g, o, e, by have := b.size; omega, fun j u hu => ?_⟩
 have := hc j u hu
 rw [add_noneR] at this ⊢
 exact (b.cell (p := ⟨g, o + j, none⟩) hlt).trans this⟩
theorem evs_exactR {w : World} {g : Nat} {E : List (Int × Int)} {A : Array Value} {t : TypeId} (h : w.heap[g]? = some (.cells A t (0, 0))) (hA : A = (E.map evc).flatten.toArray) (hm : E.length <= 9223372036854775807) : Evs w (some ⟨g, 0, none⟩) E.length E :=
 ⟨Nat.le_refl _, hm, fun q => (by cases q), fun _ => ⟨g, 0, rfl, (gl h), fun j u hu => by
  rw [add_noneR, Nat.zero_add]
  exact cell_arr h (by rw [hA]; simpa using hu)⟩⟩
theorem numV_any (w : World) (x : Int) : Calls Tryz.prog 10 #[.int .i64 x] w fun e w' => e = .returned (.int .i64 x) /\ w = w' := by
 go_enter Tryz.func10, Tryz.ntmps10
 go_wp2_with fail
 go_ret
 exact ⟨rfl, rfl⟩
set_option maxRecDepth 100000 in
set_option maxHeartbeats 4000000 in
theorem sameV_any (w : World) {aa ba : Option Addr} {n ac bc : Nat} {L : List (Int × Int)} (x1 x2 x3 x4 x5 x6 : Int) (hA : Evs w aa ac L) (hB : Evs w ba bc L) (hn : n = L.length) :
 Calls Tryz.prog 12 #[.agg #[.slice aa n ac, .int .i64 x1, .int .i64 x2, .int .i64 x3, .int .i64 x4, .int .i64 x5, .int .i64 x6], .agg #[.slice ba n bc, .int .i64 x1, .int .i64 x2, .int .i64 x3, .int .i64 x4, .int .i64 x5, .int .i64 x6]] w fun e w' => e = .returned (.bool true) /\ Below w.heap.size w w' := by
 obtain ⟨w1, hw1⟩ : ∃ w1, w1 = w.alloc (.cells #[.slice aa n ac, .int .i64 x1, .int .i64 x2, .int .i64 x3, .int .i64 x4, .int .i64 x5, .int .i64 x6] 38) := ⟨_, rfl⟩
 obtain ⟨w2, hw2⟩ : ∃ w2, w2 = w1.alloc (.cells #[.slice ba n bc, .int .i64 x1, .int .i64 x2, .int .i64 x3, .int .i64 x4, .int .i64 x5, .int .i64 x6] 38) := ⟨_, rfl⟩
 have b1 : Below w.heap.size w w1 := by rw [hw1]; exact below_newR w _
 have b2 : Below w1.heap.size w1 w2 := by rw [hw2]; exact below_newR w1 _
 have b12 : Below w.heap.size w w2 := b1.trans (b2.mono b1.size)
 have k1 : w1.heap[w.heap.size]? = some (.cells #[.slice aa n ac, .int .i64 x1, .int .i64 x2, .int .i64 x3, .int .i64 x4, .int .i64 x5, .int .i64 x6] 38 (0, 0)) := by rw [hw1]; exact heap_alloc_new _ _
 have k2 : w2.heap[w1.heap.size]? = some (.cells #[.slice ba n bc, .int .i64 x1, .int .i64 x2, .int .i64 x3, .int .i64 x4, .int .i64 x5, .int .i64 x6] 38 (0, 0)) := by rw [hw2]; exact heap_alloc_new _ _
 have k12 := (b2.block _ (gl k1)).trans k1
 have e1 : w1.heap.size = w.heap.size + 1 := by rw [hw1]; simp
 rw [e1] at k2
 obtain ⟨p, hp⟩ : ∃ p, p = w.heap.size := ⟨_, rfl⟩
 obtain ⟨p1, hp1⟩ : ∃ p1, p1 = w.heap.size + 1 := ⟨_, rfl⟩
 rw [<- hp1] at k2
 rw [<- hp] at k12
 have hl1 := (gl k12)
 have hl2 := (gl k2)
 have HP : Hid (∀ W, Below w2.heap.size w2 W -> W.cell? ⟨p, 0, none⟩ = some (.slice aa n ac) /\ W.cell? ⟨p1, 0, none⟩ = some (.slice ba n bc) /\ p < W.heap.size /\ p1 < W.heap.size) := fun W hW => by
  have q1 := (hW.block _ hl1).trans k12
  have q2 := (hW.block _ hl2).trans k2
  exact ⟨cell_arr q1 rfl, cell_arr q2 rfl, (gl q1), (gl q2)⟩
 obtain ⟨x0, y0, -, -⟩ := HP.out w2 (Below.refl _ _)
 have c1 : w2.cell? ⟨p, 1, none⟩ = some (.int .i64 x1) := cell_arr k12 rfl
 have c2 : w2.cell? ⟨p, 2, none⟩ = some (.int .i64 x2) := cell_arr k12 rfl
 have c3 : w2.cell? ⟨p, 3, none⟩ = some (.int .i64 x3) := cell_arr k12 rfl
 have c4 : w2.cell? ⟨p, 4, none⟩ = some (.int .i64 x4) := cell_arr k12 rfl
 have c5 : w2.cell? ⟨p, 5, none⟩ = some (.int .i64 x5) := cell_arr k12 rfl
 have c6 : w2.cell? ⟨p, 6, none⟩ = some (.int .i64 x6) := cell_arr k12 rfl
 have d1 : w2.cell? ⟨p1, 1, none⟩ = some (.int .i64 x1) := cell_arr k2 rfl
 have d2 : w2.cell? ⟨p1, 2, none⟩ = some (.int .i64 x2) := cell_arr k2 rfl
 have d3 : w2.cell? ⟨p1, 3, none⟩ = some (.int .i64 x3) := cell_arr k2 rfl
 have d4 : w2.cell? ⟨p1, 4, none⟩ = some (.int .i64 x4) := cell_arr k2 rfl
 have d5 : w2.cell? ⟨p1, 5, none⟩ = some (.int .i64 x5) := cell_arr k2 rfl
 have d6 : w2.cell? ⟨p1, 6, none⟩ = some (.int .i64 x6) := cell_arr k2 rfl
 have HW : Hid (w2 = (w.alloc (.cells #[.slice aa n ac, .int .i64 x1, .int .i64 x2, .int .i64 x3, .int .i64 x4, .int .i64 x5, .int .i64 x6] 38)).alloc (.cells #[.slice ba n bc, .int .i64 x1, .int .i64 x2, .int .i64 x3, .int .i64 x4, .int .i64 x5, .int .i64 x6] 38)) := by rw [hw2, hw1]; exact rfl
 have t1 : (x1 == x1) = true := by simp
 have t2 : (x2 == x2) = true := by simp
 have t3 : (x3 == x3) = true := by simp
 have t4 : (x4 == x4) = true := by simp
 have t5 : (x5 == x5) = true := by simp
 have t6 : (x6 == x6) = true := by simp
 have t0 : ((n : Int) == (n : Int)) = true := by simp
 have hmx : n <= 9223372036854775807 := by have := hA.le; have := hA.mx; omega
 have HA : Hid (∀ W, Below w2.heap.size w2 W -> Evs W aa ac L) := fun W hW => (hA.belowR b12).belowR hW
 have HB : Hid (∀ W, Below w2.heap.size w2 W -> Evs W ba bc L) := fun W hW => (hB.belowR b12).belowR hW
 have HN : Hid (n = L.length) := hn
 have HB12 : Hid (Below w.heap.size w w2) := b12
 clear hA hB hn hw1 hw2 b1 b2 b12 k1 k2 k12 e1
 go_enter Tryz.func12, Tryz.ntmps12
 go_upto_region 1 with fail
 rw [<- HW.out, <- hp1, <- hp]
 clear HW hp hp1
 go_wp2_with fail
 clear t0 t1 t2 t3 t4 t5 t6 c1 c2 c3 c4 c5 c6 d1 d2 d3 d4 d5 d6
 go_loopw [5] (fun v wr => ∃ k : Nat, k <= n /\ v = .int .i64 k /\ Hid (Below w2.heap.size w2 wr)) (fun v _ => n - (intOf v).toNat)
 case atStart => exact ⟨0, by omega, rfl, Below.refl _ _⟩
 case round =>
  clear x0 y0 hl1 hl2
  obtain ⟨k, hk, rfl, HW⟩ := hrel
  obtain ⟨x0, y0, hl1, hl2⟩ := HP.out _ HW.out
  by_cases hlt : k < n
  ·have hkf : k < L.length := by have := HN.out; omega
   obtain ⟨b, o, rfl, hbl, c0, c1⟩ := (HA.out _ HW.out).atR hkf
   obtain ⟨b2, o2, rfl, hbl2, d0, d1⟩ := (HB.out _ HW.out).atR hkf
   generalize L[k] = m at c0 c1 d0 d1
   obtain ⟨m1, m2⟩ := m
   simp only at c0 c1 d0 d1
   go_wp2_with fail
   go_quiet (fail)
   go_wp2_with fail
   go_roundw
   case rel => exact ⟨k + 1, by omega, by go_num, below_drawnR HW.out _⟩
   case measure => simp [intOf]; omega
  ·obtain rfl : k = n := by omega
   go_wp2_with fail
   go_ret
   exact ⟨rfl, HB12.out.trans (HW.out.mono HB12.out.size)⟩
def al (w : World) (X : List Obj) : World := X.foldl World.alloc w
theorem al_size (X : List Obj) : ∀ w : World, (al w X).heap.size = w.heap.size + X.length := by
 induction X with
 | nil => intro w; rfl
 | cons x xs ih => intro w; show (al (w.alloc x) xs).heap.size = _; rw [ih]; simp; omega
theorem al_below (X : List Obj) : ∀ w : World, Below w.heap.size w (al w X) := by
 induction X with
 | nil => intro w; exact Below.refl _ _
 | cons x xs ih => intro w; exact (below_newR w x).trans ((ih (w.alloc x)).mono (by simp))
theorem al_at (X : List Obj) : ∀ (w : World) (i : Nat) (h : i < X.length), (al w X).heap[w.heap.size + i]? = some X[i] := by
 induction X with
 | nil => intro w i h; simp at h
 | cons x xs ih =>
   intro w i h
   cases i with
   | zero =>
     show (al (w.alloc x) xs).heap[w.heap.size]? = _
     rw [(al_below xs (w.alloc x)).block _ (by simp)]
     exact heap_alloc_new w x
   | succ i =>
     have := ih (w.alloc x) i (by simpa using h)
     rw [show (w.alloc x).heap.size + i = w.heap.size + (i + 1) by simp; omega] at this
     exact this
theorem ints_exactA {w : World} {g : Nat} {L : List Int} {t : TypeId} (h : w.heap[g]? = some (.cells (ivs L).toArray t (0, 0))) (hl : L.length <= 9223372036854775807) : Ints w (some ⟨g, 0, none⟩) L.length L :=
 ⟨Nat.le_refl _, hl, fun _ => ⟨g, 0, rfl, (gl h), fun i hi => by
  rw [Nat.zero_add]
  exact cell_arr h (by simp [ivs, hi])⟩⟩
theorem stsG_exact {w : World} {g z : Nat} {xs : List (List Value)} {A : Array Value} {t : TypeId} (h : w.heap[g]? = some (.cells A t (0, 0))) (hA : A = xs.flatten.toArray) (hl : (xs.all fun x => x.length == z) = true) (h1 : (xs.flatten.all fun u => u.oneCell') = true) (hm : xs.length <= 9223372036854775807) : StsG w (some ⟨g, 0, none⟩) xs.length z xs :=
 ⟨Nat.le_refl _, hm, fun x hx => by simpa using List.all_eq_true.1 hl x hx, fun u hu => List.all_eq_true.1 h1 u hu, fun _ => ⟨g, 0, rfl, (gl h), fun j u hu => by
  rw [Nat.zero_add]
  exact cell_arr h (by rw [hA]; simpa using hu)⟩⟩
def smC : List Ri := [⟨36, 0, 0, 0, 0⟩, ⟨32, 0, 0, 0, 1⟩, ⟨1, 1, 0, 0, 100⟩, ⟨6, 1, 1, 0, 0⟩, ⟨25, 1, 0, 0, 2⟩, ⟨24, 2, 0, 0, 2⟩, ⟨37, 2, 0, 0, 0⟩, ⟨27, 0, 0, 0, 0⟩]
def smF : List Rf := [⟨⟨#[109, 97, 105, 110]⟩, 3, 0, 8, 0⟩]
def smX (B : Nat) : List Obj := [.cells #[.slice (some ⟨B + 1, 0, none⟩) 8 8, .slice (some ⟨B + 2, 0, none⟩) 1 1, .int .i64 0] 25, .cells #[.int .i64 36, .int .i64 0, .int .i64 0, .int .i64 0, .int .i64 0, .int .i64 32, .int .i64 0, .int .i64 0, .int .i64 0, .int .i64 1, .int .i64 1, .int .i64 1, .int .i64 0, .int .i64 0, .int .i64 100, .int .i64 6, .int .i64 1, .int .i64 1, .int .i64 0, .int .i64 0, .int .i64 25, .int .i64 1, .int .i64 0, .int .i64 0, .int .i64 2, .int .i64 24, .int .i64 2, .int .i64 0, .int .i64 0, .int .i64 2, .int .i64 37, .int .i64 2, .int .i64 0, .int .i64 0, .int .i64 0, .int .i64 27, .int .i64 0, .int .i64 0, .int .i64 0, .int .i64 0] 71, .cells #[.string ⟨#[109, 97, 105, 110]⟩, .int .i64 3, .int .i64 0, .int .i64 8, .int .i64 0] 59]
theorem sm_form : formR smC smF 0 = true := by decide +kernel
set_option maxRecDepth 100000 in
theorem sm_ins {W : World} {B : Nat} (h : W.heap[B + 1]? = some (.cells #[.int .i64 36, .int .i64 0, .int .i64 0, .int .i64 0, .int .i64 0, .int .i64 32, .int .i64 0, .int .i64 0, .int .i64 0, .int .i64 1, .int .i64 1, .int .i64 1, .int .i64 0, .int .i64 0, .int .i64 100, .int .i64 6, .int .i64 1, .int .i64 1, .int .i64 0, .int .i64 0, .int .i64 25, .int .i64 1, .int .i64 0, .int .i64 0, .int .i64 2, .int .i64 24, .int .i64 2, .int .i64 0, .int .i64 0, .int .i64 2, .int .i64 37, .int .i64 2, .int .i64 0, .int .i64 0, .int .i64 0, .int .i64 27, .int .i64 0, .int .i64 0, .int .i64 0, .int .i64 0] 71 (0, 0))) : StsG W (some ⟨B + 1, 0, none⟩) 8 5 (smC.map riv) :=
 stsG_exact (xs := smC.map riv) h rfl rfl rfl (by decide)
theorem sm_fns {W : World} {B : Nat} (h : W.heap[B + 2]? = some (.cells #[.string ⟨#[109, 97, 105, 110]⟩, .int .i64 3, .int .i64 0, .int .i64 8, .int .i64 0] 59 (0, 0))) : StsG W (some ⟨B + 2, 0, none⟩) 1 5 (smF.map rfv) :=
 stsG_exact (xs := smF.map rfv) h rfl rfl rfl (by decide)
theorem sm_num : ∀ x ∈ smC, Fits x.n := by
 intro x hx
 have : x.n = 0 \/ x.n = 1 \/ x.n = 100 \/ x.n = 2 := by
  unfold smC at hx
  simp only [List.mem_cons, List.not_mem_nil, or_false] at hx
  rcases hx with rfl | rfl | rfl | rfl | rfl | rfl | rfl | rfl <;> simp
 unfold Fits
 omega
set_option maxRecDepth 100000 in
set_option maxHeartbeats 4000000 in
theorem sample_any (w : World) : Calls Tryz.prog 21 #[] w fun e w' => e = .returned (.agg #[.slice (some ⟨w.heap.size + 1, 0, none⟩) 8 8, .slice (some ⟨w.heap.size + 2, 0, none⟩) 1 1, .int .i64 0]) /\ w' = al w (smX w.heap.size) := by
 have hb := al_at (smX w.heap.size) w 0 (by simp [smX])
 go_enter Tryz.func21, Tryz.ntmps21
 go_wp2_with fail
 refine bodyPost_ret (v := .agg #[.slice (some ⟨w.heap.size + 1, 0, none⟩) 8 8, .slice (some ⟨w.heap.size + 2, 0, none⟩) 1 1, .int .i64 0]) ?_ rfl ⟨rfl, rfl⟩
 exact results_cell_row Tryz.results21 _ _ w.heap.size 25 _ (0, 0) _ rfl hb Tryz.underlying25 rfl (by kernel_rfl)
def smG (C : List Ri) (FS : List Rf) (S room : Int) : Nat -> Rv -> Rv
 | 0, R => R
 | k + 1, R => if (R.stp C FS S room).1 = true then smG C FS S room k (R.stp C FS S room).2 else (R.stp C FS S room).2
theorem runN_smG (s : Rst) : ∀ (k : Nat) (R : Rv), Rv.runN s k R = smG s.C s.FS s.S s.room k R
 | 0, _ => rfl
 | k + 1, R => by
   unfold Rv.runN smG
   rw [runN_smG s k]
   rfl
theorem sm_goes (I : List Int) : (fun R : Rv => (R.over, R.ev, R.fin, R.kd, R.vl, R.steps, R.words, R.deep)) (smG smC smF 3 0 100 ((Rv.zero (7 :: I)).call 3 ⟨⟨#[109, 97, 105, 110]⟩, 3, 0, 8, 0⟩ (-1))) = (true, [(1, 14)], 1, 0, 0, 8, 0, 1) := by kernel_rfl
theorem sm_run (s : Rst) (I : List Int) (hC : s.C = smC) (hF : s.FS = smF) (hS : s.S = 3) (hr : s.room = 0) : ∃ R, Rv.runN s 100 ((Rv.zero (7 :: I)).call 3 ⟨⟨#[109, 97, 105, 110]⟩, 3, 0, 8, 0⟩ (-1)) = R /\ R.over = true /\ R.ev = [(1, 14)] /\ R.fin = 1 /\ R.kd = 0 /\ R.vl = 0 /\ R.steps = 8 /\ R.words = 0 /\ R.deep = 1 := by
 rw [runN_smG, hC, hF, hS, hr]
 have h := sm_goes I
 simp only [Prod.mk.injEq] at h
 exact ⟨_, rfl, h⟩
structure SmL (w0 W : World) (L : Nat) : Prop where
 ins : StsG W (some ⟨L + 1, 0, none⟩) 8 5 (smC.map riv)
 fns : StsG W (some ⟨L + 2, 0, none⟩) 1 5 (smF.map rfv)
 low : Below w0.heap.size w0 W
theorem SmL.below {w0 W W' : World} {L K : Nat} (h : SmL w0 W L) (b : Below K W W') (hK : W.heap.size <= K) : SmL w0 W' L :=
 ⟨h.ins.below b hK, h.fns.below b hK, h.low.trans (b.mono (Nat.le_trans h.low.size hK))⟩
theorem sample_lies (w : World) : Calls Tryz.prog 21 #[] w fun e w' => ∃ L, e = .returned (.agg #[.slice (some ⟨L + 1, 0, none⟩) 8 8, .slice (some ⟨L + 2, 0, none⟩) 1 1, .int .i64 0]) /\ SmL w w' L := by
 refine (sample_any w).mono ?_
 rintro e w' ⟨rfl, rfl⟩
 exact ⟨_, rfl, sm_ins (al_at _ w 1 (by simp [smX])), sm_fns (al_at _ w 2 (by simp [smX])), al_below _ w⟩
theorem sm_form1 : formR smC smF 1 = false := by decide +kernel
theorem sm_check0 (w0 W : World) (hTab : Tab w0) {L : Nat} (h : SmL w0 W L) : Calls Tryz.prog 15 #[.agg #[.slice (some ⟨L + 1, 0, none⟩) 8 8, .slice (some ⟨L + 2, 0, none⟩) 1 1, .int .i64 0]] W fun e w' => e = .returned (.int .i64 0) /\ Below W.heap.size W w' := by
 have := checkR W (hTab.below h.low hTab.1) (some ⟨L + 1, 0, none⟩) 8 8 (some ⟨L + 2, 0, none⟩) 1 1 0 smC smF rfl rfl h.ins h.fns (by decide) (by decide)
 rw [if_pos sm_form] at this
 exact this
theorem sm_check1 (w0 W : World) (hTab : Tab w0) {L : Nat} (h : SmL w0 W L) : Calls Tryz.prog 15 #[.agg #[.slice (some ⟨L + 1, 0, none⟩) 8 8, .slice (some ⟨L + 2, 0, none⟩) 1 1, .int .i64 1]] W fun e w' => e = .returned (.int .i64 210) /\ Below W.heap.size W w' := by
 have := checkR W (hTab.below h.low hTab.1) (some ⟨L + 1, 0, none⟩) 8 8 (some ⟨L + 2, 0, none⟩) 1 1 1 smC smF rfl rfl h.ins h.fns (by decide) (by decide)
 rw [if_neg (by rw [sm_form1]; simp)] at this
 exact this
theorem sm_new (w0 W : World) (hTab : Tab w0) {L g : Nat} (h : SmL w0 W L) (hg : W.heap[g]? = some (.cells #[.int .i64 7] 3 (0, 0))) : Calls Tryz.prog 9 #[.agg #[.slice (some ⟨L + 1, 0, none⟩) 8 8, .slice (some ⟨L + 2, 0, none⟩) 1 1, .int .i64 0], .slice (some ⟨g, 0, none⟩) 1 1, .agg #[.int .i64 3, .int .i64 0]] W fun e w' => ∃ mb, e = .returned (.tuple #[.pointer (some ⟨mb, 0, none⟩), .int .i64 0]) /\ Below W.heap.size W w' /\ Calls Tryz.prog 11 #[.pointer (some ⟨mb, 0, none⟩), .int .i64 100] w' fun e w2 => ∃ ao c, e = .returned (.tuple #[.agg #[.slice ao 1 c, .int .i64 1, .int .i64 0, .int .i64 0, .int .i64 8, .int .i64 0, .int .i64 1], .int .i64 0]) /\ Evs w2 ao c [(1, 14)] /\ Below W.heap.size W w2 /\ ∀ b o, ao = some ⟨b, o, none⟩ -> W.heap.size <= b := by
 have hI : Ints W (some ⟨g, 0, none⟩) 1 [7] := ⟨Nat.le_refl _, by decide, fun _ => ⟨g, 0, rfl, (gl hg), fun i hi => by
  rw [Nat.zero_add]
  have h0 : i = 0 := by simpa using hi
  subst h0
  exact cell_arr hg rfl⟩⟩
 refine (newR_go W (hTab.below h.low hTab.1) (some ⟨L + 1, 0, none⟩) 8 8 (some ⟨L + 2, 0, none⟩) 1 1 0 smC smF rfl rfl h.ins h.fns (by decide) (by decide) sm_num (some ⟨g, 0, none⟩) 1 1 [7] rfl hI (by intro x hx; simp at hx; subst hx; unfold Fits; omega) 3 0 (by decide +kernel)).mono ?_
 rintro e w' ⟨s, d, W9, k, f, rfl, ⟨hk, hf⟩, ⟨e1, e2, e3, e4⟩, hP, hR, b9, hS, hft, hst⟩
 have hk0 : k = 0 := by omega
 subst hk0
 have ef : f = ⟨⟨#[109, 97, 105, 110]⟩, 3, 0, 8, 0⟩ := by
  have : smF[0]? = some f := hf
  simpa [smF] using this.symm
 subst ef
 obtain ⟨R, g1, g2, g3, g4, g5, g6, g7, g8, g9⟩ := sm_run s [] e1 e2 e3 e4
 have o := hS.out
 obtain ⟨d1, _, _, f1⟩ := o
 have bW : Below W.heap.size W w' := b9.trans (f1.only.below b9.size hft)
 refine ⟨s.mb, rfl, bW, ?_⟩
 have T := mRunR_go (fuel := 100) hS hP hR (by omega)
 rw [g1] at T
 refine T.mono ?_
 rintro e w2 ⟨v, d', B, rfl, _, _, f2, hB, hRow⟩
 rw [g3] at hRow
 obtain ⟨ao, c, rfl, hE⟩ := evs_of hRow
 have b2 : Below W.heap.size W w2 := b9.trans (f2.only.below b9.size hft)
 refine ⟨ao, c, ?_, hE, b2, fun b o eb => ?_⟩
 case refine_2 =>
  subst eb
  have := (own_block hRow.out (show (Value.slice (some ⟨b, o, none⟩) _ c).ownBlock = some b from rfl)).1
  have := bW.size
  omega
 unfold otvR
 rw [g4, g5, g6, g7, g8, g9]
 rfl
end Go.Proofs.YtfofmmkihhnfmaaGreatDoor
