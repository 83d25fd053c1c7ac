import Derived.Test.YtjepkcebfojiaaaDoorLzB
import Derived.Test.YtjepkcebfojiaaaDoorLyM
import Derived.Deep.RegionHeldLaw
set_option linter.unusedVariables false
set_option linter.unusedSimpArgs false
namespace Go.Proofs.YtjepkcebfojiaaaDoor
open Go.ChangeShapes Go.WideShapes Go.ChangeAt Go.RowKit

set_option maxRecDepth 10000 in
set_option maxHeartbeats 4000000 in
theorem putFunc_0 (w : World) (B F pb : Nat) (nv : Value) (S : Ps) (hS : PSt w B F pb nv S) (hF : F ≤ w.heap.size)
    (hT : TabT w B) (n : Nd) (s : ByteArray) (hs : s = bs n.name) (hnl : n.name.length ≤ 1000) (ka : Option Addr) (r kc : Nat) (ks : List Int) (j : Int) (hkids : n.kids = ks ++ [j]) (hr : r = ks.length) (hr1 : r ≤ 1000000) (hK : Ints w ka kc n.kids) (hkB : ∀ b o, ka = some ⟨b, o, none⟩ → b < B) (d : Nat) (hd : n.decl = d) (hd2 : d < 4) (h0 : d = 0) (hk : n.kind = 1) (hmn : S.todo.length + 2 * r + 4 ≤ 100000000) :
    Calls Tryd.prog 48 #[.pointer (some ⟨pb, 0, none⟩), .agg #[.int .i64 n.kind, .int .i64 n.at_, .int .i64 n.wh, .int .i64 n.close, .int .i64 n.decl, .int .i64 n.typ, .int .i64 n.op, .int .i64 n.val, .string s, .slice ka (r + 1) kc]] w fun e w' => e = .returned (.tuple #[]) ∧ PSt w' B w'.heap.size pb nv ⟨S.text, fnParts n ++ S.todo, S.opn⟩ ∧ Below B w w' := by
  have hB := hS.le
  obtain ⟨b, o, rfl, hA⟩ := hK.out (by rw [hkids]; simp)
  have hbB := hkB b o rfl
  have hlb := hA.lt
  have hkc : r + 1 ≤ kc := by have := hK.le; rw [hkids] at this; simp at this; omega
  have hkm := hK.mx
  have pr : w.cell? ⟨b, o + r, none⟩ = some (.int .i64 j) := by
    have h1 := hA.cell r (by rw [hkids, hr]; simp)
    have e : n.kids[r]'(by rw [hkids, hr]; simp) = j := by simp [hkids, hr]
    rw [e] at h1
    exact h1
  have hKs : Ints w (some ⟨b, o, none⟩) kc ks := by
    refine ⟨by omega, hkm, fun _ => ⟨b, o, rfl, ?_⟩⟩
    have h1 := hA.take r
    rwa [hkids, hr, List.take_left'] at h1
    rfl
  obtain ⟨hd', hhd⟩ : ∃ l : List UInt8, l = if d = 0 then [41, 32] else [41, 32] ++ TYPES.getD d [] ++ [32] := ⟨_, rfl⟩
  have HPP : Hid (fnParts n = [tp ([102, 117, 110, 99, 32] ++ n.name ++ [40])] ++ jn ks ++ [tp hd', wp j, tp [10]]) := by
    show _ = _
    have e1 : n.kids.take (n.kids.length - 1) = ks := by simp [hkids]
    have e2 : n.kids.getD (n.kids.length - 1) 0 = j := by simp [hkids]
    unfold fnParts
    rw [e1, e2]
    have e5 : ((d : Int) = 0) = (d = 0) := by simp
    simp only [hd, e5, hhd, typeT, Int.toNat_natCast]
  have hsz : s.size ≤ 1000 := by rw [hs, bs_size]; exact hnl
  have t1 := hT.typ d hd2
  obtain ⟨u, hu⟩ : ∃ u, u = bs (TYPES.getD d []) := ⟨_, rfl⟩
  rw [← hu] at t1
  have hus : u.size ≤ 5 := by
    rw [hu, bs_size]
    have : ∀ k, k < 4 → (TYPES.getD k []).length ≤ 5 := by decide
    exact this d hd2
  obtain ⟨uu, huu⟩ : ∃ uu, (⟨#[102, 117, 110, 99, 32]⟩ : ByteArray) ++ s ++ ⟨#[40]⟩ = uu := ⟨_, rfl⟩
  have HU : Hid (uu = bs ([102, 117, 110, 99, 32] ++ n.name ++ [40])) := by
    show _ = _
    rw [← huu, hs, ← bs_appF, ← bs_appF]; rfl
  obtain ⟨hh, hhh⟩ : ∃ hh, (⟨#[41, 32]⟩ : ByteArray) ++ u ++ ⟨#[32]⟩ = hh := ⟨_, rfl⟩
  have HH : Hid (hh = bs ([41, 32] ++ TYPES.getD d [] ++ [32])) := by
    show _ = _
    rw [← hhh, hu, ← bs_appF, ← bs_appF]; rfl
  rw [hd]
  have hlow := hT.low
  have HR : Hid (r = ks.length) := hr
  have HHD : Hid (hd' = if d = 0 then [41, 32] else [41, 32] ++ TYPES.getD d [] ++ [32]) := hhd
  obtain ⟨kind, at_, wh, close, decl, typ, op, val, name, kids⟩ := n
  simp only at hk hd HU HPP ⊢
  subst hk hd
  clear hs hnl hu hkids hr hhd hK hkB hA
  have hg3 : 1 < B := hT.low.1
  have hg4 : 1 < w.heap.size := by omega
  have hdl : (d : Int) < 4 := by omega
  have hsub : ((r + 1 : Nat) : Int) - 1 = (r : Int) := by omega
  have hr0 : ¬ (r : Int) < 0 := by omega
  have hrc : r ≤ kc := by omega
  have B9 : (w.alloc (.cells #[.int .i64 1, .int .i64 at_, .int .i64 wh, .int .i64 close, .int .i64 (d : Int), .int .i64 typ, .int .i64 op, .int .i64 val, .string s, .slice (some ⟨b, o, none⟩) (r + 1) kc] 39)).cell? ⟨w.heap.size, 9, none⟩ = some (.slice (some ⟨b, o, none⟩) (r + 1) kc) := by simp
  subst h0
  have B9 : (w.alloc (.cells #[.int .i64 1, .int .i64 at_, .int .i64 wh, .int .i64 close, .int .i64 0, .int .i64 typ, .int .i64 op, .int .i64 val, .string s, .slice (some ⟨b, o, none⟩) (r + 1) kc] 39)).cell? ⟨w.heap.size, 9, none⟩ = some (.slice (some ⟨b, o, none⟩) (r + 1) kc) := by simp
  go_enter Tryd.func48, Tryd.ntmps48
  go_wp2_with (first
    | (go_at_call 44; refine (text_any _ _).mono ?_; rintro e w' ⟨rfl, rfl⟩)
    | (go_at_call 52; refine (joined_any _ (some ⟨b, o, none⟩) r kc ks HR.out (hKs.below (by repeat (first | refine Below.alloc ?_ (by first | omega | (simp; done) | (simp; omega)) _ | refine Below.drew ?_ | exact Below.refl _ _)) (Nat.le_refl _)) hr1).mono ?_; rintro e w2 ⟨⟨v2, m2, rfl, HJ⟩, hb2⟩; have hbF2 : Below F w w2 := (by refine Below.trans ?_ (hb2.mono (by first | omega | (simp; done) | (simp; omega))); exact (by repeat (first | refine Below.alloc ?_ (by first | omega | (simp; done) | (simp; omega)) _ | refine Below.drew ?_ | exact Below.refl _ _))); have hs2 := hb2.size; (try simp at hs2); have hm2 : m2 ≤ 2 * r := (by rw [HJ.len, HR.out]; exact jn_len _); obtain ⟨ja, jc, rfl⟩ := own_slice HJ.out; have HJ0 := HJ.base0; have B92 : w2.cell? ⟨w.heap.size, 9, none⟩ = some (.slice (some ⟨b, o, none⟩) (r + 1) kc) := cell_below hb2 (by simp; omega) (by repeat (first | with_reducible exact B9 | with_reducible refine cellA ?_)))
    | (at_builtin; refine wpList_append_two rfl _ _ rfl (w.heap.size + 1) (.slice (some ⟨w.heap.size + 1 + 1, 0, none⟩) 1 1) 1 [tp ([102, 117, 110, 99, 32] ++ name ++ [40])] ?_ ((ownp_new ((w.alloc (.cells #[.int .i64 1, .int .i64 at_, .int .i64 wh, .int .i64 close, .int .i64 0, .int .i64 typ, .int .i64 op, .int .i64 val, .string s, .slice (some ⟨b, o, none⟩) (r + 1) kc] 39)).alloc (.cells #[.int .i64 0, .string uu, .int .i64 0] 52)) #[.int .i64 0, .string uu, .int .i64 0] [tp ([102, 117, 110, 99, 32] ++ name ++ [40])] 1 (w.heap.size + 1 + 1) (w.heap.size + 1) (by simp) (by rw [HU.out]; rfl) rfl (by omega) (by omega)).keep hb2) 0 (.slice ja m2 jc) m2 (jn ks) ?_ HJ0 (by omega) (by omega) ?_; (next => rfl); (next => rfl); intro v3 w3 HO3 hb3; have hbF3 : Below F w w3 := hbF2.trans (hb3.mono (by omega)); have hs3 := hb3.size; obtain ⟨a3, c3, rfl⟩ := own_slice HO3.out; have B93 : w3.cell? ⟨w.heap.size, 9, none⟩ = some (.slice (some ⟨b, o, none⟩) (r + 1) kc) := cell_below hb3 (by omega) B92))
  have HHE : Hid (hd' = [41, 32]) := by show _ = _; rw [HHD.out]; simp
  have p3 : w3.cell? ⟨b, o + r, none⟩ = some (.int .i64 j) := cell_below hbF3 (by omega) pr
  clear B92 HJ HJ0 hb2 hb3
  go_region_held_law (fun w' => w'.cell? ⟨w.heap.size, 9, none⟩ = some (.slice (some ⟨b, o, none⟩) (r + 1) kc) ∧ w'.cell? ⟨b, o + r, none⟩ = some (.int .i64 j))
    (refine ⟨?_, ?_⟩ <;> (repeat (first | with_reducible exact B93 | with_reducible exact p3 | with_reducible refine HKP _ _ (by first | (left; simp; omega) | (left; omega) | (right; simp; omega) | (right; omega)) ?_ | with_reducible refine cell_below hb4 (by omega) ?_ | with_reducible refine cellD ?_ | with_reducible refine cellA ?_)))
    (first
      | (go_at_call 44; refine (text_any _ _).mono ?_; rintro e w' ⟨rfl, rfl⟩)
      | (go_at_call 18; refine (whole_any _ _).mono ?_; rintro e w' ⟨rfl, rfl⟩)
      | (refine step_append_parts rfl _ _ rfl (w.heap.size + 1) _ (1 + m2) ([tp ([102, 117, 110, 99, 32] ++ name ++ [40])] ++ jn ks) [tp [41, 32], wp j, tp [10]] 3 (w3.heap.size + 1 + 1 + 1) ?_ (HO3.keep (by repeat (first | refine Below.alloc ?_ (by first | omega | (simp; done) | (simp; omega)) _ | refine Below.drew ?_ | exact Below.refl _ _))) ?_ (by simp) rfl rfl (by omega) (by first | omega | (simp; done) | (simp; omega)) ?_; (next => simp [Act.eval]); (next => simp [Act.eval]); intro v4 w4 HX4 hb4; obtain ⟨a4, c4, rfl, _, _, hV4, ha4⟩ := HX4.view; have hs4 := hb4.size; (try simp at hs4); have hbF4 : Below F w w4 := (by refine hbF3.trans (Below.trans ?_ (hb4.mono (by omega))); exact (by repeat (first | refine Below.alloc ?_ (by first | omega | (simp; done) | (simp; omega)) _ | refine Below.drew ?_ | exact Below.refl _ _))))
      | (go_at_call 17; refine (put_st _ B F pb nv S _ (1 + m2 + 3) _ _ (hS.below hbF4 (Nat.le_refl _)) (by omega) hV4 HX4.len (by omega) (fun g hg => by rcases ha4 with h | ⟨g', h, h3, _⟩; (· rw [h.1] at hg; cases hg); (· rw [h] at hg; cases hg; omega))).mono ?_; rintro e w5 ⟨rfl, HS, hb5, HKP⟩))
  all_goals exact bodyPost_end (v := .tuple #[]) (by simp [results, Tryd.results48, go_sem]) rfl ⟨rfl, by rw [HPP.out, HHE.out]; exact HS, (hbF4.mono hB).trans hb5⟩
end Go.Proofs.YtjepkcebfojiaaaDoor
namespace Go.Proofs.YtjepkcebfojiaaaDoor
open Go.ChangeShapes Go.WideShapes Go.ChangeAt Go.RowKit

set_option maxRecDepth 10000 in
set_option maxHeartbeats 4000000 in
theorem putFunc_1 (w : World) (B F pb : Nat) (nv : Value) (S : Ps) (hS : PSt w B F pb nv S) (hF : F ≤ w.heap.size)
    (hT : TabT w B) (n : Nd) (s : ByteArray) (hs : s = bs n.name) (hnl : n.name.length ≤ 1000) (ka : Option Addr) (r kc : Nat) (ks : List Int) (j : Int) (hkids : n.kids = ks ++ [j]) (hr : r = ks.length) (hr1 : r ≤ 1000000) (hK : Ints w ka kc n.kids) (hkB : ∀ b o, ka = some ⟨b, o, none⟩ → b < B) (d : Nat) (hd : n.decl = d) (hd2 : d < 4) (h0 : ¬ d = 0) (hk : n.kind = 1) (hmn : S.todo.length + 2 * r + 4 ≤ 100000000) :
    Calls Tryd.prog 48 #[.pointer (some ⟨pb, 0, none⟩), .agg #[.int .i64 n.kind, .int .i64 n.at_, .int .i64 n.wh, .int .i64 n.close, .int .i64 n.decl, .int .i64 n.typ, .int .i64 n.op, .int .i64 n.val, .string s, .slice ka (r + 1) kc]] w fun e w' => e = .returned (.tuple #[]) ∧ PSt w' B w'.heap.size pb nv ⟨S.text, fnParts n ++ S.todo, S.opn⟩ ∧ Below B w w' := by
  have hB := hS.le
  obtain ⟨b, o, rfl, hA⟩ := hK.out (by rw [hkids]; simp)
  have hbB := hkB b o rfl
  have hlb := hA.lt
  have hkc : r + 1 ≤ kc := by have := hK.le; rw [hkids] at this; simp at this; omega
  have hkm := hK.mx
  have pr : w.cell? ⟨b, o + r, none⟩ = some (.int .i64 j) := by
    have h1 := hA.cell r (by rw [hkids, hr]; simp)
    have e : n.kids[r]'(by rw [hkids, hr]; simp) = j := by simp [hkids, hr]
    rw [e] at h1
    exact h1
  have hKs : Ints w (some ⟨b, o, none⟩) kc ks := by
    refine ⟨by omega, hkm, fun _ => ⟨b, o, rfl, ?_⟩⟩
    have h1 := hA.take r
    rwa [hkids, hr, List.take_left'] at h1
    rfl
  obtain ⟨hd', hhd⟩ : ∃ l : List UInt8, l = if d = 0 then [41, 32] else [41, 32] ++ TYPES.getD d [] ++ [32] := ⟨_, rfl⟩
  have HPP : Hid (fnParts n = [tp ([102, 117, 110, 99, 32] ++ n.name ++ [40])] ++ jn ks ++ [tp hd', wp j, tp [10]]) := by
    show _ = _
    have e1 : n.kids.take (n.kids.length - 1) = ks := by simp [hkids]
    have e2 : n.kids.getD (n.kids.length - 1) 0 = j := by simp [hkids]
    unfold fnParts
    rw [e1, e2]
    have e5 : ((d : Int) = 0) = (d = 0) := by simp
    simp only [hd, e5, hhd, typeT, Int.toNat_natCast]
  have hsz : s.size ≤ 1000 := by rw [hs, bs_size]; exact hnl
  have t1 := hT.typ d hd2
  obtain ⟨u, hu⟩ : ∃ u, u = bs (TYPES.getD d []) := ⟨_, rfl⟩
  rw [← hu] at t1
  have hus : u.size ≤ 5 := by
    rw [hu, bs_size]
    have : ∀ k, k < 4 → (TYPES.getD k []).length ≤ 5 := by decide
    exact this d hd2
  obtain ⟨uu, huu⟩ : ∃ uu, (⟨#[102, 117, 110, 99, 32]⟩ : ByteArray) ++ s ++ ⟨#[40]⟩ = uu := ⟨_, rfl⟩
  have HU : Hid (uu = bs ([102, 117, 110, 99, 32] ++ n.name ++ [40])) := by
    show _ = _
    rw [← huu, hs, ← bs_appF, ← bs_appF]; rfl
  obtain ⟨hh, hhh⟩ : ∃ hh, (⟨#[41, 32]⟩ : ByteArray) ++ u ++ ⟨#[32]⟩ = hh := ⟨_, rfl⟩
  have HH : Hid (hh = bs ([41, 32] ++ TYPES.getD d [] ++ [32])) := by
    show _ = _
    rw [← hhh, hu, ← bs_appF, ← bs_appF]; rfl
  rw [hd]
  have hlow := hT.low
  have HR : Hid (r = ks.length) := hr
  have HHD : Hid (hd' = if d = 0 then [41, 32] else [41, 32] ++ TYPES.getD d [] ++ [32]) := hhd
  obtain ⟨kind, at_, wh, close, decl, typ, op, val, name, kids⟩ := n
  simp only at hk hd HU HPP ⊢
  subst hk hd
  clear hs hnl hu hkids hr hhd hK hkB hA
  have hg3 : 1 < B := hT.low.1
  have hg4 : 1 < w.heap.size := by omega
  have hdl : (d : Int) < 4 := by omega
  have hsub : ((r + 1 : Nat) : Int) - 1 = (r : Int) := by omega
  have hr0 : ¬ (r : Int) < 0 := by omega
  have hrc : r ≤ kc := by omega
  have B9 : (w.alloc (.cells #[.int .i64 1, .int .i64 at_, .int .i64 wh, .int .i64 close, .int .i64 (d : Int), .int .i64 typ, .int .i64 op, .int .i64 val, .string s, .slice (some ⟨b, o, none⟩) (r + 1) kc] 39)).cell? ⟨w.heap.size, 9, none⟩ = some (.slice (some ⟨b, o, none⟩) (r + 1) kc) := by simp
  have hdz : ¬ (d : Int) = 0 := by omega
  go_enter Tryd.func48, Tryd.ntmps48
  go_wp2_with (first
    | (go_at_call 44; refine (text_any _ _).mono ?_; rintro e w' ⟨rfl, rfl⟩)
    | (go_at_call 52; refine (joined_any _ (some ⟨b, o, none⟩) r kc ks HR.out (hKs.below (by repeat (first | refine Below.alloc ?_ (by first | omega | (simp; done) | (simp; omega)) _ | refine Below.drew ?_ | exact Below.refl _ _)) (Nat.le_refl _)) hr1).mono ?_; rintro e w2 ⟨⟨v2, m2, rfl, HJ⟩, hb2⟩; have hbF2 : Below F w w2 := (by refine Below.trans ?_ (hb2.mono (by first | omega | (simp; done) | (simp; omega))); exact (by repeat (first | refine Below.alloc ?_ (by first | omega | (simp; done) | (simp; omega)) _ | refine Below.drew ?_ | exact Below.refl _ _))); have hs2 := hb2.size; (try simp at hs2); have hm2 : m2 ≤ 2 * r := (by rw [HJ.len, HR.out]; exact jn_len _); obtain ⟨ja, jc, rfl⟩ := own_slice HJ.out; have HJ0 := HJ.base0; have B92 : w2.cell? ⟨w.heap.size, 9, none⟩ = some (.slice (some ⟨b, o, none⟩) (r + 1) kc) := cell_below hb2 (by simp; omega) (by repeat (first | with_reducible exact B9 | with_reducible refine cellA ?_)))
    | (at_builtin; refine wpList_append_two rfl _ _ rfl (w.heap.size + 1) (.slice (some ⟨w.heap.size + 1 + 1, 0, none⟩) 1 1) 1 [tp ([102, 117, 110, 99, 32] ++ name ++ [40])] ?_ ((ownp_new ((w.alloc (.cells #[.int .i64 1, .int .i64 at_, .int .i64 wh, .int .i64 close, .int .i64 (d : Int), .int .i64 typ, .int .i64 op, .int .i64 val, .string s, .slice (some ⟨b, o, none⟩) (r + 1) kc] 39)).alloc (.cells #[.int .i64 0, .string uu, .int .i64 0] 52)) #[.int .i64 0, .string uu, .int .i64 0] [tp ([102, 117, 110, 99, 32] ++ name ++ [40])] 1 (w.heap.size + 1 + 1) (w.heap.size + 1) (by simp) (by rw [HU.out]; rfl) rfl (by omega) (by omega)).keep hb2) 0 (.slice ja m2 jc) m2 (jn ks) ?_ HJ0 (by omega) (by omega) ?_; (next => rfl); (next => rfl); intro v3 w3 HO3 hb3; have hbF3 : Below F w w3 := hbF2.trans (hb3.mono (by omega)); have hs3 := hb3.size; obtain ⟨a3, c3, rfl⟩ := own_slice HO3.out; have B93 : w3.cell? ⟨w.heap.size, 9, none⟩ = some (.slice (some ⟨b, o, none⟩) (r + 1) kc) := cell_below hb3 (by omega) B92))
  have HHE : Hid (hd' = ([41, 32] ++ TYPES.getD d [] ++ [32])) := by show _ = _; rw [HHD.out]; simp [h0]
  have p3 : w3.cell? ⟨b, o + r, none⟩ = some (.int .i64 j) := cell_below hbF3 (by omega) pr
  clear B92 HJ HJ0 hb2 hb3
  go_region_held_law (fun w' => w'.cell? ⟨w.heap.size, 9, none⟩ = some (.slice (some ⟨b, o, none⟩) (r + 1) kc) ∧ w'.cell? ⟨b, o + r, none⟩ = some (.int .i64 j))
    (refine ⟨?_, ?_⟩ <;> (repeat (first | with_reducible exact B93 | with_reducible exact p3 | with_reducible refine HKP _ _ (by first | (left; simp; omega) | (left; omega) | (right; simp; omega) | (right; omega)) ?_ | with_reducible refine cell_below hb4 (by omega) ?_ | with_reducible refine cellD ?_ | with_reducible refine cellA ?_)))
    (first
      | (go_at_call 44; refine (text_any _ _).mono ?_; rintro e w' ⟨rfl, rfl⟩)
      | (go_at_call 18; refine (whole_any _ _).mono ?_; rintro e w' ⟨rfl, rfl⟩)
      | (refine step_append_parts rfl _ _ rfl (w.heap.size + 1) _ (1 + m2) ([tp ([102, 117, 110, 99, 32] ++ name ++ [40])] ++ jn ks) [tp ([41, 32] ++ TYPES.getD d [] ++ [32]), wp j, tp [10]] 3 (w3.heap.size + 1 + 1 + 1) ?_ (HO3.keep (by repeat (first | refine Below.alloc ?_ (by first | omega | (simp; done) | (simp; omega)) _ | refine Below.drew ?_ | exact Below.refl _ _))) ?_ (by simp) (by rw [HH.out]; rfl) rfl (by omega) (by first | omega | (simp; done) | (simp; omega)) ?_; (next => simp [Act.eval]); (next => simp [Act.eval]); intro v4 w4 HX4 hb4; obtain ⟨a4, c4, rfl, _, _, hV4, ha4⟩ := HX4.view; have hs4 := hb4.size; (try simp at hs4); have hbF4 : Below F w w4 := (by refine hbF3.trans (Below.trans ?_ (hb4.mono (by omega))); exact (by repeat (first | refine Below.alloc ?_ (by first | omega | (simp; done) | (simp; omega)) _ | refine Below.drew ?_ | exact Below.refl _ _))))
      | (go_at_call 17; refine (put_st _ B F pb nv S _ (1 + m2 + 3) _ _ (hS.below hbF4 (Nat.le_refl _)) (by omega) hV4 HX4.len (by omega) (fun g hg => by rcases ha4 with h | ⟨g', h, h3, _⟩; (· rw [h.1] at hg; cases hg); (· rw [h] at hg; cases hg; omega))).mono ?_; rintro e w5 ⟨rfl, HS, hb5, HKP⟩))
  all_goals exact bodyPost_end (v := .tuple #[]) (by simp [results, Tryd.results48, go_sem]) rfl ⟨rfl, by rw [HPP.out, HHE.out]; exact HS, (hbF4.mono hB).trans hb5⟩
end Go.Proofs.YtjepkcebfojiaaaDoor
