/- The item of a line's words, but for its first one. -/
import Derived.Test.YtgjingleolhkbaaGreatDoorTAe
namespace Go.Proofs.YtgjingleolhkbaaGreatDoor
open Go.RowKit
set_option linter.unusedVariables false
set_option linter.unusedSimpArgs false

structure StrV (w : World) (a : Option Addr) (n c : Nat) (ws : List X.By) : Prop where
 count : ws.length = n
 room : n ≤ c ∧ c ≤ maxLen
 small : ∀ x ∈ ws, x.length ≤ 200000
 cells : n = 0 ∨ ∃ b off, a = some ⟨b, off, none⟩ ∧ ∀ i, i < n → w.cell? ⟨b, off + i, none⟩ = some (.string (X.str (ws.getD i [])))
theorem StrV.below {w w1 : World} {a : Option Addr} {n c : Nat} {ws : List X.By} (h : StrV w a n c ws) (hb : Below w.heap.size w w1) : StrV w1 a n c ws := by
 refine ⟨h.count, h.room, h.small, ?_⟩
 rcases h.cells with h0 | ⟨b, off, e, hc⟩
 ·exact .inl h0
 ·exact .inr ⟨b, off, e, fun i hi => cell_thru hb (hc i hi)⟩
theorem StrV.at {w : World} {a : Option Addr} {n c : Nat} {ws : List X.By} (h : StrV w a n c ws) {i : Nat} (hi : i < n) : ∃ b off s, a = some ⟨b, off, none⟩ ∧ w.cell? ⟨b, off + i, none⟩ = some (.string s) ∧ s.data.toList = ws.getD i [] ∧ s.size ≤ 200000 := by
 rcases h.cells with h0 | ⟨b, off, e, hc⟩
 ·omega
 ·refine ⟨b, off, _, e, hc i hi, by rw [str_list], ?_⟩
  rw [str_size]
  have : i < ws.length := by rw [h.count]; exact hi
  exact h.small _ (by simp [List.getD, this])
theorem Bx.put7 {x : World} {b : Nat} {vs : List Value} (h : Bx x b vs) (hl : vs.length = 7) (u0 u1 u2 u3 u4 u5 u6 : Value) : Bx (((((((x.setCell ⟨b, 0, none⟩ (u0)).setCell ⟨b, 1, none⟩ (u1)).setCell ⟨b, 2, none⟩ (u2)).setCell ⟨b, 3, none⟩ (u3)).setCell ⟨b, 4, none⟩ (u4)).setCell ⟨b, 5, none⟩ (u5)).setCell ⟨b, 6, none⟩ (u6)) b [u0, u1, u2, u3, u4, u5, u6] := by
 match vs, hl with
 | [a0, a1, a2, a3, a4, a5, a6], _ => exact ((((((h.put 0 (by simp) u0).put 1 (by simp) u1).put 2 (by simp) u2).put 3 (by simp) u3).put 4 (by simp) u4).put 5 (by simp) u5).put 6 (by simp) u6
theorem below_put7 {w x : World} {B b : Nat} {u0 u1 u2 u3 u4 u5 u6 : Value} (h : Below B w x) (hb : B ≤ b) : Below B w (((((((x.setCell ⟨b, 0, none⟩ (u0)).setCell ⟨b, 1, none⟩ (u1)).setCell ⟨b, 2, none⟩ (u2)).setCell ⟨b, 3, none⟩ (u3)).setCell ⟨b, 4, none⟩ (u4)).setCell ⟨b, 5, none⟩ (u5)).setCell ⟨b, 6, none⟩ (u6)) :=
 ((((((h.setCell hb _).setCell hb _).setCell hb _).setCell hb _).setCell hb _).setCell hb _).setCell hb _
def iC (ns : List Int) : List Value := ns.map fun n => Value.int .i64 n
def TakeOut (w : World) (r : Option X.It) (e : Ending) (w' : World) : Prop :=
 ∃ (t : X.It) (aw : Option Addr) (lw cw : Nat) (ok : Bool), e = .returned (.tuple #[.agg #[.int .i64 t.kind, .string (X.str t.name), .int .i64 t.op, .int .i64 t.a, .int .i64 t.b, .int .i64 t.n, .slice aw lw cw], .bool ok]) ∧ (ok = true → r = some t) ∧ (ok = false → r = none) ∧ t.name.length ≤ 200000 ∧ w'.ownsRow w.heap.size 2 1 (.slice aw lw cw) lw (iC t.words) ∧ Below w.heap.size w w'
theorem own_none (w : World) (B : Nat) (ty : TypeId) : w.ownsRow B ty 1 (.slice none 0 0) 0 (iC []) := World.ownsRow_nil _ _ _ _
theorem TakeOut.bad {w w' : World} {r : Option X.It} (h : r = none) (hb : Below w.heap.size w w') : TakeOut w r (.returned (.tuple #[.agg #[.int .i64 0, .string { data := #[] }, .int .i64 0, .int .i64 0, .int .i64 0, .int .i64 0, .slice none 0 0], .bool false])) w' :=
 ⟨X.noIt, none, 0, 0, false, rfl, (fun h => by cases h), fun _ => h, by simp [X.noIt], own_none _ _ _, hb⟩

set_option maxRecDepth 100000 in
set_option maxHeartbeats 4000000 in
theorem takeNamed_any {w : World} {a : Option Addr} {n c : Nat} {ws : List X.By} (k : Int) (h : StrV w a n c ws) :
  Calls Tryz.prog 105 #[.int .i64 k, .slice a n c] w (TakeOut w (X.takeNamed k ws)) := by
 by_cases h1 : n = 1
 ·subst h1
  obtain ⟨b, off, s, rfl, c0, hs, hz⟩ := h.at (i := 0) (by omega)
  have HR : Hid (X.takeNamed k ws = some ⟨k, s.data.toList, 0, 0, 0, 0, []⟩) := by
   show _ = _
   have := h.count
   match ws, this with
   | [x], _ => rw [hs]; rfl
  have HC : Hid (∀ o, (w.alloc o).cell? ⟨b, off, none⟩ = some (.string s)) := fun o => cell_thru (bl1 _ _) (by simpa using c0)
  have d0 := HC.out
  clear c0 hs h
  go_enter Tryz.func105, Tryz.ntmps105
  go_wp2_with fail
  refine bodyPost_ret (v := .tuple #[.agg #[.int .i64 k, .string s, .int .i64 0, .int .i64 0, .int .i64 0, .int .i64 0, .slice none 0 0], .bool true]) (by simp [results, Tryz.results105, go_sem]) rfl ?_
  refine ⟨⟨k, s.data.toList, 0, 0, 0, 0, []⟩, none, 0, 0, true, by simp [str_eq], fun _ => HR.out, (fun h => by cases h), by simpa using hz, own_none _ _ _, ?_⟩
  repeat (first | exact bl1 _ _ | refine Below.setCell ?_ (by simp) _)
 ·have HR : Hid (X.takeNamed k ws = none) := by
   show _ = _
   unfold X.takeNamed
   split
   ·have := h.count; simp at this; omega
   ·rfl
  have h1' : ((n : Int) != 1) = true := by simp; omega
  clear h h1
  go_enter Tryz.func105, Tryz.ntmps105
  go_wp2_with fail
  refine bodyPost_ret (v := .tuple #[.agg #[.int .i64 0, .string { data := #[] }, .int .i64 0, .int .i64 0, .int .i64 0, .int .i64 0, .slice none 0 0], .bool false]) (by simp [results, Tryz.results105, go_sem]) rfl ?_
  refine TakeOut.bad HR.out ?_
  repeat (first | exact bl1 _ _ | refine Below.setCell ?_ (by simp) _)

/-! ### Instructions -/
theorem setAll_step {t t' : X.It} {beh : ByteArray} {ws : List X.By} {k : Nat} {s : X.By} (hk : k < beh.size) (hw : k < ws.length) (hs : ws.getD k [] = s) (h : X.set t beh[k] s = some t') : X.setAll t (beh.data.toList.drop k) (ws.drop k) = X.setAll t' (beh.data.toList.drop (k + 1)) (ws.drop (k + 1)) := by
 have e : ws.drop k = s :: ws.drop (k + 1) := by
  rw [List.drop_eq_getElem_cons hw]
  congr 1
  simpa [List.getD, hw] using hs
 rw [drop_cons beh k hk, e, X.setAll, h]
 rfl
theorem setAll_fail {t : X.It} {beh : ByteArray} {ws : List X.By} {k : Nat} {s : X.By} (hk : k < beh.size) (hw : k < ws.length) (hs : ws.getD k [] = s) (h : X.set t beh[k] s = none) : X.setAll t (beh.data.toList.drop k) (ws.drop k) = none := by
 have e : ws.drop k = s :: ws.drop (k + 1) := by
  rw [List.drop_eq_getElem_cons hw]
  congr 1
  simpa [List.getD, hw] using hs
 rw [drop_cons beh k hk, e, X.setAll, h]
 rfl
theorem setAll_end {t : X.It} {beh : ByteArray} {ws : List X.By} {k : Nat} (hk : k = beh.size) (hw : k = ws.length) : X.setAll t (beh.data.toList.drop k) (ws.drop k) = some t := by
 rw [List.drop_eq_nil_of_le (by rw [len_list]; omega), List.drop_eq_nil_of_le (by omega)]
 rfl
theorem set_words {t t' : X.It} {c : UInt8} {s : X.By} (h : X.set t c s = some t') : t'.words = t.words ∧ (t'.name = t.name ∨ t'.name = s) := by
 unfold X.set at h
 split at h
 ·obtain ⟨x, -, rfl⟩ := Option.map_eq_some_iff.1 h; exact ⟨rfl, .inl rfl⟩
 ·split at h
  ·obtain ⟨x, -, rfl⟩ := Option.map_eq_some_iff.1 h; exact ⟨rfl, .inl rfl⟩
  ·split at h
   ·obtain ⟨x, -, rfl⟩ := Option.map_eq_some_iff.1 h; exact ⟨rfl, .inl rfl⟩
   ·split at h
    ·cases h; exact ⟨rfl, .inr rfl⟩
    ·cases h

set_option maxRecDepth 100000 in
set_option maxHeartbeats 8000000 in
theorem takeIns_any {w : World} {a : Option Addr} {n c : Nat} {ws : List X.By} (f : ByteArray) (h : StrV w a n c ws) (ht : Tab w) :
  Calls Tryz.prog 107 #[.string f, .slice a n c] w (TakeOut w (X.takeIns f.data.toList ws)) := by
 have HV : Hid _ := h
 have HT : Hid _ := ht
 have hcount := h.count
 have hm : n ≤ 9223372036854775807 := by have := h.room; unfold maxLen at this; omega
 have hop := opOf_any f
 have HZ : Hid (Bx (w.alloc (.cells #[.int .i64 0, .string { data := #[] }, .int .i64 0, .int .i64 0, .int .i64 0, .int .i64 0, .slice none 0 0] 44)) w.heap.size [.int .i64 0, .string { data := #[] }, .int .i64 0, .int .i64 0, .int .i64 0, .int .i64 0, .slice none 0 0]) := Bx.new _ _ _
 have hz7 := ht.hz
 clear h ht
 cases hr : X.opOf f.data.toList with
 | none =>
  have HR : Hid (X.takeIns f.data.toList ws = none) := by show _ = _; unfold X.takeIns; rw [hr]
  go_enter Tryz.func107, Tryz.ntmps107
  go_wp2_with fail
  refine (hop _ (HT.out.alloc _)).mono ?_
  rw [hr]
  rintro e y ⟨rfl, hb⟩
  have HBX := HZ.out.below hb
  have HB : Hid _ := hb
  have c0 := HBX.c 0 _ rfl; have c1 := HBX.c 1 _ rfl; have c2 := HBX.c 2 _ rfl; have c3 := HBX.c 3 _ rfl; have c4 := HBX.c 4 _ rfl; have c5 := HBX.c 5 _ rfl; have c6 := HBX.c 6 _ rfl
  have f0 := HBX.f 0; have f1 := HBX.f 1; have f2 := HBX.f 2; have f3 := HBX.f 3; have f4 := HBX.f 4; have f5 := HBX.f 5; have f6 := HBX.f 6
  have HBX' : Hid _ := HBX
  clear HBX hb hop hcount
  go_wp2_with fail
  have h2 := (bl1 w (.cells #[.int .i64 0, .string { data := #[] }, .int .i64 0, .int .i64 0, .int .i64 0, .int .i64 0, .slice none 0 0] 44)).trans (HB.out.mono (bl1 _ _).size)
  have HF := Bx.put7 HBX'.out rfl (.int .i64 0) (.string { data := #[] }) (.int .i64 0) (.int .i64 0) (.int .i64 0) (.int .i64 0) (.slice none 0 0)
  have HE : Below w.heap.size w (((((((y.setCell ⟨w.heap.size, 0, none⟩ (.int .i64 0)).setCell ⟨w.heap.size, 1, none⟩ (.string { data := #[] })).setCell ⟨w.heap.size, 2, none⟩ (.int .i64 0)).setCell ⟨w.heap.size, 3, none⟩ (.int .i64 0)).setCell ⟨w.heap.size, 4, none⟩ (.int .i64 0)).setCell ⟨w.heap.size, 5, none⟩ (.int .i64 0)).setCell ⟨w.heap.size, 6, none⟩ (.slice none 0 0)) := below_put7 h2 (Nat.le_refl _)
  generalize (((((((y.setCell ⟨w.heap.size, 0, none⟩ (.int .i64 0)).setCell ⟨w.heap.size, 1, none⟩ (.string { data := #[] })).setCell ⟨w.heap.size, 2, none⟩ (.int .i64 0)).setCell ⟨w.heap.size, 3, none⟩ (.int .i64 0)).setCell ⟨w.heap.size, 4, none⟩ (.int .i64 0)).setCell ⟨w.heap.size, 5, none⟩ (.int .i64 0)).setCell ⟨w.heap.size, 6, none⟩ (.slice none 0 0)) = Wf at HF HE ⊢
  have k0 := HF.c 0 _ rfl; have k1 := HF.c 1 _ rfl; have k2 := HF.c 2 _ rfl; have k3 := HF.c 3 _ rfl; have k4 := HF.c 4 _ rfl; have k5 := HF.c 5 _ rfl; have k6 := HF.c 6 _ rfl
  refine bodyPost_ret (v := .tuple #[.agg #[.int .i64 0, .string { data := #[] }, .int .i64 0, .int .i64 0, .int .i64 0, .int .i64 0, .slice none 0 0], .bool false]) (by simp [results, Tryz.results107, go_sem, k0, k1, k2, k3, k4, k5, k6]) rfl ?_
  exact TakeOut.bad HR.out HE
 | some k0 =>
  obtain ⟨hk0, hm0⟩ := X.opOf_some hr
  by_cases hlen : ws.length = (X.row k0).2.length
  rotate_left
  ·have HR : Hid (X.takeIns f.data.toList ws = none) := by show _ = _; unfold X.takeIns; rw [hr]; simp only; rw [if_neg hlen]
   go_enter Tryz.func107, Tryz.ntmps107
   go_wp2_with fail
   refine (hop _ (HT.out.alloc _)).mono ?_
   rw [hr]
   rintro e y ⟨rfl, hb⟩
   have HBX := HZ.out.below hb
   have HB : Hid _ := hb
   obtain ⟨-, t2⟩ := ((HT.out.alloc _).below hb).rw k0 hk0
   obtain ⟨r, hrr⟩ : ∃ r, X.str (X.row k0).2 = r := ⟨_, rfl⟩
   have hrs : r.size = (X.row k0).2.length := by rw [← hrr, str_size]
   rw [hrr] at t2
   have hne : ((n : Int) != (r.size : Int)) = true := by simp; omega
   have c0 := HBX.c 0 _ rfl; have c1 := HBX.c 1 _ rfl; have c2 := HBX.c 2 _ rfl; have c3 := HBX.c 3 _ rfl; have c4 := HBX.c 4 _ rfl; have c5 := HBX.c 5 _ rfl; have c6 := HBX.c 6 _ rfl
   have f0 := HBX.f 0; have f1 := HBX.f 1; have f2 := HBX.f 2; have f3 := HBX.f 3; have f4 := HBX.f 4; have f5 := HBX.f 5; have f6 := HBX.f 6
   have HBX' : Hid _ := HBX
   clear HBX hb hop hlen hcount hrr hrs hm0
   go_wp2_with fail
   have h2 := (bl1 w (.cells #[.int .i64 0, .string { data := #[] }, .int .i64 0, .int .i64 0, .int .i64 0, .int .i64 0, .slice none 0 0] 44)).trans (HB.out.mono (bl1 _ _).size)
   have HF := Bx.put7 HBX'.out rfl (.int .i64 0) (.string { data := #[] }) (.int .i64 0) (.int .i64 0) (.int .i64 0) (.int .i64 0) (.slice none 0 0)
   have HE : Below w.heap.size w (((((((y.setCell ⟨w.heap.size, 0, none⟩ (.int .i64 0)).setCell ⟨w.heap.size, 1, none⟩ (.string { data := #[] })).setCell ⟨w.heap.size, 2, none⟩ (.int .i64 0)).setCell ⟨w.heap.size, 3, none⟩ (.int .i64 0)).setCell ⟨w.heap.size, 4, none⟩ (.int .i64 0)).setCell ⟨w.heap.size, 5, none⟩ (.int .i64 0)).setCell ⟨w.heap.size, 6, none⟩ (.slice none 0 0)) := below_put7 h2 (Nat.le_refl _)
   generalize (((((((y.setCell ⟨w.heap.size, 0, none⟩ (.int .i64 0)).setCell ⟨w.heap.size, 1, none⟩ (.string { data := #[] })).setCell ⟨w.heap.size, 2, none⟩ (.int .i64 0)).setCell ⟨w.heap.size, 3, none⟩ (.int .i64 0)).setCell ⟨w.heap.size, 4, none⟩ (.int .i64 0)).setCell ⟨w.heap.size, 5, none⟩ (.int .i64 0)).setCell ⟨w.heap.size, 6, none⟩ (.slice none 0 0)) = Wf at HF HE ⊢
   have k0 := HF.c 0 _ rfl; have k1 := HF.c 1 _ rfl; have k2 := HF.c 2 _ rfl; have k3 := HF.c 3 _ rfl; have k4 := HF.c 4 _ rfl; have k5 := HF.c 5 _ rfl; have k6 := HF.c 6 _ rfl
   refine bodyPost_ret (v := .tuple #[.agg #[.int .i64 0, .string { data := #[] }, .int .i64 0, .int .i64 0, .int .i64 0, .int .i64 0, .slice none 0 0], .bool false]) (by simp [results, Tryz.results107, go_sem, k0, k1, k2, k3, k4, k5, k6]) rfl ?_
   exact TakeOut.bad HR.out HE
  obtain ⟨r, hrr⟩ : ∃ r, X.str (X.row k0).2 = r := ⟨_, rfl⟩
  have hrl : r.data.toList = (X.row k0).2 := by rw [← hrr, str_list]
  have hrs : r.size = n := by rw [← len_list, hrl, ← hlen, hcount]
  have HR : Hid (X.takeIns f.data.toList ws = X.setAll ⟨2, [], k0, 0, 0, 0, []⟩ r.data.toList ws) := by show _ = _; unfold X.takeIns; rw [hr]; simp only; rw [if_pos hlen, hrl]
  have HCT : Hid (ws.length = n) := hcount
  have HRS : Hid (r.size = n) := hrs
  go_enter Tryz.func107, Tryz.ntmps107
  go_wp2_with fail
  refine (hop _ (HT.out.alloc _)).mono ?_
  rw [hr]
  rintro e y ⟨rfl, hb⟩
  have HB : Hid (Below (w.alloc (.cells #[.int .i64 0, .string { data := #[] }, .int .i64 0, .int .i64 0, .int .i64 0, .int .i64 0, .slice none 0 0] 44)).heap.size (w.alloc (.cells #[.int .i64 0, .string { data := #[] }, .int .i64 0, .int .i64 0, .int .i64 0, .int .i64 0, .slice none 0 0] 44)) y) := hb
  have HTY : Hid (Tab y) := (HT.out.alloc _).below hb
  obtain ⟨-, t2⟩ := HTY.out.rw k0 hk0
  rw [hrr] at t2
  have HTR : Hid (∀ {x : World}, Tab x → x.cell? ⟨0, k0 * 2 + 1, none⟩ = some (.string r)) := fun hx => by rw [← hrr]; exact (hx.rw k0 hk0).2
  have hne : ((n : Int) != (r.size : Int)) = false := by simp; omega
  have HRES : Hid (Bx y w.heap.size [.int .i64 0, .string { data := #[] }, .int .i64 0, .int .i64 0, .int .i64 0, .int .i64 0, .slice none 0 0]) := HZ.out.below hb
  have HYW : Hid (w.heap.size + 1 ≤ y.heap.size) := by show _ ≤ _; have := hb.size; simpa using this
  have HY0 : Hid (Below w.heap.size w y) := (bl1 _ _).trans (hb.mono (bl1 _ _).size)
  clear hb hop hlen hcount hm0 hrl hrr HZ hr hrs
  go_wp2_with fail
  go_loopg [34] n (fun rr iv wq => ∃ (k : Nat), iv = .int .i64 k ∧ k ≤ n ∧ n - k ≤ rr ∧ Hid (∃ t : X.It, t.words = [] ∧ t.name.length ≤ 200000 ∧ Bx wq y.heap.size (itC t (.slice none 0 0)) ∧ X.setAll ⟨2, [], k0, 0, 0, 0, []⟩ r.data.toList ws = X.setAll t (r.data.toList.drop k) (ws.drop k)) ∧ Hid (Bx wq w.heap.size [.int .i64 0, .string { data := #[] }, .int .i64 0, .int .i64 0, .int .i64 0, .int .i64 0, .slice none 0 0] ∧ Tab wq ∧ Below y.heap.size y wq))
  case atStart =>
   refine ⟨0, rfl, Nat.zero_le _, by omega, ⟨⟨2, [], k0, 0, 0, 0, []⟩, rfl, by simp, Bx.new _ _ _, by simp⟩, ⟨HRES.out.below (bl1 _ _), HTY.out.alloc _, bl1 _ _⟩⟩
  case round =>
   obtain ⟨k, rfl, hk, hr, HI, HJ⟩ := hrel
   by_cases hlt : k < n
   ·obtain ⟨t, ht1, ht2, ht3, ht4⟩ := HI.out
    have hJ := HJ.out
    obtain ⟨j1, j2, j3⟩ := hJ
    have t2' := HTR.out j2
    obtain ⟨b, off, s, rfl, cw, hs, hz⟩ := ((HV.out.below HY0.out).below j3).at hlt
    have hii : (k : Int) < n := by omega
    have hin : 0 ≤ (k : Int) := by omega
    have hkr : k < r.size := by rw [HRS.out]; exact hlt
    have hii2 : (k : Int) < r.size := by omega
    have hset := set_any t.kind t.name t.op t.a t.b t.n t.words (.slice none 0 0) y.heap.size r[k] s hz wr j2 ht3
    rw [show (⟨t.kind, t.name, t.op, t.a, t.b, t.n, t.words⟩ : X.It) = t from rfl] at hset
    have HS : Hid _ := hs
    have HH : Hid (t.words = [] ∧ t.name.length ≤ 200000 ∧ X.setAll ⟨2, [], k0, 0, 0, 0, []⟩ r.data.toList ws = X.setAll t (r.data.toList.drop k) (ws.drop k)) := ⟨ht1, ht2, ht4⟩
    have HZs : Hid _ := hz
    clear ht1 ht2 ht3 ht4 j1 j2 j3 hs hz t2
    go_wp2_with fail
    refine hset.mono ?_
    rintro e y2 ⟨ok, rfl, h1, h2, hg⟩
    have HG : Hid (wr.grownBy y2 (some y.heap.size)) := hg
    have HJ2 : Hid (Bx y2 w.heap.size [.int .i64 0, .string { data := #[] }, .int .i64 0, .int .i64 0, .int .i64 0, .int .i64 0, .slice none 0 0] ∧ Tab y2 ∧ Below y.heap.size y y2) := ⟨HJ.out.1.gb hg (by have := HYW.out; omega), HJ.out.2.1.gb hg (by have := HYW.out; omega), below_gb HJ.out.2.2 hg (Nat.le_refl _) HJ.out.2.2.size⟩
    clear hset cw t2' hg
    cases ok with
    | false =>
     have HN : Hid (X.takeIns f.data.toList ws = none) := by
      show _ = _
      rw [HR.out, HH.out.2.2, setAll_fail hkr (by rw [HCT.out]; exact hlt) rfl (by rw [← HS.out]; exact h2 rfl)]
     have HBX := HJ2.out.1
     have c0 := HBX.c 0 _ rfl; have c1 := HBX.c 1 _ rfl; have c2 := HBX.c 2 _ rfl; have c3 := HBX.c 3 _ rfl; have c4 := HBX.c 4 _ rfl; have c5 := HBX.c 5 _ rfl; have c6 := HBX.c 6 _ rfl
     have f0 := HBX.f 0; have f1 := HBX.f 1; have f2 := HBX.f 2; have f3 := HBX.f 3; have f4 := HBX.f 4; have f5 := HBX.f 5; have f6 := HBX.f 6
     have HW : Hid (Below w.heap.size w y2) := HY0.out.trans (HJ2.out.2.2.mono HY0.out.size)
     clear HBX h1 h2
     go_wp2_with fail
     have HF := Bx.put7 HJ2.out.1 rfl (.int .i64 0) (.string { data := #[] }) (.int .i64 0) (.int .i64 0) (.int .i64 0) (.int .i64 0) (.slice none 0 0)
     have HE : Below w.heap.size w (((((((y2.setCell ⟨w.heap.size, 0, none⟩ (.int .i64 0)).setCell ⟨w.heap.size, 1, none⟩ (.string { data := #[] })).setCell ⟨w.heap.size, 2, none⟩ (.int .i64 0)).setCell ⟨w.heap.size, 3, none⟩ (.int .i64 0)).setCell ⟨w.heap.size, 4, none⟩ (.int .i64 0)).setCell ⟨w.heap.size, 5, none⟩ (.int .i64 0)).setCell ⟨w.heap.size, 6, none⟩ (.slice none 0 0)) := below_put7 HW.out (Nat.le_refl _)
     generalize (((((((y2.setCell ⟨w.heap.size, 0, none⟩ (.int .i64 0)).setCell ⟨w.heap.size, 1, none⟩ (.string { data := #[] })).setCell ⟨w.heap.size, 2, none⟩ (.int .i64 0)).setCell ⟨w.heap.size, 3, none⟩ (.int .i64 0)).setCell ⟨w.heap.size, 4, none⟩ (.int .i64 0)).setCell ⟨w.heap.size, 5, none⟩ (.int .i64 0)).setCell ⟨w.heap.size, 6, none⟩ (.slice none 0 0)) = Wf at HF HE ⊢
     have k0 := HF.c 0 _ rfl; have k1 := HF.c 1 _ rfl; have k2 := HF.c 2 _ rfl; have k3 := HF.c 3 _ rfl; have k4 := HF.c 4 _ rfl; have k5 := HF.c 5 _ rfl; have k6 := HF.c 6 _ rfl
     refine bodyPost_ret (v := .tuple #[.agg #[.int .i64 0, .string { data := #[] }, .int .i64 0, .int .i64 0, .int .i64 0, .int .i64 0, .slice none 0 0], .bool false]) (by simp [results, Tryz.results107, go_sem, k0, k1, k2, k3, k4, k5, k6]) rfl ?_
     exact TakeOut.bad HN.out HE
    | true =>
     have HN : Hid (∃ t : X.It, t.words = [] ∧ t.name.length ≤ 200000 ∧ Bx y2 y.heap.size (itC t (.slice none 0 0)) ∧ X.setAll ⟨2, [], k0, 0, 0, 0, []⟩ r.data.toList ws = X.setAll t (r.data.toList.drop (k + 1)) (ws.drop (k + 1))) := by
      obtain ⟨t', g1, g2⟩ := h1 rfl
      obtain ⟨q1, q2⟩ := set_words g1
      refine ⟨t', q1.trans HH.out.1, ?_, g2, ?_⟩
      ·rcases q2 with e | e
       ·rw [e]; exact HH.out.2.1
       ·rw [e, len_list]; exact HZs.out
      ·rw [HH.out.2.2]
       exact setAll_step hkr (by rw [HCT.out]; exact hlt) rfl (by rw [← HS.out]; exact g1)
     clear h1 h2
     go_wp2_with fail
     go_roundg (n - (k + 1))
     case measure => omega
     case rel => exact ⟨k + 1, by go_num, by omega, Nat.le_refl _, HN.out, HJ2.out⟩
   ·obtain rfl : k = n := by omega
    have hii : ¬ (k : Int) < k := by omega
    obtain ⟨t, ht1, ht2, ht3, ht4⟩ := HI.out
    have HN : Hid (X.takeIns f.data.toList ws = some t) := by
     show _ = _
     rw [HR.out, ht4, setAll_end HRS.out.symm HCT.out.symm]
    have HBX := HJ.out.1
    have hne2 : y.heap.size ≠ w.heap.size := by have := HYW.out; omega
    have c0 := HBX.c 0 _ rfl; have c1 := HBX.c 1 _ rfl; have c2 := HBX.c 2 _ rfl; have c3 := HBX.c 3 _ rfl; have c4 := HBX.c 4 _ rfl; have c5 := HBX.c 5 _ rfl; have c6 := HBX.c 6 _ rfl
    have f0 := HBX.f 0; have f1 := HBX.f 1; have f2 := HBX.f 2; have f3 := HBX.f 3; have f4 := HBX.f 4; have f5 := HBX.f 5; have f6 := HBX.f 6
    have d0 := ht3.c 0 _ rfl; have d1 := ht3.c 1 _ rfl; have d2 := ht3.c 2 _ rfl; have d3 := ht3.c 3 _ rfl; have d4 := ht3.c 4 _ rfl; have d5 := ht3.c 5 _ rfl; have d6 := ht3.c 6 _ rfl
    have HW : Hid (Below w.heap.size w wr) := HY0.out.trans (HJ.out.2.2.mono HY0.out.size)
    have HH : Hid (t.words = [] ∧ t.name.length ≤ 200000) := ⟨ht1, ht2⟩
    clear HBX ht1 ht2 ht3 ht4 t2
    generalize y.heap.size = bz at *
    go_wp2_with fail
    have HF := Bx.put7 HJ.out.1 rfl (.int .i64 t.kind) (.string (X.str t.name)) (.int .i64 t.op) (.int .i64 t.a) (.int .i64 t.b) (.int .i64 t.n) (.slice none 0 0)
    have HE : Below w.heap.size w (((((((wr.setCell ⟨w.heap.size, 0, none⟩ (.int .i64 t.kind)).setCell ⟨w.heap.size, 1, none⟩ (.string (X.str t.name))).setCell ⟨w.heap.size, 2, none⟩ (.int .i64 t.op)).setCell ⟨w.heap.size, 3, none⟩ (.int .i64 t.a)).setCell ⟨w.heap.size, 4, none⟩ (.int .i64 t.b)).setCell ⟨w.heap.size, 5, none⟩ (.int .i64 t.n)).setCell ⟨w.heap.size, 6, none⟩ (.slice none 0 0)) := below_put7 HW.out (Nat.le_refl _)
    generalize (((((((wr.setCell ⟨w.heap.size, 0, none⟩ (.int .i64 t.kind)).setCell ⟨w.heap.size, 1, none⟩ (.string (X.str t.name))).setCell ⟨w.heap.size, 2, none⟩ (.int .i64 t.op)).setCell ⟨w.heap.size, 3, none⟩ (.int .i64 t.a)).setCell ⟨w.heap.size, 4, none⟩ (.int .i64 t.b)).setCell ⟨w.heap.size, 5, none⟩ (.int .i64 t.n)).setCell ⟨w.heap.size, 6, none⟩ (.slice none 0 0)) = Wf at HF HE ⊢
    have k0 := HF.c 0 _ rfl; have k1 := HF.c 1 _ rfl; have k2 := HF.c 2 _ rfl; have k3 := HF.c 3 _ rfl; have k4 := HF.c 4 _ rfl; have k5 := HF.c 5 _ rfl; have k6 := HF.c 6 _ rfl
    refine bodyPost_ret (v := .tuple #[.agg #[.int .i64 t.kind, .string (X.str t.name), .int .i64 t.op, .int .i64 t.a, .int .i64 t.b, .int .i64 t.n, .slice none 0 0], .bool true]) (by simp [results, Tryz.results107, go_sem, k0, k1, k2, k3, k4, k5, k6]) rfl ?_
    exact ⟨t, none, 0, 0, true, rfl, fun _ => HN.out, (fun h => by cases h), HH.out.2, by rw [HH.out.1]; exact own_none _ _ _, HE⟩

end Go.Proofs.YtgjingleolhkbaaGreatDoor

/- A line of words; a line. -/
namespace Go.Proofs.YtgjingleolhkbaaGreatDoor
open Go.RowKit
set_option linter.unusedVariables false
set_option linter.unusedSimpArgs false

theorem infoN : (Tryz.prog.info? 2).map (fun i => (i.zero, i.size, i.bytes)) = some (some (.int .i64 0), 1, 8) := by kernel_rfl
theorem Bx.gbO {x y : World} {b : Nat} {r : Option Nat} {vs : List Value} (h : Bx x b vs) (hg : x.grownBy y r) (hne : some b ≠ r) : Bx y b vs :=
 ⟨fun j u hu => hg.cell (h.c j u hu) hne, fun o => (hg.frozen_far ⟨b, o, none⟩ h.lt hne).trans (h.f o), Nat.lt_of_lt_of_le h.lt hg.size⟩
theorem StrV.tail {w : World} {b off : Nat} {n c : Nat} {x : X.By} {ws : List X.By} (h : StrV w (some ⟨b, off, none⟩) (n + 1) (c + 1) (x :: ws)) : StrV w (some ⟨b, off + 1, none⟩) n c ws := by
 refine ⟨by have := h.count; simpa using this, ⟨by have := h.room; omega, by have := h.room; omega⟩, fun y hy => h.small y (by simp [hy]), ?_⟩
 rcases h.cells with h0 | ⟨b', off', e, hc⟩
 ·omega
 ·cases e
  refine .inr ⟨b, off + 1, rfl, fun i hi => ?_⟩
  have := hc (i + 1) (by omega)
  rw [show off + 1 + i = off + (i + 1) by omega, this]
  simp
theorem put7_own {x : World} {B b : Nat} {ty : TypeId} {k n : Nat} {v : Value} {cs : List Value} {u0 u1 u2 u3 u4 u5 u6 : Value} (h : x.ownsRow B ty k v n cs) (hb : b < B) : World.ownsRow (((((((x.setCell ⟨b, 0, none⟩ (u0)).setCell ⟨b, 1, none⟩ (u1)).setCell ⟨b, 2, none⟩ (u2)).setCell ⟨b, 3, none⟩ (u3)).setCell ⟨b, 4, none⟩ (u4)).setCell ⟨b, 5, none⟩ (u5)).setCell ⟨b, 6, none⟩ (u6)) B ty k v n cs := by
 have st : ∀ {y : World} {o : Nat} {u : Value}, y.ownsRow B ty k v n cs → (y.setCell ⟨b, o, none⟩ u).ownsRow B ty k v n cs := fun h => h.kept (gb_set _ _ _) (.inr (fun e => by have := (h.lt b e).1; omega))
 exact st (st (st (st (st (st (st h))))))
theorem nums_step {l : List X.By} {k : Nat} {ns : List Int} {z : Int} (hk : k < l.length) (hz : X.num (l.getD k []) = some z) (h : X.nums l = (X.nums (l.drop k)).map (ns ++ ·)) : X.nums l = (X.nums (l.drop (k + 1))).map (ns ++ [z] ++ ·) := by
 rw [h, List.drop_eq_getElem_cons hk]
 have e : l[k] = l.getD k [] := by simp [List.getD, hk]
 rw [e, X.nums, hz, Option.bind_some, Option.map_map]
 congr 1
 funext r
 simp
theorem nums_bad {l : List X.By} {k : Nat} {ns : List Int} (hk : k < l.length) (hz : X.num (l.getD k []) = none) (h : X.nums l = (X.nums (l.drop k)).map (ns ++ ·)) : X.nums l = none := by
 rw [h, List.drop_eq_getElem_cons hk]
 have e : l[k] = l.getD k [] := by simp [List.getD, hk]
 rw [e, X.nums, hz]
 rfl
theorem nums_end {l : List X.By} {ns : List Int} (h : X.nums l = (X.nums (l.drop l.length)).map (ns ++ ·)) : X.nums l = some ns := by
 rw [h, List.drop_length]
 simp [X.nums]

set_option maxRecDepth 100000 in
set_option maxHeartbeats 8000000 in
theorem takeWords_any {w : World} {a : Option Addr} {n c : Nat} {ws : List X.By} (h : StrV w a n c ws) (hn : n ≤ 200000) (ht : Tab w) :
  Calls Tryz.prog 106 #[.slice a n c] w (TakeOut w (X.takeWords ws)) := by
 have HT : Hid _ := ht
 have hz7 := ht.hz
 clear ht
 by_cases h0 : n = 0
 ·have HR : Hid (X.takeWords ws = none) := by
   show _ = _
   have := h.count
   rw [h0] at this
   rw [List.eq_nil_of_length_eq_zero this]
   rfl
  have h0' : ((n : Int) == 0) = true := by simp [h0]
  clear h h0
  go_enter Tryz.func106, Tryz.ntmps106
  go_wp2_with fail
  refine bodyPost_ret (v := .tuple #[.agg #[.int .i64 0, .string { data := #[] }, .int .i64 0, .int .i64 0, .int .i64 0, .int .i64 0, .slice none 0 0], .bool false]) (by simp [results, Tryz.results106, go_sem]) rfl ?_
  refine TakeOut.bad HR.out ?_
  repeat (first | exact bl1 _ _ | refine Below.setCell ?_ (by simp) _)
 have h0' : ((n : Int) == 0) = false := by simp [h0]
 obtain ⟨b, off, s0, rfl, d0, hs0, hz0⟩ := h.at (i := 0) (by omega)
 obtain ⟨x, ws, rfl⟩ : ∃ x r, ws = x :: r := by
  cases ws with
  | nil => have := h.count; simp at this; omega
  | cons x r => exact ⟨x, r, rfl⟩
 have hx : s0.data.toList = x := by simpa using hs0
 obtain ⟨n, rfl⟩ : ∃ m, n = m + 1 := ⟨n - 1, by omega⟩
 obtain ⟨c, rfl⟩ : ∃ m, c = m + 1 := ⟨c - 1, by have := h.room; omega⟩
 have hroom := h.room
 obtain ⟨hr1, hr2⟩ := hroom
 unfold maxLen at hr2
 have HV : Hid (StrV w (some ⟨b, off + 1, none⟩) n c ws) := h.tail
 have HCT : Hid (ws.length = n) := h.tail.count
 have HR : Hid (X.takeWords (x :: ws) = (X.nums ws).map fun l => ⟨3, s0.data.toList, 0, 0, 0, 0, l⟩) := by show _ = _; rw [hx]; rfl
 have HX0 : Hid (s0.size ≤ 200000) := hz0
 have d0' : w.cell? ⟨b, off, none⟩ = some (.string s0) := by simpa using d0
 have HD : Hid (∀ o, (w.alloc o).cell? ⟨b, off, none⟩ = some (.string s0)) := fun o => cell_thru (bl1 _ _) d0'
 have dd := HD.out
 clear h hs0 hx d0 d0' hz0 h0
 obtain ⟨is, his, is0, is1, is2⟩ := info_parts infoN
 have HZ : Hid (Bx ((w.alloc (.cells #[.int .i64 0, .string { data := #[] }, .int .i64 0, .int .i64 0, .int .i64 0, .int .i64 0, .slice none 0 0] 44)).alloc (.cells #[.int .i64 3, .string s0, .int .i64 0, .int .i64 0, .int .i64 0, .int .i64 0, .slice none 0 0] 44)) w.heap.size [.int .i64 0, .string { data := #[] }, .int .i64 0, .int .i64 0, .int .i64 0, .int .i64 0, .slice none 0 0]) := (Bx.new _ _ _).below (bl1 _ _)
 have HB0 : Hid (Bx ((w.alloc (.cells #[.int .i64 0, .string { data := #[] }, .int .i64 0, .int .i64 0, .int .i64 0, .int .i64 0, .slice none 0 0] 44)).alloc (.cells #[.int .i64 3, .string s0, .int .i64 0, .int .i64 0, .int .i64 0, .int .i64 0, .slice none 0 0] 44)) (w.heap.size + 1) [.int .i64 3, .string s0, .int .i64 0, .int .i64 0, .int .i64 0, .int .i64 0, .slice none 0 0]) := by
  show Bx _ _ _
  have := Bx.new (w.alloc (.cells #[.int .i64 0, .string { data := #[] }, .int .i64 0, .int .i64 0, .int .i64 0, .int .i64 0, .slice none 0 0] 44)) #[.int .i64 3, .string s0, .int .i64 0, .int .i64 0, .int .i64 0, .int .i64 0, .slice none 0 0] 44
  simpa using this
 have HW0 : Hid (Below w.heap.size w ((w.alloc (.cells #[.int .i64 0, .string { data := #[] }, .int .i64 0, .int .i64 0, .int .i64 0, .int .i64 0, .slice none 0 0] 44)).alloc (.cells #[.int .i64 3, .string s0, .int .i64 0, .int .i64 0, .int .i64 0, .int .i64 0, .slice none 0 0] 44))) := bl2 _ _ _
 by_cases hc0 : c = 0
 ·subst hc0
  have HV : Hid (StrV w (some ⟨b, off, none⟩) n 0 ws) := ⟨HCT.out, ⟨by omega, Nat.zero_le _⟩, HV.out.small, .inl (by omega)⟩
  go_enter Tryz.func106, Tryz.ntmps106
  go_wp2_with fail
  clear dd
  go_loopg [20] n (fun rr iv wq => ∃ (k : Nat), iv = .int .i64 k ∧ k ≤ n ∧ n - k ≤ rr ∧ Hid (∃ (ns : List Int) (av : Option Addr) (cv : Nat), Bx wq (w.heap.size + 1) [.int .i64 3, .string s0, .int .i64 0, .int .i64 0, .int .i64 0, .int .i64 0, .slice av k cv] ∧ wq.ownsRow (w.heap.size + 2) 2 1 (.slice av k cv) k (iC ns) ∧ X.nums ws = (X.nums (ws.drop k)).map (ns ++ ·)) ∧ Hid (Bx wq w.heap.size [.int .i64 0, .string { data := #[] }, .int .i64 0, .int .i64 0, .int .i64 0, .int .i64 0, .slice none 0 0] ∧ Tab wq ∧ Below w.heap.size w wq ∧ w.heap.size + 2 ≤ wq.heap.size))
  case atStart => exact ⟨0, rfl, Nat.zero_le _, by omega, ⟨[], none, 0, HB0.out, own_none _ _ _, by simp⟩, ⟨HZ.out, (HT.out.alloc _).alloc _, HW0.out, by simp⟩⟩
  case round =>
   obtain ⟨k, rfl, hk, hr, HI, HJ⟩ := hrel
   obtain ⟨ns, av, cv, hbx, ho, hn2⟩ := HI.out
   have HNS : Hid (X.nums ws = (X.nums (ws.drop k)).map (ns ++ ·)) := hn2
   have HO : Hid (wr.ownsRow (w.heap.size + 2) 2 1 (.slice av k cv) k (iC ns)) := ho
   have HBX : Hid (Bx wr (w.heap.size + 1) [.int .i64 3, .string s0, .int .i64 0, .int .i64 0, .int .i64 0, .int .i64 0, .slice av k cv]) := hbx
   clear hn2 ho hbx HI
   by_cases hlt : k < n
   ·exact absurd hlt (by omega)
   ·obtain rfl : k = n := by omega
    have hii : ¬ (k : Int) < k := by omega
    have HN : Hid (X.takeWords (x :: ws) = some ⟨3, s0.data.toList, 0, 0, 0, 0, ns⟩) := by
     show _ = _
     rw [HR.out, nums_end (by rw [HCT.out]; exact HNS.out)]
     rfl
    have HQ := HJ.out.1
    have c0 := HQ.c 0 _ rfl; have c1 := HQ.c 1 _ rfl; have c2 := HQ.c 2 _ rfl; have c3 := HQ.c 3 _ rfl; have c4 := HQ.c 4 _ rfl; have c5 := HQ.c 5 _ rfl; have c6 := HQ.c 6 _ rfl
    have f0 := HQ.f 0; have f1 := HQ.f 1; have f2 := HQ.f 2; have f3 := HQ.f 3; have f4 := HQ.f 4; have f5 := HQ.f 5; have f6 := HQ.f 6
    have HQ2 := HBX.out
    have e0 := HQ2.c 0 _ rfl; have e1 := HQ2.c 1 _ rfl; have e2 := HQ2.c 2 _ rfl; have e3 := HQ2.c 3 _ rfl; have e4 := HQ2.c 4 _ rfl; have e5 := HQ2.c 5 _ rfl; have e6 := HQ2.c 6 _ rfl
    clear HQ HQ2
    go_wp2_with fail
    have HOF := put7_own (b := w.heap.size) (u0 := .int .i64 3) (u1 := .string s0) (u2 := .int .i64 0) (u3 := .int .i64 0) (u4 := .int .i64 0) (u5 := .int .i64 0) (u6 := .slice av k cv) HO.out (Nat.lt_succ_of_lt (Nat.lt_succ_self _))
    have HF := Bx.put7 HJ.out.1 rfl (.int .i64 3) (.string s0) (.int .i64 0) (.int .i64 0) (.int .i64 0) (.int .i64 0) (.slice av k cv)
    have HE : Below w.heap.size w (((((((wr.setCell ⟨w.heap.size, 0, none⟩ (.int .i64 3)).setCell ⟨w.heap.size, 1, none⟩ (.string s0)).setCell ⟨w.heap.size, 2, none⟩ (.int .i64 0)).setCell ⟨w.heap.size, 3, none⟩ (.int .i64 0)).setCell ⟨w.heap.size, 4, none⟩ (.int .i64 0)).setCell ⟨w.heap.size, 5, none⟩ (.int .i64 0)).setCell ⟨w.heap.size, 6, none⟩ (.slice av k cv)) := below_put7 HJ.out.2.2.1 (Nat.le_refl _)
    generalize (((((((wr.setCell ⟨w.heap.size, 0, none⟩ (.int .i64 3)).setCell ⟨w.heap.size, 1, none⟩ (.string s0)).setCell ⟨w.heap.size, 2, none⟩ (.int .i64 0)).setCell ⟨w.heap.size, 3, none⟩ (.int .i64 0)).setCell ⟨w.heap.size, 4, none⟩ (.int .i64 0)).setCell ⟨w.heap.size, 5, none⟩ (.int .i64 0)).setCell ⟨w.heap.size, 6, none⟩ (.slice av k cv)) = Wf at HF HE HOF ⊢
    have k0 := HF.c 0 _ rfl; have k1 := HF.c 1 _ rfl; have k2 := HF.c 2 _ rfl; have k3 := HF.c 3 _ rfl; have k4 := HF.c 4 _ rfl; have k5 := HF.c 5 _ rfl; have k6 := HF.c 6 _ rfl
    refine bodyPost_ret (v := .tuple #[.agg #[.int .i64 3, .string s0, .int .i64 0, .int .i64 0, .int .i64 0, .int .i64 0, .slice av k cv], .bool true]) (by simp [results, Tryz.results106, go_sem, k0, k1, k2, k3, k4, k5, k6]) rfl ?_
    exact ⟨⟨3, s0.data.toList, 0, 0, 0, 0, ns⟩, av, k, cv, true, by simp [str_eq], fun _ => HN.out, (fun h => by cases h), (by rw [len_list]; exact HX0.out), own_baseB HOF (Nat.le_add_right _ 2), HE⟩
 ·skip
  go_enter Tryz.func106, Tryz.ntmps106
  go_wp2_with fail
  clear dd
  go_loopg [20] n (fun rr iv wq => ∃ (k : Nat), iv = .int .i64 k ∧ k ≤ n ∧ n - k ≤ rr ∧ Hid (∃ (ns : List Int) (av : Option Addr) (cv : Nat), Bx wq (w.heap.size + 1) [.int .i64 3, .string s0, .int .i64 0, .int .i64 0, .int .i64 0, .int .i64 0, .slice av k cv] ∧ wq.ownsRow (w.heap.size + 2) 2 1 (.slice av k cv) k (iC ns) ∧ X.nums ws = (X.nums (ws.drop k)).map (ns ++ ·)) ∧ Hid (Bx wq w.heap.size [.int .i64 0, .string { data := #[] }, .int .i64 0, .int .i64 0, .int .i64 0, .int .i64 0, .slice none 0 0] ∧ Tab wq ∧ Below w.heap.size w wq ∧ w.heap.size + 2 ≤ wq.heap.size))
  case atStart => exact ⟨0, rfl, Nat.zero_le _, by omega, ⟨[], none, 0, HB0.out, own_none _ _ _, by simp⟩, ⟨HZ.out, (HT.out.alloc _).alloc _, HW0.out, by simp⟩⟩
  case round =>
   obtain ⟨k, rfl, hk, hr, HI, HJ⟩ := hrel
   obtain ⟨ns, av, cv, hbx, ho, hn2⟩ := HI.out
   have HNS : Hid (X.nums ws = (X.nums (ws.drop k)).map (ns ++ ·)) := hn2
   have HO : Hid (wr.ownsRow (w.heap.size + 2) 2 1 (.slice av k cv) k (iC ns)) := ho
   have HBX : Hid (Bx wr (w.heap.size + 1) [.int .i64 3, .string s0, .int .i64 0, .int .i64 0, .int .i64 0, .int .i64 0, .slice av k cv]) := hbx
   clear hn2 ho hbx HI
   by_cases hlt : k < n
   ·obtain ⟨b2, off2, s, hab, cw, hs, hz⟩ := (HV.out.below HJ.out.2.2.1).at hlt
    have hii : (k : Int) < n := by omega
    have hin : 0 ≤ (k : Int) := by omega
    have HS : Hid _ := hs
    have hnum := number_any s (by omega) wr HJ.out.2.1
    cases hab
    clear hs hz
    go_wp2_with fail
    refine hnum.mono ?_
    rintro e y ⟨z, ok, rfl, ⟨h1, h2⟩, hb⟩
    have HB : Hid (Below wr.heap.size wr y) := hb
    have HBX2 : Hid (Bx y (w.heap.size + 1) [.int .i64 3, .string s0, .int .i64 0, .int .i64 0, .int .i64 0, .int .i64 0, .slice av k cv]) := HBX.out.below hb
    have HJ2 : Hid (Bx y w.heap.size [.int .i64 0, .string { data := #[] }, .int .i64 0, .int .i64 0, .int .i64 0, .int .i64 0, .slice none 0 0] ∧ Tab y ∧ Below w.heap.size w y ∧ w.heap.size + 2 ≤ y.heap.size) := ⟨HJ.out.1.below hb, HJ.out.2.1.below hb, HJ.out.2.2.1.trans (hb.mono HJ.out.2.2.1.size), Nat.le_trans HJ.out.2.2.2 hb.size⟩
    clear hnum hb cw
    cases ok with
    | false =>
     have HN : Hid (X.takeWords (x :: ws) = none) := by
      show _ = _
      rw [HR.out, nums_bad (by rw [HCT.out]; exact hlt) (by rw [← HS.out]; exact h2 rfl) HNS.out]
      rfl
     have HQ := HJ2.out.1
     have c0 := HQ.c 0 _ rfl; have c1 := HQ.c 1 _ rfl; have c2 := HQ.c 2 _ rfl; have c3 := HQ.c 3 _ rfl; have c4 := HQ.c 4 _ rfl; have c5 := HQ.c 5 _ rfl; have c6 := HQ.c 6 _ rfl
     have f0 := HQ.f 0; have f1 := HQ.f 1; have f2 := HQ.f 2; have f3 := HQ.f 3; have f4 := HQ.f 4; have f5 := HQ.f 5; have f6 := HQ.f 6
     clear HQ h1 h2
     go_wp2_with fail
     have HF := Bx.put7 HJ2.out.1 rfl (.int .i64 0) (.string { data := #[] }) (.int .i64 0) (.int .i64 0) (.int .i64 0) (.int .i64 0) (.slice none 0 0)
     have HE : Below w.heap.size w (((((((y.setCell ⟨w.heap.size, 0, none⟩ (.int .i64 0)).setCell ⟨w.heap.size, 1, none⟩ (.string { data := #[] })).setCell ⟨w.heap.size, 2, none⟩ (.int .i64 0)).setCell ⟨w.heap.size, 3, none⟩ (.int .i64 0)).setCell ⟨w.heap.size, 4, none⟩ (.int .i64 0)).setCell ⟨w.heap.size, 5, none⟩ (.int .i64 0)).setCell ⟨w.heap.size, 6, none⟩ (.slice none 0 0)) := below_put7 HJ2.out.2.2.1 (Nat.le_refl _)
     generalize (((((((y.setCell ⟨w.heap.size, 0, none⟩ (.int .i64 0)).setCell ⟨w.heap.size, 1, none⟩ (.string { data := #[] })).setCell ⟨w.heap.size, 2, none⟩ (.int .i64 0)).setCell ⟨w.heap.size, 3, none⟩ (.int .i64 0)).setCell ⟨w.heap.size, 4, none⟩ (.int .i64 0)).setCell ⟨w.heap.size, 5, none⟩ (.int .i64 0)).setCell ⟨w.heap.size, 6, none⟩ (.slice none 0 0)) = Wf at HF HE ⊢
     have k0 := HF.c 0 _ rfl; have k1 := HF.c 1 _ rfl; have k2 := HF.c 2 _ rfl; have k3 := HF.c 3 _ rfl; have k4 := HF.c 4 _ rfl; have k5 := HF.c 5 _ rfl; have k6 := HF.c 6 _ rfl
     refine bodyPost_ret (v := .tuple #[.agg #[.int .i64 0, .string { data := #[] }, .int .i64 0, .int .i64 0, .int .i64 0, .int .i64 0, .slice none 0 0], .bool false]) (by simp [results, Tryz.results106, go_sem, k0, k1, k2, k3, k4, k5, k6]) rfl ?_
     exact TakeOut.bad HN.out HE
    | true =>
     have HNX : Hid (X.nums ws = (X.nums (ws.drop (k + 1))).map (ns ++ [z] ++ ·)) := nums_step (by rw [HCT.out]; exact hlt) (by rw [← HS.out]; exact h1 rfl) HNS.out
     have HO2 : Hid ((y.alloc (.cells #[.int .i64 z] 2)).ownsRow (w.heap.size + 2) 2 1 (.slice av k cv) k (iC ns)) := own_thru HO.out (HB.out.alloc HB.out.size _)
     have HNC : Hid (∀ j u, ([.int .i64 z] : List Value)[j]? = some u → (y.alloc (.cells #[.int .i64 z] 2)).cell? ((⟨y.heap.size, 0, none⟩ : Addr).add j) = some u) := fun j u hu => by rw [Addr.add_lit, Nat.zero_add]; exact row_cell (by simpa using hu)
     have HSZ : Hid (w.heap.size + 2 ≤ (y.alloc (.cells #[.int .i64 z] 2)).heap.size) := by show _ ≤ _; have := HJ2.out.2.2.2; simp; omega
     have HBX3 : Hid (Bx (y.alloc (.cells #[.int .i64 z] 2)) (w.heap.size + 1) [.int .i64 3, .string s0, .int .i64 0, .int .i64 0, .int .i64 0, .int .i64 0, .slice av k cv]) := HBX2.out.below (bl1 _ _)
     have g6 := HBX2.out.c 6 _ rfl
     have hbl := HBX2.out.lt
     have hnb : some (w.heap.size + 1) ≠ (Value.slice av k cv).ownBlock := fun e => by have := (HO2.out.lt _ e.symm).1; omega
     have hnb0 : some w.heap.size ≠ (Value.slice av k cv).ownBlock := fun e => by have := (HO2.out.lt _ e.symm).1; omega
     have HNB : Hid _ := hnb
     have HNB0 : Hid _ := hnb0
     clear h1 h2 hnb hnb0
     go_wp2_with (first | (at_builtin; refine wpList_append_lies _ rfl _ _ 26 rfl (w.heap.size + 2) 2 is _ 1 8 Tryz.underlying26 his is0 is1 is2 rfl (by decide) (.slice av k cv) k _ rfl HO2.out ⟨y.heap.size, 0, none⟩ 1 1 [.int .i64 z] rfl rfl HNC.out (by intro u hu; simp at hu; subst hu; rfl) (by decide) (by unfold maxLen; omega) (by omega) HSZ.out (y.heap.size + 1) (by simp) ?_; intro x1 cp Y6 ho6 hg6 hat6 hlt6; have HO6 : Hid (Y6.ownsRow (w.heap.size + 2) 2 1 (.slice (some ⟨x1, 0, none⟩) (k + 1) cp) (k + 1) (iC ns ++ [.int .i64 z])) := ho6; have HG6 : Hid _ := hg6; have HBX6 : Hid _ := HBX3.out.gbO hg6 HNB.out; have z6 := HBX6.out.c 6 _ rfl; have w6 := HBX6.out.f 6; have hb6 := HBX6.out.lt; clear ho6 hg6 hat6 hlt6 g6 hbl) | fail)
     go_roundg (n - (k + 1))
     case measure => omega
     case rel =>
      have hg := HG6.out
      have hB7 : Below w.heap.size w Y6 := below_grownB (HJ2.out.2.2.1.alloc HJ2.out.2.2.1.size _) HO2.out hg HSZ.out (by omega)
      refine ⟨k + 1, by go_num, by omega, Nat.le_refl _, ⟨ns ++ [z], some ⟨x1, 0, none⟩, cp, HBX6.out.put 6 (by simp) _, ?_, HNX.out⟩, ⟨?_, ?_, hB7.setCell (by simp) _, ?_⟩⟩
      ·have := HO6.out.kept (gb_set Y6 ⟨w.heap.size + 1, 6, none⟩ (.slice (some ⟨x1, 0, none⟩) (k + 1) cp)) (.inr (fun e => by have := (HO6.out.lt (w.heap.size + 1) e).1; omega))
       unfold iC at this ⊢
       rw [List.map_append]
       exact this
      ·exact (((HJ2.out.1.below (bl1 _ _)).gbO hg HNB0.out)).gb (gb_set _ _ _) (by simp)
      ·exact ((HT.out.below hB7)).gb (gb_set _ _ _) (by simp; omega)
      ·rw [World.size_setCell]
       exact Nat.le_trans HSZ.out hg.size
   ·obtain rfl : k = n := by omega
    have hii : ¬ (k : Int) < k := by omega
    have HN : Hid (X.takeWords (x :: ws) = some ⟨3, s0.data.toList, 0, 0, 0, 0, ns⟩) := by
     show _ = _
     rw [HR.out, nums_end (by rw [HCT.out]; exact HNS.out)]
     rfl
    have HQ := HJ.out.1
    have c0 := HQ.c 0 _ rfl; have c1 := HQ.c 1 _ rfl; have c2 := HQ.c 2 _ rfl; have c3 := HQ.c 3 _ rfl; have c4 := HQ.c 4 _ rfl; have c5 := HQ.c 5 _ rfl; have c6 := HQ.c 6 _ rfl
    have f0 := HQ.f 0; have f1 := HQ.f 1; have f2 := HQ.f 2; have f3 := HQ.f 3; have f4 := HQ.f 4; have f5 := HQ.f 5; have f6 := HQ.f 6
    have HQ2 := HBX.out
    have e0 := HQ2.c 0 _ rfl; have e1 := HQ2.c 1 _ rfl; have e2 := HQ2.c 2 _ rfl; have e3 := HQ2.c 3 _ rfl; have e4 := HQ2.c 4 _ rfl; have e5 := HQ2.c 5 _ rfl; have e6 := HQ2.c 6 _ rfl
    clear HQ HQ2
    go_wp2_with fail
    have HOF := put7_own (b := w.heap.size) (u0 := .int .i64 3) (u1 := .string s0) (u2 := .int .i64 0) (u3 := .int .i64 0) (u4 := .int .i64 0) (u5 := .int .i64 0) (u6 := .slice av k cv) HO.out (Nat.lt_succ_of_lt (Nat.lt_succ_self _))
    have HF := Bx.put7 HJ.out.1 rfl (.int .i64 3) (.string s0) (.int .i64 0) (.int .i64 0) (.int .i64 0) (.int .i64 0) (.slice av k cv)
    have HE : Below w.heap.size w (((((((wr.setCell ⟨w.heap.size, 0, none⟩ (.int .i64 3)).setCell ⟨w.heap.size, 1, none⟩ (.string s0)).setCell ⟨w.heap.size, 2, none⟩ (.int .i64 0)).setCell ⟨w.heap.size, 3, none⟩ (.int .i64 0)).setCell ⟨w.heap.size, 4, none⟩ (.int .i64 0)).setCell ⟨w.heap.size, 5, none⟩ (.int .i64 0)).setCell ⟨w.heap.size, 6, none⟩ (.slice av k cv)) := below_put7 HJ.out.2.2.1 (Nat.le_refl _)
    generalize (((((((wr.setCell ⟨w.heap.size, 0, none⟩ (.int .i64 3)).setCell ⟨w.heap.size, 1, none⟩ (.string s0)).setCell ⟨w.heap.size, 2, none⟩ (.int .i64 0)).setCell ⟨w.heap.size, 3, none⟩ (.int .i64 0)).setCell ⟨w.heap.size, 4, none⟩ (.int .i64 0)).setCell ⟨w.heap.size, 5, none⟩ (.int .i64 0)).setCell ⟨w.heap.size, 6, none⟩ (.slice av k cv)) = Wf at HF HE HOF ⊢
    have k0 := HF.c 0 _ rfl; have k1 := HF.c 1 _ rfl; have k2 := HF.c 2 _ rfl; have k3 := HF.c 3 _ rfl; have k4 := HF.c 4 _ rfl; have k5 := HF.c 5 _ rfl; have k6 := HF.c 6 _ rfl
    refine bodyPost_ret (v := .tuple #[.agg #[.int .i64 3, .string s0, .int .i64 0, .int .i64 0, .int .i64 0, .int .i64 0, .slice av k cv], .bool true]) (by simp [results, Tryz.results106, go_sem, k0, k1, k2, k3, k4, k5, k6]) rfl ?_
    exact ⟨⟨3, s0.data.toList, 0, 0, 0, 0, ns⟩, av, k, cv, true, by simp [str_eq], fun _ => HN.out, (fun h => by cases h), (by rw [len_list]; exact HX0.out), own_baseB HOF (Nat.le_add_right _ 2), HE⟩

end Go.Proofs.YtgjingleolhkbaaGreatDoor
