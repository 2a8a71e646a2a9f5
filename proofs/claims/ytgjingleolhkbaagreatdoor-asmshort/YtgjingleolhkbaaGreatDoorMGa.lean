/- The item of a line's words, but for its first one. -/
import Derived.Test.YtgjingleolhkbaaGreatDoorAsBox
import Derived.Test.YtgjingleolhkbaaGreatDoorAsWords
import Derived.RangeFuncNested
import Derived.RangeFuncBound
import Derived.RangeFuncCalls
import Derived.RangeFuncLeaves
import Derived.Shelf.RegionOpen
import Derived.OwnWalkIn
import Derived.TacticsInMore
import Derived.LoopNIn
import Derived.LoopIn
import Derived.Below
namespace Go.Proofs.YtgjingleolhkbaaGreatDoor
open Go.RowKit
set_option linter.unusedVariables false
set_option linter.unusedSimpArgs false

/-- Words as they lie. -/
structure StrV (w : World) (a : Option Addr) (n c : Nat) (ws : List X.By) : Prop where
  count : ws.length = n
  room : n ≤ c ∧ c ≤ maxLen
  small : ∀ x ∈ ws, x.length ≤ 200000
  cells : n = 0 ∨ ∃ b off, a = some ⟨b, off, none⟩ ∧ ∀ i, i < n → w.cell? ⟨b, off + i, none⟩ = some (.string (X.str (ws.getD i [])))
theorem StrV.below {w w1 : World} {a : Option Addr} {n c : Nat} {ws : List X.By} (h : StrV w a n c ws) (hb : Below w.heap.size w w1) : StrV w1 a n c ws := by
  refine ⟨h.count, h.room, h.small, ?_⟩
  rcases h.cells with h0 | ⟨b, off, e, hc⟩
  · exact .inl h0
  · exact .inr ⟨b, off, e, fun i hi => cell_thru hb (hc i hi)⟩
theorem StrV.at {w : World} {a : Option Addr} {n c : Nat} {ws : List X.By} (h : StrV w a n c ws) {i : Nat} (hi : i < n) : ∃ b off s, a = some ⟨b, off, none⟩ ∧ w.cell? ⟨b, off + i, none⟩ = some (.string s) ∧ s.data.toList = ws.getD i [] ∧ s.size ≤ 200000 := by
  rcases h.cells with h0 | ⟨b, off, e, hc⟩
  · omega
  · refine ⟨b, off, _, e, hc i hi, by rw [str_list], ?_⟩
    rw [str_size]
    have : i < ws.length := by rw [h.count]; exact hi
    exact h.small _ (by simp [List.getD, this])
theorem Bx.put7 {x : World} {b : Nat} {vs : List Value} (h : Bx x b vs) (hl : vs.length = 7) (u0 u1 u2 u3 u4 u5 u6 : Value) : Bx (((((((x.setCell ⟨b, 0, none⟩ (u0)).setCell ⟨b, 1, none⟩ (u1)).setCell ⟨b, 2, none⟩ (u2)).setCell ⟨b, 3, none⟩ (u3)).setCell ⟨b, 4, none⟩ (u4)).setCell ⟨b, 5, none⟩ (u5)).setCell ⟨b, 6, none⟩ (u6)) b [u0, u1, u2, u3, u4, u5, u6] := by
  match vs, hl with
  | [a0, a1, a2, a3, a4, a5, a6], _ => exact ((((((h.put 0 (by simp) u0).put 1 (by simp) u1).put 2 (by simp) u2).put 3 (by simp) u3).put 4 (by simp) u4).put 5 (by simp) u5).put 6 (by simp) u6
theorem below_put7 {w x : World} {B b : Nat} {u0 u1 u2 u3 u4 u5 u6 : Value} (h : Below B w x) (hb : B ≤ b) : Below B w (((((((x.setCell ⟨b, 0, none⟩ (u0)).setCell ⟨b, 1, none⟩ (u1)).setCell ⟨b, 2, none⟩ (u2)).setCell ⟨b, 3, none⟩ (u3)).setCell ⟨b, 4, none⟩ (u4)).setCell ⟨b, 5, none⟩ (u5)).setCell ⟨b, 6, none⟩ (u6)) :=
  ((((((h.setCell hb _).setCell hb _).setCell hb _).setCell hb _).setCell hb _).setCell hb _).setCell hb _
def iC (ns : List Int) : List Value := ns.map fun n => Value.int .i64 n
/-- What a line's reading leaves. -/
def TakeOut (w : World) (r : Option X.It) (e : Ending) (w' : World) : Prop :=
  ∃ (t : X.It) (aw : Option Addr) (lw cw : Nat) (ok : Bool), e = .returned (.tuple #[.agg #[.int .i64 t.kind, .string (X.str t.name), .int .i64 t.op, .int .i64 t.a, .int .i64 t.b, .int .i64 t.n, .slice aw lw cw], .bool ok]) ∧ (ok = true → r = some t) ∧ (ok = false → r = none) ∧ t.name.length ≤ 200000 ∧ w'.ownsRow w.heap.size 2 1 (.slice aw lw cw) lw (iC t.words) ∧ Below w.heap.size w w'
theorem own_none (w : World) (B : Nat) (ty : TypeId) : w.ownsRow B ty 1 (.slice none 0 0) 0 (iC []) := World.ownsRow_nil _ _ _ _
theorem TakeOut.bad {w w' : World} {r : Option X.It} (h : r = none) (hb : Below w.heap.size w w') : TakeOut w r (.returned (.tuple #[.agg #[.int .i64 0, .string { data := #[] }, .int .i64 0, .int .i64 0, .int .i64 0, .int .i64 0, .slice none 0 0], .bool false])) w' :=
  ⟨X.noIt, none, 0, 0, false, rfl, (fun h => by cases h), fun _ => h, by simp [X.noIt], own_none _ _ _, hb⟩

set_option maxRecDepth 100000 in
set_option maxHeartbeats 4000000 in
theorem takeNamed_any {w : World} {a : Option Addr} {n c : Nat} {ws : List X.By} (k : Int) (h : StrV w a n c ws) :
    Calls Tryz.prog 105 #[.int .i64 k, .slice a n c] w (TakeOut w (X.takeNamed k ws)) := by
  by_cases h1 : n = 1
  · subst h1
    obtain ⟨b, off, s, rfl, c0, hs, hz⟩ := h.at (i := 0) (by omega)
    have HR : Hid (X.takeNamed k ws = some ⟨k, s.data.toList, 0, 0, 0, 0, []⟩) := by
      show _ = _
      have := h.count
      match ws, this with
      | [x], _ => rw [hs]; rfl
    have HC : Hid (∀ o, (w.alloc o).cell? ⟨b, off, none⟩ = some (.string s)) := fun o => cell_thru (bl1 _ _) (by simpa using c0)
    have d0 := HC.out
    clear c0 hs h
    go_enter Tryz.func105, Tryz.ntmps105
    go_wp2_with fail
    refine bodyPost_ret (v := .tuple #[.agg #[.int .i64 k, .string s, .int .i64 0, .int .i64 0, .int .i64 0, .int .i64 0, .slice none 0 0], .bool true]) (by simp [results, Tryz.results105, go_sem]) rfl ?_
    refine ⟨⟨k, s.data.toList, 0, 0, 0, 0, []⟩, none, 0, 0, true, by simp [str_eq], fun _ => HR.out, (fun h => by cases h), by simpa using hz, own_none _ _ _, ?_⟩
    repeat (first | exact bl1 _ _ | refine Below.setCell ?_ (by simp) _)
  · have HR : Hid (X.takeNamed k ws = none) := by
      show _ = _
      unfold X.takeNamed
      split
      · have := h.count; simp at this; omega
      · rfl
    have h1' : ((n : Int) != 1) = true := by simp; omega
    clear h h1
    go_enter Tryz.func105, Tryz.ntmps105
    go_wp2_with fail
    refine bodyPost_ret (v := .tuple #[.agg #[.int .i64 0, .string { data := #[] }, .int .i64 0, .int .i64 0, .int .i64 0, .int .i64 0, .slice none 0 0], .bool false]) (by simp [results, Tryz.results105, go_sem]) rfl ?_
    refine TakeOut.bad HR.out ?_
    repeat (first | exact bl1 _ _ | refine Below.setCell ?_ (by simp) _)

/-! ### Instructions -/
theorem setAll_step {t t' : X.It} {beh : ByteArray} {ws : List X.By} {k : Nat} {s : X.By} (hk : k < beh.size) (hw : k < ws.length) (hs : ws.getD k [] = s) (h : X.set t beh[k] s = some t') : X.setAll t (beh.data.toList.drop k) (ws.drop k) = X.setAll t' (beh.data.toList.drop (k + 1)) (ws.drop (k + 1)) := by
  have e : ws.drop k = s :: ws.drop (k + 1) := by
    rw [List.drop_eq_getElem_cons hw]
    congr 1
    simpa [List.getD, hw] using hs
  rw [drop_cons beh k hk, e, X.setAll, h]
  rfl
theorem setAll_fail {t : X.It} {beh : ByteArray} {ws : List X.By} {k : Nat} {s : X.By} (hk : k < beh.size) (hw : k < ws.length) (hs : ws.getD k [] = s) (h : X.set t beh[k] s = none) : X.setAll t (beh.data.toList.drop k) (ws.drop k) = none := by
  have e : ws.drop k = s :: ws.drop (k + 1) := by
    rw [List.drop_eq_getElem_cons hw]
    congr 1
    simpa [List.getD, hw] using hs
  rw [drop_cons beh k hk, e, X.setAll, h]
  rfl
theorem setAll_end {t : X.It} {beh : ByteArray} {ws : List X.By} {k : Nat} (hk : k = beh.size) (hw : k = ws.length) : X.setAll t (beh.data.toList.drop k) (ws.drop k) = some t := by
  rw [List.drop_eq_nil_of_le (by rw [len_list]; omega), List.drop_eq_nil_of_le (by omega)]
  rfl
theorem set_words {t t' : X.It} {c : UInt8} {s : X.By} (h : X.set t c s = some t') : t'.words = t.words ∧ (t'.name = t.name ∨ t'.name = s) := by
  unfold X.set at h
  split at h
  · obtain ⟨x, -, rfl⟩ := Option.map_eq_some_iff.1 h; exact ⟨rfl, .inl rfl⟩
  · split at h
    · obtain ⟨x, -, rfl⟩ := Option.map_eq_some_iff.1 h; exact ⟨rfl, .inl rfl⟩
    · split at h
      · obtain ⟨x, -, rfl⟩ := Option.map_eq_some_iff.1 h; exact ⟨rfl, .inl rfl⟩
      · split at h
        · cases h; exact ⟨rfl, .inr rfl⟩
        · cases h

set_option maxRecDepth 100000 in
set_option maxHeartbeats 8000000 in
theorem takeIns_any {w : World} {a : Option Addr} {n c : Nat} {ws : List X.By} (f : ByteArray) (h : StrV w a n c ws) (ht : Tab w) :
    Calls Tryz.prog 107 #[.string f, .slice a n c] w (TakeOut w (X.takeIns f.data.toList ws)) := by
  have HV : Hid _ := h
  have HT : Hid _ := ht
  have hcount := h.count
  have hm : n ≤ 9223372036854775807 := by have := h.room; unfold maxLen at this; omega
  have hop := opOf_any f
  have HZ : Hid (Bx (w.alloc (.cells #[.int .i64 0, .string { data := #[] }, .int .i64 0, .int .i64 0, .int .i64 0, .int .i64 0, .slice none 0 0] 44)) w.heap.size [.int .i64 0, .string { data := #[] }, .int .i64 0, .int .i64 0, .int .i64 0, .int .i64 0, .slice none 0 0]) := Bx.new _ _ _
  have hz7 := ht.hz
  clear h ht
  cases hr : X.opOf f.data.toList with
  | none =>
    have HR : Hid (X.takeIns f.data.toList ws = none) := by show _ = _; unfold X.takeIns; rw [hr]
    go_enter Tryz.func107, Tryz.ntmps107
    go_wp2_with fail
    refine (hop _ (HT.out.alloc _)).mono ?_
    rw [hr]
    rintro e y ⟨rfl, hb⟩
    have HBX := HZ.out.below hb
    have HB : Hid _ := hb
    have c0 := HBX.c 0 _ rfl; have c1 := HBX.c 1 _ rfl; have c2 := HBX.c 2 _ rfl; have c3 := HBX.c 3 _ rfl; have c4 := HBX.c 4 _ rfl; have c5 := HBX.c 5 _ rfl; have c6 := HBX.c 6 _ rfl
    have f0 := HBX.f 0; have f1 := HBX.f 1; have f2 := HBX.f 2; have f3 := HBX.f 3; have f4 := HBX.f 4; have f5 := HBX.f 5; have f6 := HBX.f 6
    have HBX' : Hid _ := HBX
    clear HBX hb hop hcount
    go_wp2_with fail
    have h2 := (bl1 w (.cells #[.int .i64 0, .string { data := #[] }, .int .i64 0, .int .i64 0, .int .i64 0, .int .i64 0, .slice none 0 0] 44)).trans (HB.out.mono (bl1 _ _).size)
    have HF := Bx.put7 HBX'.out rfl (.int .i64 0) (.string { data := #[] }) (.int .i64 0) (.int .i64 0) (.int .i64 0) (.int .i64 0) (.slice none 0 0)
    have HE : Below w.heap.size w (((((((y.setCell ⟨w.heap.size, 0, none⟩ (.int .i64 0)).setCell ⟨w.heap.size, 1, none⟩ (.string { data := #[] })).setCell ⟨w.heap.size, 2, none⟩ (.int .i64 0)).setCell ⟨w.heap.size, 3, none⟩ (.int .i64 0)).setCell ⟨w.heap.size, 4, none⟩ (.int .i64 0)).setCell ⟨w.heap.size, 5, none⟩ (.int .i64 0)).setCell ⟨w.heap.size, 6, none⟩ (.slice none 0 0)) := below_put7 h2 (Nat.le_refl _)
    generalize (((((((y.setCell ⟨w.heap.size, 0, none⟩ (.int .i64 0)).setCell ⟨w.heap.size, 1, none⟩ (.string { data := #[] })).setCell ⟨w.heap.size, 2, none⟩ (.int .i64 0)).setCell ⟨w.heap.size, 3, none⟩ (.int .i64 0)).setCell ⟨w.heap.size, 4, none⟩ (.int .i64 0)).setCell ⟨w.heap.size, 5, none⟩ (.int .i64 0)).setCell ⟨w.heap.size, 6, none⟩ (.slice none 0 0)) = Wf at HF HE ⊢
    have k0 := HF.c 0 _ rfl; have k1 := HF.c 1 _ rfl; have k2 := HF.c 2 _ rfl; have k3 := HF.c 3 _ rfl; have k4 := HF.c 4 _ rfl; have k5 := HF.c 5 _ rfl; have k6 := HF.c 6 _ rfl
    refine bodyPost_ret (v := .tuple #[.agg #[.int .i64 0, .string { data := #[] }, .int .i64 0, .int .i64 0, .int .i64 0, .int .i64 0, .slice none 0 0], .bool false]) (by simp [results, Tryz.results107, go_sem, k0, k1, k2, k3, k4, k5, k6]) rfl ?_
    exact TakeOut.bad HR.out HE
  | some k0 =>
    obtain ⟨hk0, hm0⟩ := X.opOf_some hr
    by_cases hlen : ws.length = (X.row k0).2.length
    rotate_left
    · have HR : Hid (X.takeIns f.data.toList ws = none) := by show _ = _; unfold X.takeIns; rw [hr]; simp only; rw [if_neg hlen]
      go_enter Tryz.func107, Tryz.ntmps107
      go_wp2_with fail
      refine (hop _ (HT.out.alloc _)).mono ?_
      rw [hr]
      rintro e y ⟨rfl, hb⟩
      have HBX := HZ.out.below hb
      have HB : Hid _ := hb
      obtain ⟨-, t2⟩ := ((HT.out.alloc _).below hb).rw k0 hk0
      obtain ⟨r, hrr⟩ : ∃ r, X.str (X.row k0).2 = r := ⟨_, rfl⟩
      have hrs : r.size = (X.row k0).2.length := by rw [← hrr, str_size]
      rw [hrr] at t2
      have hne : ((n : Int) != (r.size : Int)) = true := by simp; omega
      have c0 := HBX.c 0 _ rfl; have c1 := HBX.c 1 _ rfl; have c2 := HBX.c 2 _ rfl; have c3 := HBX.c 3 _ rfl; have c4 := HBX.c 4 _ rfl; have c5 := HBX.c 5 _ rfl; have c6 := HBX.c 6 _ rfl
      have f0 := HBX.f 0; have f1 := HBX.f 1; have f2 := HBX.f 2; have f3 := HBX.f 3; have f4 := HBX.f 4; have f5 := HBX.f 5; have f6 := HBX.f 6
      have HBX' : Hid _ := HBX
      clear HBX hb hop hlen hcount hrr hrs hm0
      go_wp2_with fail
      have h2 := (bl1 w (.cells #[.int .i64 0, .string { data := #[] }, .int .i64 0, .int .i64 0, .int .i64 0, .int .i64 0, .slice none 0 0] 44)).trans (HB.out.mono (bl1 _ _).size)
      have HF := Bx.put7 HBX'.out rfl (.int .i64 0) (.string { data := #[] }) (.int .i64 0) (.int .i64 0) (.int .i64 0) (.int .i64 0) (.slice none 0 0)
      have HE : Below w.heap.size w (((((((y.setCell ⟨w.heap.size, 0, none⟩ (.int .i64 0)).setCell ⟨w.heap.size, 1, none⟩ (.string { data := #[] })).setCell ⟨w.heap.size, 2, none⟩ (.int .i64 0)).setCell ⟨w.heap.size, 3, none⟩ (.int .i64 0)).setCell ⟨w.heap.size, 4, none⟩ (.int .i64 0)).setCell ⟨w.heap.size, 5, none⟩ (.int .i64 0)).setCell ⟨w.heap.size, 6, none⟩ (.slice none 0 0)) := below_put7 h2 (Nat.le_refl _)
      generalize (((((((y.setCell ⟨w.heap.size, 0, none⟩ (.int .i64 0)).setCell ⟨w.heap.size, 1, none⟩ (.string { data := #[] })).setCell ⟨w.heap.size, 2, none⟩ (.int .i64 0)).setCell ⟨w.heap.size, 3, none⟩ (.int .i64 0)).setCell ⟨w.heap.size, 4, none⟩ (.int .i64 0)).setCell ⟨w.heap.size, 5, none⟩ (.int .i64 0)).setCell ⟨w.heap.size, 6, none⟩ (.slice none 0 0)) = Wf at HF HE ⊢
      have k0 := HF.c 0 _ rfl; have k1 := HF.c 1 _ rfl; have k2 := HF.c 2 _ rfl; have k3 := HF.c 3 _ rfl; have k4 := HF.c 4 _ rfl; have k5 := HF.c 5 _ rfl; have k6 := HF.c 6 _ rfl
      refine bodyPost_ret (v := .tuple #[.agg #[.int .i64 0, .string { data := #[] }, .int .i64 0, .int .i64 0, .int .i64 0, .int .i64 0, .slice none 0 0], .bool false]) (by simp [results, Tryz.results107, go_sem, k0, k1, k2, k3, k4, k5, k6]) rfl ?_
      exact TakeOut.bad HR.out HE
    obtain ⟨r, hrr⟩ : ∃ r, X.str (X.row k0).2 = r := ⟨_, rfl⟩
    have hrl : r.data.toList = (X.row k0).2 := by rw [← hrr, str_list]
    have hrs : r.size = n := by rw [← len_list, hrl, ← hlen, hcount]
    have HR : Hid (X.takeIns f.data.toList ws = X.setAll ⟨2, [], k0, 0, 0, 0, []⟩ r.data.toList ws) := by show _ = _; unfold X.takeIns; rw [hr]; simp only; rw [if_pos hlen, hrl]
    have HCT : Hid (ws.length = n) := hcount
    have HRS : Hid (r.size = n) := hrs
    go_enter Tryz.func107, Tryz.ntmps107
    go_wp2_with fail
    refine (hop _ (HT.out.alloc _)).mono ?_
    rw [hr]
    rintro e y ⟨rfl, hb⟩
    have HB : Hid (Below (w.alloc (.cells #[.int .i64 0, .string { data := #[] }, .int .i64 0, .int .i64 0, .int .i64 0, .int .i64 0, .slice none 0 0] 44)).heap.size (w.alloc (.cells #[.int .i64 0, .string { data := #[] }, .int .i64 0, .int .i64 0, .int .i64 0, .int .i64 0, .slice none 0 0] 44)) y) := hb
    have HTY : Hid (Tab y) := (HT.out.alloc _).below hb
    obtain ⟨-, t2⟩ := HTY.out.rw k0 hk0
    rw [hrr] at t2
    have HTR : Hid (∀ {x : World}, Tab x → x.cell? ⟨0, k0 * 2 + 1, none⟩ = some (.string r)) := fun hx => by rw [← hrr]; exact (hx.rw k0 hk0).2
    have hne : ((n : Int) != (r.size : Int)) = false := by simp; omega
    have HRES : Hid (Bx y w.heap.size [.int .i64 0, .string { data := #[] }, .int .i64 0, .int .i64 0, .int .i64 0, .int .i64 0, .slice none 0 0]) := HZ.out.below hb
    have HYW : Hid (w.heap.size + 1 ≤ y.heap.size) := by show _ ≤ _; have := hb.size; simpa using this
    have HY0 : Hid (Below w.heap.size w y) := (bl1 _ _).trans (hb.mono (bl1 _ _).size)
    clear hb hop hlen hcount hm0 hrl hrr HZ hr hrs
    go_wp2_with fail
    go_loopg [34] n (fun rr iv wq => ∃ (k : Nat), iv = .int .i64 k ∧ k ≤ n ∧ n - k ≤ rr ∧ Hid (∃ t : X.It, t.words = [] ∧ t.name.length ≤ 200000 ∧ Bx wq y.heap.size (itC t (.slice none 0 0)) ∧ X.setAll ⟨2, [], k0, 0, 0, 0, []⟩ r.data.toList ws = X.setAll t (r.data.toList.drop k) (ws.drop k)) ∧ Hid (Bx wq w.heap.size [.int .i64 0, .string { data := #[] }, .int .i64 0, .int .i64 0, .int .i64 0, .int .i64 0, .slice none 0 0] ∧ Tab wq ∧ Below y.heap.size y wq))
    case atStart =>
      refine ⟨0, rfl, Nat.zero_le _, by omega, ⟨⟨2, [], k0, 0, 0, 0, []⟩, rfl, by simp, Bx.new _ _ _, by simp⟩, ⟨HRES.out.below (bl1 _ _), HTY.out.alloc _, bl1 _ _⟩⟩
    case round =>
      obtain ⟨k, rfl, hk, hr, HI, HJ⟩ := hrel
      by_cases hlt : k < n
      · obtain ⟨t, ht1, ht2, ht3, ht4⟩ := HI.out
        have hJ := HJ.out
        obtain ⟨j1, j2, j3⟩ := hJ
        have t2' := HTR.out j2
        obtain ⟨b, off, s, rfl, cw, hs, hz⟩ := ((HV.out.below HY0.out).below j3).at hlt
        have hii : (k : Int) < n := by omega
        have hin : 0 ≤ (k : Int) := by omega
        have hkr : k < r.size := by rw [HRS.out]; exact hlt
        have hii2 : (k : Int) < r.size := by omega
        have hset := set_any t.kind t.name t.op t.a t.b t.n t.words (.slice none 0 0) y.heap.size r[k] s hz wr j2 ht3
        rw [show (⟨t.kind, t.name, t.op, t.a, t.b, t.n, t.words⟩ : X.It) = t from rfl] at hset
        have HS : Hid _ := hs
        have HH : Hid (t.words = [] ∧ t.name.length ≤ 200000 ∧ X.setAll ⟨2, [], k0, 0, 0, 0, []⟩ r.data.toList ws = X.setAll t (r.data.toList.drop k) (ws.drop k)) := ⟨ht1, ht2, ht4⟩
        have HZs : Hid _ := hz
        clear ht1 ht2 ht3 ht4 j1 j2 j3 hs hz t2
        go_wp2_with fail
        refine hset.mono ?_
        rintro e y2 ⟨ok, rfl, h1, h2, hg⟩
        have HG : Hid (wr.grownBy y2 (some y.heap.size)) := hg
        have HJ2 : Hid (Bx y2 w.heap.size [.int .i64 0, .string { data := #[] }, .int .i64 0, .int .i64 0, .int .i64 0, .int .i64 0, .slice none 0 0] ∧ Tab y2 ∧ Below y.heap.size y y2) := ⟨HJ.out.1.gb hg (by have := HYW.out; omega), HJ.out.2.1.gb hg (by have := HYW.out; omega), below_gb HJ.out.2.2 hg (Nat.le_refl _) HJ.out.2.2.size⟩
        clear hset cw t2' hg
        cases ok with
        | false =>
          have HN : Hid (X.takeIns f.data.toList ws = none) := by
            show _ = _
            rw [HR.out, HH.out.2.2, setAll_fail hkr (by rw [HCT.out]; exact hlt) rfl (by rw [← HS.out]; exact h2 rfl)]
          have HBX := HJ2.out.1
          have c0 := HBX.c 0 _ rfl; have c1 := HBX.c 1 _ rfl; have c2 := HBX.c 2 _ rfl; have c3 := HBX.c 3 _ rfl; have c4 := HBX.c 4 _ rfl; have c5 := HBX.c 5 _ rfl; have c6 := HBX.c 6 _ rfl
          have f0 := HBX.f 0; have f1 := HBX.f 1; have f2 := HBX.f 2; have f3 := HBX.f 3; have f4 := HBX.f 4; have f5 := HBX.f 5; have f6 := HBX.f 6
          have HW : Hid (Below w.heap.size w y2) := HY0.out.trans (HJ2.out.2.2.mono HY0.out.size)
          clear HBX h1 h2
          go_wp2_with fail
          have HF := Bx.put7 HJ2.out.1 rfl (.int .i64 0) (.string { data := #[] }) (.int .i64 0) (.int .i64 0) (.int .i64 0) (.int .i64 0) (.slice none 0 0)
          have HE : Below w.heap.size w (((((((y2.setCell ⟨w.heap.size, 0, none⟩ (.int .i64 0)).setCell ⟨w.heap.size, 1, none⟩ (.string { data := #[] })).setCell ⟨w.heap.size, 2, none⟩ (.int .i64 0)).setCell ⟨w.heap.size, 3, none⟩ (.int .i64 0)).setCell ⟨w.heap.size, 4, none⟩ (.int .i64 0)).setCell ⟨w.heap.size, 5, none⟩ (.int .i64 0)).setCell ⟨w.heap.size, 6, none⟩ (.slice none 0 0)) := below_put7 HW.out (Nat.le_refl _)
          generalize (((((((y2.setCell ⟨w.heap.size, 0, none⟩ (.int .i64 0)).setCell ⟨w.heap.size, 1, none⟩ (.string { data := #[] })).setCell ⟨w.heap.size, 2, none⟩ (.int .i64 0)).setCell ⟨w.heap.size, 3, none⟩ (.int .i64 0)).setCell ⟨w.heap.size, 4, none⟩ (.int .i64 0)).setCell ⟨w.heap.size, 5, none⟩ (.int .i64 0)).setCell ⟨w.heap.size, 6, none⟩ (.slice none 0 0)) = Wf at HF HE ⊢
          have k0 := HF.c 0 _ rfl; have k1 := HF.c 1 _ rfl; have k2 := HF.c 2 _ rfl; have k3 := HF.c 3 _ rfl; have k4 := HF.c 4 _ rfl; have k5 := HF.c 5 _ rfl; have k6 := HF.c 6 _ rfl
          refine bodyPost_ret (v := .tuple #[.agg #[.int .i64 0, .string { data := #[] }, .int .i64 0, .int .i64 0, .int .i64 0, .int .i64 0, .slice none 0 0], .bool false]) (by simp [results, Tryz.results107, go_sem, k0, k1, k2, k3, k4, k5, k6]) rfl ?_
          exact TakeOut.bad HN.out HE
        | true =>
          have HN : Hid (∃ t : X.It, t.words = [] ∧ t.name.length ≤ 200000 ∧ Bx y2 y.heap.size (itC t (.slice none 0 0)) ∧ X.setAll ⟨2, [], k0, 0, 0, 0, []⟩ r.data.toList ws = X.setAll t (r.data.toList.drop (k + 1)) (ws.drop (k + 1))) := by
            obtain ⟨t', g1, g2⟩ := h1 rfl
            obtain ⟨q1, q2⟩ := set_words g1
            refine ⟨t', q1.trans HH.out.1, ?_, g2, ?_⟩
            · rcases q2 with e | e
              · rw [e]; exact HH.out.2.1
              · rw [e, len_list]; exact HZs.out
            · rw [HH.out.2.2]
              exact setAll_step hkr (by rw [HCT.out]; exact hlt) rfl (by rw [← HS.out]; exact g1)
          clear h1 h2
          go_wp2_with fail
          go_roundg (n - (k + 1))
          case measure => omega
          case rel => exact ⟨k + 1, by go_num, by omega, Nat.le_refl _, HN.out, HJ2.out⟩
      · obtain rfl : k = n := by omega
        have hii : ¬ (k : Int) < k := by omega
        obtain ⟨t, ht1, ht2, ht3, ht4⟩ := HI.out
        have HN : Hid (X.takeIns f.data.toList ws = some t) := by
          show _ = _
          rw [HR.out, ht4, setAll_end HRS.out.symm HCT.out.symm]
        have HBX := HJ.out.1
        have hne2 : y.heap.size ≠ w.heap.size := by have := HYW.out; omega
        have c0 := HBX.c 0 _ rfl; have c1 := HBX.c 1 _ rfl; have c2 := HBX.c 2 _ rfl; have c3 := HBX.c 3 _ rfl; have c4 := HBX.c 4 _ rfl; have c5 := HBX.c 5 _ rfl; have c6 := HBX.c 6 _ rfl
        have f0 := HBX.f 0; have f1 := HBX.f 1; have f2 := HBX.f 2; have f3 := HBX.f 3; have f4 := HBX.f 4; have f5 := HBX.f 5; have f6 := HBX.f 6
        have d0 := ht3.c 0 _ rfl; have d1 := ht3.c 1 _ rfl; have d2 := ht3.c 2 _ rfl; have d3 := ht3.c 3 _ rfl; have d4 := ht3.c 4 _ rfl; have d5 := ht3.c 5 _ rfl; have d6 := ht3.c 6 _ rfl
        have HW : Hid (Below w.heap.size w wr) := HY0.out.trans (HJ.out.2.2.mono HY0.out.size)
        have HH : Hid (t.words = [] ∧ t.name.length ≤ 200000) := ⟨ht1, ht2⟩
        clear HBX ht1 ht2 ht3 ht4 t2
        generalize y.heap.size = bz at *
        go_wp2_with fail
        have HF := Bx.put7 HJ.out.1 rfl (.int .i64 t.kind) (.string (X.str t.name)) (.int .i64 t.op) (.int .i64 t.a) (.int .i64 t.b) (.int .i64 t.n) (.slice none 0 0)
        have HE : Below w.heap.size w (((((((wr.setCell ⟨w.heap.size, 0, none⟩ (.int .i64 t.kind)).setCell ⟨w.heap.size, 1, none⟩ (.string (X.str t.name))).setCell ⟨w.heap.size, 2, none⟩ (.int .i64 t.op)).setCell ⟨w.heap.size, 3, none⟩ (.int .i64 t.a)).setCell ⟨w.heap.size, 4, none⟩ (.int .i64 t.b)).setCell ⟨w.heap.size, 5, none⟩ (.int .i64 t.n)).setCell ⟨w.heap.size, 6, none⟩ (.slice none 0 0)) := below_put7 HW.out (Nat.le_refl _)
        generalize (((((((wr.setCell ⟨w.heap.size, 0, none⟩ (.int .i64 t.kind)).setCell ⟨w.heap.size, 1, none⟩ (.string (X.str t.name))).setCell ⟨w.heap.size, 2, none⟩ (.int .i64 t.op)).setCell ⟨w.heap.size, 3, none⟩ (.int .i64 t.a)).setCell ⟨w.heap.size, 4, none⟩ (.int .i64 t.b)).setCell ⟨w.heap.size, 5, none⟩ (.int .i64 t.n)).setCell ⟨w.heap.size, 6, none⟩ (.slice none 0 0)) = Wf at HF HE ⊢
        have k0 := HF.c 0 _ rfl; have k1 := HF.c 1 _ rfl; have k2 := HF.c 2 _ rfl; have k3 := HF.c 3 _ rfl; have k4 := HF.c 4 _ rfl; have k5 := HF.c 5 _ rfl; have k6 := HF.c 6 _ rfl
        refine bodyPost_ret (v := .tuple #[.agg #[.int .i64 t.kind, .string (X.str t.name), .int .i64 t.op, .int .i64 t.a, .int .i64 t.b, .int .i64 t.n, .slice none 0 0], .bool true]) (by simp [results, Tryz.results107, go_sem, k0, k1, k2, k3, k4, k5, k6]) rfl ?_
        exact ⟨t, none, 0, 0, true, rfl, fun _ => HN.out, (fun h => by cases h), HH.out.2, by rw [HH.out.1]; exact own_none _ _ _, HE⟩

end Go.Proofs.YtgjingleolhkbaaGreatDoor

/- A line of words; a line. -/
namespace Go.Proofs.YtgjingleolhkbaaGreatDoor
open Go.RowKit
set_option linter.unusedVariables false
set_option linter.unusedSimpArgs false

theorem infoN : (Tryz.prog.info? 2).map (fun i => (i.zero, i.size, i.bytes)) = some (some (.int .i64 0), 1, 8) := by kernel_rfl
theorem Bx.gbO {x y : World} {b : Nat} {r : Option Nat} {vs : List Value} (h : Bx x b vs) (hg : x.grownBy y r) (hne : some b ≠ r) : Bx y b vs :=
  ⟨fun j u hu => hg.cell (h.c j u hu) hne, fun o => (hg.frozen_far ⟨b, o, none⟩ h.lt hne).trans (h.f o), Nat.lt_of_lt_of_le h.lt hg.size⟩
theorem StrV.tail {w : World} {b off : Nat} {n c : Nat} {x : X.By} {ws : List X.By} (h : StrV w (some ⟨b, off, none⟩) (n + 1) (c + 1) (x :: ws)) : StrV w (some ⟨b, off + 1, none⟩) n c ws := by
  refine ⟨by have := h.count; simpa using this, ⟨by have := h.room; omega, by have := h.room; omega⟩, fun y hy => h.small y (by simp [hy]), ?_⟩
  rcases h.cells with h0 | ⟨b', off', e, hc⟩
  · omega
  · cases e
    refine .inr ⟨b, off + 1, rfl, fun i hi => ?_⟩
    have := hc (i + 1) (by omega)
    rw [show off + 1 + i = off + (i + 1) by omega, this]
    simp
theorem put7_own {x : World} {B b : Nat} {ty : TypeId} {k n : Nat} {v : Value} {cs : List Value} {u0 u1 u2 u3 u4 u5 u6 : Value} (h : x.ownsRow B ty k v n cs) (hb : b < B) : World.ownsRow (((((((x.setCell ⟨b, 0, none⟩ (u0)).setCell ⟨b, 1, none⟩ (u1)).setCell ⟨b, 2, none⟩ (u2)).setCell ⟨b, 3, none⟩ (u3)).setCell ⟨b, 4, none⟩ (u4)).setCell ⟨b, 5, none⟩ (u5)).setCell ⟨b, 6, none⟩ (u6)) B ty k v n cs := by
  have st : ∀ {y : World} {o : Nat} {u : Value}, y.ownsRow B ty k v n cs → (y.setCell ⟨b, o, none⟩ u).ownsRow B ty k v n cs := fun h => h.kept (gb_set _ _ _) (.inr (fun e => by have := (h.lt b e).1; omega))
  exact st (st (st (st (st (st (st h))))))
theorem nums_step {l : List X.By} {k : Nat} {ns : List Int} {z : Int} (hk : k < l.length) (hz : X.num (l.getD k []) = some z) (h : X.nums l = (X.nums (l.drop k)).map (ns ++ ·)) : X.nums l = (X.nums (l.drop (k + 1))).map (ns ++ [z] ++ ·) := by
  rw [h, List.drop_eq_getElem_cons hk]
  have e : l[k] = l.getD k [] := by simp [List.getD, hk]
  rw [e, X.nums, hz, Option.bind_some, Option.map_map]
  congr 1
  funext r
  simp
theorem nums_bad {l : List X.By} {k : Nat} {ns : List Int} (hk : k < l.length) (hz : X.num (l.getD k []) = none) (h : X.nums l = (X.nums (l.drop k)).map (ns ++ ·)) : X.nums l = none := by
  rw [h, List.drop_eq_getElem_cons hk]
  have e : l[k] = l.getD k [] := by simp [List.getD, hk]
  rw [e, X.nums, hz]
  rfl
theorem nums_end {l : List X.By} {ns : List Int} (h : X.nums l = (X.nums (l.drop l.length)).map (ns ++ ·)) : X.nums l = some ns := by
  rw [h, List.drop_length]
  simp [X.nums]

set_option maxRecDepth 100000 in
set_option maxHeartbeats 8000000 in
theorem takeWords_any {w : World} {a : Option Addr} {n c : Nat} {ws : List X.By} (h : StrV w a n c ws) (hn : n ≤ 200000) (ht : Tab w) :
    Calls Tryz.prog 106 #[.slice a n c] w (TakeOut w (X.takeWords ws)) := by
  have HT : Hid _ := ht
  have hz7 := ht.hz
  clear ht
  by_cases h0 : n = 0
  · have HR : Hid (X.takeWords ws = none) := by
      show _ = _
      have := h.count
      rw [h0] at this
      rw [List.eq_nil_of_length_eq_zero this]
      rfl
    have h0' : ((n : Int) == 0) = true := by simp [h0]
    clear h h0
    go_enter Tryz.func106, Tryz.ntmps106
    go_wp2_with fail
    refine bodyPost_ret (v := .tuple #[.agg #[.int .i64 0, .string { data := #[] }, .int .i64 0, .int .i64 0, .int .i64 0, .int .i64 0, .slice none 0 0], .bool false]) (by simp [results, Tryz.results106, go_sem]) rfl ?_
    refine TakeOut.bad HR.out ?_
    repeat (first | exact bl1 _ _ | refine Below.setCell ?_ (by simp) _)
  have h0' : ((n : Int) == 0) = false := by simp [h0]
  obtain ⟨b, off, s0, rfl, d0, hs0, hz0⟩ := h.at (i := 0) (by omega)
  obtain ⟨x, ws, rfl⟩ : ∃ x r, ws = x :: r := by
    cases ws with
    | nil => have := h.count; simp at this; omega
    | cons x r => exact ⟨x, r, rfl⟩
  have hx : s0.data.toList = x := by simpa using hs0
  obtain ⟨n, rfl⟩ : ∃ m, n = m + 1 := ⟨n - 1, by omega⟩
  obtain ⟨c, rfl⟩ : ∃ m, c = m + 1 := ⟨c - 1, by have := h.room; omega⟩
  have hroom := h.room
  obtain ⟨hr1, hr2⟩ := hroom
  unfold maxLen at hr2
  have HV : Hid (StrV w (some ⟨b, off + 1, none⟩) n c ws) := h.tail
  have HCT : Hid (ws.length = n) := h.tail.count
  have HR : Hid (X.takeWords (x :: ws) = (X.nums ws).map fun l => ⟨3, s0.data.toList, 0, 0, 0, 0, l⟩) := by show _ = _; rw [hx]; rfl
  have HX0 : Hid (s0.size ≤ 200000) := hz0
  have d0' : w.cell? ⟨b, off, none⟩ = some (.string s0) := by simpa using d0
  have HD : Hid (∀ o, (w.alloc o).cell? ⟨b, off, none⟩ = some (.string s0)) := fun o => cell_thru (bl1 _ _) d0'
  have dd := HD.out
  clear h hs0 hx d0 d0' hz0 h0
  obtain ⟨is, his, is0, is1, is2⟩ := info_parts infoN
  have HZ : Hid (Bx ((w.alloc (.cells #[.int .i64 0, .string { data := #[] }, .int .i64 0, .int .i64 0, .int .i64 0, .int .i64 0, .slice none 0 0] 44)).alloc (.cells #[.int .i64 3, .string s0, .int .i64 0, .int .i64 0, .int .i64 0, .int .i64 0, .slice none 0 0] 44)) w.heap.size [.int .i64 0, .string { data := #[] }, .int .i64 0, .int .i64 0, .int .i64 0, .int .i64 0, .slice none 0 0]) := (Bx.new _ _ _).below (bl1 _ _)
  have HB0 : Hid (Bx ((w.alloc (.cells #[.int .i64 0, .string { data := #[] }, .int .i64 0, .int .i64 0, .int .i64 0, .int .i64 0, .slice none 0 0] 44)).alloc (.cells #[.int .i64 3, .string s0, .int .i64 0, .int .i64 0, .int .i64 0, .int .i64 0, .slice none 0 0] 44)) (w.heap.size + 1) [.int .i64 3, .string s0, .int .i64 0, .int .i64 0, .int .i64 0, .int .i64 0, .slice none 0 0]) := by
    show Bx _ _ _
    have := Bx.new (w.alloc (.cells #[.int .i64 0, .string { data := #[] }, .int .i64 0, .int .i64 0, .int .i64 0, .int .i64 0, .slice none 0 0] 44)) #[.int .i64 3, .string s0, .int .i64 0, .int .i64 0, .int .i64 0, .int .i64 0, .slice none 0 0] 44
    simpa using this
  have HW0 : Hid (Below w.heap.size w ((w.alloc (.cells #[.int .i64 0, .string { data := #[] }, .int .i64 0, .int .i64 0, .int .i64 0, .int .i64 0, .slice none 0 0] 44)).alloc (.cells #[.int .i64 3, .string s0, .int .i64 0, .int .i64 0, .int .i64 0, .int .i64 0, .slice none 0 0] 44))) := bl2 _ _ _
  by_cases hc0 : c = 0
  · subst hc0
    have HV : Hid (StrV w (some ⟨b, off, none⟩) n 0 ws) := ⟨HCT.out, ⟨by omega, Nat.zero_le _⟩, HV.out.small, .inl (by omega)⟩
    go_enter Tryz.func106, Tryz.ntmps106
    go_wp2_with fail
    clear dd
    go_loopg [20] n (fun rr iv wq => ∃ (k : Nat), iv = .int .i64 k ∧ k ≤ n ∧ n - k ≤ rr ∧ Hid (∃ (ns : List Int) (av : Option Addr) (cv : Nat), Bx wq (w.heap.size + 1) [.int .i64 3, .string s0, .int .i64 0, .int .i64 0, .int .i64 0, .int .i64 0, .slice av k cv] ∧ wq.ownsRow (w.heap.size + 2) 2 1 (.slice av k cv) k (iC ns) ∧ X.nums ws = (X.nums (ws.drop k)).map (ns ++ ·)) ∧ Hid (Bx wq w.heap.size [.int .i64 0, .string { data := #[] }, .int .i64 0, .int .i64 0, .int .i64 0, .int .i64 0, .slice none 0 0] ∧ Tab wq ∧ Below w.heap.size w wq ∧ w.heap.size + 2 ≤ wq.heap.size))
    case atStart => exact ⟨0, rfl, Nat.zero_le _, by omega, ⟨[], none, 0, HB0.out, own_none _ _ _, by simp⟩, ⟨HZ.out, (HT.out.alloc _).alloc _, HW0.out, by simp⟩⟩
    case round =>
      obtain ⟨k, rfl, hk, hr, HI, HJ⟩ := hrel
      obtain ⟨ns, av, cv, hbx, ho, hn2⟩ := HI.out
      have HNS : Hid (X.nums ws = (X.nums (ws.drop k)).map (ns ++ ·)) := hn2
      have HO : Hid (wr.ownsRow (w.heap.size + 2) 2 1 (.slice av k cv) k (iC ns)) := ho
      have HBX : Hid (Bx wr (w.heap.size + 1) [.int .i64 3, .string s0, .int .i64 0, .int .i64 0, .int .i64 0, .int .i64 0, .slice av k cv]) := hbx
      clear hn2 ho hbx HI
      by_cases hlt : k < n
      · exact absurd hlt (by omega)
      · obtain rfl : k = n := by omega
        have hii : ¬ (k : Int) < k := by omega
        have HN : Hid (X.takeWords (x :: ws) = some ⟨3, s0.data.toList, 0, 0, 0, 0, ns⟩) := by
          show _ = _
          rw [HR.out, nums_end (by rw [HCT.out]; exact HNS.out)]
          rfl
        have HQ := HJ.out.1
        have c0 := HQ.c 0 _ rfl; have c1 := HQ.c 1 _ rfl; have c2 := HQ.c 2 _ rfl; have c3 := HQ.c 3 _ rfl; have c4 := HQ.c 4 _ rfl; have c5 := HQ.c 5 _ rfl; have c6 := HQ.c 6 _ rfl
        have f0 := HQ.f 0; have f1 := HQ.f 1; have f2 := HQ.f 2; have f3 := HQ.f 3; have f4 := HQ.f 4; have f5 := HQ.f 5; have f6 := HQ.f 6
        have HQ2 := HBX.out
        have e0 := HQ2.c 0 _ rfl; have e1 := HQ2.c 1 _ rfl; have e2 := HQ2.c 2 _ rfl; have e3 := HQ2.c 3 _ rfl; have e4 := HQ2.c 4 _ rfl; have e5 := HQ2.c 5 _ rfl; have e6 := HQ2.c 6 _ rfl
        clear HQ HQ2
        go_wp2_with fail
        have HOF := put7_own (b := w.heap.size) (u0 := .int .i64 3) (u1 := .string s0) (u2 := .int .i64 0) (u3 := .int .i64 0) (u4 := .int .i64 0) (u5 := .int .i64 0) (u6 := .slice av k cv) HO.out (Nat.lt_succ_of_lt (Nat.lt_succ_self _))
        have HF := Bx.put7 HJ.out.1 rfl (.int .i64 3) (.string s0) (.int .i64 0) (.int .i64 0) (.int .i64 0) (.int .i64 0) (.slice av k cv)
        have HE : Below w.heap.size w (((((((wr.setCell ⟨w.heap.size, 0, none⟩ (.int .i64 3)).setCell ⟨w.heap.size, 1, none⟩ (.string s0)).setCell ⟨w.heap.size, 2, none⟩ (.int .i64 0)).setCell ⟨w.heap.size, 3, none⟩ (.int .i64 0)).setCell ⟨w.heap.size, 4, none⟩ (.int .i64 0)).setCell ⟨w.heap.size, 5, none⟩ (.int .i64 0)).setCell ⟨w.heap.size, 6, none⟩ (.slice av k cv)) := below_put7 HJ.out.2.2.1 (Nat.le_refl _)
        generalize (((((((wr.setCell ⟨w.heap.size, 0, none⟩ (.int .i64 3)).setCell ⟨w.heap.size, 1, none⟩ (.string s0)).setCell ⟨w.heap.size, 2, none⟩ (.int .i64 0)).setCell ⟨w.heap.size, 3, none⟩ (.int .i64 0)).setCell ⟨w.heap.size, 4, none⟩ (.int .i64 0)).setCell ⟨w.heap.size, 5, none⟩ (.int .i64 0)).setCell ⟨w.heap.size, 6, none⟩ (.slice av k cv)) = Wf at HF HE HOF ⊢
        have k0 := HF.c 0 _ rfl; have k1 := HF.c 1 _ rfl; have k2 := HF.c 2 _ rfl; have k3 := HF.c 3 _ rfl; have k4 := HF.c 4 _ rfl; have k5 := HF.c 5 _ rfl; have k6 := HF.c 6 _ rfl
        refine bodyPost_ret (v := .tuple #[.agg #[.int .i64 3, .string s0, .int .i64 0, .int .i64 0, .int .i64 0, .int .i64 0, .slice av k cv], .bool true]) (by simp [results, Tryz.results106, go_sem, k0, k1, k2, k3, k4, k5, k6]) rfl ?_
        exact ⟨⟨3, s0.data.toList, 0, 0, 0, 0, ns⟩, av, k, cv, true, by simp [str_eq], fun _ => HN.out, (fun h => by cases h), (by rw [len_list]; exact HX0.out), own_baseB HOF (Nat.le_add_right _ 2), HE⟩
  · skip
    go_enter Tryz.func106, Tryz.ntmps106
    go_wp2_with fail
    clear dd
    go_loopg [20] n (fun rr iv wq => ∃ (k : Nat), iv = .int .i64 k ∧ k ≤ n ∧ n - k ≤ rr ∧ Hid (∃ (ns : List Int) (av : Option Addr) (cv : Nat), Bx wq (w.heap.size + 1) [.int .i64 3, .string s0, .int .i64 0, .int .i64 0, .int .i64 0, .int .i64 0, .slice av k cv] ∧ wq.ownsRow (w.heap.size + 2) 2 1 (.slice av k cv) k (iC ns) ∧ X.nums ws = (X.nums (ws.drop k)).map (ns ++ ·)) ∧ Hid (Bx wq w.heap.size [.int .i64 0, .string { data := #[] }, .int .i64 0, .int .i64 0, .int .i64 0, .int .i64 0, .slice none 0 0] ∧ Tab wq ∧ Below w.heap.size w wq ∧ w.heap.size + 2 ≤ wq.heap.size))
    case atStart => exact ⟨0, rfl, Nat.zero_le _, by omega, ⟨[], none, 0, HB0.out, own_none _ _ _, by simp⟩, ⟨HZ.out, (HT.out.alloc _).alloc _, HW0.out, by simp⟩⟩
    case round =>
      obtain ⟨k, rfl, hk, hr, HI, HJ⟩ := hrel
      obtain ⟨ns, av, cv, hbx, ho, hn2⟩ := HI.out
      have HNS : Hid (X.nums ws = (X.nums (ws.drop k)).map (ns ++ ·)) := hn2
      have HO : Hid (wr.ownsRow (w.heap.size + 2) 2 1 (.slice av k cv) k (iC ns)) := ho
      have HBX : Hid (Bx wr (w.heap.size + 1) [.int .i64 3, .string s0, .int .i64 0, .int .i64 0, .int .i64 0, .int .i64 0, .slice av k cv]) := hbx
      clear hn2 ho hbx HI
      by_cases hlt : k < n
      · obtain ⟨b2, off2, s, hab, cw, hs, hz⟩ := (HV.out.below HJ.out.2.2.1).at hlt
        have hii : (k : Int) < n := by omega
        have hin : 0 ≤ (k : Int) := by omega
        have HS : Hid _ := hs
        have hnum := number_any s (by omega) wr HJ.out.2.1
        cases hab
        clear hs hz
        go_wp2_with fail
        refine hnum.mono ?_
        rintro e y ⟨z, ok, rfl, ⟨h1, h2⟩, hb⟩
        have HB : Hid (Below wr.heap.size wr y) := hb
        have HBX2 : Hid (Bx y (w.heap.size + 1) [.int .i64 3, .string s0, .int .i64 0, .int .i64 0, .int .i64 0, .int .i64 0, .slice av k cv]) := HBX.out.below hb
        have HJ2 : Hid (Bx y w.heap.size [.int .i64 0, .string { data := #[] }, .int .i64 0, .int .i64 0, .int .i64 0, .int .i64 0, .slice none 0 0] ∧ Tab y ∧ Below w.heap.size w y ∧ w.heap.size + 2 ≤ y.heap.size) := ⟨HJ.out.1.below hb, HJ.out.2.1.below hb, HJ.out.2.2.1.trans (hb.mono HJ.out.2.2.1.size), Nat.le_trans HJ.out.2.2.2 hb.size⟩
        clear hnum hb cw
        cases ok with
        | false =>
          have HN : Hid (X.takeWords (x :: ws) = none) := by
            show _ = _
            rw [HR.out, nums_bad (by rw [HCT.out]; exact hlt) (by rw [← HS.out]; exact h2 rfl) HNS.out]
            rfl
          have HQ := HJ2.out.1
          have c0 := HQ.c 0 _ rfl; have c1 := HQ.c 1 _ rfl; have c2 := HQ.c 2 _ rfl; have c3 := HQ.c 3 _ rfl; have c4 := HQ.c 4 _ rfl; have c5 := HQ.c 5 _ rfl; have c6 := HQ.c 6 _ rfl
          have f0 := HQ.f 0; have f1 := HQ.f 1; have f2 := HQ.f 2; have f3 := HQ.f 3; have f4 := HQ.f 4; have f5 := HQ.f 5; have f6 := HQ.f 6
          clear HQ h1 h2
          go_wp2_with fail
          have HF := Bx.put7 HJ2.out.1 rfl (.int .i64 0) (.string { data := #[] }) (.int .i64 0) (.int .i64 0) (.int .i64 0) (.int .i64 0) (.slice none 0 0)
          have HE : Below w.heap.size w (((((((y.setCell ⟨w.heap.size, 0, none⟩ (.int .i64 0)).setCell ⟨w.heap.size, 1, none⟩ (.string { data := #[] })).setCell ⟨w.heap.size, 2, none⟩ (.int .i64 0)).setCell ⟨w.heap.size, 3, none⟩ (.int .i64 0)).setCell ⟨w.heap.size, 4, none⟩ (.int .i64 0)).setCell ⟨w.heap.size, 5, none⟩ (.int .i64 0)).setCell ⟨w.heap.size, 6, none⟩ (.slice none 0 0)) := below_put7 HJ2.out.2.2.1 (Nat.le_refl _)
          generalize (((((((y.setCell ⟨w.heap.size, 0, none⟩ (.int .i64 0)).setCell ⟨w.heap.size, 1, none⟩ (.string { data := #[] })).setCell ⟨w.heap.size, 2, none⟩ (.int .i64 0)).setCell ⟨w.heap.size, 3, none⟩ (.int .i64 0)).setCell ⟨w.heap.size, 4, none⟩ (.int .i64 0)).setCell ⟨w.heap.size, 5, none⟩ (.int .i64 0)).setCell ⟨w.heap.size, 6, none⟩ (.slice none 0 0)) = Wf at HF HE ⊢
          have k0 := HF.c 0 _ rfl; have k1 := HF.c 1 _ rfl; have k2 := HF.c 2 _ rfl; have k3 := HF.c 3 _ rfl; have k4 := HF.c 4 _ rfl; have k5 := HF.c 5 _ rfl; have k6 := HF.c 6 _ rfl
          refine bodyPost_ret (v := .tuple #[.agg #[.int .i64 0, .string { data := #[] }, .int .i64 0, .int .i64 0, .int .i64 0, .int .i64 0, .slice none 0 0], .bool false]) (by simp [results, Tryz.results106, go_sem, k0, k1, k2, k3, k4, k5, k6]) rfl ?_
          exact TakeOut.bad HN.out HE
        | true =>
          have HNX : Hid (X.nums ws = (X.nums (ws.drop (k + 1))).map (ns ++ [z] ++ ·)) := nums_step (by rw [HCT.out]; exact hlt) (by rw [← HS.out]; exact h1 rfl) HNS.out
          have HO2 : Hid ((y.alloc (.cells #[.int .i64 z] 2)).ownsRow (w.heap.size + 2) 2 1 (.slice av k cv) k (iC ns)) := own_thru HO.out (HB.out.alloc HB.out.size _)
          have HNC : Hid (∀ j u, ([.int .i64 z] : List Value)[j]? = some u → (y.alloc (.cells #[.int .i64 z] 2)).cell? ((⟨y.heap.size, 0, none⟩ : Addr).add j) = some u) := fun j u hu => by rw [Addr.add_lit, Nat.zero_add]; exact row_cell (by simpa using hu)
          have HSZ : Hid (w.heap.size + 2 ≤ (y.alloc (.cells #[.int .i64 z] 2)).heap.size) := by show _ ≤ _; have := HJ2.out.2.2.2; simp; omega
          have HBX3 : Hid (Bx (y.alloc (.cells #[.int .i64 z] 2)) (w.heap.size + 1) [.int .i64 3, .string s0, .int .i64 0, .int .i64 0, .int .i64 0, .int .i64 0, .slice av k cv]) := HBX2.out.below (bl1 _ _)
          have g6 := HBX2.out.c 6 _ rfl
          have hbl := HBX2.out.lt
          have hnb : some (w.heap.size + 1) ≠ (Value.slice av k cv).ownBlock := fun e => by have := (HO2.out.lt _ e.symm).1; omega
          have hnb0 : some w.heap.size ≠ (Value.slice av k cv).ownBlock := fun e => by have := (HO2.out.lt _ e.symm).1; omega
          have HNB : Hid _ := hnb
          have HNB0 : Hid _ := hnb0
          clear h1 h2 hnb hnb0
          go_wp2_with (first | (at_builtin; refine wpList_append_lies _ rfl _ _ 26 rfl (w.heap.size + 2) 2 is _ 1 8 Tryz.underlying26 his is0 is1 is2 rfl (by decide) (.slice av k cv) k _ rfl HO2.out ⟨y.heap.size, 0, none⟩ 1 1 [.int .i64 z] rfl rfl HNC.out (by intro u hu; simp at hu; subst hu; rfl) (by decide) (by unfold maxLen; omega) (by omega) HSZ.out (y.heap.size + 1) (by simp) ?_; intro x1 cp Y6 ho6 hg6 hat6 hlt6; have HO6 : Hid (Y6.ownsRow (w.heap.size + 2) 2 1 (.slice (some ⟨x1, 0, none⟩) (k + 1) cp) (k + 1) (iC ns ++ [.int .i64 z])) := ho6; have HG6 : Hid _ := hg6; have HBX6 : Hid _ := HBX3.out.gbO hg6 HNB.out; have z6 := HBX6.out.c 6 _ rfl; have w6 := HBX6.out.f 6; have hb6 := HBX6.out.lt; clear ho6 hg6 hat6 hlt6 g6 hbl) | fail)
          go_roundg (n - (k + 1))
          case measure => omega
          case rel =>
            have hg := HG6.out
            have hB7 : Below w.heap.size w Y6 := below_grownB (HJ2.out.2.2.1.alloc HJ2.out.2.2.1.size _) HO2.out hg HSZ.out (by omega)
            refine ⟨k + 1, by go_num, by omega, Nat.le_refl _, ⟨ns ++ [z], some ⟨x1, 0, none⟩, cp, HBX6.out.put 6 (by simp) _, ?_, HNX.out⟩, ⟨?_, ?_, hB7.setCell (by simp) _, ?_⟩⟩
            · have := HO6.out.kept (gb_set Y6 ⟨w.heap.size + 1, 6, none⟩ (.slice (some ⟨x1, 0, none⟩) (k + 1) cp)) (.inr (fun e => by have := (HO6.out.lt (w.heap.size + 1) e).1; omega))
              unfold iC at this ⊢
              rw [List.map_append]
              exact this
            · exact (((HJ2.out.1.below (bl1 _ _)).gbO hg HNB0.out)).gb (gb_set _ _ _) (by simp)
            · exact ((HT.out.below hB7)).gb (gb_set _ _ _) (by simp; omega)
            · rw [World.size_setCell]
              exact Nat.le_trans HSZ.out hg.size
      · obtain rfl : k = n := by omega
        have hii : ¬ (k : Int) < k := by omega
        have HN : Hid (X.takeWords (x :: ws) = some ⟨3, s0.data.toList, 0, 0, 0, 0, ns⟩) := by
          show _ = _
          rw [HR.out, nums_end (by rw [HCT.out]; exact HNS.out)]
          rfl
        have HQ := HJ.out.1
        have c0 := HQ.c 0 _ rfl; have c1 := HQ.c 1 _ rfl; have c2 := HQ.c 2 _ rfl; have c3 := HQ.c 3 _ rfl; have c4 := HQ.c 4 _ rfl; have c5 := HQ.c 5 _ rfl; have c6 := HQ.c 6 _ rfl
        have f0 := HQ.f 0; have f1 := HQ.f 1; have f2 := HQ.f 2; have f3 := HQ.f 3; have f4 := HQ.f 4; have f5 := HQ.f 5; have f6 := HQ.f 6
        have HQ2 := HBX.out
        have e0 := HQ2.c 0 _ rfl; have e1 := HQ2.c 1 _ rfl; have e2 := HQ2.c 2 _ rfl; have e3 := HQ2.c 3 _ rfl; have e4 := HQ2.c 4 _ rfl; have e5 := HQ2.c 5 _ rfl; have e6 := HQ2.c 6 _ rfl
        clear HQ HQ2
        go_wp2_with fail
        have HOF := put7_own (b := w.heap.size) (u0 := .int .i64 3) (u1 := .string s0) (u2 := .int .i64 0) (u3 := .int .i64 0) (u4 := .int .i64 0) (u5 := .int .i64 0) (u6 := .slice av k cv) HO.out (Nat.lt_succ_of_lt (Nat.lt_succ_self _))
        have HF := Bx.put7 HJ.out.1 rfl (.int .i64 3) (.string s0) (.int .i64 0) (.int .i64 0) (.int .i64 0) (.int .i64 0) (.slice av k cv)
        have HE : Below w.heap.size w (((((((wr.setCell ⟨w.heap.size, 0, none⟩ (.int .i64 3)).setCell ⟨w.heap.size, 1, none⟩ (.string s0)).setCell ⟨w.heap.size, 2, none⟩ (.int .i64 0)).setCell ⟨w.heap.size, 3, none⟩ (.int .i64 0)).setCell ⟨w.heap.size, 4, none⟩ (.int .i64 0)).setCell ⟨w.heap.size, 5, none⟩ (.int .i64 0)).setCell ⟨w.heap.size, 6, none⟩ (.slice av k cv)) := below_put7 HJ.out.2.2.1 (Nat.le_refl _)
        generalize (((((((wr.setCell ⟨w.heap.size, 0, none⟩ (.int .i64 3)).setCell ⟨w.heap.size, 1, none⟩ (.string s0)).setCell ⟨w.heap.size, 2, none⟩ (.int .i64 0)).setCell ⟨w.heap.size, 3, none⟩ (.int .i64 0)).setCell ⟨w.heap.size, 4, none⟩ (.int .i64 0)).setCell ⟨w.heap.size, 5, none⟩ (.int .i64 0)).setCell ⟨w.heap.size, 6, none⟩ (.slice av k cv)) = Wf at HF HE HOF ⊢
        have k0 := HF.c 0 _ rfl; have k1 := HF.c 1 _ rfl; have k2 := HF.c 2 _ rfl; have k3 := HF.c 3 _ rfl; have k4 := HF.c 4 _ rfl; have k5 := HF.c 5 _ rfl; have k6 := HF.c 6 _ rfl
        refine bodyPost_ret (v := .tuple #[.agg #[.int .i64 3, .string s0, .int .i64 0, .int .i64 0, .int .i64 0, .int .i64 0, .slice av k cv], .bool true]) (by simp [results, Tryz.results106, go_sem, k0, k1, k2, k3, k4, k5, k6]) rfl ?_
        exact ⟨⟨3, s0.data.toList, 0, 0, 0, 0, ns⟩, av, k, cv, true, by simp [str_eq], fun _ => HN.out, (fun h => by cases h), (by rw [len_list]; exact HX0.out), own_baseB HOF (Nat.le_add_right _ 2), HE⟩

end Go.Proofs.YtgjingleolhkbaaGreatDoor

/- The item of a line's words. -/
namespace Go.Proofs.YtgjingleolhkbaaGreatDoor
open Go.RowKit
set_option linter.unusedVariables false
set_option linter.unusedSimpArgs false

theorem has_colon (l : X.By) : Go.Lib.hasSuffix l [58] = decide (l.getLast? = some 58) := by
  rcases List.eq_nil_or_concat l with rfl | ⟨r, c, rfl⟩
  · decide
  · rw [Bool.eq_iff_iff]
    simp [Go.Lib.hasSuffix, List.isSuffixOf, List.isPrefixOf, List.concat_eq_append]
    try constructor <;> intro h <;> exact h.symm
theorem trim_colon {l : X.By} (h : l.getLast? = some 58) : Go.Lib.trimSuffix l [58] = l.dropLast := by
  rcases List.eq_nil_or_concat l with rfl | ⟨r, c, rfl⟩
  · simp at h
  · have hc : c = 58 := by simpa [List.concat_eq_append] using h
    subst hc
    unfold Go.Lib.trimSuffix
    rw [has_colon]
    simp [List.concat_eq_append]

set_option maxRecDepth 100000 in
set_option maxHeartbeats 8000000 in
theorem take_any {w : World} {a : Option Addr} {n c : Nat} {ws : List X.By} (f : ByteArray) (hf : f.size ≤ 200000) (h : StrV w a n c ws) (hn : n ≤ 200000) (ht : Tab w) :
    Calls Tryz.prog 85 #[.string f, .slice a n c] w (TakeOut w (X.take f.data.toList ws)) := by
  have HZ : Hid (Bx (w.alloc (.cells #[.int .i64 0, .string { data := #[] }, .int .i64 0, .int .i64 0, .int .i64 0, .int .i64 0, .slice none 0 0] 44)) w.heap.size [.int .i64 0, .string { data := #[] }, .int .i64 0, .int .i64 0, .int .i64 0, .int .i64 0, .slice none 0 0]) := Bx.new _ _ _
  have hcut := fun w => Tryz.strings_CutSuffix f { data := #[58] } w (by omega)
  have e58 : (({ data := #[58] } : ByteArray).data.toList) = [58] := rfl
  rw [e58] at hcut
  have HV : Hid _ := h
  have HT : Hid _ := ht
  have hcount := h.count
  by_cases hl : f.data.toList.getLast? = some 58
  · rw [has_colon, decide_eq_true hl, trim_colon hl] at hcut
    have hcut' : ∀ w, Calls Tryz.prog 104 #[.string f, .string { data := #[58] }] w fun e w' => e = .returned (.tuple #[.string (X.str f.data.toList.dropLast), .bool true]) ∧ w' = w := hcut
    have HN : Hid (f.data.toList.dropLast.length ≤ 200000) := by show _ ≤ _; rw [List.length_dropLast, len_list]; omega
    by_cases h0 : n = 0
    · have HR : Hid (X.take f.data.toList ws = some ⟨1, f.data.toList.dropLast, 0, 0, 0, 0, []⟩) := by show _ = _; unfold X.take; rw [if_pos hl, if_pos (List.eq_nil_of_length_eq_zero (by omega))]
      have h0' : ((n : Int) == 0) = true := by simp [h0]
      clear hl hcut h ht hcount h0
      generalize f.data.toList.dropLast = nl at *
      go_enter Tryz.func85, Tryz.ntmps85
      go_wp2_with (first | (go_at_call 104; refine (hcut' _).mono ?_; rintro e y0 ⟨rfl, rfl⟩))
      refine bodyPost_ret (v := .tuple #[.agg #[.int .i64 1, .string (X.str nl), .int .i64 0, .int .i64 0, .int .i64 0, .int .i64 0, .slice none 0 0], .bool true]) (by simp [results, Tryz.results85, go_sem]) rfl ?_
      refine ⟨⟨1, nl, 0, 0, 0, 0, []⟩, none, 0, 0, true, rfl, fun _ => HR.out, (fun h => by cases h), HN.out, own_none _ _ _, ?_⟩
      repeat (first | exact bl1 _ _ | refine Below.setCell ?_ (by simp) _)
    · have HR : Hid (X.take f.data.toList ws = none) := by show _ = _; unfold X.take; rw [if_pos hl, if_neg (fun e => h0 (by rw [← hcount, e]; rfl))]
      have h0' : ((n : Int) == 0) = false := by simp [h0]
      clear hl hcut h ht hcount h0
      generalize f.data.toList.dropLast = nl at *
      go_enter Tryz.func85, Tryz.ntmps85
      go_wp2_with (first | (go_at_call 104; refine (hcut' _).mono ?_; rintro e y0 ⟨rfl, rfl⟩))
      refine bodyPost_ret (v := .tuple #[.agg #[.int .i64 1, .string (X.str nl), .int .i64 0, .int .i64 0, .int .i64 0, .int .i64 0, .slice none 0 0], .bool false]) (by simp [results, Tryz.results85, go_sem]) rfl ?_
      refine ⟨⟨1, nl, 0, 0, 0, 0, []⟩, none, 0, 0, false, rfl, (fun h => by cases h), fun _ => HR.out, HN.out, own_none _ _ _, ?_⟩
      repeat (first | exact bl1 _ _ | refine Below.setCell ?_ (by simp) _)
  rw [has_colon, decide_eq_false hl] at hcut
  obtain ⟨q, hq⟩ : ∃ q : ByteArray, (⟨(Go.Lib.trimSuffix f.data.toList [58]).toArray⟩ : ByteArray) = q := ⟨_, rfl⟩
  rw [hq] at hcut
  clear hq
  by_cases hg : f.data.toList = X.wGlobal
  · have HR : Hid (X.take f.data.toList ws = X.takeNamed 4 ws) := by show _ = _; unfold X.take; rw [if_neg hl, if_pos hg]
    have g1 : (f.toList == [46, 103, 108, 111, 98, 97, 108]) = true := by rw [ByteArray.toList_eq]; exact beq_iff_eq.2 hg
    clear hl hg h ht hcount
    go_enter Tryz.func85, Tryz.ntmps85
    go_wp2_with (first | (go_at_call 104; refine (hcut _).mono ?_; rintro e y0 ⟨rfl, rfl⟩))
    refine (takeNamed_any 4 (HV.out.below (bl1 _ _))).mono ?_
    rintro e y ⟨t, aw, lw, cw, ok, rfl, h1, h2, h3, ho, hb⟩
    have HQ := HZ.out.below hb
    have HQ' : Hid _ := HQ
    have c0 := HQ.c 0 _ rfl; have c1 := HQ.c 1 _ rfl; have c2 := HQ.c 2 _ rfl; have c3 := HQ.c 3 _ rfl; have c4 := HQ.c 4 _ rfl; have c5 := HQ.c 5 _ rfl; have c6 := HQ.c 6 _ rfl
    have f0 := HQ.f 0; have f1 := HQ.f 1; have f2 := HQ.f 2; have f3 := HQ.f 3; have f4 := HQ.f 4; have f5 := HQ.f 5; have f6 := HQ.f 6
    have h2' : Below w.heap.size w y := (bl1 _ _).trans (hb.mono (bl1 _ _).size)
    have HB : Hid _ := h2'
    have HO : Hid _ := own_baseB ho (show w.heap.size ≤ (w.alloc (.cells #[.int .i64 0, .string { data := #[] }, .int .i64 0, .int .i64 0, .int .i64 0, .int .i64 0, .slice none 0 0] 44)).heap.size by simp)
    have HH : Hid _ := And.intro h1 (And.intro h2 h3)
    have hlb : w.heap.size < (w.alloc (.cells #[.int .i64 0, .string { data := #[] }, .int .i64 0, .int .i64 0, .int .i64 0, .int .i64 0, .slice none 0 0] 44)).heap.size := by simp
    have HO7 : Hid _ := ho
    clear HQ hb h1 h2 h3 ho h2' hcut
    go_wp2_with fail
    have HOF := put7_own (b := w.heap.size) (u0 := .int .i64 t.kind) (u1 := .string (X.str t.name)) (u2 := .int .i64 t.op) (u3 := .int .i64 t.a) (u4 := .int .i64 t.b) (u5 := .int .i64 t.n) (u6 := .slice aw lw cw) HO7.out hlb
    have HF := Bx.put7 HQ'.out rfl (.int .i64 t.kind) (.string (X.str t.name)) (.int .i64 t.op) (.int .i64 t.a) (.int .i64 t.b) (.int .i64 t.n) (.slice aw lw cw)
    have HE : Below w.heap.size w (((((((y.setCell ⟨w.heap.size, 0, none⟩ (.int .i64 t.kind)).setCell ⟨w.heap.size, 1, none⟩ (.string (X.str t.name))).setCell ⟨w.heap.size, 2, none⟩ (.int .i64 t.op)).setCell ⟨w.heap.size, 3, none⟩ (.int .i64 t.a)).setCell ⟨w.heap.size, 4, none⟩ (.int .i64 t.b)).setCell ⟨w.heap.size, 5, none⟩ (.int .i64 t.n)).setCell ⟨w.heap.size, 6, none⟩ (.slice aw lw cw)) := below_put7 HB.out (Nat.le_refl _)
    generalize (((((((y.setCell ⟨w.heap.size, 0, none⟩ (.int .i64 t.kind)).setCell ⟨w.heap.size, 1, none⟩ (.string (X.str t.name))).setCell ⟨w.heap.size, 2, none⟩ (.int .i64 t.op)).setCell ⟨w.heap.size, 3, none⟩ (.int .i64 t.a)).setCell ⟨w.heap.size, 4, none⟩ (.int .i64 t.b)).setCell ⟨w.heap.size, 5, none⟩ (.int .i64 t.n)).setCell ⟨w.heap.size, 6, none⟩ (.slice aw lw cw)) = Wf at HF HE HOF ⊢
    have k0 := HF.c 0 _ rfl; have k1 := HF.c 1 _ rfl; have k2 := HF.c 2 _ rfl; have k3 := HF.c 3 _ rfl; have k4 := HF.c 4 _ rfl; have k5 := HF.c 5 _ rfl; have k6 := HF.c 6 _ rfl
    refine bodyPost_ret (v := .tuple #[.agg #[.int .i64 t.kind, .string (X.str t.name), .int .i64 t.op, .int .i64 t.a, .int .i64 t.b, .int .i64 t.n, .slice aw lw cw], .bool ok]) (by simp [results, Tryz.results85, go_sem, k0, k1, k2, k3, k4, k5, k6]) rfl ?_
    exact ⟨t, aw, lw, cw, ok, rfl, (fun h => by rw [HR.out]; exact HH.out.1 h), (fun h => by rw [HR.out]; exact HH.out.2.1 h), HH.out.2.2, own_baseB HOF (Nat.le_of_lt hlb), HE⟩
  have hg' : (f.toList == [46, 103, 108, 111, 98, 97, 108]) = false := by rw [ByteArray.toList_eq]; exact beq_eq_false_iff_ne.2 hg
  by_cases hth : f.data.toList = X.wThread
  · have HR : Hid (X.take f.data.toList ws = X.takeNamed 5 ws) := by show _ = _; unfold X.take; rw [if_neg hl, if_neg hg, if_pos hth]
    have g1 : (f.toList == [46, 116, 104, 114, 101, 97, 100]) = true := by rw [ByteArray.toList_eq]; exact beq_iff_eq.2 hth
    clear hl hg hth h ht hcount
    go_enter Tryz.func85, Tryz.ntmps85
    go_wp2_with (first | (go_at_call 104; refine (hcut _).mono ?_; rintro e y0 ⟨rfl, rfl⟩))
    refine (takeNamed_any 5 (HV.out.below (bl1 _ _))).mono ?_
    rintro e y ⟨t, aw, lw, cw, ok, rfl, h1, h2, h3, ho, hb⟩
    have HQ := HZ.out.below hb
    have HQ' : Hid _ := HQ
    have c0 := HQ.c 0 _ rfl; have c1 := HQ.c 1 _ rfl; have c2 := HQ.c 2 _ rfl; have c3 := HQ.c 3 _ rfl; have c4 := HQ.c 4 _ rfl; have c5 := HQ.c 5 _ rfl; have c6 := HQ.c 6 _ rfl
    have f0 := HQ.f 0; have f1 := HQ.f 1; have f2 := HQ.f 2; have f3 := HQ.f 3; have f4 := HQ.f 4; have f5 := HQ.f 5; have f6 := HQ.f 6
    have h2' : Below w.heap.size w y := (bl1 _ _).trans (hb.mono (bl1 _ _).size)
    have HB : Hid _ := h2'
    have HO : Hid _ := own_baseB ho (show w.heap.size ≤ (w.alloc (.cells #[.int .i64 0, .string { data := #[] }, .int .i64 0, .int .i64 0, .int .i64 0, .int .i64 0, .slice none 0 0] 44)).heap.size by simp)
    have HH : Hid _ := And.intro h1 (And.intro h2 h3)
    have hlb : w.heap.size < (w.alloc (.cells #[.int .i64 0, .string { data := #[] }, .int .i64 0, .int .i64 0, .int .i64 0, .int .i64 0, .slice none 0 0] 44)).heap.size := by simp
    have HO7 : Hid _ := ho
    clear HQ hb h1 h2 h3 ho h2' hcut
    go_wp2_with fail
    have HOF := put7_own (b := w.heap.size) (u0 := .int .i64 t.kind) (u1 := .string (X.str t.name)) (u2 := .int .i64 t.op) (u3 := .int .i64 t.a) (u4 := .int .i64 t.b) (u5 := .int .i64 t.n) (u6 := .slice aw lw cw) HO7.out hlb
    have HF := Bx.put7 HQ'.out rfl (.int .i64 t.kind) (.string (X.str t.name)) (.int .i64 t.op) (.int .i64 t.a) (.int .i64 t.b) (.int .i64 t.n) (.slice aw lw cw)
    have HE : Below w.heap.size w (((((((y.setCell ⟨w.heap.size, 0, none⟩ (.int .i64 t.kind)).setCell ⟨w.heap.size, 1, none⟩ (.string (X.str t.name))).setCell ⟨w.heap.size, 2, none⟩ (.int .i64 t.op)).setCell ⟨w.heap.size, 3, none⟩ (.int .i64 t.a)).setCell ⟨w.heap.size, 4, none⟩ (.int .i64 t.b)).setCell ⟨w.heap.size, 5, none⟩ (.int .i64 t.n)).setCell ⟨w.heap.size, 6, none⟩ (.slice aw lw cw)) := below_put7 HB.out (Nat.le_refl _)
    generalize (((((((y.setCell ⟨w.heap.size, 0, none⟩ (.int .i64 t.kind)).setCell ⟨w.heap.size, 1, none⟩ (.string (X.str t.name))).setCell ⟨w.heap.size, 2, none⟩ (.int .i64 t.op)).setCell ⟨w.heap.size, 3, none⟩ (.int .i64 t.a)).setCell ⟨w.heap.size, 4, none⟩ (.int .i64 t.b)).setCell ⟨w.heap.size, 5, none⟩ (.int .i64 t.n)).setCell ⟨w.heap.size, 6, none⟩ (.slice aw lw cw)) = Wf at HF HE HOF ⊢
    have k0 := HF.c 0 _ rfl; have k1 := HF.c 1 _ rfl; have k2 := HF.c 2 _ rfl; have k3 := HF.c 3 _ rfl; have k4 := HF.c 4 _ rfl; have k5 := HF.c 5 _ rfl; have k6 := HF.c 6 _ rfl
    refine bodyPost_ret (v := .tuple #[.agg #[.int .i64 t.kind, .string (X.str t.name), .int .i64 t.op, .int .i64 t.a, .int .i64 t.b, .int .i64 t.n, .slice aw lw cw], .bool ok]) (by simp [results, Tryz.results85, go_sem, k0, k1, k2, k3, k4, k5, k6]) rfl ?_
    exact ⟨t, aw, lw, cw, ok, rfl, (fun h => by rw [HR.out]; exact HH.out.1 h), (fun h => by rw [HR.out]; exact HH.out.2.1 h), HH.out.2.2, own_baseB HOF (Nat.le_of_lt hlb), HE⟩
  have ht' : (f.toList == [46, 116, 104, 114, 101, 97, 100]) = false := by rw [ByteArray.toList_eq]; exact beq_eq_false_iff_ne.2 hth
  by_cases hw : f.data.toList = X.wWords
  · have HR : Hid (X.take f.data.toList ws = X.takeWords ws) := by show _ = _; unfold X.take; rw [if_neg hl, if_neg hg, if_neg hth, if_pos hw]
    have g1 : (f.toList == [46, 119, 111, 114, 100, 115]) = true := by rw [ByteArray.toList_eq]; exact beq_iff_eq.2 hw
    clear hl hg hth hw h ht hcount
    go_enter Tryz.func85, Tryz.ntmps85
    go_wp2_with (first | (go_at_call 104; refine (hcut _).mono ?_; rintro e y0 ⟨rfl, rfl⟩))
    refine (takeWords_any (HV.out.below (bl1 _ _)) hn (HT.out.alloc _)).mono ?_
    rintro e y ⟨t, aw, lw, cw, ok, rfl, h1, h2, h3, ho, hb⟩
    have HQ := HZ.out.below hb
    have HQ' : Hid _ := HQ
    have c0 := HQ.c 0 _ rfl; have c1 := HQ.c 1 _ rfl; have c2 := HQ.c 2 _ rfl; have c3 := HQ.c 3 _ rfl; have c4 := HQ.c 4 _ rfl; have c5 := HQ.c 5 _ rfl; have c6 := HQ.c 6 _ rfl
    have f0 := HQ.f 0; have f1 := HQ.f 1; have f2 := HQ.f 2; have f3 := HQ.f 3; have f4 := HQ.f 4; have f5 := HQ.f 5; have f6 := HQ.f 6
    have h2' : Below w.heap.size w y := (bl1 _ _).trans (hb.mono (bl1 _ _).size)
    have HB : Hid _ := h2'
    have HO : Hid _ := own_baseB ho (show w.heap.size ≤ (w.alloc (.cells #[.int .i64 0, .string { data := #[] }, .int .i64 0, .int .i64 0, .int .i64 0, .int .i64 0, .slice none 0 0] 44)).heap.size by simp)
    have HH : Hid _ := And.intro h1 (And.intro h2 h3)
    have hlb : w.heap.size < (w.alloc (.cells #[.int .i64 0, .string { data := #[] }, .int .i64 0, .int .i64 0, .int .i64 0, .int .i64 0, .slice none 0 0] 44)).heap.size := by simp
    have HO7 : Hid _ := ho
    clear HQ hb h1 h2 h3 ho h2' hcut
    go_wp2_with fail
    have HOF := put7_own (b := w.heap.size) (u0 := .int .i64 t.kind) (u1 := .string (X.str t.name)) (u2 := .int .i64 t.op) (u3 := .int .i64 t.a) (u4 := .int .i64 t.b) (u5 := .int .i64 t.n) (u6 := .slice aw lw cw) HO7.out hlb
    have HF := Bx.put7 HQ'.out rfl (.int .i64 t.kind) (.string (X.str t.name)) (.int .i64 t.op) (.int .i64 t.a) (.int .i64 t.b) (.int .i64 t.n) (.slice aw lw cw)
    have HE : Below w.heap.size w (((((((y.setCell ⟨w.heap.size, 0, none⟩ (.int .i64 t.kind)).setCell ⟨w.heap.size, 1, none⟩ (.string (X.str t.name))).setCell ⟨w.heap.size, 2, none⟩ (.int .i64 t.op)).setCell ⟨w.heap.size, 3, none⟩ (.int .i64 t.a)).setCell ⟨w.heap.size, 4, none⟩ (.int .i64 t.b)).setCell ⟨w.heap.size, 5, none⟩ (.int .i64 t.n)).setCell ⟨w.heap.size, 6, none⟩ (.slice aw lw cw)) := below_put7 HB.out (Nat.le_refl _)
    generalize (((((((y.setCell ⟨w.heap.size, 0, none⟩ (.int .i64 t.kind)).setCell ⟨w.heap.size, 1, none⟩ (.string (X.str t.name))).setCell ⟨w.heap.size, 2, none⟩ (.int .i64 t.op)).setCell ⟨w.heap.size, 3, none⟩ (.int .i64 t.a)).setCell ⟨w.heap.size, 4, none⟩ (.int .i64 t.b)).setCell ⟨w.heap.size, 5, none⟩ (.int .i64 t.n)).setCell ⟨w.heap.size, 6, none⟩ (.slice aw lw cw)) = Wf at HF HE HOF ⊢
    have k0 := HF.c 0 _ rfl; have k1 := HF.c 1 _ rfl; have k2 := HF.c 2 _ rfl; have k3 := HF.c 3 _ rfl; have k4 := HF.c 4 _ rfl; have k5 := HF.c 5 _ rfl; have k6 := HF.c 6 _ rfl
    refine bodyPost_ret (v := .tuple #[.agg #[.int .i64 t.kind, .string (X.str t.name), .int .i64 t.op, .int .i64 t.a, .int .i64 t.b, .int .i64 t.n, .slice aw lw cw], .bool ok]) (by simp [results, Tryz.results85, go_sem, k0, k1, k2, k3, k4, k5, k6]) rfl ?_
    exact ⟨t, aw, lw, cw, ok, rfl, (fun h => by rw [HR.out]; exact HH.out.1 h), (fun h => by rw [HR.out]; exact HH.out.2.1 h), HH.out.2.2, own_baseB HOF (Nat.le_of_lt hlb), HE⟩
  have hw' : (f.toList == [46, 119, 111, 114, 100, 115]) = false := by rw [ByteArray.toList_eq]; exact beq_eq_false_iff_ne.2 hw
  have HR : Hid (X.take f.data.toList ws = X.takeIns f.data.toList ws) := by show _ = _; unfold X.take; rw [if_neg hl, if_neg hg, if_neg hth, if_neg hw]
  clear hl hg hth hw h ht hcount
  go_enter Tryz.func85, Tryz.ntmps85
  go_wp2_with (first | (go_at_call 104; refine (hcut _).mono ?_; rintro e y0 ⟨rfl, rfl⟩))
  refine (takeIns_any f (HV.out.below (bl1 _ _)) (HT.out.alloc _)).mono ?_
  rintro e y ⟨t, aw, lw, cw, ok, rfl, h1, h2, h3, ho, hb⟩
  have HQ := HZ.out.below hb
  have HQ' : Hid _ := HQ
  have c0 := HQ.c 0 _ rfl; have c1 := HQ.c 1 _ rfl; have c2 := HQ.c 2 _ rfl; have c3 := HQ.c 3 _ rfl; have c4 := HQ.c 4 _ rfl; have c5 := HQ.c 5 _ rfl; have c6 := HQ.c 6 _ rfl
  have f0 := HQ.f 0; have f1 := HQ.f 1; have f2 := HQ.f 2; have f3 := HQ.f 3; have f4 := HQ.f 4; have f5 := HQ.f 5; have f6 := HQ.f 6
  have h2' : Below w.heap.size w y := (bl1 _ _).trans (hb.mono (bl1 _ _).size)
  have HB : Hid _ := h2'
  have HO : Hid _ := own_baseB ho (show w.heap.size ≤ (w.alloc (.cells #[.int .i64 0, .string { data := #[] }, .int .i64 0, .int .i64 0, .int .i64 0, .int .i64 0, .slice none 0 0] 44)).heap.size by simp)
  have HH : Hid _ := And.intro h1 (And.intro h2 h3)
  have hlb : w.heap.size < (w.alloc (.cells #[.int .i64 0, .string { data := #[] }, .int .i64 0, .int .i64 0, .int .i64 0, .int .i64 0, .slice none 0 0] 44)).heap.size := by simp
  have HO7 : Hid _ := ho
  clear HQ hb h1 h2 h3 ho h2' hcut
  go_wp2_with fail
  have HOF := put7_own (b := w.heap.size) (u0 := .int .i64 t.kind) (u1 := .string (X.str t.name)) (u2 := .int .i64 t.op) (u3 := .int .i64 t.a) (u4 := .int .i64 t.b) (u5 := .int .i64 t.n) (u6 := .slice aw lw cw) HO7.out hlb
  have HF := Bx.put7 HQ'.out rfl (.int .i64 t.kind) (.string (X.str t.name)) (.int .i64 t.op) (.int .i64 t.a) (.int .i64 t.b) (.int .i64 t.n) (.slice aw lw cw)
  have HE : Below w.heap.size w (((((((y.setCell ⟨w.heap.size, 0, none⟩ (.int .i64 t.kind)).setCell ⟨w.heap.size, 1, none⟩ (.string (X.str t.name))).setCell ⟨w.heap.size, 2, none⟩ (.int .i64 t.op)).setCell ⟨w.heap.size, 3, none⟩ (.int .i64 t.a)).setCell ⟨w.heap.size, 4, none⟩ (.int .i64 t.b)).setCell ⟨w.heap.size, 5, none⟩ (.int .i64 t.n)).setCell ⟨w.heap.size, 6, none⟩ (.slice aw lw cw)) := below_put7 HB.out (Nat.le_refl _)
  generalize (((((((y.setCell ⟨w.heap.size, 0, none⟩ (.int .i64 t.kind)).setCell ⟨w.heap.size, 1, none⟩ (.string (X.str t.name))).setCell ⟨w.heap.size, 2, none⟩ (.int .i64 t.op)).setCell ⟨w.heap.size, 3, none⟩ (.int .i64 t.a)).setCell ⟨w.heap.size, 4, none⟩ (.int .i64 t.b)).setCell ⟨w.heap.size, 5, none⟩ (.int .i64 t.n)).setCell ⟨w.heap.size, 6, none⟩ (.slice aw lw cw)) = Wf at HF HE HOF ⊢
  have k0 := HF.c 0 _ rfl; have k1 := HF.c 1 _ rfl; have k2 := HF.c 2 _ rfl; have k3 := HF.c 3 _ rfl; have k4 := HF.c 4 _ rfl; have k5 := HF.c 5 _ rfl; have k6 := HF.c 6 _ rfl
  refine bodyPost_ret (v := .tuple #[.agg #[.int .i64 t.kind, .string (X.str t.name), .int .i64 t.op, .int .i64 t.a, .int .i64 t.b, .int .i64 t.n, .slice aw lw cw], .bool ok]) (by simp [results, Tryz.results85, go_sem, k0, k1, k2, k3, k4, k5, k6]) rfl ?_
  exact ⟨t, aw, lw, cw, ok, rfl, (fun h => by rw [HR.out]; exact HH.out.1 h), (fun h => by rw [HR.out]; exact HH.out.2.1 h), HH.out.2.2, own_baseB HOF (Nat.le_of_lt hlb), HE⟩

end Go.Proofs.YtgjingleolhkbaaGreatDoor

/- The item of a line's words. -/
namespace Go.Proofs.YtgjingleolhkbaaGreatDoor
open Go.RowKit
set_option linter.unusedVariables false
set_option linter.unusedSimpArgs false

theorem Bx.far7 {x : World} {b d : Nat} {vs : List Value} {u0 u1 u2 u3 u4 u5 u6 : Value} (h : Bx x b vs) (hne : b ≠ d) : Bx (((((((x.setCell ⟨d, 0, none⟩ (u0)).setCell ⟨d, 1, none⟩ (u1)).setCell ⟨d, 2, none⟩ (u2)).setCell ⟨d, 3, none⟩ (u3)).setCell ⟨d, 4, none⟩ (u4)).setCell ⟨d, 5, none⟩ (u5)).setCell ⟨d, 6, none⟩ (u6)) b vs := by
  have st : ∀ {y : World} {o : Nat} {u : Value}, Bx y b vs → Bx (y.setCell ⟨d, o, none⟩ u) b vs := fun h => h.gb (gb_set _ _ _) hne
  exact st (st (st (st (st (st (st h))))))
theorem put7_S {x : World} {b d : Nat} {u0 u1 u2 u3 u4 u5 u6 v0 v1 v2 v3 v4 v5 v6 : Value} (h : Bx x b [v0, v1, v2, v3, v4, v5, v6]) (hne : b ≠ d) : let z := (((((((x.setCell ⟨d, 0, none⟩ (u0)).setCell ⟨d, 1, none⟩ (u1)).setCell ⟨d, 2, none⟩ (u2)).setCell ⟨d, 3, none⟩ (u3)).setCell ⟨d, 4, none⟩ (u4)).setCell ⟨d, 5, none⟩ (u5)).setCell ⟨d, 6, none⟩ (u6)); z.cell? ⟨b, 0, none⟩ = some v0 ∧ z.cell? ⟨b, 1, none⟩ = some v1 ∧ z.cell? ⟨b, 2, none⟩ = some v2 ∧ z.cell? ⟨b, 3, none⟩ = some v3 ∧ z.cell? ⟨b, 4, none⟩ = some v4 ∧ z.cell? ⟨b, 5, none⟩ = some v5 ∧ z.cell? ⟨b, 6, none⟩ = some v6 := by
  have st : ∀ {y : World} {o : Nat} {u : Value}, Bx y b [v0, v1, v2, v3, v4, v5, v6] → Bx (y.setCell ⟨d, o, none⟩ u) b [v0, v1, v2, v3, v4, v5, v6] := fun h => h.gb (gb_set _ _ _) hne
  have q : Bx (((((((x.setCell ⟨d, 0, none⟩ (u0)).setCell ⟨d, 1, none⟩ (u1)).setCell ⟨d, 2, none⟩ (u2)).setCell ⟨d, 3, none⟩ (u3)).setCell ⟨d, 4, none⟩ (u4)).setCell ⟨d, 5, none⟩ (u5)).setCell ⟨d, 6, none⟩ (u6)) b [v0, v1, v2, v3, v4, v5, v6] := st (st (st (st (st (st (st h))))))
  exact ⟨q.c 0 _ rfl, q.c 1 _ rfl, q.c 2 _ rfl, q.c 3 _ rfl, q.c 4 _ rfl, q.c 5 _ rfl, q.c 6 _ rfl⟩

set_option maxRecDepth 100000 in
set_option maxHeartbeats 8000000 in
theorem read_any {w : World} {a : Option Addr} {n c : Nat} {ws : List X.By} (h : StrV w a n c ws) (hn : n ≤ 200000) (hne : ws ≠ []) (ht : Tab w) :
    Calls Tryz.prog 63 #[.slice a n c] w (TakeOut w (X.read ws)) := by
  have HT : Hid _ := ht
  have hz7 := ht.hz
  obtain ⟨x, ws, rfl⟩ : ∃ x r, ws = x :: r := by
    cases ws with
    | nil => exact absurd rfl hne
    | cons x r => exact ⟨x, r, rfl⟩
  obtain ⟨n, rfl⟩ : ∃ m, n = m + 1 := ⟨n - 1, by have := h.count; simp at this; omega⟩
  obtain ⟨c, rfl⟩ : ∃ m, c = m + 1 := ⟨c - 1, by have := h.room; omega⟩
  obtain ⟨b, off, f, rfl, d0, hs0, hf⟩ := h.at (i := 0) (by omega)
  have hx : f.data.toList = x := by simpa using hs0
  subst hx
  have hroom := h.room
  obtain ⟨hr1, hr2⟩ := hroom
  unfold maxLen at hr2
  have HV : Hid (StrV w (some ⟨b, off + 1, none⟩) n c ws) := h.tail
  have HCT : Hid (ws.length = n) := h.tail.count
  have d0' : w.cell? ⟨b, off, none⟩ = some (.string f) := by simpa using d0
  have HS : Hid (∀ y, Below (w.alloc (.cells #[.int .i64 0, .string { data := #[] }, .int .i64 0, .int .i64 0, .int .i64 0, .int .i64 0, .slice none 0 0] 44)).heap.size (w.alloc (.cells #[.int .i64 0, .string { data := #[] }, .int .i64 0, .int .i64 0, .int .i64 0, .int .i64 0, .slice none 0 0] 44)) y → y.cell? ⟨b, off, none⟩ = some (.string f)) := fun y hy => cell_thru hy (cell_thru (bl1 _ _) d0')
  have HZ : Hid (Bx (w.alloc (.cells #[.int .i64 0, .string { data := #[] }, .int .i64 0, .int .i64 0, .int .i64 0, .int .i64 0, .slice none 0 0] 44)) w.heap.size [.int .i64 0, .string { data := #[] }, .int .i64 0, .int .i64 0, .int .i64 0, .int .i64 0, .slice none 0 0]) := Bx.new _ _ _
  have hn : n ≤ 200000 := by omega
  have i1 : (0 : Int) < ((n + 1 : Nat) : Int) := by omega
  have i2 : (1 : Int) ≤ ((n + 1 : Nat) : Int) := by omega
  have i3 : ((n + 1 : Nat) : Int) ≤ ((c + 1 : Nat) : Int) := by omega
  have i4 : (1 : Int) ≤ (n : Int) + 1 := by omega
  have i5 : (0 : Int) < (n : Int) + 1 := by omega
  have i6 : (n : Int) + 1 ≤ (c : Int) + 1 := by omega
  clear h ht hs0 d0 d0' hne
  by_cases hc0 : c = 0
  · subst hc0
    obtain rfl : n = 0 := by omega
    clear i1 i2 i3 i4 i5 i6 hr1 hr2
    have HV : Hid (StrV w (some ⟨b, off, none⟩) 0 0 ws) := ⟨HCT.out, ⟨Nat.le_refl _, Nat.zero_le _⟩, HV.out.small, .inl rfl⟩
    go_enter Tryz.func63, Tryz.ntmps63
    go_wp2_with fail
    refine wp_region_held_drew (S := (fun y : World => y.cell? ⟨b, off, none⟩ = some (.string f))) (by kernel_rfl) (HS.out _ (Below.refl _ _).drew) (fun hHeld => ?_)
    refine tk (i := 0) (v := ?_) (tA rfl) (by kernel_rfl) (fun _ _ _ h => h) (Or.inl ⟨by rfl, ?_⟩) (by assumption) ?_
    rotate_left
    · (intro w hSw; (try dsimp only at hSw); go_simp <;> with_reducible rfl)
    simp only [Act.put, List.setIfInBounds_toArray, List.set_cons_zero, List.set_cons_succ]
    refine tk (i := 1) (v := ?_) (tA rfl) (by kernel_rfl) (fun _ _ _ h => h) (Or.inl ⟨by rfl, ?_⟩) (by assumption) ?_
    rotate_left
    · (intro w hSw; (try dsimp only at hSw); go_simp <;> with_reducible rfl)
    simp only [Act.put, List.setIfInBounds_toArray, List.set_cons_zero, List.set_cons_succ]
    refine tk (i := 2) (v := ?_) (tA rfl) (by kernel_rfl) (fun _ _ _ h => h) (Or.inl ⟨by rfl, ?_⟩) (by assumption) ?_
    rotate_left
    · (intro w hSw; (try dsimp only at hSw); go_simp <;> with_reducible rfl)
    simp only [Act.put, List.setIfInBounds_toArray, List.set_cons_zero, List.set_cons_succ]
    refine tk (i := 3) (v := ?_) (tA rfl) (by kernel_rfl) (fun _ _ _ h => h) (Or.inl ⟨by rfl, ?_⟩) (by assumption) ?_
    rotate_left
    · (intro w hSw; (try dsimp only at hSw); go_simp <;> with_reducible rfl)
    simp only [Act.put, List.setIfInBounds_toArray, List.set_cons_zero, List.set_cons_succ]
    refine tk (i := 4) (v := ?_) (tA rfl) (by kernel_rfl) (fun _ _ _ h => h) (Or.inl ⟨by rfl, ?_⟩) (by assumption) ?_
    rotate_left
    · (intro w hSw; (try dsimp only at hSw); go_simp <;> with_reducible rfl)
    simp only [Act.put, List.setIfInBounds_toArray, List.set_cons_zero, List.set_cons_succ]
    refine wpAnyH_ready (rs := [5, 9]) (by kernel_rfl) (by simp) ?_
    refine AllReadyH.cons (tA rfl) (fun K hK => ?_) (AllReadyH.cons (tA rfl) (fun K hK => ?_) AllReadyH.nil)
    · go_simp
      refine (take_any f hf (HV.out.below ((bl1 _ _).trans (Below.refl _ _).drew)) (by omega) ((HT.out.alloc _).below (Below.refl _ _).drew)).mono ?_
      rintro e y ⟨t, aw, lw, cw, ok, rfl, h1, h2, h3, ho, hb⟩
      have HH : Hid ((ok = true → X.take f.data.toList ws = some t) ∧ (ok = false → X.take f.data.toList ws = none) ∧ t.name.length ≤ 200000) := ⟨h1, h2, h3⟩
      have HB : Hid (Below (w.alloc (.cells #[.int .i64 0, .string { data := #[] }, .int .i64 0, .int .i64 0, .int .i64 0, .int .i64 0, .slice none 0 0] 44)).heap.size (w.alloc (.cells #[.int .i64 0, .string { data := #[] }, .int .i64 0, .int .i64 0, .int .i64 0, .int .i64 0, .slice none 0 0] 44)) y) := (Below.refl _ _).drew.trans hb
      have HO : Hid (y.ownsRow (w.alloc (.cells #[.int .i64 0, .string { data := #[] }, .int .i64 0, .int .i64 0, .int .i64 0, .int .i64 0, .slice none 0 0] 44)).heap.size 2 1 (.slice aw lw cw) lw (iC t.words)) := ho
      clear h1 h2 h3 ho hb
      refine hK.out _ _ (HS.out _ HB.out) (fun hHeld => ?_)
      clear hK K
      try simp only [Act.put, List.setIfInBounds_toArray, List.set_cons_zero, List.set_cons_succ]
      refine tk (i := 6) (v := ?_) (tA rfl) (by kernel_rfl) (fun _ _ _ h => h) (Or.inl ⟨by rfl, ?_⟩) (by assumption) ?_
      rotate_left
      · (intro w hSw; (try dsimp only at hSw); go_simp <;> with_reducible rfl)
      simp only [Act.put, List.setIfInBounds_toArray, List.set_cons_zero, List.set_cons_succ]
      refine tk (i := 7) (v := ?_) (tA rfl) (by kernel_rfl) (fun _ _ _ h => h) (Or.inl ⟨by rfl, ?_⟩) (by assumption) ?_
      rotate_left
      · (intro w hSw; (try dsimp only at hSw); go_simp <;> with_reducible rfl)
      simp only [Act.put, List.setIfInBounds_toArray, List.set_cons_zero, List.set_cons_succ]
      refine tk (i := 8) (v := ?_) (tA rfl) (by kernel_rfl) (fun _ _ _ h => h) (Or.inl ⟨by rfl, ?_⟩) (by assumption) ?_
      rotate_left
      · (intro w hSw; (try dsimp only at hSw); go_simp <;> with_reducible rfl)
      simp only [Act.put, List.setIfInBounds_toArray, List.set_cons_zero, List.set_cons_succ]
      refine wpAnyH_ready (rs := [9]) (by kernel_rfl) (by simp) ?_
      refine AllReadyH.cons (tA rfl) (fun K hK => ?_) AllReadyH.nil
      go_simp
      refine hK.out _ _ (HS.out _ (HB.out.alloc HB.out.size _)) (fun hHeld => ?_)
      clear hK K
      try simp only [Act.put, List.setIfInBounds_toArray, List.set_cons_zero, List.set_cons_succ]
      refine wpAnyH_ready (rs := [10]) (by kernel_rfl) (by simp) ?_
      refine AllReadyH.cons (tA rfl) (fun K hK => ?_) AllReadyH.nil
      go_simp
      refine hK.out _ _ (HS.out _ (HB.out.alloc HB.out.size _)) (fun hHeld => ?_)
      clear hK K
      try simp only [Act.put, List.setIfInBounds_toArray, List.set_cons_zero, List.set_cons_succ]
      refine tk (i := 11) (v := ?_) (tA rfl) (by kernel_rfl) (fun _ _ _ h => h) (Or.inl ⟨by rfl, ?_⟩) (by assumption) ?_
      rotate_left
      · (intro w hSw; (try dsimp only at hSw); go_simp <;> with_reducible rfl)
      simp only [Act.put, List.setIfInBounds_toArray, List.set_cons_zero, List.set_cons_succ]
      refine wpAnyH_done (by kernel_rfl) ?_ _
      clear hHeld
      go_wp2_with fail
      have HBX : Hid (Bx (y.alloc (.cells #[.int .i64 t.kind, .string (X.str t.name), .int .i64 t.op, .int .i64 t.a, .int .i64 t.b, .int .i64 t.n, .slice aw lw cw] 44)) y.heap.size [.int .i64 t.kind, .string (X.str t.name), .int .i64 t.op, .int .i64 t.a, .int .i64 t.b, .int .i64 t.n, .slice aw lw cw]) := Bx.new _ _ _
      have HRS : Hid (Bx (y.alloc (.cells #[.int .i64 t.kind, .string (X.str t.name), .int .i64 t.op, .int .i64 t.a, .int .i64 t.b, .int .i64 t.n, .slice aw lw cw] 44)) w.heap.size [.int .i64 0, .string { data := #[] }, .int .i64 0, .int .i64 0, .int .i64 0, .int .i64 0, .slice none 0 0]) := (HZ.out.below HB.out).below (bl1 _ _)
      have HW : Hid (Below w.heap.size w (y.alloc (.cells #[.int .i64 t.kind, .string (X.str t.name), .int .i64 t.op, .int .i64 t.a, .int .i64 t.b, .int .i64 t.n, .slice aw lw cw] 44))) := (bl1 _ _).trans ((HB.out.alloc HB.out.size _).mono (bl1 _ _).size)
      have HTY : Hid (Tab (y.alloc (.cells #[.int .i64 t.kind, .string (X.str t.name), .int .i64 t.op, .int .i64 t.a, .int .i64 t.b, .int .i64 t.n, .slice aw lw cw] 44))) := HT.out.below HW.out
      have HOY : Hid (World.ownsRow (y.alloc (.cells #[.int .i64 t.kind, .string (X.str t.name), .int .i64 t.op, .int .i64 t.a, .int .i64 t.b, .int .i64 t.n, .slice aw lw cw] 44)) (w.alloc (.cells #[.int .i64 0, .string { data := #[] }, .int .i64 0, .int .i64 0, .int .i64 0, .int .i64 0, .slice none 0 0] 44)).heap.size 2 1 (.slice aw lw cw) lw (iC t.words)) := own_thru HO.out (bl1 _ _)
      have hlw : t.words.length = lw := by have := HOY.out.1; unfold iC at this; simpa using this
      have hmb := fun w h => mayBe_any t.kind (X.str t.name) t.op t.a t.b t.n aw lw cw t.words hlw (by rw [str_size]; have := HH.out.2.2; unfold maxLen; omega) w h
      simp only [str_list] at hmb
      rw [show (⟨t.kind, t.name, t.op, t.a, t.b, t.n, t.words⟩ : X.It) = t from rfl] at hmb
      have hly : y.heap.size ≠ w.heap.size := by have := HB.out.size; simp at this; omega
      generalize hY : (y.alloc (.cells #[.int .i64 t.kind, .string (X.str t.name), .int .i64 t.op, .int .i64 t.a, .int .i64 t.b, .int .i64 t.n, .slice aw lw cw] 44)) = Y at HBX HRS HW HTY HOY ⊢
      clear hY HB HO
      generalize y.heap.size = pb at *
      have HS2 : Hid (∀ z, Below Y.heap.size Y z → (fun z : World => z.cell? ⟨pb, 0, none⟩ = some (.int .i64 t.kind) ∧ z.cell? ⟨pb, 1, none⟩ = some (.string (X.str t.name)) ∧ z.cell? ⟨pb, 2, none⟩ = some (.int .i64 t.op) ∧ z.cell? ⟨pb, 3, none⟩ = some (.int .i64 t.a) ∧ z.cell? ⟨pb, 4, none⟩ = some (.int .i64 t.b) ∧ z.cell? ⟨pb, 5, none⟩ = some (.int .i64 t.n) ∧ z.cell? ⟨pb, 6, none⟩ = some (.slice aw lw cw)) z) := fun z hz => by
        have q := HBX.out.below hz
        exact ⟨q.c 0 _ rfl, q.c 1 _ rfl, q.c 2 _ rfl, q.c 3 _ rfl, q.c 4 _ rfl, q.c 5 _ rfl, q.c 6 _ rfl⟩
      cases ok with
      | false =>
        have HN : Hid (X.read (f.data.toList :: ws) = none) := by show _ = _; simp [X.read, HH.out.2.1 rfl]
        refine wp_region_held_drew (S := (fun z : World => z.cell? ⟨pb, 0, none⟩ = some (.int .i64 t.kind) ∧ z.cell? ⟨pb, 1, none⟩ = some (.string (X.str t.name)) ∧ z.cell? ⟨pb, 2, none⟩ = some (.int .i64 t.op) ∧ z.cell? ⟨pb, 3, none⟩ = some (.int .i64 t.a) ∧ z.cell? ⟨pb, 4, none⟩ = some (.int .i64 t.b) ∧ z.cell? ⟨pb, 5, none⟩ = some (.int .i64 t.n) ∧ z.cell? ⟨pb, 6, none⟩ = some (.slice aw lw cw))) (by kernel_rfl) (HS2.out _ (Below.refl _ _).drew) (fun hHeld => ?_)
        refine tk (i := 0) (v := ?_) (tA rfl) (by kernel_rfl) (fun _ _ _ h => h) (Or.inl ⟨by rfl, ?_⟩) (by assumption) ?_
        rotate_left
        · (intro w hSw; (try dsimp only at hSw); go_simp <;> with_reducible rfl)
        simp only [Act.put, List.setIfInBounds_toArray, List.set_cons_zero, List.set_cons_succ]
        refine tk (i := 1) (v := ?_) (tA rfl) (by kernel_rfl) (fun _ _ _ h => h) (Or.inl ⟨by rfl, ?_⟩) (by assumption) ?_
        rotate_left
        · (intro w hSw; (try dsimp only at hSw); go_simp <;> with_reducible rfl)
        simp only [Act.put, List.setIfInBounds_toArray, List.set_cons_zero, List.set_cons_succ]
        refine tk (i := 2) (v := ?_) (tA rfl) (by kernel_rfl) (fun _ _ _ h => h) (Or.inl ⟨by rfl, ?_⟩) (by assumption) ?_
        rotate_left
        · (intro w hSw; (try dsimp only at hSw); go_simp <;> with_reducible rfl)
        simp only [Act.put, List.setIfInBounds_toArray, List.set_cons_zero, List.set_cons_succ]
        refine tk (i := 3) (v := undef) (tA rfl) (by kernel_rfl) (fun _ _ _ h => h) (Or.inr ⟨by rfl, rfl⟩) (by assumption) ?_
        simp only [Act.put, List.setIfInBounds_toArray, List.set_cons_zero, List.set_cons_succ]
        refine tk (i := 4) (v := undef) (tA rfl) (by kernel_rfl) (fun _ _ _ h => h) (Or.inr ⟨by rfl, rfl⟩) (by assumption) ?_
        simp only [Act.put, List.setIfInBounds_toArray, List.set_cons_zero, List.set_cons_succ]
        refine tk (i := 5) (v := ?_) (tA rfl) (by kernel_rfl) (fun _ _ _ h => h) (Or.inl ⟨by rfl, ?_⟩) (by assumption) ?_
        rotate_left
        · (intro w hSw; (try dsimp only at hSw); go_simp <;> with_reducible rfl)
        simp only [Act.put, List.setIfInBounds_toArray, List.set_cons_zero, List.set_cons_succ]
        obtain ⟨Q, hQ⟩ : ∃ Q, Y.drew = Q := ⟨_, rfl⟩
        have HBQ : Hid (Below Y.heap.size Y Q) := by show Below _ _ _; rw [← hQ]; exact (Below.refl _ _).drew
        rw [hQ]
        clear hQ
        have HQ := HRS.out.below HBQ.out
        have HQ' : Hid _ := HQ
        have c0 := HQ.c 0 _ rfl; have c1 := HQ.c 1 _ rfl; have c2 := HQ.c 2 _ rfl; have c3 := HQ.c 3 _ rfl; have c4 := HQ.c 4 _ rfl; have c5 := HQ.c 5 _ rfl; have c6 := HQ.c 6 _ rfl
        have f0 := HQ.f 0; have f1 := HQ.f 1; have f2 := HQ.f 2; have f3 := HQ.f 3; have f4 := HQ.f 4; have f5 := HQ.f 5; have f6 := HQ.f 6
        have HWQ : Hid (Below w.heap.size w Q) := HW.out.trans (HBQ.out.mono HW.out.size)
        have HOQ : Hid (Q.ownsRow (w.alloc (.cells #[.int .i64 0, .string { data := #[] }, .int .i64 0, .int .i64 0, .int .i64 0, .int .i64 0, .slice none 0 0] 44)).heap.size 2 1 (.slice aw lw cw) lw (iC t.words)) := own_thru HOY.out HBQ.out
        clear HQ hmb
        refine wpAnyH_ready (rs := [6]) (by kernel_rfl) (by simp) ?_
        refine AllReadyH.cons (tA rfl) (fun K hK => ?_) AllReadyH.nil
        clear hHeld
        go_simp
        have HPS := (HBX.out.below HBQ.out)
        refine hK.out _ _ ?_ (fun hHeld => ?_)
        · exact put7_S HPS hly
        clear hK K
        try simp only [Act.put, List.setIfInBounds_toArray, List.set_cons_zero, List.set_cons_succ]
        refine tk (i := 7) (v := ?_) (tA rfl) (by kernel_rfl) (fun _ _ _ h => h) (Or.inl ⟨by rfl, ?_⟩) (by assumption) ?_
        rotate_left
        · (intro w hSw; (try dsimp only at hSw); go_simp <;> with_reducible rfl)
        simp only [Act.put, List.setIfInBounds_toArray, List.set_cons_zero, List.set_cons_succ]
        refine wpAnyH_done (by kernel_rfl) ?_ _
        clear hHeld c0 c1 c2 c3 c4 c5 c6 f0 f1 f2 f3 f4 f5 f6
        have HOF := put7_own (b := w.heap.size) (u0 := .int .i64 t.kind) (u1 := .string (X.str t.name)) (u2 := .int .i64 t.op) (u3 := .int .i64 t.a) (u4 := .int .i64 t.b) (u5 := .int .i64 t.n) (u6 := .slice aw lw cw) HOQ.out (show w.heap.size < (w.alloc (.cells #[.int .i64 0, .string { data := #[] }, .int .i64 0, .int .i64 0, .int .i64 0, .int .i64 0, .slice none 0 0] 44)).heap.size by simp)
        have HF := Bx.put7 HQ'.out rfl (.int .i64 t.kind) (.string (X.str t.name)) (.int .i64 t.op) (.int .i64 t.a) (.int .i64 t.b) (.int .i64 t.n) (.slice aw lw cw)
        have HE : Below w.heap.size w (((((((Q.setCell ⟨w.heap.size, 0, none⟩ (.int .i64 t.kind)).setCell ⟨w.heap.size, 1, none⟩ (.string (X.str t.name))).setCell ⟨w.heap.size, 2, none⟩ (.int .i64 t.op)).setCell ⟨w.heap.size, 3, none⟩ (.int .i64 t.a)).setCell ⟨w.heap.size, 4, none⟩ (.int .i64 t.b)).setCell ⟨w.heap.size, 5, none⟩ (.int .i64 t.n)).setCell ⟨w.heap.size, 6, none⟩ (.slice aw lw cw)) := below_put7 HWQ.out (Nat.le_refl _)
        generalize (((((((Q.setCell ⟨w.heap.size, 0, none⟩ (.int .i64 t.kind)).setCell ⟨w.heap.size, 1, none⟩ (.string (X.str t.name))).setCell ⟨w.heap.size, 2, none⟩ (.int .i64 t.op)).setCell ⟨w.heap.size, 3, none⟩ (.int .i64 t.a)).setCell ⟨w.heap.size, 4, none⟩ (.int .i64 t.b)).setCell ⟨w.heap.size, 5, none⟩ (.int .i64 t.n)).setCell ⟨w.heap.size, 6, none⟩ (.slice aw lw cw)) = Wf at HF HE HOF ⊢
        have k0 := HF.c 0 _ rfl; have k1 := HF.c 1 _ rfl; have k2 := HF.c 2 _ rfl; have k3 := HF.c 3 _ rfl; have k4 := HF.c 4 _ rfl; have k5 := HF.c 5 _ rfl; have k6 := HF.c 6 _ rfl
        clear HPS
        go_wp2_with fail
        refine bodyPost_ret (v := .tuple #[.agg #[.int .i64 t.kind, .string (X.str t.name), .int .i64 t.op, .int .i64 t.a, .int .i64 t.b, .int .i64 t.n, .slice aw lw cw], .bool false]) (by simp [results, Tryz.results63, go_sem, k0, k1, k2, k3, k4, k5, k6]) rfl ?_
        exact ⟨t, aw, lw, cw, false, rfl, (fun h => by cases h), fun _ => HN.out, HH.out.2.2, own_baseB HOF (by simp), HE⟩
      | true =>
        cases hmk : X.itOk t
        · rw [hmk] at hmb
          have HN : Hid (X.read (f.data.toList :: ws) = none) := by show _ = _; simp [X.read, HH.out.1 rfl, hmk]
          refine wp_region_held_drew (S := (fun z : World => z.cell? ⟨pb, 0, none⟩ = some (.int .i64 t.kind) ∧ z.cell? ⟨pb, 1, none⟩ = some (.string (X.str t.name)) ∧ z.cell? ⟨pb, 2, none⟩ = some (.int .i64 t.op) ∧ z.cell? ⟨pb, 3, none⟩ = some (.int .i64 t.a) ∧ z.cell? ⟨pb, 4, none⟩ = some (.int .i64 t.b) ∧ z.cell? ⟨pb, 5, none⟩ = some (.int .i64 t.n) ∧ z.cell? ⟨pb, 6, none⟩ = some (.slice aw lw cw))) (by kernel_rfl) (HS2.out _ (Below.refl _ _).drew) (fun hHeld => ?_)
          refine tk (i := 0) (v := ?_) (tA rfl) (by kernel_rfl) (fun _ _ _ h => h) (Or.inl ⟨by rfl, ?_⟩) (by assumption) ?_
          rotate_left
          · (intro w hSw; (try dsimp only at hSw); go_simp <;> with_reducible rfl)
          simp only [Act.put, List.setIfInBounds_toArray, List.set_cons_zero, List.set_cons_succ]
          refine tk (i := 1) (v := ?_) (tA rfl) (by kernel_rfl) (fun _ _ _ h => h) (Or.inl ⟨by rfl, ?_⟩) (by assumption) ?_
          rotate_left
          · (intro w hSw; (try dsimp only at hSw); go_simp <;> with_reducible rfl)
          simp only [Act.put, List.setIfInBounds_toArray, List.set_cons_zero, List.set_cons_succ]
          refine tk (i := 2) (v := ?_) (tA rfl) (by kernel_rfl) (fun _ _ _ h => h) (Or.inl ⟨by rfl, ?_⟩) (by assumption) ?_
          rotate_left
          · (intro w hSw; (try dsimp only at hSw); go_simp <;> with_reducible rfl)
          simp only [Act.put, List.setIfInBounds_toArray, List.set_cons_zero, List.set_cons_succ]
          refine tk (i := 3) (v := ?_) (tA rfl) (by kernel_rfl) (fun _ _ _ h => h) (Or.inl ⟨by rfl, ?_⟩) (by assumption) ?_
          rotate_left
          · (intro w hSw; (try dsimp only at hSw); go_simp <;> with_reducible rfl)
          simp only [Act.put, List.setIfInBounds_toArray, List.set_cons_zero, List.set_cons_succ]
          refine wpAnyH_ready (rs := [4]) (by kernel_rfl) (by simp) ?_
          refine AllReadyH.cons (tA rfl) (fun K hK => ?_) AllReadyH.nil
          go_simp
          refine (hmb _ (HTY.out.below (Below.refl _ _).drew)).mono ?_
          rintro e Q ⟨rfl, hb2⟩
          have HBQ : Hid (Below Y.heap.size Y Q) := (Below.refl _ _).drew.trans hb2
          clear hb2
          refine hK.out _ _ (HS2.out _ HBQ.out) (fun hHeld => ?_)
          clear hK K
          try simp only [Act.put, List.setIfInBounds_toArray, List.set_cons_zero, List.set_cons_succ]
          refine tk (i := 5) (v := ?_) (tA rfl) (by kernel_rfl) (fun _ _ _ h => h) (Or.inl ⟨by rfl, ?_⟩) (by assumption) ?_
          rotate_left
          · (intro w hSw; (try dsimp only at hSw); go_simp <;> with_reducible rfl)
          simp only [Act.put, List.setIfInBounds_toArray, List.set_cons_zero, List.set_cons_succ]
          have HQ := HRS.out.below HBQ.out
          have HQ' : Hid _ := HQ
          have c0 := HQ.c 0 _ rfl; have c1 := HQ.c 1 _ rfl; have c2 := HQ.c 2 _ rfl; have c3 := HQ.c 3 _ rfl; have c4 := HQ.c 4 _ rfl; have c5 := HQ.c 5 _ rfl; have c6 := HQ.c 6 _ rfl
          have f0 := HQ.f 0; have f1 := HQ.f 1; have f2 := HQ.f 2; have f3 := HQ.f 3; have f4 := HQ.f 4; have f5 := HQ.f 5; have f6 := HQ.f 6
          have HWQ : Hid (Below w.heap.size w Q) := HW.out.trans (HBQ.out.mono HW.out.size)
          have HOQ : Hid (Q.ownsRow (w.alloc (.cells #[.int .i64 0, .string { data := #[] }, .int .i64 0, .int .i64 0, .int .i64 0, .int .i64 0, .slice none 0 0] 44)).heap.size 2 1 (.slice aw lw cw) lw (iC t.words)) := own_thru HOY.out HBQ.out
          clear HQ hmb
          refine wpAnyH_ready (rs := [6]) (by kernel_rfl) (by simp) ?_
          refine AllReadyH.cons (tA rfl) (fun K hK => ?_) AllReadyH.nil
          clear hHeld
          go_simp
          have HPS := (HBX.out.below HBQ.out)
          refine hK.out _ _ ?_ (fun hHeld => ?_)
          · exact put7_S HPS hly
          clear hK K
          try simp only [Act.put, List.setIfInBounds_toArray, List.set_cons_zero, List.set_cons_succ]
          refine tk (i := 7) (v := ?_) (tA rfl) (by kernel_rfl) (fun _ _ _ h => h) (Or.inl ⟨by rfl, ?_⟩) (by assumption) ?_
          rotate_left
          · (intro w hSw; (try dsimp only at hSw); go_simp <;> with_reducible rfl)
          simp only [Act.put, List.setIfInBounds_toArray, List.set_cons_zero, List.set_cons_succ]
          refine wpAnyH_done (by kernel_rfl) ?_ _
          clear hHeld c0 c1 c2 c3 c4 c5 c6 f0 f1 f2 f3 f4 f5 f6
          have HOF := put7_own (b := w.heap.size) (u0 := .int .i64 t.kind) (u1 := .string (X.str t.name)) (u2 := .int .i64 t.op) (u3 := .int .i64 t.a) (u4 := .int .i64 t.b) (u5 := .int .i64 t.n) (u6 := .slice aw lw cw) HOQ.out (show w.heap.size < (w.alloc (.cells #[.int .i64 0, .string { data := #[] }, .int .i64 0, .int .i64 0, .int .i64 0, .int .i64 0, .slice none 0 0] 44)).heap.size by simp)
          have HF := Bx.put7 HQ'.out rfl (.int .i64 t.kind) (.string (X.str t.name)) (.int .i64 t.op) (.int .i64 t.a) (.int .i64 t.b) (.int .i64 t.n) (.slice aw lw cw)
          have HE : Below w.heap.size w (((((((Q.setCell ⟨w.heap.size, 0, none⟩ (.int .i64 t.kind)).setCell ⟨w.heap.size, 1, none⟩ (.string (X.str t.name))).setCell ⟨w.heap.size, 2, none⟩ (.int .i64 t.op)).setCell ⟨w.heap.size, 3, none⟩ (.int .i64 t.a)).setCell ⟨w.heap.size, 4, none⟩ (.int .i64 t.b)).setCell ⟨w.heap.size, 5, none⟩ (.int .i64 t.n)).setCell ⟨w.heap.size, 6, none⟩ (.slice aw lw cw)) := below_put7 HWQ.out (Nat.le_refl _)
          generalize (((((((Q.setCell ⟨w.heap.size, 0, none⟩ (.int .i64 t.kind)).setCell ⟨w.heap.size, 1, none⟩ (.string (X.str t.name))).setCell ⟨w.heap.size, 2, none⟩ (.int .i64 t.op)).setCell ⟨w.heap.size, 3, none⟩ (.int .i64 t.a)).setCell ⟨w.heap.size, 4, none⟩ (.int .i64 t.b)).setCell ⟨w.heap.size, 5, none⟩ (.int .i64 t.n)).setCell ⟨w.heap.size, 6, none⟩ (.slice aw lw cw)) = Wf at HF HE HOF ⊢
          have k0 := HF.c 0 _ rfl; have k1 := HF.c 1 _ rfl; have k2 := HF.c 2 _ rfl; have k3 := HF.c 3 _ rfl; have k4 := HF.c 4 _ rfl; have k5 := HF.c 5 _ rfl; have k6 := HF.c 6 _ rfl
          clear HPS
          go_wp2_with fail
          refine bodyPost_ret (v := .tuple #[.agg #[.int .i64 t.kind, .string (X.str t.name), .int .i64 t.op, .int .i64 t.a, .int .i64 t.b, .int .i64 t.n, .slice aw lw cw], .bool false]) (by simp [results, Tryz.results63, go_sem, k0, k1, k2, k3, k4, k5, k6]) rfl ?_
          exact ⟨t, aw, lw, cw, false, rfl, (fun h => by cases h), fun _ => HN.out, HH.out.2.2, own_baseB HOF (by simp), HE⟩
        · rw [hmk] at hmb
          have HN : Hid (X.read (f.data.toList :: ws) = some t) := by show _ = _; simp [X.read, HH.out.1 rfl, hmk]
          refine wp_region_held_drew (S := (fun z : World => z.cell? ⟨pb, 0, none⟩ = some (.int .i64 t.kind) ∧ z.cell? ⟨pb, 1, none⟩ = some (.string (X.str t.name)) ∧ z.cell? ⟨pb, 2, none⟩ = some (.int .i64 t.op) ∧ z.cell? ⟨pb, 3, none⟩ = some (.int .i64 t.a) ∧ z.cell? ⟨pb, 4, none⟩ = some (.int .i64 t.b) ∧ z.cell? ⟨pb, 5, none⟩ = some (.int .i64 t.n) ∧ z.cell? ⟨pb, 6, none⟩ = some (.slice aw lw cw))) (by kernel_rfl) (HS2.out _ (Below.refl _ _).drew) (fun hHeld => ?_)
          refine tk (i := 0) (v := ?_) (tA rfl) (by kernel_rfl) (fun _ _ _ h => h) (Or.inl ⟨by rfl, ?_⟩) (by assumption) ?_
          rotate_left
          · (intro w hSw; (try dsimp only at hSw); go_simp <;> with_reducible rfl)
          simp only [Act.put, List.setIfInBounds_toArray, List.set_cons_zero, List.set_cons_succ]
          refine tk (i := 1) (v := ?_) (tA rfl) (by kernel_rfl) (fun _ _ _ h => h) (Or.inl ⟨by rfl, ?_⟩) (by assumption) ?_
          rotate_left
          · (intro w hSw; (try dsimp only at hSw); go_simp <;> with_reducible rfl)
          simp only [Act.put, List.setIfInBounds_toArray, List.set_cons_zero, List.set_cons_succ]
          refine tk (i := 2) (v := ?_) (tA rfl) (by kernel_rfl) (fun _ _ _ h => h) (Or.inl ⟨by rfl, ?_⟩) (by assumption) ?_
          rotate_left
          · (intro w hSw; (try dsimp only at hSw); go_simp <;> with_reducible rfl)
          simp only [Act.put, List.setIfInBounds_toArray, List.set_cons_zero, List.set_cons_succ]
          refine tk (i := 3) (v := ?_) (tA rfl) (by kernel_rfl) (fun _ _ _ h => h) (Or.inl ⟨by rfl, ?_⟩) (by assumption) ?_
          rotate_left
          · (intro w hSw; (try dsimp only at hSw); go_simp <;> with_reducible rfl)
          simp only [Act.put, List.setIfInBounds_toArray, List.set_cons_zero, List.set_cons_succ]
          refine wpAnyH_ready (rs := [4]) (by kernel_rfl) (by simp) ?_
          refine AllReadyH.cons (tA rfl) (fun K hK => ?_) AllReadyH.nil
          go_simp
          refine (hmb _ (HTY.out.below (Below.refl _ _).drew)).mono ?_
          rintro e Q ⟨rfl, hb2⟩
          have HBQ : Hid (Below Y.heap.size Y Q) := (Below.refl _ _).drew.trans hb2
          clear hb2
          refine hK.out _ _ (HS2.out _ HBQ.out) (fun hHeld => ?_)
          clear hK K
          try simp only [Act.put, List.setIfInBounds_toArray, List.set_cons_zero, List.set_cons_succ]
          refine tk (i := 5) (v := ?_) (tA rfl) (by kernel_rfl) (fun _ _ _ h => h) (Or.inl ⟨by rfl, ?_⟩) (by assumption) ?_
          rotate_left
          · (intro w hSw; (try dsimp only at hSw); go_simp <;> with_reducible rfl)
          simp only [Act.put, List.setIfInBounds_toArray, List.set_cons_zero, List.set_cons_succ]
          have HQ := HRS.out.below HBQ.out
          have HQ' : Hid _ := HQ
          have c0 := HQ.c 0 _ rfl; have c1 := HQ.c 1 _ rfl; have c2 := HQ.c 2 _ rfl; have c3 := HQ.c 3 _ rfl; have c4 := HQ.c 4 _ rfl; have c5 := HQ.c 5 _ rfl; have c6 := HQ.c 6 _ rfl
          have f0 := HQ.f 0; have f1 := HQ.f 1; have f2 := HQ.f 2; have f3 := HQ.f 3; have f4 := HQ.f 4; have f5 := HQ.f 5; have f6 := HQ.f 6
          have HWQ : Hid (Below w.heap.size w Q) := HW.out.trans (HBQ.out.mono HW.out.size)
          have HOQ : Hid (Q.ownsRow (w.alloc (.cells #[.int .i64 0, .string { data := #[] }, .int .i64 0, .int .i64 0, .int .i64 0, .int .i64 0, .slice none 0 0] 44)).heap.size 2 1 (.slice aw lw cw) lw (iC t.words)) := own_thru HOY.out HBQ.out
          clear HQ hmb
          refine wpAnyH_ready (rs := [6]) (by kernel_rfl) (by simp) ?_
          refine AllReadyH.cons (tA rfl) (fun K hK => ?_) AllReadyH.nil
          clear hHeld
          go_simp
          have HPS := (HBX.out.below HBQ.out)
          refine hK.out _ _ ?_ (fun hHeld => ?_)
          · exact put7_S HPS hly
          clear hK K
          try simp only [Act.put, List.setIfInBounds_toArray, List.set_cons_zero, List.set_cons_succ]
          refine tk (i := 7) (v := ?_) (tA rfl) (by kernel_rfl) (fun _ _ _ h => h) (Or.inl ⟨by rfl, ?_⟩) (by assumption) ?_
          rotate_left
          · (intro w hSw; (try dsimp only at hSw); go_simp <;> with_reducible rfl)
          simp only [Act.put, List.setIfInBounds_toArray, List.set_cons_zero, List.set_cons_succ]
          refine wpAnyH_done (by kernel_rfl) ?_ _
          clear hHeld c0 c1 c2 c3 c4 c5 c6 f0 f1 f2 f3 f4 f5 f6
          have HOF := put7_own (b := w.heap.size) (u0 := .int .i64 t.kind) (u1 := .string (X.str t.name)) (u2 := .int .i64 t.op) (u3 := .int .i64 t.a) (u4 := .int .i64 t.b) (u5 := .int .i64 t.n) (u6 := .slice aw lw cw) HOQ.out (show w.heap.size < (w.alloc (.cells #[.int .i64 0, .string { data := #[] }, .int .i64 0, .int .i64 0, .int .i64 0, .int .i64 0, .slice none 0 0] 44)).heap.size by simp)
          have HF := Bx.put7 HQ'.out rfl (.int .i64 t.kind) (.string (X.str t.name)) (.int .i64 t.op) (.int .i64 t.a) (.int .i64 t.b) (.int .i64 t.n) (.slice aw lw cw)
          have HE : Below w.heap.size w (((((((Q.setCell ⟨w.heap.size, 0, none⟩ (.int .i64 t.kind)).setCell ⟨w.heap.size, 1, none⟩ (.string (X.str t.name))).setCell ⟨w.heap.size, 2, none⟩ (.int .i64 t.op)).setCell ⟨w.heap.size, 3, none⟩ (.int .i64 t.a)).setCell ⟨w.heap.size, 4, none⟩ (.int .i64 t.b)).setCell ⟨w.heap.size, 5, none⟩ (.int .i64 t.n)).setCell ⟨w.heap.size, 6, none⟩ (.slice aw lw cw)) := below_put7 HWQ.out (Nat.le_refl _)
          generalize (((((((Q.setCell ⟨w.heap.size, 0, none⟩ (.int .i64 t.kind)).setCell ⟨w.heap.size, 1, none⟩ (.string (X.str t.name))).setCell ⟨w.heap.size, 2, none⟩ (.int .i64 t.op)).setCell ⟨w.heap.size, 3, none⟩ (.int .i64 t.a)).setCell ⟨w.heap.size, 4, none⟩ (.int .i64 t.b)).setCell ⟨w.heap.size, 5, none⟩ (.int .i64 t.n)).setCell ⟨w.heap.size, 6, none⟩ (.slice aw lw cw)) = Wf at HF HE HOF ⊢
          have k0 := HF.c 0 _ rfl; have k1 := HF.c 1 _ rfl; have k2 := HF.c 2 _ rfl; have k3 := HF.c 3 _ rfl; have k4 := HF.c 4 _ rfl; have k5 := HF.c 5 _ rfl; have k6 := HF.c 6 _ rfl
          clear HPS
          go_wp2_with fail
          refine bodyPost_ret (v := .tuple #[.agg #[.int .i64 t.kind, .string (X.str t.name), .int .i64 t.op, .int .i64 t.a, .int .i64 t.b, .int .i64 t.n, .slice aw lw cw], .bool true]) (by simp [results, Tryz.results63, go_sem, k0, k1, k2, k3, k4, k5, k6]) rfl ?_
          exact ⟨t, aw, lw, cw, true, rfl, fun _ => HN.out, (fun h => by cases h), HH.out.2.2, own_baseB HOF (by simp), HE⟩
    · go_simp
      have HXB : Hid (Below (w.alloc (.cells #[.int .i64 0, .string { data := #[] }, .int .i64 0, .int .i64 0, .int .i64 0, .int .i64 0, .slice none 0 0] 44)).heap.size (w.alloc (.cells #[.int .i64 0, .string { data := #[] }, .int .i64 0, .int .i64 0, .int .i64 0, .int .i64 0, .slice none 0 0] 44)) (((w.alloc (.cells #[.int .i64 0, .string { data := #[] }, .int .i64 0, .int .i64 0, .int .i64 0, .int .i64 0, .slice none 0 0] 44)).alloc (.cells #[.int .i64 0, .string { data := #[] }, .int .i64 0, .int .i64 0, .int .i64 0, .int .i64 0, .slice none 0 0] 44)).drew)) := (bl1 _ _).drew
      have HPB : Hid (Bx (((w.alloc (.cells #[.int .i64 0, .string { data := #[] }, .int .i64 0, .int .i64 0, .int .i64 0, .int .i64 0, .slice none 0 0] 44)).alloc (.cells #[.int .i64 0, .string { data := #[] }, .int .i64 0, .int .i64 0, .int .i64 0, .int .i64 0, .slice none 0 0] 44)).drew) (w.heap.size + 1) [.int .i64 0, .string { data := #[] }, .int .i64 0, .int .i64 0, .int .i64 0, .int .i64 0, .slice none 0 0]) := by show Bx _ _ _; have q := (Bx.new (w.alloc (.cells #[.int .i64 0, .string { data := #[] }, .int .i64 0, .int .i64 0, .int .i64 0, .int .i64 0, .slice none 0 0] 44)) #[.int .i64 0, .string { data := #[] }, .int .i64 0, .int .i64 0, .int .i64 0, .int .i64 0, .slice none 0 0] 44).below (Below.refl _ _).drew; simpa using q
      refine hK.out _ _ (HS.out _ HXB.out) (fun hHeld => ?_)
      clear hK K
      try simp only [Act.put, List.setIfInBounds_toArray, List.set_cons_zero, List.set_cons_succ]
      refine wpAnyH_ready (rs := [5]) (by kernel_rfl) (by simp) ?_
      refine AllReadyH.cons (tA rfl) (fun K hK => ?_) AllReadyH.nil
      go_simp
      refine (take_any f hf (HV.out.below ((bl1 _ _).trans (HXB.out.mono (bl1 _ _).size))) (by omega) ((HT.out.alloc _).below HXB.out)).mono ?_
      rintro e y ⟨t, aw, lw, cw, ok, rfl, h1, h2, h3, ho, hb⟩
      have HH : Hid ((ok = true → X.take f.data.toList ws = some t) ∧ (ok = false → X.take f.data.toList ws = none) ∧ t.name.length ≤ 200000) := ⟨h1, h2, h3⟩
      have HB : Hid (Below (w.alloc (.cells #[.int .i64 0, .string { data := #[] }, .int .i64 0, .int .i64 0, .int .i64 0, .int .i64 0, .slice none 0 0] 44)).heap.size (w.alloc (.cells #[.int .i64 0, .string { data := #[] }, .int .i64 0, .int .i64 0, .int .i64 0, .int .i64 0, .slice none 0 0] 44)) y) := HXB.out.trans (hb.mono HXB.out.size)
      have HPY : Hid (Bx y (w.heap.size + 1) [.int .i64 0, .string { data := #[] }, .int .i64 0, .int .i64 0, .int .i64 0, .int .i64 0, .slice none 0 0]) := HPB.out.below hb
      have HO : Hid (y.ownsRow (((w.alloc (.cells #[.int .i64 0, .string { data := #[] }, .int .i64 0, .int .i64 0, .int .i64 0, .int .i64 0, .slice none 0 0] 44)).alloc (.cells #[.int .i64 0, .string { data := #[] }, .int .i64 0, .int .i64 0, .int .i64 0, .int .i64 0, .slice none 0 0] 44)).drew).heap.size 2 1 (.slice aw lw cw) lw (iC t.words)) := ho
      clear h1 h2 h3 ho hb
      refine hK.out _ _ (HS.out _ HB.out) (fun hHeld => ?_)
      clear hK K
      try simp only [Act.put, List.setIfInBounds_toArray, List.set_cons_zero, List.set_cons_succ]
      refine tk (i := 6) (v := ?_) (tA rfl) (by kernel_rfl) (fun _ _ _ h => h) (Or.inl ⟨by rfl, ?_⟩) (by assumption) ?_
      rotate_left
      · (intro w hSw; (try dsimp only at hSw); go_simp <;> with_reducible rfl)
      simp only [Act.put, List.setIfInBounds_toArray, List.set_cons_zero, List.set_cons_succ]
      refine tk (i := 7) (v := ?_) (tA rfl) (by kernel_rfl) (fun _ _ _ h => h) (Or.inl ⟨by rfl, ?_⟩) (by assumption) ?_
      rotate_left
      · (intro w hSw; (try dsimp only at hSw); go_simp <;> with_reducible rfl)
      simp only [Act.put, List.setIfInBounds_toArray, List.set_cons_zero, List.set_cons_succ]
      refine tk (i := 8) (v := ?_) (tA rfl) (by kernel_rfl) (fun _ _ _ h => h) (Or.inl ⟨by rfl, ?_⟩) (by assumption) ?_
      rotate_left
      · (intro w hSw; (try dsimp only at hSw); go_simp <;> with_reducible rfl)
      simp only [Act.put, List.setIfInBounds_toArray, List.set_cons_zero, List.set_cons_succ]
      have HQ := HPY.out
      have c0 := HQ.c 0 _ rfl; have c1 := HQ.c 1 _ rfl; have c2 := HQ.c 2 _ rfl; have c3 := HQ.c 3 _ rfl; have c4 := HQ.c 4 _ rfl; have c5 := HQ.c 5 _ rfl; have c6 := HQ.c 6 _ rfl
      have f0 := HQ.f 0; have f1 := HQ.f 1; have f2 := HQ.f 2; have f3 := HQ.f 3; have f4 := HQ.f 4; have f5 := HQ.f 5; have f6 := HQ.f 6
      clear HQ
      refine wpAnyH_ready (rs := [10]) (by kernel_rfl) (by simp) ?_
      refine AllReadyH.cons (tA rfl) (fun K hK => ?_) AllReadyH.nil
      go_simp
      have HCB : Hid (Below (w.alloc (.cells #[.int .i64 0, .string { data := #[] }, .int .i64 0, .int .i64 0, .int .i64 0, .int .i64 0, .slice none 0 0] 44)).heap.size (w.alloc (.cells #[.int .i64 0, .string { data := #[] }, .int .i64 0, .int .i64 0, .int .i64 0, .int .i64 0, .slice none 0 0] 44)) (((((((y.setCell ⟨w.heap.size + 1, 0, none⟩ (.int .i64 t.kind)).setCell ⟨w.heap.size + 1, 1, none⟩ (.string (X.str t.name))).setCell ⟨w.heap.size + 1, 2, none⟩ (.int .i64 t.op)).setCell ⟨w.heap.size + 1, 3, none⟩ (.int .i64 t.a)).setCell ⟨w.heap.size + 1, 4, none⟩ (.int .i64 t.b)).setCell ⟨w.heap.size + 1, 5, none⟩ (.int .i64 t.n)).setCell ⟨w.heap.size + 1, 6, none⟩ (.slice aw lw cw))) := below_put7 HB.out (by simp)
      refine hK.out _ _ (HS.out _ HCB.out) (fun hHeld => ?_)
      clear hK K c0 c1 c2 c3 c4 c5 c6 f0 f1 f2 f3 f4 f5 f6
      try simp only [Act.put, List.setIfInBounds_toArray, List.set_cons_zero, List.set_cons_succ]
      refine tk (i := 11) (v := ?_) (tA rfl) (by kernel_rfl) (fun _ _ _ h => h) (Or.inl ⟨by rfl, ?_⟩) (by assumption) ?_
      rotate_left
      · (intro w hSw; (try dsimp only at hSw); go_simp <;> with_reducible rfl)
      simp only [Act.put, List.setIfInBounds_toArray, List.set_cons_zero, List.set_cons_succ]
      refine wpAnyH_done (by kernel_rfl) ?_ _
      clear hHeld
      have HBX : Hid (Bx (((((((y.setCell ⟨w.heap.size + 1, 0, none⟩ (.int .i64 t.kind)).setCell ⟨w.heap.size + 1, 1, none⟩ (.string (X.str t.name))).setCell ⟨w.heap.size + 1, 2, none⟩ (.int .i64 t.op)).setCell ⟨w.heap.size + 1, 3, none⟩ (.int .i64 t.a)).setCell ⟨w.heap.size + 1, 4, none⟩ (.int .i64 t.b)).setCell ⟨w.heap.size + 1, 5, none⟩ (.int .i64 t.n)).setCell ⟨w.heap.size + 1, 6, none⟩ (.slice aw lw cw)) (w.heap.size + 1) [.int .i64 t.kind, .string (X.str t.name), .int .i64 t.op, .int .i64 t.a, .int .i64 t.b, .int .i64 t.n, .slice aw lw cw]) := Bx.put7 HPY.out rfl (.int .i64 t.kind) (.string (X.str t.name)) (.int .i64 t.op) (.int .i64 t.a) (.int .i64 t.b) (.int .i64 t.n) (.slice aw lw cw)
      have HRS : Hid (Bx (((((((y.setCell ⟨w.heap.size + 1, 0, none⟩ (.int .i64 t.kind)).setCell ⟨w.heap.size + 1, 1, none⟩ (.string (X.str t.name))).setCell ⟨w.heap.size + 1, 2, none⟩ (.int .i64 t.op)).setCell ⟨w.heap.size + 1, 3, none⟩ (.int .i64 t.a)).setCell ⟨w.heap.size + 1, 4, none⟩ (.int .i64 t.b)).setCell ⟨w.heap.size + 1, 5, none⟩ (.int .i64 t.n)).setCell ⟨w.heap.size + 1, 6, none⟩ (.slice aw lw cw)) w.heap.size [.int .i64 0, .string { data := #[] }, .int .i64 0, .int .i64 0, .int .i64 0, .int .i64 0, .slice none 0 0]) := Bx.far7 (HZ.out.below HB.out) (by simp)
      have HW : Hid (Below w.heap.size w (((((((y.setCell ⟨w.heap.size + 1, 0, none⟩ (.int .i64 t.kind)).setCell ⟨w.heap.size + 1, 1, none⟩ (.string (X.str t.name))).setCell ⟨w.heap.size + 1, 2, none⟩ (.int .i64 t.op)).setCell ⟨w.heap.size + 1, 3, none⟩ (.int .i64 t.a)).setCell ⟨w.heap.size + 1, 4, none⟩ (.int .i64 t.b)).setCell ⟨w.heap.size + 1, 5, none⟩ (.int .i64 t.n)).setCell ⟨w.heap.size + 1, 6, none⟩ (.slice aw lw cw))) := (bl1 _ _).trans (HCB.out.mono (bl1 _ _).size)
      have HTY : Hid (Tab (((((((y.setCell ⟨w.heap.size + 1, 0, none⟩ (.int .i64 t.kind)).setCell ⟨w.heap.size + 1, 1, none⟩ (.string (X.str t.name))).setCell ⟨w.heap.size + 1, 2, none⟩ (.int .i64 t.op)).setCell ⟨w.heap.size + 1, 3, none⟩ (.int .i64 t.a)).setCell ⟨w.heap.size + 1, 4, none⟩ (.int .i64 t.b)).setCell ⟨w.heap.size + 1, 5, none⟩ (.int .i64 t.n)).setCell ⟨w.heap.size + 1, 6, none⟩ (.slice aw lw cw))) := HT.out.below HW.out
      have HOY : Hid (World.ownsRow (((((((y.setCell ⟨w.heap.size + 1, 0, none⟩ (.int .i64 t.kind)).setCell ⟨w.heap.size + 1, 1, none⟩ (.string (X.str t.name))).setCell ⟨w.heap.size + 1, 2, none⟩ (.int .i64 t.op)).setCell ⟨w.heap.size + 1, 3, none⟩ (.int .i64 t.a)).setCell ⟨w.heap.size + 1, 4, none⟩ (.int .i64 t.b)).setCell ⟨w.heap.size + 1, 5, none⟩ (.int .i64 t.n)).setCell ⟨w.heap.size + 1, 6, none⟩ (.slice aw lw cw)) (w.alloc (.cells #[.int .i64 0, .string { data := #[] }, .int .i64 0, .int .i64 0, .int .i64 0, .int .i64 0, .slice none 0 0] 44)).heap.size 2 1 (.slice aw lw cw) lw (iC t.words)) := own_baseB (put7_own HO.out (by simp [World.drew])) (by simp [World.drew])
      have hlw : t.words.length = lw := by have := HOY.out.1; unfold iC at this; simpa using this
      have hmb := fun w h => mayBe_any t.kind (X.str t.name) t.op t.a t.b t.n aw lw cw t.words hlw (by rw [str_size]; have := HH.out.2.2; unfold maxLen; omega) w h
      simp only [str_list] at hmb
      rw [show (⟨t.kind, t.name, t.op, t.a, t.b, t.n, t.words⟩ : X.It) = t from rfl] at hmb
      have hly : w.heap.size + 1 ≠ w.heap.size := by omega
      generalize hY : (((((((y.setCell ⟨w.heap.size + 1, 0, none⟩ (.int .i64 t.kind)).setCell ⟨w.heap.size + 1, 1, none⟩ (.string (X.str t.name))).setCell ⟨w.heap.size + 1, 2, none⟩ (.int .i64 t.op)).setCell ⟨w.heap.size + 1, 3, none⟩ (.int .i64 t.a)).setCell ⟨w.heap.size + 1, 4, none⟩ (.int .i64 t.b)).setCell ⟨w.heap.size + 1, 5, none⟩ (.int .i64 t.n)).setCell ⟨w.heap.size + 1, 6, none⟩ (.slice aw lw cw)) = Y at HBX HRS HW HTY HOY ⊢
      clear hY HB HO HPB HXB HPY HCB
      go_wp2_with fail
      generalize hpb : w.heap.size + 1 = pb at HBX hly ⊢
      clear hpb
      have HS2 : Hid (∀ z, Below Y.heap.size Y z → (fun z : World => z.cell? ⟨pb, 0, none⟩ = some (.int .i64 t.kind) ∧ z.cell? ⟨pb, 1, none⟩ = some (.string (X.str t.name)) ∧ z.cell? ⟨pb, 2, none⟩ = some (.int .i64 t.op) ∧ z.cell? ⟨pb, 3, none⟩ = some (.int .i64 t.a) ∧ z.cell? ⟨pb, 4, none⟩ = some (.int .i64 t.b) ∧ z.cell? ⟨pb, 5, none⟩ = some (.int .i64 t.n) ∧ z.cell? ⟨pb, 6, none⟩ = some (.slice aw lw cw)) z) := fun z hz => by
        have q := HBX.out.below hz
        exact ⟨q.c 0 _ rfl, q.c 1 _ rfl, q.c 2 _ rfl, q.c 3 _ rfl, q.c 4 _ rfl, q.c 5 _ rfl, q.c 6 _ rfl⟩
      cases ok with
      | false =>
        have HN : Hid (X.read (f.data.toList :: ws) = none) := by show _ = _; simp [X.read, HH.out.2.1 rfl]
        refine wp_region_held_drew (S := (fun z : World => z.cell? ⟨pb, 0, none⟩ = some (.int .i64 t.kind) ∧ z.cell? ⟨pb, 1, none⟩ = some (.string (X.str t.name)) ∧ z.cell? ⟨pb, 2, none⟩ = some (.int .i64 t.op) ∧ z.cell? ⟨pb, 3, none⟩ = some (.int .i64 t.a) ∧ z.cell? ⟨pb, 4, none⟩ = some (.int .i64 t.b) ∧ z.cell? ⟨pb, 5, none⟩ = some (.int .i64 t.n) ∧ z.cell? ⟨pb, 6, none⟩ = some (.slice aw lw cw))) (by kernel_rfl) (HS2.out _ (Below.refl _ _).drew) (fun hHeld => ?_)
        refine tk (i := 0) (v := ?_) (tA rfl) (by kernel_rfl) (fun _ _ _ h => h) (Or.inl ⟨by rfl, ?_⟩) (by assumption) ?_
        rotate_left
        · (intro w hSw; (try dsimp only at hSw); go_simp <;> with_reducible rfl)
        simp only [Act.put, List.setIfInBounds_toArray, List.set_cons_zero, List.set_cons_succ]
        refine tk (i := 1) (v := ?_) (tA rfl) (by kernel_rfl) (fun _ _ _ h => h) (Or.inl ⟨by rfl, ?_⟩) (by assumption) ?_
        rotate_left
        · (intro w hSw; (try dsimp only at hSw); go_simp <;> with_reducible rfl)
        simp only [Act.put, List.setIfInBounds_toArray, List.set_cons_zero, List.set_cons_succ]
        refine tk (i := 2) (v := ?_) (tA rfl) (by kernel_rfl) (fun _ _ _ h => h) (Or.inl ⟨by rfl, ?_⟩) (by assumption) ?_
        rotate_left
        · (intro w hSw; (try dsimp only at hSw); go_simp <;> with_reducible rfl)
        simp only [Act.put, List.setIfInBounds_toArray, List.set_cons_zero, List.set_cons_succ]
        refine tk (i := 3) (v := undef) (tA rfl) (by kernel_rfl) (fun _ _ _ h => h) (Or.inr ⟨by rfl, rfl⟩) (by assumption) ?_
        simp only [Act.put, List.setIfInBounds_toArray, List.set_cons_zero, List.set_cons_succ]
        refine tk (i := 4) (v := undef) (tA rfl) (by kernel_rfl) (fun _ _ _ h => h) (Or.inr ⟨by rfl, rfl⟩) (by assumption) ?_
        simp only [Act.put, List.setIfInBounds_toArray, List.set_cons_zero, List.set_cons_succ]
        refine tk (i := 5) (v := ?_) (tA rfl) (by kernel_rfl) (fun _ _ _ h => h) (Or.inl ⟨by rfl, ?_⟩) (by assumption) ?_
        rotate_left
        · (intro w hSw; (try dsimp only at hSw); go_simp <;> with_reducible rfl)
        simp only [Act.put, List.setIfInBounds_toArray, List.set_cons_zero, List.set_cons_succ]
        obtain ⟨Q, hQ⟩ : ∃ Q, Y.drew = Q := ⟨_, rfl⟩
        have HBQ : Hid (Below Y.heap.size Y Q) := by show Below _ _ _; rw [← hQ]; exact (Below.refl _ _).drew
        rw [hQ]
        clear hQ
        have HQ := HRS.out.below HBQ.out
        have HQ' : Hid _ := HQ
        have c0 := HQ.c 0 _ rfl; have c1 := HQ.c 1 _ rfl; have c2 := HQ.c 2 _ rfl; have c3 := HQ.c 3 _ rfl; have c4 := HQ.c 4 _ rfl; have c5 := HQ.c 5 _ rfl; have c6 := HQ.c 6 _ rfl
        have f0 := HQ.f 0; have f1 := HQ.f 1; have f2 := HQ.f 2; have f3 := HQ.f 3; have f4 := HQ.f 4; have f5 := HQ.f 5; have f6 := HQ.f 6
        have HWQ : Hid (Below w.heap.size w Q) := HW.out.trans (HBQ.out.mono HW.out.size)
        have HOQ : Hid (Q.ownsRow (w.alloc (.cells #[.int .i64 0, .string { data := #[] }, .int .i64 0, .int .i64 0, .int .i64 0, .int .i64 0, .slice none 0 0] 44)).heap.size 2 1 (.slice aw lw cw) lw (iC t.words)) := own_thru HOY.out HBQ.out
        clear HQ hmb
        refine wpAnyH_ready (rs := [6]) (by kernel_rfl) (by simp) ?_
        refine AllReadyH.cons (tA rfl) (fun K hK => ?_) AllReadyH.nil
        clear hHeld
        go_simp
        have HPS := (HBX.out.below HBQ.out)
        refine hK.out _ _ ?_ (fun hHeld => ?_)
        · exact put7_S HPS hly
        clear hK K
        try simp only [Act.put, List.setIfInBounds_toArray, List.set_cons_zero, List.set_cons_succ]
        refine tk (i := 7) (v := ?_) (tA rfl) (by kernel_rfl) (fun _ _ _ h => h) (Or.inl ⟨by rfl, ?_⟩) (by assumption) ?_
        rotate_left
        · (intro w hSw; (try dsimp only at hSw); go_simp <;> with_reducible rfl)
        simp only [Act.put, List.setIfInBounds_toArray, List.set_cons_zero, List.set_cons_succ]
        refine wpAnyH_done (by kernel_rfl) ?_ _
        clear hHeld c0 c1 c2 c3 c4 c5 c6 f0 f1 f2 f3 f4 f5 f6
        have HOF := put7_own (b := w.heap.size) (u0 := .int .i64 t.kind) (u1 := .string (X.str t.name)) (u2 := .int .i64 t.op) (u3 := .int .i64 t.a) (u4 := .int .i64 t.b) (u5 := .int .i64 t.n) (u6 := .slice aw lw cw) HOQ.out (show w.heap.size < (w.alloc (.cells #[.int .i64 0, .string { data := #[] }, .int .i64 0, .int .i64 0, .int .i64 0, .int .i64 0, .slice none 0 0] 44)).heap.size by simp)
        have HF := Bx.put7 HQ'.out rfl (.int .i64 t.kind) (.string (X.str t.name)) (.int .i64 t.op) (.int .i64 t.a) (.int .i64 t.b) (.int .i64 t.n) (.slice aw lw cw)
        have HE : Below w.heap.size w (((((((Q.setCell ⟨w.heap.size, 0, none⟩ (.int .i64 t.kind)).setCell ⟨w.heap.size, 1, none⟩ (.string (X.str t.name))).setCell ⟨w.heap.size, 2, none⟩ (.int .i64 t.op)).setCell ⟨w.heap.size, 3, none⟩ (.int .i64 t.a)).setCell ⟨w.heap.size, 4, none⟩ (.int .i64 t.b)).setCell ⟨w.heap.size, 5, none⟩ (.int .i64 t.n)).setCell ⟨w.heap.size, 6, none⟩ (.slice aw lw cw)) := below_put7 HWQ.out (Nat.le_refl _)
        generalize (((((((Q.setCell ⟨w.heap.size, 0, none⟩ (.int .i64 t.kind)).setCell ⟨w.heap.size, 1, none⟩ (.string (X.str t.name))).setCell ⟨w.heap.size, 2, none⟩ (.int .i64 t.op)).setCell ⟨w.heap.size, 3, none⟩ (.int .i64 t.a)).setCell ⟨w.heap.size, 4, none⟩ (.int .i64 t.b)).setCell ⟨w.heap.size, 5, none⟩ (.int .i64 t.n)).setCell ⟨w.heap.size, 6, none⟩ (.slice aw lw cw)) = Wf at HF HE HOF ⊢
        have k0 := HF.c 0 _ rfl; have k1 := HF.c 1 _ rfl; have k2 := HF.c 2 _ rfl; have k3 := HF.c 3 _ rfl; have k4 := HF.c 4 _ rfl; have k5 := HF.c 5 _ rfl; have k6 := HF.c 6 _ rfl
        clear HPS
        go_wp2_with fail
        refine bodyPost_ret (v := .tuple #[.agg #[.int .i64 t.kind, .string (X.str t.name), .int .i64 t.op, .int .i64 t.a, .int .i64 t.b, .int .i64 t.n, .slice aw lw cw], .bool false]) (by simp [results, Tryz.results63, go_sem, k0, k1, k2, k3, k4, k5, k6]) rfl ?_
        exact ⟨t, aw, lw, cw, false, rfl, (fun h => by cases h), fun _ => HN.out, HH.out.2.2, own_baseB HOF (by simp), HE⟩
      | true =>
        cases hmk : X.itOk t
        · rw [hmk] at hmb
          have HN : Hid (X.read (f.data.toList :: ws) = none) := by show _ = _; simp [X.read, HH.out.1 rfl, hmk]
          refine wp_region_held_drew (S := (fun z : World => z.cell? ⟨pb, 0, none⟩ = some (.int .i64 t.kind) ∧ z.cell? ⟨pb, 1, none⟩ = some (.string (X.str t.name)) ∧ z.cell? ⟨pb, 2, none⟩ = some (.int .i64 t.op) ∧ z.cell? ⟨pb, 3, none⟩ = some (.int .i64 t.a) ∧ z.cell? ⟨pb, 4, none⟩ = some (.int .i64 t.b) ∧ z.cell? ⟨pb, 5, none⟩ = some (.int .i64 t.n) ∧ z.cell? ⟨pb, 6, none⟩ = some (.slice aw lw cw))) (by kernel_rfl) (HS2.out _ (Below.refl _ _).drew) (fun hHeld => ?_)
          refine tk (i := 0) (v := ?_) (tA rfl) (by kernel_rfl) (fun _ _ _ h => h) (Or.inl ⟨by rfl, ?_⟩) (by assumption) ?_
          rotate_left
          · (intro w hSw; (try dsimp only at hSw); go_simp <;> with_reducible rfl)
          simp only [Act.put, List.setIfInBounds_toArray, List.set_cons_zero, List.set_cons_succ]
          refine tk (i := 1) (v := ?_) (tA rfl) (by kernel_rfl) (fun _ _ _ h => h) (Or.inl ⟨by rfl, ?_⟩) (by assumption) ?_
          rotate_left
          · (intro w hSw; (try dsimp only at hSw); go_simp <;> with_reducible rfl)
          simp only [Act.put, List.setIfInBounds_toArray, List.set_cons_zero, List.set_cons_succ]
          refine tk (i := 2) (v := ?_) (tA rfl) (by kernel_rfl) (fun _ _ _ h => h) (Or.inl ⟨by rfl, ?_⟩) (by assumption) ?_
          rotate_left
          · (intro w hSw; (try dsimp only at hSw); go_simp <;> with_reducible rfl)
          simp only [Act.put, List.setIfInBounds_toArray, List.set_cons_zero, List.set_cons_succ]
          refine tk (i := 3) (v := ?_) (tA rfl) (by kernel_rfl) (fun _ _ _ h => h) (Or.inl ⟨by rfl, ?_⟩) (by assumption) ?_
          rotate_left
          · (intro w hSw; (try dsimp only at hSw); go_simp <;> with_reducible rfl)
          simp only [Act.put, List.setIfInBounds_toArray, List.set_cons_zero, List.set_cons_succ]
          refine wpAnyH_ready (rs := [4]) (by kernel_rfl) (by simp) ?_
          refine AllReadyH.cons (tA rfl) (fun K hK => ?_) AllReadyH.nil
          go_simp
          refine (hmb _ (HTY.out.below (Below.refl _ _).drew)).mono ?_
          rintro e Q ⟨rfl, hb2⟩
          have HBQ : Hid (Below Y.heap.size Y Q) := (Below.refl _ _).drew.trans hb2
          clear hb2
          refine hK.out _ _ (HS2.out _ HBQ.out) (fun hHeld => ?_)
          clear hK K
          try simp only [Act.put, List.setIfInBounds_toArray, List.set_cons_zero, List.set_cons_succ]
          refine tk (i := 5) (v := ?_) (tA rfl) (by kernel_rfl) (fun _ _ _ h => h) (Or.inl ⟨by rfl, ?_⟩) (by assumption) ?_
          rotate_left
          · (intro w hSw; (try dsimp only at hSw); go_simp <;> with_reducible rfl)
          simp only [Act.put, List.setIfInBounds_toArray, List.set_cons_zero, List.set_cons_succ]
          have HQ := HRS.out.below HBQ.out
          have HQ' : Hid _ := HQ
          have c0 := HQ.c 0 _ rfl; have c1 := HQ.c 1 _ rfl; have c2 := HQ.c 2 _ rfl; have c3 := HQ.c 3 _ rfl; have c4 := HQ.c 4 _ rfl; have c5 := HQ.c 5 _ rfl; have c6 := HQ.c 6 _ rfl
          have f0 := HQ.f 0; have f1 := HQ.f 1; have f2 := HQ.f 2; have f3 := HQ.f 3; have f4 := HQ.f 4; have f5 := HQ.f 5; have f6 := HQ.f 6
          have HWQ : Hid (Below w.heap.size w Q) := HW.out.trans (HBQ.out.mono HW.out.size)
          have HOQ : Hid (Q.ownsRow (w.alloc (.cells #[.int .i64 0, .string { data := #[] }, .int .i64 0, .int .i64 0, .int .i64 0, .int .i64 0, .slice none 0 0] 44)).heap.size 2 1 (.slice aw lw cw) lw (iC t.words)) := own_thru HOY.out HBQ.out
          clear HQ hmb
          refine wpAnyH_ready (rs := [6]) (by kernel_rfl) (by simp) ?_
          refine AllReadyH.cons (tA rfl) (fun K hK => ?_) AllReadyH.nil
          clear hHeld
          go_simp
          have HPS := (HBX.out.below HBQ.out)
          refine hK.out _ _ ?_ (fun hHeld => ?_)
          · exact put7_S HPS hly
          clear hK K
          try simp only [Act.put, List.setIfInBounds_toArray, List.set_cons_zero, List.set_cons_succ]
          refine tk (i := 7) (v := ?_) (tA rfl) (by kernel_rfl) (fun _ _ _ h => h) (Or.inl ⟨by rfl, ?_⟩) (by assumption) ?_
          rotate_left
          · (intro w hSw; (try dsimp only at hSw); go_simp <;> with_reducible rfl)
          simp only [Act.put, List.setIfInBounds_toArray, List.set_cons_zero, List.set_cons_succ]
          refine wpAnyH_done (by kernel_rfl) ?_ _
          clear hHeld c0 c1 c2 c3 c4 c5 c6 f0 f1 f2 f3 f4 f5 f6
          have HOF := put7_own (b := w.heap.size) (u0 := .int .i64 t.kind) (u1 := .string (X.str t.name)) (u2 := .int .i64 t.op) (u3 := .int .i64 t.a) (u4 := .int .i64 t.b) (u5 := .int .i64 t.n) (u6 := .slice aw lw cw) HOQ.out (show w.heap.size < (w.alloc (.cells #[.int .i64 0, .string { data := #[] }, .int .i64 0, .int .i64 0, .int .i64 0, .int .i64 0, .slice none 0 0] 44)).heap.size by simp)
          have HF := Bx.put7 HQ'.out rfl (.int .i64 t.kind) (.string (X.str t.name)) (.int .i64 t.op) (.int .i64 t.a) (.int .i64 t.b) (.int .i64 t.n) (.slice aw lw cw)
          have HE : Below w.heap.size w (((((((Q.setCell ⟨w.heap.size, 0, none⟩ (.int .i64 t.kind)).setCell ⟨w.heap.size, 1, none⟩ (.string (X.str t.name))).setCell ⟨w.heap.size, 2, none⟩ (.int .i64 t.op)).setCell ⟨w.heap.size, 3, none⟩ (.int .i64 t.a)).setCell ⟨w.heap.size, 4, none⟩ (.int .i64 t.b)).setCell ⟨w.heap.size, 5, none⟩ (.int .i64 t.n)).setCell ⟨w.heap.size, 6, none⟩ (.slice aw lw cw)) := below_put7 HWQ.out (Nat.le_refl _)
          generalize (((((((Q.setCell ⟨w.heap.size, 0, none⟩ (.int .i64 t.kind)).setCell ⟨w.heap.size, 1, none⟩ (.string (X.str t.name))).setCell ⟨w.heap.size, 2, none⟩ (.int .i64 t.op)).setCell ⟨w.heap.size, 3, none⟩ (.int .i64 t.a)).setCell ⟨w.heap.size, 4, none⟩ (.int .i64 t.b)).setCell ⟨w.heap.size, 5, none⟩ (.int .i64 t.n)).setCell ⟨w.heap.size, 6, none⟩ (.slice aw lw cw)) = Wf at HF HE HOF ⊢
          have k0 := HF.c 0 _ rfl; have k1 := HF.c 1 _ rfl; have k2 := HF.c 2 _ rfl; have k3 := HF.c 3 _ rfl; have k4 := HF.c 4 _ rfl; have k5 := HF.c 5 _ rfl; have k6 := HF.c 6 _ rfl
          clear HPS
          go_wp2_with fail
          refine bodyPost_ret (v := .tuple #[.agg #[.int .i64 t.kind, .string (X.str t.name), .int .i64 t.op, .int .i64 t.a, .int .i64 t.b, .int .i64 t.n, .slice aw lw cw], .bool false]) (by simp [results, Tryz.results63, go_sem, k0, k1, k2, k3, k4, k5, k6]) rfl ?_
          exact ⟨t, aw, lw, cw, false, rfl, (fun h => by cases h), fun _ => HN.out, HH.out.2.2, own_baseB HOF (by simp), HE⟩
        · rw [hmk] at hmb
          have HN : Hid (X.read (f.data.toList :: ws) = some t) := by show _ = _; simp [X.read, HH.out.1 rfl, hmk]
          refine wp_region_held_drew (S := (fun z : World => z.cell? ⟨pb, 0, none⟩ = some (.int .i64 t.kind) ∧ z.cell? ⟨pb, 1, none⟩ = some (.string (X.str t.name)) ∧ z.cell? ⟨pb, 2, none⟩ = some (.int .i64 t.op) ∧ z.cell? ⟨pb, 3, none⟩ = some (.int .i64 t.a) ∧ z.cell? ⟨pb, 4, none⟩ = some (.int .i64 t.b) ∧ z.cell? ⟨pb, 5, none⟩ = some (.int .i64 t.n) ∧ z.cell? ⟨pb, 6, none⟩ = some (.slice aw lw cw))) (by kernel_rfl) (HS2.out _ (Below.refl _ _).drew) (fun hHeld => ?_)
          refine tk (i := 0) (v := ?_) (tA rfl) (by kernel_rfl) (fun _ _ _ h => h) (Or.inl ⟨by rfl, ?_⟩) (by assumption) ?_
          rotate_left
          · (intro w hSw; (try dsimp only at hSw); go_simp <;> with_reducible rfl)
          simp only [Act.put, List.setIfInBounds_toArray, List.set_cons_zero, List.set_cons_succ]
          refine tk (i := 1) (v := ?_) (tA rfl) (by kernel_rfl) (fun _ _ _ h => h) (Or.inl ⟨by rfl, ?_⟩) (by assumption) ?_
          rotate_left
          · (intro w hSw; (try dsimp only at hSw); go_simp <;> with_reducible rfl)
          simp only [Act.put, List.setIfInBounds_toArray, List.set_cons_zero, List.set_cons_succ]
          refine tk (i := 2) (v := ?_) (tA rfl) (by kernel_rfl) (fun _ _ _ h => h) (Or.inl ⟨by rfl, ?_⟩) (by assumption) ?_
          rotate_left
          · (intro w hSw; (try dsimp only at hSw); go_simp <;> with_reducible rfl)
          simp only [Act.put, List.setIfInBounds_toArray, List.set_cons_zero, List.set_cons_succ]
          refine tk (i := 3) (v := ?_) (tA rfl) (by kernel_rfl) (fun _ _ _ h => h) (Or.inl ⟨by rfl, ?_⟩) (by assumption) ?_
          rotate_left
          · (intro w hSw; (try dsimp only at hSw); go_simp <;> with_reducible rfl)
          simp only [Act.put, List.setIfInBounds_toArray, List.set_cons_zero, List.set_cons_succ]
          refine wpAnyH_ready (rs := [4]) (by kernel_rfl) (by simp) ?_
          refine AllReadyH.cons (tA rfl) (fun K hK => ?_) AllReadyH.nil
          go_simp
          refine (hmb _ (HTY.out.below (Below.refl _ _).drew)).mono ?_
          rintro e Q ⟨rfl, hb2⟩
          have HBQ : Hid (Below Y.heap.size Y Q) := (Below.refl _ _).drew.trans hb2
          clear hb2
          refine hK.out _ _ (HS2.out _ HBQ.out) (fun hHeld => ?_)
          clear hK K
          try simp only [Act.put, List.setIfInBounds_toArray, List.set_cons_zero, List.set_cons_succ]
          refine tk (i := 5) (v := ?_) (tA rfl) (by kernel_rfl) (fun _ _ _ h => h) (Or.inl ⟨by rfl, ?_⟩) (by assumption) ?_
          rotate_left
          · (intro w hSw; (try dsimp only at hSw); go_simp <;> with_reducible rfl)
          simp only [Act.put, List.setIfInBounds_toArray, List.set_cons_zero, List.set_cons_succ]
          have HQ := HRS.out.below HBQ.out
          have HQ' : Hid _ := HQ
          have c0 := HQ.c 0 _ rfl; have c1 := HQ.c 1 _ rfl; have c2 := HQ.c 2 _ rfl; have c3 := HQ.c 3 _ rfl; have c4 := HQ.c 4 _ rfl; have c5 := HQ.c 5 _ rfl; have c6 := HQ.c 6 _ rfl
          have f0 := HQ.f 0; have f1 := HQ.f 1; have f2 := HQ.f 2; have f3 := HQ.f 3; have f4 := HQ.f 4; have f5 := HQ.f 5; have f6 := HQ.f 6
          have HWQ : Hid (Below w.heap.size w Q) := HW.out.trans (HBQ.out.mono HW.out.size)
          have HOQ : Hid (Q.ownsRow (w.alloc (.cells #[.int .i64 0, .string { data := #[] }, .int .i64 0, .int .i64 0, .int .i64 0, .int .i64 0, .slice none 0 0] 44)).heap.size 2 1 (.slice aw lw cw) lw (iC t.words)) := own_thru HOY.out HBQ.out
          clear HQ hmb
          refine wpAnyH_ready (rs := [6]) (by kernel_rfl) (by simp) ?_
          refine AllReadyH.cons (tA rfl) (fun K hK => ?_) AllReadyH.nil
          clear hHeld
          go_simp
          have HPS := (HBX.out.below HBQ.out)
          refine hK.out _ _ ?_ (fun hHeld => ?_)
          · exact put7_S HPS hly
          clear hK K
          try simp only [Act.put, List.setIfInBounds_toArray, List.set_cons_zero, List.set_cons_succ]
          refine tk (i := 7) (v := ?_) (tA rfl) (by kernel_rfl) (fun _ _ _ h => h) (Or.inl ⟨by rfl, ?_⟩) (by assumption) ?_
          rotate_left
          · (intro w hSw; (try dsimp only at hSw); go_simp <;> with_reducible rfl)
          simp only [Act.put, List.setIfInBounds_toArray, List.set_cons_zero, List.set_cons_succ]
          refine wpAnyH_done (by kernel_rfl) ?_ _
          clear hHeld c0 c1 c2 c3 c4 c5 c6 f0 f1 f2 f3 f4 f5 f6
          have HOF := put7_own (b := w.heap.size) (u0 := .int .i64 t.kind) (u1 := .string (X.str t.name)) (u2 := .int .i64 t.op) (u3 := .int .i64 t.a) (u4 := .int .i64 t.b) (u5 := .int .i64 t.n) (u6 := .slice aw lw cw) HOQ.out (show w.heap.size < (w.alloc (.cells #[.int .i64 0, .string { data := #[] }, .int .i64 0, .int .i64 0, .int .i64 0, .int .i64 0, .slice none 0 0] 44)).heap.size by simp)
          have HF := Bx.put7 HQ'.out rfl (.int .i64 t.kind) (.string (X.str t.name)) (.int .i64 t.op) (.int .i64 t.a) (.int .i64 t.b) (.int .i64 t.n) (.slice aw lw cw)
          have HE : Below w.heap.size w (((((((Q.setCell ⟨w.heap.size, 0, none⟩ (.int .i64 t.kind)).setCell ⟨w.heap.size, 1, none⟩ (.string (X.str t.name))).setCell ⟨w.heap.size, 2, none⟩ (.int .i64 t.op)).setCell ⟨w.heap.size, 3, none⟩ (.int .i64 t.a)).setCell ⟨w.heap.size, 4, none⟩ (.int .i64 t.b)).setCell ⟨w.heap.size, 5, none⟩ (.int .i64 t.n)).setCell ⟨w.heap.size, 6, none⟩ (.slice aw lw cw)) := below_put7 HWQ.out (Nat.le_refl _)
          generalize (((((((Q.setCell ⟨w.heap.size, 0, none⟩ (.int .i64 t.kind)).setCell ⟨w.heap.size, 1, none⟩ (.string (X.str t.name))).setCell ⟨w.heap.size, 2, none⟩ (.int .i64 t.op)).setCell ⟨w.heap.size, 3, none⟩ (.int .i64 t.a)).setCell ⟨w.heap.size, 4, none⟩ (.int .i64 t.b)).setCell ⟨w.heap.size, 5, none⟩ (.int .i64 t.n)).setCell ⟨w.heap.size, 6, none⟩ (.slice aw lw cw)) = Wf at HF HE HOF ⊢
          have k0 := HF.c 0 _ rfl; have k1 := HF.c 1 _ rfl; have k2 := HF.c 2 _ rfl; have k3 := HF.c 3 _ rfl; have k4 := HF.c 4 _ rfl; have k5 := HF.c 5 _ rfl; have k6 := HF.c 6 _ rfl
          clear HPS
          go_wp2_with fail
          refine bodyPost_ret (v := .tuple #[.agg #[.int .i64 t.kind, .string (X.str t.name), .int .i64 t.op, .int .i64 t.a, .int .i64 t.b, .int .i64 t.n, .slice aw lw cw], .bool true]) (by simp [results, Tryz.results63, go_sem, k0, k1, k2, k3, k4, k5, k6]) rfl ?_
          exact ⟨t, aw, lw, cw, true, rfl, fun _ => HN.out, (fun h => by cases h), HH.out.2.2, own_baseB HOF (by simp), HE⟩
  · skip
    go_enter Tryz.func63, Tryz.ntmps63
    go_wp2_with fail
    refine wp_region_held_drew (S := (fun y : World => y.cell? ⟨b, off, none⟩ = some (.string f))) (by kernel_rfl) (HS.out _ (Below.refl _ _).drew) (fun hHeld => ?_)
    refine tk (i := 0) (v := ?_) (tA rfl) (by kernel_rfl) (fun _ _ _ h => h) (Or.inl ⟨by rfl, ?_⟩) (by assumption) ?_
    rotate_left
    · (intro w hSw; (try dsimp only at hSw); go_simp <;> with_reducible rfl)
    simp only [Act.put, List.setIfInBounds_toArray, List.set_cons_zero, List.set_cons_succ]
    refine tk (i := 1) (v := ?_) (tA rfl) (by kernel_rfl) (fun _ _ _ h => h) (Or.inl ⟨by rfl, ?_⟩) (by assumption) ?_
    rotate_left
    · (intro w hSw; (try dsimp only at hSw); go_simp <;> with_reducible rfl)
    simp only [Act.put, List.setIfInBounds_toArray, List.set_cons_zero, List.set_cons_succ]
    refine tk (i := 2) (v := ?_) (tA rfl) (by kernel_rfl) (fun _ _ _ h => h) (Or.inl ⟨by rfl, ?_⟩) (by assumption) ?_
    rotate_left
    · (intro w hSw; (try dsimp only at hSw); go_simp <;> with_reducible rfl)
    simp only [Act.put, List.setIfInBounds_toArray, List.set_cons_zero, List.set_cons_succ]
    refine tk (i := 3) (v := ?_) (tA rfl) (by kernel_rfl) (fun _ _ _ h => h) (Or.inl ⟨by rfl, ?_⟩) (by assumption) ?_
    rotate_left
    · (intro w hSw; (try dsimp only at hSw); go_simp <;> with_reducible rfl)
    simp only [Act.put, List.setIfInBounds_toArray, List.set_cons_zero, List.set_cons_succ]
    refine tk (i := 4) (v := ?_) (tA rfl) (by kernel_rfl) (fun _ _ _ h => h) (Or.inl ⟨by rfl, ?_⟩) (by assumption) ?_
    rotate_left
    · (intro w hSw; (try dsimp only at hSw); go_simp <;> with_reducible rfl)
    simp only [Act.put, List.setIfInBounds_toArray, List.set_cons_zero, List.set_cons_succ]
    refine wpAnyH_ready (rs := [5, 9]) (by kernel_rfl) (by simp) ?_
    refine AllReadyH.cons (tA rfl) (fun K hK => ?_) (AllReadyH.cons (tA rfl) (fun K hK => ?_) AllReadyH.nil)
    · go_simp
      refine (take_any f hf (HV.out.below ((bl1 _ _).trans (Below.refl _ _).drew)) (by omega) ((HT.out.alloc _).below (Below.refl _ _).drew)).mono ?_
      rintro e y ⟨t, aw, lw, cw, ok, rfl, h1, h2, h3, ho, hb⟩
      have HH : Hid ((ok = true → X.take f.data.toList ws = some t) ∧ (ok = false → X.take f.data.toList ws = none) ∧ t.name.length ≤ 200000) := ⟨h1, h2, h3⟩
      have HB : Hid (Below (w.alloc (.cells #[.int .i64 0, .string { data := #[] }, .int .i64 0, .int .i64 0, .int .i64 0, .int .i64 0, .slice none 0 0] 44)).heap.size (w.alloc (.cells #[.int .i64 0, .string { data := #[] }, .int .i64 0, .int .i64 0, .int .i64 0, .int .i64 0, .slice none 0 0] 44)) y) := (Below.refl _ _).drew.trans hb
      have HO : Hid (y.ownsRow (w.alloc (.cells #[.int .i64 0, .string { data := #[] }, .int .i64 0, .int .i64 0, .int .i64 0, .int .i64 0, .slice none 0 0] 44)).heap.size 2 1 (.slice aw lw cw) lw (iC t.words)) := ho
      clear h1 h2 h3 ho hb
      refine hK.out _ _ (HS.out _ HB.out) (fun hHeld => ?_)
      clear hK K
      try simp only [Act.put, List.setIfInBounds_toArray, List.set_cons_zero, List.set_cons_succ]
      refine tk (i := 6) (v := ?_) (tA rfl) (by kernel_rfl) (fun _ _ _ h => h) (Or.inl ⟨by rfl, ?_⟩) (by assumption) ?_
      rotate_left
      · (intro w hSw; (try dsimp only at hSw); go_simp <;> with_reducible rfl)
      simp only [Act.put, List.setIfInBounds_toArray, List.set_cons_zero, List.set_cons_succ]
      refine tk (i := 7) (v := ?_) (tA rfl) (by kernel_rfl) (fun _ _ _ h => h) (Or.inl ⟨by rfl, ?_⟩) (by assumption) ?_
      rotate_left
      · (intro w hSw; (try dsimp only at hSw); go_simp <;> with_reducible rfl)
      simp only [Act.put, List.setIfInBounds_toArray, List.set_cons_zero, List.set_cons_succ]
      refine tk (i := 8) (v := ?_) (tA rfl) (by kernel_rfl) (fun _ _ _ h => h) (Or.inl ⟨by rfl, ?_⟩) (by assumption) ?_
      rotate_left
      · (intro w hSw; (try dsimp only at hSw); go_simp <;> with_reducible rfl)
      simp only [Act.put, List.setIfInBounds_toArray, List.set_cons_zero, List.set_cons_succ]
      refine wpAnyH_ready (rs := [9]) (by kernel_rfl) (by simp) ?_
      refine AllReadyH.cons (tA rfl) (fun K hK => ?_) AllReadyH.nil
      go_simp
      refine hK.out _ _ (HS.out _ (HB.out.alloc HB.out.size _)) (fun hHeld => ?_)
      clear hK K
      try simp only [Act.put, List.setIfInBounds_toArray, List.set_cons_zero, List.set_cons_succ]
      refine wpAnyH_ready (rs := [10]) (by kernel_rfl) (by simp) ?_
      refine AllReadyH.cons (tA rfl) (fun K hK => ?_) AllReadyH.nil
      go_simp
      refine hK.out _ _ (HS.out _ (HB.out.alloc HB.out.size _)) (fun hHeld => ?_)
      clear hK K
      try simp only [Act.put, List.setIfInBounds_toArray, List.set_cons_zero, List.set_cons_succ]
      refine tk (i := 11) (v := ?_) (tA rfl) (by kernel_rfl) (fun _ _ _ h => h) (Or.inl ⟨by rfl, ?_⟩) (by assumption) ?_
      rotate_left
      · (intro w hSw; (try dsimp only at hSw); go_simp <;> with_reducible rfl)
      simp only [Act.put, List.setIfInBounds_toArray, List.set_cons_zero, List.set_cons_succ]
      refine wpAnyH_done (by kernel_rfl) ?_ _
      clear hHeld
      go_wp2_with fail
      have HBX : Hid (Bx (y.alloc (.cells #[.int .i64 t.kind, .string (X.str t.name), .int .i64 t.op, .int .i64 t.a, .int .i64 t.b, .int .i64 t.n, .slice aw lw cw] 44)) y.heap.size [.int .i64 t.kind, .string (X.str t.name), .int .i64 t.op, .int .i64 t.a, .int .i64 t.b, .int .i64 t.n, .slice aw lw cw]) := Bx.new _ _ _
      have HRS : Hid (Bx (y.alloc (.cells #[.int .i64 t.kind, .string (X.str t.name), .int .i64 t.op, .int .i64 t.a, .int .i64 t.b, .int .i64 t.n, .slice aw lw cw] 44)) w.heap.size [.int .i64 0, .string { data := #[] }, .int .i64 0, .int .i64 0, .int .i64 0, .int .i64 0, .slice none 0 0]) := (HZ.out.below HB.out).below (bl1 _ _)
      have HW : Hid (Below w.heap.size w (y.alloc (.cells #[.int .i64 t.kind, .string (X.str t.name), .int .i64 t.op, .int .i64 t.a, .int .i64 t.b, .int .i64 t.n, .slice aw lw cw] 44))) := (bl1 _ _).trans ((HB.out.alloc HB.out.size _).mono (bl1 _ _).size)
      have HTY : Hid (Tab (y.alloc (.cells #[.int .i64 t.kind, .string (X.str t.name), .int .i64 t.op, .int .i64 t.a, .int .i64 t.b, .int .i64 t.n, .slice aw lw cw] 44))) := HT.out.below HW.out
      have HOY : Hid (World.ownsRow (y.alloc (.cells #[.int .i64 t.kind, .string (X.str t.name), .int .i64 t.op, .int .i64 t.a, .int .i64 t.b, .int .i64 t.n, .slice aw lw cw] 44)) (w.alloc (.cells #[.int .i64 0, .string { data := #[] }, .int .i64 0, .int .i64 0, .int .i64 0, .int .i64 0, .slice none 0 0] 44)).heap.size 2 1 (.slice aw lw cw) lw (iC t.words)) := own_thru HO.out (bl1 _ _)
      have hlw : t.words.length = lw := by have := HOY.out.1; unfold iC at this; simpa using this
      have hmb := fun w h => mayBe_any t.kind (X.str t.name) t.op t.a t.b t.n aw lw cw t.words hlw (by rw [str_size]; have := HH.out.2.2; unfold maxLen; omega) w h
      simp only [str_list] at hmb
      rw [show (⟨t.kind, t.name, t.op, t.a, t.b, t.n, t.words⟩ : X.It) = t from rfl] at hmb
      have hly : y.heap.size ≠ w.heap.size := by have := HB.out.size; simp at this; omega
      generalize hY : (y.alloc (.cells #[.int .i64 t.kind, .string (X.str t.name), .int .i64 t.op, .int .i64 t.a, .int .i64 t.b, .int .i64 t.n, .slice aw lw cw] 44)) = Y at HBX HRS HW HTY HOY ⊢
      clear hY HB HO
      generalize y.heap.size = pb at *
      have HS2 : Hid (∀ z, Below Y.heap.size Y z → (fun z : World => z.cell? ⟨pb, 0, none⟩ = some (.int .i64 t.kind) ∧ z.cell? ⟨pb, 1, none⟩ = some (.string (X.str t.name)) ∧ z.cell? ⟨pb, 2, none⟩ = some (.int .i64 t.op) ∧ z.cell? ⟨pb, 3, none⟩ = some (.int .i64 t.a) ∧ z.cell? ⟨pb, 4, none⟩ = some (.int .i64 t.b) ∧ z.cell? ⟨pb, 5, none⟩ = some (.int .i64 t.n) ∧ z.cell? ⟨pb, 6, none⟩ = some (.slice aw lw cw)) z) := fun z hz => by
        have q := HBX.out.below hz
        exact ⟨q.c 0 _ rfl, q.c 1 _ rfl, q.c 2 _ rfl, q.c 3 _ rfl, q.c 4 _ rfl, q.c 5 _ rfl, q.c 6 _ rfl⟩
      cases ok with
      | false =>
        have HN : Hid (X.read (f.data.toList :: ws) = none) := by show _ = _; simp [X.read, HH.out.2.1 rfl]
        refine wp_region_held_drew (S := (fun z : World => z.cell? ⟨pb, 0, none⟩ = some (.int .i64 t.kind) ∧ z.cell? ⟨pb, 1, none⟩ = some (.string (X.str t.name)) ∧ z.cell? ⟨pb, 2, none⟩ = some (.int .i64 t.op) ∧ z.cell? ⟨pb, 3, none⟩ = some (.int .i64 t.a) ∧ z.cell? ⟨pb, 4, none⟩ = some (.int .i64 t.b) ∧ z.cell? ⟨pb, 5, none⟩ = some (.int .i64 t.n) ∧ z.cell? ⟨pb, 6, none⟩ = some (.slice aw lw cw))) (by kernel_rfl) (HS2.out _ (Below.refl _ _).drew) (fun hHeld => ?_)
        refine tk (i := 0) (v := ?_) (tA rfl) (by kernel_rfl) (fun _ _ _ h => h) (Or.inl ⟨by rfl, ?_⟩) (by assumption) ?_
        rotate_left
        · (intro w hSw; (try dsimp only at hSw); go_simp <;> with_reducible rfl)
        simp only [Act.put, List.setIfInBounds_toArray, List.set_cons_zero, List.set_cons_succ]
        refine tk (i := 1) (v := ?_) (tA rfl) (by kernel_rfl) (fun _ _ _ h => h) (Or.inl ⟨by rfl, ?_⟩) (by assumption) ?_
        rotate_left
        · (intro w hSw; (try dsimp only at hSw); go_simp <;> with_reducible rfl)
        simp only [Act.put, List.setIfInBounds_toArray, List.set_cons_zero, List.set_cons_succ]
        refine tk (i := 2) (v := ?_) (tA rfl) (by kernel_rfl) (fun _ _ _ h => h) (Or.inl ⟨by rfl, ?_⟩) (by assumption) ?_
        rotate_left
        · (intro w hSw; (try dsimp only at hSw); go_simp <;> with_reducible rfl)
        simp only [Act.put, List.setIfInBounds_toArray, List.set_cons_zero, List.set_cons_succ]
        refine tk (i := 3) (v := undef) (tA rfl) (by kernel_rfl) (fun _ _ _ h => h) (Or.inr ⟨by rfl, rfl⟩) (by assumption) ?_
        simp only [Act.put, List.setIfInBounds_toArray, List.set_cons_zero, List.set_cons_succ]
        refine tk (i := 4) (v := undef) (tA rfl) (by kernel_rfl) (fun _ _ _ h => h) (Or.inr ⟨by rfl, rfl⟩) (by assumption) ?_
        simp only [Act.put, List.setIfInBounds_toArray, List.set_cons_zero, List.set_cons_succ]
        refine tk (i := 5) (v := ?_) (tA rfl) (by kernel_rfl) (fun _ _ _ h => h) (Or.inl ⟨by rfl, ?_⟩) (by assumption) ?_
        rotate_left
        · (intro w hSw; (try dsimp only at hSw); go_simp <;> with_reducible rfl)
        simp only [Act.put, List.setIfInBounds_toArray, List.set_cons_zero, List.set_cons_succ]
        obtain ⟨Q, hQ⟩ : ∃ Q, Y.drew = Q := ⟨_, rfl⟩
        have HBQ : Hid (Below Y.heap.size Y Q) := by show Below _ _ _; rw [← hQ]; exact (Below.refl _ _).drew
        rw [hQ]
        clear hQ
        have HQ := HRS.out.below HBQ.out
        have HQ' : Hid _ := HQ
        have c0 := HQ.c 0 _ rfl; have c1 := HQ.c 1 _ rfl; have c2 := HQ.c 2 _ rfl; have c3 := HQ.c 3 _ rfl; have c4 := HQ.c 4 _ rfl; have c5 := HQ.c 5 _ rfl; have c6 := HQ.c 6 _ rfl
        have f0 := HQ.f 0; have f1 := HQ.f 1; have f2 := HQ.f 2; have f3 := HQ.f 3; have f4 := HQ.f 4; have f5 := HQ.f 5; have f6 := HQ.f 6
        have HWQ : Hid (Below w.heap.size w Q) := HW.out.trans (HBQ.out.mono HW.out.size)
        have HOQ : Hid (Q.ownsRow (w.alloc (.cells #[.int .i64 0, .string { data := #[] }, .int .i64 0, .int .i64 0, .int .i64 0, .int .i64 0, .slice none 0 0] 44)).heap.size 2 1 (.slice aw lw cw) lw (iC t.words)) := own_thru HOY.out HBQ.out
        clear HQ hmb
        refine wpAnyH_ready (rs := [6]) (by kernel_rfl) (by simp) ?_
        refine AllReadyH.cons (tA rfl) (fun K hK => ?_) AllReadyH.nil
        clear hHeld
        go_simp
        have HPS := (HBX.out.below HBQ.out)
        refine hK.out _ _ ?_ (fun hHeld => ?_)
        · exact put7_S HPS hly
        clear hK K
        try simp only [Act.put, List.setIfInBounds_toArray, List.set_cons_zero, List.set_cons_succ]
        refine tk (i := 7) (v := ?_) (tA rfl) (by kernel_rfl) (fun _ _ _ h => h) (Or.inl ⟨by rfl, ?_⟩) (by assumption) ?_
        rotate_left
        · (intro w hSw; (try dsimp only at hSw); go_simp <;> with_reducible rfl)
        simp only [Act.put, List.setIfInBounds_toArray, List.set_cons_zero, List.set_cons_succ]
        refine wpAnyH_done (by kernel_rfl) ?_ _
        clear hHeld c0 c1 c2 c3 c4 c5 c6 f0 f1 f2 f3 f4 f5 f6
        have HOF := put7_own (b := w.heap.size) (u0 := .int .i64 t.kind) (u1 := .string (X.str t.name)) (u2 := .int .i64 t.op) (u3 := .int .i64 t.a) (u4 := .int .i64 t.b) (u5 := .int .i64 t.n) (u6 := .slice aw lw cw) HOQ.out (show w.heap.size < (w.alloc (.cells #[.int .i64 0, .string { data := #[] }, .int .i64 0, .int .i64 0, .int .i64 0, .int .i64 0, .slice none 0 0] 44)).heap.size by simp)
        have HF := Bx.put7 HQ'.out rfl (.int .i64 t.kind) (.string (X.str t.name)) (.int .i64 t.op) (.int .i64 t.a) (.int .i64 t.b) (.int .i64 t.n) (.slice aw lw cw)
        have HE : Below w.heap.size w (((((((Q.setCell ⟨w.heap.size, 0, none⟩ (.int .i64 t.kind)).setCell ⟨w.heap.size, 1, none⟩ (.string (X.str t.name))).setCell ⟨w.heap.size, 2, none⟩ (.int .i64 t.op)).setCell ⟨w.heap.size, 3, none⟩ (.int .i64 t.a)).setCell ⟨w.heap.size, 4, none⟩ (.int .i64 t.b)).setCell ⟨w.heap.size, 5, none⟩ (.int .i64 t.n)).setCell ⟨w.heap.size, 6, none⟩ (.slice aw lw cw)) := below_put7 HWQ.out (Nat.le_refl _)
        generalize (((((((Q.setCell ⟨w.heap.size, 0, none⟩ (.int .i64 t.kind)).setCell ⟨w.heap.size, 1, none⟩ (.string (X.str t.name))).setCell ⟨w.heap.size, 2, none⟩ (.int .i64 t.op)).setCell ⟨w.heap.size, 3, none⟩ (.int .i64 t.a)).setCell ⟨w.heap.size, 4, none⟩ (.int .i64 t.b)).setCell ⟨w.heap.size, 5, none⟩ (.int .i64 t.n)).setCell ⟨w.heap.size, 6, none⟩ (.slice aw lw cw)) = Wf at HF HE HOF ⊢
        have k0 := HF.c 0 _ rfl; have k1 := HF.c 1 _ rfl; have k2 := HF.c 2 _ rfl; have k3 := HF.c 3 _ rfl; have k4 := HF.c 4 _ rfl; have k5 := HF.c 5 _ rfl; have k6 := HF.c 6 _ rfl
        clear HPS
        go_wp2_with fail
        refine bodyPost_ret (v := .tuple #[.agg #[.int .i64 t.kind, .string (X.str t.name), .int .i64 t.op, .int .i64 t.a, .int .i64 t.b, .int .i64 t.n, .slice aw lw cw], .bool false]) (by simp [results, Tryz.results63, go_sem, k0, k1, k2, k3, k4, k5, k6]) rfl ?_
        exact ⟨t, aw, lw, cw, false, rfl, (fun h => by cases h), fun _ => HN.out, HH.out.2.2, own_baseB HOF (by simp), HE⟩
      | true =>
        cases hmk : X.itOk t
        · rw [hmk] at hmb
          have HN : Hid (X.read (f.data.toList :: ws) = none) := by show _ = _; simp [X.read, HH.out.1 rfl, hmk]
          refine wp_region_held_drew (S := (fun z : World => z.cell? ⟨pb, 0, none⟩ = some (.int .i64 t.kind) ∧ z.cell? ⟨pb, 1, none⟩ = some (.string (X.str t.name)) ∧ z.cell? ⟨pb, 2, none⟩ = some (.int .i64 t.op) ∧ z.cell? ⟨pb, 3, none⟩ = some (.int .i64 t.a) ∧ z.cell? ⟨pb, 4, none⟩ = some (.int .i64 t.b) ∧ z.cell? ⟨pb, 5, none⟩ = some (.int .i64 t.n) ∧ z.cell? ⟨pb, 6, none⟩ = some (.slice aw lw cw))) (by kernel_rfl) (HS2.out _ (Below.refl _ _).drew) (fun hHeld => ?_)
          refine tk (i := 0) (v := ?_) (tA rfl) (by kernel_rfl) (fun _ _ _ h => h) (Or.inl ⟨by rfl, ?_⟩) (by assumption) ?_
          rotate_left
          · (intro w hSw; (try dsimp only at hSw); go_simp <;> with_reducible rfl)
          simp only [Act.put, List.setIfInBounds_toArray, List.set_cons_zero, List.set_cons_succ]
          refine tk (i := 1) (v := ?_) (tA rfl) (by kernel_rfl) (fun _ _ _ h => h) (Or.inl ⟨by rfl, ?_⟩) (by assumption) ?_
          rotate_left
          · (intro w hSw; (try dsimp only at hSw); go_simp <;> with_reducible rfl)
          simp only [Act.put, List.setIfInBounds_toArray, List.set_cons_zero, List.set_cons_succ]
          refine tk (i := 2) (v := ?_) (tA rfl) (by kernel_rfl) (fun _ _ _ h => h) (Or.inl ⟨by rfl, ?_⟩) (by assumption) ?_
          rotate_left
          · (intro w hSw; (try dsimp only at hSw); go_simp <;> with_reducible rfl)
          simp only [Act.put, List.setIfInBounds_toArray, List.set_cons_zero, List.set_cons_succ]
          refine tk (i := 3) (v := ?_) (tA rfl) (by kernel_rfl) (fun _ _ _ h => h) (Or.inl ⟨by rfl, ?_⟩) (by assumption) ?_
          rotate_left
          · (intro w hSw; (try dsimp only at hSw); go_simp <;> with_reducible rfl)
          simp only [Act.put, List.setIfInBounds_toArray, List.set_cons_zero, List.set_cons_succ]
          refine wpAnyH_ready (rs := [4]) (by kernel_rfl) (by simp) ?_
          refine AllReadyH.cons (tA rfl) (fun K hK => ?_) AllReadyH.nil
          go_simp
          refine (hmb _ (HTY.out.below (Below.refl _ _).drew)).mono ?_
          rintro e Q ⟨rfl, hb2⟩
          have HBQ : Hid (Below Y.heap.size Y Q) := (Below.refl _ _).drew.trans hb2
          clear hb2
          refine hK.out _ _ (HS2.out _ HBQ.out) (fun hHeld => ?_)
          clear hK K
          try simp only [Act.put, List.setIfInBounds_toArray, List.set_cons_zero, List.set_cons_succ]
          refine tk (i := 5) (v := ?_) (tA rfl) (by kernel_rfl) (fun _ _ _ h => h) (Or.inl ⟨by rfl, ?_⟩) (by assumption) ?_
          rotate_left
          · (intro w hSw; (try dsimp only at hSw); go_simp <;> with_reducible rfl)
          simp only [Act.put, List.setIfInBounds_toArray, List.set_cons_zero, List.set_cons_succ]
          have HQ := HRS.out.below HBQ.out
          have HQ' : Hid _ := HQ
          have c0 := HQ.c 0 _ rfl; have c1 := HQ.c 1 _ rfl; have c2 := HQ.c 2 _ rfl; have c3 := HQ.c 3 _ rfl; have c4 := HQ.c 4 _ rfl; have c5 := HQ.c 5 _ rfl; have c6 := HQ.c 6 _ rfl
          have f0 := HQ.f 0; have f1 := HQ.f 1; have f2 := HQ.f 2; have f3 := HQ.f 3; have f4 := HQ.f 4; have f5 := HQ.f 5; have f6 := HQ.f 6
          have HWQ : Hid (Below w.heap.size w Q) := HW.out.trans (HBQ.out.mono HW.out.size)
          have HOQ : Hid (Q.ownsRow (w.alloc (.cells #[.int .i64 0, .string { data := #[] }, .int .i64 0, .int .i64 0, .int .i64 0, .int .i64 0, .slice none 0 0] 44)).heap.size 2 1 (.slice aw lw cw) lw (iC t.words)) := own_thru HOY.out HBQ.out
          clear HQ hmb
          refine wpAnyH_ready (rs := [6]) (by kernel_rfl) (by simp) ?_
          refine AllReadyH.cons (tA rfl) (fun K hK => ?_) AllReadyH.nil
          clear hHeld
          go_simp
          have HPS := (HBX.out.below HBQ.out)
          refine hK.out _ _ ?_ (fun hHeld => ?_)
          · exact put7_S HPS hly
          clear hK K
          try simp only [Act.put, List.setIfInBounds_toArray, List.set_cons_zero, List.set_cons_succ]
          refine tk (i := 7) (v := ?_) (tA rfl) (by kernel_rfl) (fun _ _ _ h => h) (Or.inl ⟨by rfl, ?_⟩) (by assumption) ?_
          rotate_left
          · (intro w hSw; (try dsimp only at hSw); go_simp <;> with_reducible rfl)
          simp only [Act.put, List.setIfInBounds_toArray, List.set_cons_zero, List.set_cons_succ]
          refine wpAnyH_done (by kernel_rfl) ?_ _
          clear hHeld c0 c1 c2 c3 c4 c5 c6 f0 f1 f2 f3 f4 f5 f6
          have HOF := put7_own (b := w.heap.size) (u0 := .int .i64 t.kind) (u1 := .string (X.str t.name)) (u2 := .int .i64 t.op) (u3 := .int .i64 t.a) (u4 := .int .i64 t.b) (u5 := .int .i64 t.n) (u6 := .slice aw lw cw) HOQ.out (show w.heap.size < (w.alloc (.cells #[.int .i64 0, .string { data := #[] }, .int .i64 0, .int .i64 0, .int .i64 0, .int .i64 0, .slice none 0 0] 44)).heap.size by simp)
          have HF := Bx.put7 HQ'.out rfl (.int .i64 t.kind) (.string (X.str t.name)) (.int .i64 t.op) (.int .i64 t.a) (.int .i64 t.b) (.int .i64 t.n) (.slice aw lw cw)
          have HE : Below w.heap.size w (((((((Q.setCell ⟨w.heap.size, 0, none⟩ (.int .i64 t.kind)).setCell ⟨w.heap.size, 1, none⟩ (.string (X.str t.name))).setCell ⟨w.heap.size, 2, none⟩ (.int .i64 t.op)).setCell ⟨w.heap.size, 3, none⟩ (.int .i64 t.a)).setCell ⟨w.heap.size, 4, none⟩ (.int .i64 t.b)).setCell ⟨w.heap.size, 5, none⟩ (.int .i64 t.n)).setCell ⟨w.heap.size, 6, none⟩ (.slice aw lw cw)) := below_put7 HWQ.out (Nat.le_refl _)
          generalize (((((((Q.setCell ⟨w.heap.size, 0, none⟩ (.int .i64 t.kind)).setCell ⟨w.heap.size, 1, none⟩ (.string (X.str t.name))).setCell ⟨w.heap.size, 2, none⟩ (.int .i64 t.op)).setCell ⟨w.heap.size, 3, none⟩ (.int .i64 t.a)).setCell ⟨w.heap.size, 4, none⟩ (.int .i64 t.b)).setCell ⟨w.heap.size, 5, none⟩ (.int .i64 t.n)).setCell ⟨w.heap.size, 6, none⟩ (.slice aw lw cw)) = Wf at HF HE HOF ⊢
          have k0 := HF.c 0 _ rfl; have k1 := HF.c 1 _ rfl; have k2 := HF.c 2 _ rfl; have k3 := HF.c 3 _ rfl; have k4 := HF.c 4 _ rfl; have k5 := HF.c 5 _ rfl; have k6 := HF.c 6 _ rfl
          clear HPS
          go_wp2_with fail
          refine bodyPost_ret (v := .tuple #[.agg #[.int .i64 t.kind, .string (X.str t.name), .int .i64 t.op, .int .i64 t.a, .int .i64 t.b, .int .i64 t.n, .slice aw lw cw], .bool false]) (by simp [results, Tryz.results63, go_sem, k0, k1, k2, k3, k4, k5, k6]) rfl ?_
          exact ⟨t, aw, lw, cw, false, rfl, (fun h => by cases h), fun _ => HN.out, HH.out.2.2, own_baseB HOF (by simp), HE⟩
        · rw [hmk] at hmb
          have HN : Hid (X.read (f.data.toList :: ws) = some t) := by show _ = _; simp [X.read, HH.out.1 rfl, hmk]
          refine wp_region_held_drew (S := (fun z : World => z.cell? ⟨pb, 0, none⟩ = some (.int .i64 t.kind) ∧ z.cell? ⟨pb, 1, none⟩ = some (.string (X.str t.name)) ∧ z.cell? ⟨pb, 2, none⟩ = some (.int .i64 t.op) ∧ z.cell? ⟨pb, 3, none⟩ = some (.int .i64 t.a) ∧ z.cell? ⟨pb, 4, none⟩ = some (.int .i64 t.b) ∧ z.cell? ⟨pb, 5, none⟩ = some (.int .i64 t.n) ∧ z.cell? ⟨pb, 6, none⟩ = some (.slice aw lw cw))) (by kernel_rfl) (HS2.out _ (Below.refl _ _).drew) (fun hHeld => ?_)
          refine tk (i := 0) (v := ?_) (tA rfl) (by kernel_rfl) (fun _ _ _ h => h) (Or.inl ⟨by rfl, ?_⟩) (by assumption) ?_
          rotate_left
          · (intro w hSw; (try dsimp only at hSw); go_simp <;> with_reducible rfl)
          simp only [Act.put, List.setIfInBounds_toArray, List.set_cons_zero, List.set_cons_succ]
          refine tk (i := 1) (v := ?_) (tA rfl) (by kernel_rfl) (fun _ _ _ h => h) (Or.inl ⟨by rfl, ?_⟩) (by assumption) ?_
          rotate_left
          · (intro w hSw; (try dsimp only at hSw); go_simp <;> with_reducible rfl)
          simp only [Act.put, List.setIfInBounds_toArray, List.set_cons_zero, List.set_cons_succ]
          refine tk (i := 2) (v := ?_) (tA rfl) (by kernel_rfl) (fun _ _ _ h => h) (Or.inl ⟨by rfl, ?_⟩) (by assumption) ?_
          rotate_left
          · (intro w hSw; (try dsimp only at hSw); go_simp <;> with_reducible rfl)
          simp only [Act.put, List.setIfInBounds_toArray, List.set_cons_zero, List.set_cons_succ]
          refine tk (i := 3) (v := ?_) (tA rfl) (by kernel_rfl) (fun _ _ _ h => h) (Or.inl ⟨by rfl, ?_⟩) (by assumption) ?_
          rotate_left
          · (intro w hSw; (try dsimp only at hSw); go_simp <;> with_reducible rfl)
          simp only [Act.put, List.setIfInBounds_toArray, List.set_cons_zero, List.set_cons_succ]
          refine wpAnyH_ready (rs := [4]) (by kernel_rfl) (by simp) ?_
          refine AllReadyH.cons (tA rfl) (fun K hK => ?_) AllReadyH.nil
          go_simp
          refine (hmb _ (HTY.out.below (Below.refl _ _).drew)).mono ?_
          rintro e Q ⟨rfl, hb2⟩
          have HBQ : Hid (Below Y.heap.size Y Q) := (Below.refl _ _).drew.trans hb2
          clear hb2
          refine hK.out _ _ (HS2.out _ HBQ.out) (fun hHeld => ?_)
          clear hK K
          try simp only [Act.put, List.setIfInBounds_toArray, List.set_cons_zero, List.set_cons_succ]
          refine tk (i := 5) (v := ?_) (tA rfl) (by kernel_rfl) (fun _ _ _ h => h) (Or.inl ⟨by rfl, ?_⟩) (by assumption) ?_
          rotate_left
          · (intro w hSw; (try dsimp only at hSw); go_simp <;> with_reducible rfl)
          simp only [Act.put, List.setIfInBounds_toArray, List.set_cons_zero, List.set_cons_succ]
          have HQ := HRS.out.below HBQ.out
          have HQ' : Hid _ := HQ
          have c0 := HQ.c 0 _ rfl; have c1 := HQ.c 1 _ rfl; have c2 := HQ.c 2 _ rfl; have c3 := HQ.c 3 _ rfl; have c4 := HQ.c 4 _ rfl; have c5 := HQ.c 5 _ rfl; have c6 := HQ.c 6 _ rfl
          have f0 := HQ.f 0; have f1 := HQ.f 1; have f2 := HQ.f 2; have f3 := HQ.f 3; have f4 := HQ.f 4; have f5 := HQ.f 5; have f6 := HQ.f 6
          have HWQ : Hid (Below w.heap.size w Q) := HW.out.trans (HBQ.out.mono HW.out.size)
          have HOQ : Hid (Q.ownsRow (w.alloc (.cells #[.int .i64 0, .string { data := #[] }, .int .i64 0, .int .i64 0, .int .i64 0, .int .i64 0, .slice none 0 0] 44)).heap.size 2 1 (.slice aw lw cw) lw (iC t.words)) := own_thru HOY.out HBQ.out
          clear HQ hmb
          refine wpAnyH_ready (rs := [6]) (by kernel_rfl) (by simp) ?_
          refine AllReadyH.cons (tA rfl) (fun K hK => ?_) AllReadyH.nil
          clear hHeld
          go_simp
          have HPS := (HBX.out.below HBQ.out)
          refine hK.out _ _ ?_ (fun hHeld => ?_)
          · exact put7_S HPS hly
          clear hK K
          try simp only [Act.put, List.setIfInBounds_toArray, List.set_cons_zero, List.set_cons_succ]
          refine tk (i := 7) (v := ?_) (tA rfl) (by kernel_rfl) (fun _ _ _ h => h) (Or.inl ⟨by rfl, ?_⟩) (by assumption) ?_
          rotate_left
          · (intro w hSw; (try dsimp only at hSw); go_simp <;> with_reducible rfl)
          simp only [Act.put, List.setIfInBounds_toArray, List.set_cons_zero, List.set_cons_succ]
          refine wpAnyH_done (by kernel_rfl) ?_ _
          clear hHeld c0 c1 c2 c3 c4 c5 c6 f0 f1 f2 f3 f4 f5 f6
          have HOF := put7_own (b := w.heap.size) (u0 := .int .i64 t.kind) (u1 := .string (X.str t.name)) (u2 := .int .i64 t.op) (u3 := .int .i64 t.a) (u4 := .int .i64 t.b) (u5 := .int .i64 t.n) (u6 := .slice aw lw cw) HOQ.out (show w.heap.size < (w.alloc (.cells #[.int .i64 0, .string { data := #[] }, .int .i64 0, .int .i64 0, .int .i64 0, .int .i64 0, .slice none 0 0] 44)).heap.size by simp)
          have HF := Bx.put7 HQ'.out rfl (.int .i64 t.kind) (.string (X.str t.name)) (.int .i64 t.op) (.int .i64 t.a) (.int .i64 t.b) (.int .i64 t.n) (.slice aw lw cw)
          have HE : Below w.heap.size w (((((((Q.setCell ⟨w.heap.size, 0, none⟩ (.int .i64 t.kind)).setCell ⟨w.heap.size, 1, none⟩ (.string (X.str t.name))).setCell ⟨w.heap.size, 2, none⟩ (.int .i64 t.op)).setCell ⟨w.heap.size, 3, none⟩ (.int .i64 t.a)).setCell ⟨w.heap.size, 4, none⟩ (.int .i64 t.b)).setCell ⟨w.heap.size, 5, none⟩ (.int .i64 t.n)).setCell ⟨w.heap.size, 6, none⟩ (.slice aw lw cw)) := below_put7 HWQ.out (Nat.le_refl _)
          generalize (((((((Q.setCell ⟨w.heap.size, 0, none⟩ (.int .i64 t.kind)).setCell ⟨w.heap.size, 1, none⟩ (.string (X.str t.name))).setCell ⟨w.heap.size, 2, none⟩ (.int .i64 t.op)).setCell ⟨w.heap.size, 3, none⟩ (.int .i64 t.a)).setCell ⟨w.heap.size, 4, none⟩ (.int .i64 t.b)).setCell ⟨w.heap.size, 5, none⟩ (.int .i64 t.n)).setCell ⟨w.heap.size, 6, none⟩ (.slice aw lw cw)) = Wf at HF HE HOF ⊢
          have k0 := HF.c 0 _ rfl; have k1 := HF.c 1 _ rfl; have k2 := HF.c 2 _ rfl; have k3 := HF.c 3 _ rfl; have k4 := HF.c 4 _ rfl; have k5 := HF.c 5 _ rfl; have k6 := HF.c 6 _ rfl
          clear HPS
          go_wp2_with fail
          refine bodyPost_ret (v := .tuple #[.agg #[.int .i64 t.kind, .string (X.str t.name), .int .i64 t.op, .int .i64 t.a, .int .i64 t.b, .int .i64 t.n, .slice aw lw cw], .bool true]) (by simp [results, Tryz.results63, go_sem, k0, k1, k2, k3, k4, k5, k6]) rfl ?_
          exact ⟨t, aw, lw, cw, true, rfl, fun _ => HN.out, (fun h => by cases h), HH.out.2.2, own_baseB HOF (by simp), HE⟩
    · go_simp
      have HXB : Hid (Below (w.alloc (.cells #[.int .i64 0, .string { data := #[] }, .int .i64 0, .int .i64 0, .int .i64 0, .int .i64 0, .slice none 0 0] 44)).heap.size (w.alloc (.cells #[.int .i64 0, .string { data := #[] }, .int .i64 0, .int .i64 0, .int .i64 0, .int .i64 0, .slice none 0 0] 44)) (((w.alloc (.cells #[.int .i64 0, .string { data := #[] }, .int .i64 0, .int .i64 0, .int .i64 0, .int .i64 0, .slice none 0 0] 44)).alloc (.cells #[.int .i64 0, .string { data := #[] }, .int .i64 0, .int .i64 0, .int .i64 0, .int .i64 0, .slice none 0 0] 44)).drew)) := (bl1 _ _).drew
      have HPB : Hid (Bx (((w.alloc (.cells #[.int .i64 0, .string { data := #[] }, .int .i64 0, .int .i64 0, .int .i64 0, .int .i64 0, .slice none 0 0] 44)).alloc (.cells #[.int .i64 0, .string { data := #[] }, .int .i64 0, .int .i64 0, .int .i64 0, .int .i64 0, .slice none 0 0] 44)).drew) (w.heap.size + 1) [.int .i64 0, .string { data := #[] }, .int .i64 0, .int .i64 0, .int .i64 0, .int .i64 0, .slice none 0 0]) := by show Bx _ _ _; have q := (Bx.new (w.alloc (.cells #[.int .i64 0, .string { data := #[] }, .int .i64 0, .int .i64 0, .int .i64 0, .int .i64 0, .slice none 0 0] 44)) #[.int .i64 0, .string { data := #[] }, .int .i64 0, .int .i64 0, .int .i64 0, .int .i64 0, .slice none 0 0] 44).below (Below.refl _ _).drew; simpa using q
      refine hK.out _ _ (HS.out _ HXB.out) (fun hHeld => ?_)
      clear hK K
      try simp only [Act.put, List.setIfInBounds_toArray, List.set_cons_zero, List.set_cons_succ]
      refine wpAnyH_ready (rs := [5]) (by kernel_rfl) (by simp) ?_
      refine AllReadyH.cons (tA rfl) (fun K hK => ?_) AllReadyH.nil
      go_simp
      refine (take_any f hf (HV.out.below ((bl1 _ _).trans (HXB.out.mono (bl1 _ _).size))) (by omega) ((HT.out.alloc _).below HXB.out)).mono ?_
      rintro e y ⟨t, aw, lw, cw, ok, rfl, h1, h2, h3, ho, hb⟩
      have HH : Hid ((ok = true → X.take f.data.toList ws = some t) ∧ (ok = false → X.take f.data.toList ws = none) ∧ t.name.length ≤ 200000) := ⟨h1, h2, h3⟩
      have HB : Hid (Below (w.alloc (.cells #[.int .i64 0, .string { data := #[] }, .int .i64 0, .int .i64 0, .int .i64 0, .int .i64 0, .slice none 0 0] 44)).heap.size (w.alloc (.cells #[.int .i64 0, .string { data := #[] }, .int .i64 0, .int .i64 0, .int .i64 0, .int .i64 0, .slice none 0 0] 44)) y) := HXB.out.trans (hb.mono HXB.out.size)
      have HPY : Hid (Bx y (w.heap.size + 1) [.int .i64 0, .string { data := #[] }, .int .i64 0, .int .i64 0, .int .i64 0, .int .i64 0, .slice none 0 0]) := HPB.out.below hb
      have HO : Hid (y.ownsRow (((w.alloc (.cells #[.int .i64 0, .string { data := #[] }, .int .i64 0, .int .i64 0, .int .i64 0, .int .i64 0, .slice none 0 0] 44)).alloc (.cells #[.int .i64 0, .string { data := #[] }, .int .i64 0, .int .i64 0, .int .i64 0, .int .i64 0, .slice none 0 0] 44)).drew).heap.size 2 1 (.slice aw lw cw) lw (iC t.words)) := ho
      clear h1 h2 h3 ho hb
      refine hK.out _ _ (HS.out _ HB.out) (fun hHeld => ?_)
      clear hK K
      try simp only [Act.put, List.setIfInBounds_toArray, List.set_cons_zero, List.set_cons_succ]
      refine tk (i := 6) (v := ?_) (tA rfl) (by kernel_rfl) (fun _ _ _ h => h) (Or.inl ⟨by rfl, ?_⟩) (by assumption) ?_
      rotate_left
      · (intro w hSw; (try dsimp only at hSw); go_simp <;> with_reducible rfl)
      simp only [Act.put, List.setIfInBounds_toArray, List.set_cons_zero, List.set_cons_succ]
      refine tk (i := 7) (v := ?_) (tA rfl) (by kernel_rfl) (fun _ _ _ h => h) (Or.inl ⟨by rfl, ?_⟩) (by assumption) ?_
      rotate_left
      · (intro w hSw; (try dsimp only at hSw); go_simp <;> with_reducible rfl)
      simp only [Act.put, List.setIfInBounds_toArray, List.set_cons_zero, List.set_cons_succ]
      refine tk (i := 8) (v := ?_) (tA rfl) (by kernel_rfl) (fun _ _ _ h => h) (Or.inl ⟨by rfl, ?_⟩) (by assumption) ?_
      rotate_left
      · (intro w hSw; (try dsimp only at hSw); go_simp <;> with_reducible rfl)
      simp only [Act.put, List.setIfInBounds_toArray, List.set_cons_zero, List.set_cons_succ]
      have HQ := HPY.out
      have c0 := HQ.c 0 _ rfl; have c1 := HQ.c 1 _ rfl; have c2 := HQ.c 2 _ rfl; have c3 := HQ.c 3 _ rfl; have c4 := HQ.c 4 _ rfl; have c5 := HQ.c 5 _ rfl; have c6 := HQ.c 6 _ rfl
      have f0 := HQ.f 0; have f1 := HQ.f 1; have f2 := HQ.f 2; have f3 := HQ.f 3; have f4 := HQ.f 4; have f5 := HQ.f 5; have f6 := HQ.f 6
      clear HQ
      refine wpAnyH_ready (rs := [10]) (by kernel_rfl) (by simp) ?_
      refine AllReadyH.cons (tA rfl) (fun K hK => ?_) AllReadyH.nil
      go_simp
      have HCB : Hid (Below (w.alloc (.cells #[.int .i64 0, .string { data := #[] }, .int .i64 0, .int .i64 0, .int .i64 0, .int .i64 0, .slice none 0 0] 44)).heap.size (w.alloc (.cells #[.int .i64 0, .string { data := #[] }, .int .i64 0, .int .i64 0, .int .i64 0, .int .i64 0, .slice none 0 0] 44)) (((((((y.setCell ⟨w.heap.size + 1, 0, none⟩ (.int .i64 t.kind)).setCell ⟨w.heap.size + 1, 1, none⟩ (.string (X.str t.name))).setCell ⟨w.heap.size + 1, 2, none⟩ (.int .i64 t.op)).setCell ⟨w.heap.size + 1, 3, none⟩ (.int .i64 t.a)).setCell ⟨w.heap.size + 1, 4, none⟩ (.int .i64 t.b)).setCell ⟨w.heap.size + 1, 5, none⟩ (.int .i64 t.n)).setCell ⟨w.heap.size + 1, 6, none⟩ (.slice aw lw cw))) := below_put7 HB.out (by simp)
      refine hK.out _ _ (HS.out _ HCB.out) (fun hHeld => ?_)
      clear hK K c0 c1 c2 c3 c4 c5 c6 f0 f1 f2 f3 f4 f5 f6
      try simp only [Act.put, List.setIfInBounds_toArray, List.set_cons_zero, List.set_cons_succ]
      refine tk (i := 11) (v := ?_) (tA rfl) (by kernel_rfl) (fun _ _ _ h => h) (Or.inl ⟨by rfl, ?_⟩) (by assumption) ?_
      rotate_left
      · (intro w hSw; (try dsimp only at hSw); go_simp <;> with_reducible rfl)
      simp only [Act.put, List.setIfInBounds_toArray, List.set_cons_zero, List.set_cons_succ]
      refine wpAnyH_done (by kernel_rfl) ?_ _
      clear hHeld
      have HBX : Hid (Bx (((((((y.setCell ⟨w.heap.size + 1, 0, none⟩ (.int .i64 t.kind)).setCell ⟨w.heap.size + 1, 1, none⟩ (.string (X.str t.name))).setCell ⟨w.heap.size + 1, 2, none⟩ (.int .i64 t.op)).setCell ⟨w.heap.size + 1, 3, none⟩ (.int .i64 t.a)).setCell ⟨w.heap.size + 1, 4, none⟩ (.int .i64 t.b)).setCell ⟨w.heap.size + 1, 5, none⟩ (.int .i64 t.n)).setCell ⟨w.heap.size + 1, 6, none⟩ (.slice aw lw cw)) (w.heap.size + 1) [.int .i64 t.kind, .string (X.str t.name), .int .i64 t.op, .int .i64 t.a, .int .i64 t.b, .int .i64 t.n, .slice aw lw cw]) := Bx.put7 HPY.out rfl (.int .i64 t.kind) (.string (X.str t.name)) (.int .i64 t.op) (.int .i64 t.a) (.int .i64 t.b) (.int .i64 t.n) (.slice aw lw cw)
      have HRS : Hid (Bx (((((((y.setCell ⟨w.heap.size + 1, 0, none⟩ (.int .i64 t.kind)).setCell ⟨w.heap.size + 1, 1, none⟩ (.string (X.str t.name))).setCell ⟨w.heap.size + 1, 2, none⟩ (.int .i64 t.op)).setCell ⟨w.heap.size + 1, 3, none⟩ (.int .i64 t.a)).setCell ⟨w.heap.size + 1, 4, none⟩ (.int .i64 t.b)).setCell ⟨w.heap.size + 1, 5, none⟩ (.int .i64 t.n)).setCell ⟨w.heap.size + 1, 6, none⟩ (.slice aw lw cw)) w.heap.size [.int .i64 0, .string { data := #[] }, .int .i64 0, .int .i64 0, .int .i64 0, .int .i64 0, .slice none 0 0]) := Bx.far7 (HZ.out.below HB.out) (by simp)
      have HW : Hid (Below w.heap.size w (((((((y.setCell ⟨w.heap.size + 1, 0, none⟩ (.int .i64 t.kind)).setCell ⟨w.heap.size + 1, 1, none⟩ (.string (X.str t.name))).setCell ⟨w.heap.size + 1, 2, none⟩ (.int .i64 t.op)).setCell ⟨w.heap.size + 1, 3, none⟩ (.int .i64 t.a)).setCell ⟨w.heap.size + 1, 4, none⟩ (.int .i64 t.b)).setCell ⟨w.heap.size + 1, 5, none⟩ (.int .i64 t.n)).setCell ⟨w.heap.size + 1, 6, none⟩ (.slice aw lw cw))) := (bl1 _ _).trans (HCB.out.mono (bl1 _ _).size)
      have HTY : Hid (Tab (((((((y.setCell ⟨w.heap.size + 1, 0, none⟩ (.int .i64 t.kind)).setCell ⟨w.heap.size + 1, 1, none⟩ (.string (X.str t.name))).setCell ⟨w.heap.size + 1, 2, none⟩ (.int .i64 t.op)).setCell ⟨w.heap.size + 1, 3, none⟩ (.int .i64 t.a)).setCell ⟨w.heap.size + 1, 4, none⟩ (.int .i64 t.b)).setCell ⟨w.heap.size + 1, 5, none⟩ (.int .i64 t.n)).setCell ⟨w.heap.size + 1, 6, none⟩ (.slice aw lw cw))) := HT.out.below HW.out
      have HOY : Hid (World.ownsRow (((((((y.setCell ⟨w.heap.size + 1, 0, none⟩ (.int .i64 t.kind)).setCell ⟨w.heap.size + 1, 1, none⟩ (.string (X.str t.name))).setCell ⟨w.heap.size + 1, 2, none⟩ (.int .i64 t.op)).setCell ⟨w.heap.size + 1, 3, none⟩ (.int .i64 t.a)).setCell ⟨w.heap.size + 1, 4, none⟩ (.int .i64 t.b)).setCell ⟨w.heap.size + 1, 5, none⟩ (.int .i64 t.n)).setCell ⟨w.heap.size + 1, 6, none⟩ (.slice aw lw cw)) (w.alloc (.cells #[.int .i64 0, .string { data := #[] }, .int .i64 0, .int .i64 0, .int .i64 0, .int .i64 0, .slice none 0 0] 44)).heap.size 2 1 (.slice aw lw cw) lw (iC t.words)) := own_baseB (put7_own HO.out (by simp [World.drew])) (by simp [World.drew])
      have hlw : t.words.length = lw := by have := HOY.out.1; unfold iC at this; simpa using this
      have hmb := fun w h => mayBe_any t.kind (X.str t.name) t.op t.a t.b t.n aw lw cw t.words hlw (by rw [str_size]; have := HH.out.2.2; unfold maxLen; omega) w h
      simp only [str_list] at hmb
      rw [show (⟨t.kind, t.name, t.op, t.a, t.b, t.n, t.words⟩ : X.It) = t from rfl] at hmb
      have hly : w.heap.size + 1 ≠ w.heap.size := by omega
      generalize hY : (((((((y.setCell ⟨w.heap.size + 1, 0, none⟩ (.int .i64 t.kind)).setCell ⟨w.heap.size + 1, 1, none⟩ (.string (X.str t.name))).setCell ⟨w.heap.size + 1, 2, none⟩ (.int .i64 t.op)).setCell ⟨w.heap.size + 1, 3, none⟩ (.int .i64 t.a)).setCell ⟨w.heap.size + 1, 4, none⟩ (.int .i64 t.b)).setCell ⟨w.heap.size + 1, 5, none⟩ (.int .i64 t.n)).setCell ⟨w.heap.size + 1, 6, none⟩ (.slice aw lw cw)) = Y at HBX HRS HW HTY HOY ⊢
      clear hY HB HO HPB HXB HPY HCB
      go_wp2_with fail
      generalize hpb : w.heap.size + 1 = pb at HBX hly ⊢
      clear hpb
      have HS2 : Hid (∀ z, Below Y.heap.size Y z → (fun z : World => z.cell? ⟨pb, 0, none⟩ = some (.int .i64 t.kind) ∧ z.cell? ⟨pb, 1, none⟩ = some (.string (X.str t.name)) ∧ z.cell? ⟨pb, 2, none⟩ = some (.int .i64 t.op) ∧ z.cell? ⟨pb, 3, none⟩ = some (.int .i64 t.a) ∧ z.cell? ⟨pb, 4, none⟩ = some (.int .i64 t.b) ∧ z.cell? ⟨pb, 5, none⟩ = some (.int .i64 t.n) ∧ z.cell? ⟨pb, 6, none⟩ = some (.slice aw lw cw)) z) := fun z hz => by
        have q := HBX.out.below hz
        exact ⟨q.c 0 _ rfl, q.c 1 _ rfl, q.c 2 _ rfl, q.c 3 _ rfl, q.c 4 _ rfl, q.c 5 _ rfl, q.c 6 _ rfl⟩
      cases ok with
      | false =>
        have HN : Hid (X.read (f.data.toList :: ws) = none) := by show _ = _; simp [X.read, HH.out.2.1 rfl]
        refine wp_region_held_drew (S := (fun z : World => z.cell? ⟨pb, 0, none⟩ = some (.int .i64 t.kind) ∧ z.cell? ⟨pb, 1, none⟩ = some (.string (X.str t.name)) ∧ z.cell? ⟨pb, 2, none⟩ = some (.int .i64 t.op) ∧ z.cell? ⟨pb, 3, none⟩ = some (.int .i64 t.a) ∧ z.cell? ⟨pb, 4, none⟩ = some (.int .i64 t.b) ∧ z.cell? ⟨pb, 5, none⟩ = some (.int .i64 t.n) ∧ z.cell? ⟨pb, 6, none⟩ = some (.slice aw lw cw))) (by kernel_rfl) (HS2.out _ (Below.refl _ _).drew) (fun hHeld => ?_)
        refine tk (i := 0) (v := ?_) (tA rfl) (by kernel_rfl) (fun _ _ _ h => h) (Or.inl ⟨by rfl, ?_⟩) (by assumption) ?_
        rotate_left
        · (intro w hSw; (try dsimp only at hSw); go_simp <;> with_reducible rfl)
        simp only [Act.put, List.setIfInBounds_toArray, List.set_cons_zero, List.set_cons_succ]
        refine tk (i := 1) (v := ?_) (tA rfl) (by kernel_rfl) (fun _ _ _ h => h) (Or.inl ⟨by rfl, ?_⟩) (by assumption) ?_
        rotate_left
        · (intro w hSw; (try dsimp only at hSw); go_simp <;> with_reducible rfl)
        simp only [Act.put, List.setIfInBounds_toArray, List.set_cons_zero, List.set_cons_succ]
        refine tk (i := 2) (v := ?_) (tA rfl) (by kernel_rfl) (fun _ _ _ h => h) (Or.inl ⟨by rfl, ?_⟩) (by assumption) ?_
        rotate_left
        · (intro w hSw; (try dsimp only at hSw); go_simp <;> with_reducible rfl)
        simp only [Act.put, List.setIfInBounds_toArray, List.set_cons_zero, List.set_cons_succ]
        refine tk (i := 3) (v := undef) (tA rfl) (by kernel_rfl) (fun _ _ _ h => h) (Or.inr ⟨by rfl, rfl⟩) (by assumption) ?_
        simp only [Act.put, List.setIfInBounds_toArray, List.set_cons_zero, List.set_cons_succ]
        refine tk (i := 4) (v := undef) (tA rfl) (by kernel_rfl) (fun _ _ _ h => h) (Or.inr ⟨by rfl, rfl⟩) (by assumption) ?_
        simp only [Act.put, List.setIfInBounds_toArray, List.set_cons_zero, List.set_cons_succ]
        refine tk (i := 5) (v := ?_) (tA rfl) (by kernel_rfl) (fun _ _ _ h => h) (Or.inl ⟨by rfl, ?_⟩) (by assumption) ?_
        rotate_left
        · (intro w hSw; (try dsimp only at hSw); go_simp <;> with_reducible rfl)
        simp only [Act.put, List.setIfInBounds_toArray, List.set_cons_zero, List.set_cons_succ]
        obtain ⟨Q, hQ⟩ : ∃ Q, Y.drew = Q := ⟨_, rfl⟩
        have HBQ : Hid (Below Y.heap.size Y Q) := by show Below _ _ _; rw [← hQ]; exact (Below.refl _ _).drew
        rw [hQ]
        clear hQ
        have HQ := HRS.out.below HBQ.out
        have HQ' : Hid _ := HQ
        have c0 := HQ.c 0 _ rfl; have c1 := HQ.c 1 _ rfl; have c2 := HQ.c 2 _ rfl; have c3 := HQ.c 3 _ rfl; have c4 := HQ.c 4 _ rfl; have c5 := HQ.c 5 _ rfl; have c6 := HQ.c 6 _ rfl
        have f0 := HQ.f 0; have f1 := HQ.f 1; have f2 := HQ.f 2; have f3 := HQ.f 3; have f4 := HQ.f 4; have f5 := HQ.f 5; have f6 := HQ.f 6
        have HWQ : Hid (Below w.heap.size w Q) := HW.out.trans (HBQ.out.mono HW.out.size)
        have HOQ : Hid (Q.ownsRow (w.alloc (.cells #[.int .i64 0, .string { data := #[] }, .int .i64 0, .int .i64 0, .int .i64 0, .int .i64 0, .slice none 0 0] 44)).heap.size 2 1 (.slice aw lw cw) lw (iC t.words)) := own_thru HOY.out HBQ.out
        clear HQ hmb
        refine wpAnyH_ready (rs := [6]) (by kernel_rfl) (by simp) ?_
        refine AllReadyH.cons (tA rfl) (fun K hK => ?_) AllReadyH.nil
        clear hHeld
        go_simp
        have HPS := (HBX.out.below HBQ.out)
        refine hK.out _ _ ?_ (fun hHeld => ?_)
        · exact put7_S HPS hly
        clear hK K
        try simp only [Act.put, List.setIfInBounds_toArray, List.set_cons_zero, List.set_cons_succ]
        refine tk (i := 7) (v := ?_) (tA rfl) (by kernel_rfl) (fun _ _ _ h => h) (Or.inl ⟨by rfl, ?_⟩) (by assumption) ?_
        rotate_left
        · (intro w hSw; (try dsimp only at hSw); go_simp <;> with_reducible rfl)
        simp only [Act.put, List.setIfInBounds_toArray, List.set_cons_zero, List.set_cons_succ]
        refine wpAnyH_done (by kernel_rfl) ?_ _
        clear hHeld c0 c1 c2 c3 c4 c5 c6 f0 f1 f2 f3 f4 f5 f6
        have HOF := put7_own (b := w.heap.size) (u0 := .int .i64 t.kind) (u1 := .string (X.str t.name)) (u2 := .int .i64 t.op) (u3 := .int .i64 t.a) (u4 := .int .i64 t.b) (u5 := .int .i64 t.n) (u6 := .slice aw lw cw) HOQ.out (show w.heap.size < (w.alloc (.cells #[.int .i64 0, .string { data := #[] }, .int .i64 0, .int .i64 0, .int .i64 0, .int .i64 0, .slice none 0 0] 44)).heap.size by simp)
        have HF := Bx.put7 HQ'.out rfl (.int .i64 t.kind) (.string (X.str t.name)) (.int .i64 t.op) (.int .i64 t.a) (.int .i64 t.b) (.int .i64 t.n) (.slice aw lw cw)
        have HE : Below w.heap.size w (((((((Q.setCell ⟨w.heap.size, 0, none⟩ (.int .i64 t.kind)).setCell ⟨w.heap.size, 1, none⟩ (.string (X.str t.name))).setCell ⟨w.heap.size, 2, none⟩ (.int .i64 t.op)).setCell ⟨w.heap.size, 3, none⟩ (.int .i64 t.a)).setCell ⟨w.heap.size, 4, none⟩ (.int .i64 t.b)).setCell ⟨w.heap.size, 5, none⟩ (.int .i64 t.n)).setCell ⟨w.heap.size, 6, none⟩ (.slice aw lw cw)) := below_put7 HWQ.out (Nat.le_refl _)
        generalize (((((((Q.setCell ⟨w.heap.size, 0, none⟩ (.int .i64 t.kind)).setCell ⟨w.heap.size, 1, none⟩ (.string (X.str t.name))).setCell ⟨w.heap.size, 2, none⟩ (.int .i64 t.op)).setCell ⟨w.heap.size, 3, none⟩ (.int .i64 t.a)).setCell ⟨w.heap.size, 4, none⟩ (.int .i64 t.b)).setCell ⟨w.heap.size, 5, none⟩ (.int .i64 t.n)).setCell ⟨w.heap.size, 6, none⟩ (.slice aw lw cw)) = Wf at HF HE HOF ⊢
        have k0 := HF.c 0 _ rfl; have k1 := HF.c 1 _ rfl; have k2 := HF.c 2 _ rfl; have k3 := HF.c 3 _ rfl; have k4 := HF.c 4 _ rfl; have k5 := HF.c 5 _ rfl; have k6 := HF.c 6 _ rfl
        clear HPS
        go_wp2_with fail
        refine bodyPost_ret (v := .tuple #[.agg #[.int .i64 t.kind, .string (X.str t.name), .int .i64 t.op, .int .i64 t.a, .int .i64 t.b, .int .i64 t.n, .slice aw lw cw], .bool false]) (by simp [results, Tryz.results63, go_sem, k0, k1, k2, k3, k4, k5, k6]) rfl ?_
        exact ⟨t, aw, lw, cw, false, rfl, (fun h => by cases h), fun _ => HN.out, HH.out.2.2, own_baseB HOF (by simp), HE⟩
      | true =>
        cases hmk : X.itOk t
        · rw [hmk] at hmb
          have HN : Hid (X.read (f.data.toList :: ws) = none) := by show _ = _; simp [X.read, HH.out.1 rfl, hmk]
          refine wp_region_held_drew (S := (fun z : World => z.cell? ⟨pb, 0, none⟩ = some (.int .i64 t.kind) ∧ z.cell? ⟨pb, 1, none⟩ = some (.string (X.str t.name)) ∧ z.cell? ⟨pb, 2, none⟩ = some (.int .i64 t.op) ∧ z.cell? ⟨pb, 3, none⟩ = some (.int .i64 t.a) ∧ z.cell? ⟨pb, 4, none⟩ = some (.int .i64 t.b) ∧ z.cell? ⟨pb, 5, none⟩ = some (.int .i64 t.n) ∧ z.cell? ⟨pb, 6, none⟩ = some (.slice aw lw cw))) (by kernel_rfl) (HS2.out _ (Below.refl _ _).drew) (fun hHeld => ?_)
          refine tk (i := 0) (v := ?_) (tA rfl) (by kernel_rfl) (fun _ _ _ h => h) (Or.inl ⟨by rfl, ?_⟩) (by assumption) ?_
          rotate_left
          · (intro w hSw; (try dsimp only at hSw); go_simp <;> with_reducible rfl)
          simp only [Act.put, List.setIfInBounds_toArray, List.set_cons_zero, List.set_cons_succ]
          refine tk (i := 1) (v := ?_) (tA rfl) (by kernel_rfl) (fun _ _ _ h => h) (Or.inl ⟨by rfl, ?_⟩) (by assumption) ?_
          rotate_left
          · (intro w hSw; (try dsimp only at hSw); go_simp <;> with_reducible rfl)
          simp only [Act.put, List.setIfInBounds_toArray, List.set_cons_zero, List.set_cons_succ]
          refine tk (i := 2) (v := ?_) (tA rfl) (by kernel_rfl) (fun _ _ _ h => h) (Or.inl ⟨by rfl, ?_⟩) (by assumption) ?_
          rotate_left
          · (intro w hSw; (try dsimp only at hSw); go_simp <;> with_reducible rfl)
          simp only [Act.put, List.setIfInBounds_toArray, List.set_cons_zero, List.set_cons_succ]
          refine tk (i := 3) (v := ?_) (tA rfl) (by kernel_rfl) (fun _ _ _ h => h) (Or.inl ⟨by rfl, ?_⟩) (by assumption) ?_
          rotate_left
          · (intro w hSw; (try dsimp only at hSw); go_simp <;> with_reducible rfl)
          simp only [Act.put, List.setIfInBounds_toArray, List.set_cons_zero, List.set_cons_succ]
          refine wpAnyH_ready (rs := [4]) (by kernel_rfl) (by simp) ?_
          refine AllReadyH.cons (tA rfl) (fun K hK => ?_) AllReadyH.nil
          go_simp
          refine (hmb _ (HTY.out.below (Below.refl _ _).drew)).mono ?_
          rintro e Q ⟨rfl, hb2⟩
          have HBQ : Hid (Below Y.heap.size Y Q) := (Below.refl _ _).drew.trans hb2
          clear hb2
          refine hK.out _ _ (HS2.out _ HBQ.out) (fun hHeld => ?_)
          clear hK K
          try simp only [Act.put, List.setIfInBounds_toArray, List.set_cons_zero, List.set_cons_succ]
          refine tk (i := 5) (v := ?_) (tA rfl) (by kernel_rfl) (fun _ _ _ h => h) (Or.inl ⟨by rfl, ?_⟩) (by assumption) ?_
          rotate_left
          · (intro w hSw; (try dsimp only at hSw); go_simp <;> with_reducible rfl)
          simp only [Act.put, List.setIfInBounds_toArray, List.set_cons_zero, List.set_cons_succ]
          have HQ := HRS.out.below HBQ.out
          have HQ' : Hid _ := HQ
          have c0 := HQ.c 0 _ rfl; have c1 := HQ.c 1 _ rfl; have c2 := HQ.c 2 _ rfl; have c3 := HQ.c 3 _ rfl; have c4 := HQ.c 4 _ rfl; have c5 := HQ.c 5 _ rfl; have c6 := HQ.c 6 _ rfl
          have f0 := HQ.f 0; have f1 := HQ.f 1; have f2 := HQ.f 2; have f3 := HQ.f 3; have f4 := HQ.f 4; have f5 := HQ.f 5; have f6 := HQ.f 6
          have HWQ : Hid (Below w.heap.size w Q) := HW.out.trans (HBQ.out.mono HW.out.size)
          have HOQ : Hid (Q.ownsRow (w.alloc (.cells #[.int .i64 0, .string { data := #[] }, .int .i64 0, .int .i64 0, .int .i64 0, .int .i64 0, .slice none 0 0] 44)).heap.size 2 1 (.slice aw lw cw) lw (iC t.words)) := own_thru HOY.out HBQ.out
          clear HQ hmb
          refine wpAnyH_ready (rs := [6]) (by kernel_rfl) (by simp) ?_
          refine AllReadyH.cons (tA rfl) (fun K hK => ?_) AllReadyH.nil
          clear hHeld
          go_simp
          have HPS := (HBX.out.below HBQ.out)
          refine hK.out _ _ ?_ (fun hHeld => ?_)
          · exact put7_S HPS hly
          clear hK K
          try simp only [Act.put, List.setIfInBounds_toArray, List.set_cons_zero, List.set_cons_succ]
          refine tk (i := 7) (v := ?_) (tA rfl) (by kernel_rfl) (fun _ _ _ h => h) (Or.inl ⟨by rfl, ?_⟩) (by assumption) ?_
          rotate_left
          · (intro w hSw; (try dsimp only at hSw); go_simp <;> with_reducible rfl)
          simp only [Act.put, List.setIfInBounds_toArray, List.set_cons_zero, List.set_cons_succ]
          refine wpAnyH_done (by kernel_rfl) ?_ _
          clear hHeld c0 c1 c2 c3 c4 c5 c6 f0 f1 f2 f3 f4 f5 f6
          have HOF := put7_own (b := w.heap.size) (u0 := .int .i64 t.kind) (u1 := .string (X.str t.name)) (u2 := .int .i64 t.op) (u3 := .int .i64 t.a) (u4 := .int .i64 t.b) (u5 := .int .i64 t.n) (u6 := .slice aw lw cw) HOQ.out (show w.heap.size < (w.alloc (.cells #[.int .i64 0, .string { data := #[] }, .int .i64 0, .int .i64 0, .int .i64 0, .int .i64 0, .slice none 0 0] 44)).heap.size by simp)
          have HF := Bx.put7 HQ'.out rfl (.int .i64 t.kind) (.string (X.str t.name)) (.int .i64 t.op) (.int .i64 t.a) (.int .i64 t.b) (.int .i64 t.n) (.slice aw lw cw)
          have HE : Below w.heap.size w (((((((Q.setCell ⟨w.heap.size, 0, none⟩ (.int .i64 t.kind)).setCell ⟨w.heap.size, 1, none⟩ (.string (X.str t.name))).setCell ⟨w.heap.size, 2, none⟩ (.int .i64 t.op)).setCell ⟨w.heap.size, 3, none⟩ (.int .i64 t.a)).setCell ⟨w.heap.size, 4, none⟩ (.int .i64 t.b)).setCell ⟨w.heap.size, 5, none⟩ (.int .i64 t.n)).setCell ⟨w.heap.size, 6, none⟩ (.slice aw lw cw)) := below_put7 HWQ.out (Nat.le_refl _)
          generalize (((((((Q.setCell ⟨w.heap.size, 0, none⟩ (.int .i64 t.kind)).setCell ⟨w.heap.size, 1, none⟩ (.string (X.str t.name))).setCell ⟨w.heap.size, 2, none⟩ (.int .i64 t.op)).setCell ⟨w.heap.size, 3, none⟩ (.int .i64 t.a)).setCell ⟨w.heap.size, 4, none⟩ (.int .i64 t.b)).setCell ⟨w.heap.size, 5, none⟩ (.int .i64 t.n)).setCell ⟨w.heap.size, 6, none⟩ (.slice aw lw cw)) = Wf at HF HE HOF ⊢
          have k0 := HF.c 0 _ rfl; have k1 := HF.c 1 _ rfl; have k2 := HF.c 2 _ rfl; have k3 := HF.c 3 _ rfl; have k4 := HF.c 4 _ rfl; have k5 := HF.c 5 _ rfl; have k6 := HF.c 6 _ rfl
          clear HPS
          go_wp2_with fail
          refine bodyPost_ret (v := .tuple #[.agg #[.int .i64 t.kind, .string (X.str t.name), .int .i64 t.op, .int .i64 t.a, .int .i64 t.b, .int .i64 t.n, .slice aw lw cw], .bool false]) (by simp [results, Tryz.results63, go_sem, k0, k1, k2, k3, k4, k5, k6]) rfl ?_
          exact ⟨t, aw, lw, cw, false, rfl, (fun h => by cases h), fun _ => HN.out, HH.out.2.2, own_baseB HOF (by simp), HE⟩
        · rw [hmk] at hmb
          have HN : Hid (X.read (f.data.toList :: ws) = some t) := by show _ = _; simp [X.read, HH.out.1 rfl, hmk]
          refine wp_region_held_drew (S := (fun z : World => z.cell? ⟨pb, 0, none⟩ = some (.int .i64 t.kind) ∧ z.cell? ⟨pb, 1, none⟩ = some (.string (X.str t.name)) ∧ z.cell? ⟨pb, 2, none⟩ = some (.int .i64 t.op) ∧ z.cell? ⟨pb, 3, none⟩ = some (.int .i64 t.a) ∧ z.cell? ⟨pb, 4, none⟩ = some (.int .i64 t.b) ∧ z.cell? ⟨pb, 5, none⟩ = some (.int .i64 t.n) ∧ z.cell? ⟨pb, 6, none⟩ = some (.slice aw lw cw))) (by kernel_rfl) (HS2.out _ (Below.refl _ _).drew) (fun hHeld => ?_)
          refine tk (i := 0) (v := ?_) (tA rfl) (by kernel_rfl) (fun _ _ _ h => h) (Or.inl ⟨by rfl, ?_⟩) (by assumption) ?_
          rotate_left
          · (intro w hSw; (try dsimp only at hSw); go_simp <;> with_reducible rfl)
          simp only [Act.put, List.setIfInBounds_toArray, List.set_cons_zero, List.set_cons_succ]
          refine tk (i := 1) (v := ?_) (tA rfl) (by kernel_rfl) (fun _ _ _ h => h) (Or.inl ⟨by rfl, ?_⟩) (by assumption) ?_
          rotate_left
          · (intro w hSw; (try dsimp only at hSw); go_simp <;> with_reducible rfl)
          simp only [Act.put, List.setIfInBounds_toArray, List.set_cons_zero, List.set_cons_succ]
          refine tk (i := 2) (v := ?_) (tA rfl) (by kernel_rfl) (fun _ _ _ h => h) (Or.inl ⟨by rfl, ?_⟩) (by assumption) ?_
          rotate_left
          · (intro w hSw; (try dsimp only at hSw); go_simp <;> with_reducible rfl)
          simp only [Act.put, List.setIfInBounds_toArray, List.set_cons_zero, List.set_cons_succ]
          refine tk (i := 3) (v := ?_) (tA rfl) (by kernel_rfl) (fun _ _ _ h => h) (Or.inl ⟨by rfl, ?_⟩) (by assumption) ?_
          rotate_left
          · (intro w hSw; (try dsimp only at hSw); go_simp <;> with_reducible rfl)
          simp only [Act.put, List.setIfInBounds_toArray, List.set_cons_zero, List.set_cons_succ]
          refine wpAnyH_ready (rs := [4]) (by kernel_rfl) (by simp) ?_
          refine AllReadyH.cons (tA rfl) (fun K hK => ?_) AllReadyH.nil
          go_simp
          refine (hmb _ (HTY.out.below (Below.refl _ _).drew)).mono ?_
          rintro e Q ⟨rfl, hb2⟩
          have HBQ : Hid (Below Y.heap.size Y Q) := (Below.refl _ _).drew.trans hb2
          clear hb2
          refine hK.out _ _ (HS2.out _ HBQ.out) (fun hHeld => ?_)
          clear hK K
          try simp only [Act.put, List.setIfInBounds_toArray, List.set_cons_zero, List.set_cons_succ]
          refine tk (i := 5) (v := ?_) (tA rfl) (by kernel_rfl) (fun _ _ _ h => h) (Or.inl ⟨by rfl, ?_⟩) (by assumption) ?_
          rotate_left
          · (intro w hSw; (try dsimp only at hSw); go_simp <;> with_reducible rfl)
          simp only [Act.put, List.setIfInBounds_toArray, List.set_cons_zero, List.set_cons_succ]
          have HQ := HRS.out.below HBQ.out
          have HQ' : Hid _ := HQ
          have c0 := HQ.c 0 _ rfl; have c1 := HQ.c 1 _ rfl; have c2 := HQ.c 2 _ rfl; have c3 := HQ.c 3 _ rfl; have c4 := HQ.c 4 _ rfl; have c5 := HQ.c 5 _ rfl; have c6 := HQ.c 6 _ rfl
          have f0 := HQ.f 0; have f1 := HQ.f 1; have f2 := HQ.f 2; have f3 := HQ.f 3; have f4 := HQ.f 4; have f5 := HQ.f 5; have f6 := HQ.f 6
          have HWQ : Hid (Below w.heap.size w Q) := HW.out.trans (HBQ.out.mono HW.out.size)
          have HOQ : Hid (Q.ownsRow (w.alloc (.cells #[.int .i64 0, .string { data := #[] }, .int .i64 0, .int .i64 0, .int .i64 0, .int .i64 0, .slice none 0 0] 44)).heap.size 2 1 (.slice aw lw cw) lw (iC t.words)) := own_thru HOY.out HBQ.out
          clear HQ hmb
          refine wpAnyH_ready (rs := [6]) (by kernel_rfl) (by simp) ?_
          refine AllReadyH.cons (tA rfl) (fun K hK => ?_) AllReadyH.nil
          clear hHeld
          go_simp
          have HPS := (HBX.out.below HBQ.out)
          refine hK.out _ _ ?_ (fun hHeld => ?_)
          · exact put7_S HPS hly
          clear hK K
          try simp only [Act.put, List.setIfInBounds_toArray, List.set_cons_zero, List.set_cons_succ]
          refine tk (i := 7) (v := ?_) (tA rfl) (by kernel_rfl) (fun _ _ _ h => h) (Or.inl ⟨by rfl, ?_⟩) (by assumption) ?_
          rotate_left
          · (intro w hSw; (try dsimp only at hSw); go_simp <;> with_reducible rfl)
          simp only [Act.put, List.setIfInBounds_toArray, List.set_cons_zero, List.set_cons_succ]
          refine wpAnyH_done (by kernel_rfl) ?_ _
          clear hHeld c0 c1 c2 c3 c4 c5 c6 f0 f1 f2 f3 f4 f5 f6
          have HOF := put7_own (b := w.heap.size) (u0 := .int .i64 t.kind) (u1 := .string (X.str t.name)) (u2 := .int .i64 t.op) (u3 := .int .i64 t.a) (u4 := .int .i64 t.b) (u5 := .int .i64 t.n) (u6 := .slice aw lw cw) HOQ.out (show w.heap.size < (w.alloc (.cells #[.int .i64 0, .string { data := #[] }, .int .i64 0, .int .i64 0, .int .i64 0, .int .i64 0, .slice none 0 0] 44)).heap.size by simp)
          have HF := Bx.put7 HQ'.out rfl (.int .i64 t.kind) (.string (X.str t.name)) (.int .i64 t.op) (.int .i64 t.a) (.int .i64 t.b) (.int .i64 t.n) (.slice aw lw cw)
          have HE : Below w.heap.size w (((((((Q.setCell ⟨w.heap.size, 0, none⟩ (.int .i64 t.kind)).setCell ⟨w.heap.size, 1, none⟩ (.string (X.str t.name))).setCell ⟨w.heap.size, 2, none⟩ (.int .i64 t.op)).setCell ⟨w.heap.size, 3, none⟩ (.int .i64 t.a)).setCell ⟨w.heap.size, 4, none⟩ (.int .i64 t.b)).setCell ⟨w.heap.size, 5, none⟩ (.int .i64 t.n)).setCell ⟨w.heap.size, 6, none⟩ (.slice aw lw cw)) := below_put7 HWQ.out (Nat.le_refl _)
          generalize (((((((Q.setCell ⟨w.heap.size, 0, none⟩ (.int .i64 t.kind)).setCell ⟨w.heap.size, 1, none⟩ (.string (X.str t.name))).setCell ⟨w.heap.size, 2, none⟩ (.int .i64 t.op)).setCell ⟨w.heap.size, 3, none⟩ (.int .i64 t.a)).setCell ⟨w.heap.size, 4, none⟩ (.int .i64 t.b)).setCell ⟨w.heap.size, 5, none⟩ (.int .i64 t.n)).setCell ⟨w.heap.size, 6, none⟩ (.slice aw lw cw)) = Wf at HF HE HOF ⊢
          have k0 := HF.c 0 _ rfl; have k1 := HF.c 1 _ rfl; have k2 := HF.c 2 _ rfl; have k3 := HF.c 3 _ rfl; have k4 := HF.c 4 _ rfl; have k5 := HF.c 5 _ rfl; have k6 := HF.c 6 _ rfl
          clear HPS
          go_wp2_with fail
          refine bodyPost_ret (v := .tuple #[.agg #[.int .i64 t.kind, .string (X.str t.name), .int .i64 t.op, .int .i64 t.a, .int .i64 t.b, .int .i64 t.n, .slice aw lw cw], .bool true]) (by simp [results, Tryz.results63, go_sem, k0, k1, k2, k3, k4, k5, k6]) rfl ?_
          exact ⟨t, aw, lw, cw, true, rfl, fun _ => HN.out, (fun h => by cases h), HH.out.2.2, own_baseB HOF (by simp), HE⟩

end Go.Proofs.YtgjingleolhkbaaGreatDoor

/- The words of each line, handed out one by one. -/
namespace Go.Proofs.YtgjingleolhkbaaGreatDoor
open Go.RowKit Go.Shelf
attribute [local go_sem] Oper.semAt_some
set_option linter.unusedVariables false
set_option linter.unusedSimpArgs false

theorem words_small {l : X.By} (h : l.length ≤ 200000) : (X.wordsOf l).length ≤ 200000 ∧ ∀ x ∈ X.wordsOf l, x.length ≤ 200000 := by
  have h1 := X.fieldsGo_len (X.ahead l) []
  have h2 : (X.ahead l).length ≤ l.length := List.Sublist.length_le (List.takeWhile_sublist _)
  have h3 : ∀ ws : List X.By, (ws.map fun w => w.length + 1).sum ≤ 200001 → ws.length ≤ 200001 ∧ ∀ x ∈ ws, x.length ≤ 200000 := by
    intro ws
    induction ws with
    | nil => simp
    | cons w ws ih =>
      intro h
      simp only [List.map_cons, List.sum_cons] at h
      have := ih (by omega)
      refine ⟨?_, fun x hx => ?_⟩
      · have h4 : ws.length ≤ (ws.map fun w => w.length + 1).sum := by
          clear ih this h
          induction ws with
          | nil => simp
          | cons v ws ih2 => simp only [List.map_cons, List.sum_cons, List.length_cons]; omega
        simp only [List.length_cons]; omega
      · rcases List.mem_cons.1 hx with rfl | hx
        · omega
        · exact this.2 x hx
  have h5 : (X.wordsOf l) = X.fieldsGo [] (X.ahead l) := rfl
  rw [h5]
  obtain ⟨h6, h7⟩ := h3 (X.fieldsGo [] (X.ahead l)) (by simp at h1; omega)
  refine ⟨?_, h7⟩
  by_cases hc : (X.fieldsGo [] (X.ahead l)).length ≤ 200000
  · exact hc
  · exfalso
    have h8 : ∀ ws : List X.By, (∀ w ∈ ws, 1 ≤ w.length) → 2 * ws.length ≤ (ws.map fun w => w.length + 1).sum := by
      intro ws
      induction ws with
      | nil => simp
      | cons w ws ih =>
        intro hh
        have := ih (fun x hx => hh x (by simp [hx]))
        have := hh w (by simp)
        simp only [List.map_cons, List.sum_cons, List.length_cons]; omega
    have h9 : ∀ (m cur : X.By), ∀ w ∈ X.fieldsGo cur m, 1 ≤ w.length := by
      intro m
      induction m with
      | nil => intro cur w hw; unfold X.fieldsGo at hw; split at hw
               · simp at hw
               · rename_i hne; simp at hw; subst hw; exact Nat.pos_of_ne_zero (fun e => hne (List.eq_nil_of_length_eq_zero e))
      | cons c m ih =>
        intro cur w hw
        unfold X.fieldsGo at hw
        split at hw
        · split at hw
          · exact ih _ w hw
          · rename_i hne
            rcases List.mem_cons.1 hw with rfl | hw
            · exact Nat.pos_of_ne_zero (fun e => hne (List.eq_nil_of_length_eq_zero e))
            · exact ih _ w hw
        · exact ih _ w hw
    have := h8 _ (h9 (X.ahead l) [])
    simp at h1
    omega
theorem str_of_own {w : World} {B g c : Nat} {ws : List X.By} (h : w.ownsRow B 9 1 (.slice (some ⟨g, 0, none⟩) ws.length c) ws.length (sC ws)) (hs : ∀ x ∈ ws, x.length ≤ 200000) : StrV w (some ⟨g, 0, none⟩) ws.length c ws := by
  rcases h.2 with ⟨e1, -⟩ | ⟨g', cap, cur, e1, hb, hh, h1, h2, -⟩
  · cases e1
  · cases e1
    refine ⟨rfl, ⟨h1, h2⟩, hs, .inr ⟨_, 0, rfl, fun i hi => ?_⟩⟩
    rw [Nat.zero_add, h.cellAt i (by omega)]
    unfold sC
    rw [List.getElem?_map]
    simp [List.getD, hi]

/-- What was handed out so far, and what is still to come. -/
def wlOf (ls : List X.By) : List (List X.By) := (ls.map X.wordsOf).filter fun ws => decide (ws ≠ [])
theorem wl_eq (s : X.By) : X.wl s = wlOf (X.lines s) := rfl

set_option maxRecDepth 100000 in
set_option maxHeartbeats 8000000 in
theorem lines1_in (n l Bs : Nat) (s : ByteArray) (hs : s.size ≤ 200000) (J Jx : List (List X.By) → World → Prop)
    (hJb : ∀ pre A B, J pre A → Below A.heap.size A B → J pre B) (hJt : ∀ pre A, J pre A → Tab A)
    (hY : ∀ (pre : List (List X.By)) (ws : List X.By) (g c : Nat) (W : World), J pre W → StrV W (some ⟨g, 0, none⟩) ws.length c ws → ws ≠ [] → ws.length ≤ 200000 → (∃ post, X.wl s.data.toList = pre ++ [ws] ++ post) →
      YieldAt Fence.wide (n - 1) Tryz.prog l #[.slice (some ⟨g, 0, none⟩) ws.length c] W fun e W' => (e = .returned (.bool true) ∧ J (pre ++ [ws]) W') ∨ (e = .returned (.bool false) ∧ Jx (pre ++ [ws]) W'))
    (W : World) (hBs : W.cell? ⟨Bs, 0, none⟩ = some (.string s)) (h0 : J [] W) :
    CallsIn Fence.wide n Tryz.prog 82 #[.func (.yield l) #[] #[], .pointer (some ⟨Bs, 0, none⟩)] W fun e W' => (∃ v, e = .returned v) ∧
      (J (X.wl s.data.toList) W' ∨ (∃ pre post, X.wl s.data.toList = pre ++ post ∧ Jx pre W')) := by
  have hcut := fun (r : ByteArray) (m : Int) (w : World) (h : r.size ≤ 200000) (hm : w.cell? ⟨3, 0, none⟩ = some (.int .i64 m)) => Tryz.strings_Cut r { data := #[10] } m w (by omega) hm
  refine callsIn_of_wp Tryz.func82 rfl trivial ?_ rfl
  simp only [Tryz.ntmps82, List.size_toArray, List.length_cons, List.length_nil, Nat.reduceAdd, Nat.reduceSub, Array.replicate_succ, Array.replicate_zero, List.push_toArray, List.append_toArray, List.nil_append, List.cons_append]
  gi_wp2
  gi_loopw [3, 4] (fun rv mv wr => ∃ (r : ByteArray) (more : Bool) (pre : List (List X.By)), rv = .string r ∧ mv = .bool more ∧ r.size ≤ 200000 ∧ Hid (J pre wr ∧ X.wl s.data.toList = pre ++ (if more = true then wlOf (X.lines r.data.toList) else [])))
    (fun rv mv wr => match rv, mv with | .string r, .bool true => r.size + 2 | .string r, _ => 1 | _, _ => 0)
  case atStart => exact ⟨s, true, [], rfl, rfl, hs, h0, by simp [wl_eq]⟩
  case round =>
    obtain ⟨r, more, pre, rfl, rfl, hr, HI⟩ := hrel
    cases more with
    | false =>
      gi_wp2
      go_end0
      exact ⟨⟨_, rfl⟩, .inl (by have := HI.out.2; simp at this; rw [this]; exact HI.out.1)⟩
    | true =>
      obtain ⟨m, hm⟩ := (hJt _ _ HI.out.1).ml
      have HTW : Hid (Tab wr) := hJt _ _ HI.out.1
      obtain ⟨a, r', b, hcr, hln, hal, hrl, hms⟩ : ∃ (a r' : X.By) (b : Bool), Go.Lib.cut r.data.toList [10] = (a, r', b) ∧ X.lines r.data.toList = a :: (if b = true then X.lines r' else []) ∧ a.length ≤ 200000 ∧ r'.length ≤ 200000 ∧ (b = true → r'.length < r.size) := by
        rcases cut_line r.data.toList with ⟨a, r', h1, h2, h3⟩ | ⟨h1, h2⟩
        · rw [len_list] at h3
          exact ⟨a, r', true, h1, by rw [h2]; simp, by omega, by omega, fun _ => by omega⟩
        · exact ⟨r.data.toList, [], false, h1, by rw [h2]; simp, by rw [len_list]; exact hr, by simp, fun h => by cases h⟩
      have hc1 : Calls Tryz.prog 83 #[.string r, .string { data := #[10] }] wr fun e w' => e = .returned (.tuple #[.string (X.str a), .string (X.str r'), .bool b]) ∧ Below wr.heap.size wr w' := by
        refine (hcut r m wr hr hm).mono ?_
        rintro e w' ⟨rfl, k, rfl⟩
        refine ⟨?_, below_drew' (Below.refl _ _) k⟩
        show Ending.returned (.tuple #[.string ⟨(Go.Lib.cut r.data.toList [10]).1.toArray⟩, .string ⟨(Go.Lib.cut r.data.toList [10]).2.1.toArray⟩, .bool (Go.Lib.cut r.data.toList [10]).2.2]) = _
        rw [hcr]
        rfl
      have hw := fun w h => wordsOf_any (X.str a) (by rw [str_size]; exact hal) w h
      rw [str_list] at hw
      have HWL : Hid (X.wl s.data.toList = pre ++ wlOf (a :: (if b = true then X.lines r' else []))) := by
        show _ = _
        have := HI.out.2
        rw [hln] at this
        simpa using this
      obtain ⟨hws1, hws2⟩ := words_small hal
      have hrs : (X.str r').size ≤ 200000 := by rw [str_size]; exact hrl
      have HMS : Hid (b = true → (X.str r').size < r.size) := by rw [str_size]; exact hms
      have HRL : Hid ((X.str r').data.toList = r') := str_list _
      clear hcut hm hcr hln hal hrl hms hBs
      generalize X.str a = sa at *
      generalize X.str r' = sr at *
      gi_wp2
      refine ⟨trivial, (fun h => by cases h), ?_⟩
      refine (callsIn_wide.2 hc1).mono ?_
      rintro e w1 ⟨rfl, hb1⟩
      have HB1 : Hid (Below wr.heap.size wr w1) := hb1
      clear hb1 hc1
      gi_wp2
      refine ⟨trivial, (fun h => by cases h), ?_⟩
      refine (callsIn_wide.2 (hw w1 (HTW.out.below HB1.out))).mono ?_
      rintro e w2 ⟨g, c, rfl, ho, hb2⟩
      have HB2 : Hid (Below wr.heap.size wr w2) := HB1.out.trans (hb2.mono HB1.out.size)
      have HJ2 : Hid (J pre w2) := hJb _ _ _ HI.out.1 HB2.out
      have HSV : Hid (StrV w2 (some ⟨g, 0, none⟩) (X.wordsOf a).length c (X.wordsOf a)) := str_of_own ho hws2
      clear ho hb2 hw hws2
      by_cases hne : X.wordsOf a = []
      · have HWL2 : Hid (X.wl s.data.toList = pre ++ (if b = true then wlOf (X.lines sr.data.toList) else [])) := by
          show _ = _
          rw [HWL.out, HRL.out]
          unfold wlOf
          rw [List.map_cons, hne]
          cases b <;> simp
        have hl0 : (X.wordsOf a).length = 0 := by rw [hne]; rfl
        rw [hl0]
        clear hne hl0 HSV hY
        gi_wp2
        refine ⟨fun _ h => (by cases h), ?_⟩
        gi_wp2
        go_roundw
        case rel => exact ⟨sr, b, pre, rfl, rfl, hrs, HJ2.out, HWL2.out⟩
        case measure =>
          have := HMS.out
          cases b <;> simp at this ⊢ <;> omega
      · have hwl : X.wl s.data.toList = pre ++ [X.wordsOf a] ++ (if b = true then wlOf (X.lines sr.data.toList) else []) := by
          rw [HWL.out, HRL.out]
          unfold wlOf
          rw [List.map_cons, List.filter_cons_of_pos (by simpa using hne)]
          cases b <;> simp
        obtain ⟨fn, tmps, assign, body, hy, hR⟩ := hY pre (X.wordsOf a) g c w2 HJ2.out HSV.out hne hws1 ⟨_, hwl⟩
        have HWL2 : Hid _ := hwl
        have hl0 : 0 < (X.wordsOf a).length := Nat.pos_of_ne_zero (fun e => hne (List.eq_nil_of_length_eq_zero e))
        generalize X.wordsOf a = ws at *
        clear hwl hne hws1 HSV hY HWL
        have hl1 : (0 : Int) < (ws.length : Int) := by omega
        gi_wp2
        refine ⟨(fun h => by cases h), hR.mono ?_⟩
        rintro e w3 (⟨rfl, hJ3⟩ | ⟨rfl, hJx3⟩)
        · have HJ3 : Hid (J (pre ++ [ws]) w3) := hJ3
          clear hJ3 hR hy
          gi_wp2
          go_roundw
          case rel => exact ⟨sr, b, pre ++ [ws], rfl, rfl, hrs, HJ3.out, HWL2.out⟩
          case measure =>
            have := HMS.out
            cases b <;> simp at this ⊢ <;> omega
        · have HJ3 : Hid (Jx (pre ++ [ws]) w3) := hJx3
          clear hJx3 hR hy
          gi_wp2
          refine bodyPost_ret (results_none rfl _ _ _) rfl ?_
          exact ⟨⟨_, rfl⟩, .inr ⟨pre ++ [ws], _, HWL2.out, HJ3.out⟩⟩

end Go.Proofs.YtgjingleolhkbaaGreatDoor

/- A range over a function whose values lie in memory that the function has made since the last round. -/
namespace Go.Proofs.YtgjingleolhkbaaGreatDoor
open Go.RowKit
set_option linter.unusedVariables false

/-- What is no cells, from a block on, lies as it lay. -/
def Kf (B : Nat) (W W' : World) : Prop := ∀ (k : Nat) (o : Obj), B ≤ k → W.heap[k]? = some o → o.isCells = false → W'.heap[k]? = some o
/-- How a round may end: it goes on, or the function returns. -/
def RoundEnd {σ : Type} (B : Nat) (I Ix : σ → World → Prop) (s : σ) (W : World) : Exit → Act → World → Prop
  | .normal, _, W' => Kf B W W' ∧ I s W'
  | .ret, _, W' => Kf B W W' ∧ Ix s W'
  | _, _, _ => False

theorem range_lies {P : Program} {n : Nat} {σ β : Type} {g : Operand} {ps : Array Tmp} {assign body : Code} {Q : Exit → Act → World → Prop} {a : Act} {w : World} {gf : Nat} {lb : Array Value}
    (hg : a.eval g = .func (.func gf) #[] lb) (eg : ∀ args w, (callFunc gf args).run P w = .ok (.enter gf args) w)
    (I Ix : σ → World → Prop) (X : σ → β → World → Prop) (enc : β → Array Value) (nx : σ → β → σ) (s0 : σ) (Dn Dx : σ → Prop) (a1 : β → Act)
    (henc : ∀ x, (enc x).size = ps.size)
    (hIb : ∀ s A B, I s A → Below A.heap.size A B → I s B)
    (hIl : ∀ s A l o o', w.heap.size ≤ l → A.heap[l]? = some o → o.isCells = false → I s A → I s (A.putObj l o'))
    (hIxl : ∀ s A l o o', w.heap.size ≤ l → A.heap[l]? = some o → o.isCells = false → Ix s A → Ix s (A.putObj l o'))
    (hXl : ∀ s x A l o o', w.heap.size ≤ l → A.heap[l]? = some o → o.isCells = false → X s x A → X s x (A.putObj l o'))
    (hit : ∀ (l : Nat) (J Jx : σ → World → Prop) (W1 : World), Below w.heap.size w W1 → (∀ s A B, J s A → Below A.heap.size A B → J s B) → (∀ s A, J s A → I s A) →
      (∀ s x W, J s W → X s x W → YieldAt Fence.wide (n - 1 - 1) P l (enc x) W fun e W' => (e = .returned (.bool true) ∧ J (nx s x) W') ∨ (e = .returned (.bool false) ∧ Jx (nx s x) W')) →
      J s0 W1 → CallsIn Fence.wide (n - 1) P gf (#[.func (.yield l) #[] #[]] ++ lb) W1 fun e W' => (∃ v, e = .returned v) ∧ ((∃ s, Dn s ∧ J s W') ∨ (∃ s, Dx s ∧ Jx s W')))
    (h0 : I s0 w)
    (hassign : ∀ (l : Nat) (x : β) (W : World) (K : Act → World → Prop), K (a1 x) W → assign.wpIn (Fence.wide.inRound l) (n - 1 - 1) P (Exit.then K (fun _ _ _ => False)) { tmps := (ps.zip (enc x)).foldl (fun t (p, v) => t.setIfInBounds p v) a.tmps, defers := [] } W)
    (hbody : ∀ (l : Nat) (s : σ) (x : β) (W : World), I s W → X s x W → body.wpIn (Fence.wide.inRound l) (n - 1 - 1) P (RoundEnd w.heap.size I Ix (nx s x) W) (a1 x) W)
    (hdone : ∀ (D : Nat) (s : σ) (W : World), w.heap.size ≤ D → Dn s → I s W → W.heap[D]? = some (.deferred (some [])) → Q .normal { a with defers := { target := .collected D, args := #[] } :: a.defers } W)
    (hstop : ∀ (D : Nat) (s : σ) (W : World), w.heap.size ≤ D → Dx s → Ix s W → W.heap[D]? = some (.deferred (some [])) → Code.ret.wpIn Fence.wide n P Q { a with defers := { target := .collected D, args := #[] } :: a.defers } W) :
    (Code.rangeFunc g ps assign body).wpIn Fence.wide n P Q a w := by
  refine wpIn_rangeFunc ?_
  intro fn hfn
  obtain ⟨rec, hrec⟩ : ∃ rec : LoopState → Option Code → Loop, rec = fun st pe => { state := st, pending := pe, fn, tmps := a.tmps, params := ps, assign, body, defers := w.heap.size } := ⟨_, rfl⟩
  obtain ⟨W1, hW1⟩ : ∃ W1, (w.alloc (.deferred (some []))).alloc (.loop (rec .ready none)) = W1 := ⟨_, rfl⟩
  have hb1 : Below w.heap.size w W1 := by rw [← hW1]; exact (((Below.refl _ w).alloc (Nat.le_refl _) _).alloc (by simp) _)
  have hL1 : W1.heap[w.heap.size + 1]? = some (.loop (rec .ready none)) := by
    rw [← hW1]; have := World.alloc_heap_new (w.alloc (.deferred (some []))) (.loop (rec .ready none)); rwa [World.size_alloc] at this
  have hK1 : W1.heap[w.heap.size]? = some (.deferred (some [])) := by
    rw [← hW1]; exact (Below.heap_alloc _ _ _ (by simp)).trans (World.alloc_heap_new w _)
  refine ⟨w.heap.size + 1, [{ target := .collected w.heap.size, args := #[] }], W1, { target := .fn (.func gf) lb, args := #[.func (.yield (w.heap.size + 1)) #[] #[]] }, W1, gf,
    #[.func (.yield (w.heap.size + 1)) #[] #[]] ++ lb, W1, ?_, ?_, fun _ _ => trivial, ?_, (fun h => by cases h), ?_⟩
  · rw [← hW1, hrec]; exact run_enterLoop_outer _ _ _ _ _
  · simp only [resolve, hg]
    simp [go_sem]
  · simp [invoke, go_sem, eg]
  refine (hit (w.heap.size + 1)
    (fun s W => I s W ∧ W.heap[w.heap.size + 1]? = some (.loop (rec .ready none)) ∧ W.heap[w.heap.size]? = some (.deferred (some [])))
    (fun s W => Ix s W ∧ W.heap[w.heap.size + 1]? = some (.loop (rec .done (some .ret))) ∧ W.heap[w.heap.size]? = some (.deferred (some [])))
    W1 hb1 (fun s A B h hb => ⟨hIb s A B h.1 hb, (hb.block _ (Array.getElem?_eq_some_iff.1 h.2.1).1).trans h.2.1, (hb.block _ (Array.getElem?_eq_some_iff.1 h.2.2).1).trans h.2.2⟩)
    (fun s A h => h.1) ?_ ⟨hIb _ _ _ h0 hb1, hL1, hK1⟩).mono ?_
  · rintro s x W ⟨hi, hl, hk⟩ hx
    have hlt : w.heap.size + 1 < W.heap.size := (Array.getElem?_eq_some_iff.1 hl).1
    have hy := run_yield (P := P) (args := enc x) hl (by rw [hrec]; exact henc x)
    rw [hrec] at hy
    refine ⟨fn, _, assign, body, hy, roundIn_of_wpIn hfn (hassign _ x W _ ?_)⟩
    clear hy
    refine ⟨_, run_beginRound hl (by rw [hrec]), ?_⟩
    have hl2 : (W.putObj (w.heap.size + 1) (.loop { rec .ready none with state := .busy })).heap[w.heap.size + 1]? = some (.loop { rec .ready none with state := .busy }) := World.putObj_heap_same hlt
    have hk2 : (W.putObj (w.heap.size + 1) (.loop { rec .ready none with state := .busy })).heap[w.heap.size]? = some (.deferred (some [])) := (World.putObj_heap_other (by omega)).trans hk
    refine wpIn_mono (hbody _ s x _ (hIl s W _ _ _ (by omega) hl rfl hi) (hXl s x W _ _ _ (by omega) hl rfl hx)) ?_
    rintro e a3 W3 hp
    cases e with
    | normal =>
      obtain ⟨hkf, hi3⟩ := hp
      have hl3 := hkf _ _ (by omega) hl2 rfl
      have hk3 := hkf _ _ (Nat.le_refl _) hk2 rfl
      have hr := run_endRound (P := P) none hl3
      rw [hrec] at hr
      refine ⟨_, _, hr, .inl ⟨rfl, hIl _ _ _ _ _ (by omega) hl3 rfl hi3, ?_, (World.putObj_heap_other (by omega)).trans hk3⟩⟩
      rw [hrec]
      exact World.putObj_heap_same (Array.getElem?_eq_some_iff.1 hl3).1
    | ret =>
      obtain ⟨hkf, hi3⟩ := hp
      have hl3 := hkf _ _ (by omega) hl2 rfl
      have hk3 := hkf _ _ (Nat.le_refl _) hk2 rfl
      have hr := run_endRound (P := P) (some .ret) hl3
      rw [hrec] at hr
      refine ⟨_, _, hr, .inr ⟨rfl, hIxl _ _ _ _ _ (by omega) hl3 rfl hi3, ?_, (World.putObj_heap_other (by omega)).trans hk3⟩⟩
      rw [hrec]
      exact World.putObj_heap_same (Array.getElem?_eq_some_iff.1 hl3).1
    | exit id => exact hp.elim
    | goto t => exact hp.elim
    | panic ch => exact hp.elim
    | outgrown => exact hp.elim
  · rintro e W2 ⟨⟨v, rfl⟩, (⟨s, hS, hi, hl, hk⟩ | ⟨s, hS, hi, hl, hk⟩)⟩
    · exact ⟨none, _, by have := run_endLoop (P := P) hl (by rw [hrec]; simp); rw [hrec] at this; exact this, hdone _ s _ (Nat.le_refl _) hS (hIl _ _ _ _ _ (by omega) hl rfl hi) ((World.putObj_heap_other (by omega)).trans hk)⟩
    · exact ⟨some .ret, _, by have := run_endLoop (P := P) hl (by rw [hrec]; simp); rw [hrec] at this; exact this, hstop _ s _ (Nat.le_refl _) hS (hIxl _ _ _ _ _ (by omega) hl rfl hi) ((World.putObj_heap_other (by omega)).trans hk)⟩

end Go.Proofs.YtgjingleolhkbaaGreatDoor

/- Parse. -/
namespace Go.Proofs.YtgjingleolhkbaaGreatDoor
open Go.RowKit Go.Shelf
attribute [local go_sem] Oper.semAt_some
set_option linter.unusedVariables false
set_option linter.unusedSimpArgs false

set_option maxHeartbeats 4000000 in
theorem lines_any (s : ByteArray) (w : World) :
    Calls Tryz.prog 62 #[.string s] w fun e w' => e = .returned (.func (.func 82) #[] #[.pointer (some ⟨w.heap.size, 0, none⟩)]) ∧ w' = w.alloc (.cells #[.string s] 9) := by
  go_enter Tryz.func62, Tryz.ntmps62
  go_wp2_with fail
  go_ret
  exact ⟨rfl, rfl⟩

def itF (p : X.It × Value) : List Value := itC p.1 p.2
theorem infoIt : (Tryz.prog.info? 44).map (fun i => (i.zero, i.size, i.bytes)) = some (some (.agg #[.int .i64 0, .string { data := #[] }, .int .i64 0, .int .i64 0, .int .i64 0, .int .i64 0, .slice none 0 0]), 7, 80) := by kernel_rfl
theorem itF_len (p : X.It × Value) : (itF p).length = 7 := rfl
/-- Items with rows of their own. -/
def ItO (B : Nat) (W : World) (tv : List (X.It × Value)) : Prop := ∀ p ∈ tv, p.1.name.length ≤ 200000 ∧ ∃ aw lw cw, p.2 = .slice aw lw cw ∧ W.ownsRow B 2 1 (.slice aw lw cw) lw (iC p.1.words)
/-- What the loop has made so far. -/
structure PI (w W : World) (tv : List (X.It × Value)) (v : Value) : Prop where
  low : Below w.heap.size w W
  tab : Tab W
  b0 : Bx W w.heap.size [.slice none 0 0]
  b1 : Bx W (w.heap.size + 1) [.int .i64 0]
  b4 : Bx W (w.heap.size + 2) [v]
  own : W.ownsRow (w.heap.size + 3) 44 7 v tv.length (tv.flatMap itF)
  its : ItO (w.heap.size + 3) W tv
  h7 : 9 ≤ w.heap.size
theorem ItO.kept {B : Nat} {W W' : World} {tv : List (X.It × Value)} {r : Option Nat} (h : ItO B W tv) (hg : W.grownBy W' r) (hr : ∀ b o, r = some b → W.heap[b]? = some o → ∀ cs fr, o ≠ .cells cs 2 fr) : ItO B W' tv := by
  intro p hp
  obtain ⟨hn, aw, lw, cw, e, ho⟩ := h p hp
  refine ⟨hn, aw, lw, cw, e, ?_⟩
  rcases ho.2 with ⟨e1, -⟩ | ⟨g, cap, cur, e1, hb, hh, -⟩
  · exact ho.kept hg (.inl (by rw [e1]; rfl))
  · refine ho.kept hg (.inr fun e2 => ?_)
    have e3 : (Value.slice aw lw cw).ownBlock = some g := by rw [e1]; rfl
    rw [e3] at e2
    exact hr g _ e2.symm hh _ _ rfl
theorem PI.below {w W W' : World} {tv : List (X.It × Value)} {v : Value} (h : PI w W tv v) (hb : Below W.heap.size W W') : PI w W' tv v :=
  ⟨h.low.trans (hb.mono h.low.size), h.tab.below hb, h.b0.below hb, h.b1.below hb, h.b4.below hb, own_thru h.own hb, h.its.kept (gb_of_below hb none) (fun b o e => by cases e), h.h7⟩
theorem gb_put {W : World} {l : Nat} (o : Obj) : W.grownBy (W.putObj l o) (some l) :=
  ⟨rfl, rfl, rfl, by simp, fun k _ hk => World.putObj_heap_other (fun e => hk (by rw [e]))⟩
theorem noCells_ne {W : World} {l b : Nat} {o : Obj} {vs : List Value} (hl : W.heap[l]? = some o) (ho : o.isCells = false) (h : Bx W b vs) (hne : vs ≠ []) : b ≠ l := by
  rintro rfl
  cases vs with
  | nil => exact hne rfl
  | cons v vs =>
    have := h.c 0 v rfl
    unfold World.cell? at this
    simp only [hl] at this
    cases o <;> simp_all [Obj.isCells]
theorem own_ne_obj {W : World} {l B : Nat} {o : Obj} {ty : TypeId} {k n : Nat} {v : Value} {cs : List Value} (hl : W.heap[l]? = some o) (ho : o.isCells = false) (h : W.ownsRow B ty k v n cs) : some l ≠ v.ownBlock := by
  rcases h.2 with ⟨e1, -⟩ | ⟨g, cap, cur, e1, -, hh, -⟩
  · rw [e1]; simp [Value.ownBlock]
  · rw [e1]
    intro e
    simp only [Value.ownBlock, Option.some.injEq] at e
    subst e
    rw [hl] at hh
    cases hh
    cases ho
theorem PI.put {w W : World} {tv : List (X.It × Value)} {v : Value} (h : PI w W tv v) {l : Nat} {o : Obj} (hw : w.heap.size ≤ l) (hl : W.heap[l]? = some o) (ho : o.isCells = false) (o' : Obj) : PI w (W.putObj l o') tv v := by
  have g := gb_put (W := W) (l := l) o'
  refine ⟨below_gb h.low g hw h.low.size, h.tab.gb g (Nat.le_trans h.h7 hw), h.b0.gb g (noCells_ne hl ho h.b0 (by simp)), h.b1.gb g (noCells_ne hl ho h.b1 (by simp)), h.b4.gb g (noCells_ne hl ho h.b4 (by simp)), ?_, ?_, h.h7⟩
  · exact h.own.kept g (.inr (fun e => own_ne_obj hl ho h.own (Eq.symm e)))
  · exact h.its.kept g (fun b o2 e h2 cs fr => by cases e; rw [hl] at h2; cases h2; rintro rfl; cases ho)

/-- What Parse leaves. -/
def ParseOut (w : World) (r : List X.It × Nat) (e : Ending) (w' : World) : Prop :=
  ∃ (tv : List (X.It × Value)) (a : Option Addr) (c : Nat), e = .returned (.tuple #[.slice a tv.length c, .int .i64 r.2]) ∧ tv.map (·.1) = r.1 ∧ w'.ownsRow w.heap.size 44 7 (.slice a tv.length c) tv.length (tv.flatMap itF) ∧ ItO w.heap.size w' tv ∧ Below w.heap.size w w'
theorem ParseOut.none {w w' : World} {z : Nat} {r : List X.It × Nat} (h : r = ([], z)) (hb : Below w.heap.size w w') : ParseOut w r (.returned (.tuple #[.slice Option.none 0 0, .int .i64 z])) w' := by
  subst h
  exact ⟨[], Option.none, 0, rfl, rfl, World.ownsRow_nil _ _ _ _, (fun p hp => by simp at hp), hb⟩
def IxP (w W : World) : Prop := Below w.heap.size w W ∧ Bx W w.heap.size [.slice none 0 0] ∧ Bx W (w.heap.size + 1) [.int .i64 2]
theorem Kf.below {B : Nat} {W W' : World} (h : Below W.heap.size W W') : Kf B W W' := fun k o _ hk _ => (h.block k (Array.getElem?_eq_some_iff.1 hk).1).trans hk
theorem Kf.trans {B : Nat} {A W W' : World} (h : Kf B A W) (h2 : Kf B W W') : Kf B A W' := fun k o hb hk ho => h2 k o hb (h k o hb hk ho) ho
theorem Kf.gb {B : Nat} {W W' : World} {r : Option Nat} (hg : W.grownBy W' r) (hr : ∀ b o, r = some b → W.heap[b]? = some o → o.isCells = true) : Kf B W W' := fun k o _ hk ho =>
  (hg.block k (Array.getElem?_eq_some_iff.1 hk).1 (fun e => by have := hr k o e.symm hk; rw [ho] at this; cases this)).trans hk
theorem Kf.set {B : Nat} {W : World} {b : Nat} {vs : List Value} (h : Bx W b vs) (hne : vs ≠ []) (k : Nat) (u : Value) : Kf B W (W.setCell ⟨b, k, none⟩ u) :=
  Kf.gb (gb_set _ _ _) (fun b' o e ho => by
    cases e
    by_cases hc : o.isCells = true
    · exact hc
    · exact absurd rfl (noCells_ne ho (by simpa using hc) h hne))
theorem own_cells {W : World} {B : Nat} {ty : TypeId} {k n : Nat} {v : Value} {cs : List Value} (h : W.ownsRow B ty k v n cs) : ∀ b o, v.ownBlock = some b → W.heap[b]? = some o → o.isCells = true ∧ ∃ cur, o = .cells cur ty (0, 0) := by
  intro b o e ho
  rcases h.2 with ⟨e1, -⟩ | ⟨g, cap, cur, e1, -, hh, -⟩
  · rw [e1] at e; cases e
  · rw [e1] at e
    cases e
    rw [hh] at ho
    cases ho
    exact ⟨rfl, _, rfl⟩
theorem ItO.keptB {B b : Nat} {W W' : World} {tv : List (X.It × Value)} (h : ItO B W tv) (hg : W.grownBy W' (some b)) (hb : b < B) : ItO B W' tv := by
  intro p hp
  obtain ⟨hn, aw, lw, cw, e, ho⟩ := h p hp
  exact ⟨hn, aw, lw, cw, e, ho.kept hg (.inr (fun e2 => by have := (ho.lt b e2).1; omega))⟩
theorem reads_snoc {pre : List (List X.By)} {ws : List X.By} {ts : List X.It} {t : X.It} (h : X.reads pre = some ts) (hr : X.read ws = some t) : X.reads (pre ++ [ws]) = some (ts ++ [t]) := by
  rw [X.reads_app, h]
  simp [X.reads, hr]
theorem reads_bad {pre post : List (List X.By)} {ws : List X.By} (hr : X.read ws = none) : X.reads (pre ++ [ws] ++ post) = none := by
  rw [X.reads_app, X.reads_app]
  have : X.reads [ws] = none := by simp [X.reads, hr]
  rw [this]
  cases X.reads pre <;> rfl
theorem reads_many {pre post : List (List X.By)} (hn : 20000 < pre.length) : ∀ l, X.reads (pre ++ post) = some l → ¬ l.length ≤ 20000 := fun l hl => by
  rw [X.reads_length hl, List.length_append]
  omega
theorem parse_bad {s : X.By} (hs : s.length ≤ 200000) (h : X.reads (X.wl s) = none ∨ ∀ l, X.reads (X.wl s) = some l → ¬ l.length ≤ 20000) : X.parse s = ([], 2) := by
  unfold X.parse
  rw [if_neg (by omega)]
  rcases h with h | h
  · rw [h]
  · cases hr : X.reads (X.wl s) with
    | none => rfl
    | some l => simp only; rw [if_neg (h l hr)]

theorem ItO.base {B B' : Nat} {W : World} {tv : List (X.It × Value)} (h : ItO B W tv) (hb : B' ≤ B) : ItO B' W tv := by
  intro p hp
  obtain ⟨hn, aw, lw, cw, e, ho⟩ := h p hp
  exact ⟨hn, aw, lw, cw, e, own_baseB ho hb⟩
theorem PI.fin {w W : World} {tv : List (X.It × Value)} {v : Value} {D : Nat} (h : PI w W tv v) (hw : w.heap.size ≤ D) (hD : W.heap[D]? = some (.deferred (some []))) (z : Int) :
    ((W.setCell ⟨w.heap.size, 0, none⟩ v).setCell ⟨w.heap.size + 1, 0, none⟩ (.int .i64 z)).heap[D]? = some (.deferred (some [])) ∧
    (((W.setCell ⟨w.heap.size, 0, none⟩ v).setCell ⟨w.heap.size + 1, 0, none⟩ (.int .i64 z)).putObj D (.deferred none)).cell? ⟨w.heap.size, 0, none⟩ = some v ∧
    (((W.setCell ⟨w.heap.size, 0, none⟩ v).setCell ⟨w.heap.size + 1, 0, none⟩ (.int .i64 z)).putObj D (.deferred none)).cell? ⟨w.heap.size + 1, 0, none⟩ = some (.int .i64 z) ∧
    (((W.setCell ⟨w.heap.size, 0, none⟩ v).setCell ⟨w.heap.size + 1, 0, none⟩ (.int .i64 z)).putObj D (.deferred none)).ownsRow w.heap.size 44 7 v tv.length (tv.flatMap itF) ∧
    ItO w.heap.size (((W.setCell ⟨w.heap.size, 0, none⟩ v).setCell ⟨w.heap.size + 1, 0, none⟩ (.int .i64 z)).putObj D (.deferred none)) tv ∧
    Below w.heap.size w (((W.setCell ⟨w.heap.size, 0, none⟩ v).setCell ⟨w.heap.size + 1, 0, none⟩ (.int .i64 z)).putObj D (.deferred none)) := by
  have x0 := h.b0.put 0 (by simp) v
  have x1 := h.b1.gb (gb_set W ⟨w.heap.size, 0, none⟩ v) (show w.heap.size + 1 ≠ w.heap.size by omega)
  have y0 := x0.gb (gb_set (W.setCell ⟨w.heap.size, 0, none⟩ v) ⟨w.heap.size + 1, 0, none⟩ (.int .i64 z)) (show w.heap.size ≠ w.heap.size + 1 by omega)
  have y1 := x1.put 0 (by simp) (.int .i64 z)
  have k1 := Kf.set (B := w.heap.size) h.b0 (by simp) 0 v
  have k2 := Kf.set (B := w.heap.size) x1 (by simp) 0 (.int .i64 z)
  have hD2 := k2 D _ hw (k1 D _ hw hD rfl) rfl
  have o1 := h.own.kept (gb_set W ⟨w.heap.size, 0, none⟩ v) (.inr (fun e => by have := (h.own.lt w.heap.size e).1; omega))
  have o2 := o1.kept (gb_set (W.setCell ⟨w.heap.size, 0, none⟩ v) ⟨w.heap.size + 1, 0, none⟩ (.int .i64 z)) (.inr (fun e => by have := (o1.lt (w.heap.size + 1) e).1; omega))
  have i1 := h.its.keptB (gb_set W ⟨w.heap.size, 0, none⟩ v) (show w.heap.size < w.heap.size + 3 by omega)
  have i2 := i1.keptB (gb_set (W.setCell ⟨w.heap.size, 0, none⟩ v) ⟨w.heap.size + 1, 0, none⟩ (.int .i64 z)) (show w.heap.size + 1 < w.heap.size + 3 by omega)
  have b2 : Below w.heap.size w ((W.setCell ⟨w.heap.size, 0, none⟩ v).setCell ⟨w.heap.size + 1, 0, none⟩ (.int .i64 z)) := (h.low.setCell (Nat.le_refl _) _).setCell (Nat.le_succ _) _
  generalize (W.setCell ⟨w.heap.size, 0, none⟩ v).setCell ⟨w.heap.size + 1, 0, none⟩ (.int .i64 z) = Z at *
  have g := gb_put (W := Z) (l := D) (.deferred none)
  refine ⟨hD2, (y0.gb g (noCells_ne hD2 rfl y0 (by simp))).c 0 _ rfl, (y1.gb g (noCells_ne hD2 rfl y1 (by simp))).c 0 _ rfl, ?_, ?_, below_gb b2 g hw b2.size⟩
  · exact own_baseB (o2.kept g (.inr (fun e => own_ne_obj hD2 rfl o2 (Eq.symm e)))) (by omega)
  · exact (i2.kept g (fun b o2 e h2 cs fr => by cases e; rw [hD2] at h2; cases h2; rintro ⟨⟩)).base (by omega)

set_option maxRecDepth 100000 in
set_option maxHeartbeats 8000000 in
theorem parse_any (s : ByteArray) (hs : s.size ≤ maxLen) (w : World) (ht : Tab w) :
    Calls Tryz.prog 38 #[.string s] w (ParseOut w (X.parse s.data.toList)) := by
  unfold maxLen at hs
  by_cases hbig : 200000 < s.size
  · have HR : Hid (X.parse s.data.toList = ([], 8)) := by show _ = _; unfold X.parse; rw [if_pos (by rw [len_list]; exact hbig)]
    go_enter Tryz.func38, Tryz.ntmps38
    go_wp2_with fail
    refine bodyPost_ret (v := .tuple #[.slice none 0 0, .int .i64 8]) (by simp [results, Tryz.results38, go_sem]) rfl ?_
    refine ParseOut.none HR.out ?_
    repeat (first | exact bl2 _ _ _ | refine Below.setCell ?_ (by simp) _)
  have hsm : s.size ≤ 200000 := by omega
  have hdec : ¬ (200000 : Int) < s.size := by omega
  have HT : Hid _ := ht
  have hz7 := ht.hz
  clear ht hbig hs
  have hlines := lines_any s
  refine (callsIn_wide (n := 6)).1 ?_
  refine callsIn_of_wp_marks Tryz.func38 rfl trivial ?_ rfl
  simp only [Tryz.ntmps38, List.size_toArray, List.length_cons, List.length_nil, Nat.reduceAdd, Nat.reduceSub, Array.replicate_succ, Array.replicate_zero, List.push_toArray, List.append_toArray, List.nil_append, List.cons_append]
  gi_wp2
  refine ⟨trivial, ?_⟩
  refine (callsIn_wide.2 (hlines _)).mono ?_
  rintro e y ⟨rfl, rfl⟩
  clear hlines
  gi_wp2
  have HPI0 : Hid (PI w ((((w.alloc (.cells #[.slice none 0 0] 22)).alloc (.cells #[.int .i64 0] 31)).alloc (.cells #[.slice none 0 0] 22)).alloc (.cells #[.string s] 9)) [] (.slice none 0 0)) := by
    refine ⟨((bl2 _ _ _).alloc (by simp; omega) _).alloc (by simp; omega) _, (((HT.out.alloc _).alloc _).alloc _).alloc _, ?_, ?_, ?_, World.ownsRow_nil _ _ _ _, (fun p hp => by simp at hp), hz7⟩
    · exact (((Bx.new w #[.slice none 0 0] 22).below (bl1 _ _)).below (bl1 _ _)).below (bl1 _ _)
    · have := ((Bx.new (w.alloc (.cells #[.slice none 0 0] 22)) #[.int .i64 0] 31).below (bl1 _ (.cells #[.slice none 0 0] 22))).below (bl1 _ (.cells #[.string s] 9))
      simpa using this
    · have := (Bx.new ((w.alloc (.cells #[.slice none 0 0] 22)).alloc (.cells #[.int .i64 0] 31)) #[.slice none 0 0] 22).below (bl1 _ (.cells #[.string s] 9))
      simpa using this
  have HS0 : Hid (((((w.alloc (.cells #[.slice none 0 0] 22)).alloc (.cells #[.int .i64 0] 31)).alloc (.cells #[.slice none 0 0] 22)).alloc (.cells #[.string s] 9)).cell? ⟨w.heap.size + 1 + 1 + 1, 0, none⟩ = some (.string s)) := by
    show _ = _
    have := row_cell (w := ((w.alloc (.cells #[.slice none 0 0] 22)).alloc (.cells #[.int .i64 0] 31)).alloc (.cells #[.slice none 0 0] 22)) (a := #[.string s]) (t := 9) (k := 0) (u := .string s) rfl
    simpa using this
  have HSZ : Hid (w.heap.size ≤ ((((w.alloc (.cells #[.slice none 0 0] 22)).alloc (.cells #[.int .i64 0] 31)).alloc (.cells #[.slice none 0 0] 22)).alloc (.cells #[.string s] 9)).heap.size) := by show _ ≤ _; simp; omega
  generalize ((((w.alloc (.cells #[.slice none 0 0] 22)).alloc (.cells #[.int .i64 0] 31)).alloc (.cells #[.slice none 0 0] 22)).alloc (.cells #[.string s] 9)) = W0 at HPI0 HS0 HSZ ⊢
  refine range_lies (σ := List (List X.By)) (β := List X.By × Nat × Nat) (gf := 82) (lb := #[.pointer (some ⟨w.heap.size + 1 + 1 + 1, 0, none⟩)]) rfl (enters_of Tryz.func82 (by kernel_rfl) rfl)
    (fun pre W => ∃ tv av cv, PI w W tv (.slice av tv.length cv) ∧ X.reads pre = some (tv.map (·.1)) ∧ tv.length ≤ 20000)
    (fun pre W => IxP w W ∧ X.parse s.data.toList = ([], 2))
    (fun pre x W => StrV W (some ⟨x.2.1, 0, none⟩) x.1.length x.2.2 x.1 ∧ x.1 ≠ [] ∧ x.1.length ≤ 200000 ∧ ∃ post, X.wl s.data.toList = pre ++ [x.1] ++ post)
    (fun x => #[(.slice (some ⟨x.2.1, 0, none⟩) x.1.length x.2.2)]) (fun pre x => pre ++ [x.1]) [] (fun pre => pre = X.wl s.data.toList) (fun _ => True)
    (fun x => { tmps := #[.string s, undef, .pointer (some ⟨w.heap.size, 0, none⟩), .pointer (some ⟨w.heap.size + 1, 0, none⟩), .pointer (some ⟨w.heap.size + 1 + 1, 0, none⟩), (.slice (some ⟨x.2.1, 0, none⟩) x.1.length x.2.2), undef, undef, .string s, .int .i64 s.size, .bool false, .string s, .func (.func 82) #[] #[.pointer (some ⟨w.heap.size + 1 + 1 + 1, 0, none⟩)], (.slice (some ⟨x.2.1, 0, none⟩) x.1.length x.2.2), undef, undef, undef, undef, undef, undef, undef, undef, undef, undef, undef, undef, undef, undef, undef, undef, undef], defers := [] })
    (fun _ => rfl) ?ib ?il ?ixl ?xl ?it ?start ?assign ?body ?done ?stop
  case ib => rintro pre A B ⟨tv, av, cv, h1, h2⟩ hb; exact ⟨tv, av, cv, h1.below hb, h2⟩
  case il => rintro pre A l o o' hl ho hc ⟨tv, av, cv, h1, h2⟩; exact ⟨tv, av, cv, h1.put (Nat.le_trans HSZ.out hl) ho hc o', h2⟩
  case ixl =>
    rintro pre A l o o' hl ho hc ⟨⟨h1, h2, h3⟩, h4⟩
    have g := gb_put (W := A) (l := l) o'
    exact ⟨⟨below_gb h1 g (Nat.le_trans HSZ.out hl) h1.size, h2.gb g (noCells_ne ho hc h2 (by simp)), h3.gb g (noCells_ne ho hc h3 (by simp))⟩, h4⟩
  case xl =>
    rintro pre x A l o o' hl ho hc ⟨h1, h2⟩
    refine ⟨⟨h1.count, h1.room, h1.small, ?_⟩, h2⟩
    rcases h1.cells with h0 | ⟨b, off, e, hcell⟩
    · exact .inl h0
    · refine .inr ⟨b, off, e, fun i hi => ?_⟩
      have hq := hcell i hi
      refine (gb_put (W := A) (l := l) o').cell hq (fun e2 => ?_)
      cases e2
      unfold World.cell? at hq
      simp only [ho] at hq
      cases o <;> simp_all [Obj.isCells]
  case it =>
    intro l J Jx W1 hb hJb hJI hY hJ0
    have := lines1_in 5 l (w.heap.size + 1 + 1 + 1) s hsm J Jx hJb (fun pre A h => by obtain ⟨tv, av, cv, h1, -⟩ := hJI pre A h; exact h1.tab) (fun pre ws g c W h1 h2 h3 h4 h5 => hY pre (ws, g, c) W h1 ⟨h2, h3, h4, h5⟩) W1 ((hb.cell (p := ⟨w.heap.size + 1 + 1 + 1, 0, none⟩) (World.block_lt_of_cell? _ ⟨w.heap.size + 1 + 1 + 1, 0, none⟩ HS0.out)).trans HS0.out) hJ0
    refine this.mono ?_
    rintro e W' ⟨hv, h | ⟨pre, post, h1, h2⟩⟩
    · exact ⟨hv, .inl ⟨_, rfl, h⟩⟩
    · exact ⟨hv, .inr ⟨pre, trivial, h2⟩⟩
  case start => exact ⟨[], none, 0, HPI0.out, rfl, by simp⟩
  case assign =>
    intro l x W K hK
    gi_wp2
    exact hK
  case body =>
    rintro l pre ⟨ws, g, c⟩ W ⟨tv, av, cv, hPI, hrd, hcnt⟩ ⟨hsv, hne, hwl, post, hpost⟩
    simp only at hsv hne hwl hpost ⊢
    have HPI : Hid (PI w W tv (.slice av tv.length cv)) := hPI
    have HRD : Hid (X.reads pre = some (tv.map (·.1)) ∧ tv.length ≤ 20000) := ⟨hrd, hcnt⟩
    have HPO : Hid (X.wl s.data.toList = pre ++ [ws] ++ post) := hpost
    have HWN : Hid (w.heap.size + 3 ≤ W.heap.size) := by have := hPI.b4.lt; exact this
    have hread := read_any hsv hwl hne hPI.tab
    have hlen : tv.length ≤ 20000 := hcnt
    clear hPI hrd hcnt hpost hsv hne hwl HPI0 HS0
    gi_wp2
    refine ⟨trivial, ?_⟩
    refine (CallsIn.inRound l (callsIn_wide.2 hread)).mono ?_
    rintro e y ⟨t, aw, lw, cw, ok, rfl, h1, h2, h3, ho, hb⟩
    have HH : Hid ((ok = true → X.read ws = some t) ∧ (ok = false → X.read ws = none) ∧ t.name.length ≤ 200000) := ⟨h1, h2, h3⟩
    have HB1 : Hid (Below W.heap.size W (y.alloc (.cells #[.int .i64 t.kind, .string (X.str t.name), .int .i64 t.op, .int .i64 t.a, .int .i64 t.b, .int .i64 t.n, .slice aw lw cw] 44))) := hb.alloc hb.size _
    have HP1 : Hid (PI w (y.alloc (.cells #[.int .i64 t.kind, .string (X.str t.name), .int .i64 t.op, .int .i64 t.a, .int .i64 t.b, .int .i64 t.n, .slice aw lw cw] 44)) tv (.slice av tv.length cv)) := HPI.out.below HB1.out
    have HOW : Hid (World.ownsRow (y.alloc (.cells #[.int .i64 t.kind, .string (X.str t.name), .int .i64 t.op, .int .i64 t.a, .int .i64 t.b, .int .i64 t.n, .slice aw lw cw] 44)) (w.heap.size + 3) 2 1 (.slice aw lw cw) lw (iC t.words)) := own_thru (own_baseB ho HWN.out) (bl1 _ _)
    have c0 := HP1.out.b0.c 0 _ rfl
    have c1 := HP1.out.b1.c 0 _ rfl
    have c4 := HP1.out.b4.c 0 _ rfl
    have f0 := HP1.out.b0.f 0
    have f1 := HP1.out.b1.f 0
    have l0 := HP1.out.b0.lt
    clear h1 h2 h3 ho hb hread
    cases ok with
    | false =>
      have HBAD : Hid (X.parse s.data.toList = ([], 2)) := parse_bad (by rw [len_list]; exact hsm) (.inl (by rw [HPO.out]; exact reads_bad (HH.out.2.1 rfl)))
      · skip
        gi_wp2
        refine ⟨?_, ⟨⟨?_, ?_, ?_⟩, HBAD.out⟩⟩
        · exact ((Kf.below HB1.out).trans (Kf.set HP1.out.b0 (by simp) 0 _)).trans (Kf.set (HP1.out.b1.gb (gb_set _ _ _) (show w.heap.size + 1 ≠ w.heap.size by omega)) (by simp) 0 _)
        · exact (HP1.out.low.setCell (Nat.le_refl _) _).setCell (Nat.le_succ _) _
        · exact (HP1.out.b0.put 0 (by simp) _).gb (gb_set _ _ _) (show w.heap.size ≠ w.heap.size + 1 by omega)
        · exact (HP1.out.b1.gb (gb_set _ _ _) (show w.heap.size + 1 ≠ w.heap.size by omega)).put 0 (by simp) _
    | true =>
      by_cases hk : tv.length = 20000
      · have hk' : ((tv.length : Int) == 20000) = true := by simp; omega
        have HBAD : Hid (X.parse s.data.toList = ([], 2)) := by
          refine parse_bad (by rw [len_list]; exact hsm) (.inr fun l hl => ?_)
          rw [HPO.out] at hl
          have h5 := X.reads_length HRD.out.1
          rw [List.length_map] at h5
          exact reads_many (by rw [List.length_append]; simp; omega) l hl
        clear hk
        gi_wp2
        refine ⟨?_, ⟨⟨?_, ?_, ?_⟩, HBAD.out⟩⟩
        · exact ((Kf.below HB1.out).trans (Kf.set HP1.out.b0 (by simp) 0 _)).trans (Kf.set (HP1.out.b1.gb (gb_set _ _ _) (show w.heap.size + 1 ≠ w.heap.size by omega)) (by simp) 0 _)
        · exact (HP1.out.low.setCell (Nat.le_refl _) _).setCell (Nat.le_succ _) _
        · exact (HP1.out.b0.put 0 (by simp) _).gb (gb_set _ _ _) (show w.heap.size ≠ w.heap.size + 1 by omega)
        · exact (HP1.out.b1.gb (gb_set _ _ _) (show w.heap.size + 1 ≠ w.heap.size by omega)).put 0 (by simp) _
      · have hk' : ((tv.length : Int) == 20000) = false := by simp; omega
        have hk2 : tv.length + 1 ≤ 20000 := by omega
        obtain ⟨it, hit, ht0, ht1, ht2⟩ := info_parts infoIt
        have HB2 : Hid (Below W.heap.size W ((y.alloc (.cells #[.int .i64 t.kind, .string (X.str t.name), .int .i64 t.op, .int .i64 t.a, .int .i64 t.b, .int .i64 t.n, .slice aw lw cw] 44)).alloc (.cells #[.int .i64 t.kind, .string (X.str t.name), .int .i64 t.op, .int .i64 t.a, .int .i64 t.b, .int .i64 t.n, .slice aw lw cw] 44))) := HB1.out.alloc HB1.out.size _
        have HP2 : Hid (PI w ((y.alloc (.cells #[.int .i64 t.kind, .string (X.str t.name), .int .i64 t.op, .int .i64 t.a, .int .i64 t.b, .int .i64 t.n, .slice aw lw cw] 44)).alloc (.cells #[.int .i64 t.kind, .string (X.str t.name), .int .i64 t.op, .int .i64 t.a, .int .i64 t.b, .int .i64 t.n, .slice aw lw cw] 44)) tv (.slice av tv.length cv)) := HP1.out.below (bl1 _ _)
        have HOW2 : Hid (World.ownsRow ((y.alloc (.cells #[.int .i64 t.kind, .string (X.str t.name), .int .i64 t.op, .int .i64 t.a, .int .i64 t.b, .int .i64 t.n, .slice aw lw cw] 44)).alloc (.cells #[.int .i64 t.kind, .string (X.str t.name), .int .i64 t.op, .int .i64 t.a, .int .i64 t.b, .int .i64 t.n, .slice aw lw cw] 44)) (w.heap.size + 3) 2 1 (.slice aw lw cw) lw (iC t.words)) := own_thru HOW.out (bl1 _ _)
        have HNC : Hid (∀ j u, ([.int .i64 t.kind, .string (X.str t.name), .int .i64 t.op, .int .i64 t.a, .int .i64 t.b, .int .i64 t.n, .slice aw lw cw] : List Value)[j]? = some u → ((y.alloc (.cells #[.int .i64 t.kind, .string (X.str t.name), .int .i64 t.op, .int .i64 t.a, .int .i64 t.b, .int .i64 t.n, .slice aw lw cw] 44)).alloc (.cells #[.int .i64 t.kind, .string (X.str t.name), .int .i64 t.op, .int .i64 t.a, .int .i64 t.b, .int .i64 t.n, .slice aw lw cw] 44)).cell? ((⟨y.heap.size + 1, 0, none⟩ : Addr).add j) = some u) := fun j u hu => by
          rw [Addr.add_lit, Nat.zero_add]
          have := row_cell (w := (y.alloc (.cells #[.int .i64 t.kind, .string (X.str t.name), .int .i64 t.op, .int .i64 t.a, .int .i64 t.b, .int .i64 t.n, .slice aw lw cw] 44))) (a := #[.int .i64 t.kind, .string (X.str t.name), .int .i64 t.op, .int .i64 t.a, .int .i64 t.b, .int .i64 t.n, .slice aw lw cw]) (t := 44) (k := j) (u := u) (by simpa using hu)
          simpa using this
        have HSZ2 : Hid (w.heap.size + 3 ≤ ((y.alloc (.cells #[.int .i64 t.kind, .string (X.str t.name), .int .i64 t.op, .int .i64 t.a, .int .i64 t.b, .int .i64 t.n, .slice aw lw cw] 44)).alloc (.cells #[.int .i64 t.kind, .string (X.str t.name), .int .i64 t.op, .int .i64 t.a, .int .i64 t.b, .int .i64 t.n, .slice aw lw cw] 44)).heap.size) := by show _ ≤ _; have := HB2.out.size; have := HWN.out; omega
        have HNEW : Hid (X.reads (pre ++ [ws]) = some ((tv ++ [((t, Value.slice aw lw cw) : X.It × Value)]).map (·.1))) := by
          show _ = _
          rw [reads_snoc HRD.out.1 (HH.out.1 rfl)]
          simp
        gi_wp2_with (gi_at_builtin; refine wpListIn_append_own _ rfl _ _ 22 rfl (w.heap.size + 3) 44 it _ 7 80 Tryz.underlying22 hit ht0 ht1 ht2 rfl (by decide) (.slice av tv.length cv) tv.length _ rfl HP2.out.own ⟨y.heap.size + 1, 0, none⟩ 1 1 [.int .i64 t.kind, .string (X.str t.name), .int .i64 t.op, .int .i64 t.a, .int .i64 t.b, .int .i64 t.n, .slice aw lw cw] rfl rfl HNC.out (by intro u hu; simp at hu; rcases hu with rfl | rfl | rfl | rfl | rfl | rfl | rfl <;> rfl) (by unfold maxLen; omega) (by omega) HSZ2.out ?_; intro v' w3 hown' hgrow _; obtain ⟨g', cap', rfl⟩ := ownsRow_succ hown'; have HO3 : Hid _ := hown'; have HG3 : Hid _ := hgrow; have HNB : Hid (∀ b, b < w.heap.size + 3 → some b ≠ (Value.slice av tv.length cv).ownBlock) := (fun b hb e => by have := (HP2.out.own.lt b e.symm).1; omega); have HB4 : Hid (Bx w3 (w.heap.size + 2) [.slice av tv.length cv]) := HP2.out.b4.gbO hgrow (HNB.out _ (by omega)); have d4 := HB4.out.c 0 _ rfl; have g4 := HB4.out.f 0; have l4 := HB4.out.lt; clear hown' hgrow)
        have hits : ItO (w.heap.size + 3) ((y.alloc (.cells #[.int .i64 t.kind, .string (X.str t.name), .int .i64 t.op, .int .i64 t.a, .int .i64 t.b, .int .i64 t.n, .slice aw lw cw] 44)).alloc (.cells #[.int .i64 t.kind, .string (X.str t.name), .int .i64 t.op, .int .i64 t.a, .int .i64 t.b, .int .i64 t.n, .slice aw lw cw] 44)) (tv ++ [(t, .slice aw lw cw)]) := fun p hp => by
          rcases List.mem_append.1 hp with hp | hp
          · exact HP2.out.its p hp
          · simp at hp; subst hp; exact ⟨HH.out.2.2, aw, lw, cw, rfl, HOW2.out⟩
        have hits3 := (hits.kept HG3.out (fun b o e ho cs fr => by obtain ⟨-, cur, rfl⟩ := own_cells HP2.out.own b o e ho; intro h; cases h)).keptB (gb_set w3 ⟨w.heap.size + 2, 0, none⟩ (.slice (some ⟨g', 0, none⟩) (tv.length + 1) cap')) (show w.heap.size + 2 < w.heap.size + 3 by omega)
        have hlow : Below w.heap.size w (w3.setCell ⟨w.heap.size + 2, 0, none⟩ (.slice (some ⟨g', 0, none⟩) (tv.length + 1) cap')) := (below_grownB HP2.out.low HP2.out.own HG3.out HSZ2.out (by omega)).setCell (by simp) _
        have hll : (tv ++ [((t, Value.slice aw lw cw) : X.It × Value)]).length = tv.length + 1 := by simp
        refine ⟨?_, ⟨tv ++ [(t, .slice aw lw cw)], some ⟨g', 0, none⟩, cap', ?_, HNEW.out, by rw [hll]; exact hk2⟩⟩
        · exact (Kf.below HB2.out).trans ((Kf.gb HG3.out (fun b o e ho => (own_cells HP2.out.own b o e ho).1)).trans (Kf.set HB4.out (by simp) 0 _))
        · rw [hll]
          refine ⟨hlow, HT.out.below hlow, ?_, ?_, HB4.out.put 0 (by simp) _, ?_, hits3, hz7⟩
          · exact (HP2.out.b0.gbO HG3.out (HNB.out _ (by omega))).gb (gb_set _ _ _) (show w.heap.size ≠ w.heap.size + 2 by omega)
          · exact (HP2.out.b1.gbO HG3.out (HNB.out _ (by omega))).gb (gb_set _ _ _) (show w.heap.size + 1 ≠ w.heap.size + 2 by omega)
          · rw [hll, List.flatMap_append]
            have ho3 : w3.ownsRow (w.heap.size + 3) 44 7 (.slice (some ⟨g', 0, none⟩) (tv.length + 1) cap') (tv.length + 1) (tv.flatMap itF ++ [.int .i64 t.kind, .string (X.str t.name), .int .i64 t.op, .int .i64 t.a, .int .i64 t.b, .int .i64 t.n, .slice aw lw cw]) := HO3.out
            have := ho3.kept (gb_set w3 ⟨w.heap.size + 2, 0, none⟩ (.slice (some ⟨g', 0, none⟩) (tv.length + 1) cap')) (.inr (fun e => by have := (ho3.lt (w.heap.size + 2) e).1; omega))
            exact this
  case done =>
    rintro D pre W hD rfl ⟨tv, av, cv, hPI, hrd, hcnt⟩ hK
    have c0 := hPI.b0.c 0 _ rfl
    have c1 := hPI.b1.c 0 _ rfl
    have c4 := hPI.b4.c 0 _ rfl
    have f0 := hPI.b0.f 0
    have f1 := hPI.b1.f 0
    have HPI : Hid (PI w W tv (.slice av tv.length cv)) := hPI
    have HRD : Hid (X.reads (X.wl s.data.toList) = some (tv.map (·.1)) ∧ tv.length ≤ 20000) := ⟨hrd, hcnt⟩
    have HKD : Hid _ := hK
    clear hPI hrd hcnt hK HPI0 HS0
    gi_wp2
    obtain ⟨e1, e2, e3, e4, e5, e6⟩ := HPI.out.fin (Nat.le_trans HSZ.out hD) HKD.out 0
    have HR : Hid (X.parse s.data.toList = (tv.map (·.1), 0)) := by
      show _ = _
      unfold X.parse
      rw [if_neg (by rw [len_list]; omega), HRD.out.1]
      simp only [List.length_map]
      rw [if_pos HRD.out.2]
    refine ⟨by simp, .inl ⟨_, _, rfl, run_takeDeferred e1, ?_⟩⟩
    refine ⟨.tuple #[.slice av tv.length cv, .int .i64 0], ?_, ?_⟩
    · simp [results, Tryz.results38, go_sem, e2, e3]
    · rw [HR.out]
      exact ⟨tv, av, cv, rfl, rfl, e4, e5, e6⟩
  case stop =>
    rintro D pre W hD - ⟨⟨h1, h2, h3⟩, h4⟩ hK
    have c0 := h2.c 0 _ rfl
    have c1 := h3.c 0 _ rfl
    gi_wp2
    have g := gb_put (W := W) (l := D) (.deferred none)
    have e2 := (h2.gb g (noCells_ne hK rfl h2 (by simp))).c 0 _ rfl
    have e3 := (h3.gb g (noCells_ne hK rfl h3 (by simp))).c 0 _ rfl
    refine ⟨by simp, .inl ⟨_, _, rfl, run_takeDeferred hK, ?_⟩⟩
    refine ⟨.tuple #[.slice none 0 0, .int .i64 2], ?_, ?_⟩
    · simp [results, Tryz.results38, go_sem, e2, e3]
    · exact ParseOut.none h4 (below_gb h1 g (Nat.le_trans HSZ.out hD) h1.size)

end Go.Proofs.YtgjingleolhkbaaGreatDoor
