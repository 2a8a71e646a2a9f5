/- The item of a line's words. -/
import Derived.Test.YtgjingleolhkbaaGreatDoorTAg
namespace Go.Proofs.YtgjingleolhkbaaGreatDoor
open Go.RowKit
set_option linter.unusedVariables false
set_option linter.unusedSimpArgs false

theorem has_colon (l : X.By) : Go.Lib.hasSuffix l [58] = decide (l.getLast? = some 58) := by
 rcases List.eq_nil_or_concat l with rfl | ⟨r, c, rfl⟩
 ·decide
 ·rw [Bool.eq_iff_iff]
  simp [Go.Lib.hasSuffix, List.isSuffixOf, List.isPrefixOf, List.concat_eq_append]
  try constructor <;> intro h <;> exact h.symm
theorem trim_colon {l : X.By} (h : l.getLast? = some 58) : Go.Lib.trimSuffix l [58] = l.dropLast := by
 rcases List.eq_nil_or_concat l with rfl | ⟨r, c, rfl⟩
 ·simp at h
 ·have hc : c = 58 := by simpa [List.concat_eq_append] using h
  subst hc
  unfold Go.Lib.trimSuffix
  rw [has_colon]
  simp [List.concat_eq_append]

set_option maxRecDepth 100000 in
set_option maxHeartbeats 8000000 in
theorem take_any {w : World} {a : Option Addr} {n c : Nat} {ws : List X.By} (f : ByteArray) (hf : f.size ≤ 200000) (h : StrV w a n c ws) (hn : n ≤ 200000) (ht : Tab w) :
  Calls Tryz.prog 85 #[.string f, .slice a n c] w (TakeOut w (X.take f.data.toList ws)) := by
 have HZ : Hid (Bx (w.alloc (.cells #[.int .i64 0, .string { data := #[] }, .int .i64 0, .int .i64 0, .int .i64 0, .int .i64 0, .slice none 0 0] 44)) w.heap.size [.int .i64 0, .string { data := #[] }, .int .i64 0, .int .i64 0, .int .i64 0, .int .i64 0, .slice none 0 0]) := Bx.new _ _ _
 have hcut := fun w => Tryz.strings_CutSuffix f { data := #[58] } w (by omega)
 have e58 : (({ data := #[58] } : ByteArray).data.toList) = [58] := rfl
 rw [e58] at hcut
 have HV : Hid _ := h
 have HT : Hid _ := ht
 have hcount := h.count
 by_cases hl : f.data.toList.getLast? = some 58
 ·rw [has_colon, decide_eq_true hl, trim_colon hl] at hcut
  have hcut' : ∀ w, Calls Tryz.prog 104 #[.string f, .string { data := #[58] }] w fun e w' => e = .returned (.tuple #[.string (X.str f.data.toList.dropLast), .bool true]) ∧ w' = w := hcut
  have HN : Hid (f.data.toList.dropLast.length ≤ 200000) := by show _ ≤ _; rw [List.length_dropLast, len_list]; omega
  by_cases h0 : n = 0
  ·have HR : Hid (X.take f.data.toList ws = some ⟨1, f.data.toList.dropLast, 0, 0, 0, 0, []⟩) := by show _ = _; unfold X.take; rw [if_pos hl, if_pos (List.eq_nil_of_length_eq_zero (by omega))]
   have h0' : ((n : Int) == 0) = true := by simp [h0]
   clear hl hcut h ht hcount h0
   generalize f.data.toList.dropLast = nl at *
   go_enter Tryz.func85, Tryz.ntmps85
   go_wp2_with (first | (go_at_call 104; refine (hcut' _).mono ?_; rintro e y0 ⟨rfl, rfl⟩))
   refine bodyPost_ret (v := .tuple #[.agg #[.int .i64 1, .string (X.str nl), .int .i64 0, .int .i64 0, .int .i64 0, .int .i64 0, .slice none 0 0], .bool true]) (by simp [results, Tryz.results85, go_sem]) rfl ?_
   refine ⟨⟨1, nl, 0, 0, 0, 0, []⟩, none, 0, 0, true, rfl, fun _ => HR.out, (fun h => by cases h), HN.out, own_none _ _ _, ?_⟩
   repeat (first | exact bl1 _ _ | refine Below.setCell ?_ (by simp) _)
  ·have HR : Hid (X.take f.data.toList ws = none) := by show _ = _; unfold X.take; rw [if_pos hl, if_neg (fun e => h0 (by rw [← hcount, e]; rfl))]
   have h0' : ((n : Int) == 0) = false := by simp [h0]
   clear hl hcut h ht hcount h0
   generalize f.data.toList.dropLast = nl at *
   go_enter Tryz.func85, Tryz.ntmps85
   go_wp2_with (first | (go_at_call 104; refine (hcut' _).mono ?_; rintro e y0 ⟨rfl, rfl⟩))
   refine bodyPost_ret (v := .tuple #[.agg #[.int .i64 1, .string (X.str nl), .int .i64 0, .int .i64 0, .int .i64 0, .int .i64 0, .slice none 0 0], .bool false]) (by simp [results, Tryz.results85, go_sem]) rfl ?_
   refine ⟨⟨1, nl, 0, 0, 0, 0, []⟩, none, 0, 0, false, rfl, (fun h => by cases h), fun _ => HR.out, HN.out, own_none _ _ _, ?_⟩
   repeat (first | exact bl1 _ _ | refine Below.setCell ?_ (by simp) _)
 rw [has_colon, decide_eq_false hl] at hcut
 obtain ⟨q, hq⟩ : ∃ q : ByteArray, (⟨(Go.Lib.trimSuffix f.data.toList [58]).toArray⟩ : ByteArray) = q := ⟨_, rfl⟩
 rw [hq] at hcut
 clear hq
 by_cases hg : f.data.toList = X.wGlobal
 ·have HR : Hid (X.take f.data.toList ws = X.takeNamed 4 ws) := by show _ = _; unfold X.take; rw [if_neg hl, if_pos hg]
  have g1 : (f.toList == [46, 103, 108, 111, 98, 97, 108]) = true := by rw [ByteArray.toList_eq]; exact beq_iff_eq.2 hg
  clear hl hg h ht hcount
  go_enter Tryz.func85, Tryz.ntmps85
  go_wp2_with (first | (go_at_call 104; refine (hcut _).mono ?_; rintro e y0 ⟨rfl, rfl⟩))
  refine (takeNamed_any 4 (HV.out.below (bl1 _ _))).mono ?_
  rintro e y ⟨t, aw, lw, cw, ok, rfl, h1, h2, h3, ho, hb⟩
  have HQ := HZ.out.below hb
  have HQ' : Hid _ := HQ
  have c0 := HQ.c 0 _ rfl; have c1 := HQ.c 1 _ rfl; have c2 := HQ.c 2 _ rfl; have c3 := HQ.c 3 _ rfl; have c4 := HQ.c 4 _ rfl; have c5 := HQ.c 5 _ rfl; have c6 := HQ.c 6 _ rfl
  have f0 := HQ.f 0; have f1 := HQ.f 1; have f2 := HQ.f 2; have f3 := HQ.f 3; have f4 := HQ.f 4; have f5 := HQ.f 5; have f6 := HQ.f 6
  have h2' : Below w.heap.size w y := (bl1 _ _).trans (hb.mono (bl1 _ _).size)
  have HB : Hid _ := h2'
  have HO : Hid _ := own_baseB ho (show w.heap.size ≤ (w.alloc (.cells #[.int .i64 0, .string { data := #[] }, .int .i64 0, .int .i64 0, .int .i64 0, .int .i64 0, .slice none 0 0] 44)).heap.size by simp)
  have HH : Hid _ := And.intro h1 (And.intro h2 h3)
  have hlb : w.heap.size < (w.alloc (.cells #[.int .i64 0, .string { data := #[] }, .int .i64 0, .int .i64 0, .int .i64 0, .int .i64 0, .slice none 0 0] 44)).heap.size := by simp
  have HO7 : Hid _ := ho
  clear HQ hb h1 h2 h3 ho h2' hcut
  go_wp2_with fail
  have HOF := put7_own (b := w.heap.size) (u0 := .int .i64 t.kind) (u1 := .string (X.str t.name)) (u2 := .int .i64 t.op) (u3 := .int .i64 t.a) (u4 := .int .i64 t.b) (u5 := .int .i64 t.n) (u6 := .slice aw lw cw) HO7.out hlb
  have HF := Bx.put7 HQ'.out rfl (.int .i64 t.kind) (.string (X.str t.name)) (.int .i64 t.op) (.int .i64 t.a) (.int .i64 t.b) (.int .i64 t.n) (.slice aw lw cw)
  have HE : Below w.heap.size w (((((((y.setCell ⟨w.heap.size, 0, none⟩ (.int .i64 t.kind)).setCell ⟨w.heap.size, 1, none⟩ (.string (X.str t.name))).setCell ⟨w.heap.size, 2, none⟩ (.int .i64 t.op)).setCell ⟨w.heap.size, 3, none⟩ (.int .i64 t.a)).setCell ⟨w.heap.size, 4, none⟩ (.int .i64 t.b)).setCell ⟨w.heap.size, 5, none⟩ (.int .i64 t.n)).setCell ⟨w.heap.size, 6, none⟩ (.slice aw lw cw)) := below_put7 HB.out (Nat.le_refl _)
  generalize (((((((y.setCell ⟨w.heap.size, 0, none⟩ (.int .i64 t.kind)).setCell ⟨w.heap.size, 1, none⟩ (.string (X.str t.name))).setCell ⟨w.heap.size, 2, none⟩ (.int .i64 t.op)).setCell ⟨w.heap.size, 3, none⟩ (.int .i64 t.a)).setCell ⟨w.heap.size, 4, none⟩ (.int .i64 t.b)).setCell ⟨w.heap.size, 5, none⟩ (.int .i64 t.n)).setCell ⟨w.heap.size, 6, none⟩ (.slice aw lw cw)) = Wf at HF HE HOF ⊢
  have k0 := HF.c 0 _ rfl; have k1 := HF.c 1 _ rfl; have k2 := HF.c 2 _ rfl; have k3 := HF.c 3 _ rfl; have k4 := HF.c 4 _ rfl; have k5 := HF.c 5 _ rfl; have k6 := HF.c 6 _ rfl
  refine bodyPost_ret (v := .tuple #[.agg #[.int .i64 t.kind, .string (X.str t.name), .int .i64 t.op, .int .i64 t.a, .int .i64 t.b, .int .i64 t.n, .slice aw lw cw], .bool ok]) (by simp [results, Tryz.results85, go_sem, k0, k1, k2, k3, k4, k5, k6]) rfl ?_
  exact ⟨t, aw, lw, cw, ok, rfl, (fun h => by rw [HR.out]; exact HH.out.1 h), (fun h => by rw [HR.out]; exact HH.out.2.1 h), HH.out.2.2, own_baseB HOF (Nat.le_of_lt hlb), HE⟩
 have hg' : (f.toList == [46, 103, 108, 111, 98, 97, 108]) = false := by rw [ByteArray.toList_eq]; exact beq_eq_false_iff_ne.2 hg
 by_cases hth : f.data.toList = X.wThread
 ·have HR : Hid (X.take f.data.toList ws = X.takeNamed 5 ws) := by show _ = _; unfold X.take; rw [if_neg hl, if_neg hg, if_pos hth]
  have g1 : (f.toList == [46, 116, 104, 114, 101, 97, 100]) = true := by rw [ByteArray.toList_eq]; exact beq_iff_eq.2 hth
  clear hl hg hth h ht hcount
  go_enter Tryz.func85, Tryz.ntmps85
  go_wp2_with (first | (go_at_call 104; refine (hcut _).mono ?_; rintro e y0 ⟨rfl, rfl⟩))
  refine (takeNamed_any 5 (HV.out.below (bl1 _ _))).mono ?_
  rintro e y ⟨t, aw, lw, cw, ok, rfl, h1, h2, h3, ho, hb⟩
  have HQ := HZ.out.below hb
  have HQ' : Hid _ := HQ
  have c0 := HQ.c 0 _ rfl; have c1 := HQ.c 1 _ rfl; have c2 := HQ.c 2 _ rfl; have c3 := HQ.c 3 _ rfl; have c4 := HQ.c 4 _ rfl; have c5 := HQ.c 5 _ rfl; have c6 := HQ.c 6 _ rfl
  have f0 := HQ.f 0; have f1 := HQ.f 1; have f2 := HQ.f 2; have f3 := HQ.f 3; have f4 := HQ.f 4; have f5 := HQ.f 5; have f6 := HQ.f 6
  have h2' : Below w.heap.size w y := (bl1 _ _).trans (hb.mono (bl1 _ _).size)
  have HB : Hid _ := h2'
  have HO : Hid _ := own_baseB ho (show w.heap.size ≤ (w.alloc (.cells #[.int .i64 0, .string { data := #[] }, .int .i64 0, .int .i64 0, .int .i64 0, .int .i64 0, .slice none 0 0] 44)).heap.size by simp)
  have HH : Hid _ := And.intro h1 (And.intro h2 h3)
  have hlb : w.heap.size < (w.alloc (.cells #[.int .i64 0, .string { data := #[] }, .int .i64 0, .int .i64 0, .int .i64 0, .int .i64 0, .slice none 0 0] 44)).heap.size := by simp
  have HO7 : Hid _ := ho
  clear HQ hb h1 h2 h3 ho h2' hcut
  go_wp2_with fail
  have HOF := put7_own (b := w.heap.size) (u0 := .int .i64 t.kind) (u1 := .string (X.str t.name)) (u2 := .int .i64 t.op) (u3 := .int .i64 t.a) (u4 := .int .i64 t.b) (u5 := .int .i64 t.n) (u6 := .slice aw lw cw) HO7.out hlb
  have HF := Bx.put7 HQ'.out rfl (.int .i64 t.kind) (.string (X.str t.name)) (.int .i64 t.op) (.int .i64 t.a) (.int .i64 t.b) (.int .i64 t.n) (.slice aw lw cw)
  have HE : Below w.heap.size w (((((((y.setCell ⟨w.heap.size, 0, none⟩ (.int .i64 t.kind)).setCell ⟨w.heap.size, 1, none⟩ (.string (X.str t.name))).setCell ⟨w.heap.size, 2, none⟩ (.int .i64 t.op)).setCell ⟨w.heap.size, 3, none⟩ (.int .i64 t.a)).setCell ⟨w.heap.size, 4, none⟩ (.int .i64 t.b)).setCell ⟨w.heap.size, 5, none⟩ (.int .i64 t.n)).setCell ⟨w.heap.size, 6, none⟩ (.slice aw lw cw)) := below_put7 HB.out (Nat.le_refl _)
  generalize (((((((y.setCell ⟨w.heap.size, 0, none⟩ (.int .i64 t.kind)).setCell ⟨w.heap.size, 1, none⟩ (.string (X.str t.name))).setCell ⟨w.heap.size, 2, none⟩ (.int .i64 t.op)).setCell ⟨w.heap.size, 3, none⟩ (.int .i64 t.a)).setCell ⟨w.heap.size, 4, none⟩ (.int .i64 t.b)).setCell ⟨w.heap.size, 5, none⟩ (.int .i64 t.n)).setCell ⟨w.heap.size, 6, none⟩ (.slice aw lw cw)) = Wf at HF HE HOF ⊢
  have k0 := HF.c 0 _ rfl; have k1 := HF.c 1 _ rfl; have k2 := HF.c 2 _ rfl; have k3 := HF.c 3 _ rfl; have k4 := HF.c 4 _ rfl; have k5 := HF.c 5 _ rfl; have k6 := HF.c 6 _ rfl
  refine bodyPost_ret (v := .tuple #[.agg #[.int .i64 t.kind, .string (X.str t.name), .int .i64 t.op, .int .i64 t.a, .int .i64 t.b, .int .i64 t.n, .slice aw lw cw], .bool ok]) (by simp [results, Tryz.results85, go_sem, k0, k1, k2, k3, k4, k5, k6]) rfl ?_
  exact ⟨t, aw, lw, cw, ok, rfl, (fun h => by rw [HR.out]; exact HH.out.1 h), (fun h => by rw [HR.out]; exact HH.out.2.1 h), HH.out.2.2, own_baseB HOF (Nat.le_of_lt hlb), HE⟩
 have ht' : (f.toList == [46, 116, 104, 114, 101, 97, 100]) = false := by rw [ByteArray.toList_eq]; exact beq_eq_false_iff_ne.2 hth
 by_cases hw : f.data.toList = X.wWords
 ·have HR : Hid (X.take f.data.toList ws = X.takeWords ws) := by show _ = _; unfold X.take; rw [if_neg hl, if_neg hg, if_neg hth, if_pos hw]
  have g1 : (f.toList == [46, 119, 111, 114, 100, 115]) = true := by rw [ByteArray.toList_eq]; exact beq_iff_eq.2 hw
  clear hl hg hth hw h ht hcount
  go_enter Tryz.func85, Tryz.ntmps85
  go_wp2_with (first | (go_at_call 104; refine (hcut _).mono ?_; rintro e y0 ⟨rfl, rfl⟩))
  refine (takeWords_any (HV.out.below (bl1 _ _)) hn (HT.out.alloc _)).mono ?_
  rintro e y ⟨t, aw, lw, cw, ok, rfl, h1, h2, h3, ho, hb⟩
  have HQ := HZ.out.below hb
  have HQ' : Hid _ := HQ
  have c0 := HQ.c 0 _ rfl; have c1 := HQ.c 1 _ rfl; have c2 := HQ.c 2 _ rfl; have c3 := HQ.c 3 _ rfl; have c4 := HQ.c 4 _ rfl; have c5 := HQ.c 5 _ rfl; have c6 := HQ.c 6 _ rfl
  have f0 := HQ.f 0; have f1 := HQ.f 1; have f2 := HQ.f 2; have f3 := HQ.f 3; have f4 := HQ.f 4; have f5 := HQ.f 5; have f6 := HQ.f 6
  have h2' : Below w.heap.size w y := (bl1 _ _).trans (hb.mono (bl1 _ _).size)
  have HB : Hid _ := h2'
  have HO : Hid _ := own_baseB ho (show w.heap.size ≤ (w.alloc (.cells #[.int .i64 0, .string { data := #[] }, .int .i64 0, .int .i64 0, .int .i64 0, .int .i64 0, .slice none 0 0] 44)).heap.size by simp)
  have HH : Hid _ := And.intro h1 (And.intro h2 h3)
  have hlb : w.heap.size < (w.alloc (.cells #[.int .i64 0, .string { data := #[] }, .int .i64 0, .int .i64 0, .int .i64 0, .int .i64 0, .slice none 0 0] 44)).heap.size := by simp
  have HO7 : Hid _ := ho
  clear HQ hb h1 h2 h3 ho h2' hcut
  go_wp2_with fail
  have HOF := put7_own (b := w.heap.size) (u0 := .int .i64 t.kind) (u1 := .string (X.str t.name)) (u2 := .int .i64 t.op) (u3 := .int .i64 t.a) (u4 := .int .i64 t.b) (u5 := .int .i64 t.n) (u6 := .slice aw lw cw) HO7.out hlb
  have HF := Bx.put7 HQ'.out rfl (.int .i64 t.kind) (.string (X.str t.name)) (.int .i64 t.op) (.int .i64 t.a) (.int .i64 t.b) (.int .i64 t.n) (.slice aw lw cw)
  have HE : Below w.heap.size w (((((((y.setCell ⟨w.heap.size, 0, none⟩ (.int .i64 t.kind)).setCell ⟨w.heap.size, 1, none⟩ (.string (X.str t.name))).setCell ⟨w.heap.size, 2, none⟩ (.int .i64 t.op)).setCell ⟨w.heap.size, 3, none⟩ (.int .i64 t.a)).setCell ⟨w.heap.size, 4, none⟩ (.int .i64 t.b)).setCell ⟨w.heap.size, 5, none⟩ (.int .i64 t.n)).setCell ⟨w.heap.size, 6, none⟩ (.slice aw lw cw)) := below_put7 HB.out (Nat.le_refl _)
  generalize (((((((y.setCell ⟨w.heap.size, 0, none⟩ (.int .i64 t.kind)).setCell ⟨w.heap.size, 1, none⟩ (.string (X.str t.name))).setCell ⟨w.heap.size, 2, none⟩ (.int .i64 t.op)).setCell ⟨w.heap.size, 3, none⟩ (.int .i64 t.a)).setCell ⟨w.heap.size, 4, none⟩ (.int .i64 t.b)).setCell ⟨w.heap.size, 5, none⟩ (.int .i64 t.n)).setCell ⟨w.heap.size, 6, none⟩ (.slice aw lw cw)) = Wf at HF HE HOF ⊢
  have k0 := HF.c 0 _ rfl; have k1 := HF.c 1 _ rfl; have k2 := HF.c 2 _ rfl; have k3 := HF.c 3 _ rfl; have k4 := HF.c 4 _ rfl; have k5 := HF.c 5 _ rfl; have k6 := HF.c 6 _ rfl
  refine bodyPost_ret (v := .tuple #[.agg #[.int .i64 t.kind, .string (X.str t.name), .int .i64 t.op, .int .i64 t.a, .int .i64 t.b, .int .i64 t.n, .slice aw lw cw], .bool ok]) (by simp [results, Tryz.results85, go_sem, k0, k1, k2, k3, k4, k5, k6]) rfl ?_
  exact ⟨t, aw, lw, cw, ok, rfl, (fun h => by rw [HR.out]; exact HH.out.1 h), (fun h => by rw [HR.out]; exact HH.out.2.1 h), HH.out.2.2, own_baseB HOF (Nat.le_of_lt hlb), HE⟩
 have hw' : (f.toList == [46, 119, 111, 114, 100, 115]) = false := by rw [ByteArray.toList_eq]; exact beq_eq_false_iff_ne.2 hw
 have HR : Hid (X.take f.data.toList ws = X.takeIns f.data.toList ws) := by show _ = _; unfold X.take; rw [if_neg hl, if_neg hg, if_neg hth, if_neg hw]
 clear hl hg hth hw h ht hcount
 go_enter Tryz.func85, Tryz.ntmps85
 go_wp2_with (first | (go_at_call 104; refine (hcut _).mono ?_; rintro e y0 ⟨rfl, rfl⟩))
 refine (takeIns_any f (HV.out.below (bl1 _ _)) (HT.out.alloc _)).mono ?_
 rintro e y ⟨t, aw, lw, cw, ok, rfl, h1, h2, h3, ho, hb⟩
 have HQ := HZ.out.below hb
 have HQ' : Hid _ := HQ
 have c0 := HQ.c 0 _ rfl; have c1 := HQ.c 1 _ rfl; have c2 := HQ.c 2 _ rfl; have c3 := HQ.c 3 _ rfl; have c4 := HQ.c 4 _ rfl; have c5 := HQ.c 5 _ rfl; have c6 := HQ.c 6 _ rfl
 have f0 := HQ.f 0; have f1 := HQ.f 1; have f2 := HQ.f 2; have f3 := HQ.f 3; have f4 := HQ.f 4; have f5 := HQ.f 5; have f6 := HQ.f 6
 have h2' : Below w.heap.size w y := (bl1 _ _).trans (hb.mono (bl1 _ _).size)
 have HB : Hid _ := h2'
 have HO : Hid _ := own_baseB ho (show w.heap.size ≤ (w.alloc (.cells #[.int .i64 0, .string { data := #[] }, .int .i64 0, .int .i64 0, .int .i64 0, .int .i64 0, .slice none 0 0] 44)).heap.size by simp)
 have HH : Hid _ := And.intro h1 (And.intro h2 h3)
 have hlb : w.heap.size < (w.alloc (.cells #[.int .i64 0, .string { data := #[] }, .int .i64 0, .int .i64 0, .int .i64 0, .int .i64 0, .slice none 0 0] 44)).heap.size := by simp
 have HO7 : Hid _ := ho
 clear HQ hb h1 h2 h3 ho h2' hcut
 go_wp2_with fail
 have HOF := put7_own (b := w.heap.size) (u0 := .int .i64 t.kind) (u1 := .string (X.str t.name)) (u2 := .int .i64 t.op) (u3 := .int .i64 t.a) (u4 := .int .i64 t.b) (u5 := .int .i64 t.n) (u6 := .slice aw lw cw) HO7.out hlb
 have HF := Bx.put7 HQ'.out rfl (.int .i64 t.kind) (.string (X.str t.name)) (.int .i64 t.op) (.int .i64 t.a) (.int .i64 t.b) (.int .i64 t.n) (.slice aw lw cw)
 have HE : Below w.heap.size w (((((((y.setCell ⟨w.heap.size, 0, none⟩ (.int .i64 t.kind)).setCell ⟨w.heap.size, 1, none⟩ (.string (X.str t.name))).setCell ⟨w.heap.size, 2, none⟩ (.int .i64 t.op)).setCell ⟨w.heap.size, 3, none⟩ (.int .i64 t.a)).setCell ⟨w.heap.size, 4, none⟩ (.int .i64 t.b)).setCell ⟨w.heap.size, 5, none⟩ (.int .i64 t.n)).setCell ⟨w.heap.size, 6, none⟩ (.slice aw lw cw)) := below_put7 HB.out (Nat.le_refl _)
 generalize (((((((y.setCell ⟨w.heap.size, 0, none⟩ (.int .i64 t.kind)).setCell ⟨w.heap.size, 1, none⟩ (.string (X.str t.name))).setCell ⟨w.heap.size, 2, none⟩ (.int .i64 t.op)).setCell ⟨w.heap.size, 3, none⟩ (.int .i64 t.a)).setCell ⟨w.heap.size, 4, none⟩ (.int .i64 t.b)).setCell ⟨w.heap.size, 5, none⟩ (.int .i64 t.n)).setCell ⟨w.heap.size, 6, none⟩ (.slice aw lw cw)) = Wf at HF HE HOF ⊢
 have k0 := HF.c 0 _ rfl; have k1 := HF.c 1 _ rfl; have k2 := HF.c 2 _ rfl; have k3 := HF.c 3 _ rfl; have k4 := HF.c 4 _ rfl; have k5 := HF.c 5 _ rfl; have k6 := HF.c 6 _ rfl
 refine bodyPost_ret (v := .tuple #[.agg #[.int .i64 t.kind, .string (X.str t.name), .int .i64 t.op, .int .i64 t.a, .int .i64 t.b, .int .i64 t.n, .slice aw lw cw], .bool ok]) (by simp [results, Tryz.results85, go_sem, k0, k1, k2, k3, k4, k5, k6]) rfl ?_
 exact ⟨t, aw, lw, cw, ok, rfl, (fun h => by rw [HR.out]; exact HH.out.1 h), (fun h => by rw [HR.out]; exact HH.out.2.1 h), HH.out.2.2, own_baseB HOF (Nat.le_of_lt hlb), HE⟩

end Go.Proofs.YtgjingleolhkbaaGreatDoor
