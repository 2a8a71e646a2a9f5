/- Whether nothing is beyond its limit, and whether all that others see stands at some code. (Written by gen_fits.py.) -/
import Derived.Test.YtgjingleolhkbaaGreatDoorKAq
namespace Go.Proofs.YtgjingleolhkbaaGreatDoor
namespace Z
def isSym (t : X.It) : Bool := decide (t.kind = 3) || shown t
def wordsN (ts : List X.It) : Nat := (ts.map fun t => t.words.length).sum
def symsN (ts : List X.It) : Nat := (ts.filter isSym).length
def opensN (ts l : List X.It) : Nat := (l.filter (isOpen ts)).length
def fits (ts : List X.It) : Bool := decide (tot (ops ts) ≤ 65536) && (decide (wordsN ts ≤ 4096) && (decide (symsN ts ≤ 1000) && decide (opensN ts ts ≤ 8000)))
def standAt (ts : List X.It) (t : X.It) : Bool := !(shown t && decide (placeOf ts (ops ts) t.name = tot (ops ts)))
def symsOk (ts : List X.It) : Bool := ts.all (standAt ts)
theorem wordsN_snoc (a : List X.It) (t : X.It) : wordsN (a ++ [t]) = wordsN a + t.words.length := by simp [wordsN]
theorem symsN_yes {a : List X.It} {t : X.It} (h : isSym t = true) : symsN (a ++ [t]) = symsN a + 1 := by simp [symsN, h]
theorem symsN_no {a : List X.It} {t : X.It} (h : isSym t = false) : symsN (a ++ [t]) = symsN a := by simp [symsN, h]
theorem opensN_yes {ts a : List X.It} {t : X.It} (h : isOpen ts t = true) : opensN ts (a ++ [t]) = opensN ts a + 1 := by simp [opensN, h]
theorem opensN_no {ts a : List X.It} {t : X.It} (h : isOpen ts t = false) : opensN ts (a ++ [t]) = opensN ts a := by simp [opensN, h]
theorem symsN_le (a : List X.It) : symsN a ≤ a.length := List.length_filter_le _ _
theorem opensN_le (ts a : List X.It) : opensN ts a ≤ a.length := List.length_filter_le _ _
theorem wordsN_le : ∀ (a : List X.It), (∀ t ∈ a, t.words.length ≤ 4096) → wordsN a ≤ 4096 * a.length
  | [], _ => by simp [wordsN]
  | t :: a, h => by
    have h1 := wordsN_le a (fun x hx => h x (by simp [hx]))
    have h2 := h t (by simp)
    simp only [wordsN, List.map_cons, List.sum_cons, List.length_cons] at *
    omega
end Z
open Go.RowKit Go.Maps
set_option linter.unusedVariables false
set_option linter.unusedSimpArgs false
section
variable {w W : World} {yb bm : Nat} {ai : Option Addr} {li ci : Nat} {ts : List X.It} {ap aj : Option Addr} {cp cj : Nat}
set_option maxRecDepth 100000 in
set_option maxHeartbeats 8000000 in
theorem fits_any (h : LV w W yb bm ai li ci ts ap aj cp cj (Z.ops ts) (Z.ats (Z.ops ts)) (Z.js ts) (Z.tot (Z.ops ts))) (hv : ItsV w ai li ci ts) (hl : li ≤ 20000) (hw : ∀ t ∈ ts, t.words.length ≤ 4096) :
    Calls Tryz.prog 25 #[.pointer (some ⟨yb, 0, none⟩)] W fun e w' => e = .returned (.bool (Z.fits ts)) ∧ LV w w' yb bm ai li ci ts ap aj cp cj (Z.ops ts) (Z.ats (Z.ops ts)) (Z.js ts) (Z.tot (Z.ops ts)) := by
  obtain ⟨-, y1, -⟩ := h.cells
  have HV : Hid _ := hv
  have HC : Hid (ts.length = li) := hv.count
  have HW : Hid _ := hw
  have HL0 : Hid _ := h
  clear h hv hw
  go_enter Tryz.func25, Tryz.ntmps25
  go_wp2_with fail
  go_loopg [3, 4, 5, 13] li (fun r wv sv ov iv wq => ∃ (k : Nat), wv = .int .i64 (Z.wordsN (ts.take k)) ∧ sv = .int .i64 (Z.symsN (ts.take k)) ∧ ov = .int .i64 (Z.opensN ts (ts.take k)) ∧ iv = .int .i64 k ∧ k ≤ li ∧ li - k ≤ r ∧ Hid (LV w wq yb bm ai li ci ts ap aj cp cj (Z.ops ts) (Z.ats (Z.ops ts)) (Z.js ts) (Z.tot (Z.ops ts))))
  case atStart => exact ⟨0, rfl, rfl, rfl, rfl, Nat.zero_le _, by omega, HL0.out⟩
  case round =>
    obtain ⟨k, rfl, rfl, rfl, rfl, hk, hr, HLV⟩ := hrel
    clear HL0 y1
    by_cases hlt : k < li
    · have hii : (k : Int) < li := by omega
      have hin : 0 ≤ (k : Int) := by omega
      obtain ⟨b, off, t, aw, lw, cw, rfl, hg, hmem, c0, c1, c2, c3, c4, c5, c6, hi⟩ := (HV.out.below HLV.out.low).at hlt
      have HGT : Hid (ts[k]? = some t) := by
        show _ = _
        have hk2 : k < ts.length := by rw [HC.out]; exact hlt
        simp only [List.getD, List.getElem?_eq_getElem hk2, Option.getD_some] at hg
        rw [List.getElem?_eq_getElem hk2, hg]
      have hfit := (HV.out.fit t hmem).1
      have hwl : t.words.length = lw := hi.count
      have HMEM : Hid _ := hmem
      clear hg hmem hi
      obtain ⟨Y0, hY0⟩ : ∃ Y0, wr.alloc (.cells #[.int .i64 t.kind, .string (X.str t.name), .int .i64 t.op, .int .i64 t.a, .int .i64 t.b, .int .i64 t.n, .slice aw lw cw] 44) = Y0 := ⟨_, rfl⟩
      have f0 : Y0.cell? ⟨wr.heap.size, 0, none⟩ = some (.int .i64 t.kind) := by subst hY0; exact cellA rfl rfl
      have f1 : Y0.cell? ⟨wr.heap.size, 1, none⟩ = some (.string (X.str t.name)) := by subst hY0; exact cellA rfl rfl
      have f2 : Y0.cell? ⟨wr.heap.size, 2, none⟩ = some (.int .i64 t.op) := by subst hY0; exact cellA rfl rfl
      have f3 : Y0.cell? ⟨wr.heap.size, 3, none⟩ = some (.int .i64 t.a) := by subst hY0; exact cellA rfl rfl
      have f4 : Y0.cell? ⟨wr.heap.size, 4, none⟩ = some (.int .i64 t.b) := by subst hY0; exact cellA rfl rfl
      have f5 : Y0.cell? ⟨wr.heap.size, 5, none⟩ = some (.int .i64 t.n) := by subst hY0; exact cellA rfl rfl
      have f6 : Y0.cell? ⟨wr.heap.size, 6, none⟩ = some (.slice aw lw cw) := by subst hY0; exact cellA rfl rfl
      have HY0 : Hid (Below wr.heap.size wr Y0) := by subst hY0; exact bl1 _ _
      have HL0 : Hid (LV w Y0 yb bm (some ⟨b, off, none⟩) li ci ts ap aj cp cj (Z.ops ts) (Z.ats (Z.ops ts)) (Z.js ts) (Z.tot (Z.ops ts))) := LV.below HLV.out HY0.out
      have HTK : Hid (ts.take (k + 1) = ts.take k ++ [t]) := Z.take_snoc HGT.out
      have n1 := Z.wordsN_le (ts.take k) (fun x hx => HW.out x (List.mem_of_mem_take hx))
      have n2 := Z.symsN_le (ts.take k)
      have n3 := Z.opensN_le ts (ts.take k)
      have n4 : (ts.take k).length ≤ 20000 := by rw [List.length_take]; omega
      have n5 := HW.out t HMEM.out
      have HWL : Hid (t.words.length = lw) := hwl
      have HW1 : Hid (Z.wordsN (ts.take (k + 1)) = Z.wordsN (ts.take k) + lw) := by show _ = _; rw [HTK.out, Z.wordsN_snoc, hwl]
      have HS1 : Hid (Z.isSym t = true → Z.symsN (ts.take (k + 1)) = Z.symsN (ts.take k) + 1) := fun h => by rw [HTK.out, Z.symsN_yes h]
      have HS0 : Hid (Z.isSym t = false → Z.symsN (ts.take (k + 1)) = Z.symsN (ts.take k)) := fun h => by rw [HTK.out, Z.symsN_no h]
      have HO1 : Hid (Z.isOpen ts t = true → Z.opensN ts (ts.take (k + 1)) = Z.opensN ts (ts.take k) + 1) := fun h => by rw [HTK.out, Z.opensN_yes h]
      have HO0 : Hid (Z.isOpen ts t = false → Z.opensN ts (ts.take (k + 1)) = Z.opensN ts (ts.take k)) := fun h => by rw [HTK.out, Z.opensN_no h]
      have HIS : Hid (Z.isSym t = (decide (t.kind = 3) || Z.shown t)) := rfl
      rw [hwl] at n5
      clear hwl
      generalize Z.wordsN (ts.take k) = nw at *
      generalize Z.symsN (ts.take k) = ns at *
      generalize Z.opensN ts (ts.take k) = no at *
      generalize (ts.take k).length = nl at *
      by_cases h3 : t.kind = 3
      · have h3' : (t.kind == 3) = true := by simpa using h3
        have HSY : Hid (Z.isSym t = true) := by show _ = _; rw [HIS.out]; simp [h3]
        clear h3
        have hoc := isOpen_any HL0.out t hfit aw lw cw
        unfold itV at hoc
        cases hO : Z.isOpen ts t with
        | true =>
          rw [hO] at hoc
          have HOP : Hid (Z.isOpen ts t = true) := hO
          clear hO
          go_wp2_with fail
          refine hoc.mono ?_
          rintro e z1 ⟨rfl, hbz⟩
          have HLz : Hid _ := LV.below HL0.out hbz
          clear hbz hoc
          go_wp2_with fail
          go_roundg (li - (k + 1))
          case measure => omega
          case rel => exact ⟨k + 1, by rw [HW1.out] <;> go_num, by rw [HS1.out HSY.out] <;> go_num, by rw [HO1.out HOP.out] <;> go_num, by go_num, by omega, Nat.le_refl _, HLz.out⟩
        | false =>
          rw [hO] at hoc
          have HOP : Hid (Z.isOpen ts t = false) := hO
          clear hO
          go_wp2_with fail
          refine hoc.mono ?_
          rintro e z1 ⟨rfl, hbz⟩
          have HLz : Hid _ := LV.below HL0.out hbz
          clear hbz hoc
          go_wp2_with fail
          go_roundg (li - (k + 1))
          case measure => omega
          case rel => exact ⟨k + 1, by rw [HW1.out] <;> go_num, by rw [HS1.out HSY.out] <;> go_num, by rw [HO0.out HOP.out] <;> go_num, by go_num, by omega, Nat.le_refl _, HLz.out⟩
      · have h3' : (t.kind == 3) = false := by simpa using h3
        have hsc := isShown_any t aw lw cw Y0
        unfold itV at hsc
        cases hS : Z.shown t with
        | true =>
          rw [hS] at hsc
          have HSY : Hid (Z.isSym t = true) := by show _ = _; rw [HIS.out, hS]; simp
          clear h3 hS
          go_wp2_with fail
          refine hsc.mono ?_
          rintro e y1 ⟨rfl, hb1⟩
          have HL1 : Hid (LV w y1 yb bm (some ⟨b, off, none⟩) li ci ts ap aj cp cj (Z.ops ts) (Z.ats (Z.ops ts)) (Z.js ts) (Z.tot (Z.ops ts))) := LV.below HL0.out hb1
          have f0 := cell_thru hb1 f0
          have f1 := cell_thru hb1 f1
          have f2 := cell_thru hb1 f2
          have f3 := cell_thru hb1 f3
          have f4 := cell_thru hb1 f4
          have f5 := cell_thru hb1 f5
          have f6 := cell_thru hb1 f6
          clear hb1 hsc
          have hoc := isOpen_any HL1.out t hfit aw lw cw
          unfold itV at hoc
          cases hO : Z.isOpen ts t with
          | true =>
            rw [hO] at hoc
            have HOP : Hid (Z.isOpen ts t = true) := hO
            clear hO
            go_wp2_with fail
            refine hoc.mono ?_
            rintro e z1 ⟨rfl, hbz⟩
            have HLz : Hid _ := LV.below HL1.out hbz
            clear hbz hoc
            go_wp2_with fail
            go_roundg (li - (k + 1))
            case measure => omega
            case rel => exact ⟨k + 1, by rw [HW1.out] <;> go_num, by rw [HS1.out HSY.out] <;> go_num, by rw [HO1.out HOP.out] <;> go_num, by go_num, by omega, Nat.le_refl _, HLz.out⟩
          | false =>
            rw [hO] at hoc
            have HOP : Hid (Z.isOpen ts t = false) := hO
            clear hO
            go_wp2_with fail
            refine hoc.mono ?_
            rintro e z1 ⟨rfl, hbz⟩
            have HLz : Hid _ := LV.below HL1.out hbz
            clear hbz hoc
            go_wp2_with fail
            go_roundg (li - (k + 1))
            case measure => omega
            case rel => exact ⟨k + 1, by rw [HW1.out] <;> go_num, by rw [HS1.out HSY.out] <;> go_num, by rw [HO0.out HOP.out] <;> go_num, by go_num, by omega, Nat.le_refl _, HLz.out⟩
        | false =>
          rw [hS] at hsc
          have HSY : Hid (Z.isSym t = false) := by show _ = _; rw [HIS.out, hS]; simp [h3]
          clear h3 hS
          go_wp2_with fail
          refine hsc.mono ?_
          rintro e y1 ⟨rfl, hb1⟩
          have HL1 : Hid (LV w y1 yb bm (some ⟨b, off, none⟩) li ci ts ap aj cp cj (Z.ops ts) (Z.ats (Z.ops ts)) (Z.js ts) (Z.tot (Z.ops ts))) := LV.below HL0.out hb1
          have f0 := cell_thru hb1 f0
          have f1 := cell_thru hb1 f1
          have f2 := cell_thru hb1 f2
          have f3 := cell_thru hb1 f3
          have f4 := cell_thru hb1 f4
          have f5 := cell_thru hb1 f5
          have f6 := cell_thru hb1 f6
          clear hb1 hsc
          have hoc := isOpen_any HL1.out t hfit aw lw cw
          unfold itV at hoc
          cases hO : Z.isOpen ts t with
          | true =>
            rw [hO] at hoc
            have HOP : Hid (Z.isOpen ts t = true) := hO
            clear hO
            go_wp2_with fail
            refine hoc.mono ?_
            rintro e z1 ⟨rfl, hbz⟩
            have HLz : Hid _ := LV.below HL1.out hbz
            clear hbz hoc
            go_wp2_with fail
            go_roundg (li - (k + 1))
            case measure => omega
            case rel => exact ⟨k + 1, by rw [HW1.out] <;> go_num, by rw [HS0.out HSY.out] <;> go_num, by rw [HO1.out HOP.out] <;> go_num, by go_num, by omega, Nat.le_refl _, HLz.out⟩
          | false =>
            rw [hO] at hoc
            have HOP : Hid (Z.isOpen ts t = false) := hO
            clear hO
            go_wp2_with fail
            refine hoc.mono ?_
            rintro e z1 ⟨rfl, hbz⟩
            have HLz : Hid _ := LV.below HL1.out hbz
            clear hbz hoc
            go_wp2_with fail
            go_roundg (li - (k + 1))
            case measure => omega
            case rel => exact ⟨k + 1, by rw [HW1.out] <;> go_num, by rw [HS0.out HSY.out] <;> go_num, by rw [HO0.out HOP.out] <;> go_num, by go_num, by omega, Nat.le_refl _, HLz.out⟩
    · obtain rfl : k = li := by omega
      have hii : ¬ (k : Int) < k := by omega
      obtain ⟨-, -, -, -, x4, -⟩ := HLV.out.cells
      have hfull : ts.take k = ts := List.take_of_length_le (by rw [HC.out]; exact Nat.le_refl _)
      have HF : Hid (Z.fits ts = (decide (Z.tot (Z.ops ts) ≤ 65536) && (decide (Z.wordsN (ts.take k) ≤ 4096) && (decide (Z.symsN (ts.take k) ≤ 1000) && decide (Z.opensN ts (ts.take k) ≤ 8000))))) := by show _ = _; rw [hfull]; rfl
      have HLE : Hid _ := HLV.out
      clear hfull
      generalize Z.wordsN (ts.take k) = nw at *
      generalize Z.symsN (ts.take k) = ns at *
      generalize Z.opensN ts (ts.take k) = no at *
      obtain ⟨tt, htt⟩ : ∃ tt, Z.tot (Z.ops ts) = tt := ⟨_, rfl⟩
      rw [htt] at x4 HF
      clear htt HLV
      rcases (show ¬ tt ≤ 65536 ∨ (tt ≤ 65536 ∧ ¬ (nw : Int) ≤ 4096) ∨ (tt ≤ 65536 ∧ (nw : Int) ≤ 4096 ∧ ¬ (ns : Int) ≤ 1000) ∨ (tt ≤ 65536 ∧ (nw : Int) ≤ 4096 ∧ (ns : Int) ≤ 1000 ∧ ¬ (no : Int) ≤ 8000) ∨ (tt ≤ 65536 ∧ (nw : Int) ≤ 4096 ∧ (ns : Int) ≤ 1000 ∧ (no : Int) ≤ 8000) by omega) with e1 | ⟨e1, e2⟩ | ⟨e1, e2, e3⟩ | ⟨e1, e2, e3, e4⟩ | ⟨e1, e2, e3, e4⟩
      · have HR : Hid (Z.fits ts = false) := by show _ = _; rw [HF.out]; simp [e1]
        go_wp2_with fail
        go_ret
        exact ⟨by rw [HR.out]; rfl, HLE.out⟩
      · have HR : Hid (Z.fits ts = false) := by show _ = _; rw [HF.out, decide_eq_false (show ¬ nw ≤ 4096 by omega)]; simp
        go_wp2_with fail
        go_ret
        exact ⟨by rw [HR.out]; rfl, HLE.out⟩
      · have HR : Hid (Z.fits ts = false) := by show _ = _; rw [HF.out, decide_eq_false (show ¬ ns ≤ 1000 by omega)]; simp
        go_wp2_with fail
        go_ret
        exact ⟨by rw [HR.out]; rfl, HLE.out⟩
      · have HR : Hid (Z.fits ts = false) := by show _ = _; rw [HF.out, decide_eq_false (show ¬ no ≤ 8000 by omega)]; simp
        go_wp2_with fail
        go_ret
        exact ⟨by rw [HR.out]; rfl, HLE.out⟩
      · have HR : Hid (Z.fits ts = true) := by show _ = _; rw [HF.out, decide_eq_true e1, decide_eq_true (show nw ≤ 4096 by omega), decide_eq_true (show ns ≤ 1000 by omega), decide_eq_true (show no ≤ 8000 by omega)]; rfl
        go_wp2_with fail
        go_ret
        exact ⟨by rw [HR.out]; rfl, HLE.out⟩

set_option maxRecDepth 100000 in
set_option maxHeartbeats 8000000 in
theorem symbolsMayBe_any (h : LV w W yb bm ai li ci ts ap aj cp cj (Z.ops ts) (Z.ats (Z.ops ts)) (Z.js ts) (Z.tot (Z.ops ts))) (hv : ItsV w ai li ci ts) (hl : li ≤ 20000) :
    Calls Tryz.prog 26 #[.pointer (some ⟨yb, 0, none⟩)] W fun e w' => e = .returned (.bool (Z.symsOk ts)) ∧ LV w w' yb bm ai li ci ts ap aj cp cj (Z.ops ts) (Z.ats (Z.ops ts)) (Z.js ts) (Z.tot (Z.ops ts)) := by
  obtain ⟨-, y1, -⟩ := h.cells
  have HV : Hid _ := hv
  have HC : Hid (ts.length = li) := hv.count
  have HL0 : Hid _ := h
  clear h hv
  go_enter Tryz.func26, Tryz.ntmps26
  go_wp2_with fail
  go_loopg [10] li (fun r iv wq => ∃ (k : Nat), iv = .int .i64 k ∧ k ≤ li ∧ li - k ≤ r ∧ Hid (∀ t ∈ ts.take k, Z.standAt ts t = true) ∧ Hid (LV w wq yb bm ai li ci ts ap aj cp cj (Z.ops ts) (Z.ats (Z.ops ts)) (Z.js ts) (Z.tot (Z.ops ts))))
  case atStart => exact ⟨0, rfl, Nat.zero_le _, by omega, (fun t ht => by simp at ht : ∀ t ∈ ts.take 0, Z.standAt ts t = true), HL0.out⟩
  case round =>
    obtain ⟨k, rfl, hk, hr, HAL, HLV⟩ := hrel
    clear HL0 y1
    by_cases hlt : k < li
    · have hii : (k : Int) < li := by omega
      have hin : 0 ≤ (k : Int) := by omega
      obtain ⟨b, off, t, aw, lw, cw, rfl, hg, hmem, c0, c1, c2, c3, c4, c5, c6, hi⟩ := (HV.out.below HLV.out.low).at hlt
      have HGT : Hid (ts[k]? = some t) := by
        show _ = _
        have hk2 : k < ts.length := by rw [HC.out]; exact hlt
        simp only [List.getD, List.getElem?_eq_getElem hk2, Option.getD_some] at hg
        rw [List.getElem?_eq_getElem hk2, hg]
      have hfit := (HV.out.fit t hmem).1
      have hwl : t.words.length = lw := hi.count
      have HMEM : Hid _ := hmem
      clear hg hmem hi
      obtain ⟨Y0, hY0⟩ : ∃ Y0, wr.alloc (.cells #[.int .i64 t.kind, .string (X.str t.name), .int .i64 t.op, .int .i64 t.a, .int .i64 t.b, .int .i64 t.n, .slice aw lw cw] 44) = Y0 := ⟨_, rfl⟩
      have f0 : Y0.cell? ⟨wr.heap.size, 0, none⟩ = some (.int .i64 t.kind) := by subst hY0; exact cellA rfl rfl
      have f1 : Y0.cell? ⟨wr.heap.size, 1, none⟩ = some (.string (X.str t.name)) := by subst hY0; exact cellA rfl rfl
      have f2 : Y0.cell? ⟨wr.heap.size, 2, none⟩ = some (.int .i64 t.op) := by subst hY0; exact cellA rfl rfl
      have f3 : Y0.cell? ⟨wr.heap.size, 3, none⟩ = some (.int .i64 t.a) := by subst hY0; exact cellA rfl rfl
      have f4 : Y0.cell? ⟨wr.heap.size, 4, none⟩ = some (.int .i64 t.b) := by subst hY0; exact cellA rfl rfl
      have f5 : Y0.cell? ⟨wr.heap.size, 5, none⟩ = some (.int .i64 t.n) := by subst hY0; exact cellA rfl rfl
      have f6 : Y0.cell? ⟨wr.heap.size, 6, none⟩ = some (.slice aw lw cw) := by subst hY0; exact cellA rfl rfl
      have HY0 : Hid (Below wr.heap.size wr Y0) := by subst hY0; exact bl1 _ _
      have HL0 : Hid (LV w Y0 yb bm (some ⟨b, off, none⟩) li ci ts ap aj cp cj (Z.ops ts) (Z.ats (Z.ops ts)) (Z.js ts) (Z.tot (Z.ops ts))) := LV.below HLV.out HY0.out
      have HNX : Hid (Z.standAt ts t = true → ∀ x ∈ ts.take (k + 1), Z.standAt ts x = true) := fun he x hx => by
        rw [Z.take_snoc HGT.out] at hx
        rcases List.mem_append.1 hx with hx | hx
        · exact HAL.out x hx
        · simp at hx; rw [hx]; exact he
      have HBAD : Hid (Z.standAt ts t = false → Z.symsOk ts = false) := fun he => by
        unfold Z.symsOk
        rw [List.all_eq_false]
        exact ⟨t, HMEM.out, by rw [he]; simp⟩
      have hsc := isShown_any t aw lw cw Y0.drew
      unfold itV at hsc
      obtain ⟨-, -, -, -, x4, -⟩ := HL0.out.cells
      have hpl : ∀ W', Below Y0.heap.size Y0 W' → Calls Tryz.prog 53 #[.pointer (some ⟨yb, 0, none⟩), .string (X.str t.name)] W' fun e w' => e = .returned (.int .i64 (Z.placeOf ts (Z.ops ts) t.name)) ∧ Below W'.heap.size W' w' := fun W' hb => placeOf_any (LV.below HL0.out hb) (Z.ops_len ts) t.name hfit (by rw [HC.out]; omega)
      have HST : Hid (Z.standAt ts t = !(Z.shown t && decide (Z.placeOf ts (Z.ops ts) t.name = Z.tot (Z.ops ts)))) := rfl
      obtain ⟨pl, hplE⟩ : ∃ pl, Z.placeOf ts (Z.ops ts) t.name = pl := ⟨_, rfl⟩
      obtain ⟨tt, htt⟩ : ∃ tt, Z.tot (Z.ops ts) = tt := ⟨_, rfl⟩
      rw [hplE] at hpl HST
      rw [htt] at x4 HST
      obtain ⟨nm, hnm⟩ : ∃ nm, X.str t.name = nm := ⟨_, rfl⟩
      rw [hnm] at hpl hsc f1 c1 hY0
      obtain ⟨bx, hbx⟩ : ∃ bx, wr.heap.size = bx := ⟨_, rfl⟩
      rw [hbx] at f0 f1 f2 f3 f4 f5 f6
      have HK : Hid (∀ W', Below Y0.heap.size Y0 W' → W'.cell? ⟨yb, 4, none⟩ = some (.int .i64 tt) ∧ W'.cell? ⟨bx, 0, none⟩ = some (.int .i64 t.kind) ∧ W'.cell? ⟨bx, 1, none⟩ = some (.string nm) ∧ W'.cell? ⟨bx, 2, none⟩ = some (.int .i64 t.op) ∧ W'.cell? ⟨bx, 3, none⟩ = some (.int .i64 t.a) ∧ W'.cell? ⟨bx, 4, none⟩ = some (.int .i64 t.b) ∧ W'.cell? ⟨bx, 5, none⟩ = some (.int .i64 t.n) ∧ W'.cell? ⟨bx, 6, none⟩ = some (.slice aw lw cw)) := fun W' hb => ⟨cell_thru hb x4, cell_thru hb f0, cell_thru hb f1, cell_thru hb f2, cell_thru hb f3, cell_thru hb f4, cell_thru hb f5, cell_thru hb f6⟩
      have HS0 : Hid (Y0.drew.cell? ⟨yb, 4, none⟩ = some (.int .i64 tt) ∧ Y0.drew.cell? ⟨bx, 0, none⟩ = some (.int .i64 t.kind) ∧ Y0.drew.cell? ⟨bx, 1, none⟩ = some (.string nm) ∧ Y0.drew.cell? ⟨bx, 2, none⟩ = some (.int .i64 t.op) ∧ Y0.drew.cell? ⟨bx, 3, none⟩ = some (.int .i64 t.a) ∧ Y0.drew.cell? ⟨bx, 4, none⟩ = some (.int .i64 t.b) ∧ Y0.drew.cell? ⟨bx, 5, none⟩ = some (.int .i64 t.n) ∧ Y0.drew.cell? ⟨bx, 6, none⟩ = some (.slice aw lw cw)) := HK.out _ (Below.refl _ _).drew
      clear hplE htt hnm
      cases hS : Z.shown t with
      | false =>
        rw [hS] at hsc HST
        have HST2 : Hid (Z.standAt ts t = true) := by show _ = _; rw [HST.out]; rfl
        have HN2 : Hid _ := HNX.out HST2.out
        clear hS
        go_wp2_with fail
        refine wp_region_held_drew (S := (fun w' : World => w'.cell? ⟨yb, 4, none⟩ = some (.int .i64 tt) ∧ w'.cell? ⟨bx, 0, none⟩ = some (.int .i64 t.kind) ∧ w'.cell? ⟨bx, 1, none⟩ = some (.string nm) ∧ w'.cell? ⟨bx, 2, none⟩ = some (.int .i64 t.op) ∧ w'.cell? ⟨bx, 3, none⟩ = some (.int .i64 t.a) ∧ w'.cell? ⟨bx, 4, none⟩ = some (.int .i64 t.b) ∧ w'.cell? ⟨bx, 5, none⟩ = some (.int .i64 t.n) ∧ w'.cell? ⟨bx, 6, none⟩ = some (.slice aw lw cw))) (by kernel_rfl) HS0.out (fun hHeld => ?_)
        refine tk (i := 0) (v := ?_) (tA rfl) (by kernel_rfl) (fun _ _ _ h => h) (Or.inl ⟨by rfl, ?_⟩) (by assumption) ?_
        rotate_left
        · (intro w hSw; (try dsimp only at hSw); go_simp <;> with_reducible rfl)
        simp only [Act.put, List.setIfInBounds_toArray, List.set_cons_zero, List.set_cons_succ]
        refine wpAnyH_ready (rs := [1]) (by kernel_rfl) (by simp) ?_
        refine AllReadyH.cons (tA rfl) (fun K hK => ?_) AllReadyH.nil
        go_simp
        refine hsc.mono ?_
        rintro e y1 ⟨rfl, hb1⟩
        have hB1 : Below Y0.heap.size Y0 y1 := (Below.refl _ _).drew.trans hb1
        try go_wp2_with fail
        refine hK.out _ _ (HK.out _ hB1) (fun hHeld => ?_)
        clear hK K
        try simp only [Act.put, List.setIfInBounds_toArray, List.set_cons_zero, List.set_cons_succ]
        refine tk (i := 2) (v := ?_) (tA rfl) (by kernel_rfl) (fun _ _ _ h => h) (Or.inl ⟨by rfl, ?_⟩) (by assumption) ?_
        rotate_left
        · (intro w hSw; (try dsimp only at hSw); go_simp <;> with_reducible rfl)
        simp only [Act.put, List.setIfInBounds_toArray, List.set_cons_zero, List.set_cons_succ]
        refine tk (i := 3) (v := undef) (tA rfl) (by kernel_rfl) (fun _ _ _ h => h) (Or.inr ⟨by rfl, rfl⟩) (by assumption) ?_
        simp only [Act.put, List.setIfInBounds_toArray, List.set_cons_zero, List.set_cons_succ]
        refine tk (i := 4) (v := undef) (tA rfl) (by kernel_rfl) (fun _ _ _ h => h) (Or.inr ⟨by rfl, rfl⟩) (by assumption) ?_
        simp only [Act.put, List.setIfInBounds_toArray, List.set_cons_zero, List.set_cons_succ]
        refine tk (i := 5) (v := undef) (tA rfl) (by kernel_rfl) (fun _ _ _ h => h) (Or.inr ⟨by rfl, rfl⟩) (by assumption) ?_
        simp only [Act.put, List.setIfInBounds_toArray, List.set_cons_zero, List.set_cons_succ]
        refine tk (i := 6) (v := undef) (tA rfl) (by kernel_rfl) (fun _ _ _ h => h) (Or.inr ⟨by rfl, rfl⟩) (by assumption) ?_
        simp only [Act.put, List.setIfInBounds_toArray, List.set_cons_zero, List.set_cons_succ]
        refine tk (i := 7) (v := undef) (tA rfl) (by kernel_rfl) (fun _ _ _ h => h) (Or.inr ⟨by rfl, rfl⟩) (by assumption) ?_
        simp only [Act.put, List.setIfInBounds_toArray, List.set_cons_zero, List.set_cons_succ]
        refine tk (i := 8) (v := undef) (tA rfl) (by kernel_rfl) (fun _ _ _ h => h) (Or.inr ⟨by rfl, rfl⟩) (by assumption) ?_
        simp only [Act.put, List.setIfInBounds_toArray, List.set_cons_zero, List.set_cons_succ]
        refine tk (i := 9) (v := undef) (tA rfl) (by kernel_rfl) (fun _ _ _ h => h) (Or.inr ⟨by rfl, rfl⟩) (by assumption) ?_
        simp only [Act.put, List.setIfInBounds_toArray, List.set_cons_zero, List.set_cons_succ]
        refine tk (i := 10) (v := undef) (tA rfl) (by kernel_rfl) (fun _ _ _ h => h) (Or.inr ⟨by rfl, rfl⟩) (by assumption) ?_
        simp only [Act.put, List.setIfInBounds_toArray, List.set_cons_zero, List.set_cons_succ]
        refine tk (i := 11) (v := undef) (tA rfl) (by kernel_rfl) (fun _ _ _ h => h) (Or.inr ⟨by rfl, rfl⟩) (by assumption) ?_
        simp only [Act.put, List.setIfInBounds_toArray, List.set_cons_zero, List.set_cons_succ]
        refine tk (i := 12) (v := ?_) (tA rfl) (by kernel_rfl) (fun _ _ _ h => h) (Or.inl ⟨by rfl, ?_⟩) (by assumption) ?_
        rotate_left
        · (intro w hSw; (try dsimp only at hSw); go_simp <;> with_reducible rfl)
        simp only [Act.put, List.setIfInBounds_toArray, List.set_cons_zero, List.set_cons_succ]
        refine wpAnyH_done (by kernel_rfl) ?_ _
        clear hHeld
        have HL2 : Hid _ := LV.below HL0.out hB1
        clear hb1 hB1 hY0 f0 f1 f2 f3 f4 f5 f6 c0 c1 c2 c3 c4 c5 c6
        go_wp2_with fail
        go_roundg (li - (k + 1))
        case measure => omega
        case rel => exact ⟨k + 1, by go_num, by omega, Nat.le_refl _, HN2.out, HL2.out⟩
      | true =>
        rw [hS] at hsc HST
        clear hS
        by_cases he : pl = tt
        · have HR : Hid (Z.symsOk ts = false) := HBAD.out (by rw [HST.out]; simp [he])
          subst he
          go_wp2_with fail
          refine wp_region_held_drew (S := (fun w' : World => w'.cell? ⟨yb, 4, none⟩ = some (.int .i64 pl) ∧ w'.cell? ⟨bx, 0, none⟩ = some (.int .i64 t.kind) ∧ w'.cell? ⟨bx, 1, none⟩ = some (.string nm) ∧ w'.cell? ⟨bx, 2, none⟩ = some (.int .i64 t.op) ∧ w'.cell? ⟨bx, 3, none⟩ = some (.int .i64 t.a) ∧ w'.cell? ⟨bx, 4, none⟩ = some (.int .i64 t.b) ∧ w'.cell? ⟨bx, 5, none⟩ = some (.int .i64 t.n) ∧ w'.cell? ⟨bx, 6, none⟩ = some (.slice aw lw cw))) (by kernel_rfl) HS0.out (fun hHeld => ?_)
          refine tk (i := 0) (v := ?_) (tA rfl) (by kernel_rfl) (fun _ _ _ h => h) (Or.inl ⟨by rfl, ?_⟩) (by assumption) ?_
          rotate_left
          · (intro w hSw; (try dsimp only at hSw); go_simp <;> with_reducible rfl)
          simp only [Act.put, List.setIfInBounds_toArray, List.set_cons_zero, List.set_cons_succ]
          refine wpAnyH_ready (rs := [1]) (by kernel_rfl) (by simp) ?_
          refine AllReadyH.cons (tA rfl) (fun K hK => ?_) AllReadyH.nil
          go_simp
          refine hsc.mono ?_
          rintro e y1 ⟨rfl, hb1⟩
          have hB1 : Below Y0.heap.size Y0 y1 := (Below.refl _ _).drew.trans hb1
          try go_wp2_with fail
          refine hK.out _ _ (HK.out _ hB1) (fun hHeld => ?_)
          clear hK K
          try simp only [Act.put, List.setIfInBounds_toArray, List.set_cons_zero, List.set_cons_succ]
          refine tk (i := 2) (v := ?_) (tA rfl) (by kernel_rfl) (fun _ _ _ h => h) (Or.inl ⟨by rfl, ?_⟩) (by assumption) ?_
          rotate_left
          · (intro w hSw; (try dsimp only at hSw); go_simp <;> with_reducible rfl)
          simp only [Act.put, List.setIfInBounds_toArray, List.set_cons_zero, List.set_cons_succ]
          refine tk (i := 3) (v := ?_) (tA rfl) (by kernel_rfl) (fun _ _ _ h => h) (Or.inl ⟨by rfl, ?_⟩) (by assumption) ?_
          rotate_left
          · (intro w hSw; (try dsimp only at hSw); go_simp <;> with_reducible rfl)
          simp only [Act.put, List.setIfInBounds_toArray, List.set_cons_zero, List.set_cons_succ]
          refine tk (i := 4) (v := ?_) (tA rfl) (by kernel_rfl) (fun _ _ _ h => h) (Or.inl ⟨by rfl, ?_⟩) (by assumption) ?_
          rotate_left
          · (intro w hSw; (try dsimp only at hSw); go_simp <;> with_reducible rfl)
          simp only [Act.put, List.setIfInBounds_toArray, List.set_cons_zero, List.set_cons_succ]
          refine tk (i := 5) (v := ?_) (tA rfl) (by kernel_rfl) (fun _ _ _ h => h) (Or.inl ⟨by rfl, ?_⟩) (by assumption) ?_
          rotate_left
          · (intro w hSw; (try dsimp only at hSw); go_simp <;> with_reducible rfl)
          simp only [Act.put, List.setIfInBounds_toArray, List.set_cons_zero, List.set_cons_succ]
          refine tk (i := 7) (v := ?_) (tA rfl) (by kernel_rfl) (fun _ _ _ h => h) (Or.inl ⟨by rfl, ?_⟩) (by assumption) ?_
          rotate_left
          · (intro w hSw; (try dsimp only at hSw); go_simp <;> with_reducible rfl)
          simp only [Act.put, List.setIfInBounds_toArray, List.set_cons_zero, List.set_cons_succ]
          refine tk (i := 8) (v := ?_) (tA rfl) (by kernel_rfl) (fun _ _ _ h => h) (Or.inl ⟨by rfl, ?_⟩) (by assumption) ?_
          rotate_left
          · (intro w hSw; (try dsimp only at hSw); go_simp <;> with_reducible rfl)
          simp only [Act.put, List.setIfInBounds_toArray, List.set_cons_zero, List.set_cons_succ]
          refine tk (i := 9) (v := ?_) (tA rfl) (by kernel_rfl) (fun _ _ _ h => h) (Or.inl ⟨by rfl, ?_⟩) (by assumption) ?_
          rotate_left
          · (intro w hSw; (try dsimp only at hSw); go_simp <;> with_reducible rfl)
          simp only [Act.put, List.setIfInBounds_toArray, List.set_cons_zero, List.set_cons_succ]
          refine tk (i := 10) (v := ?_) (tA rfl) (by kernel_rfl) (fun _ _ _ h => h) (Or.inl ⟨by rfl, ?_⟩) (by assumption) ?_
          rotate_left
          · (intro w hSw; (try dsimp only at hSw); go_simp <;> with_reducible rfl)
          simp only [Act.put, List.setIfInBounds_toArray, List.set_cons_zero, List.set_cons_succ]
          refine wpAnyH_ready (rs := [6]) (by kernel_rfl) (by simp) ?_
          refine AllReadyH.cons (tA rfl) (fun K hK => ?_) AllReadyH.nil
          go_simp
          refine (hpl _ hB1).mono ?_
          rintro e y2 ⟨rfl, hb2⟩
          have hB2 : Below Y0.heap.size Y0 y2 := hB1.trans (hb2.mono hB1.size)
          try go_wp2_with fail
          refine hK.out _ _ (HK.out _ hB2) (fun hHeld => ?_)
          clear hK K
          try simp only [Act.put, List.setIfInBounds_toArray, List.set_cons_zero, List.set_cons_succ]
          refine tk (i := 11) (v := ?_) (tA rfl) (by kernel_rfl) (fun _ _ _ h => h) (Or.inl ⟨by rfl, ?_⟩) (by assumption) ?_
          rotate_left
          · (intro w hSw; (try dsimp only at hSw); go_simp <;> with_reducible rfl)
          simp only [Act.put, List.setIfInBounds_toArray, List.set_cons_zero, List.set_cons_succ]
          refine tk (i := 12) (v := ?_) (tA rfl) (by kernel_rfl) (fun _ _ _ h => h) (Or.inl ⟨by rfl, ?_⟩) (by assumption) ?_
          rotate_left
          · (intro w hSw; (try dsimp only at hSw); go_simp <;> with_reducible rfl)
          simp only [Act.put, List.setIfInBounds_toArray, List.set_cons_zero, List.set_cons_succ]
          refine wpAnyH_done (by kernel_rfl) ?_ _
          clear hHeld
          have HL2 : Hid _ := LV.below HL0.out hB2
          clear hb1 hB1 hb2 hB2 hY0 f0 f1 f2 f3 f4 f5 f6 c0 c1 c2 c3 c4 c5 c6
          go_wp2_with fail
          go_ret
          exact ⟨by rw [HR.out]; rfl, HL2.out⟩
        · have HST2 : Hid (Z.standAt ts t = true) := by show _ = _; rw [HST.out]; simp [he]
          have HN2 : Hid _ := HNX.out HST2.out
          have he' : (pl == tt) = false := by simpa using he
          clear he
          go_wp2_with fail
          refine wp_region_held_drew (S := (fun w' : World => w'.cell? ⟨yb, 4, none⟩ = some (.int .i64 tt) ∧ w'.cell? ⟨bx, 0, none⟩ = some (.int .i64 t.kind) ∧ w'.cell? ⟨bx, 1, none⟩ = some (.string nm) ∧ w'.cell? ⟨bx, 2, none⟩ = some (.int .i64 t.op) ∧ w'.cell? ⟨bx, 3, none⟩ = some (.int .i64 t.a) ∧ w'.cell? ⟨bx, 4, none⟩ = some (.int .i64 t.b) ∧ w'.cell? ⟨bx, 5, none⟩ = some (.int .i64 t.n) ∧ w'.cell? ⟨bx, 6, none⟩ = some (.slice aw lw cw))) (by kernel_rfl) HS0.out (fun hHeld => ?_)
          refine tk (i := 0) (v := ?_) (tA rfl) (by kernel_rfl) (fun _ _ _ h => h) (Or.inl ⟨by rfl, ?_⟩) (by assumption) ?_
          rotate_left
          · (intro w hSw; (try dsimp only at hSw); go_simp <;> with_reducible rfl)
          simp only [Act.put, List.setIfInBounds_toArray, List.set_cons_zero, List.set_cons_succ]
          refine wpAnyH_ready (rs := [1]) (by kernel_rfl) (by simp) ?_
          refine AllReadyH.cons (tA rfl) (fun K hK => ?_) AllReadyH.nil
          go_simp
          refine hsc.mono ?_
          rintro e y1 ⟨rfl, hb1⟩
          have hB1 : Below Y0.heap.size Y0 y1 := (Below.refl _ _).drew.trans hb1
          try go_wp2_with fail
          refine hK.out _ _ (HK.out _ hB1) (fun hHeld => ?_)
          clear hK K
          try simp only [Act.put, List.setIfInBounds_toArray, List.set_cons_zero, List.set_cons_succ]
          refine tk (i := 2) (v := ?_) (tA rfl) (by kernel_rfl) (fun _ _ _ h => h) (Or.inl ⟨by rfl, ?_⟩) (by assumption) ?_
          rotate_left
          · (intro w hSw; (try dsimp only at hSw); go_simp <;> with_reducible rfl)
          simp only [Act.put, List.setIfInBounds_toArray, List.set_cons_zero, List.set_cons_succ]
          refine tk (i := 3) (v := ?_) (tA rfl) (by kernel_rfl) (fun _ _ _ h => h) (Or.inl ⟨by rfl, ?_⟩) (by assumption) ?_
          rotate_left
          · (intro w hSw; (try dsimp only at hSw); go_simp <;> with_reducible rfl)
          simp only [Act.put, List.setIfInBounds_toArray, List.set_cons_zero, List.set_cons_succ]
          refine tk (i := 4) (v := ?_) (tA rfl) (by kernel_rfl) (fun _ _ _ h => h) (Or.inl ⟨by rfl, ?_⟩) (by assumption) ?_
          rotate_left
          · (intro w hSw; (try dsimp only at hSw); go_simp <;> with_reducible rfl)
          simp only [Act.put, List.setIfInBounds_toArray, List.set_cons_zero, List.set_cons_succ]
          refine tk (i := 5) (v := ?_) (tA rfl) (by kernel_rfl) (fun _ _ _ h => h) (Or.inl ⟨by rfl, ?_⟩) (by assumption) ?_
          rotate_left
          · (intro w hSw; (try dsimp only at hSw); go_simp <;> with_reducible rfl)
          simp only [Act.put, List.setIfInBounds_toArray, List.set_cons_zero, List.set_cons_succ]
          refine tk (i := 7) (v := ?_) (tA rfl) (by kernel_rfl) (fun _ _ _ h => h) (Or.inl ⟨by rfl, ?_⟩) (by assumption) ?_
          rotate_left
          · (intro w hSw; (try dsimp only at hSw); go_simp <;> with_reducible rfl)
          simp only [Act.put, List.setIfInBounds_toArray, List.set_cons_zero, List.set_cons_succ]
          refine tk (i := 8) (v := ?_) (tA rfl) (by kernel_rfl) (fun _ _ _ h => h) (Or.inl ⟨by rfl, ?_⟩) (by assumption) ?_
          rotate_left
          · (intro w hSw; (try dsimp only at hSw); go_simp <;> with_reducible rfl)
          simp only [Act.put, List.setIfInBounds_toArray, List.set_cons_zero, List.set_cons_succ]
          refine tk (i := 9) (v := ?_) (tA rfl) (by kernel_rfl) (fun _ _ _ h => h) (Or.inl ⟨by rfl, ?_⟩) (by assumption) ?_
          rotate_left
          · (intro w hSw; (try dsimp only at hSw); go_simp <;> with_reducible rfl)
          simp only [Act.put, List.setIfInBounds_toArray, List.set_cons_zero, List.set_cons_succ]
          refine tk (i := 10) (v := ?_) (tA rfl) (by kernel_rfl) (fun _ _ _ h => h) (Or.inl ⟨by rfl, ?_⟩) (by assumption) ?_
          rotate_left
          · (intro w hSw; (try dsimp only at hSw); go_simp <;> with_reducible rfl)
          simp only [Act.put, List.setIfInBounds_toArray, List.set_cons_zero, List.set_cons_succ]
          refine wpAnyH_ready (rs := [6]) (by kernel_rfl) (by simp) ?_
          refine AllReadyH.cons (tA rfl) (fun K hK => ?_) AllReadyH.nil
          go_simp
          refine (hpl _ hB1).mono ?_
          rintro e y2 ⟨rfl, hb2⟩
          have hB2 : Below Y0.heap.size Y0 y2 := hB1.trans (hb2.mono hB1.size)
          try go_wp2_with fail
          refine hK.out _ _ (HK.out _ hB2) (fun hHeld => ?_)
          clear hK K
          try simp only [Act.put, List.setIfInBounds_toArray, List.set_cons_zero, List.set_cons_succ]
          refine tk (i := 11) (v := ?_) (tA rfl) (by kernel_rfl) (fun _ _ _ h => h) (Or.inl ⟨by rfl, ?_⟩) (by assumption) ?_
          rotate_left
          · (intro w hSw; (try dsimp only at hSw); go_simp <;> with_reducible rfl)
          simp only [Act.put, List.setIfInBounds_toArray, List.set_cons_zero, List.set_cons_succ]
          refine tk (i := 12) (v := ?_) (tA rfl) (by kernel_rfl) (fun _ _ _ h => h) (Or.inl ⟨by rfl, ?_⟩) (by assumption) ?_
          rotate_left
          · (intro w hSw; (try dsimp only at hSw); go_simp <;> with_reducible rfl)
          simp only [Act.put, List.setIfInBounds_toArray, List.set_cons_zero, List.set_cons_succ]
          refine wpAnyH_done (by kernel_rfl) ?_ _
          clear hHeld
          have HL2 : Hid _ := LV.below HL0.out hB2
          clear hb1 hB1 hb2 hB2 hY0 f0 f1 f2 f3 f4 f5 f6 c0 c1 c2 c3 c4 c5 c6
          go_wp2_with fail
          go_roundg (li - (k + 1))
          case measure => omega
          case rel => exact ⟨k + 1, by go_num, by omega, Nat.le_refl _, HN2.out, HL2.out⟩
    · obtain rfl : k = li := by omega
      have hii : ¬ (k : Int) < k := by omega
      have HR : Hid (Z.symsOk ts = true) := by
        show _ = _
        unfold Z.symsOk
        rw [List.all_eq_true]
        have := HAL.out
        rw [List.take_of_length_le (by rw [HC.out]; exact Nat.le_refl _)] at this
        exact this
      go_wp2_with fail
      go_ret
      exact ⟨by rw [HR.out]; rfl, HLV.out⟩

end

end Go.Proofs.YtgjingleolhkbaaGreatDoor

/- An item's code; what a relocation says. (Written by gen_code.py.) -/
namespace Go.Proofs.YtgjingleolhkbaaGreatDoor
open Go.RowKit Go.Maps
set_option linter.unusedVariables false
set_option linter.unusedSimpArgs false

namespace Z
/-- An instruction's number, once all is laid. -/
def codeN (ts : List X.It) (ops : List Int) (k : Nat) : Int :=
  if isOpen ts (ts.getD k X.noIt) = true then 0 else if (ts.getD k X.noIt).name ≠ [] then far ops (ats ops) k (labN ts (ts.getD k X.noIt).name) else (ts.getD k X.noIt).n
def codeV (ts : List X.It) (ops : List Int) (k : Nat) : List Int := J.I.encV (ops.getD k 0) (ts.getD k X.noIt).a (ts.getD k X.noIt).b (codeN ts ops k)
end Z
section
variable {w W : World} {yb bm : Nat} {ai : Option Addr} {li ci : Nat} {ts : List X.It} {ap aj : Option Addr} {cp cj : Nat}
set_option maxRecDepth 100000 in
set_option maxHeartbeats 8000000 in
theorem code_any (h : LV w W yb bm ai li ci ts ap aj cp cj (Z.ops ts) (Z.ats (Z.ops ts)) (Z.js ts) (Z.tot (Z.ops ts))) (hv : ItsV w ai li ci ts) (hl : li ≤ 20000) (hJ : J.Tab w) (k : Nat) (hk : k < li) :
    Calls Tryz.prog 54 #[.pointer (some ⟨yb, 0, none⟩), .int .i64 k] W fun e w' => e = .returned (.string (strOfNums (Z.codeV ts (Z.ops ts) k))) ∧ Below W.heap.size W w' := by
  have hcnt := hv.count
  obtain ⟨b, off, t, aw, lw, cw, rfl, hg, hmem, c0, c1, c2, c3, c4, c5, c6, hi⟩ := (hv.below h.low).at hk
  have hfit := (hv.fit t hmem).1
  have hkl : k < (Z.ops ts).length := by rw [Z.ops_len, hcnt]; exact hk
  obtain ⟨g, rfl, -, hgl, -, hc, -, -⟩ := h.piece hkl
  obtain ⟨o0, -, -⟩ := hc k hkl
  obtain ⟨y0, y1, y2, -⟩ := h.cells
  have hrm := h.pr.room
  have hrm2 := hv.room
  have HLV : Hid _ := h
  have HJT : Hid (J.Tab w) := hJ
  have hk1 : (k : Int) < li := by omega
  have hk2 : (k : Int) < (Z.ops ts).length := by omega
  have hk0 : 0 ≤ (k : Int) := by omega
  have hlab : Z.labN ts t.name < (Z.ops ts).length := by rw [Z.ops_len]; exact labN_lt _ (by omega)
  have hnear : Near (Z.ats (Z.ops ts)) := near_ats (by rw [Z.ops_len, hcnt]; exact hl)
  have hkey := keyStr t.name hfit
  have HR0 : Hid (Z.codeV ts (Z.ops ts) k = J.I.encV ((Z.ops ts).getD k 0) t.a t.b (if Z.isOpen ts t = true then 0 else if t.name ≠ [] then Z.far (Z.ops ts) (Z.ats (Z.ops ts)) k (Z.labN ts t.name) else t.n)) := by
    show _ = _
    unfold Z.codeV Z.codeN
    rw [hg]
  have hyl := blk_lt h.y
  obtain ⟨nm, hnm⟩ : ∃ nm, X.str t.name = nm := ⟨_, rfl⟩
  obtain ⟨o, ho⟩ : ∃ o, (Z.ops ts).getD k 0 = o := ⟨_, rfl⟩
  obtain ⟨b5, hb5⟩ : ∃ b5, W.heap.size = b5 := ⟨_, rfl⟩
  obtain ⟨Y1, hY1⟩ : ∃ Y1, W.alloc (.cells #[.int .i64 t.kind, .string nm, .int .i64 t.op, .int .i64 t.a, .int .i64 t.b, .int .i64 t.n, .slice aw lw cw] 44) = Y1 := ⟨_, rfl⟩
  obtain ⟨b6, hb6⟩ : ∃ b6, Y1.heap.size = b6 := ⟨_, rfl⟩
  have hb56 : b5 < b6 := by rw [← hb6, ← hY1, ← hb5]; simp
  obtain ⟨Y2, hY2⟩ : ∃ Y2, Y1.alloc (.cells #[.int .i64 t.op, .int .i64 t.a, .int .i64 t.b, .int .i64 t.n] 42) = Y2 := ⟨_, rfl⟩
  have bY1 : Below W.heap.size W Y1 := by subst hY1; exact bl1 _ _
  have bY2 : Below Y1.heap.size Y1 Y2 := by subst hY2; exact bl1 _ _
  have bY : Below W.heap.size W Y2 := bY1.trans (bY2.mono bY1.size)
  have hWb6 : W.heap.size ≤ b6 := by omega
  have e0 : Y1.cell? ⟨b5, 0, none⟩ = some (.int .i64 t.kind) := by subst hY1 hb5; exact cellA rfl rfl
  have f0 : Y2.cell? ⟨b5, 0, none⟩ = some (.int .i64 t.kind) := cell_thru bY2 e0
  have e1 : Y1.cell? ⟨b5, 1, none⟩ = some (.string nm) := by subst hY1 hb5; exact cellA rfl rfl
  have f1 : Y2.cell? ⟨b5, 1, none⟩ = some (.string nm) := cell_thru bY2 e1
  have e2 : Y1.cell? ⟨b5, 2, none⟩ = some (.int .i64 t.op) := by subst hY1 hb5; exact cellA rfl rfl
  have f2 : Y2.cell? ⟨b5, 2, none⟩ = some (.int .i64 t.op) := cell_thru bY2 e2
  have e3 : Y1.cell? ⟨b5, 3, none⟩ = some (.int .i64 t.a) := by subst hY1 hb5; exact cellA rfl rfl
  have f3 : Y2.cell? ⟨b5, 3, none⟩ = some (.int .i64 t.a) := cell_thru bY2 e3
  have e4 : Y1.cell? ⟨b5, 4, none⟩ = some (.int .i64 t.b) := by subst hY1 hb5; exact cellA rfl rfl
  have f4 : Y2.cell? ⟨b5, 4, none⟩ = some (.int .i64 t.b) := cell_thru bY2 e4
  have e5 : Y1.cell? ⟨b5, 5, none⟩ = some (.int .i64 t.n) := by subst hY1 hb5; exact cellA rfl rfl
  have f5 : Y2.cell? ⟨b5, 5, none⟩ = some (.int .i64 t.n) := cell_thru bY2 e5
  have e6 : Y1.cell? ⟨b5, 6, none⟩ = some (.slice aw lw cw) := by subst hY1 hb5; exact cellA rfl rfl
  have f6 : Y2.cell? ⟨b5, 6, none⟩ = some (.slice aw lw cw) := cell_thru bY2 e6
  have h0 : Y2.cell? ⟨b6, 0, none⟩ = some (.int .i64 t.op) := by subst hY2 hb6; exact cellA rfl rfl
  have h1 : Y2.cell? ⟨b6, 1, none⟩ = some (.int .i64 t.a) := by subst hY2 hb6; exact cellA rfl rfl
  have h2 : Y2.cell? ⟨b6, 2, none⟩ = some (.int .i64 t.b) := by subst hY2 hb6; exact cellA rfl rfl
  have h3 : Y2.cell? ⟨b6, 3, none⟩ = some (.int .i64 t.n) := by subst hY2 hb6; exact cellA rfl rfl
  have h0z : Y2.frozen? ⟨b6, 0, none⟩ = false := by subst hY2 hb6; exact World.frozen?_alloc_at _ _ _ _ rfl
  have h3z0 : Y2.frozen? ⟨b6, 3, none⟩ = false := by subst hY2 hb6; exact World.frozen?_alloc_at _ _ _ _ rfl
  have hYs : b6 < Y2.heap.size := by subst hY2 hb6; simp
  have y0a := cell_thru bY y0
  have y2a := cell_thru bY y2
  have o0a := cell_thru bY o0
  rw [hnm] at c1
  rw [ho] at o0 o0a HR0
  clear h hv hc hg hmem hi hJ
  go_enter Tryz.func54, Tryz.ntmps54
  go_wp2_with fail
  obtain ⟨Y3, hY3⟩ : ∃ Y3, Y2.setCell ⟨b6, 0, none⟩ (.int .i64 o) = Y3 := ⟨_, rfl⟩
  rw [hY3]
  have bY3 : Below W.heap.size W Y3 := by subst hY3; exact bY.setCell hWb6 _
  have g0 : Y3.cell? ⟨b5, 0, none⟩ = some (.int .i64 t.kind) := by subst hY3; rw [World.cell?_setCell_far _ ⟨b6, 0, none⟩ ⟨b5, 0, none⟩ _ (show b6 ≠ b5 by omega)]; exact f0
  have g1 : Y3.cell? ⟨b5, 1, none⟩ = some (.string nm) := by subst hY3; rw [World.cell?_setCell_far _ ⟨b6, 0, none⟩ ⟨b5, 1, none⟩ _ (show b6 ≠ b5 by omega)]; exact f1
  have g2 : Y3.cell? ⟨b5, 2, none⟩ = some (.int .i64 t.op) := by subst hY3; rw [World.cell?_setCell_far _ ⟨b6, 0, none⟩ ⟨b5, 2, none⟩ _ (show b6 ≠ b5 by omega)]; exact f2
  have g3 : Y3.cell? ⟨b5, 3, none⟩ = some (.int .i64 t.a) := by subst hY3; rw [World.cell?_setCell_far _ ⟨b6, 0, none⟩ ⟨b5, 3, none⟩ _ (show b6 ≠ b5 by omega)]; exact f3
  have g4 : Y3.cell? ⟨b5, 4, none⟩ = some (.int .i64 t.b) := by subst hY3; rw [World.cell?_setCell_far _ ⟨b6, 0, none⟩ ⟨b5, 4, none⟩ _ (show b6 ≠ b5 by omega)]; exact f4
  have g5 : Y3.cell? ⟨b5, 5, none⟩ = some (.int .i64 t.n) := by subst hY3; rw [World.cell?_setCell_far _ ⟨b6, 0, none⟩ ⟨b5, 5, none⟩ _ (show b6 ≠ b5 by omega)]; exact f5
  have g6 : Y3.cell? ⟨b5, 6, none⟩ = some (.slice aw lw cw) := by subst hY3; rw [World.cell?_setCell_far _ ⟨b6, 0, none⟩ ⟨b5, 6, none⟩ _ (show b6 ≠ b5 by omega)]; exact f6
  have i0 : Y3.cell? ⟨b6, 0, none⟩ = some (.int .i64 o) := by subst hY3; exact World.cell?_setCell_same' _ _ _ (by rw [h0]; rfl)
  have i1 : Y3.cell? ⟨b6, 1, none⟩ = some (.int .i64 t.a) := by subst hY3; rw [World.cell?_setCell_other _ _ _ _ (by simp)]; exact h1
  have i2 : Y3.cell? ⟨b6, 2, none⟩ = some (.int .i64 t.b) := by subst hY3; rw [World.cell?_setCell_other _ _ _ _ (by simp)]; exact h2
  have i3 : Y3.cell? ⟨b6, 3, none⟩ = some (.int .i64 t.n) := by subst hY3; rw [World.cell?_setCell_other _ _ _ _ (by simp)]; exact h3
  have h3z1 : Y3.frozen? ⟨b6, 3, none⟩ = false := by subst hY3; rw [World.frozen?_setCell]; exact h3z0
  have hY3s : b6 < Y3.heap.size := by subst hY3; rw [World.size_setCell]; exact hYs
  have hoc := isOpen_any (LV.below HLV.out bY3) t hfit aw lw cw
  unfold itV at hoc
  rw [hnm] at hoc
  have HB3 : Hid _ := bY3
  have y0b := cell_thru bY3 y0
  clear e0 e1 e2 e3 e4 e5 e6 f0 f1 f2 f3 f4 f5 f6 h0 h1 h2 h3 c0 c1 c2 c3 c4 c5 c6 y1 y2 y0a y2a o0 o0a h0z h3z0 hY1 hY2 bY1 bY2 bY bY3
  cases hO : Z.isOpen ts t with
  | true =>
    rw [hO] at hoc
    have HR : Hid (Z.codeV ts (Z.ops ts) k = J.I.encV o t.a t.b 0) := by show _ = _; rw [HR0.out, if_pos hO]
    clear hO
    refine hoc.mono ?_
    rintro e y4 ⟨rfl, hb4⟩
    have hB4 : Below W.heap.size W y4 := HB3.out.trans (hb4.mono HB3.out.size)
    have p0 := cell_thru hb4 i0
    have p1 := cell_thru hb4 i1
    have p2 := cell_thru hb4 i2
    have p3 := cell_thru hb4 i3
    have q3 : y4.frozen? ⟨b6, 3, none⟩ = false := (hb4.frozen (p := ⟨b6, 3, none⟩) hY3s).trans h3z1
    obtain ⟨Y6, hY6⟩ : ∃ Y6, y4.setCell ⟨b6, 3, none⟩ (.int .i64 0) = Y6 := ⟨_, rfl⟩
    have r0 : Y6.cell? ⟨b6, 0, none⟩ = some (.int .i64 o) := by subst hY6; rw [World.cell?_setCell_other _ _ _ _ (by simp)]; exact p0
    have r1 : Y6.cell? ⟨b6, 1, none⟩ = some (.int .i64 t.a) := by subst hY6; rw [World.cell?_setCell_other _ _ _ _ (by simp)]; exact p1
    have r2 : Y6.cell? ⟨b6, 2, none⟩ = some (.int .i64 t.b) := by subst hY6; rw [World.cell?_setCell_other _ _ _ _ (by simp)]; exact p2
    have r3 : Y6.cell? ⟨b6, 3, none⟩ = some (.int .i64 0) := by subst hY6; exact World.cell?_setCell_same' _ _ _ (by rw [p3]; rfl)
    have HW6 : Hid (Below W.heap.size W Y6) := by subst hY6; exact (hB4).setCell hWb6 _
    clear hY3 g0 g1 g2 g3 g4 g5 g6 i0 i1 i2 i3 hb4 hoc
    have henc := J.encode_any o t.a t.b 0 Y6 (J.Tab.below HJT.out (HLV.out.low.trans (HW6.out.mono HLV.out.low.size)))
    unfold J.insV at henc
    go_wp2_with fail
    refine henc.mono ?_
    rintro e z ⟨rfl, hbz⟩
    have HZ : Hid (Below W.heap.size W z) := HW6.out.trans (hbz.mono HW6.out.size)
    clear hbz henc
    go_wp2_with fail
    go_ret
    exact ⟨by rw [HR.out]; rfl, HZ.out⟩
  | false =>
    rw [hO] at hoc
    by_cases hne : t.name = []
    · have HR : Hid (Z.codeV ts (Z.ops ts) k = J.I.encV o t.a t.b t.n) := by show _ = _; rw [HR0.out, if_neg (by rw [hO]; simp), if_neg (by simpa using hne)]
      have hE : nm.toList.isEmpty = true := by rw [← hnm, ByteArray.toList_eq, hne]; rfl
      clear hO hne
      refine hoc.mono ?_
      rintro e y4 ⟨rfl, hb4⟩
      have hB4 : Below W.heap.size W y4 := HB3.out.trans (hb4.mono HB3.out.size)
      have HW6 : Hid _ := hB4
      have p0 := cell_thru hb4 i0
      have p1 := cell_thru hb4 i1
      have p2 := cell_thru hb4 i2
      have p3 := cell_thru hb4 i3
      have m1 := cell_thru hb4 g1
      clear hY3 g0 g1 g2 g3 g4 g5 g6 i0 i1 i2 i3 hb4 hoc
      have henc := J.encode_any o t.a t.b t.n y4 (J.Tab.below HJT.out (HLV.out.low.trans (HW6.out.mono HLV.out.low.size)))
      unfold J.insV at henc
      go_wp2_with fail
      refine henc.mono ?_
      rintro e z ⟨rfl, hbz⟩
      have HZ : Hid (Below W.heap.size W z) := HW6.out.trans (hbz.mono HW6.out.size)
      clear hbz henc
      go_wp2_with fail
      go_ret
      exact ⟨by rw [HR.out]; rfl, HZ.out⟩
    · have HR : Hid (Z.codeV ts (Z.ops ts) k = J.I.encV o t.a t.b (Z.far (Z.ops ts) (Z.ats (Z.ops ts)) k (Z.labN ts t.name))) := by show _ = _; rw [HR0.out, if_neg (by rw [hO]; simp), if_pos hne]
      have hE : nm.toList.isEmpty = false := by rw [← hnm, ByteArray.toList_eq, str_list]; simpa using hne
      clear hO
      refine hoc.mono ?_
      rintro e y4 ⟨rfl, hb4⟩
      have hB4 : Below W.heap.size W y4 := HB3.out.trans (hb4.mono HB3.out.size)
      have hdist : ∀ W', Below y4.heap.size y4 W' → Calls Tryz.prog 75 #[.pointer (some ⟨yb, 0, none⟩), .int .i64 k, .int .i64 (Z.labN ts t.name)] W' fun e w' => e = .returned (.int .i64 (Z.far (Z.ops ts) (Z.ats (Z.ops ts)) k (Z.labN ts t.name))) ∧ Below W'.heap.size W' w' := fun W' hb => distance_any (LV.below HLV.out (hB4.trans (hb.mono hB4.size))) hnear k _ hkl hlab
      have HRUN : Hid ((Instr.lookup 54 (.map (some bm)) (.string nm) false).run Tryz.prog y4.drew = .ok (.int .i64 (Z.labN ts t.name)) y4.drew) := by
        show _ = _
        obtain ⟨D, n, h1, h2, h3⟩ := (LV.below HLV.out hB4).nm.ex
        rw [hnm] at hkey
        obtain ⟨c, hc, hat, -⟩ := h1.drew.lookup_int lawS Tryz.underlying54 Tryz.underlying3 (zeroI _) hkey
        rw [h3 t.name] at hat
        rw [hc]
        injection hat with hat
        injection hat with _ hat
        rw [hat]
      have h0' := cell_thru hb4 i0
      have h1' := cell_thru hb4 i1
      have h2' := cell_thru hb4 i2
      have h3' := cell_thru hb4 i3
      have f1' := cell_thru hb4 g1
      have y0' := cell_thru hb4 y0b
      have h3z : y4.frozen? ⟨b6, 3, none⟩ = false := (hb4.frozen (p := ⟨b6, 3, none⟩) hY3s).trans h3z1
      have hb6l : b6 < y4.heap.size := Nat.lt_of_lt_of_le hY3s hb4.size
      have hne1 : b6 ≠ yb := by omega
      have hne2 : b6 ≠ b5 := by omega
      have HS7 : Hid (y4.drew.cell? ⟨yb, 0, none⟩ = some (.map (some bm)) ∧ y4.drew.cell? ⟨b5, 1, none⟩ = some (.string nm)) := ⟨by rw [World.cell?_drew]; exact y0', by rw [World.cell?_drew]; exact f1'⟩
      generalize Z.labN ts t.name = q at *
      generalize Z.far (Z.ops ts) (Z.ats (Z.ops ts)) k q = d at *
      clear hY3 g0 g1 g2 g3 g4 g5 g6 i0 i1 i2 i3 hb4 hoc hne
      go_wp2_with fail
      refine wp_region_held_drew (S := (fun w' : World => w'.cell? ⟨yb, 0, none⟩ = some (.map (some bm)) ∧ w'.cell? ⟨b5, 1, none⟩ = some (.string nm))) (by kernel_rfl) HS7.out (fun hHeld => ?_)
      refine tk (i := 0) (v := ?_) (tA rfl) (by kernel_rfl) (fun _ _ _ h => h) (Or.inl ⟨by rfl, ?_⟩) (by assumption) ?_
      rotate_left
      · (intro w hSw; (try dsimp only at hSw); go_simp <;> with_reducible rfl)
      simp only [Act.put, List.setIfInBounds_toArray, List.set_cons_zero, List.set_cons_succ]
      refine tk (i := 1) (v := ?_) (tA rfl) (by kernel_rfl) (fun _ _ _ h => h) (Or.inl ⟨by rfl, ?_⟩) (by assumption) ?_
      rotate_left
      · (intro w hSw; (try dsimp only at hSw); go_simp <;> with_reducible rfl)
      simp only [Act.put, List.setIfInBounds_toArray, List.set_cons_zero, List.set_cons_succ]
      refine tk (i := 2) (v := ?_) (tA rfl) (by kernel_rfl) (fun _ _ _ h => h) (Or.inl ⟨by rfl, ?_⟩) (by assumption) ?_
      rotate_left
      · (intro w hSw; (try dsimp only at hSw); go_simp <;> with_reducible rfl)
      simp only [Act.put, List.setIfInBounds_toArray, List.set_cons_zero, List.set_cons_succ]
      refine tk (i := 3) (v := ?_) (tA rfl) (by kernel_rfl) (fun _ _ _ h => h) (Or.inl ⟨by rfl, ?_⟩) (by assumption) ?_
      rotate_left
      · (intro w hSw; (try dsimp only at hSw); go_simp <;> with_reducible rfl)
      simp only [Act.put, List.setIfInBounds_toArray, List.set_cons_zero, List.set_cons_succ]
      refine tk (i := 4) (v := ?_) (tA rfl) (by kernel_rfl) (fun _ _ _ h => h) (Or.inl ⟨by rfl, ?_⟩) (by assumption) ?_
      rotate_left
      · (intro w hSw; (try dsimp only at hSw); go_simp <;> with_reducible rfl)
      simp only [Act.put, List.setIfInBounds_toArray, List.set_cons_zero, List.set_cons_succ]
      refine tk (i := 5) (v := ?_) (tA rfl) (by kernel_rfl) (fun _ _ _ h => h) (Or.inl ⟨by rfl, ?_⟩) (by assumption) ?_
      rotate_left
      · (intro w hSw; (try dsimp only at hSw); go_simp <;> with_reducible rfl)
      simp only [Act.put, List.setIfInBounds_toArray, List.set_cons_zero, List.set_cons_succ]
      refine tk (i := 6) (v := ?_) (tA rfl) (by kernel_rfl) (fun _ _ _ h => h) (Or.inl ⟨by rfl, ?_⟩) (by assumption) ?_
      rotate_left
      · (intro w hSw; (try dsimp only at hSw); go_simp <;> with_reducible rfl)
      simp only [Act.put, List.setIfInBounds_toArray, List.set_cons_zero, List.set_cons_succ]
      refine tk (i := 7) (v := ?_) (tA rfl) (by kernel_rfl) (fun _ _ _ h => h) (Or.inl ⟨by rfl, ?_⟩) (by assumption) ?_
      rotate_left
      · (intro w hSw; (try dsimp only at hSw); go_simp <;> with_reducible rfl)
      simp only [Act.put, List.setIfInBounds_toArray, List.set_cons_zero, List.set_cons_succ]
      refine wpAnyH_ready (rs := [8]) (by kernel_rfl) (by simp) ?_
      refine AllReadyH.cons (tA rfl) (fun K hK => ?_) AllReadyH.nil
      have m4 := HRUN.out
      go_simp
      refine hK.out _ _ hHeld (fun hHeld => ?_)
      clear hK K
      try simp only [Act.put, List.setIfInBounds_toArray, List.set_cons_zero, List.set_cons_succ]
      refine wpAnyH_ready (rs := [9]) (by kernel_rfl) (by simp) ?_
      refine AllReadyH.cons (tA rfl) (fun K hK => ?_) AllReadyH.nil
      go_simp
      refine (hdist _ (Below.refl _ _).drew).mono ?_
      rintro e y5 ⟨rfl, hb5'⟩
      have hB5 : Below y4.heap.size y4 y5 := (Below.refl _ _).drew.trans hb5'
      try go_wp2_with fail
      refine hK.out _ _ ⟨cell_thru hB5 y0', cell_thru hB5 f1'⟩ (fun hHeld => ?_)
      clear hK K
      try simp only [Act.put, List.setIfInBounds_toArray, List.set_cons_zero, List.set_cons_succ]
      have p3 := cell_thru hB5 h3'
      have p0 := cell_thru hB5 h0'
      have p1 := cell_thru hB5 h1'
      have p2 := cell_thru hB5 h2'
      have q3 : y5.frozen? ⟨b6, 3, none⟩ = false := (hB5.frozen (p := ⟨b6, 3, none⟩) hb6l).trans h3z
      refine tk (i := 10) (v := ?_) (tA rfl) (by kernel_rfl) (fun _ _ _ h => h) (Or.inl ⟨by rfl, ?_⟩) (by assumption) ?_
      rotate_left
      · (intro w hSw; (try dsimp only at hSw); go_simp <;> with_reducible rfl)
      simp only [Act.put, List.setIfInBounds_toArray, List.set_cons_zero, List.set_cons_succ]
      refine wpAnyH_ready (rs := [11]) (by kernel_rfl) (by simp) ?_
      refine AllReadyH.cons (tA rfl) (fun K hK => ?_) AllReadyH.nil
      go_simp
      refine hK.out _ _ ⟨(World.cell?_setCell_far _ ⟨b6, 3, none⟩ ⟨yb, 0, none⟩ _ hne1).trans hHeld.1, (World.cell?_setCell_far _ ⟨b6, 3, none⟩ ⟨b5, 1, none⟩ _ hne2).trans hHeld.2⟩ (fun hHeld => ?_)
      clear hK K
      try simp only [Act.put, List.setIfInBounds_toArray, List.set_cons_zero, List.set_cons_succ]
      refine wpAnyH_done (by kernel_rfl) ?_ _
      clear hHeld
      obtain ⟨Y6, hY6⟩ : ∃ Y6, y5.setCell ⟨b6, 3, none⟩ (.int .i64 d) = Y6 := ⟨_, rfl⟩
      have r0 : Y6.cell? ⟨b6, 0, none⟩ = some (.int .i64 o) := by subst hY6; rw [World.cell?_setCell_other _ _ _ _ (by simp)]; exact p0
      have r1 : Y6.cell? ⟨b6, 1, none⟩ = some (.int .i64 t.a) := by subst hY6; rw [World.cell?_setCell_other _ _ _ _ (by simp)]; exact p1
      have r2 : Y6.cell? ⟨b6, 2, none⟩ = some (.int .i64 t.b) := by subst hY6; rw [World.cell?_setCell_other _ _ _ _ (by simp)]; exact p2
      have r3 : Y6.cell? ⟨b6, 3, none⟩ = some (.int .i64 d) := by subst hY6; exact World.cell?_setCell_same' _ _ _ (by rw [p3]; rfl)
      have HW6 : Hid (Below W.heap.size W Y6) := by subst hY6; exact (hB4.trans (hB5.mono hB4.size)).setCell hWb6 _
      clear hb5' hB5
      have henc := J.encode_any o t.a t.b d Y6 (J.Tab.below HJT.out (HLV.out.low.trans (HW6.out.mono HLV.out.low.size)))
      unfold J.insV at henc
      go_wp2_with fail
      refine henc.mono ?_
      rintro e z ⟨rfl, hbz⟩
      have HZ : Hid (Below W.heap.size W z) := HW6.out.trans (hbz.mono HW6.out.size)
      clear hbz henc
      go_wp2_with fail
      go_ret
      exact ⟨by rw [HR.out]; rfl, HZ.out⟩
end

end Go.Proofs.YtgjingleolhkbaaGreatDoor
