/- The table of rows, and what reads it; numbers and registers. -/
import Derived.Test.YtgjingleolhkbaaGreatDoorAsSmall
import Derived.Test.YtgjingleolhkbaaGreatDoorAsBackMath
import Derived.Test.YtgjingleolhkbaaGreatDoorAsLay
namespace Go.Proofs.YtgjingleolhkbaaGreatDoor
open Go.RowKit
set_option linter.unusedVariables false
set_option linter.unusedSimpArgs false

structure Tab (w : World) : Prop where
  rw : ∀ k, k < 34 → w.cell? ⟨0, k * 2, none⟩ = some (.string (X.str (X.row k).1)) ∧ w.cell? ⟨0, k * 2 + 1, none⟩ = some (.string (X.str (X.row k).2))
  ml : ∃ m, w.cell? ⟨3, 0, none⟩ = some (.int .i64 m)
  pw : Lib.TabIs Tryz.prog w "internal/strconv.uint64pow10" .u64 Lib.pow10Tab
  es : ∃ ev, w.cell? ⟨4, 0, none⟩ = some ev ∧ (ev = .nilIface ∨ ∃ te pe, ev = .iface te pe)
  er : ∃ ev, w.cell? ⟨5, 0, none⟩ = some ev ∧ (ev = .nilIface ∨ ∃ te pe, ev = .iface te pe)
  hz : 9 ≤ w.heap.size

theorem gPow : Tryz.prog.globalNamed "internal/strconv.uint64pow10" = some 6 := by kernel_rfl
theorem Tab.below {w w' : World} (h : Tab w) (hb : Below w.heap.size w w') : Tab w' := by
  have hz := h.hz
  have k : ∀ b o, b < 9 → w'.cell? ⟨b, o, none⟩ = w.cell? ⟨b, o, none⟩ := fun b o hb' => hb.cell (p := ⟨b, o, none⟩) (show b < w.heap.size by omega)
  obtain ⟨e1, h1, h2⟩ := h.es
  obtain ⟨e2, h3, h4⟩ := h.er
  obtain ⟨m, h5⟩ := h.ml
  refine ⟨fun j hj => ⟨(k 0 _ (by omega)).trans (h.rw j hj).1, (k 0 _ (by omega)).trans (h.rw j hj).2⟩, ⟨m, (k 3 0 (by omega)).trans h5⟩, ?_, ⟨e1, (k 4 0 (by omega)).trans h1, h2⟩, ⟨e2, (k 5 0 (by omega)).trans h3, h4⟩, Nat.le_trans hz hb.size⟩
  have hp := h.pw
  unfold Lib.TabIs World.var? at *
  rw [gPow] at *
  simp only [Option.bind_some] at hp ⊢
  rw [hb.block 6 (by omega)]
  exact hp
theorem Tab.alloc {w : World} (h : Tab w) (o : Obj) : Tab (w.alloc o) := h.below ((Below.refl _ _).alloc (Nat.le_refl _) _)
theorem below_grow' (w : World) (k : Nat) (os : Array Obj) : Below w.heap.size w (Go.Sort.grow (w.drewN k) os) := by
  refine ⟨rfl, rfl, rfl, ?_, fun i hi => ?_⟩
  · show w.heap.size ≤ (w.heap ++ os).size
    simp
  · show (w.heap ++ os)[i]? = w.heap[i]?
    rw [Array.getElem?_append_left hi]

/-! ### Numbers -/
set_option maxHeartbeats 4000000 in
theorem digits_any (n : Int) (h : X.fits n) (w : World) (ht : Tab w) :
    Calls Tryz.prog 125 #[.int .i64 n] w fun e w' => e = .returned (.string (X.str (Go.Lib.itoa n))) ∧ Below w.heap.size w w' := by
  have hp := ht.pw
  obtain ⟨h0, h1⟩ := h
  go_enter Tryz.func125, Tryz.ntmps125
  go_wp2_with fail
  refine (Tryz.strconv_FormatInt_10 n h0 h1 _ hp).mono ?_
  rintro e w' ⟨rfl, k, os, rfl⟩
  have HB : Hid _ := below_grow' w k os
  generalize Go.Sort.grow (w.drewN k) os = w1 at *
  go_wp2
  go_ret
  exact ⟨rfl, HB.out⟩

/-- What 'number' answers. -/
def NumIs (l : X.By) (z : Int) (ok : Bool) : Prop := (ok = true → X.num l = some z) ∧ (ok = false → X.num l = none)
def NumOut (w : World) (l : X.By) (e : Ending) (w' : World) : Prop := ∃ z ok, e = .returned (.tuple #[.int .i64 z, .bool ok]) ∧ NumIs l z ok ∧ Below w.heap.size w w'
set_option maxHeartbeats 4000000 in
theorem number_any (s : ByteArray) (hs : s.size ≤ 281474976710656) (w : World) (ht : Tab w) :
    Calls Tryz.prog 114 #[.string s] w (NumOut w s.data.toList) := by
  obtain ⟨e1, he1, he1'⟩ := ht.es
  obtain ⟨e2, he2, he2'⟩ := ht.er
  have HT : Hid _ := ht
  clear ht
  cases hp : Go.Lib.parseIntB 64 s.data.toList with
  | ok n =>
    have hf := X.parse_fits hp
    have hok : ∀ w : World, ∃ w1, Below w.heap.size w w1 ∧ True := fun w => ⟨w, Below.refl _ _, trivial⟩
    clear hok
    by_cases hd : Go.Lib.itoa n = s.data.toList
    · have HR : Hid (X.num s.data.toList = some n) := by show _ = _; unfold X.num; rw [hp]; simp [hd]
      have heq : ((X.str (Go.Lib.itoa n)).toList == s.toList) = true := toList_eq' (by rw [str_list]; exact hd)
      clear he1 he1' he2 he2' hd
      go_enter Tryz.func114, Tryz.ntmps114
      go_wp2_with fail
      refine (Tryz.strconv_ParseInt_10_at64_ok s (by omega) n hp _).mono ?_
      rintro e w1 ⟨rfl, hw⟩
      have HB1 : Hid (Below w.heap.size w w1) := by
        show Below _ _ _
        rcases hw with rfl | ⟨t, rfl⟩
        · exact Below.refl _ _
        · exact Lib.bytesWorld_below _ _ _
      clear hw hp
      have HT1 : Hid (Tab w1) := HT.out.below HB1.out
      go_wp2_with fail
      refine (digits_any n hf w1 HT1.out).mono ?_
      rintro e w2 ⟨rfl, HB2⟩
      have HB2' : Hid _ := HB2
      clear HB2
      go_wp2
      go_ret2
      exact ⟨_, _, rfl, ⟨fun _ => HR.out, (fun h => by cases h)⟩, HB1.out.trans (HB2'.out.mono HB1.out.size)⟩
    · have HR : Hid (X.num s.data.toList = none) := by show _ = _; unfold X.num; rw [hp]; simp [hd]
      have heq : ((X.str (Go.Lib.itoa n)).toList == s.toList) = false := toList_ne' (by rw [str_list]; exact hd)
      clear he1 he1' he2 he2' hd
      go_enter Tryz.func114, Tryz.ntmps114
      go_wp2_with fail
      refine (Tryz.strconv_ParseInt_10_at64_ok s (by omega) n hp _).mono ?_
      rintro e w1 ⟨rfl, hw⟩
      have HB1 : Hid (Below w.heap.size w w1) := by
        show Below _ _ _
        rcases hw with rfl | ⟨t, rfl⟩
        · exact Below.refl _ _
        · exact Lib.bytesWorld_below _ _ _
      clear hw hp
      have HT1 : Hid (Tab w1) := HT.out.below HB1.out
      go_wp2_with fail
      refine (digits_any n hf w1 HT1.out).mono ?_
      rintro e w2 ⟨rfl, HB2⟩
      have HB2' : Hid _ := HB2
      clear HB2
      go_wp2
      go_ret2
      exact ⟨_, _, rfl, ⟨(fun h => by cases h), fun _ => HR.out⟩, HB1.out.trans (HB2'.out.mono HB1.out.size)⟩
  | «syntax» =>
    have HR : Hid (X.num s.data.toList = none) := by show _ = _; unfold X.num; rw [hp]
    go_enter Tryz.func114, Tryz.ntmps114
    go_wp2_with fail
    refine (Tryz.strconv_ParseInt_10_at64_syntax s hs hp e1 _ he1 he1').mono ?_
    rintro e w1 ⟨N, rfl, -, -, hb⟩
    have HB : Hid _ := hb
    clear hb hp he1 he1' he2 he2'
    go_wp2
    go_ret2
    exact ⟨_, _, rfl, ⟨(fun h => by cases h), fun _ => HR.out⟩, HB.out⟩
  | range =>
    have HR : Hid (X.num s.data.toList = none) := by show _ = _; unfold X.num; rw [hp]
    go_enter Tryz.func114, Tryz.ntmps114
    go_wp2_with fail
    refine (Tryz.strconv_ParseInt_10_at64_range s hs hp e2 _ he2 he2').mono ?_
    rintro e w1 ⟨N, rfl, -, -, hb⟩
    have HB : Hid _ := hb
    clear hb hp he1 he1' he2 he2'
    generalize Lib.intSat 64 s.data.toList = z
    go_wp2
    go_ret2
    exact ⟨_, _, rfl, ⟨(fun h => by cases h), fun _ => HR.out⟩, HB.out⟩

/-! ### Registers -/
theorem reg_two {s : ByteArray} (h : s.size = 2) : s.data.toList = [s[0]'(by omega), s[1]'(by omega)] := by
  have := drop_cons s 0 (by omega)
  rw [List.drop_zero, drop_cons s 1 (by omega), List.drop_eq_nil_of_le (by simp; omega)] at this
  exact this
theorem reg_no {s : ByteArray} (h : s.size ≠ 2) : X.reg s.data.toList = none := by
  have hl : s.data.toList.length ≠ 2 := by rw [len_list]; exact h
  generalize s.data.toList = l at hl
  unfold X.reg
  split
  · simp at hl
  · rfl
def RegOut (w : World) (r : Option Int) (e : Ending) (w' : World) : Prop := (match r with | none => e = .returned (.tuple #[.int .i64 0, .bool false]) | some x => e = .returned (.tuple #[.int .i64 x, .bool true])) ∧ w' = w
theorem ret_t {a b : Int} {k : Bool} (h : a = b) : Ending.returned (.tuple #[.int .i64 a, .bool k]) = .returned (.tuple #[.int .i64 b, .bool k]) := by rw [h]
set_option maxHeartbeats 4000000 in
theorem register_any (s : ByteArray) (w : World) :
    Calls Tryz.prog 126 #[.string s] w (RegOut w (X.reg s.data.toList)) := by
  by_cases h2 : s.size = 2
  · have hl := reg_two h2
    have h0 : 0 < s.size := by omega
    have h1 : 1 < s.size := by omega
    have h2' : ((s.size : Int) != 2) = false := by simp; omega
    by_cases hr : s[0] = 114
    · have hr' : ((s[0].toNat : Int) != 114) = false := by rw [hr]; decide
      cases hd : X.dg s[1].toNat
      · have HR : Hid (X.reg s.data.toList = none) := by show _ = _; rw [hl]; simp [X.reg, hd]
        clear hl hr
        go_enter Tryz.func126, Tryz.ntmps126
        go_wp2_with (go_at_call 88; refine (isDigit_any s[1].toNat _).mono ?_; rw [hd]; rintro e w' ⟨rfl, rfl⟩)
        go_ret2
        unfold RegOut; rw [HR.out]; exact ⟨rfl, rfl⟩
      · have HR : Hid (X.reg s.data.toList = some ((s[1].toNat : Int) - 48)) := by show _ = _; rw [hl]; simp [X.reg, hd, hr]
        have hd' : 48 ≤ s[1].toNat ∧ s[1].toNat ≤ 57 := by simpa [X.dg] using hd
        obtain ⟨d1, d2⟩ := hd'
        clear hl hr
        go_enter Tryz.func126, Tryz.ntmps126
        go_wp2_with (go_at_call 88; refine (isDigit_any s[1].toNat _).mono ?_; rw [hd]; rintro e w' ⟨rfl, rfl⟩)
        go_ret2
        unfold RegOut; rw [HR.out]; exact ⟨by first | rfl | exact ret_t (by go_num) | exact ret_t (by omega), rfl⟩
    · have hr' : ((s[0].toNat : Int) != 114) = true := by
        simp only [bne_iff_ne, ne_eq]
        intro e
        exact hr (UInt8.toNat_inj.1 (by rw [show (114 : UInt8).toNat = 114 from rfl]; omega))
      have HR : Hid (X.reg s.data.toList = none) := by show _ = _; rw [hl]; simp [X.reg, hr]
      clear hl hr
      go_enter Tryz.func126, Tryz.ntmps126
      go_wp2
      go_ret2
      unfold RegOut; rw [HR.out]; exact ⟨rfl, rfl⟩
  · have HR : Hid _ := reg_no h2
    have h2' : ((s.size : Int) != 2) = true := by simp; omega
    clear h2
    go_enter Tryz.func126, Tryz.ntmps126
    go_wp2
    go_ret2
    unfold RegOut; rw [HR.out]; exact ⟨rfl, rfl⟩
/-! ### The table -/
theorem indexByte_ge (l : X.By) (c : UInt8) : decide (0 ≤ Go.Lib.indexByte l c) = l.contains c := by
  induction l with
  | nil => rfl
  | cons b l ih =>
    unfold Go.Lib.indexByte
    by_cases h : b = c
    · subst h; simp
    · have h' : (b == c) = false := by simp [h]
      have h'' : (c == b) = false := by simp; exact fun e => h e.symm
      rw [List.contains_cons, h'', Bool.false_or, ← ih, if_neg (by simp [h])]
      split
      · rename_i h1
        have : Go.Lib.indexByte l c = -1 := by simpa using h1
        rw [this]
      · rename_i h1
        have h2 : Go.Lib.indexByte l c ≠ -1 := by simpa using h1
        have h3 : -1 ≤ Go.Lib.indexByte l c := by
          clear h h' h'' h1 h2 ih
          induction l with
          | nil => simp [Go.Lib.indexByte]
          | cons d l ih => unfold Go.Lib.indexByte; split; omega; split; omega; omega
        rw [Bool.eq_iff_iff]; simp; omega
set_option maxHeartbeats 4000000 in
theorem has_any (m b : ByteArray) (c : Nat) (hc : c < 256) (w : World) :
    Calls Tryz.prog 90 #[.agg #[.string m, .string b], .int .u8 c] w fun e w' => e = .returned (.bool (X.has b.data.toList (UInt8.ofNat c))) ∧ w' = w.alloc (.cells #[.string m, .string b] 125) := by
  have h := fun w => Tryz.strings_IndexByte b c w
  simp only [Int.toNat_natCast] at h
  have hR : X.has b.data.toList (UInt8.ofNat c) = decide (0 ≤ Go.Lib.indexByte b.data.toList c.toUInt8) := (indexByte_ge _ _).symm
  rw [hR]
  clear hR
  generalize Go.Lib.indexByte b.data.toList c.toUInt8 = z at *
  go_enter Tryz.func90, Tryz.ntmps90
  go_wp2_with (go_at_call 108; refine (h _).mono ?_; rintro e w' ⟨rfl, rfl⟩)
  go_ret
  exact ⟨rfl, rfl⟩

end Go.Proofs.YtgjingleolhkbaaGreatDoor
