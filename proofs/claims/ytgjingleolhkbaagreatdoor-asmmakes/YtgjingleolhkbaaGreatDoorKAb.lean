/- The table of rows, and what reads it; numbers and registers. -/
import Derived.Test.YtgjingleolhkbaaGreatDoorKAa
import Derived.Deep.RegionHeld3
namespace Go.Proofs.YtgjingleolhkbaaGreatDoor
open Go.RowKit
set_option linter.unusedVariables false
set_option linter.unusedSimpArgs false

structure Tab (w : World) : Prop where
  rw : ∀ k, k < 34 → w.cell? ⟨0, k * 2, none⟩ = some (.string (X.str (X.row k).1)) ∧ w.cell? ⟨0, k * 2 + 1, none⟩ = some (.string (X.str (X.row k).2))
  ml : ∃ m, w.cell? ⟨3, 0, none⟩ = some (.int .i64 m)
  pw : Lib.TabIs Tryz.prog w "internal/strconv.uint64pow10" .u64 Lib.pow10Tab
  es : ∃ ev, w.cell? ⟨4, 0, none⟩ = some ev ∧ (ev = .nilIface ∨ ∃ te pe, ev = .iface te pe)
  er : ∃ ev, w.cell? ⟨5, 0, none⟩ = some ev ∧ (ev = .nilIface ∨ ∃ te pe, ev = .iface te pe)
  hz : 9 ≤ w.heap.size

theorem gPow : Tryz.prog.globalNamed "internal/strconv.uint64pow10" = some 6 := by kernel_rfl
theorem Tab.below {w w' : World} (h : Tab w) (hb : Below w.heap.size w w') : Tab w' := by
  have hz := h.hz
  have k : ∀ b o, b < 9 → w'.cell? ⟨b, o, none⟩ = w.cell? ⟨b, o, none⟩ := fun b o hb' => hb.cell (p := ⟨b, o, none⟩) (show b < w.heap.size by omega)
  obtain ⟨e1, h1, h2⟩ := h.es
  obtain ⟨e2, h3, h4⟩ := h.er
  obtain ⟨m, h5⟩ := h.ml
  refine ⟨fun j hj => ⟨(k 0 _ (by omega)).trans (h.rw j hj).1, (k 0 _ (by omega)).trans (h.rw j hj).2⟩, ⟨m, (k 3 0 (by omega)).trans h5⟩, ?_, ⟨e1, (k 4 0 (by omega)).trans h1, h2⟩, ⟨e2, (k 5 0 (by omega)).trans h3, h4⟩, Nat.le_trans hz hb.size⟩
  have hp := h.pw
  unfold Lib.TabIs World.var? at *
  rw [gPow] at *
  simp only [Option.bind_some] at hp ⊢
  rw [hb.block 6 (by omega)]
  exact hp
theorem Tab.alloc {w : World} (h : Tab w) (o : Obj) : Tab (w.alloc o) := h.below ((Below.refl _ _).alloc (Nat.le_refl _) _)
theorem below_grow' (w : World) (k : Nat) (os : Array Obj) : Below w.heap.size w (Go.Sort.grow (w.drewN k) os) := by
  refine ⟨rfl, rfl, rfl, ?_, fun i hi => ?_⟩
  · show w.heap.size ≤ (w.heap ++ os).size
    simp
  · show (w.heap ++ os)[i]? = w.heap[i]?
    rw [Array.getElem?_append_left hi]

/-! ### Numbers -/
set_option maxHeartbeats 4000000 in
theorem digits_any (n : Int) (h : X.fits n) (w : World) (ht : Tab w) :
    Calls Tryz.prog 125 #[.int .i64 n] w fun e w' => e = .returned (.string (X.str (Go.Lib.itoa n))) ∧ Below w.heap.size w w' := by
  have hp := ht.pw
  obtain ⟨h0, h1⟩ := h
  go_enter Tryz.func125, Tryz.ntmps125
  go_wp2_with fail
  refine (Tryz.strconv_FormatInt_10 n h0 h1 _ hp).mono ?_
  rintro e w' ⟨rfl, k, os, rfl⟩
  have HB : Hid _ := below_grow' w k os
  generalize Go.Sort.grow (w.drewN k) os = w1 at *
  go_wp2
  go_ret
  exact ⟨rfl, HB.out⟩

/-- What 'number' answers. -/
def NumIs (l : X.By) (z : Int) (ok : Bool) : Prop := (ok = true → X.num l = some z) ∧ (ok = false → X.num l = none)
def NumOut (w : World) (l : X.By) (e : Ending) (w' : World) : Prop := ∃ z ok, e = .returned (.tuple #[.int .i64 z, .bool ok]) ∧ NumIs l z ok ∧ Below w.heap.size w w'
set_option maxHeartbeats 4000000 in
theorem number_any (s : ByteArray) (hs : s.size ≤ 281474976710656) (w : World) (ht : Tab w) :
    Calls Tryz.prog 114 #[.string s] w (NumOut w s.data.toList) := by
  obtain ⟨e1, he1, he1'⟩ := ht.es
  obtain ⟨e2, he2, he2'⟩ := ht.er
  have HT : Hid _ := ht
  clear ht
  cases hp : Go.Lib.parseIntB 64 s.data.toList with
  | ok n =>
    have hf := X.parse_fits hp
    have hok : ∀ w : World, ∃ w1, Below w.heap.size w w1 ∧ True := fun w => ⟨w, Below.refl _ _, trivial⟩
    clear hok
    by_cases hd : Go.Lib.itoa n = s.data.toList
    · have HR : Hid (X.num s.data.toList = some n) := by show _ = _; unfold X.num; rw [hp]; simp [hd]
      have heq : ((X.str (Go.Lib.itoa n)).toList == s.toList) = true := toList_eq' (by rw [str_list]; exact hd)
      clear he1 he1' he2 he2' hd
      go_enter Tryz.func114, Tryz.ntmps114
      go_wp2_with fail
      refine (Tryz.strconv_ParseInt_10_at64_ok s (by omega) n hp _).mono ?_
      rintro e w1 ⟨rfl, hw⟩
      have HB1 : Hid (Below w.heap.size w w1) := by
        show Below _ _ _
        rcases hw with rfl | ⟨t, rfl⟩
        · exact Below.refl _ _
        · exact Lib.bytesWorld_below _ _ _
      clear hw hp
      have HT1 : Hid (Tab w1) := HT.out.below HB1.out
      go_wp2_with fail
      refine (digits_any n hf w1 HT1.out).mono ?_
      rintro e w2 ⟨rfl, HB2⟩
      have HB2' : Hid _ := HB2
      clear HB2
      go_wp2
      go_ret2
      exact ⟨_, _, rfl, ⟨fun _ => HR.out, (fun h => by cases h)⟩, HB1.out.trans (HB2'.out.mono HB1.out.size)⟩
    · have HR : Hid (X.num s.data.toList = none) := by show _ = _; unfold X.num; rw [hp]; simp [hd]
      have heq : ((X.str (Go.Lib.itoa n)).toList == s.toList) = false := toList_ne' (by rw [str_list]; exact hd)
      clear he1 he1' he2 he2' hd
      go_enter Tryz.func114, Tryz.ntmps114
      go_wp2_with fail
      refine (Tryz.strconv_ParseInt_10_at64_ok s (by omega) n hp _).mono ?_
      rintro e w1 ⟨rfl, hw⟩
      have HB1 : Hid (Below w.heap.size w w1) := by
        show Below _ _ _
        rcases hw with rfl | ⟨t, rfl⟩
        · exact Below.refl _ _
        · exact Lib.bytesWorld_below _ _ _
      clear hw hp
      have HT1 : Hid (Tab w1) := HT.out.below HB1.out
      go_wp2_with fail
      refine (digits_any n hf w1 HT1.out).mono ?_
      rintro e w2 ⟨rfl, HB2⟩
      have HB2' : Hid _ := HB2
      clear HB2
      go_wp2
      go_ret2
      exact ⟨_, _, rfl, ⟨(fun h => by cases h), fun _ => HR.out⟩, HB1.out.trans (HB2'.out.mono HB1.out.size)⟩
  | «syntax» =>
    have HR : Hid (X.num s.data.toList = none) := by show _ = _; unfold X.num; rw [hp]
    go_enter Tryz.func114, Tryz.ntmps114
    go_wp2_with fail
    refine (Tryz.strconv_ParseInt_10_at64_syntax s hs hp e1 _ he1 he1').mono ?_
    rintro e w1 ⟨N, rfl, -, -, hb⟩
    have HB : Hid _ := hb
    clear hb hp he1 he1' he2 he2'
    go_wp2
    go_ret2
    exact ⟨_, _, rfl, ⟨(fun h => by cases h), fun _ => HR.out⟩, HB.out⟩
  | range =>
    have HR : Hid (X.num s.data.toList = none) := by show _ = _; unfold X.num; rw [hp]
    go_enter Tryz.func114, Tryz.ntmps114
    go_wp2_with fail
    refine (Tryz.strconv_ParseInt_10_at64_range s hs hp e2 _ he2 he2').mono ?_
    rintro e w1 ⟨N, rfl, -, -, hb⟩
    have HB : Hid _ := hb
    clear hb hp he1 he1' he2 he2'
    generalize Lib.intSat 64 s.data.toList = z
    go_wp2
    go_ret2
    exact ⟨_, _, rfl, ⟨(fun h => by cases h), fun _ => HR.out⟩, HB.out⟩

/-! ### Registers -/
theorem reg_two {s : ByteArray} (h : s.size = 2) : s.data.toList = [s[0]'(by omega), s[1]'(by omega)] := by
  have := drop_cons s 0 (by omega)
  rw [List.drop_zero, drop_cons s 1 (by omega), List.drop_eq_nil_of_le (by simp; omega)] at this
  exact this
theorem reg_no {s : ByteArray} (h : s.size ≠ 2) : X.reg s.data.toList = none := by
  have hl : s.data.toList.length ≠ 2 := by rw [len_list]; exact h
  generalize s.data.toList = l at hl
  unfold X.reg
  split
  · simp at hl
  · rfl
def RegOut (w : World) (r : Option Int) (e : Ending) (w' : World) : Prop := (match r with | none => e = .returned (.tuple #[.int .i64 0, .bool false]) | some x => e = .returned (.tuple #[.int .i64 x, .bool true])) ∧ w' = w
theorem ret_t {a b : Int} {k : Bool} (h : a = b) : Ending.returned (.tuple #[.int .i64 a, .bool k]) = .returned (.tuple #[.int .i64 b, .bool k]) := by rw [h]
set_option maxHeartbeats 4000000 in
theorem register_any (s : ByteArray) (w : World) :
    Calls Tryz.prog 126 #[.string s] w (RegOut w (X.reg s.data.toList)) := by
  by_cases h2 : s.size = 2
  · have hl := reg_two h2
    have h0 : 0 < s.size := by omega
    have h1 : 1 < s.size := by omega
    have h2' : ((s.size : Int) != 2) = false := by simp; omega
    by_cases hr : s[0] = 114
    · have hr' : ((s[0].toNat : Int) != 114) = false := by rw [hr]; decide
      cases hd : X.dg s[1].toNat
      · have HR : Hid (X.reg s.data.toList = none) := by show _ = _; rw [hl]; simp [X.reg, hd]
        clear hl hr
        go_enter Tryz.func126, Tryz.ntmps126
        go_wp2_with (go_at_call 88; refine (isDigit_any s[1].toNat _).mono ?_; rw [hd]; rintro e w' ⟨rfl, rfl⟩)
        go_ret2
        unfold RegOut; rw [HR.out]; exact ⟨rfl, rfl⟩
      · have HR : Hid (X.reg s.data.toList = some ((s[1].toNat : Int) - 48)) := by show _ = _; rw [hl]; simp [X.reg, hd, hr]
        have hd' : 48 ≤ s[1].toNat ∧ s[1].toNat ≤ 57 := by simpa [X.dg] using hd
        obtain ⟨d1, d2⟩ := hd'
        clear hl hr
        go_enter Tryz.func126, Tryz.ntmps126
        go_wp2_with (go_at_call 88; refine (isDigit_any s[1].toNat _).mono ?_; rw [hd]; rintro e w' ⟨rfl, rfl⟩)
        go_ret2
        unfold RegOut; rw [HR.out]; exact ⟨by first | rfl | exact ret_t (by go_num) | exact ret_t (by omega), rfl⟩
    · have hr' : ((s[0].toNat : Int) != 114) = true := by
        simp only [bne_iff_ne, ne_eq]
        intro e
        exact hr (UInt8.toNat_inj.1 (by rw [show (114 : UInt8).toNat = 114 from rfl]; omega))
      have HR : Hid (X.reg s.data.toList = none) := by show _ = _; rw [hl]; simp [X.reg, hr]
      clear hl hr
      go_enter Tryz.func126, Tryz.ntmps126
      go_wp2
      go_ret2
      unfold RegOut; rw [HR.out]; exact ⟨rfl, rfl⟩
  · have HR : Hid _ := reg_no h2
    have h2' : ((s.size : Int) != 2) = true := by simp; omega
    clear h2
    go_enter Tryz.func126, Tryz.ntmps126
    go_wp2
    go_ret2
    unfold RegOut; rw [HR.out]; exact ⟨rfl, rfl⟩
/-! ### The table -/
theorem indexByte_ge (l : X.By) (c : UInt8) : decide (0 ≤ Go.Lib.indexByte l c) = l.contains c := by
  induction l with
  | nil => rfl
  | cons b l ih =>
    unfold Go.Lib.indexByte
    by_cases h : b = c
    · subst h; simp
    · have h' : (b == c) = false := by simp [h]
      have h'' : (c == b) = false := by simp; exact fun e => h e.symm
      rw [List.contains_cons, h'', Bool.false_or, ← ih, if_neg (by simp [h])]
      split
      · rename_i h1
        have : Go.Lib.indexByte l c = -1 := by simpa using h1
        rw [this]
      · rename_i h1
        have h2 : Go.Lib.indexByte l c ≠ -1 := by simpa using h1
        have h3 : -1 ≤ Go.Lib.indexByte l c := by
          clear h h' h'' h1 h2 ih
          induction l with
          | nil => simp [Go.Lib.indexByte]
          | cons d l ih => unfold Go.Lib.indexByte; split; omega; split; omega; omega
        rw [Bool.eq_iff_iff]; simp; omega
set_option maxHeartbeats 4000000 in
theorem has_any (m b : ByteArray) (c : Nat) (hc : c < 256) (w : World) :
    Calls Tryz.prog 90 #[.agg #[.string m, .string b], .int .u8 c] w fun e w' => e = .returned (.bool (X.has b.data.toList (UInt8.ofNat c))) ∧ w' = w.alloc (.cells #[.string m, .string b] 125) := by
  have h := fun w => Tryz.strings_IndexByte b c w
  simp only [Int.toNat_natCast] at h
  have hR : X.has b.data.toList (UInt8.ofNat c) = decide (0 ≤ Go.Lib.indexByte b.data.toList c.toUInt8) := (indexByte_ge _ _).symm
  rw [hR]
  clear hR
  generalize Go.Lib.indexByte b.data.toList c.toUInt8 = z at *
  go_enter Tryz.func90, Tryz.ntmps90
  go_wp2_with (go_at_call 108; refine (h _).mono ?_; rintro e w' ⟨rfl, rfl⟩)
  go_ret
  exact ⟨rfl, rfl⟩

end Go.Proofs.YtgjingleolhkbaaGreatDoor

/- Whether an item may be; whether items may. -/
namespace Go.Proofs.YtgjingleolhkbaaGreatDoor
open Go.RowKit
set_option linter.unusedVariables false
set_option linter.unusedSimpArgs false

theorem isEmpty_str {l : X.By} (h : l ≠ []) : (X.str l).toList.isEmpty = false := by
  rw [ByteArray.toList_eq, str_list]
  cases l with | nil => exact absurd rfl h | cons => rfl
theorem isEmpty_nil {l : X.By} (h : l = []) : (X.str l).toList.isEmpty = true := by
  rw [ByteArray.toList_eq, str_list, h]
  rfl
/-- What 'rowOf' answers. -/
def RowOut (w : World) (r : Option (X.By × X.By)) (e : Ending) (w' : World) : Prop :=
  (match r with | none => e = .returned (.tuple #[.agg #[.string { data := #[] }, .string { data := #[] }], .bool false]) | some p => e = .returned (.tuple #[.agg #[.string (X.str p.1), .string (X.str p.2)], .bool true])) ∧ Below w.heap.size w w'

set_option maxRecDepth 100000 in
set_option maxHeartbeats 4000000 in
theorem rowOf_any (op : Int) (w : World) (ht : Tab w) :
    Calls Tryz.prog 89 #[.int .i64 op] w (RowOut w (X.rowOf op)) := by
  by_cases h0 : op < 0
  · have HR : Hid (X.rowOf op = none) := by show _ = _; unfold X.rowOf; rw [if_neg (by omega)]
    clear ht
    go_enter Tryz.func89, Tryz.ntmps89
    go_wp2
    refine bodyPost_ret (v := .tuple #[.agg #[.string { data := #[] }, .string { data := #[] }], .bool false]) ?_ rfl ?_
    · simp [results, Tryz.results89, go_sem]
    · unfold RowOut; rw [HR.out]; exact ⟨rfl, bl1 _ _⟩
  by_cases h1 : 34 ≤ op
  · have HR : Hid (X.rowOf op = none) := by show _ = _; unfold X.rowOf; rw [if_neg (by omega)]
    clear ht
    go_enter Tryz.func89, Tryz.ntmps89
    go_wp2
    refine bodyPost_ret (v := .tuple #[.agg #[.string { data := #[] }, .string { data := #[] }], .bool false]) ?_ rfl ?_
    · simp [results, Tryz.results89, go_sem]
    · unfold RowOut; rw [HR.out]; exact ⟨rfl, bl1 _ _⟩
  obtain ⟨k, rfl⟩ : ∃ k : Nat, op = k := ⟨op.toNat, by omega⟩
  have hk : k < 34 := by omega
  obtain ⟨c1, c2⟩ := ht.rw k hk
  have hz := ht.hz
  have z0 : 0 < w.heap.size := by omega
  have d1 := fun o => (Below.cell (p := ⟨0, k * 2, none⟩) (bl1 w o) z0).trans c1
  have d2 := fun o => (Below.cell (p := ⟨0, k * 2 + 1, none⟩) (bl1 w o) z0).trans c2
  clear ht hz
  by_cases he : (X.row k).1 = []
  · have HR : Hid (X.rowOf k = none) := by show _ = _; unfold X.rowOf; rw [if_neg (by simp [he])]
    have hE := isEmpty_nil he
    clear he
    generalize X.str (X.row k).1 = b1 at *
    generalize X.str (X.row k).2 = b2 at *
    go_enter Tryz.func89, Tryz.ntmps89
    go_wp2
    refine bodyPost_ret (v := .tuple #[.agg #[.string { data := #[] }, .string { data := #[] }], .bool false]) ?_ rfl ?_
    · simp [results, Tryz.results89, go_sem]
    · unfold RowOut; rw [HR.out]; exact ⟨rfl, bl1 _ _⟩
  · have HR : Hid (X.rowOf k = some (X.row k)) := by show _ = _; unfold X.rowOf; rw [if_pos ⟨by omega, by omega, by simpa using he⟩]; simp
    have hE := isEmpty_str he
    have HO : Hid (∀ (e : Ending) (w' : World), e = .returned (.tuple #[.agg #[.string (X.str (X.row k).1), .string (X.str (X.row k).2)], .bool true]) → Below w.heap.size w w' → RowOut w (X.rowOf k) e w') := fun e w' h1 h2 => by unfold RowOut; rw [HR.out]; exact ⟨h1, h2⟩
    clear he
    generalize X.str (X.row k).1 = b1 at *
    generalize X.str (X.row k).2 = b2 at *
    go_enter Tryz.func89, Tryz.ntmps89
    go_wp2
    refine bodyPost_ret (v := .tuple #[.agg #[.string b1, .string b2], .bool true]) ?_ rfl ?_
    · simp [results, Tryz.results89, go_sem]
    · exact HO.out _ _ rfl (bl1 _ _)

/-! ### Instructions -/
set_option maxHeartbeats 4000000 in
theorem has_int (m b : ByteArray) (c : Int) (h0 : 0 ≤ c) (h1 : c < 256) (w : World) :
    Calls Tryz.prog 90 #[.agg #[.string m, .string b], .int .u8 c] w fun e w' => e = .returned (.bool (X.has b.data.toList (UInt8.ofNat c.toNat))) ∧ Below w.heap.size w w' := by
  obtain ⟨k, rfl⟩ : ∃ k : Nat, c = k := ⟨c.toNat, by omega⟩
  refine (has_any m b k (by omega) w).mono ?_
  rintro e w' ⟨rfl, rfl⟩
  exact ⟨by simp, bl1 _ _⟩
theorem cell_thru {w w1 : World} (hb : Below w.heap.size w w1) {b o : Nat} {u : Value} (h : w.cell? ⟨b, o, none⟩ = some u) : w1.cell? ⟨b, o, none⟩ = some u :=
  (hb.cell (p := ⟨b, o, none⟩) (World.block_lt_of_cell? w ⟨b, o, none⟩ h)).trans h
theorem row_cell {w : World} {a : Array Value} {t : TypeId} {k : Nat} {u : Value} (h : a[k]? = some u) : (w.alloc (.cells a t)).cell? ⟨w.heap.size, k, none⟩ = some u := by
  rw [World.cell?_alloc_new]; exact h
theorem neq_empty {s : ByteArray} : s.toList.isEmpty = decide (s.data.toList = []) := by
  rw [ByteArray.toList_eq]; cases s.data.toList <;> simp

/-- What an instruction's item must be: each question apart. -/
def insQ (nm : X.By) (op a b n : Int) (r : X.By) : Bool := decide (X.has r 64 = decide (nm ≠ [])) && ((decide (nm = []) || X.name nm) && ((decide (a = 0) || X.has r 65) && ((decide (b = 0) || X.has r 66) && ((decide (n = 0) || X.has r 78) && (X.isReg a && (X.isReg b && X.numOk op n))))))
theorem tA {l : List Oper} {i : Nat} {y : Oper} (h : l[i]? = some y) : (List.toArray l)[i]? = some y := by simpa using h
/-- An operation that yields the same in every world that meets S is taken first. -/
theorem tk {P : Program} {ops : Array Oper} {Q : Exit → Act → World → Prop} {md : Region.Mode} {S : World → Prop} {i : Nat} {oi : Oper} {v : Value} {fuel : Nat} {listed : Array Bool} {a : Act} {w : World} (hi : ops[i]? = some oi) (hb : (Region.noSelect ops && (Region.free md ops listed i && (Region.ready md ops listed).contains i)) = true)
    (hQ : ∀ c a w, Q (.panic c) (a.put oi.dst v) w → Q (.panic c) a w) (hy : YieldsIf P ops S oi v a) (hS : S w) (h : wpAnyH P md ops Q S fuel (listed.setIfInBounds i true) (a.put oi.dst v) w) : wpAnyH P md ops Q S (fuel + 1) listed a w :=
  wpAnyH_take hi (Bool.and_eq_true_iff.1 hb).1 (Bool.and_eq_true_iff.1 (Bool.and_eq_true_iff.1 hb).2).1 (Bool.and_eq_true_iff.1 (Bool.and_eq_true_iff.1 hb).2).2 hQ hy hS h
def insR (op a b n : Int) (r : X.By) : Bool := (decide (a = 0) || X.has r 65) && ((decide (b = 0) || X.has r 66) && ((decide (n = 0) || X.has r 78) && (X.isReg a && (X.isReg b && X.numOk op n))))
theorem insOk_eq {t : X.It} {r : X.By × X.By} (h : X.rowOf t.op = some r) : X.insOk t = insQ t.name t.op t.a t.b t.n r.2 := by
  unfold X.insOk; rw [h]; rfl
theorem insOk_none {t : X.It} (h : X.rowOf t.op = none) : X.insOk t = false := by
  unfold X.insOk; rw [h]

theorem hid_trans {A B C : World} (h : Hid (Below A.heap.size A B)) (h2 : Below B.heap.size B C) : Hid (Below A.heap.size A C) := h.out.trans (h2.mono h.out.size)
theorem ne_i {x y : Int} (h : ¬ x = y) : (x != y) = true := by simp [h]
theorem eq_i {x y : Int} (h : x = y) : (x != y) = false := by simp [h]

end Go.Proofs.YtgjingleolhkbaaGreatDoor
