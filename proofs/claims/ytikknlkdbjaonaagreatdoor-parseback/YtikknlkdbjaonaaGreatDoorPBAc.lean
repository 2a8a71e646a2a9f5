/- What a source begins with. -/
import Derived.Test.YtikknlkdbjaonaaGreatDoorPBAa
import Derived.Test.YtikknlkdbjaonaaGreatDoorPBAb
namespace Go.Proofs.YtikknlkdbjaonaaGreatDoor
open Go.RowKit
set_option linter.unusedVariables false
set_option linter.unusedSimpArgs false

def X.str (l : X.By) : ByteArray := ⟨l.toArray⟩
theorem str_list (l : X.By) : (X.str l).data.toList = l := rfl
theorem str_size (l : X.By) : (X.str l).size = l.length := by simp [X.str, ByteArray.size]
theorem str_eq (s : ByteArray) : X.str s.data.toList = s := by cases s; simp [X.str]
theorem bytes_ext' {a b : ByteArray} (h : a.data.toList = b.data.toList) : a = b := by
  cases a; cases b; simp at h; simp [h]
theorem extract_eq (s : ByteArray) (a b : Nat) : s.extract a b = X.str ((s.data.toList.take b).drop a) := by
  refine bytes_ext' ?_
  rw [str_list]
  rw [ByteArray.data_extract, Array.toList_extract, List.extract_eq_take_drop]
  rw [List.drop_take]
/-- A token's value. -/
def X.tokV (k : Nat) (l : X.By) (n i : Nat) : Value := .agg #[.int .i64 k, .string (X.str l), .int .i64 n, .int .i64 i]

set_option maxHeartbeats 4000000 in
theorem second_any (s : ByteArray) (hs : s.size ≤ maxLen) (w : World) :
    Calls Tryz.prog 47 #[.string s] w fun e w' => e = .returned (.int .u8 (X.first (s.data.toList.drop 1))) ∧ w' = w := by
  unfold maxLen at hs
  by_cases h : s.size < 2
  · have hn : s.data.toList.drop 1 = [] := List.drop_eq_nil_of_le (by simp; omega)
    rw [hn]
    go_enter Tryz.func47, Tryz.ntmps47
    go_wp2
    go_ret
    exact ⟨rfl, rfl⟩
  · have h1 : 1 < s.size := by omega
    have hn := first_drop s 1 h1
    rw [hn]
    clear hn
    go_enter Tryz.func47, Tryz.ntmps47
    go_wp2
    go_ret
    exact ⟨rfl, rfl⟩

set_option maxHeartbeats 4000000 in
theorem cut_any (k : Int) (s : ByteArray) (n : Nat) (hn : n ≤ s.size) (hs : s.size ≤ maxLen) (w : World) :
    Calls Tryz.prog 48 #[.int .i64 k, .string s, .int .i64 n] w fun e w' => e = .returned (.agg #[.int .i64 k, .string (X.str (s.data.toList.take n)), .int .i64 0, .int .i64 0]) ∧ w' = w.alloc (.cells #[.int .i64 k, .string (X.str (s.data.toList.take n)), .int .i64 0, .int .i64 0] 48) := by
  unfold maxLen at hs
  go_enter Tryz.func48, Tryz.ntmps48
  go_wp2
  exact bodyPost_ret (v := .agg #[.int .i64 k, .string (X.str (s.data.toList.take n)), .int .i64 0, .int .i64 0]) (by simp [results, Tryz.results48, go_sem, extract_eq]) rfl ⟨rfl, by rw [extract_eq]; rfl⟩

/-- What comes back. -/
def X.resV (r : Option (Nat × Nat × Nat)) (l : X.By) : Value := match r with
  | none => .agg #[.int .i64 0, .string { data := #[] }, .int .i64 0, .int .i64 0]
  | some (k, n, v) => .agg #[.int .i64 k, .string (X.str (l.take n)), .int .i64 v, .int .i64 0]

theorem below_drew' {B : Nat} {x y : World} (h : Below B x y) (m : Nat) : Below B x (y.drewN m) := ⟨h.os, h.tape, h.output, h.size, h.block⟩

theorem bl1 (w : World) (x : Obj) : Below w.heap.size w (w.alloc x) := (Below.refl _ _).alloc (Nat.le_refl _) _
theorem bl2 (w : World) (x y : Obj) : Below w.heap.size w ((w.alloc x).alloc y) := (bl1 w x).alloc (by simp) _
theorem bl3 (w : World) (x y z : Obj) : Below w.heap.size w (((w.alloc x).alloc y).alloc z) := (bl2 w x y).alloc (by simp; omega) _
theorem bl4 (w : World) (x y z u : Obj) : Below w.heap.size w ((((w.alloc x).alloc y).alloc z).alloc u) := (bl3 w x y z).alloc (by simp; omega) _

set_option maxHeartbeats 4000000 in
theorem noteSize_any (s : ByteArray) (hs : s.size ≤ 20000) (w : World) (ht : Tab w) :
    Calls Tryz.prog 49 #[.string s] w fun e w' => e = .returned (.int .i64 (X.note s.data.toList)) ∧ Below w.heap.size w w' := by
  obtain ⟨m, hm⟩ := ht.ml
  have hc : (Lib.cut s.data.toList [10]).1 = s.data.toList.take (X.note s.data.toList) := X.cut_note _
  have hl : (s.data.toList.take (X.note s.data.toList)).length = X.note s.data.toList := by
    rw [List.length_take]
    exact Nat.min_eq_left (X.span_le _ _)
  go_enter Tryz.func49, Tryz.ntmps49
  go_wp2_with (first | (go_at_call 69; refine (Tryz.strings_Cut s { data := #[10] } m _ (by omega) hm).mono ?_; rintro e w' ⟨rfl, n, rfl⟩))
  go_ret
  exact ⟨ret_i rfl, below_drew' (Below.refl _ _) n⟩

set_option maxRecDepth 100000 in
set_option maxHeartbeats 8000000 in
theorem wordOrName_any (s : ByteArray) (hs : s.size ≤ 20000) (w : World) (ht : Tab w) :
    Calls Tryz.prog 52 #[.string s] w fun e w' => e = .returned (X.resV (X.wordOrName s.data.toList) s.data.toList) ∧ Below w.heap.size w w' := by
  have hm : s.size ≤ maxLen := by unfold maxLen; omega
  have hT := X.takeWhile_eq X.pin s.data.toList
  have hpl : X.span X.pin s.data.toList ≤ s.size := by have := X.span_le X.pin s.data.toList; simpa using this
  have hR : X.wordOrName s.data.toList = if X.isWord (s.data.toList.take (X.span X.pin s.data.toList)) = true then some (3, X.span X.pin s.data.toList, 0) else if X.name (s.data.toList.take (X.span X.pin s.data.toList)) = true then some (2, X.span X.pin s.data.toList, 0) else none := by
    unfold X.wordOrName; rw [hT]
  rw [hR]
  clear hR hT
  have hsp : ∀ w, Calls Tryz.prog 70 #[.string s, .func (.func 72) #[] #[]] w fun e w' => e = .returned (.int .i64 (X.span X.pin s.data.toList)) ∧ w' = w := fun w => spanN_any s hm w
  generalize X.span X.pin s.data.toList = p at *
  have htl : (X.str (s.data.toList.take p)).size ≤ maxLen := by rw [str_size]; simp; unfold maxLen; omega
  have hw := fun w h => isWord_any (X.str (s.data.toList.take p)) w h
  have hn := fun w h => name_any (X.str (s.data.toList.take p)) htl w h
  rw [str_list] at hw hn
  have HT : Hid _ := ht
  clear ht
  cases h1 : X.isWord (s.data.toList.take p)
  · cases h2 : X.name (s.data.toList.take p)
    · go_enter Tryz.func52, Tryz.ntmps52
      go_wp2_with (first | (go_at_call 70; refine (hsp _).mono ?_; rintro e w' ⟨rfl, rfl⟩) | (go_at_call 48; refine (cut_any 2 s p hpl hm _).mono ?_; rintro e w' ⟨rfl, rfl⟩) | (go_at_call 73; refine (hw _ (((HT.out.alloc _).alloc _).alloc _)).mono ?_; rw [h1]; rintro e w' ⟨rfl, rfl⟩) | (go_at_call 74; refine (hn _ (((HT.out.alloc _).alloc _).alloc _)).mono ?_; rw [h2]; rintro e w' ⟨rfl, rfl⟩))
      exact bodyPost_ret (v := X.resV none s.data.toList) (by simp [results, Tryz.results52, go_sem, X.resV]) rfl ⟨rfl, bl3 _ _ _ _⟩
    · go_enter Tryz.func52, Tryz.ntmps52
      go_wp2_with (first | (go_at_call 70; refine (hsp _).mono ?_; rintro e w' ⟨rfl, rfl⟩) | (go_at_call 48; refine (cut_any 2 s p hpl hm _).mono ?_; rintro e w' ⟨rfl, rfl⟩) | (go_at_call 73; refine (hw _ (((HT.out.alloc _).alloc _).alloc _)).mono ?_; rw [h1]; rintro e w' ⟨rfl, rfl⟩) | (go_at_call 74; refine (hn _ (((HT.out.alloc _).alloc _).alloc _)).mono ?_; rw [h2]; rintro e w' ⟨rfl, rfl⟩))
      exact bodyPost_ret (v := X.resV (some (2, p, 0)) s.data.toList) (by simp [results, Tryz.results52, go_sem, X.resV]) rfl ⟨rfl, bl3 _ _ _ _⟩
  · go_enter Tryz.func52, Tryz.ntmps52
    go_wp2_with (first | (go_at_call 70; refine (hsp _).mono ?_; rintro e w' ⟨rfl, rfl⟩) | (go_at_call 48; refine (cut_any 2 s p hpl hm _).mono ?_; rintro e w' ⟨rfl, rfl⟩) | (go_at_call 73; refine (hw _ (((HT.out.alloc _).alloc _).alloc _)).mono ?_; rw [h1]; rintro e w' ⟨rfl, rfl⟩))
    exact bodyPost_ret (v := X.resV (some (3, p, 0)) s.data.toList) (by simp [results, Tryz.results52, go_sem, X.resV]) rfl ⟨rfl, bl3 _ _ _ _⟩

theorem digits_all (l : X.By) : (l.takeWhile X.pd).all X.pd = true := by
  induction l with
  | nil => rfl
  | cons c l ih => cases h : X.pd c <;> simp [h] at *
                   try exact ih
theorem first_take {p : UInt8 → Bool} {l : X.By} (h : 1 ≤ X.span p l) : X.first (l.takeWhile p) = X.first l := by
  cases l with
  | nil => rfl
  | cons c l => cases h' : p c <;> simp [X.span, h'] at h ⊢; rfl

theorem bset4 {B : Nat} {w x : World} (h : Below B w x) {b : Nat} (v0 v1 v2 v3 : Value) (hb : B ≤ b := by first | exact Nat.le_refl _ | omega) : Below B w ((((x.setCell ⟨b, 0, none⟩ v0).setCell ⟨b, 1, none⟩ v1).setCell ⟨b, 2, none⟩ v2).setCell ⟨b, 3, none⟩ v3) := (((h.setCell hb v0).setCell hb v1).setCell hb v2).setCell hb v3
theorem after3 {w w' : World} {a b c : Array Value} {t : TypeId} (hb : Below (((w.alloc (.cells a t)).alloc (.cells b t)).alloc (.cells c t)).heap.size (((w.alloc (.cells a t)).alloc (.cells b t)).alloc (.cells c t)) w') :
    (∀ (o : Nat) u, c[o]? = some u → w'.cell? ⟨w.heap.size + 1 + 1, o, none⟩ = some u) ∧ (∀ o, w'.frozen? ⟨w.heap.size + 1 + 1, o, none⟩ = false) ∧ (∀ (o : Nat) u, a[o]? = some u → w'.cell? ⟨w.heap.size, o, none⟩ = some u) ∧ (∀ o, w'.frozen? ⟨w.heap.size, o, none⟩ = false) ∧ Below w.heap.size w w' := by
  have hz : (((w.alloc (.cells a t)).alloc (.cells b t)).alloc (.cells c t)).heap.size = w.heap.size + 3 := by simp
  refine ⟨fun o u h => ?_, fun o => ?_, fun o u h => ?_, fun o => ?_, ?_⟩
  · rw [hb.cell (p := ⟨w.heap.size + 1 + 1, o, none⟩) (by rw [hz]; show w.heap.size + 1 + 1 < _; omega), World.cell?_alloc_at _ _ _ _ (by simp)]
    exact h
  · rw [hb.frozen (p := ⟨w.heap.size + 1 + 1, o, none⟩) (by rw [hz]; show w.heap.size + 1 + 1 < _; omega), World.frozen?_alloc_at _ _ _ _ (by simp)]
  · have h1 : (w.alloc (.cells a t)).cell? ⟨w.heap.size, o, none⟩ = some u := row_cell h
    rw [hb.cell (p := ⟨w.heap.size, o, none⟩) (by rw [hz]; show w.heap.size < _; omega), (bl2 (w.alloc (.cells a t)) (.cells b t) (.cells c t)).cell (p := ⟨w.heap.size, o, none⟩) (by simp)]
    exact h1
  · rw [hb.frozen (p := ⟨w.heap.size, o, none⟩) (by rw [hz]; show w.heap.size < _; omega), (bl2 (w.alloc (.cells a t)) (.cells b t) (.cells c t)).frozen (p := ⟨w.heap.size, o, none⟩) (by simp), World.frozen?_alloc_at _ _ _ _ rfl]
  · exact (bl3 w _ _ _).trans (hb.mono (by rw [hz]; omega))

set_option maxRecDepth 100000 in
set_option maxHeartbeats 8000000 in
theorem number_any (s : ByteArray) (hs : s.size ≤ 20000) (h0 : 0 < s.size) (hd0 : X.dg s[0].toNat = true) (w : World) (ht : Tab w) :
    Calls Tryz.prog 51 #[.string s] w fun e w' => e = .returned (X.resV (X.number s.data.toList) s.data.toList) ∧ Below w.heap.size w w' := by
  have hm : s.size ≤ maxLen := by unfold maxLen; omega
  have hpos : 1 ≤ X.span X.pd s.data.toList := by
    have := drop_cons s 0 h0
    rw [List.drop_zero] at this
    rw [this]
    exact X.span_pos hd0
  have hT := X.takeWhile_eq X.pd s.data.toList
  have hall := digits_all s.data.toList
  have hfst := (first_take hpos).trans (first_list h0)
  have hlen : (s.data.toList.takeWhile X.pd).length = X.span X.pd s.data.toList := rfl
  have hpl : X.span X.pd s.data.toList ≤ s.size := by have := X.span_le X.pd s.data.toList; simpa using this
  have hR : X.number s.data.toList = if X.numOk (s.data.toList.takeWhile X.pd) = true ∧ X.span X.pin s.data.toList ≤ X.span X.pd s.data.toList then some (1, X.span X.pd s.data.toList, X.numV (s.data.toList.takeWhile X.pd)) else none := rfl
  rw [hR]
  clear hR
  have hsp : ∀ w, Calls Tryz.prog 70 #[.string s, .func (.func 72) #[] #[]] w fun e w' => e = .returned (.int .i64 (X.span X.pin s.data.toList)) ∧ w' = w := fun w => spanN_any s hm w
  have hsd : ∀ w, Calls Tryz.prog 70 #[.string s, .func (.func 50) #[] #[]] w fun e w' => e = .returned (.int .i64 (X.span X.pd s.data.toList)) ∧ w' = w := fun w => spanD_any s hm w
  generalize X.span X.pin s.data.toList = q at *
  generalize X.span X.pd s.data.toList = p at *
  have hcut := cut_any 1 s p hpl hm
  rw [← hT] at hcut
  have hres : ∀ v, X.resV (some (1, p, v)) s.data.toList = .agg #[.int .i64 1, .string (X.str (s.data.toList.takeWhile X.pd)), .int .i64 v, .int .i64 0] := fun v => by rw [hT]; rfl
  generalize s.data.toList.takeWhile X.pd = t at *
  have HT : Hid _ := ht
  clear ht hT
  have hne : t ≠ [] := fun e => by rw [e] at hlen; simp at hlen; omega
  have hparse := X.parse_digits hne hall
  obtain ⟨ev, hev, hev2⟩ := HT.out.er
  have hstr : 0 < (X.str t).size := by rw [str_size]; omega
  have hssz : (X.str t).size = p := by rw [str_size]; exact hlen
  have hidx : (X.str t)[0].toNat = X.first t := (first_list hstr).symm.trans (by rw [str_list])
  have hTL : (X.str t).toList = t := by rw [ByteArray.toList_eq, str_list]
  by_cases h1 : X.numV t < 9223372036854775808
  rotate_left
  · rw [if_neg (by simp [X.numOk, h1])]
    rw [if_neg h1] at hparse
    have hok : ∀ w, (w.cell? ⟨3, 0, none⟩ = some ev) → Calls Tryz.prog 71 #[.string (X.str t), .int .i64 10, .int .i64 64] w fun e w' => ∃ z N, e = .returned (.tuple #[.int .i64 z, .iface 127 (.pointer (some ⟨N, 0, none⟩))]) ∧ Below w.heap.size w w' := fun w hw => (Tryz.strconv_ParseInt_10_at64_range (X.str t) (by rw [str_size]; omega) (by rw [str_list]; exact hparse) ev w hw hev2).mono (by
      rintro e w' ⟨N, rfl, -, -, hb⟩
      exact ⟨_, N, rfl, hb⟩)
    have hz3 : 3 < w.heap.size := HT.out.hz
    have hE : ∀ a b c, (((w.alloc a).alloc b).alloc c).cell? ⟨3, 0, none⟩ = some ev := fun a b c => ((bl3 w a b c).cell (p := ⟨3, 0, none⟩) hz3).trans hev
    go_enter Tryz.func51, Tryz.ntmps51
    go_wp2_with (first | (go_at_call 70; refine (hsd _).mono ?_; rintro e w' ⟨rfl, rfl⟩) | (go_at_call 48; refine (hcut _).mono ?_; rintro e w' ⟨rfl, rfl⟩) | (go_at_call 71; refine (hok _ (hE _ _ _)).mono ?_; rintro e w' ⟨z, N, rfl, HB⟩))
    obtain ⟨hx, hxf, hy, hyf, hB0⟩ := after3 HB
    have HBL : Hid _ := hB0
    have x0 := hx 0 _ rfl
    have x1 := hx 1 _ rfl
    have x2 := hx 2 _ rfl
    have x3 := hx 3 _ rfl
    have y0 := hy 0 _ rfl
    have y1 := hy 1 _ rfl
    have y2 := hy 2 _ rfl
    have y3 := hy 3 _ rfl
    have f0 := hxf 0
    have f1 := hxf 1
    have f2 := hxf 2
    have f3 := hxf 3
    have g0 := hyf 0
    have g1 := hyf 1
    have g2 := hyf 2
    have g3 := hyf 3
    clear HB hx hxf hy hyf hB0
    go_quiet ((go_at_call 70; exact Calls.quiet_of_same (hsp _)))
    go_wp2
    exact bodyPost_ret (v := X.resV none s.data.toList) (by simp [results, Tryz.results51, go_sem, X.resV, *]) rfl ⟨rfl, bset4 (below_drew' HBL.out _) _ _ _ _⟩

  rw [if_pos h1] at hparse
  have hok : ∀ w, Calls Tryz.prog 71 #[.string (X.str t), .int .i64 10, .int .i64 64] w fun e w' => e = .returned (.tuple #[.int .i64 (X.numV t), .nilIface]) ∧ Below w.heap.size w w' := fun w => (Tryz.strconv_ParseInt_10_at64_ok (X.str t) (by rw [str_size]; omega) (X.numV t) (by rw [str_list]; exact hparse) w).mono (by
    rintro e w' ⟨rfl, rfl | ⟨t, rfl⟩⟩
    · exact ⟨rfl, Below.refl _ _⟩
    · exact ⟨rfl, Lib.bytesWorld_below _ _ _⟩)
  by_cases h2 : t = [48]
  · have ht0 : ((X.str t).toList == [48]) = true := by rw [hTL, h2]; rfl
    by_cases h4 : q ≤ p
    · rw [if_pos ⟨by simp [X.numOk, h1]; exact .inl h2, h4⟩, hres]
      clear h2 hidx hTL
      go_enter Tryz.func51, Tryz.ntmps51
      go_wp2_with (first | (go_at_call 70; refine (hsd _).mono ?_; rintro e w' ⟨rfl, rfl⟩) | (go_at_call 48; refine (hcut _).mono ?_; rintro e w' ⟨rfl, rfl⟩) | (go_at_call 71; refine (hok _).mono ?_; rintro e w' ⟨rfl, HB⟩))
      obtain ⟨hx, hxf, hy, hyf, hB0⟩ := after3 HB
      have HBL : Hid _ := hB0
      have x0 := hx 0 _ rfl
      have x1 := hx 1 _ rfl
      have x2 := hx 2 _ rfl
      have x3 := hx 3 _ rfl
      have y0 := hy 0 _ rfl
      have y1 := hy 1 _ rfl
      have y2 := hy 2 _ rfl
      have y3 := hy 3 _ rfl
      have f0 := hxf 0
      have f1 := hxf 1
      have f2 := hxf 2
      have f3 := hxf 3
      have g0 := hyf 0
      have g1 := hyf 1
      have g2 := hyf 2
      have g3 := hyf 3
      clear HB hx hxf hy hyf hB0
      go_quiet ((go_at_call 70; exact Calls.quiet_of_same (hsp _)))
      go_wp2
      exact bodyPost_ret (v := .agg #[.int .i64 1, .string (X.str t), .int .i64 (X.numV t), .int .i64 0]) (by simp [results, Tryz.results51, go_sem, X.resV, *]) rfl ⟨rfl, bset4 ((below_drew' HBL.out _).setCell (by simp; omega) _) _ _ _ _⟩
    · rw [if_neg (by omega)]
      clear h2 hidx hTL
      go_enter Tryz.func51, Tryz.ntmps51
      go_wp2_with (first | (go_at_call 70; refine (hsd _).mono ?_; rintro e w' ⟨rfl, rfl⟩) | (go_at_call 48; refine (hcut _).mono ?_; rintro e w' ⟨rfl, rfl⟩) | (go_at_call 71; refine (hok _).mono ?_; rintro e w' ⟨rfl, HB⟩))
      obtain ⟨hx, hxf, hy, hyf, hB0⟩ := after3 HB
      have HBL : Hid _ := hB0
      have x0 := hx 0 _ rfl
      have x1 := hx 1 _ rfl
      have x2 := hx 2 _ rfl
      have x3 := hx 3 _ rfl
      have y0 := hy 0 _ rfl
      have y1 := hy 1 _ rfl
      have y2 := hy 2 _ rfl
      have y3 := hy 3 _ rfl
      have f0 := hxf 0
      have f1 := hxf 1
      have f2 := hxf 2
      have f3 := hxf 3
      have g0 := hyf 0
      have g1 := hyf 1
      have g2 := hyf 2
      have g3 := hyf 3
      clear HB hx hxf hy hyf hB0
      go_quiet ((go_at_call 70; exact Calls.quiet_of_same (hsp _)))
      go_wp2
      exact bodyPost_ret (v := X.resV none s.data.toList) (by simp [results, Tryz.results51, go_sem, X.resV, *]) rfl ⟨rfl, bset4 (below_drew' HBL.out _) _ _ _ _⟩
  have ht0 : ((X.str t).toList == [48]) = false := by rw [hTL]; exact beq_eq_false_iff_ne.2 h2
  by_cases h3 : X.first t = 48
  · rw [if_neg (by simp [X.numOk, h2, h3])]
    have hi0 : (X.str t)[0].toNat = 48 := hidx.trans h3
    clear h2 hidx hTL
    go_enter Tryz.func51, Tryz.ntmps51
    go_wp2_with (first | (go_at_call 70; refine (hsd _).mono ?_; rintro e w' ⟨rfl, rfl⟩) | (go_at_call 48; refine (hcut _).mono ?_; rintro e w' ⟨rfl, rfl⟩) | (go_at_call 71; refine (hok _).mono ?_; rintro e w' ⟨rfl, HB⟩))
    obtain ⟨hx, hxf, hy, hyf, hB0⟩ := after3 HB
    have HBL : Hid _ := hB0
    have x0 := hx 0 _ rfl
    have x1 := hx 1 _ rfl
    have x2 := hx 2 _ rfl
    have x3 := hx 3 _ rfl
    have y0 := hy 0 _ rfl
    have y1 := hy 1 _ rfl
    have y2 := hy 2 _ rfl
    have y3 := hy 3 _ rfl
    have f0 := hxf 0
    have f1 := hxf 1
    have f2 := hxf 2
    have f3 := hxf 3
    have g0 := hyf 0
    have g1 := hyf 1
    have g2 := hyf 2
    have g3 := hyf 3
    clear HB hx hxf hy hyf hB0
    go_quiet ((go_at_call 70; exact Calls.quiet_of_same (hsp _)))
    go_wp2
    exact bodyPost_ret (v := X.resV none s.data.toList) (by simp [results, Tryz.results51, go_sem, X.resV, *]) rfl ⟨rfl, bset4 (below_drew' HBL.out _) _ _ _ _⟩
  obtain ⟨c, hcb⟩ : ∃ c : Nat, (X.str t)[0].toNat = c := ⟨_, rfl⟩
  have hi0 : ((c : Int) == 48) = false := by rw [← hcb, hidx]; simp; omega
  by_cases h4 : q ≤ p
  · rw [if_pos ⟨by simp [X.numOk, h1, h3], h4⟩, hres]
    clear h2 hidx hTL
    go_enter Tryz.func51, Tryz.ntmps51
    go_wp2_with (first | (go_at_call 70; refine (hsd _).mono ?_; rintro e w' ⟨rfl, rfl⟩) | (go_at_call 48; refine (hcut _).mono ?_; rintro e w' ⟨rfl, rfl⟩) | (go_at_call 71; refine (hok _).mono ?_; rintro e w' ⟨rfl, HB⟩))
    obtain ⟨hx, hxf, hy, hyf, hB0⟩ := after3 HB
    have HBL : Hid _ := hB0
    have x0 := hx 0 _ rfl
    have x1 := hx 1 _ rfl
    have x2 := hx 2 _ rfl
    have x3 := hx 3 _ rfl
    have y0 := hy 0 _ rfl
    have y1 := hy 1 _ rfl
    have y2 := hy 2 _ rfl
    have y3 := hy 3 _ rfl
    have f0 := hxf 0
    have f1 := hxf 1
    have f2 := hxf 2
    have f3 := hxf 3
    have g0 := hyf 0
    have g1 := hyf 1
    have g2 := hyf 2
    have g3 := hyf 3
    clear HB hx hxf hy hyf hB0
    go_quiet ((go_at_call 70; exact Calls.quiet_of_same (hsp _)))
    go_wp2
    exact bodyPost_ret (v := .agg #[.int .i64 1, .string (X.str t), .int .i64 (X.numV t), .int .i64 0]) (by simp [results, Tryz.results51, go_sem, X.resV, *]) rfl ⟨rfl, bset4 ((below_drew' HBL.out _).setCell (by simp; omega) _) _ _ _ _⟩
  · rw [if_neg (by omega)]
    clear h2 hidx hTL
    go_enter Tryz.func51, Tryz.ntmps51
    go_wp2_with (first | (go_at_call 70; refine (hsd _).mono ?_; rintro e w' ⟨rfl, rfl⟩) | (go_at_call 48; refine (hcut _).mono ?_; rintro e w' ⟨rfl, rfl⟩) | (go_at_call 71; refine (hok _).mono ?_; rintro e w' ⟨rfl, HB⟩))
    obtain ⟨hx, hxf, hy, hyf, hB0⟩ := after3 HB
    have HBL : Hid _ := hB0
    have x0 := hx 0 _ rfl
    have x1 := hx 1 _ rfl
    have x2 := hx 2 _ rfl
    have x3 := hx 3 _ rfl
    have y0 := hy 0 _ rfl
    have y1 := hy 1 _ rfl
    have y2 := hy 2 _ rfl
    have y3 := hy 3 _ rfl
    have f0 := hxf 0
    have f1 := hxf 1
    have f2 := hxf 2
    have f3 := hxf 3
    have g0 := hyf 0
    have g1 := hyf 1
    have g2 := hyf 2
    have g3 := hyf 3
    clear HB hx hxf hy hyf hB0
    go_quiet ((go_at_call 70; exact Calls.quiet_of_same (hsp _)))
    go_wp2
    exact bodyPost_ret (v := X.resV none s.data.toList) (by simp [results, Tryz.results51, go_sem, X.resV, *]) rfl ⟨rfl, bset4 (below_drew' HBL.out _) _ _ _ _⟩

end Go.Proofs.YtikknlkdbjaonaaGreatDoor
