/- What package put comes to. -/
import Derived.Test.YtcfdfnghaigkjaaObjMath
import Derived.Test.YtcfdfnghaigkjaaWordPutG
import Derived.Test.YtcfdfnghaigkjaaWordBytes
import Derived.Test.YtcfdfnghaigkjaaWordBackMath
import Derived.Test.YtcfdfnghaigkjaaObjGrow
import Derived.Deep.LoopGhost
namespace Go.Proofs.Ytcfdfnghaigkjaa
open Go.RowKit Go.Maps Go.Lib
set_option linter.unusedVariables false

def nums (s : ByteArray) : List Int := W.tail s 0
theorem strCells_nums (s : ByteArray) : strCells s = (nums s).map (Value.int .u8) := by
  unfold strCells nums W.tail
  simp
theorem nums_len (s : ByteArray) : (nums s).length = s.size := by
  have := congrArg List.length (strCells_nums s)
  rw [strCells_length, List.length_map] at this
  exact this.symm
theorem nums_of {zs : List Int} (h : ∀ n ∈ zs, 0 ≤ n ∧ n ≤ 255) : nums (strOfNums zs) = zs := by
  unfold nums
  rw [W.tail_nums zs h 0, List.drop_zero]
theorem size_of {zs : List Int} (h : ∀ n ∈ zs, 0 ≤ n ∧ n ≤ 255) : (strOfNums zs).size = zs.length := by
  rw [← nums_len, nums_of h]

abbrev RowB (w : World) (B : Nat) (v : Value) (xs : List Int) : Prop := w.ownsRow B 5 1 v xs.length (xs.map (Value.int .u8))

/-- What is written: a text, eight bytes, a symbol, a relocation. -/
def txt (s : ByteArray) : List Int := W.put s.size ++ nums s
def long (n : Int) : List Int := W.bytesV n 8
def symB (s : Sym) : List Int := txt s.name ++ ([s.kind] ++ W.put s.pos)
def relB (r : Rel) : List Int := W.put r.pos ++ ([r.kind] ++ (txt r.name ++ long r.add))

theorem long_len {n : Int} (h : (Lit.int .i64 n).wf = true) : (long n).length = 8 ∧ ∀ x ∈ long n, 0 ≤ x ∧ x ≤ 255 := by
  have hE := (W.num_back n h).1
  unfold long
  unfold W.bytesE at hE
  unfold W.bytesV
  rw [if_pos (by decide)] at hE ⊢
  by_cases c : W.sx 8 n = n
  · rw [if_pos c]
    exact ⟨W.bytesOf_length _ _, W.bytesOf_bd _ _⟩
  · rw [if_neg c] at hE
    cases hE

theorem row_is {w1 : World} {B : Nat} {v' : Value} {ys : List Int} {cs : List Value} {n : Nat} (h : w1.ownsRow B 5 1 v' n cs) (hc : cs = ys.map (Value.int .u8)) : RowB w1 B v' ys := by
  subst hc
  have e : ys.length = n := by simpa using h.1
  subst e
  exact h

set_option maxRecDepth 100000 in
set_option maxHeartbeats 1000000 in
theorem number_any' {w : World} {B : Nat} {v : Value} {xs : List Int} (ho : RowB w B v xs) (hB : B ≤ w.heap.size) (n : Int) (h0 : 0 ≤ n) (h1 : n ≤ 9223372036854775807) (hm : xs.length ≤ 1000000000) :
    Calls Try.prog 56 #[v, .int .i64 n] w fun e w' => ∃ v', e = .returned v' ∧ RowB w' B v' (xs ++ W.put n) ∧ Gr w w' v v' := by
  have HO : Hid _ := ho
  have hpl := W.put_length n
  have HPB : Hid _ := W.put_bd n h0 (by omega)
  clear ho
  go_enter Try.func56, Try.ntmps56
  go_wp2_with fail
  refine (put_any n h0 (by omega) _).mono ?_
  rintro e w1 ⟨rfl, hb1⟩
  have HO1 : Hid (RowB w1 B v xs) := own_kept HO.out hb1
  have hB1 : B ≤ w1.heap.size := Nat.le_trans hB hb1.size
  have G1 : Hid (Gr w w1 v v) := Gr.below v hb1
  have hsz : (strOfNums (W.put n)).size = (W.put n).length := size_of HPB.out
  clear hb1
  go_wp2_with (first | (at_builtin; refine wpList_append_str rfl _ _ rfl rfl HO1.out (strOfNums (W.put n)) rfl (by omega) hB1 ?_) | go_in)
  intro v2 w2 ho2 hg2
  have G2 : Hid (Gr w w2 v v2) := G1.out.trans hg2
  have HO2 : Hid (RowB w2 B v2 (xs ++ W.put n)) := by
    exact row_is ho2 (by rw [strCells_nums, nums_of HPB.out]; simp)
  clear ho2 hg2
  go_wp2
  go_ret
  exact ⟨_, rfl, HO2.out, G2.out⟩

set_option maxRecDepth 100000 in
set_option maxHeartbeats 1000000 in
theorem text_any {w : World} {B : Nat} {v : Value} {xs : List Int} (ho : RowB w B v xs) (hB : B ≤ w.heap.size) (s : ByteArray) (hs : s.size ≤ 1000000000) (hm : xs.length ≤ 500000000) :
    Calls Try.prog 35 #[v, .string s] w fun e w' => ∃ v', e = .returned v' ∧ RowB w' B v' (xs ++ txt s) ∧ Gr w w' v v' := by
  have HO : Hid _ := ho
  have hpl := W.put_length (s.size : Int)
  clear ho
  go_enter Try.func35, Try.ntmps35
  go_wp2_with fail
  refine (number_any' HO.out hB s.size (by omega) (by omega) (by omega)).mono ?_
  rintro e w1 ⟨v1, rfl, ho1, hb1⟩
  have HO1 : Hid _ := ho1
  have hB1 : B ≤ w1.heap.size := Nat.le_trans hB hb1.grown.size
  have hl1 : (xs ++ W.put s.size).length ≤ 500000010 := by rw [List.length_append]; omega
  clear ho1
  go_wp2_with (first | (at_builtin; refine wpList_append_str rfl _ _ rfl rfl HO1.out s rfl (by omega) hB1 ?_) | go_in)
  intro v2 w2 ho2 hg2
  have G2 : Hid (Gr w w2 v v2) := hb1.trans hg2
  have HO2 : Hid (RowB w2 B v2 (xs ++ txt s)) := by
    exact row_is ho2 (by rw [strCells_nums]; simp [txt])
  clear ho2 hg2
  go_wp2
  go_ret
  exact ⟨_, rfl, HO2.out, G2.out⟩

set_option maxRecDepth 100000 in
set_option maxHeartbeats 1000000 in
theorem long_any {w : World} {B : Nat} {v : Value} {xs : List Int} (ho : RowB w B v xs) (hB : B ≤ w.heap.size) (n : Int) (hn : (Lit.int .i64 n).wf = true) (hm : xs.length ≤ 1000000000) :
    Calls Try.prog 37 #[v, .int .i64 n] w fun e w' => ∃ v', e = .returned v' ∧ RowB w' B v' (xs ++ long n) ∧ Gr w w' v v' := by
  have HO : Hid _ := ho
  have HL : Hid _ := long_len hn
  clear ho
  go_enter Try.func37, Try.ntmps37
  go_wp2_with fail
  refine (bytes_any n 8 _).mono ?_
  rintro e w1 ⟨rfl, hb1⟩
  have HO1 : Hid (RowB w1 B v xs) := own_kept HO.out hb1
  have hB1 : B ≤ w1.heap.size := Nat.le_trans hB hb1.size
  have G1 : Hid (Gr w w1 v v) := Gr.below v hb1
  have hsz : (strOfNums (W.bytesV n 8)).size = 8 := (size_of HL.out.2).trans HL.out.1
  clear hb1
  go_wp2_with (first | (at_builtin; refine wpList_append_str rfl _ _ rfl rfl HO1.out (strOfNums (W.bytesV n 8)) rfl (by omega) hB1 ?_) | go_in)
  intro v2 w2 ho2 hg2
  have G2 : Hid (Gr w w2 v v2) := G1.out.trans hg2
  have HO2 : Hid (RowB w2 B v2 (xs ++ long n)) := by
    exact row_is ho2 (by rw [strCells_nums]; have e : nums (strOfNums (W.bytesV n 8)) = long n := nums_of HL.out.2; rw [e]; simp)
  clear ho2 hg2
  go_wp2
  go_ret
  exact ⟨_, rfl, HO2.out, G2.out⟩

end Go.Proofs.Ytcfdfnghaigkjaa
