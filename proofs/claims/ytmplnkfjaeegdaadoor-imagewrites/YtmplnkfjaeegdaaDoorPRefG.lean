/- What stands in a text, image by image: both ways, no program in sight. -/
import Derived.Test.YtmplnkfjaeegdaaDoorPImB
import Derived.Test.YtmplnkfjaeegdaaDoorPRefF
import Derived.Deep.LoopGhost
namespace Go.Proofs.YtmplnkfjaeegdaaDoor
set_option maxRecDepth 100000
open Go.RowKit Go.Maps Go.Lib
set_option linter.unusedVariables false
set_option linter.unusedSimpArgs false

/-- What the document reads of a text, ahead of its last look. -/
def rdFrontI (s : ByteArray) : Option (ImgD × Nat) := match rdTake s 0 4 with
  | some (t, i0) => if t = img1 then match rdUp s i0 65536 with
    | some (n1, i1) => match rdTake s i1 n1.toNat with
      | some (code, i2) => match rdUp s i2 4096 with
        | some (n2, i3) => match rdMany rdLong n2.toNat s i3 with
          | some (data, i4) => match rdUp s i4 1000 with
            | some (n3, i5) => match rdMany rdSym n3.toNat s i5 with
              | some (syms, i6) => some (⟨code, data, syms⟩, i6)
              | none => none
            | none => none
          | none => none
        | none => none
      | none => none
    | none => none else none
  | none => none
theorem nums_img1 : nums img1 = [73, 77, 71, 49] := by decide
theorem front_sound {s : ByteArray} {m : ImgD} {j : Nat} (h : rdFrontI s = some (m, j)) : j ≤ s.size ∧ nums s = formI m ++ W.tail s j ∧ ObjIn m.obj := by
  unfold rdFrontI at h
  split at h
  · next t i0 h0 =>
    split at h
    · next ht =>
      split at h
      · next n1 i1 h1 =>
        split at h
        · next code i2 h2 =>
          split at h
          · next n2 i3 h3 =>
            split at h
            · next data i4 h4 =>
              split at h
              · next n3 i5 h5 =>
                split at h
                · next syms i6 h6 =>
                  simp at h
                  obtain ⟨rfl, rfl⟩ := h
                  obtain ⟨-, q0, p0, -⟩ := take_sound 4 s 0 t i0 (Nat.zero_le _) h0
                  obtain ⟨-, q1, p1, k1⟩ := up_sound 65536 s i0 n1 i1 q0 h1
                  obtain ⟨-, q2, p2, k2⟩ := take_sound n1.toNat s i1 code i2 q1 h2
                  obtain ⟨-, q3, p3, k3⟩ := up_sound 4096 s i2 n2 i3 q2 h3
                  obtain ⟨-, q4, p4, k4, l4⟩ := many_sound long_sound n2.toNat s i3 data i4 q3 h4
                  obtain ⟨-, q5, p5, k5⟩ := up_sound 1000 s i4 n3 i5 q4 h5
                  obtain ⟨-, q6, p6, k6, l6⟩ := many_sound sym_sound n3.toNat s i5 syms i6 q5 h6
                  have e1 : n1 = code.size := by omega
                  have e2 : n2 = data.length := by omega
                  have e3 : n3 = syms.length := by omega
                  refine ⟨q6, ?_, by show code.size ≤ _; omega, ⟨by show data.length ≤ _; omega, l4⟩, ⟨by show syms.length ≤ _; omega, l6⟩, ⟨by show ([] : List Rel).length ≤ _; decide, by simp [ImgD.obj]⟩⟩
                  show W.tail s 0 = _
                  rw [p0, p1, p2, p3, p4, p5, p6, ht, nums_img1, e1, e2, e3]
                  simp only [formI, txt, List.append_assoc]
                · cases h
              · cases h
            · cases h
          · cases h
        · cases h
      · cases h
    · cases h
  · cases h
theorem front_compl {s : ByteArray} {o : ImgD} {r : List Int} (ho : ObjIn o.obj) (h : nums s = formI o ++ r) : rdFrontI s = some (o, (formI o).length) := by
  obtain ⟨c1, ⟨c2, d2⟩, ⟨c3, d3⟩, -⟩ := ho
  have c1 : o.code.size ≤ 65536 := c1
  have c2 : o.data.length ≤ 4096 := c2
  have d2 : ∀ x ∈ o.data, (Lit.int .i64 x).wf = true := d2
  have c3 : o.syms.length ≤ 1000 := c3
  have d3 : ∀ x ∈ o.syms, SymIn x := d3
  have h' : W.tail s 0 = nums img1 ++ (W.put o.code.size ++ (nums o.code ++ (W.put o.data.length ++ (o.data.flatMap long ++ (W.put o.syms.length ++ (o.syms.flatMap symB ++ r)))))) := by
    rw [show W.tail s 0 = nums s from rfl, h, nums_img1]
    simp only [formI, txt, List.append_assoc]
  have e0 := take_compl 4 s 0 img1 _ (Nat.zero_le _) (by decide) h'
  obtain ⟨t0, u0⟩ := tail_step (Nat.zero_le _) h'
  have e1 := up_compl 65536 (by decide) s _ o.code.size _ t0 (by omega) u0
  obtain ⟨t1, u1⟩ := tail_step t0 u0
  have e2 := take_compl o.code.size s _ o.code _ t1 rfl u1
  obtain ⟨t2, u2⟩ := tail_step t1 u1
  have e3 := up_compl 4096 (by decide) s _ o.data.length _ t2 (by omega) u2
  obtain ⟨t3, u3⟩ := tail_step t2 u2
  have e4 := many_compl long_compl o.data.length s _ o.data _ t3 ⟨rfl, d2⟩ u3
  obtain ⟨t4, u4⟩ := tail_step t3 u3
  have e5 := up_compl 1000 (by decide) s _ o.syms.length _ t4 (by omega) u4
  obtain ⟨t5, u5⟩ := tail_step t4 u4
  have e6 := many_compl sym_compl o.syms.length s _ o.syms _ t5 ⟨rfl, d3⟩ u5
  dsimp only at e0 e1 e2 e3 e5
  simp only [rdFrontI, e0, e1, if_true, Int.toNat_natCast, e2, e3, e4, e5, e6]
  refine congrArg (fun k => some (o, k)) ?_
  rw [nums_img1]
  simp only [formI, txt, List.length_append, List.length_cons, List.length_nil]
  omega
/-- What the document reads. -/
def rdDoc (s : ByteArray) : Option ImgD := match rdFrontI s with
  | some (m, j) => if j = s.size ∧ m.may = true then some m else none
  | none => none
theorem rdDoc_eq (s : ByteArray) : rdDoc s = rdImg s := by
  have up : ∀ m, rdImg s = some m → rdDoc s = some m := by
    intro m h
    obtain ⟨h1, h2, h3⟩ := wrI_rd h
    have hn : nums s = formI m := by rw [← h1]; exact nums_of (body_bd h3)
    have hf := front_compl h3 (r := []) (by rw [hn]; simp)
    have hl : (formI m).length = s.size := by rw [← hn]; exact nums_len s
    unfold rdDoc
    rw [hf]
    simp only
    rw [if_pos ⟨hl, h2⟩]
  have down : ∀ m, rdDoc s = some m → rdImg s = some m := by
    intro m h
    unfold rdDoc at h
    cases hf : rdFrontI s with
    | none => rw [hf] at h; simp at h
    | some p =>
      obtain ⟨m', j⟩ := p
      rw [hf] at h
      simp only at h
      split at h
      · next hc =>
        injection h with h
        subst h
        obtain ⟨h1, h2, h3⟩ := front_sound hf
        have ht : W.tail s j = [] := by
          have : (W.tail s j).length = s.size - j := by simp [W.tail]
          exact List.eq_nil_of_length_eq_zero (by rw [this, hc.1]; omega)
        rw [ht, List.append_nil] at h2
        have : s = strOfNums (formI m') := by rw [← h2]; exact (str_nums s).symm
        rw [this]
        exact rd_wrI h3 hc.2
      · cases h
  cases h : rdImg s with
  | some m => exact up m h
  | none =>
    cases h' : rdDoc s with
    | none => rfl
    | some m => rw [down m h'] at h; cases h
end Go.Proofs.YtmplnkfjaeegdaaDoor

/- What the document's Front comes to, where the mark is an image's. (Written by gen_imfront.py.) -/
namespace Go.Proofs.YtmplnkfjaeegdaaDoor
set_option maxRecDepth 100000
open Go.RowKit Go.Maps Go.Lib
set_option linter.unusedVariables false

theorem himgm : ((⟨#[73, 77, 71, 49]⟩ : ByteArray) = img1) = True := eq_true rfl
def FrontIs (s code : ByteArray) (data : List Int) (syms : List Sym) (j6 : Nat) : Prop := ∃ (j0 n1 j1 j2 n3 j3 j4 n5 j5 : Nat), rdTake s 0 4 = some (img1, j0) ∧ rdUp s j0 65536 = some ((n1 : Int), j1) ∧ rdTake s j1 n1 = some (code, j2) ∧ rdUp s j2 4096 = some ((n3 : Int), j3) ∧ rdMany rdLong n3 s j3 = some (data, j4) ∧ rdUp s j4 1000 = some ((n5 : Int), j5) ∧ rdMany rdSym n5 s j5 = some (syms, j6)
def FrontGood (w : World) (br : Nat) (s : ByteArray) (e : Ending) (w' : World) : Prop := ∃ code data syms j v1 v2, FrontIs s code data syms j ∧ e = .returned (.tuple #[.string code, v1, v2]) ∧ FS w w.heap.size w' br s j false [⟨2, 1, v1, data.length, data.flatMap intC⟩, ⟨66, 3, v2, syms.length, syms.flatMap symC⟩] []
def FrontBad (w : World) (br : Nat) (s : ByteArray) (e : Ending) (w' : World) : Prop := rdFrontI s = none ∧ ∃ c a1 l1 c1 a2 l2 c2, e = .returned (.tuple #[.string c, .slice a1 l1 c1, .slice a2 l2 c2]) ∧ (∃ j, RX w' br s j true) ∧ w.grownBy w' (some br)
def L1 (w wq : World) (br : Nat) (s : ByteArray) (j3 k : Nat) (dv : Value) : Prop := ∃ l j, rdMany rdLong k s j3 = some (l, j) ∧ FS w w.heap.size wq br s j false [⟨2, 1, dv, k, l.flatMap intC⟩, ⟨66, 3, .slice none 0 0, 0, []⟩] []
def L2 (w wq : World) (br : Nat) (s : ByteArray) (j5 k : Nat) (u1 : Value) (data : List Int) (dv : Value) : Prop := ∃ l j, rdMany rdSym k s j5 = some (l, j) ∧ FS w w.heap.size wq br s j false [⟨2, 1, u1, data.length, data.flatMap intC⟩, ⟨66, 3, dv, k, l.flatMap symC⟩] []
def LB (w wq : World) (br : Nat) (s : ByteArray) (dv : Value) : Prop := rdFrontI s = none ∧ (∃ a l c, dv = .slice a l c) ∧ (∃ j, RX wq br s j true) ∧ w.grownBy wq (some br)
theorem FS.bad {w x : World} {B br : Nat} {s : ByteArray} {i : Nat} {rs : List Row} {bs : List (Nat × List Value)} (h : FS w B x br s i true rs bs) (hn : rdFrontI s = none) {g n cap : Nat} : LB w x br s (.slice (some ⟨g, 0, none⟩) n cap) := ⟨hn, ⟨_, _, _, rfl⟩, ⟨_, h.rd⟩, h.g⟩

set_option maxRecDepth 100000 in
set_option maxHeartbeats 16000000 in
theorem front_any {w : World} {br : Nat} {s : ByteArray} (h : RX w br s 0 false) :
    Calls Tryd.prog 35 #[.pointer (some ⟨br, 0, none⟩), .string { data := #[73, 77, 71, 49] }] w fun e w' => FrontGood w br s e w' ∨ FrontBad w br s e w' := by
  have hbr := h.lt
  obtain ⟨i1, hi1, hz10, hz11, hz12⟩ := info_parts infoI
  obtain ⟨i2, hi2, hz20, hz21, hz22⟩ := info_parts infoS
  have HS : Hid (FS w w.heap.size w br s 0 false [⟨2, 1, .slice none 0 0, 0, []⟩, ⟨66, 3, .slice none 0 0, 0, []⟩] []) := by
    have own : ∀ (k : Nat) (r : Row), ([⟨2, 1, .slice none 0 0, 0, []⟩, ⟨66, 3, .slice none 0 0, 0, []⟩] : List Row)[k]? = some r → r.v = .slice none 0 0 ∧ r.n = 0 ∧ r.cs = [] := fun k r hk => by
      match k, hk with
      | 0, hk => cases hk; exact ⟨rfl, rfl, rfl⟩
      | 1, hk => cases hk; exact ⟨rfl, rfl, rfl⟩
      | k + 2, hk => simp at hk
    refine { rd := h, g := gb_refl _ _, own := fun k r hk => ?_, dis := fun k l r q hr hq hkl b hb => ?_, box := fun m p hp => (by simp at hp), far := fun m k p r hp => (by simp at hp), nd := fun m l p q hp => (by simp at hp), lt := hbr, Bx := Nat.le_refl _, wB := Nat.le_refl _ }
    · obtain ⟨h1, h2, h3⟩ := own k r hk
      rw [h1, h2, h3]
      exact World.ownsRow_nil _ _ _ _
    · obtain ⟨h1, -⟩ := own k r hr
      rw [h1] at hb
      simp [Value.ownBlock] at hb
  clear h
  go_enter Tryd.func35, Tryd.ntmps35
  go_wp2_with fail
  refine (xbytes_any HS.out.rd 4 (by decide)).mono ?_
  rintro e y ⟨⟨t, j0, hf, rfl, hr⟩ | ⟨hf, rfl, j, hr⟩, hg⟩
  rotate_left
  · have HNB : Hid (rdFrontI s = none) := by show _ = _; simp only [rdFrontI, hf]
    have q2 := hr.c2
    have z2 := hr.fz 2
    have HB : Hid _ := hr.spoil
    have HG : Hid _ := gb_then (r := none) (grown_trans HS.out.g hg) 2 (.bool true)
    obtain ⟨Y, hY⟩ : ∃ Y, y.setCell ⟨br, 2, none⟩ (.bool true) = Y := ⟨_, rfl⟩
    rw [hY] at HB HG
    clear hf hr hg
    go_wp2_with fail
    clear q2 z2 hY
    refine (xnum_bad HB.out 65536 (by decide)).mono ?_
    rintro e y' ⟨rfl, hr, hg⟩
    have HB : Hid _ := hr
    have HG : Hid _ := grown_trans HG.out hg
    clear hr hg
    go_wp2_with fail
    refine (xbytes_bad HB.out 0).mono ?_
    rintro e y' ⟨rfl, hr, hg⟩
    have HB : Hid _ := hr
    have HG : Hid _ := grown_trans HG.out hg
    clear hr hg
    go_wp2_with fail
    refine (xnum_bad HB.out 4096 (by decide)).mono ?_
    rintro e y' ⟨rfl, hr, hg⟩
    have HB : Hid _ := hr
    have HG : Hid _ := grown_trans HG.out hg
    clear hr hg
    go_wp2_with fail
    refine wp_loop_rounds 1 ?_
    rw [rounds_succ]
    go_wp2_with fail
    refine (xnum_bad HB.out 1000 (by decide)).mono ?_
    rintro e y' ⟨rfl, hr, hg⟩
    have HB : Hid _ := hr
    have HG : Hid _ := grown_trans HG.out hg
    clear hr hg
    go_wp2_with fail
    refine wp_loop_rounds 1 ?_
    rw [rounds_succ]
    go_wp2_with fail
    go_ret3
    exact .inr ⟨HNB.out, _, _, _, _, _, _, _, rfl, ⟨_, HB.out⟩, HG.out⟩
  have F0 : Hid _ := hf
  by_cases ht : t = { data := #[73, 77, 71, 49] }
  rotate_left
  · have HNB : Hid (rdFrontI s = none) := by show _ = _; simp only [rdFrontI, F0.out]; rw [if_neg (show ¬ t = img1 from ht)]
    have hd : (t.toList == [73, 77, 71, 49]) = false := by rw [ByteArray.toList_eq]; exact beq_eq_false_iff_ne.2 (fun e => ht (bytes_ext e))
    have q2 := hr.c2
    have z2 := hr.fz 2
    have HB : Hid _ := hr.spoil
    have HG : Hid _ := gb_then (r := none) (grown_trans HS.out.g hg) 2 (.bool true)
    obtain ⟨Y, hY⟩ : ∃ Y, y.setCell ⟨br, 2, none⟩ (.bool true) = Y := ⟨_, rfl⟩
    rw [hY] at HB HG
    clear hf hr hg
    go_wp2_with fail
    clear q2 z2 hY
    refine (xnum_bad HB.out 65536 (by decide)).mono ?_
    rintro e y' ⟨rfl, hr, hg⟩
    have HB : Hid _ := hr
    have HG : Hid _ := grown_trans HG.out hg
    clear hr hg
    go_wp2_with fail
    refine (xbytes_bad HB.out 0).mono ?_
    rintro e y' ⟨rfl, hr, hg⟩
    have HB : Hid _ := hr
    have HG : Hid _ := grown_trans HG.out hg
    clear hr hg
    go_wp2_with fail
    refine (xnum_bad HB.out 4096 (by decide)).mono ?_
    rintro e y' ⟨rfl, hr, hg⟩
    have HB : Hid _ := hr
    have HG : Hid _ := grown_trans HG.out hg
    clear hr hg
    go_wp2_with fail
    refine wp_loop_rounds 1 ?_
    rw [rounds_succ]
    go_wp2_with fail
    refine (xnum_bad HB.out 1000 (by decide)).mono ?_
    rintro e y' ⟨rfl, hr, hg⟩
    have HB : Hid _ := hr
    have HG : Hid _ := grown_trans HG.out hg
    clear hr hg
    go_wp2_with fail
    refine wp_loop_rounds 1 ?_
    rw [rounds_succ]
    go_wp2_with fail
    go_ret3
    exact .inr ⟨HNB.out, _, _, _, _, _, _, _, rfl, ⟨_, HB.out⟩, HG.out⟩
  subst ht
  have HS : Hid _ := HS.out.call hr hg
  clear hf hr hg
  go_wp2_with fail
  refine (xnum_any HS.out.rd 65536 (by decide)).mono ?_
  rintro e y ⟨⟨x, j1, hf, rfl, hr⟩ | ⟨hf, rfl, j', hr⟩, hg⟩
  rotate_left
  · have HNB : Hid (rdFrontI s = none) := by show _ = _; simp only [rdFrontI, himgm, if_true, F0.out, hf]
    have HB : Hid _ := hr
    have HG : Hid _ := grown_trans HS.out.g hg
    clear hf hr hg
    go_wp2_with fail
    refine (xbytes_bad HB.out 0).mono ?_
    rintro e y' ⟨rfl, hr, hg⟩
    have HB : Hid _ := hr
    have HG : Hid _ := grown_trans HG.out hg
    clear hr hg
    go_wp2_with fail
    refine (xnum_bad HB.out 4096 (by decide)).mono ?_
    rintro e y' ⟨rfl, hr, hg⟩
    have HB : Hid _ := hr
    have HG : Hid _ := grown_trans HG.out hg
    clear hr hg
    go_wp2_with fail
    refine wp_loop_rounds 1 ?_
    rw [rounds_succ]
    go_wp2_with fail
    refine (xnum_bad HB.out 1000 (by decide)).mono ?_
    rintro e y' ⟨rfl, hr, hg⟩
    have HB : Hid _ := hr
    have HG : Hid _ := grown_trans HG.out hg
    clear hr hg
    go_wp2_with fail
    refine wp_loop_rounds 1 ?_
    rw [rounds_succ]
    go_wp2_with fail
    go_ret3
    exact .inr ⟨HNB.out, _, _, _, _, _, _, _, rfl, ⟨_, HB.out⟩, HG.out⟩
  obtain ⟨hx0, hx1⟩ := rdUp_nonneg hf
  obtain ⟨n1, rfl⟩ : ∃ n : Nat, x = n := ⟨x.toNat, by omega⟩
  have hn1 : n1 ≤ 65536 := by omega
  have F1 : Hid (rdUp s j0 65536 = some ((n1 : Int), j1)) := hf
  have HS : Hid _ := HS.out.call hr hg
  clear hf hr hg hx0 hx1
  go_wp2_with fail
  refine (xbytes_any HS.out.rd n1 (by omega)).mono ?_
  rintro e y ⟨⟨code, j2, hf, rfl, hr⟩ | ⟨hf, rfl, j', hr⟩, hg⟩
  rotate_left
  · have HNB : Hid (rdFrontI s = none) := by show _ = _; simp only [rdFrontI, himgm, if_true, Int.toNat_natCast, F0.out, F1.out, hf]
    have HB : Hid _ := hr
    have HG : Hid _ := grown_trans HS.out.g hg
    clear hf hr hg
    go_wp2_with fail
    refine (xnum_bad HB.out 4096 (by decide)).mono ?_
    rintro e y' ⟨rfl, hr, hg⟩
    have HB : Hid _ := hr
    have HG : Hid _ := grown_trans HG.out hg
    clear hr hg
    go_wp2_with fail
    refine wp_loop_rounds 1 ?_
    rw [rounds_succ]
    go_wp2_with fail
    refine (xnum_bad HB.out 1000 (by decide)).mono ?_
    rintro e y' ⟨rfl, hr, hg⟩
    have HB : Hid _ := hr
    have HG : Hid _ := grown_trans HG.out hg
    clear hr hg
    go_wp2_with fail
    refine wp_loop_rounds 1 ?_
    rw [rounds_succ]
    go_wp2_with fail
    go_ret3
    exact .inr ⟨HNB.out, _, _, _, _, _, _, _, rfl, ⟨_, HB.out⟩, HG.out⟩
  have F2 : Hid _ := hf
  have HS : Hid _ := HS.out.call hr hg
  clear hf hr hg
  go_wp2_with fail
  refine (xnum_any HS.out.rd 4096 (by decide)).mono ?_
  rintro e y ⟨⟨x, j3, hf, rfl, hr⟩ | ⟨hf, rfl, j', hr⟩, hg⟩
  rotate_left
  · have HNB : Hid (rdFrontI s = none) := by show _ = _; simp only [rdFrontI, himgm, if_true, Int.toNat_natCast, F0.out, F1.out, F2.out, hf]
    have HB : Hid _ := hr
    have HG : Hid _ := grown_trans HS.out.g hg
    clear hf hr hg
    go_wp2_with fail
    refine wp_loop_rounds 1 ?_
    rw [rounds_succ]
    go_wp2_with fail
    refine (xnum_bad HB.out 1000 (by decide)).mono ?_
    rintro e y' ⟨rfl, hr, hg⟩
    have HB : Hid _ := hr
    have HG : Hid _ := grown_trans HG.out hg
    clear hr hg
    go_wp2_with fail
    refine wp_loop_rounds 1 ?_
    rw [rounds_succ]
    go_wp2_with fail
    go_ret3
    exact .inr ⟨HNB.out, _, _, _, _, _, _, _, rfl, ⟨_, HB.out⟩, HG.out⟩
  obtain ⟨hx0, hx1⟩ := rdUp_nonneg hf
  obtain ⟨n3, rfl⟩ : ∃ n : Nat, x = n := ⟨x.toNat, by omega⟩
  have hn3 : n3 ≤ 4096 := by omega
  have F3 : Hid (rdUp s j2 4096 = some ((n3 : Int), j3)) := hf
  have HS : Hid _ := HS.out.call hr hg
  clear hf hr hg hx0 hx1
  go_wp2_with fail
  go_loopg [9, 10] n3 (fun r dv iv wq => ∃ (k : Nat), iv = .int .i64 k ∧ k ≤ n3 ∧ n3 - k ≤ r ∧ Hid (L1 w wq br s j3 k dv ∨ LB w wq br s dv))
  case atStart => exact ⟨0, rfl, Nat.zero_le _, by omega, Or.inl ⟨[], j3, rfl, HS.out⟩⟩
  case round =>
    obtain ⟨k, rfl, hk, hr, HL⟩ := hrel
    rcases HL.out with ⟨l, j, hl, hs⟩ | ⟨hnb, ⟨a, l, c, rfl⟩, ⟨j, hb⟩, hg⟩
    rotate_left
    · have HNB : Hid _ := hnb
      have HB : Hid _ := hb
      have HG : Hid _ := hg
      have q2 := hb.c2
      clear hnb hb hg HL
      by_cases hlt : k < n3
      · have hd : decide ((k : Int) < n3) = true := decide_eq_true (by omega)
        go_wp2_with fail
        clear q2
        refine (xnum_bad HB.out 1000 (by decide)).mono ?_
        rintro e y' ⟨rfl, hr, hg⟩
        have HB : Hid _ := hr
        have HG : Hid _ := grown_trans HG.out hg
        clear hr hg
        go_wp2_with fail
        refine wp_loop_rounds 1 ?_
        rw [rounds_succ]
        go_wp2_with fail
        go_ret3
        exact .inr ⟨HNB.out, _, _, _, _, _, _, _, rfl, ⟨_, HB.out⟩, HG.out⟩
      · have hd : decide ((k : Int) < n3) = false := decide_eq_false (by omega)
        go_wp2_with fail
        clear q2
        refine (xnum_bad HB.out 1000 (by decide)).mono ?_
        rintro e y' ⟨rfl, hr, hg⟩
        have HB : Hid _ := hr
        have HG : Hid _ := grown_trans HG.out hg
        clear hr hg
        go_wp2_with fail
        refine wp_loop_rounds 1 ?_
        rw [rounds_succ]
        go_wp2_with fail
        go_ret3
        exact .inr ⟨HNB.out, _, _, _, _, _, _, _, rfl, ⟨_, HB.out⟩, HG.out⟩
    have HLR : Hid _ := hl
    have HS : Hid _ := hs
    have q2 := hs.rd.c2
    clear hl hs HL
    by_cases hlt : k < n3
    · have hd : decide ((k : Int) < n3) = true := decide_eq_true (by omega)
      go_wp2_with fail
      clear q2
      refine (xwide_any HS.out.rd).mono ?_
      rintro e y ⟨⟨x, j', hf, rfl, hr⟩ | ⟨hf, rfl, j', hr⟩, hg⟩
      · have HLN : Hid (rdMany rdLong (k + 1) s j3 = some (l ++ [x], j')) := by show _ = _; rw [rdMany, HLR.out]; simp only [hf]
        have HS : Hid _ := HS.out.call hr hg
        clear hf hr hg
        have HA : Hid _ := (HS.out.alloc #[.int .i64 x] 2).drop
        have HNC : Hid (∀ j u, ([.int .i64 x] : List Value)[j]? = some u → (y.alloc (.cells #[.int .i64 x] 2)).cell? ((⟨y.heap.size, 0, none⟩ : Addr).add j) = some u) := fun j u hu => by rw [Addr.add_lit, Nat.zero_add]; exact cell_last rfl (by simpa using hu)
        have hzB : w.heap.size ≤ y.heap.size := HS.out.Bx
        go_wp2_with (first | (at_builtin; refine wpList_append_lies _ rfl _ _ 22 rfl w.heap.size 2 i1 _ 1 8 Tryd.underlying22 hi1 hz10 hz11 hz12 rfl (by decide) _ k _ rfl (HA.out.own 0 _ rfl) ⟨y.heap.size, 0, none⟩ 1 1 [.int .i64 x] rfl rfl HNC.out (by intro u hu; simp at hu; first | (rcases hu with rfl | rfl | rfl <;> rfl) | (subst hu; rfl)) (by decide) (by unfold maxLen; omega) (by omega) (by simp; omega) (y.heap.size + 1) (by simp) ?_) | go_in)
        intro g cap Y6 ho6 hg6 hat6 hlt6
        have HP : Hid _ := HA.out.push (k := 0) rfl ho6 hg6 hat6 (by simp)
        clear ho6 hg6 hat6 hlt6 HNC
        go_wp2_with fail
        have HPX : Hid (L1 w Y6 br s j3 (k + 1) (.slice (some ⟨g, 0, none⟩) (k + 1) cap)) := ⟨l ++ [x], j', HLN.out, by have hp := HP.out; rw [show (l ++ [x]).flatMap intC = l.flatMap intC ++ [.int .i64 x] by simp [intC]]; exact hp⟩
        go_roundg (n3 - (k + 1))
        case measure => omega
        case rel => exact ⟨k + 1, by first | rfl | (congr 1; omega), by omega, Nat.le_refl _, Or.inl HPX.out⟩
      · have HNB : Hid (rdFrontI s = none) := by show _ = _; have hcut := many_cut HLR.out hlt hf; simp only [rdFrontI, himgm, if_true, Int.toNat_natCast, F0.out, F1.out, F2.out, F3.out, hcut]
        have HS : Hid _ := HS.out.call hr hg
        clear hf hr hg
        have HA : Hid _ := (HS.out.alloc #[.int .i64 0] 2).drop
        have HNC : Hid (∀ j u, ([.int .i64 0] : List Value)[j]? = some u → (y.alloc (.cells #[.int .i64 0] 2)).cell? ((⟨y.heap.size, 0, none⟩ : Addr).add j) = some u) := fun j u hu => by rw [Addr.add_lit, Nat.zero_add]; exact cell_last rfl (by simpa using hu)
        have hzB : w.heap.size ≤ y.heap.size := HS.out.Bx
        go_wp2_with (first | (at_builtin; refine wpList_append_lies _ rfl _ _ 22 rfl w.heap.size 2 i1 _ 1 8 Tryd.underlying22 hi1 hz10 hz11 hz12 rfl (by decide) _ k _ rfl (HA.out.own 0 _ rfl) ⟨y.heap.size, 0, none⟩ 1 1 [.int .i64 0] rfl rfl HNC.out (by intro u hu; simp at hu; first | (rcases hu with rfl | rfl | rfl <;> rfl) | (subst hu; rfl)) (by decide) (by unfold maxLen; omega) (by omega) (by simp; omega) (y.heap.size + 1) (by simp) ?_) | go_in)
        intro g cap Y6 ho6 hg6 hat6 hlt6
        have HP : Hid _ := HA.out.push (k := 0) rfl ho6 hg6 hat6 (by simp)
        clear ho6 hg6 hat6 hlt6 HNC
        go_wp2_with fail
        go_roundg (n3 - (k + 1))
        case measure => omega
        case rel => exact ⟨k + 1, by first | rfl | (congr 1; omega), by omega, Nat.le_refl _, Or.inr (HP.out.bad HNB.out)⟩
    · obtain rfl : n3 = k := by omega
      have hd : decide ((n3 : Int) < n3) = false := decide_eq_false (by omega)
      obtain ⟨data, rfl⟩ : ∃ xs, xs = l := ⟨_, rfl⟩
      obtain ⟨j4, rfl⟩ : ∃ x, x = j := ⟨_, rfl⟩
      have F4 : Hid _ := HLR.out
      have hdl := many_len HLR.out
      have HS : Hid (FS w w.heap.size wr br s j4 false [⟨2, 1, u9, data.length, data.flatMap intC⟩, ⟨66, 3, .slice none 0 0, 0, []⟩] []) := by
        show FS _ _ _ _ _ _ _ _ _
        have hp := HS.out
        rw [hdl]
        exact hp
      obtain ⟨a1, c1, hsl⟩ : ∃ a c, u9 = .slice a data.length c := own_slice (HS.out.own 0 _ rfl)
      subst hsl
      clear HLR hdl
      go_wp2_with fail
      clear q2
      refine (xnum_any HS.out.rd 1000 (by decide)).mono ?_
      rintro e y ⟨⟨x, j5, hf, rfl, hr⟩ | ⟨hf, rfl, j', hr⟩, hg⟩
      rotate_left
      · have HNB : Hid (rdFrontI s = none) := by show _ = _; simp only [rdFrontI, himgm, if_true, Int.toNat_natCast, F0.out, F1.out, F2.out, F3.out, F4.out, hf]
        have HB : Hid _ := hr
        have HG : Hid _ := grown_trans HS.out.g hg
        clear hf hr hg
        go_wp2_with fail
        refine wp_loop_rounds 1 ?_
        rw [rounds_succ]
        go_wp2_with fail
        go_ret3
        exact .inr ⟨HNB.out, _, _, _, _, _, _, _, rfl, ⟨_, HB.out⟩, HG.out⟩
      obtain ⟨hx0, hx1⟩ := rdUp_nonneg hf
      obtain ⟨n5, rfl⟩ : ∃ n : Nat, x = n := ⟨x.toNat, by omega⟩
      have hn5 : n5 ≤ 1000 := by omega
      have F5 : Hid (rdUp s j4 1000 = some ((n5 : Int), j5)) := hf
      have HS : Hid _ := HS.out.call hr hg
      clear hf hr hg hx0 hx1
      go_wp2_with fail
      go_loopg [11, 12] n5 (fun r dv iv wq => ∃ (k : Nat), iv = .int .i64 k ∧ k ≤ n5 ∧ n5 - k ≤ r ∧ Hid (L2 w wq br s j5 k (.slice a1 data.length c1) data dv ∨ LB w wq br s dv))
      case atStart => exact ⟨0, rfl, Nat.zero_le _, by omega, Or.inl ⟨[], j5, rfl, HS.out⟩⟩
      case round =>
        obtain ⟨k, rfl, hk, hr, HL⟩ := hrel
        rcases HL.out with ⟨l, j, hl, hs⟩ | ⟨hnb, ⟨a, l, c, rfl⟩, ⟨j, hb⟩, hg⟩
        rotate_left
        · have HNB : Hid _ := hnb
          have HB : Hid _ := hb
          have HG : Hid _ := hg
          have q2 := hb.c2
          clear hnb hb hg HL
          by_cases hlt : k < n5
          · have hd : decide ((k : Int) < n5) = true := decide_eq_true (by omega)
            go_wp2_with fail
            clear q2
            go_ret3
            exact .inr ⟨HNB.out, _, _, _, _, _, _, _, rfl, ⟨_, HB.out⟩, HG.out⟩
          · have hd : decide ((k : Int) < n5) = false := decide_eq_false (by omega)
            go_wp2_with fail
            clear q2
            go_ret3
            exact .inr ⟨HNB.out, _, _, _, _, _, _, _, rfl, ⟨_, HB.out⟩, HG.out⟩
        have HLR : Hid _ := hl
        have HS : Hid _ := hs
        have q2 := hs.rd.c2
        clear hl hs HL
        by_cases hlt : k < n5
        · have hd : decide ((k : Int) < n5) = true := decide_eq_true (by omega)
          go_wp2_with fail
          clear q2
          refine (xnum_any HS.out.rd 28 (by decide)).mono ?_
          rintro e ya ⟨⟨x, ja, hf, rfl, hr⟩ | ⟨hf, rfl, jx, hr⟩, hg⟩
          rotate_left
          · have HNB : Hid (rdFrontI s = none) := by
              show _ = _
              have hsn : rdSym s j = none := by simp only [rdSym, rdName, hf]
              have hcut := many_cut HLR.out hlt hsn
              simp only [rdFrontI, himgm, if_true, Int.toNat_natCast, F0.out, F1.out, F2.out, F3.out, F4.out, F5.out, hcut]
            have HS : Hid _ := HS.out.call hr hg
            clear hf hr hg
            go_wp2_with fail
            refine (xbytes_bad HS.out.rd 0).mono ?_
            rintro e yb ⟨rfl, hr, hg⟩
            have HS : Hid _ := HS.out.call hr hg
            clear hr hg
            go_wp2_with fail
            have HS : Hid (FS w w.heap.size (yb.alloc (.cells #[.string { data := #[] }, .int .i64 0, .int .i64 0] 66)) br s _ true [⟨2, 1, .slice a1 data.length c1, data.length, data.flatMap intC⟩, ⟨66, 3, u11, k, l.flatMap symC⟩] [(yb.heap.size, [.string { data := #[] }, .int .i64 0, .int .i64 0])]) := HS.out.alloc #[.string { data := #[] }, .int .i64 0, .int .i64 0] 66
            obtain ⟨Yb, hYb⟩ : ∃ Y, yb.alloc (.cells #[.string { data := #[] }, .int .i64 0, .int .i64 0] 66) = Y := ⟨_, rfl⟩
            rw [hYb] at HS ⊢
            clear hYb
            generalize yb.heap.size = zb at *
            refine (xone_bad HS.out.rd).mono ?_
            rintro e yc ⟨rfl, ⟨jx, hr⟩, hg⟩
            have HS : Hid _ := HS.out.call hr hg
            clear hr hg
            have q := (HS.out.box 0 _ rfl).1 1 _ rfl
            have zf := (HS.out.box 0 _ rfl).2.1 1
            have HS : Hid (FS w w.heap.size (yc.setCell ⟨zb, 1, none⟩ (.int .i64 0)) br s _ true [⟨2, 1, .slice a1 data.length c1, data.length, data.flatMap intC⟩, ⟨66, 3, u11, k, l.flatMap symC⟩] [(zb, [.string { data := #[] }, .int .i64 0, .int .i64 0])]) := HS.out.put 0 zb [.string { data := #[] }, .int .i64 0, .int .i64 0] rfl 1 (by simp) (.int .i64 0)
            obtain ⟨Yc, hYc⟩ : ∃ Y, yc.setCell ⟨zb, 1, none⟩ (.int .i64 0) = Y := ⟨_, rfl⟩
            rw [hYc] at HS
            go_wp2_with fail
            clear q zf hYc
            refine (xnum_bad HS.out.rd 65536 (by decide)).mono ?_
            rintro e yd ⟨rfl, hr, hg⟩
            have HS : Hid _ := HS.out.call hr hg
            clear hr hg
            have q := (HS.out.box 0 _ rfl).1 2 _ rfl
            have zf := (HS.out.box 0 _ rfl).2.1 2
            have HS : Hid (FS w w.heap.size (yd.setCell ⟨zb, 2, none⟩ (.int .i64 0)) br s _ true [⟨2, 1, .slice a1 data.length c1, data.length, data.flatMap intC⟩, ⟨66, 3, u11, k, l.flatMap symC⟩] [(zb, [.string { data := #[] }, .int .i64 0, .int .i64 0])]) := HS.out.put 0 zb [.string { data := #[] }, .int .i64 0, .int .i64 0] rfl 2 (by simp) (.int .i64 0)
            obtain ⟨Yd, hYd⟩ : ∃ Y, yd.setCell ⟨zb, 2, none⟩ (.int .i64 0) = Y := ⟨_, rfl⟩
            rw [hYd] at HS
            have p0 := (HS.out.box 0 _ rfl).1 0 _ rfl
            have p1 := (HS.out.box 0 _ rfl).1 1 _ rfl
            have p2 := (HS.out.box 0 _ rfl).1 2 _ rfl
            have HA : Hid _ := (HS.out.alloc #[.string { data := #[] }, .int .i64 0, .int .i64 0] 66).drop
            have HNC : Hid (∀ j u, ([.string { data := #[] }, .int .i64 0, .int .i64 0] : List Value)[j]? = some u → (Yd.alloc (.cells #[.string { data := #[] }, .int .i64 0, .int .i64 0] 66)).cell? ((⟨Yd.heap.size, 0, none⟩ : Addr).add j) = some u) := fun j u hu => by rw [Addr.add_lit, Nat.zero_add]; exact cell_last rfl (by simpa using hu)
            have hzB : w.heap.size ≤ Yd.heap.size := HS.out.Bx
            go_wp2_with (first | (at_builtin; refine wpList_append_lies _ rfl _ _ 23 rfl w.heap.size 66 i2 _ 3 32 Tryd.underlying23 hi2 hz20 hz21 hz22 rfl (by decide) _ k _ rfl (HA.out.own 1 _ rfl) ⟨Yd.heap.size, 0, none⟩ 1 1 [.string { data := #[] }, .int .i64 0, .int .i64 0] rfl rfl HNC.out (by intro u hu; simp at hu; first | (rcases hu with rfl | rfl | rfl <;> rfl) | (subst hu; rfl)) (by decide) (by unfold maxLen; omega) (by omega) (by simp; omega) (Yd.heap.size + 1) (by simp) ?_) | go_in)
            intro g cap Y6 ho6 hg6 hat6 hlt6
            have HP : Hid _ := HA.out.push (k := 1) rfl ho6 hg6 hat6 (by simp)
            clear ho6 hg6 hat6 hlt6 HNC
            go_wp2_with fail
            go_roundg (n5 - (k + 1))
            case measure => omega
            case rel => exact ⟨k + 1, by first | rfl | (congr 1; omega), by omega, Nat.le_refl _, Or.inr (HP.out.bad HNB.out)⟩
          obtain ⟨hx0, hx1⟩ := rdUp_nonneg hf
          obtain ⟨m, rfl⟩ : ∃ n : Nat, x = n := ⟨x.toNat, by omega⟩
          have G0 : Hid (rdUp s j 28 = some ((m : Int), ja)) := hf
          have HS : Hid _ := HS.out.call hr hg
          clear hf hr hg
          go_wp2_with fail
          refine (xbytes_any HS.out.rd m (by omega)).mono ?_
          rintro e yb ⟨⟨nm, jb, hf, rfl, hr⟩ | ⟨hf, rfl, jx, hr⟩, hg⟩
          rotate_left
          · have HNB : Hid (rdFrontI s = none) := by
              show _ = _
              have hsn : rdSym s j = none := by simp only [rdSym, rdName, G0.out, Int.toNat_natCast, hf]
              have hcut := many_cut HLR.out hlt hsn
              simp only [rdFrontI, himgm, if_true, Int.toNat_natCast, F0.out, F1.out, F2.out, F3.out, F4.out, F5.out, hcut]
            have HS : Hid _ := HS.out.call hr hg
            clear hf hr hg
            go_wp2_with fail
            have HS : Hid (FS w w.heap.size (yb.alloc (.cells #[.string { data := #[] }, .int .i64 0, .int .i64 0] 66)) br s _ true [⟨2, 1, .slice a1 data.length c1, data.length, data.flatMap intC⟩, ⟨66, 3, u11, k, l.flatMap symC⟩] [(yb.heap.size, [.string { data := #[] }, .int .i64 0, .int .i64 0])]) := HS.out.alloc #[.string { data := #[] }, .int .i64 0, .int .i64 0] 66
            obtain ⟨Yb, hYb⟩ : ∃ Y, yb.alloc (.cells #[.string { data := #[] }, .int .i64 0, .int .i64 0] 66) = Y := ⟨_, rfl⟩
            rw [hYb] at HS ⊢
            clear hYb
            generalize yb.heap.size = zb at *
            refine (xone_bad HS.out.rd).mono ?_
            rintro e yc ⟨rfl, ⟨jx, hr⟩, hg⟩
            have HS : Hid _ := HS.out.call hr hg
            clear hr hg
            have q := (HS.out.box 0 _ rfl).1 1 _ rfl
            have zf := (HS.out.box 0 _ rfl).2.1 1
            have HS : Hid (FS w w.heap.size (yc.setCell ⟨zb, 1, none⟩ (.int .i64 0)) br s _ true [⟨2, 1, .slice a1 data.length c1, data.length, data.flatMap intC⟩, ⟨66, 3, u11, k, l.flatMap symC⟩] [(zb, [.string { data := #[] }, .int .i64 0, .int .i64 0])]) := HS.out.put 0 zb [.string { data := #[] }, .int .i64 0, .int .i64 0] rfl 1 (by simp) (.int .i64 0)
            obtain ⟨Yc, hYc⟩ : ∃ Y, yc.setCell ⟨zb, 1, none⟩ (.int .i64 0) = Y := ⟨_, rfl⟩
            rw [hYc] at HS
            go_wp2_with fail
            clear q zf hYc
            refine (xnum_bad HS.out.rd 65536 (by decide)).mono ?_
            rintro e yd ⟨rfl, hr, hg⟩
            have HS : Hid _ := HS.out.call hr hg
            clear hr hg
            have q := (HS.out.box 0 _ rfl).1 2 _ rfl
            have zf := (HS.out.box 0 _ rfl).2.1 2
            have HS : Hid (FS w w.heap.size (yd.setCell ⟨zb, 2, none⟩ (.int .i64 0)) br s _ true [⟨2, 1, .slice a1 data.length c1, data.length, data.flatMap intC⟩, ⟨66, 3, u11, k, l.flatMap symC⟩] [(zb, [.string { data := #[] }, .int .i64 0, .int .i64 0])]) := HS.out.put 0 zb [.string { data := #[] }, .int .i64 0, .int .i64 0] rfl 2 (by simp) (.int .i64 0)
            obtain ⟨Yd, hYd⟩ : ∃ Y, yd.setCell ⟨zb, 2, none⟩ (.int .i64 0) = Y := ⟨_, rfl⟩
            rw [hYd] at HS
            have p0 := (HS.out.box 0 _ rfl).1 0 _ rfl
            have p1 := (HS.out.box 0 _ rfl).1 1 _ rfl
            have p2 := (HS.out.box 0 _ rfl).1 2 _ rfl
            have HA : Hid _ := (HS.out.alloc #[.string { data := #[] }, .int .i64 0, .int .i64 0] 66).drop
            have HNC : Hid (∀ j u, ([.string { data := #[] }, .int .i64 0, .int .i64 0] : List Value)[j]? = some u → (Yd.alloc (.cells #[.string { data := #[] }, .int .i64 0, .int .i64 0] 66)).cell? ((⟨Yd.heap.size, 0, none⟩ : Addr).add j) = some u) := fun j u hu => by rw [Addr.add_lit, Nat.zero_add]; exact cell_last rfl (by simpa using hu)
            have hzB : w.heap.size ≤ Yd.heap.size := HS.out.Bx
            go_wp2_with (first | (at_builtin; refine wpList_append_lies _ rfl _ _ 23 rfl w.heap.size 66 i2 _ 3 32 Tryd.underlying23 hi2 hz20 hz21 hz22 rfl (by decide) _ k _ rfl (HA.out.own 1 _ rfl) ⟨Yd.heap.size, 0, none⟩ 1 1 [.string { data := #[] }, .int .i64 0, .int .i64 0] rfl rfl HNC.out (by intro u hu; simp at hu; first | (rcases hu with rfl | rfl | rfl <;> rfl) | (subst hu; rfl)) (by decide) (by unfold maxLen; omega) (by omega) (by simp; omega) (Yd.heap.size + 1) (by simp) ?_) | go_in)
            intro g cap Y6 ho6 hg6 hat6 hlt6
            have HP : Hid _ := HA.out.push (k := 1) rfl ho6 hg6 hat6 (by simp)
            clear ho6 hg6 hat6 hlt6 HNC
            go_wp2_with fail
            go_roundg (n5 - (k + 1))
            case measure => omega
            case rel => exact ⟨k + 1, by first | rfl | (congr 1; omega), by omega, Nat.le_refl _, Or.inr (HP.out.bad HNB.out)⟩
          have G1 : Hid _ := hf
          have HS : Hid _ := HS.out.call hr hg
          clear hf hr hg
          go_wp2_with fail
          have HS : Hid (FS w w.heap.size (yb.alloc (.cells #[.string nm, .int .i64 0, .int .i64 0] 66)) br s _ false [⟨2, 1, .slice a1 data.length c1, data.length, data.flatMap intC⟩, ⟨66, 3, u11, k, l.flatMap symC⟩] [(yb.heap.size, [.string nm, .int .i64 0, .int .i64 0])]) := HS.out.alloc #[.string nm, .int .i64 0, .int .i64 0] 66
          obtain ⟨Yb, hYb⟩ : ∃ Y, yb.alloc (.cells #[.string nm, .int .i64 0, .int .i64 0] 66) = Y := ⟨_, rfl⟩
          rw [hYb] at HS ⊢
          clear hYb
          generalize yb.heap.size = zb at *
          refine (xone_any HS.out.rd).mono ?_
          rintro e yc ⟨⟨kd, jc, hf, rfl, hr⟩ | ⟨hf, rfl, jx, hr⟩, hg⟩
          rotate_left
          · have HNB : Hid (rdFrontI s = none) := by
              show _ = _
              have hsn : rdSym s j = none := by simp only [rdSym, rdName, G0.out, Int.toNat_natCast, G1.out, hf]
              have hcut := many_cut HLR.out hlt hsn
              simp only [rdFrontI, himgm, if_true, Int.toNat_natCast, F0.out, F1.out, F2.out, F3.out, F4.out, F5.out, hcut]
            have HS : Hid _ := HS.out.call hr hg
            clear hf hr hg
            have q := (HS.out.box 0 _ rfl).1 1 _ rfl
            have zf := (HS.out.box 0 _ rfl).2.1 1
            have HS : Hid (FS w w.heap.size (yc.setCell ⟨zb, 1, none⟩ (.int .i64 0)) br s _ true [⟨2, 1, .slice a1 data.length c1, data.length, data.flatMap intC⟩, ⟨66, 3, u11, k, l.flatMap symC⟩] [(zb, [.string nm, .int .i64 0, .int .i64 0])]) := HS.out.put 0 zb [.string nm, .int .i64 0, .int .i64 0] rfl 1 (by simp) (.int .i64 0)
            obtain ⟨Yc, hYc⟩ : ∃ Y, yc.setCell ⟨zb, 1, none⟩ (.int .i64 0) = Y := ⟨_, rfl⟩
            rw [hYc] at HS
            go_wp2_with fail
            clear q zf hYc
            refine (xnum_bad HS.out.rd 65536 (by decide)).mono ?_
            rintro e yd ⟨rfl, hr, hg⟩
            have HS : Hid _ := HS.out.call hr hg
            clear hr hg
            have q := (HS.out.box 0 _ rfl).1 2 _ rfl
            have zf := (HS.out.box 0 _ rfl).2.1 2
            have HS : Hid (FS w w.heap.size (yd.setCell ⟨zb, 2, none⟩ (.int .i64 0)) br s _ true [⟨2, 1, .slice a1 data.length c1, data.length, data.flatMap intC⟩, ⟨66, 3, u11, k, l.flatMap symC⟩] [(zb, [.string nm, .int .i64 0, .int .i64 0])]) := HS.out.put 0 zb [.string nm, .int .i64 0, .int .i64 0] rfl 2 (by simp) (.int .i64 0)
            obtain ⟨Yd, hYd⟩ : ∃ Y, yd.setCell ⟨zb, 2, none⟩ (.int .i64 0) = Y := ⟨_, rfl⟩
            rw [hYd] at HS
            have p0 := (HS.out.box 0 _ rfl).1 0 _ rfl
            have p1 := (HS.out.box 0 _ rfl).1 1 _ rfl
            have p2 := (HS.out.box 0 _ rfl).1 2 _ rfl
            have HA : Hid _ := (HS.out.alloc #[.string nm, .int .i64 0, .int .i64 0] 66).drop
            have HNC : Hid (∀ j u, ([.string nm, .int .i64 0, .int .i64 0] : List Value)[j]? = some u → (Yd.alloc (.cells #[.string nm, .int .i64 0, .int .i64 0] 66)).cell? ((⟨Yd.heap.size, 0, none⟩ : Addr).add j) = some u) := fun j u hu => by rw [Addr.add_lit, Nat.zero_add]; exact cell_last rfl (by simpa using hu)
            have hzB : w.heap.size ≤ Yd.heap.size := HS.out.Bx
            go_wp2_with (first | (at_builtin; refine wpList_append_lies _ rfl _ _ 23 rfl w.heap.size 66 i2 _ 3 32 Tryd.underlying23 hi2 hz20 hz21 hz22 rfl (by decide) _ k _ rfl (HA.out.own 1 _ rfl) ⟨Yd.heap.size, 0, none⟩ 1 1 [.string nm, .int .i64 0, .int .i64 0] rfl rfl HNC.out (by intro u hu; simp at hu; first | (rcases hu with rfl | rfl | rfl <;> rfl) | (subst hu; rfl)) (by decide) (by unfold maxLen; omega) (by omega) (by simp; omega) (Yd.heap.size + 1) (by simp) ?_) | go_in)
            intro g cap Y6 ho6 hg6 hat6 hlt6
            have HP : Hid _ := HA.out.push (k := 1) rfl ho6 hg6 hat6 (by simp)
            clear ho6 hg6 hat6 hlt6 HNC
            go_wp2_with fail
            go_roundg (n5 - (k + 1))
            case measure => omega
            case rel => exact ⟨k + 1, by first | rfl | (congr 1; omega), by omega, Nat.le_refl _, Or.inr (HP.out.bad HNB.out)⟩
          have G2 : Hid _ := hf
          have HS : Hid _ := HS.out.call hr hg
          clear hf hr hg
          have q := (HS.out.box 0 _ rfl).1 1 _ rfl
          have zf := (HS.out.box 0 _ rfl).2.1 1
          have HS : Hid (FS w w.heap.size (yc.setCell ⟨zb, 1, none⟩ (.int .i64 kd)) br s _ false [⟨2, 1, .slice a1 data.length c1, data.length, data.flatMap intC⟩, ⟨66, 3, u11, k, l.flatMap symC⟩] [(zb, [.string nm, .int .i64 kd, .int .i64 0])]) := HS.out.put 0 zb [.string nm, .int .i64 0, .int .i64 0] rfl 1 (by simp) (.int .i64 kd)
          obtain ⟨Yc, hYc⟩ : ∃ Y, yc.setCell ⟨zb, 1, none⟩ (.int .i64 kd) = Y := ⟨_, rfl⟩
          rw [hYc] at HS
          go_wp2_with fail
          clear q zf hYc
          refine (xnum_any HS.out.rd 65536 (by decide)).mono ?_
          rintro e yd ⟨⟨ps, jd, hf, rfl, hr⟩ | ⟨hf, rfl, jx, hr⟩, hg⟩
          rotate_left
          · have HNB : Hid (rdFrontI s = none) := by
              show _ = _
              have hsn : rdSym s j = none := by simp only [rdSym, rdName, G0.out, Int.toNat_natCast, G1.out, G2.out, hf]
              have hcut := many_cut HLR.out hlt hsn
              simp only [rdFrontI, himgm, if_true, Int.toNat_natCast, F0.out, F1.out, F2.out, F3.out, F4.out, F5.out, hcut]
            have HS : Hid _ := HS.out.call hr hg
            clear hf hr hg
            have q := (HS.out.box 0 _ rfl).1 2 _ rfl
            have zf := (HS.out.box 0 _ rfl).2.1 2
            have HS : Hid (FS w w.heap.size (yd.setCell ⟨zb, 2, none⟩ (.int .i64 0)) br s _ true [⟨2, 1, .slice a1 data.length c1, data.length, data.flatMap intC⟩, ⟨66, 3, u11, k, l.flatMap symC⟩] [(zb, [.string nm, .int .i64 kd, .int .i64 0])]) := HS.out.put 0 zb [.string nm, .int .i64 kd, .int .i64 0] rfl 2 (by simp) (.int .i64 0)
            obtain ⟨Yd, hYd⟩ : ∃ Y, yd.setCell ⟨zb, 2, none⟩ (.int .i64 0) = Y := ⟨_, rfl⟩
            rw [hYd] at HS
            have p0 := (HS.out.box 0 _ rfl).1 0 _ rfl
            have p1 := (HS.out.box 0 _ rfl).1 1 _ rfl
            have p2 := (HS.out.box 0 _ rfl).1 2 _ rfl
            have HA : Hid _ := (HS.out.alloc #[.string nm, .int .i64 kd, .int .i64 0] 66).drop
            have HNC : Hid (∀ j u, ([.string nm, .int .i64 kd, .int .i64 0] : List Value)[j]? = some u → (Yd.alloc (.cells #[.string nm, .int .i64 kd, .int .i64 0] 66)).cell? ((⟨Yd.heap.size, 0, none⟩ : Addr).add j) = some u) := fun j u hu => by rw [Addr.add_lit, Nat.zero_add]; exact cell_last rfl (by simpa using hu)
            have hzB : w.heap.size ≤ Yd.heap.size := HS.out.Bx
            go_wp2_with (first | (at_builtin; refine wpList_append_lies _ rfl _ _ 23 rfl w.heap.size 66 i2 _ 3 32 Tryd.underlying23 hi2 hz20 hz21 hz22 rfl (by decide) _ k _ rfl (HA.out.own 1 _ rfl) ⟨Yd.heap.size, 0, none⟩ 1 1 [.string nm, .int .i64 kd, .int .i64 0] rfl rfl HNC.out (by intro u hu; simp at hu; first | (rcases hu with rfl | rfl | rfl <;> rfl) | (subst hu; rfl)) (by decide) (by unfold maxLen; omega) (by omega) (by simp; omega) (Yd.heap.size + 1) (by simp) ?_) | go_in)
            intro g cap Y6 ho6 hg6 hat6 hlt6
            have HP : Hid _ := HA.out.push (k := 1) rfl ho6 hg6 hat6 (by simp)
            clear ho6 hg6 hat6 hlt6 HNC
            go_wp2_with fail
            go_roundg (n5 - (k + 1))
            case measure => omega
            case rel => exact ⟨k + 1, by first | rfl | (congr 1; omega), by omega, Nat.le_refl _, Or.inr (HP.out.bad HNB.out)⟩
          have G3 : Hid _ := hf
          have HS : Hid _ := HS.out.call hr hg
          clear hf hr hg
          have q := (HS.out.box 0 _ rfl).1 2 _ rfl
          have zf := (HS.out.box 0 _ rfl).2.1 2
          have HS : Hid (FS w w.heap.size (yd.setCell ⟨zb, 2, none⟩ (.int .i64 ps)) br s _ false [⟨2, 1, .slice a1 data.length c1, data.length, data.flatMap intC⟩, ⟨66, 3, u11, k, l.flatMap symC⟩] [(zb, [.string nm, .int .i64 kd, .int .i64 ps])]) := HS.out.put 0 zb [.string nm, .int .i64 kd, .int .i64 0] rfl 2 (by simp) (.int .i64 ps)
          obtain ⟨Yd, hYd⟩ : ∃ Y, yd.setCell ⟨zb, 2, none⟩ (.int .i64 ps) = Y := ⟨_, rfl⟩
          rw [hYd] at HS
          have p0 := (HS.out.box 0 _ rfl).1 0 _ rfl
          have p1 := (HS.out.box 0 _ rfl).1 1 _ rfl
          have p2 := (HS.out.box 0 _ rfl).1 2 _ rfl
          have HLN : Hid (rdMany rdSym (k + 1) s j5 = some (l ++ [(⟨nm, kd, ps⟩ : Sym)], jd)) := by show _ = _; rw [rdMany, HLR.out]; simp only [rdSym, rdName, G0.out, Int.toNat_natCast, G1.out, G2.out, G3.out]
          have HA : Hid _ := (HS.out.alloc #[.string nm, .int .i64 kd, .int .i64 ps] 66).drop
          have HNC : Hid (∀ j u, ([.string nm, .int .i64 kd, .int .i64 ps] : List Value)[j]? = some u → (Yd.alloc (.cells #[.string nm, .int .i64 kd, .int .i64 ps] 66)).cell? ((⟨Yd.heap.size, 0, none⟩ : Addr).add j) = some u) := fun j u hu => by rw [Addr.add_lit, Nat.zero_add]; exact cell_last rfl (by simpa using hu)
          have hzB : w.heap.size ≤ Yd.heap.size := HS.out.Bx
          go_wp2_with (first | (at_builtin; refine wpList_append_lies _ rfl _ _ 23 rfl w.heap.size 66 i2 _ 3 32 Tryd.underlying23 hi2 hz20 hz21 hz22 rfl (by decide) _ k _ rfl (HA.out.own 1 _ rfl) ⟨Yd.heap.size, 0, none⟩ 1 1 [.string nm, .int .i64 kd, .int .i64 ps] rfl rfl HNC.out (by intro u hu; simp at hu; first | (rcases hu with rfl | rfl | rfl <;> rfl) | (subst hu; rfl)) (by decide) (by unfold maxLen; omega) (by omega) (by simp; omega) (Yd.heap.size + 1) (by simp) ?_) | go_in)
          intro g cap Y6 ho6 hg6 hat6 hlt6
          have HP : Hid _ := HA.out.push (k := 1) rfl ho6 hg6 hat6 (by simp)
          clear ho6 hg6 hat6 hlt6 HNC
          go_wp2_with fail
          have HPX : Hid (L2 w Y6 br s j5 (k + 1) (.slice a1 data.length c1) data (.slice (some ⟨g, 0, none⟩) (k + 1) cap)) := ⟨l ++ [(⟨nm, kd, ps⟩ : Sym)], _, HLN.out, by have hp := HP.out.drop; rw [show (l ++ [(⟨nm, kd, ps⟩ : Sym)]).flatMap symC = l.flatMap symC ++ [.string nm, .int .i64 kd, .int .i64 ps] by simp [symC]]; exact hp⟩
          go_roundg (n5 - (k + 1))
          case measure => omega
          case rel => exact ⟨k + 1, by first | rfl | (congr 1; omega), by omega, Nat.le_refl _, Or.inl HPX.out⟩
        · obtain rfl : n5 = k := by omega
          have hd : decide ((n5 : Int) < n5) = false := decide_eq_false (by omega)
          obtain ⟨syms, rfl⟩ : ∃ xs, xs = l := ⟨_, rfl⟩
          obtain ⟨j6, rfl⟩ : ∃ x, x = j := ⟨_, rfl⟩
          have F6 : Hid _ := HLR.out
          have hdl := many_len HLR.out
          have HSE : Hid (FS w w.heap.size wr br s j6 false [⟨2, 1, .slice a1 data.length c1, data.length, data.flatMap intC⟩, ⟨66, 3, u11, syms.length, syms.flatMap symC⟩] []) := by
            show FS _ _ _ _ _ _ _ _ _
            have hp := HS.out
            rw [hdl]
            exact hp
          clear HLR hdl
          go_wp2_with fail
          clear q2
          go_ret3
          exact .inl ⟨code, data, syms, j6, _, _, ⟨j0, n1, j1, j2, n3, j3, j4, n5, j5, F0.out, F1.out, F2.out, F3.out, F4.out, F5.out, F6.out⟩, rfl, HSE.out⟩

end Go.Proofs.YtmplnkfjaeegdaaDoor
