/- What image.Write comes to. -/
import Derived.Test.YtmplnkfjaeegdaaDoorPImA
import Derived.Test.YtmplnkfjaeegdaaDoorPObjB
import Derived.Test.YtmplnkfjaeegdaaDoorPObjE
namespace Go.Proofs.YtmplnkfjaeegdaaDoor
set_option maxRecDepth 100000
open Go.RowKit Go.Maps Go.Lib
set_option linter.unusedVariables false
set_option linter.unusedSimpArgs false

/-- An image's form. -/
def bodyI (m : ImgD) : List Int := txt m.code ++ (W.put m.data.length ++ m.data.flatMap long) ++ (W.put m.syms.length ++ m.syms.flatMap symB)
def formI (m : ImgD) : List Int := [73, 77, 71, 49] ++ txt m.code ++ (W.put m.data.length ++ m.data.flatMap long) ++ (W.put m.syms.length ++ m.syms.flatMap symB)
theorem formI_eq (m : ImgD) : formI m = [73, 77, 71, 49] ++ bodyI m := by simp [formI, bodyI]
theorem ImgD.may_obj {m : ImgD} (h : m.may = true) : m.obj.may = true := by
  unfold ImgD.may at h
  rw [Bool.and_eq_true] at h
  exact h.1

set_option maxHeartbeats 8000000 in
theorem iwrite_any {w : World} {v : Value} {m : ImgD} (h : ImgV w v m) (ht : Tab w) :
    Calls Tryd.prog 10 #[v] w fun e w' => e = .returned (.tuple #[.string (if m.may = true then strOfNums (formI m) else ByteArray.empty), .int .i64 (if m.may = true then 0 else 1)]) ∧ Below w.heap.size w w' := by
  have HIV : Hid _ := h
  have HT : Hid _ := ht
  obtain ⟨a1, l1, c1, a2, l2, c2, rfl, hcs, h1, h2⟩ := h.form
  have H1 : Hid _ := h1
  have H2 : Hid _ := h2
  obtain ⟨code, hcode⟩ : ∃ code, m.code = code := ⟨_, rfl⟩
  have HCO : Hid _ := hcode
  rw [hcode] at HIV ⊢
  generalize hR1 : (if m.may = true then strOfNums (formI m) else ByteArray.empty) = R1
  generalize hR2 : (if m.may = true then (0 : Int) else 1) = R2
  have HR1 : Hid _ := hR1
  have HR2 : Hid _ := hR2
  clear h h1 h2 ht hcs hR1 hR2 hcode
  obtain ⟨W1, hW1⟩ : ∃ W1, w.alloc (.cells #[.string code, .slice a1 l1 c1, .slice a2 l2 c2] 25) = W1 := ⟨_, rfl⟩
  have b1 : Below w.heap.size w W1 := by subst hW1; exact bl_one _ _
  have HB1 : Hid _ := b1
  have v0 : W1.cell? ⟨w.heap.size, 0, none⟩ = some (.string code) := by subst hW1; exact cell_last rfl rfl
  have v1 : W1.cell? ⟨w.heap.size, 1, none⟩ = some (.slice a1 l1 c1) := by subst hW1; exact cell_last rfl rfl
  have v2 : W1.cell? ⟨w.heap.size, 2, none⟩ = some (.slice a2 l2 c2) := by subst hW1; exact cell_last rfl rfl
  clear b1
  go_enter Tryd.func10, Tryd.ntmps10
  go_wp2_with fail
  refine (imay_any (HIV.out.below HB1.out) (Tab.below HT.out HB1.out)).mono ?_
  rintro e y1 ⟨rfl, g1⟩
  have B1 : Hid (Below w.heap.size w y1) := HB1.out.trans (g1.mono HB1.out.size)
  have p0 := cell_thru g1 v0
  have p1 := cell_thru g1 v1
  have p2 := cell_thru g1 v2
  clear g1 v0 v1 v2
  cases hm : m.may with
  | false =>
    have HE1 : Hid (R1 = ByteArray.empty) := by show _ = _; rw [← HR1.out, hm]; rfl
    have HE2 : Hid (R2 = 1) := by show _ = _; rw [← HR2.out, hm]; rfl
    go_wp2
    go_ret2
    exact ⟨by rw [HE1.out, HE2.out]; rfl, B1.out⟩
  | true =>
    have HE1 : Hid (R1 = strOfNums (formI m)) := by show _ = _; rw [← HR1.out, hm]; rfl
    have HE2 : Hid (R2 = 0) := by show _ = _; rw [← HR2.out, hm]; rfl
    obtain ⟨hc, hdl, hs, hr⟩ := may_parts (ImgD.may_obj hm)
    obtain ⟨hsl, hsf⟩ := syms_fit hs hc hdl
    have hc : code.size ≤ 65536 := by rw [← HCO.out]; exact hc
    have hdl : m.data.length ≤ 4096 := hdl
    have hsl : m.syms.length ≤ 1000 := hsl
    have hsf : ∀ s ∈ m.syms, SymFit s := hsf
    have n1 := H1.out.count
    have n2 := H2.out.count
    have HL1 : Hid ((m.data.flatMap long).length ≤ 8 * m.data.length) := flat_len long 8 _ (fun x hx => by rw [(long_len (H1.out.fits x hx)).1]; decide)
    have HL2 : Hid ((m.syms.flatMap symB).length ≤ 1100 * m.syms.length) := flat_len symB 1100 _ (fun x hx => symB_len (hsf x hx).1)
    have HSF : Hid _ := hsf
    have HN1 : Hid _ := n1
    have HN2 : Hid _ := n2
    have hl1 : l1 ≤ 4096 := by omega
    have hl2 : l2 ≤ 1000 := by omega
    have hp1 := W.put_length (code.size : Int)
    have hp2 := W.put_length (l1 : Int)
    have hnl := nums_len code
    have HFB : Hid (∀ ys, ys = [73, 77, 71, 49] ++ txt m.code ++ (W.put m.data.length ++ m.data.flatMap long) ++ (W.put m.syms.length ++ m.syms.flatMap symB) → ys = formI m) := fun ys e => e
    rw [HCO.out] at HFB
    obtain ⟨W2, hW2⟩ : ∃ W2, y1.alloc (.cells #[.int .u8 73, .int .u8 77, .int .u8 71, .int .u8 49] 5 (4, 5)) = W2 := ⟨_, rfl⟩
    have b2 : Below y1.heap.size y1 W2 := by subst hW2; exact bl_one _ _
    have hcv : (convert 60 60 (.slice (some ⟨y1.heap.size, 0, none⟩) 4 4)).run Tryd.prog (y1.alloc (.cells #[.int .u8 73, .int .u8 77, .int .u8 71, .int .u8 49] 5)) = .ok (.slice (some ⟨y1.heap.size, 0, none⟩) 4 4) W2 := by
      rw [← hW2]
      exact Go.Joins.run_convert_bytes_const_at y1 60 5 #[.int .u8 73, .int .u8 77, .int .u8 71, .int .u8 49] 4 4 y1.heap.size rfl Tryd.underlying60 Tryd.underlying5
    have HC2 : Hid (∀ j u, (([73, 77, 71, 49] : List Int).map (Value.int .u8))[j]? = some u → W2.cell? ⟨y1.heap.size, j, none⟩ = some u) := fun j u hu => by
      subst hW2
      rw [World.cell?_alloc_mark]
      simpa using hu
    have u0 := cell_thru b2 p0
    have u1 := cell_thru b2 p1
    have u2 := cell_thru b2 p2
    have Q2 : Hid (Below w.heap.size w W2) := B1.out.trans (b2.mono B1.out.size)
    have hlt1 : w.heap.size < y1.heap.size := World.block_lt_of_cell? y1 ⟨w.heap.size, 0, none⟩ p0
    have hB2 : w.heap.size + 1 ≤ W2.heap.size := by have := b2.size; omega
    clear p0 p1 p2 b2 hs hr hsf hm n1 n2 hdl hsl
    go_wp2_with fail
    refine (text_full (xs := [73, 77, 71, 49]) rfl HC2.out code (by omega) (by decide)).mono ?_
    rintro e w3 ⟨x3, rfl, o3', g3⟩
    have o3 := row_base o3' hB2
    have q3 : Below w.heap.size w w3 := Q2.out.trans (g3.mono Q2.out.size)
    have hB3 : w.heap.size + 1 ≤ w3.heap.size := Nat.le_trans hB2 g3.size
    have c1' := cell_thru g3 u1
    have c2' := cell_thru g3 u2
    obtain ⟨y3, hy3⟩ : ∃ y, y = [73, 77, 71, 49] ++ txt code := ⟨_, rfl⟩
    rw [← hy3] at o3
    have hl3 : y3.length ≤ 100000 := by rw [hy3]; simp only [txt, List.length_append, List.length_cons, List.length_nil]; omega
    have HO3 : Hid (RowB w3 (w.heap.size + 1) x3 y3) := o3
    have HY3 : Hid _ := hy3
    have Q3 : Hid _ := q3
    clear o3 o3' g3 hy3 u0 u1 u2 hcv q3
    go_wp2_with fail
    refine (listI_any HO3.out hB3 (H1.out.below Q3.out) (fun hl => apart_I (row_base HO3.out (Nat.le_succ _)) H1.out hl) H1.out.fits (by omega) (by omega)).mono ?_
    rintro e w4 ⟨x4, rfl, o4, g4⟩
    have q4 : Below w.heap.size w w4 := Q3.out.trans (row_below HO3.out g4 hB3)
    have hB4 : w.heap.size + 1 ≤ w4.heap.size := Nat.le_trans hB3 g4.grown.size
    have d2 := g4.cell c2' (row_ne HO3.out)
    obtain ⟨y4, hy4⟩ : ∃ y, y = y3 ++ (W.put l1 ++ m.data.flatMap long) := ⟨_, rfl⟩
    rw [← hy4] at o4
    have hl4 : y4.length ≤ 200000 := by rw [hy4]; simp only [List.length_append]; have := HL1.out; have := HN1.out; omega
    have HO4 : Hid (RowB w4 (w.heap.size + 1) x4 y4) := o4
    have HY4 : Hid _ := hy4
    have Q4 : Hid _ := q4
    clear o4 g4 hy4 c1' c2' q4
    go_wp2_with fail
    refine (listS_any HO4.out hB4 (H2.out.below Q4.out) (fun hl => apart_S (row_base HO4.out (Nat.le_succ _)) H2.out hl) HSF.out (by omega) (by omega)).mono ?_
    rintro e w5 ⟨x5, rfl, o5, g5⟩
    have q5 : Below w.heap.size w w5 := Q4.out.trans (row_below HO4.out g5 hB4)
    have o6 : RowB w5 w.heap.size x5 (formI m) := by
      rw [← HFB.out (y4 ++ (W.put l2 ++ m.syms.flatMap symB)) (by rw [HY4.out, HY3.out, HN1.out, HN2.out])]
      exact row_base o5 (Nat.le_succ _)
    have Q5 : Hid _ := q5
    have hcv := conv_own o6
    clear o5 g5 o6 d2 q5
    go_wp2_with fail
    go_ret2
    exact ⟨by rw [HE1.out, HE2.out]; rfl, Q5.out⟩
end Go.Proofs.YtmplnkfjaeegdaaDoor

/- What image.Read comes to. -/
namespace Go.Proofs.YtmplnkfjaeegdaaDoor
set_option maxRecDepth 100000
open Go.RowKit Go.Maps Go.Lib
set_option linter.unusedVariables false
set_option linter.unusedSimpArgs false

def img1 : ByteArray := ⟨#[73, 77, 71, 49]⟩
def noImgV : Value := .agg #[.string { data := #[] }, .slice none 0 0, .slice none 0 0]
/-- What stands behind the mark, as an object's form. -/
def behind (s : ByteArray) : ByteArray := cot1 ++ s ++ strOfNums (W.put 0)
def rdBodyI (s : ByteArray) : Option ImgD := match rdObj (behind s) with
  | none => none
  | some o => if o.rels.length = 0 then some ⟨o.code, o.data, o.syms⟩ else none
def markedI (s : ByteArray) : Prop := 4 ≤ s.size ∧ s.extract 0 4 = img1
instance (s : ByteArray) : Decidable (markedI s) := inferInstanceAs (Decidable (_ ∧ _))
def rdImg (s : ByteArray) : Option ImgD := if markedI s then (match rdBodyI (s.extract 4 s.size) with
  | none => none
  | some m => if m.may = true then some m else none) else none

theorem img_list (t : ByteArray) : (t.toList == [73, 77, 71, 49]) = decide (t = img1) := by
  rw [ByteArray.toList_eq]
  by_cases e : t = img1
  · subst e; rfl
  · rw [decide_eq_false e]; exact beq_eq_false_iff_ne.2 (fun h => e (bytes_ext h))

set_option maxHeartbeats 4000000 in
theorem pre_any (s : ByteArray) (w : World) : Calls Tryd.prog 79 #[.string s, .string { data := #[73, 77, 71, 49] }] w fun e w' => e = .returned (.bool (decide (markedI s))) ∧ w' = w := by
  by_cases h4 : 4 ≤ s.size
  · have HG : Hid (decide (markedI s) = decide (s.extract 0 4 = img1)) := by show _ = _; congr 1; exact propext ⟨fun h => h.2, fun h => ⟨h4, h⟩⟩
    rw [HG.out, ← img_list]
    have h4' : (4 : Int) ≤ s.size := by omega
    generalize hR : ((s.extract 0 4).toList == [73, 77, 71, 49]) = R
    go_enter Tryd.func79, Tryd.ntmps79
    go_wp2
    go_ret
    exact ⟨rfl, rfl⟩
  · have HG : Hid (decide (markedI s) = false) := decide_eq_false (fun h => h4 h.1)
    rw [HG.out]
    have h4' : ¬ (4 : Int) ≤ s.size := by omega
    go_enter Tryd.func79, Tryd.ntmps79
    go_wp2
    go_ret
    exact ⟨rfl, rfl⟩

theorem cut2_any (s : ByteArray) (w : World) : Calls Tryd.prog 55 #[.string s, .string { data := #[73, 77, 71, 49] }] w fun e w' => e = .returned (.tuple #[.string (if markedI s then s.extract 4 s.size else s), .bool (decide (markedI s))]) ∧ w' = w := by
  by_cases h : markedI s
  · rw [if_pos h]
    have h4 := h.1
    have h4' : (4 : Int) ≤ s.size := by omega
    have HD : Hid (decide (markedI s) = true) := decide_eq_true h
    rw [HD.out]
    clear h
    go_enter Tryd.func55, Tryd.ntmps55
    go_wp2_with (go_at_call 79; refine (pre_any s _).mono ?_; rintro e y ⟨rfl, rfl⟩; rw [HD.out])
    go_ret2
    exact ⟨rfl, rfl⟩
  · rw [if_neg h]
    have HD : Hid (decide (markedI s) = false) := decide_eq_false h
    rw [HD.out]
    clear h
    go_enter Tryd.func55, Tryd.ntmps55
    go_wp2_with (go_at_call 79; refine (pre_any s _).mono ?_; rintro e y ⟨rfl, rfl⟩; rw [HD.out])
    go_ret2
    exact ⟨rfl, rfl⟩
theorem cut_any (s : ByteArray) (w : World) : Calls Tryd.prog 33 #[.string s, .string { data := #[73, 77, 71, 49] }] w fun e w' => e = .returned (.tuple #[.string (if markedI s then s.extract 4 s.size else s), .bool (decide (markedI s))]) ∧ w' = w := by
  generalize hR1 : (if markedI s then s.extract 4 s.size else s) = R1
  generalize hR2 : decide (markedI s) = R2
  have H1 : Hid _ := hR1
  have H2 : Hid _ := hR2
  clear hR1 hR2
  go_enter Tryd.func33, Tryd.ntmps33
  go_wp2_with (go_at_call 55; refine (cut2_any s _).mono ?_; rintro e y ⟨rfl, rfl⟩; rw [H1.out, H2.out])
  go_ret2
  exact ⟨rfl, rfl⟩

/-- What readBody hands back. -/
def BodyIs (w w' : World) (e : Ending) (s : ByteArray) : Prop := ((∃ m, rdBodyI s = some m ∧ ∃ a1 l1 c1 a2 l2 c2, e = .returned (.tuple #[.agg #[.string m.code, .slice a1 l1 c1, .slice a2 l2 c2], .bool true]) ∧ ImgV w' (.agg #[.string m.code, .slice a1 l1 c1, .slice a2 l2 c2]) m) ∨ (rdBodyI s = none ∧ e = .returned (.tuple #[noImgV, .bool false]))) ∧ Below w.heap.size w w'

set_option maxHeartbeats 8000000 in
theorem body_any (s : ByteArray) (hs : s.size ≤ 4611686018427387904) (w : World) :
    Calls Tryd.prog 34 #[.string s] w fun e w' => BodyIs w w' e s := by
  have h1 : ¬ 9223372036854775807 < 4 + s.size := by omega
  have hput : W.put 0 = [0] := by decide
  have hps : (strOfNums (W.put 0)).size = 1 := by rw [hput]; rfl
  have HBE : Hid (behind s = { data := #[67, 79, 84, 49] } ++ s ++ strOfNums (W.put 0)) := rfl
  have HBS : Hid ((behind s).size ≤ maxLen) := by
    show _ ≤ _
    rw [HBE.out, ByteArray.size_append, ByteArray.size_append, hps]
    show 4 + s.size + 1 ≤ maxLen
    unfold maxLen; omega
  obtain ⟨pz, hpz⟩ : ∃ pz, strOfNums (W.put 0) = pz := ⟨_, rfl⟩
  have HPZ : Hid _ := hpz
  rw [hpz] at hps HBE
  have h2 : ¬ 9223372036854775807 < (({ data := #[67, 79, 84, 49] } : ByteArray) ++ s).size + pz.size := by rw [ByteArray.size_append, hps]; show ¬ 9223372036854775807 < 4 + s.size + 1; omega
  obtain ⟨W1, hW1⟩ : ∃ W1, w.alloc (.cells #[.string { data := #[] }, .slice none 0 0, .slice none 0 0] 25) = W1 := ⟨_, rfl⟩
  have b1 : Below w.heap.size w W1 := by subst hW1; exact bl_one _ _
  have HB1 : Hid _ := b1
  have v0 : W1.cell? ⟨w.heap.size, 0, none⟩ = some (.string { data := #[] }) := by subst hW1; exact cell_last rfl rfl
  have v1 : W1.cell? ⟨w.heap.size, 1, none⟩ = some (.slice none 0 0) := by subst hW1; exact cell_last rfl rfl
  have v2 : W1.cell? ⟨w.heap.size, 2, none⟩ = some (.slice none 0 0) := by subst hW1; exact cell_last rfl rfl
  have f0 : ∀ j, W1.frozen? ⟨w.heap.size, j, none⟩ = false := by subst hW1; exact fun j => World.frozen?_alloc_at _ _ _ _ (by simp)
  have hww : w.heap.size < W1.heap.size := by subst hW1; simp
  clear b1 hpz hput
  go_enter Tryd.func34, Tryd.ntmps34
  go_wp2_with (go_at_call 57; refine (put_any 0 (by decide) (by decide) _).mono ?_; rintro e y1 ⟨rfl, g1⟩; rw [HPZ.out]; have G1 : Hid _ := g1; clear g1)
  rw [← HBE.out]
  refine (read_any (behind s) HBS.out _).mono ?_
  rintro e y2 ⟨hcase, g2⟩
  have B12 : Hid (Below W1.heap.size W1 y2) := G1.out.trans (g2.mono G1.out.size)
  have B2 : Hid (Below w.heap.size w y2) := HB1.out.trans (B12.out.mono HB1.out.size)
  have p0 := cell_thru B12.out v0
  have p1 := cell_thru B12.out v1
  have p2 := cell_thru B12.out v2
  have F2 : Hid (∀ j, y2.frozen? ⟨w.heap.size, j, none⟩ = false) := fun j => (B12.out.frozen (p := ⟨w.heap.size, j, none⟩) hww).trans (f0 j)
  have hw2 : w.heap.size < y2.heap.size := Nat.lt_of_lt_of_le hww B12.out.size
  have hwy : w.heap.size < y1.heap.size := Nat.lt_of_lt_of_le hww G1.out.size
  clear g2 v0 v1 v2 f0 h1 h2
  have key : ∃ (code : ByteArray) (a1 : Option Addr) (l1 c1 : Nat) (a2 : Option Addr) (l2 c2 : Nat) (a3 : Option Addr) (l3 c3 : Nat) (er : Int), e = .returned (.tuple #[.agg #[.string code, .slice a1 l1 c1, .slice a2 l2 c2, .slice a3 l3 c3], .int .i64 er]) ∧ ((∃ o : ObjD, rdObj (behind s) = some o ∧ er = 0 ∧ o.code = code ∧ o.rels.length = l3 ∧ ObjF y1.heap.size y2 (.agg #[.string code, .slice a1 l1 c1, .slice a2 l2 c2, .slice a3 l3 c3]) o) ∨ (rdObj (behind s) = none ∧ er = 9)) := by
    rcases hcase with ⟨o, hro, v, rfl, hF⟩ | ⟨hro, rfl⟩
    · obtain ⟨a1, l1, c1, a2, l2, c2, a3, l3, c3, hve, hcs, V1, V2, V3⟩ := hF.toV.form
      exact ⟨o.code, a1, l1, c1, a2, l2, c2, a3, l3, c3, 0, by rw [hve], .inl ⟨o, hro, rfl, rfl, V3.count, by rw [← hve]; exact hF⟩⟩
    · exact ⟨{ data := #[] }, none, 0, 0, none, 0, 0, none, 0, 0, 9, rfl, .inr ⟨hro, rfl⟩⟩
  obtain ⟨code, a1, l1, c1, a2, l2, c2, a3, l3, c3, er, rfl, hc⟩ := key
  have HCA : Hid _ := hc
  obtain ⟨Y3, hY3⟩ : ∃ Y3, y2.alloc (.cells #[.string code, .slice a1 l1 c1, .slice a2 l2 c2, .slice a3 l3 c3] 90) = Y3 := ⟨_, rfl⟩
  have b3 : Below y2.heap.size y2 Y3 := by subst hY3; exact bl_one _ _
  have q0 : Y3.cell? ⟨y2.heap.size, 0, none⟩ = some (.string code) := by subst hY3; exact cell_last rfl rfl
  have q1 : Y3.cell? ⟨y2.heap.size, 1, none⟩ = some (.slice a1 l1 c1) := by subst hY3; exact cell_last rfl rfl
  have q2 : Y3.cell? ⟨y2.heap.size, 2, none⟩ = some (.slice a2 l2 c2) := by subst hY3; exact cell_last rfl rfl
  have q3 : Y3.cell? ⟨y2.heap.size, 3, none⟩ = some (.slice a3 l3 c3) := by subst hY3; exact cell_last rfl rfl
  have r0 := cell_thru b3 p0
  have r1 := cell_thru b3 p1
  have r2 := cell_thru b3 p2
  have B3 : Hid (Below w.heap.size w Y3) := B2.out.trans (b3.mono B2.out.size)
  have z0 := (b3.frozen (p := ⟨w.heap.size, 0, none⟩) hw2).trans (F2.out 0)
  have z1 := (b3.frozen (p := ⟨w.heap.size, 1, none⟩) hw2).trans (F2.out 1)
  have z2 := (b3.frozen (p := ⟨w.heap.size, 2, none⟩) hw2).trans (F2.out 2)
  have hne : w.heap.size ≠ y2.heap.size := by omega
  have HB3 : Hid _ := b3
  clear hcase hc b3 p0 p1 p2
  by_cases hgood : er = 0 ∧ l3 = 0
  · obtain ⟨rfl, rfl⟩ := hgood
    obtain ⟨o, hro, -, hco, hl3, hF⟩ : ∃ o : ObjD, rdObj (behind s) = some o ∧ (0 : Int) = 0 ∧ o.code = code ∧ o.rels.length = 0 ∧ ObjF y1.heap.size y2 (.agg #[.string code, .slice a1 l1 c1, .slice a2 l2 c2, .slice a3 0 c3]) o := by
      rcases HCA.out with h | ⟨-, h⟩
      · exact h
      · exact absurd h (by decide)
    have HRD : Hid (rdBodyI s = some ⟨o.code, o.data, o.syms⟩) := by show _ = _; unfold rdBodyI; rw [hro]; simp only; rw [if_pos hl3]
    have HCO : Hid _ := hco
    have HF3 : Hid _ := hF.below HB3.out
    have HF4 : Hid (ObjF y1.heap.size (((Y3.setCell ⟨w.heap.size, 0, none⟩ (.string code)).setCell ⟨w.heap.size, 1, none⟩ (.slice a1 l1 c1)).setCell ⟨w.heap.size, 2, none⟩ (.slice a2 l2 c2)) (.agg #[.string code, .slice a1 l1 c1, .slice a2 l2 c2, .slice a3 0 c3]) o) := ((HF3.out.far _ _ hwy).far _ _ hwy).far _ _ hwy
    have B4 : Hid (Below w.heap.size w (((Y3.setCell ⟨w.heap.size, 0, none⟩ (.string code)).setCell ⟨w.heap.size, 1, none⟩ (.slice a1 l1 c1)).setCell ⟨w.heap.size, 2, none⟩ (.slice a2 l2 c2))) := ((B3.out.setCell (Nat.le_refl _) _).setCell (Nat.le_refl _) _).setCell (Nat.le_refl _) _
    clear hro hl3 hF hco HCA
    go_wp2_with fail
    refine bodyPost_ret (v := .tuple #[.agg #[.string code, .slice a1 l1 c1, .slice a2 l2 c2], .bool true]) (by simp [results, Tryd.results34, go_sem, r0, r1, r2]) rfl ?_
    refine ⟨.inl ⟨_, HRD.out, a1, l1, c1, a2, l2, c2, by rw [HCO.out], ?_⟩, B4.out⟩
    obtain ⟨b1, m1, d1, b2, m2, d2, b3, m3, d3, hve, hcs, V1, V2, V3⟩ := HF4.out.toV.form
    simp at hve
    obtain ⟨-, ⟨rfl, rfl, rfl⟩, ⟨rfl, rfl, rfl⟩, -⟩ := hve
    exact ⟨⟨_, _, _, _, _, _, rfl, hcs, V1, V2⟩⟩
  · have HRD : Hid (rdBodyI s = none) := by
      show _ = _
      unfold rdBodyI
      rcases HCA.out with ⟨o, hro, he, -, hl3, -⟩ | ⟨hro, -⟩
      · rw [hro]; simp only
        rw [if_neg (fun h => hgood ⟨he, by omega⟩)]
      · rw [hro]
    have B4 : Hid (Below w.heap.size w (((Y3.setCell ⟨w.heap.size, 0, none⟩ (.string { data := #[] })).setCell ⟨w.heap.size, 1, none⟩ (.slice none 0 0)).setCell ⟨w.heap.size, 2, none⟩ (.slice none 0 0))) := ((B3.out.setCell (Nat.le_refl _) _).setCell (Nat.le_refl _) _).setCell (Nat.le_refl _) _
    have key : er = 9 ∨ (er = 0 ∧ (0 : Int) < l3) := by
      rcases HCA.out with ⟨o, hro, he, -, hl3, -⟩ | ⟨hro, he⟩
      · right; refine ⟨he, ?_⟩; have : ¬ l3 = 0 := fun h => hgood ⟨he, h⟩; omega
      · exact .inl he
    clear hgood HCA
    rcases key with rfl | ⟨rfl, hp⟩
    all_goals
      go_wp2_with fail
      refine bodyPost_ret (v := .tuple #[noImgV, .bool false]) (by simp [results, Tryd.results34, go_sem, r0, r1, r2, noImgV]) rfl ?_
      exact ⟨.inr ⟨HRD.out, rfl⟩, B4.out⟩

/-- What Read hands back. -/
def RdIs (w w' : World) (e : Ending) (s : ByteArray) : Prop := ((∃ m, rdImg s = some m ∧ ∃ a1 l1 c1 a2 l2 c2, e = .returned (.tuple #[.agg #[.string m.code, .slice a1 l1 c1, .slice a2 l2 c2], .int .i64 0]) ∧ ImgV w' (.agg #[.string m.code, .slice a1 l1 c1, .slice a2 l2 c2]) m) ∨ (rdImg s = none ∧ e = .returned (.tuple #[noImgV, .int .i64 9]))) ∧ Below w.heap.size w w'
theorem IntsV.setI {w : World} {a : Option Addr} {l c : Nat} {zs : List Int} (h : IntsV w a l c zs) (p : Addr) (hp : ∀ b off, a = some ⟨b, off, none⟩ → 0 < l → b ≠ p.block) (v : Value) : IntsV (w.setCell p v) a l c zs := by
  refine ⟨h.count, h.fits, h.nilOf, ?_⟩
  rcases h.cells with h0 | ⟨b, off, ha, hc⟩
  · exact .inl h0
  · by_cases h0 : l = 0
    · exact .inl h0
    · exact .inr ⟨b, off, ha, fun i hi => by rw [World.cell?_setCell_far _ _ _ _ (fun e => hp b off ha (by omega) e.symm)]; exact hc i hi⟩
theorem SymsV.setI {w : World} {a : Option Addr} {l c : Nat} {zs : List Sym} (h : SymsV w a l c zs) (p : Addr) (hp : ∀ b off, a = some ⟨b, off, none⟩ → 0 < l → b ≠ p.block) (v : Value) : SymsV (w.setCell p v) a l c zs := by
  refine ⟨h.count, h.fits, h.nilOf, ?_⟩
  rcases h.cells with h0 | ⟨b, off, ha, hc⟩
  · exact .inl h0
  · by_cases h0 : l = 0
    · exact .inl h0
    · have hne : p.block ≠ b := fun e => hp b off ha (by omega) e.symm
      exact .inr ⟨b, off, ha, fun i hi => ⟨(World.cell?_setCell_far _ _ _ _ hne).trans (hc i hi).1, (World.cell?_setCell_far _ _ _ _ hne).trans (hc i hi).2.1, (World.cell?_setCell_far _ _ _ _ hne).trans (hc i hi).2.2⟩⟩
theorem ImgV.set3 {w : World} {g : Nat} {v : Value} {m : ImgD} (h : ImgV w v m) (hno : ∀ j n, w.cell? ⟨g, j, none⟩ ≠ some (.int .i64 n)) (u0 u1 u2 : Value) : ImgV (((w.setCell ⟨g, 0, none⟩ u0).setCell ⟨g, 1, none⟩ u1).setCell ⟨g, 2, none⟩ u2) v m := by
  obtain ⟨a1, l1, c1, a2, l2, c2, e, hs, h1, h2⟩ := h.form
  have k1 : ∀ b off, a1 = some ⟨b, off, none⟩ → 0 < l1 → b ≠ g := fun b off ha hl e => by
    rcases h1.cells with h0 | ⟨b', off', ha', hc⟩
    · omega
    · rw [ha] at ha'; cases ha'; subst e; exact hno _ _ (hc 0 hl)
  have k2 : ∀ b off, a2 = some ⟨b, off, none⟩ → 0 < l2 → b ≠ g := fun b off ha hl e => by
    rcases h2.cells with h0 | ⟨b', off', ha', hc⟩
    · omega
    · rw [ha] at ha'; cases ha'; subst e; exact hno _ _ (hc 0 hl).2.1
  exact ⟨⟨a1, l1, c1, a2, l2, c2, e, hs, ((h1.setI ⟨g, 0, none⟩ k1 u0).setI ⟨g, 1, none⟩ k1 u1).setI ⟨g, 2, none⟩ k1 u2, ((h2.setI ⟨g, 0, none⟩ k2 u0).setI ⟨g, 1, none⟩ k2 u1).setI ⟨g, 2, none⟩ k2 u2⟩⟩

set_option maxHeartbeats 8000000 in
theorem iread_img (s : ByteArray) (hs : s.size ≤ 4611686018427387904) (w : World) (ht : Tab w) :
    Calls Tryd.prog 17 #[.string s] w fun e w' => RdIs w w' e s := by
  have HT : Hid _ := ht
  obtain ⟨W1, hW1⟩ : ∃ W1, w.alloc (.cells #[.string { data := #[] }, .slice none 0 0, .slice none 0 0] 25) = W1 := ⟨_, rfl⟩
  have b1 : Below w.heap.size w W1 := by subst hW1; exact bl_one _ _
  have HB1 : Hid _ := b1
  have v0 : W1.cell? ⟨w.heap.size, 0, none⟩ = some (.string { data := #[] }) := by subst hW1; exact cell_last rfl rfl
  have v1 : W1.cell? ⟨w.heap.size, 1, none⟩ = some (.slice none 0 0) := by subst hW1; exact cell_last rfl rfl
  have v2 : W1.cell? ⟨w.heap.size, 2, none⟩ = some (.slice none 0 0) := by subst hW1; exact cell_last rfl rfl
  have f0 : ∀ j, W1.frozen? ⟨w.heap.size, j, none⟩ = false := by subst hW1; exact fun j => World.frozen?_alloc_at _ _ _ _ (by simp)
  have hww : w.heap.size < W1.heap.size := by subst hW1; simp
  have HNI : Hid (∀ j n, W1.cell? ⟨w.heap.size, j, none⟩ ≠ some (.int .i64 n)) := by
    intro j n
    subst hW1
    match j with
    | 0 => simp
    | 1 => simp
    | 2 => simp
    | j + 3 => simp
  clear b1 ht
  by_cases hmk : markedI s
  rotate_left
  · have HRD : Hid (rdImg s = none) := if_neg hmk
    have HM1 : Hid ((if markedI s then s.extract 4 s.size else s) = s) := if_neg hmk
    have HM2 : Hid (decide (markedI s) = false) := decide_eq_false hmk
    have z0 := f0 0
    have z1 := f0 1
    have z2 := f0 2
    have B4 : Hid (Below w.heap.size w (((W1.setCell ⟨w.heap.size, 0, none⟩ (.string { data := #[] })).setCell ⟨w.heap.size, 1, none⟩ (.slice none 0 0)).setCell ⟨w.heap.size, 2, none⟩ (.slice none 0 0))) := ((HB1.out.setCell (Nat.le_refl _) _).setCell (Nat.le_refl _) _).setCell (Nat.le_refl _) _
    clear f0 hmk
    go_enter Tryd.func17, Tryd.ntmps17
    go_wp2_with (go_at_call 33; refine (cut_any s _).mono ?_; rintro e y ⟨rfl, rfl⟩; rw [HM1.out, HM2.out])
    refine bodyPost_ret (v := .tuple #[noImgV, .int .i64 9]) (by simp [results, Tryd.results17, go_sem, v0, v1, v2, noImgV]) rfl ?_
    exact ⟨.inr ⟨HRD.out, rfl⟩, B4.out⟩
  have HM2 : Hid (decide (markedI s) = true) := decide_eq_true hmk
  have HRD0 : Hid (rdImg s = (match rdBodyI (s.extract 4 s.size) with | none => none | some m => if m.may = true then some m else none)) := if_pos hmk
  have HSZ : Hid ((s.extract 4 s.size).size ≤ 4611686018427387904) := by show _ ≤ _; rw [ByteArray.size_extract]; omega
  obtain ⟨bd, hbd⟩ : ∃ bd, s.extract 4 s.size = bd := ⟨_, rfl⟩
  have HM1 : Hid ((if markedI s then s.extract 4 s.size else s) = bd) := (if_pos hmk).trans hbd
  rw [hbd] at HRD0 HSZ
  clear hmk hbd
  go_enter Tryd.func17, Tryd.ntmps17
  go_wp2_with (go_at_call 33; refine (cut_any s _).mono ?_; rintro e y ⟨rfl, rfl⟩; rw [HM1.out, HM2.out])
  refine (body_any bd HSZ.out _).mono ?_
  rintro e y2 ⟨hcase, g2⟩
  have p0 := cell_thru g2 v0
  have p1 := cell_thru g2 v1
  have p2 := cell_thru g2 v2
  have G2 : Hid _ := g2
  have B2 : Hid (Below w.heap.size w y2) := HB1.out.trans (g2.mono HB1.out.size)
  have F2 : Hid (∀ j, y2.frozen? ⟨w.heap.size, j, none⟩ = false) := fun j => (g2.frozen (p := ⟨w.heap.size, j, none⟩) hww).trans (f0 j)
  have hw2 : w.heap.size < y2.heap.size := Nat.lt_of_lt_of_le hww g2.size
  have key : ∃ (code : ByteArray) (a1 : Option Addr) (l1 c1 : Nat) (a2 : Option Addr) (l2 c2 : Nat) (ok : Bool), e = .returned (.tuple #[.agg #[.string code, .slice a1 l1 c1, .slice a2 l2 c2], .bool ok]) ∧ ((∃ m : ImgD, rdBodyI bd = some m ∧ ok = true ∧ m.code = code ∧ ImgV y2 (.agg #[.string code, .slice a1 l1 c1, .slice a2 l2 c2]) m) ∨ (rdBodyI bd = none ∧ ok = false)) := by
    rcases hcase with ⟨m, hro, a1, l1, c1, a2, l2, c2, rfl, hV⟩ | ⟨hro, rfl⟩
    · exact ⟨m.code, a1, l1, c1, a2, l2, c2, true, rfl, .inl ⟨m, hro, rfl, rfl, hV⟩⟩
    · exact ⟨{ data := #[] }, none, 0, 0, none, 0, 0, false, rfl, .inr ⟨hro, rfl⟩⟩
  obtain ⟨code, a1, l1, c1, a2, l2, c2, ok, rfl, hc⟩ := key
  obtain ⟨Y3, hY3⟩ : ∃ Y3, y2.alloc (.cells #[.string code, .slice a1 l1 c1, .slice a2 l2 c2] 25) = Y3 := ⟨_, rfl⟩
  have b3 : Below y2.heap.size y2 Y3 := by subst hY3; exact bl_one _ _
  have q0 : Y3.cell? ⟨y2.heap.size, 0, none⟩ = some (.string code) := by subst hY3; exact cell_last rfl rfl
  have q1 : Y3.cell? ⟨y2.heap.size, 1, none⟩ = some (.slice a1 l1 c1) := by subst hY3; exact cell_last rfl rfl
  have q2 : Y3.cell? ⟨y2.heap.size, 2, none⟩ = some (.slice a2 l2 c2) := by subst hY3; exact cell_last rfl rfl
  have r0 := cell_thru b3 p0
  have r1 := cell_thru b3 p1
  have r2 := cell_thru b3 p2
  have B3 : Hid (Below w.heap.size w Y3) := B2.out.trans (b3.mono B2.out.size)
  have hne : w.heap.size ≠ y2.heap.size := by omega
  have HB3 : Hid _ := b3
  have F3 : Hid (∀ j, Y3.frozen? ⟨w.heap.size, j, none⟩ = false) := fun j => (b3.frozen (p := ⟨w.heap.size, j, none⟩) hw2).trans (F2.out j)
  have hw3 : w.heap.size < Y3.heap.size := Nat.lt_of_lt_of_le hw2 b3.size
  have HCA : Hid _ := hc
  clear hcase g2 v0 v1 v2 f0 b3 p0 p1 p2 hc
  cases ok with
  | false =>
    have HRD : Hid (rdImg s = none) := by
      show _ = _
      rw [HRD0.out]
      rcases HCA.out with ⟨m, -, h, -⟩ | ⟨h, -⟩
      · exact absurd h (by decide)
      · rw [h]
    have z0 := F3.out 0
    have z1 := F3.out 1
    have z2 := F3.out 2
    have B4 : Hid (Below w.heap.size w (((Y3.setCell ⟨w.heap.size, 0, none⟩ (.string { data := #[] })).setCell ⟨w.heap.size, 1, none⟩ (.slice none 0 0)).setCell ⟨w.heap.size, 2, none⟩ (.slice none 0 0))) := ((B3.out.setCell (Nat.le_refl _) _).setCell (Nat.le_refl _) _).setCell (Nat.le_refl _) _
    go_wp2_with fail
    refine bodyPost_ret (v := .tuple #[noImgV, .int .i64 9]) (by simp [results, Tryd.results17, go_sem, r0, r1, r2, noImgV]) rfl ?_
    exact ⟨.inr ⟨HRD.out, rfl⟩, B4.out⟩
  | true =>
    obtain ⟨m, hro, -, hco, hV⟩ : ∃ m : ImgD, rdBodyI bd = some m ∧ true = true ∧ m.code = code ∧ ImgV y2 (.agg #[.string code, .slice a1 l1 c1, .slice a2 l2 c2]) m := by
      rcases HCA.out with h | ⟨-, h⟩
      · exact h
      · exact absurd h (by decide)
    rw [hro] at HRD0
    simp only at HRD0
    have HV3 : Hid _ := hV.below HB3.out
    have HCO : Hid _ := hco
    clear hro hco hV HCA
    go_wp2_with fail
    refine (imay_any HV3.out (Tab.below HT.out B3.out)).mono ?_
    rintro e y4 ⟨rfl, g4⟩
    have B4 : Hid (Below w.heap.size w y4) := B3.out.trans (g4.mono B3.out.size)
    have s0 := cell_thru g4 r0
    have s1 := cell_thru g4 r1
    have s2 := cell_thru g4 r2
    have t0 := cell_thru g4 q0
    have t1 := cell_thru g4 q1
    have t2 := cell_thru g4 q2
    have z0 := (g4.frozen (p := ⟨w.heap.size, 0, none⟩) hw3).trans (F3.out 0)
    have z1 := (g4.frozen (p := ⟨w.heap.size, 1, none⟩) hw3).trans (F3.out 1)
    have z2 := (g4.frozen (p := ⟨w.heap.size, 2, none⟩) hw3).trans (F3.out 2)
    have HV4 : Hid _ := HV3.out.below g4
    have HW14 : Hid (Below y.heap.size y y4) := (G2.out.trans (HB3.out.mono G2.out.size)).trans (g4.mono (Nat.le_trans G2.out.size HB3.out.size))
    clear g4 q0 q1 q2 r0 r1 r2
    cases hm : m.may with
    | false =>
      have HRD : Hid (rdImg s = none) := by show _ = _; rw [HRD0.out, hm]; rfl
      have B5 : Hid (Below w.heap.size w (((y4.setCell ⟨w.heap.size, 0, none⟩ (.string { data := #[] })).setCell ⟨w.heap.size, 1, none⟩ (.slice none 0 0)).setCell ⟨w.heap.size, 2, none⟩ (.slice none 0 0))) := ((B4.out.setCell (Nat.le_refl _) _).setCell (Nat.le_refl _) _).setCell (Nat.le_refl _) _
      go_wp2_with fail
      refine bodyPost_ret (v := .tuple #[noImgV, .int .i64 9]) (by simp [results, Tryd.results17, go_sem, s0, s1, s2, noImgV]) rfl ?_
      exact ⟨.inr ⟨HRD.out, rfl⟩, B5.out⟩
    | true =>
      have HRD : Hid (rdImg s = some m) := by show _ = _; rw [HRD0.out, hm]; rfl
      have B5 : Hid (Below w.heap.size w (((y4.setCell ⟨w.heap.size, 0, none⟩ (.string code)).setCell ⟨w.heap.size, 1, none⟩ (.slice a1 l1 c1)).setCell ⟨w.heap.size, 2, none⟩ (.slice a2 l2 c2))) := ((B4.out.setCell (Nat.le_refl _) _).setCell (Nat.le_refl _) _).setCell (Nat.le_refl _) _
      go_wp2_with fail
      refine bodyPost_ret (v := .tuple #[.agg #[.string code, .slice a1 l1 c1, .slice a2 l2 c2], .int .i64 0]) (by simp [results, Tryd.results17, go_sem, s0, s1, s2]) rfl ?_
      refine ⟨.inl ⟨m, HRD.out, a1, l1, c1, a2, l2, c2, by rw [HCO.out], ?_⟩, B5.out⟩
      rw [HCO.out]
      refine ImgV.set3 HV4.out (fun j n e => HNI.out j n ?_) _ _ _
      exact (HW14.out.cell (p := ⟨w.heap.size, j, none⟩) hww).symm.trans e
end Go.Proofs.YtmplnkfjaeegdaaDoor

/- Images there and back, no program in sight; and what the document's Same comes to. -/
namespace Go.Proofs.YtmplnkfjaeegdaaDoor
set_option maxRecDepth 100000
open Go.RowKit Go.Maps Go.Lib
set_option linter.unusedVariables false
set_option linter.unusedSimpArgs false

theorem nums_app (a b : ByteArray) : nums (a ++ b) = nums a ++ nums b := by unfold nums; simp [W.tail]
theorem put_zero : W.put 0 = [0] := by decide
theorem formB_img (m : ImgD) : formB m.obj = [67, 79, 84, 49] ++ bodyI m ++ [0] := by
  simp [formB, bodyI, ImgD.obj, put_zero]
theorem nums_behind (b : ByteArray) : nums (behind b) = [67, 79, 84, 49] ++ nums b ++ [0] := by
  unfold behind
  rw [nums_app, nums_app, nums_cot1, put_zero]
  rfl
theorem nums_split {s : ByteArray} (h : 4 ≤ s.size) : nums s = nums (s.extract 0 4) ++ nums (s.extract 4 s.size) := by
  have h1 := nums_sub s 0 4
  have h2 := nums_sub s 4 (s.size - 4)
  unfold sub at h1 h2
  rw [Nat.zero_add] at h1
  rw [show 4 + (s.size - 4) = s.size by omega] at h2
  rw [h1, h2]
  have h3 : W.tail s (0 + 4) = (W.tail s 0).drop 4 := tail_drop s 0 4
  rw [Nat.zero_add] at h3
  have h4 : (W.tail s 4).length = s.size - 4 := by simp [W.tail]
  have h5 : (W.tail s 4).take (s.size - 4) = W.tail s 4 := List.take_of_length_le (by omega)
  rw [h5, h3]
  unfold nums
  exact (List.take_append_drop 4 _).symm
theorem wrI_rd {s : ByteArray} {m : ImgD} (h : rdImg s = some m) : strOfNums (formI m) = s ∧ m.may = true ∧ ObjIn m.obj := by
  unfold rdImg at h
  split at h
  · rename_i hmk
    unfold rdBodyI at h
    cases ho : rdObj (behind (s.extract 4 s.size)) with
    | none => rw [ho] at h; simp at h
    | some o =>
      rw [ho] at h
      simp only at h
      by_cases hr : o.rels.length = 0
      · rw [if_pos hr] at h
        simp only at h
        split at h
        · rename_i hm
          injection h with h
          subst h
          have hre : o.rels = [] := List.eq_nil_of_length_eq_zero hr
          have hobj : (ImgD.mk o.code o.data o.syms).obj = o := by cases o; simp only at hre; subst hre; rfl
          obtain ⟨h1, h2, h3⟩ := obj_sound ho
          refine ⟨?_, hm, by rw [hobj]; exact h2⟩
          rw [nums_behind, ← hobj, formB_img] at h1
          have h4 : nums (s.extract 4 s.size) = bodyI ⟨o.code, o.data, o.syms⟩ := by simpa using h1
          have h5 : nums s = formI ⟨o.code, o.data, o.syms⟩ := by
            rw [nums_split hmk.1, hmk.2, h4, formI_eq]
            rfl
          rw [← h5]
          exact str_nums s
        · simp at h
      · rw [if_neg hr] at h; simp at h
  · simp at h
theorem body_bd {m : ImgD} (h : ObjIn m.obj) : ∀ n ∈ formI m, 0 ≤ n ∧ n ≤ 255 := fun n hn => by
  rw [formI_eq] at hn
  rcases List.mem_append.1 hn with h1 | h1
  · simp at h1; omega
  · exact form_bd h n (by rw [formB_img]; simp [h1])
theorem rd_wrI {m : ImgD} (h : ObjIn m.obj) (hm : m.may = true) : rdImg (strOfNums (formI m)) = some m := by
  have hn : nums (strOfNums (formI m)) = formI m := nums_of (body_bd h)
  have hsz : (strOfNums (formI m)).size = (formI m).length := size_of (body_bd h)
  generalize strOfNums (formI m) = s at hn hsz
  have h4 : 4 ≤ s.size := by rw [hsz, formI_eq]; simp
  have hsp := nums_split h4
  rw [hn, formI_eq] at hsp
  have hl4 : (nums (s.extract 0 4)).length = 4 := by
    have := nums_sub s 0 4
    unfold sub at this
    rw [Nat.zero_add] at this
    rw [this, List.length_take]
    have : (W.tail s 0).length = s.size := by simp [W.tail]
    omega
  have e1 := List.append_inj hsp (by rw [hl4]; rfl)
  have hx : s.extract 0 4 = img1 := bytes_nums (by rw [← e1.1]; rfl)
  have hob : rdObj (behind (s.extract 4 s.size)) = some m.obj := obj_compl h (ImgD.may_obj hm) (by rw [nums_behind, ← e1.2, formB_img])
  unfold rdImg
  rw [if_pos ⟨h4, hx⟩]
  unfold rdBodyI
  rw [hob]
  simp only
  rw [if_pos (show m.obj.rels.length = 0 from rfl)]
  simp only
  have : (ImgD.mk m.obj.code m.obj.data m.obj.syms) = m := rfl
  rw [this, if_pos hm]
theorem ImgV.isin {w : World} {v : Value} {m : ImgD} (h : ImgV w v m) (hm : m.may = true) : ObjIn m.obj := by
  obtain ⟨a1, l1, c1, a2, l2, c2, e, hs, h1, h2⟩ := h.form
  exact may_in (ImgD.may_obj hm) h1.fits (by simp [ImgD.obj])
theorem wrI_size {m : ImgD} (h : ObjIn m.obj) : (strOfNums (formI m)).size ≤ 100000000 := by
  have h1 := wr_size h
  unfold wrB at h1
  rw [size_of (form_bd h), formB_img] at h1
  rw [size_of (body_bd h), formI_eq]
  simp at h1 ⊢
  omega

set_option maxHeartbeats 8000000 in
theorem isame_any {w : World} {v v' : Value} {m p : ImgD} (h : ImgV w v m) (h' : ImgV w v' p) (hl1 : m.data.length ≤ maxLen) (hl2 : m.syms.length ≤ maxLen) (bb : Bool) (hbb : bb = true ↔ m = p) :
    Calls Tryd.prog 16 #[v, v'] w fun e w' => e = .returned (.bool bb) ∧ Below w.heap.size w w' := by
  obtain ⟨a1, l1, c1, a2, l2, c2, rfl, hcs, h1, h2⟩ := h.form
  obtain ⟨a1', l1', c1', a2', l2', c2', rfl, hcs', h1', h2'⟩ := h'.form
  obtain ⟨code, data, syms⟩ := m
  obtain ⟨code', data', syms'⟩ := p
  simp only at hcs hcs' h1 h2 h1' h2' hl1 hl2 ⊢
  have H1 : Hid _ := h1
  have H2 : Hid _ := h2
  have H1' : Hid _ := h1'
  have H2' : Hid _ := h2'
  have HBB : Hid _ := hbb
  have HL1 : Hid (l1 ≤ maxLen) := by show _ ≤ _; rw [← h1.count]; exact hl1
  have HL2 : Hid (l2 ≤ maxLen) := by show _ ≤ _; rw [← h2.count]; exact hl2
  clear h h' h1 h2 h1' h2' hcs hcs' hbb hl1 hl2
  obtain ⟨W1, hW1⟩ : ∃ W1, (w.alloc (.cells #[.string code, .slice a1 l1 c1, .slice a2 l2 c2] 25)).alloc (.cells #[.string code', .slice a1' l1' c1', .slice a2' l2' c2'] 25) = W1 := ⟨_, rfl⟩
  have b1 : Below w.heap.size w W1 := by subst hW1; exact (bl_one _ _).alloc (by simp) _
  have HB1 : Hid _ := b1
  have v0 : W1.cell? ⟨w.heap.size, 0, none⟩ = some (.string code) := by subst hW1; rw [World.cell?_alloc_past _ _ _ (by simp)]; simp
  have v1 : W1.cell? ⟨w.heap.size, 1, none⟩ = some (.slice a1 l1 c1) := by subst hW1; rw [World.cell?_alloc_past _ _ _ (by simp)]; simp
  have v2 : W1.cell? ⟨w.heap.size, 2, none⟩ = some (.slice a2 l2 c2) := by subst hW1; rw [World.cell?_alloc_past _ _ _ (by simp)]; simp
  have u0 : W1.cell? ⟨w.heap.size + 1, 0, none⟩ = some (.string code') := by subst hW1; exact cell_last (by simp) rfl
  have u1 : W1.cell? ⟨w.heap.size + 1, 1, none⟩ = some (.slice a1' l1' c1') := by subst hW1; exact cell_last (by simp) rfl
  have u2 : W1.cell? ⟨w.heap.size + 1, 2, none⟩ = some (.slice a2' l2' c2') := by subst hW1; exact cell_last (by simp) rfl
  clear b1
  by_cases hc : code = code'
  rotate_left
  · have HE : Hid (bb = false) := bool_no HBB.out (fun e => hc (by injection e))
    have hd := toList_ne hc
    clear hc
    go_enter Tryd.func16, Tryd.ntmps16
    go_wp2
    go_ret
    exact ⟨by rw [HE.out]; rfl, HB1.out⟩
  subst hc
  obtain ⟨b1, hb1⟩ := bool_of (data = data')
  obtain ⟨b2, hb2⟩ := bool_of (syms = syms')
  have HB1' : Hid _ := hb1
  have HB2' : Hid _ := hb2
  clear hb1 hb2
  go_enter Tryd.func16, Tryd.ntmps16
  go_wp2_with fail
  refine (samedata_any (H1.out.below HB1.out) (H1'.out.below HB1.out) HL1.out b1 HB1'.out).mono ?_
  rintro e y1 ⟨rfl, g1⟩
  have B1 : Hid (Below w.heap.size w y1) := HB1.out.trans (g1.mono HB1.out.size)
  have p2 := cell_thru g1 v2
  have q2 := cell_thru g1 u2
  clear g1 v0 v1 v2 u0 u1 u2
  cases b1 with
  | false =>
    have HE : Hid (bb = false) := bool_no HBB.out (fun e => by
      have : data = data' := by injection e
      exact absurd (HB1'.out.2 this) (by decide))
    go_wp2
    go_ret
    exact ⟨by rw [HE.out]; rfl, B1.out⟩
  | true =>
    have hde := HB1'.out.1 rfl
    have HDE : Hid _ := hde
    clear hde
    go_wp2_with fail
    refine (samesyms_any (H2.out.below B1.out) (H2'.out.below B1.out) HL2.out b2 HB2'.out).mono ?_
    rintro e y2 ⟨rfl, g2⟩
    have B2 : Hid (Below w.heap.size w y2) := B1.out.trans (g2.mono B1.out.size)
    clear g2
    have HE : Hid (bb = b2) := by
      show _ = _
      cases b2 with
      | false => exact bool_no HBB.out (fun e => by
          have : syms = syms' := by injection e
          exact absurd (HB2'.out.2 this) (by decide))
      | true => exact HBB.out.2 (by rw [HDE.out, HB2'.out.1 rfl])
    go_wp2
    go_ret
    exact ⟨by rw [HE.out]; rfl, B2.out⟩
end Go.Proofs.YtmplnkfjaeegdaaDoor
