/- What the statements' live and small come to. -/
import Derived.Test.YtaoklmphcgigeaaLinkOpen
namespace Go.Proofs.Ytaoklmphcgigeaa
open Go.RowKit Go.Lib
set_option linter.unusedVariables false
set_option linter.unusedSimpArgs false

def oA : ObjD := ⟨⟨#[23, 0, 0, 0, 0, 32]⟩, [], [⟨⟨#[102]⟩, 3, 0⟩], [⟨1, 1, ⟨#[103]⟩, 0⟩]⟩
def oB : ObjD := ⟨⟨#[24]⟩, [], [⟨⟨#[103]⟩, 1, 0⟩], []⟩
theorem live1 : linkE [oA, oB] = 0 := by decide +kernel
theorem live2 : linkC [oA, oB] = [23, 1, 0, 0, 0, 32, 24] := by decide +kernel
theorem live3 : linkS [oA, oB] = [⟨⟨#[102]⟩, 3, 0⟩, ⟨⟨#[103]⟩, 1, 6⟩] := by
  unfold linkS
  rw [live1]
  rfl
theorem live3d : linkD [oA, oB] = [] := by
  unfold linkD
  rw [live1]
  rfl
theorem live4 : linkE [oA] = 6 := by decide +kernel
theorem live5 : linkE [oB] = 8 := by decide +kernel
theorem live6 : linkE [oA, oA] = 5 := by decide +kernel
/-- Objects whose cells lie one behind the other in a block. -/
theorem objs_two {w : World} {b : Nat} {d e : ObjD} {s t : Sl} (h1 : OC w b 0 d s) (h2 : OV w d s) (h3 : OC w b 4 e t) (h4 : OV w e t) : ObjsV w (some ⟨b, 0, none⟩) 2 2 [d, e] :=
  ⟨rfl, by decide, fun e => (by cases e), .inr ⟨b, 0, rfl, fun i hi => by
    rcases (show i = 0 ∨ i = 1 by omega) with rfl | rfl
    · exact ⟨s, h1, h2⟩
    · exact ⟨t, h3, h4⟩⟩⟩
theorem objs_one {w : World} {b : Nat} {d : ObjD} {s : Sl} (h1 : OC w b 0 d s) (h2 : OV w d s) : ObjsV w (some ⟨b, 0, none⟩) 1 1 [d] :=
  ⟨rfl, by decide, fun e => (by cases e), .inr ⟨b, 0, rfl, fun i hi => by
    obtain rfl : i = 0 := by omega
    exact ⟨s, h1, h2⟩⟩⟩
theorem ints_none (w : World) : IntsV w none 0 0 [] := ⟨rfl, by simp, fun _ => ⟨rfl, rfl⟩, .inl rfl⟩
theorem rels_none (w : World) : RelsV w none 0 0 [] := ⟨rfl, by simp, fun _ => ⟨rfl, rfl⟩, .inl rfl⟩
theorem syms_one {w : World} {b : Nat} {y : Sym} (h0 : w.cell? ⟨b, 0, none⟩ = some (.string y.name)) (h1 : w.cell? ⟨b, 1, none⟩ = some (.int .i64 y.kind)) (h2 : w.cell? ⟨b, 2, none⟩ = some (.int .i64 y.pos)) (hf : y.name.size ≤ maxLen ∧ (Lit.int .i64 y.kind).wf = true ∧ (Lit.int .i64 y.pos).wf = true) : SymsV w (some ⟨b, 0, none⟩) 1 1 [y] :=
  ⟨rfl, by simpa using hf, fun e => (by cases e), .inr ⟨b, 0, rfl, fun i hi => by
    obtain rfl : i = 0 := by omega
    exact ⟨h0, h1, h2⟩⟩⟩
theorem rels_one {w : World} {b : Nat} {y : Rel} (h0 : w.cell? ⟨b, 0, none⟩ = some (.int .i64 y.pos)) (h1 : w.cell? ⟨b, 1, none⟩ = some (.int .i64 y.kind)) (h2 : w.cell? ⟨b, 2, none⟩ = some (.string y.name)) (h3 : w.cell? ⟨b, 3, none⟩ = some (.int .i64 y.add)) (hf : y.name.size ≤ maxLen ∧ (Lit.int .i64 y.kind).wf = true ∧ (Lit.int .i64 y.pos).wf = true ∧ (Lit.int .i64 y.add).wf = true) : RelsV w (some ⟨b, 0, none⟩) 1 1 [y] :=
  ⟨rfl, by simpa using hf, fun e => (by cases e), .inr ⟨b, 0, rfl, fun i hi => by
    obtain rfl : i = 0 := by omega
    exact ⟨h0, h1, h2, h3⟩⟩⟩

set_option maxRecDepth 100000 in
set_option maxHeartbeats 8000000 in
theorem live_any (w : World) : Calls Try.prog 10 #[] w fun e w' => e = .returned (.bool true) ∧ Below w.heap.size w w' := by
  obtain ⟨W1, hW1⟩ : ∃ W1, ((w.alloc (.cells #[.string ⟨#[102]⟩, .int .i64 3, .int .i64 0] 36)).alloc (.cells #[.int .i64 1, .int .i64 1, .string ⟨#[103]⟩, .int .i64 0] 45)).alloc (.cells #[.string ⟨#[23, 0, 0, 0, 0, 32]⟩, .slice none 0 0, .slice (some ⟨w.heap.size, 0, none⟩) 1 1, .slice (some ⟨w.heap.size + 1, 0, none⟩) 1 1] 40) = W1 := ⟨_, rfl⟩
  obtain ⟨W2, hW2⟩ : ∃ W2, (W1.alloc (.cells #[.string ⟨#[103]⟩, .int .i64 1, .int .i64 0] 36)).alloc (.cells #[.string ⟨#[24]⟩, .slice none 0 0, .slice (some ⟨W1.heap.size, 0, none⟩) 1 1, .slice none 0 0] 40) = W2 := ⟨_, rfl⟩
  have bW1 : Below w.heap.size w W1 := by subst hW1; exact (((Below.refl _ _).alloc (Nat.le_refl _) _).alloc (by simp) _).alloc (by simp; omega) _
  have bW2 : Below W1.heap.size W1 W2 := by subst hW2; exact ((Below.refl _ _).alloc (Nat.le_refl _) _).alloc (by simp) _
  have ca1 : ∀ j u, (#[.string ⟨#[23, 0, 0, 0, 0, 32]⟩, .slice none 0 0, .slice (some ⟨w.heap.size, 0, none⟩) 1 1, .slice (some ⟨w.heap.size + 1, 0, none⟩) 1 1] : Array Value)[j]? = some u → W1.cell? ⟨w.heap.size + 1 + 1, j, none⟩ = some u := fun j u hu => by subst hW1; exact cell_last (by simp) hu
  have ca2 : ∀ j u, (#[.int .i64 1, .int .i64 1, .string ⟨#[103]⟩, .int .i64 0] : Array Value)[j]? = some u → W1.cell? ⟨w.heap.size + 1, j, none⟩ = some u := fun j u hu => by subst hW1; exact cell_thru (bl_one _ _) (cell_last (by simp) hu)
  have ca3 : ∀ j u, (#[.string ⟨#[102]⟩, .int .i64 3, .int .i64 0] : Array Value)[j]? = some u → W1.cell? ⟨w.heap.size, j, none⟩ = some u := fun j u hu => by subst hW1; exact cell_thru (bl_one _ _) (cell_thru (bl_one _ _) (cell_last rfl hu))
  have cb1 : ∀ j u, (#[.string ⟨#[24]⟩, .slice none 0 0, .slice (some ⟨W1.heap.size, 0, none⟩) 1 1, .slice none 0 0] : Array Value)[j]? = some u → W2.cell? ⟨W1.heap.size + 1, j, none⟩ = some u := fun j u hu => by subst hW2; exact cell_last (by simp) hu
  have cb2 : ∀ j u, (#[.string ⟨#[103]⟩, .int .i64 1, .int .i64 0] : Array Value)[j]? = some u → W2.cell? ⟨W1.heap.size, j, none⟩ = some u := fun j u hu => by subst hW2; exact cell_thru (bl_one _ _) (cell_last rfl hu)
  have HC : Hid (∀ y : World, Below W2.heap.size W2 y → (y.cell? ⟨w.heap.size + 1 + 1, 0, none⟩ = some (.string ⟨#[23, 0, 0, 0, 0, 32]⟩) ∧ y.cell? ⟨w.heap.size + 1 + 1, 1, none⟩ = some (.slice none 0 0) ∧ y.cell? ⟨w.heap.size + 1 + 1, 2, none⟩ = some (.slice (some ⟨w.heap.size, 0, none⟩) 1 1) ∧ y.cell? ⟨w.heap.size + 1 + 1, 3, none⟩ = some (.slice (some ⟨w.heap.size + 1, 0, none⟩) 1 1)) ∧ (y.cell? ⟨W1.heap.size + 1, 0, none⟩ = some (.string ⟨#[24]⟩) ∧ y.cell? ⟨W1.heap.size + 1, 1, none⟩ = some (.slice none 0 0) ∧ y.cell? ⟨W1.heap.size + 1, 2, none⟩ = some (.slice (some ⟨W1.heap.size, 0, none⟩) 1 1) ∧ y.cell? ⟨W1.heap.size + 1, 3, none⟩ = some (.slice none 0 0))) := fun y hb => ⟨⟨cell_thru hb (cell_thru bW2 (ca1 0 _ rfl)), cell_thru hb (cell_thru bW2 (ca1 1 _ rfl)), cell_thru hb (cell_thru bW2 (ca1 2 _ rfl)), cell_thru hb (cell_thru bW2 (ca1 3 _ rfl))⟩, cell_thru hb (cb1 0 _ rfl), cell_thru hb (cb1 1 _ rfl), cell_thru hb (cb1 2 _ rfl), cell_thru hb (cb1 3 _ rfl)⟩
  have HVA : Hid (∀ y : World, Below W2.heap.size W2 y → OV y oA ⟨none, 0, 0, some ⟨w.heap.size, 0, none⟩, 1, 1, some ⟨w.heap.size + 1, 0, none⟩, 1, 1⟩) := fun y hb => OV.below ⟨by decide, ints_none _, syms_one (cell_thru bW2 (ca3 0 _ rfl)) (cell_thru bW2 (ca3 1 _ rfl)) (cell_thru bW2 (ca3 2 _ rfl)) ⟨by decide, by decide, by decide⟩, rels_one (cell_thru bW2 (ca2 0 _ rfl)) (cell_thru bW2 (ca2 1 _ rfl)) (cell_thru bW2 (ca2 2 _ rfl)) (cell_thru bW2 (ca2 3 _ rfl)) ⟨by decide, by decide, by decide, by decide⟩⟩ hb
  have HVB : Hid (∀ y : World, Below W2.heap.size W2 y → OV y oB ⟨none, 0, 0, some ⟨W1.heap.size, 0, none⟩, 1, 1, none, 0, 0⟩) := fun y hb => OV.below ⟨by decide, ints_none _, syms_one (cb2 0 _ rfl) (cb2 1 _ rfl) (cb2 2 _ rfl) ⟨by decide, by decide, by decide⟩, rels_none _⟩ hb
  have HA0 : Hid (W1.cell? ⟨w.heap.size + 1 + 1, 0, none⟩ = some (.string ⟨#[23, 0, 0, 0, 0, 32]⟩)) := ca1 0 _ rfl
  have HA1 : Hid (W1.cell? ⟨w.heap.size + 1 + 1, 1, none⟩ = some (.slice none 0 0)) := ca1 1 _ rfl
  have HA2 : Hid (W1.cell? ⟨w.heap.size + 1 + 1, 2, none⟩ = some (.slice (some ⟨w.heap.size, 0, none⟩) 1 1)) := ca1 2 _ rfl
  have HA3 : Hid (W1.cell? ⟨w.heap.size + 1 + 1, 3, none⟩ = some (.slice (some ⟨w.heap.size + 1, 0, none⟩) 1 1)) := ca1 3 _ rfl
  clear ca1 ca2 ca3 cb1 cb2
  have BW2 : Below W2.heap.size W2 W2 := Below.refl _ _
  have HS2 : Hid (W2.heap.size = W1.heap.size + 1 + 1) := by show _ = _; subst hW2; simp
  have bw2 : Below w.heap.size w W2 := bW1.trans (bW2.mono bW1.size)
  go_enter Try.func10, Try.ntmps10
  obtain ⟨V1, hV1⟩ : ∃ V, W2.alloc (.cells #[.string ⟨#[23, 0, 0, 0, 0, 32]⟩, .slice none 0 0, .slice (some ⟨w.heap.size, 0, none⟩) 1 1, .slice (some ⟨w.heap.size + 1, 0, none⟩) 1 1, .string ⟨#[24]⟩, .slice none 0 0, .slice (some ⟨W1.heap.size, 0, none⟩) 1 1, .slice none 0 0] 40) = V := ⟨_, rfl⟩
  have BV1 : Below W2.heap.size W2 V1 := by subst hV1; exact BW2.alloc BW2.size _
  have cc1 : ∀ j u, (#[.string ⟨#[23, 0, 0, 0, 0, 32]⟩, .slice none 0 0, .slice (some ⟨w.heap.size, 0, none⟩) 1 1, .slice (some ⟨w.heap.size + 1, 0, none⟩) 1 1, .string ⟨#[24]⟩, .slice none 0 0, .slice (some ⟨W1.heap.size, 0, none⟩) 1 1, .slice none 0 0] : Array Value)[j]? = some u → V1.cell? ⟨W2.heap.size, j, none⟩ = some u := fun j u hu => by subst hV1; exact cell_last rfl hu
  have HO1 : Hid (ObjsV V1 (some ⟨W2.heap.size, 0, none⟩) 2 2 [oA, oB]) := objs_two ⟨cc1 0 _ rfl, cc1 1 _ rfl, cc1 2 _ rfl, cc1 3 _ rfl⟩ (HVA.out _ BV1) ⟨cc1 4 _ rfl, cc1 5 _ rfl, cc1 6 _ rfl, cc1 7 _ rfl⟩ (HVB.out _ BV1)
  clear cc1
  have k0 : ∀ o o' : Obj, ((W1.alloc o).alloc o').cell? ⟨w.heap.size + 1 + 1, 0, none⟩ = some (.string ⟨#[23, 0, 0, 0, 0, 32]⟩) := fun o o' => cell_thru (bl_one _ _) (cell_thru (bl_one _ _) HA0.out)
  have k1 : ∀ o o' : Obj, ((W1.alloc o).alloc o').cell? ⟨w.heap.size + 1 + 1, 1, none⟩ = some (.slice none 0 0) := fun o o' => cell_thru (bl_one _ _) (cell_thru (bl_one _ _) HA1.out)
  have k2 : ∀ o o' : Obj, ((W1.alloc o).alloc o').cell? ⟨w.heap.size + 1 + 1, 2, none⟩ = some (.slice (some ⟨w.heap.size, 0, none⟩) 1 1) := fun o o' => cell_thru (bl_one _ _) (cell_thru (bl_one _ _) HA2.out)
  have k3 : ∀ o o' : Obj, ((W1.alloc o).alloc o').cell? ⟨w.heap.size + 1 + 1, 3, none⟩ = some (.slice (some ⟨w.heap.size + 1, 0, none⟩) 1 1) := fun o o' => cell_thru (bl_one _ _) (cell_thru (bl_one _ _) HA3.out)
  have HW2 : Hid _ := hW2
  have HV1 : Hid _ := hV1
  clear hW2 hV1
  go_wp2_with fail
  rw [HW2.out, HV1.out]
  rw [HS2.out] at HO1
  clear k0 k1 k2 k3
  refine (link_any HO1.out).mono ?_
  rintro e x1 ⟨v1_1, v2_1, rfl, hR1⟩
  rw [live2, live1]
  rw [live3, live3d] at hR1
  obtain ⟨ad, cd, rfl⟩ := own_slice hR1.d
  obtain ⟨gs, cs, hv2, -, hgs⟩ := hR1.s.form (by decide)
  have hrow := hR1.s.cells (g := gs) (by rw [hv2]; rfl) 5 _ rfl
  subst hv2
  rw [Addr.add_lit, Nat.zero_add] at hrow
  have Bx1 : Below W2.heap.size W2 x1 := BV1.trans (hR1.low.mono BV1.size)
  clear hR1
  obtain ⟨Y1, hY1⟩ : ∃ Y, x1.alloc (.cells #[.string ⟨#[23, 1, 0, 0, 0, 32, 24]⟩, .slice ad 0 cd, .slice (some ⟨gs, 0, none⟩) 2 cs] 29) = Y := ⟨_, rfl⟩
  have BY1 : Below W2.heap.size W2 Y1 := by subst hY1; exact Bx1.alloc Bx1.size _
  have bxY : Below x1.heap.size x1 Y1 := by subst hY1; exact bl_one _ _
  have HI : Hid (∀ y : World, Below Y1.heap.size Y1 y → y.cell? ⟨x1.heap.size, 0, none⟩ = some (.string ⟨#[23, 1, 0, 0, 0, 32, 24]⟩) ∧ y.cell? ⟨x1.heap.size, 1, none⟩ = some (.slice ad 0 cd) ∧ y.cell? ⟨x1.heap.size, 2, none⟩ = some (.slice (some ⟨gs, 0, none⟩) 2 cs) ∧ y.cell? ⟨gs, 5, none⟩ = some (.int .i64 6)) := fun y hb => by
    refine ⟨cell_thru hb ?_, cell_thru hb ?_, cell_thru hb ?_, cell_thru hb (cell_thru bxY hrow)⟩
    all_goals
      subst hY1
      exact cell_last rfl rfl
  clear hrow hgs
  have f2a0 := (HC.out Y1 BY1).1.1
  have f2a1 := (HC.out Y1 BY1).1.2.1
  have f2a2 := (HC.out Y1 BY1).1.2.2.1
  have f2a3 := (HC.out Y1 BY1).1.2.2.2
  have f2b0 := (HC.out Y1 BY1).2.1
  have f2b1 := (HC.out Y1 BY1).2.2.1
  have f2b2 := (HC.out Y1 BY1).2.2.2.1
  have f2b3 := (HC.out Y1 BY1).2.2.2.2
  obtain ⟨V2, hV2⟩ : ∃ V, Y1.alloc (.cells #[.string ⟨#[23, 0, 0, 0, 0, 32]⟩, .slice none 0 0, .slice (some ⟨w.heap.size, 0, none⟩) 1 1, .slice (some ⟨w.heap.size + 1, 0, none⟩) 1 1] 40) = V := ⟨_, rfl⟩
  have BV2 : Below W2.heap.size W2 V2 := by subst hV2; exact BY1.alloc BY1.size _
  have cc2 : ∀ j u, (#[.string ⟨#[23, 0, 0, 0, 0, 32]⟩, .slice none 0 0, .slice (some ⟨w.heap.size, 0, none⟩) 1 1, .slice (some ⟨w.heap.size + 1, 0, none⟩) 1 1] : Array Value)[j]? = some u → V2.cell? ⟨Y1.heap.size, j, none⟩ = some u := fun j u hu => by subst hV2; exact cell_last rfl hu
  have bV2 : Below Y1.heap.size Y1 V2 := by subst hV2; exact bl_one _ _
  have HO2 : Hid (ObjsV V2 (some ⟨Y1.heap.size, 0, none⟩) 1 1 [oA]) := objs_one ⟨cc2 0 _ rfl, cc2 1 _ rfl, cc2 2 _ rfl, cc2 3 _ rfl⟩ (HVA.out _ BV2)
  clear cc2
  go_wp2_with fail
  clear f2a0 f2a1 f2a2 f2a3 f2b0 f2b1 f2b2 f2b3 hV2
  refine (link_any HO2.out).mono ?_
  rintro e x2 ⟨v1_2, v2_2, rfl, hR2⟩
  rw [live4]
  have Bx2 : Below W2.heap.size W2 x2 := BV2.trans (hR2.low.mono BV2.size)
  obtain ⟨a1_2, c1_2, hv1_2⟩ := own_slice hR2.d
  obtain ⟨a2_2, c2_2, hv2_2⟩ := own_slice hR2.s
  subst hv1_2 hv2_2
  have bx2 := hR2.low
  clear hR2
  obtain ⟨Y2, hY2⟩ : ∃ Y, x2.alloc (.cells #[.string ⟨(linkC [oA]).toArray⟩, .slice a1_2 (linkD [oA]).length c1_2, .slice a2_2 (linkS [oA]).length c2_2] 29) = Y := ⟨_, rfl⟩
  have BY2 : Below W2.heap.size W2 Y2 := by subst hY2; exact Bx2.alloc Bx2.size _
  have bY2 : Below V2.heap.size V2 Y2 := by subst hY2; exact bx2.alloc bx2.size _
  have f3a0 := (HC.out Y2 BY2).1.1
  have f3a1 := (HC.out Y2 BY2).1.2.1
  have f3a2 := (HC.out Y2 BY2).1.2.2.1
  have f3a3 := (HC.out Y2 BY2).1.2.2.2
  have f3b0 := (HC.out Y2 BY2).2.1
  have f3b1 := (HC.out Y2 BY2).2.2.1
  have f3b2 := (HC.out Y2 BY2).2.2.2.1
  have f3b3 := (HC.out Y2 BY2).2.2.2.2
  obtain ⟨V3, hV3⟩ : ∃ V, Y2.alloc (.cells #[.string ⟨#[24]⟩, .slice none 0 0, .slice (some ⟨W1.heap.size, 0, none⟩) 1 1, .slice none 0 0] 40) = V := ⟨_, rfl⟩
  have BV3 : Below W2.heap.size W2 V3 := by subst hV3; exact BY2.alloc BY2.size _
  have cc3 : ∀ j u, (#[.string ⟨#[24]⟩, .slice none 0 0, .slice (some ⟨W1.heap.size, 0, none⟩) 1 1, .slice none 0 0] : Array Value)[j]? = some u → V3.cell? ⟨Y2.heap.size, j, none⟩ = some u := fun j u hu => by subst hV3; exact cell_last rfl hu
  have bV3 : Below Y2.heap.size Y2 V3 := by subst hV3; exact bl_one _ _
  have HO3 : Hid (ObjsV V3 (some ⟨Y2.heap.size, 0, none⟩) 1 1 [oB]) := objs_one ⟨cc3 0 _ rfl, cc3 1 _ rfl, cc3 2 _ rfl, cc3 3 _ rfl⟩ (HVB.out _ BV3)
  clear cc3
  go_wp2_with fail
  clear f3a0 f3a1 f3a2 f3a3 f3b0 f3b1 f3b2 f3b3 hV3
  refine (link_any HO3.out).mono ?_
  rintro e x3 ⟨v1_3, v2_3, rfl, hR3⟩
  rw [live5]
  have Bx3 : Below W2.heap.size W2 x3 := BV3.trans (hR3.low.mono BV3.size)
  obtain ⟨a1_3, c1_3, hv1_3⟩ := own_slice hR3.d
  obtain ⟨a2_3, c2_3, hv2_3⟩ := own_slice hR3.s
  subst hv1_3 hv2_3
  have bx3 := hR3.low
  clear hR3
  obtain ⟨Y3, hY3⟩ : ∃ Y, x3.alloc (.cells #[.string ⟨(linkC [oB]).toArray⟩, .slice a1_3 (linkD [oB]).length c1_3, .slice a2_3 (linkS [oB]).length c2_3] 29) = Y := ⟨_, rfl⟩
  have BY3 : Below W2.heap.size W2 Y3 := by subst hY3; exact Bx3.alloc Bx3.size _
  have bY3 : Below V3.heap.size V3 Y3 := by subst hY3; exact bx3.alloc bx3.size _
  have f4a0 := (HC.out Y3 BY3).1.1
  have f4a1 := (HC.out Y3 BY3).1.2.1
  have f4a2 := (HC.out Y3 BY3).1.2.2.1
  have f4a3 := (HC.out Y3 BY3).1.2.2.2
  have f4b0 := (HC.out Y3 BY3).2.1
  have f4b1 := (HC.out Y3 BY3).2.2.1
  have f4b2 := (HC.out Y3 BY3).2.2.2.1
  have f4b3 := (HC.out Y3 BY3).2.2.2.2
  obtain ⟨V4, hV4⟩ : ∃ V, Y3.alloc (.cells #[.string ⟨#[23, 0, 0, 0, 0, 32]⟩, .slice none 0 0, .slice (some ⟨w.heap.size, 0, none⟩) 1 1, .slice (some ⟨w.heap.size + 1, 0, none⟩) 1 1, .string ⟨#[23, 0, 0, 0, 0, 32]⟩, .slice none 0 0, .slice (some ⟨w.heap.size, 0, none⟩) 1 1, .slice (some ⟨w.heap.size + 1, 0, none⟩) 1 1] 40) = V := ⟨_, rfl⟩
  have BV4 : Below W2.heap.size W2 V4 := by subst hV4; exact BY3.alloc BY3.size _
  have cc4 : ∀ j u, (#[.string ⟨#[23, 0, 0, 0, 0, 32]⟩, .slice none 0 0, .slice (some ⟨w.heap.size, 0, none⟩) 1 1, .slice (some ⟨w.heap.size + 1, 0, none⟩) 1 1, .string ⟨#[23, 0, 0, 0, 0, 32]⟩, .slice none 0 0, .slice (some ⟨w.heap.size, 0, none⟩) 1 1, .slice (some ⟨w.heap.size + 1, 0, none⟩) 1 1] : Array Value)[j]? = some u → V4.cell? ⟨Y3.heap.size, j, none⟩ = some u := fun j u hu => by subst hV4; exact cell_last rfl hu
  have bV4 : Below Y3.heap.size Y3 V4 := by subst hV4; exact bl_one _ _
  have HO4 : Hid (ObjsV V4 (some ⟨Y3.heap.size, 0, none⟩) 2 2 [oA, oA]) := objs_two ⟨cc4 0 _ rfl, cc4 1 _ rfl, cc4 2 _ rfl, cc4 3 _ rfl⟩ (HVA.out _ BV4) ⟨cc4 4 _ rfl, cc4 5 _ rfl, cc4 6 _ rfl, cc4 7 _ rfl⟩ (HVA.out _ BV4)
  clear cc4
  go_wp2_with fail
  clear f4a0 f4a1 f4a2 f4a3 f4b0 f4b1 f4b2 f4b3 hV4
  refine (link_any HO4.out).mono ?_
  rintro e x4 ⟨v1_4, v2_4, rfl, hR4⟩
  rw [live6]
  have Bx4 : Below W2.heap.size W2 x4 := BV4.trans (hR4.low.mono BV4.size)
  obtain ⟨a1_4, c1_4, hv1_4⟩ := own_slice hR4.d
  obtain ⟨a2_4, c2_4, hv2_4⟩ := own_slice hR4.s
  subst hv1_4 hv2_4
  have bx4 := hR4.low
  clear hR4
  obtain ⟨Y4, hY4⟩ : ∃ Y, x4.alloc (.cells #[.string ⟨(linkC [oA, oA]).toArray⟩, .slice a1_4 (linkD [oA, oA]).length c1_4, .slice a2_4 (linkS [oA, oA]).length c2_4] 29) = Y := ⟨_, rfl⟩
  have BY4 : Below W2.heap.size W2 Y4 := by subst hY4; exact Bx4.alloc Bx4.size _
  have bY4 : Below V4.heap.size V4 Y4 := by subst hY4; exact bx4.alloc bx4.size _
  have b2 : Below Y1.heap.size Y1 Y2 := bV2.trans (bY2.mono bV2.size)
  have b3 : Below Y1.heap.size Y1 Y3 := b2.trans ((bV3.trans (bY3.mono bV3.size)).mono b2.size)
  have b4 : Below Y1.heap.size Y1 Y4 := b3.trans ((bV4.trans (bY4.mono bV4.size)).mono b3.size)
  have i0 := (HI.out Y4 b4).1
  have i1 := (HI.out Y4 b4).2.1
  have i2 := (HI.out Y4 b4).2.2.1
  have i3 := (HI.out Y4 b4).2.2.2
  go_wp2
  go_ret
  exact ⟨rfl, bw2.trans (BY4.mono bw2.size)⟩
end Go.Proofs.Ytaoklmphcgigeaa
