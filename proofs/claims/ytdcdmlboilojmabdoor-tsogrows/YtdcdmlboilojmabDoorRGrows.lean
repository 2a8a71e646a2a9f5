/- TsoGrows, walked. -/
import Derived.Test.YtdcdmlboilojmabDoorQAw
namespace Go.Proofs.YtdcdmlboilojmabDoor
open Go.RowKit Go.Maps
set_option linter.unusedVariables false
set_option linter.unusedSimpArgs false

theorem IntsV.cut {w : World} {a : Option Addr} {l c : Nat} {zs : List Int} (h : IntsV w a l c zs) (m : Nat) (hm : m ≤ l) : IntsV w a m c (zs.take m) := by
  refine ⟨by rw [List.length_take, h.count]; omega, fun n hn => h.fits n (List.mem_of_mem_take hn), fun e => ⟨by have := (h.nilOf e).1; omega, (h.nilOf e).2⟩, ⟨by have := h.room; omega, h.room.2⟩, ?_⟩
  rcases h.cells with h0 | ⟨b, off, ha, hc⟩
  · exact .inl (by omega)
  · refine .inr ⟨b, off, ha, fun i hi => ?_⟩
    rw [hc i (by omega)]
    simp [List.getD, List.getElem?_take, hi]
theorem own_cutE {w : World} {B : Nat} {a : Option Addr} {n c : Nat} {es xs : List T.Ev} (h : w.ownsRow B 41 3 (.slice a n c) n ((es ++ xs).flatMap eC)) (hn : (es ++ xs).length = n) : w.ownsRow B 41 3 (.slice a es.length c) es.length (es.flatMap eC) := by
  rw [List.length_append] at hn
  rcases h.2 with ⟨h0, hx⟩ | ⟨g, cap, cur, e, h1, h2, h3, h4, h5, h6⟩
  · injection h0 with e1 e2 e3
    have : es = [] := List.eq_nil_of_length_eq_zero (by omega)
    subst this
    subst e1 e3
    exact World.ownsRow_nil _ _ _ _
  · injection e with e1 e2 e3
    subst e1 e3
    have hl := flat_len' (m := 3) (f := eC) (fun _ => rfl) es
    refine ⟨hl, .inr ⟨g, c, cur, rfl, h1, h2, by omega, h4, h5, ?_⟩⟩
    have h7 := congrArg (List.take (es.length * 3)) h6
    rw [List.take_take, Nat.min_eq_left (by omega), List.flatMap_append, ← hl, List.take_left] at h7
    rw [← hl]
    exact h7

set_option maxRecDepth 100000 in
set_option maxHeartbeats 8000000 in
theorem grows_any {w : World} {v : Value} {m : ImgD} (h : ImgV w v m) (hl : m.syms.length ≤ 8796093022208) {a : Option Addr} {l c : Nat} {ps0 : List Int} (hp : IntsV w a l c ps0) (x : Int) (hx : (Lit.int .i64 x).wf = true) (ht : Tab w) :
    Calls Tryd.prog 3 #[v, .slice a l c, .int .i64 x] w fun e w' => e = .returned (.bool true) ∧ Below w.heap.size w w' := by
  obtain ⟨a1, l1, c1, a2, l2, c2, rfl, hs, h1, h2⟩ := h.form
  obtain ⟨W1, hW1⟩ : ∃ W1, w.alloc (.cells #[.string m.code, .slice a1 l1 c1, .slice a2 l2 c2] 25) = W1 := ⟨_, rfl⟩
  have b1 : Below w.heap.size w W1 := by subst hW1; exact bl_one _ _
  have v0 : W1.cell? ⟨w.heap.size, 0, none⟩ = some (.string m.code) := by subst hW1; exact cell_last _ _ _ _ _ rfl rfl
  have v1 : W1.cell? ⟨w.heap.size, 1, none⟩ = some (.slice a1 l1 c1) := by subst hW1; exact cell_last _ _ _ _ _ rfl rfl
  have v2 : W1.cell? ⟨w.heap.size, 2, none⟩ = some (.slice a2 l2 c2) := by subst hW1; exact cell_last _ _ _ _ _ rfl rfl
  have HB1 : Hid (Below w.heap.size w W1) := b1
  have HI : Hid (ImgV W1 (.agg #[.string m.code, .slice a1 l1 c1, .slice a2 l2 c2]) m) := h.below b1
  have HLS : Hid (m.syms.length ≤ 8796093022208) := hl
  have HT1 : Hid (Tab W1) := ht.below b1
  have HFW : Hid (Calls Tryd.prog 4 #[.slice a l c, .int .i64 300] W1 fun e w' => (∃ l', e = .returned (.slice a l' c) ∧ IntsV W1 a l' c (ps0.take 300) ∧ l' ≤ 300) ∧ w' = W1) := few_any (hp.below b1) 300 (by decide)
  have hxw : -9223372036854775808 ≤ x ∧ x ≤ 9223372036854775807 := by
    have := hx
    simp [Lit.wf, IntKind.min, IntKind.max, IntKind.signed, IntKind.bits] at this
    omega
  obtain ⟨P, hP⟩ : ∃ P, T.pk x = P := ⟨_, rfl⟩
  have hP0 : 0 ≤ P ∧ P ≤ 9223372036854775807 := by rw [← hP]; unfold T.pk; split <;> omega
  have hneg : x < 0 → IntKind.i64.wrap (-IntKind.i64.wrap (x + 1)) = P ∧ IntKind.i64.wrap (-(x + 1)) = P ∧ IntKind.i64.wrap (x + 1) = x + 1 := fun h1 => by
    rw [← hP]; unfold T.pk; rw [if_pos h1]
    simp only [IntKind.wrap_i64]
    omega
  have hpos : ¬ x < 0 → x = P := fun h1 => by rw [← hP]; unfold T.pk; rw [if_neg h1]
  clear h h1 h2 hl b1 hp ht hP hx
  go_enter Tryd.func3, Tryd.ntmps3
  go_wp2_with fail
  refine HFW.out.mono ?_
  rintro e y1 ⟨⟨l', rfl, hp', hl'⟩, rfl⟩
  obtain ⟨ps, hps⟩ : ∃ ps, ps0.take 300 = ps := ⟨_, rfl⟩
  rw [hps] at hp'
  have HP : Hid (IntsV y1 a l' c ps) := hp'
  have hro := hp'.room
  unfold maxLen at hro
  obtain ⟨q, hq⟩ : ∃ q : Nat, P % ((l' : Int) + 1) = q := ⟨(P % ((l' : Int) + 1)).toNat, by have := Int.emod_nonneg P (b := (l' : Int) + 1) (by omega); omega⟩
  have hql : q ≤ l' := by have := Int.emod_lt_of_pos P (b := (l' : Int) + 1) (by omega); omega
  have hqt : P.tmod ((l' : Int) + 1) = q := by rw [Int.tmod_eq_emod_of_nonneg hP0.1]; exact hq
  have hq2 : P % (((l' + 1 : Nat)) : Int) = q := by rw [← hq]; rfl
  have hqt2 : P.tmod (((l' + 1 : Nat)) : Int) = q := by rw [← hqt]; rfl
  have HPQ : Hid (IntsV y1 a q c (ps.take q)) := hp'.cut q hql
  have hwl : IntKind.i64.wrap ((l' : Int) + 1) = (l' : Int) + 1 := by rw [IntKind.wrap_i64]; omega
  have hl0 : ¬ (l' : Int) + 1 = 0 := by omega
  have hqc : (q : Int) ≤ c := by omega
  have hq0 : (0 : Int) ≤ q := by omega
  clear hp' hps
  by_cases hs : x < 0
  · obtain ⟨n1, n2, n3⟩ := hneg (by omega)
    clear hneg hpos
    cases hm : m.may with
    | false =>
      have HRN : Hid (∀ (y : World) p, Below y1.heap.size y1 y → Calls Tryd.prog 5 #[.agg #[.string m.code, .slice a1 l1 c1, .slice a2 l2 c2], p] y fun e w' => e = .returned (.tuple #[.slice none 0 0, .int .i64 1]) ∧ Below y.heap.size y w') := fun y p hy => run_no (HI.out.below hy) HLS.out hm
      clear hm
      go_wp2_with fail
      refine (HRN.out _ _ (Below.refl _ _)).mono ?_
      rintro e y2 ⟨rfl, hb2⟩
      have HKK : Hid (∀ z : World, Below y2.heap.size y2 z → (z.cell? ⟨w.heap.size, 0, none⟩ = some (.string m.code) ∧ z.cell? ⟨w.heap.size, 1, none⟩ = some (.slice a1 l1 c1) ∧ z.cell? ⟨w.heap.size, 2, none⟩ = some (.slice a2 l2 c2))) := fun z hz => ⟨cell_up hz (cell_up hb2 v0), cell_up hz (cell_up hb2 v1), cell_up hz (cell_up hb2 v2)⟩
      have HB2 : Hid (Below y1.heap.size y1 y2) := hb2
      clear hb2 v0 v1 v2
      go_wp2_with fail
      go_region_held3 (fun w' : World => w'.cell? ⟨w.heap.size, 0, none⟩ = some (.string m.code) ∧ w'.cell? ⟨w.heap.size, 1, none⟩ = some (.slice a1 l1 c1) ∧ w'.cell? ⟨w.heap.size, 2, none⟩ = some (.slice a2 l2 c2)) (first | exact HKK.out _ (Below.refl _ _).drew | exact HKK.out _ ((Below.refl _ _).drew.trans HBZ.out)) ((go_at_call 5; refine (HRN.out _ _ HB2.out.drew).mono ?_; rintro e z ⟨rfl, hbz⟩; have HBZ : Hid (Below y2.drew.heap.size y2.drew z) := hbz; clear hbz))
      have HSE : Hid (Calls Tryd.prog 6 #[.slice none 0 0, .slice none 0 0] z fun e w' => e = .returned (.bool true) ∧ Below z.heap.size z w') := sameE_any (B := 0) (B' := 0) (es := []) (World.ownsRow_nil _ _ _ _) (World.ownsRow_nil _ _ _ _)
      have HBY : Hid (Below w.heap.size w z) := HB1.out.trans ((HB2.out.trans (((Below.refl _ _).drew.trans HBZ.out).mono HB2.out.size)).mono HB1.out.size)
      have HTZ : Hid (Tab z) := HT1.out.below (HB2.out.trans (((Below.refl _ _).drew.trans HBZ.out).mono HB2.out.size))
      clear HBZ HRN
      go_wp2_with fail
      refine HSE.out.mono ?_
      rintro e y4 ⟨rfl, hb4⟩
      have HB4 : Hid (Below w.heap.size w y4) := HBY.out.trans (hb4.mono HBY.out.size)
      have HLV : Hid (Calls Tryd.prog 7 #[] y4 fun e w' => e = .returned (.bool true) ∧ Below y4.heap.size y4 w') := live_any y4 (HTZ.out.below hb4)
      clear hb4
      go_wp2_with fail
      refine HLV.out.mono ?_
      rintro e y5 ⟨rfl, hb5⟩
      have HB5 : Hid (Below w.heap.size w y5) := HB4.out.trans (hb5.mono HB4.out.size)
      clear hb5
      go_wp2
      go_ret
      exact ⟨rfl, HB5.out⟩
    | true =>
      have HML : Hid (0 < m.mach.ts.length) := (mach_len m hm).1
      have HR1 : Hid (Calls Tryd.prog 5 #[.agg #[.string m.code, .slice a1 l1 c1, .slice a2 l2 c2], .slice a l' c] y1 fun e w' => RunIs y1.heap.size e w' (T.runs m.mach ps).es ∧ Below y1.heap.size y1 w') := run_yes HI.out HLS.out hm HP.out (by omega) HT1.out
      have HR2 : Hid (∀ y, Below y1.heap.size y1 y → Calls Tryd.prog 5 #[.agg #[.string m.code, .slice a1 l1 c1, .slice a2 l2 c2], .slice a q c] y fun e w' => RunIs y.heap.size e w' (T.runs m.mach (ps.take q)).es ∧ Below y.heap.size y w') := fun y hy => run_yes (HI.out.below hy) HLS.out hm (HPQ.out.below hy) (by omega) (HT1.out.below hy)
      obtain ⟨es, hes⟩ : ∃ es, (T.runs m.mach (ps.take q)).es = es := ⟨_, rfl⟩
      obtain ⟨xs, hxs⟩ : ∃ xs, (T.runs m.mach ps).es = es ++ xs := by
        have h1 : T.runs m.mach ps = T.runs (T.runs m.mach (ps.take q)) (ps.drop q) := by
          unfold T.runs
          rw [← List.foldl_append, List.take_append_drop]
        obtain ⟨xs, hx, -⟩ := T.runs_es (ps.drop q) (T.runs m.mach (ps.take q)) (by rw [T.runs_len _ _ HML.out]; exact HML.out)
        exact ⟨xs, by rw [h1, hx, hes]⟩
      rw [hxs] at HR1
      rw [hes] at HR2
      obtain ⟨nn, hnn⟩ : ∃ nn, (es ++ xs).length = nn := ⟨_, rfl⟩
      obtain ⟨ne, hne⟩ : ∃ ne, es.length = ne := ⟨_, rfl⟩
      have hle : ne ≤ nn := by rw [← hnn, ← hne, List.length_append]; omega
      have HNN : Hid ((es ++ xs).length = nn) := hnn
      have HNE : Hid (es.length = ne) := hne
      clear hm hes hxs hnn hne
      go_wp2_with fail
      refine HR1.out.mono ?_
      rintro e y2 ⟨⟨va, rfl, hoa⟩, hb2⟩
      have HKK : Hid (∀ z : World, Below y2.heap.size y2 z → (z.cell? ⟨w.heap.size, 0, none⟩ = some (.string m.code) ∧ z.cell? ⟨w.heap.size, 1, none⟩ = some (.slice a1 l1 c1) ∧ z.cell? ⟨w.heap.size, 2, none⟩ = some (.slice a2 l2 c2))) := fun z hz => ⟨cell_up hz (cell_up hb2 v0), cell_up hz (cell_up hb2 v1), cell_up hz (cell_up hb2 v2)⟩
      have HB2 : Hid (Below y1.heap.size y1 y2) := hb2
      rw [HNN.out] at hoa
      have HOA : Hid (y2.ownsRow y1.heap.size 41 3 va nn ((es ++ xs).flatMap eC)) := hoa
      obtain ⟨aa, ca, rfl, hnca, hcma⟩ := own_sl hoa
      unfold maxLen at hcma
      clear hb2 v0 v1 v2 hoa
      go_wp2_with fail
      go_region_held3 (fun w' : World => w'.cell? ⟨w.heap.size, 0, none⟩ = some (.string m.code) ∧ w'.cell? ⟨w.heap.size, 1, none⟩ = some (.slice a1 l1 c1) ∧ w'.cell? ⟨w.heap.size, 2, none⟩ = some (.slice a2 l2 c2)) (first | exact HKK.out _ (Below.refl _ _).drew | exact HKK.out _ ((Below.refl _ _).drew.trans HBZ.out)) ((go_at_call 5; refine (HR2.out _ HB2.out.drew).mono ?_; rintro e z ⟨⟨vb, rfl, hob⟩, hbz⟩; have HBZ : Hid (Below y2.drew.heap.size y2.drew z) := hbz; have HOB : Hid (z.ownsRow y2.drew.heap.size 41 3 vb es.length (es.flatMap eC)) := hob; clear hbz hob))
      have hob := HOB.out
      rw [HNE.out] at hob
      obtain ⟨ab, cb, rfl, hncb, hcmb⟩ := own_sl hob
      unfold maxLen at hcmb
      have HSE : Hid (Calls Tryd.prog 6 #[.slice aa ne ca, .slice ab ne cb] z fun e w' => e = .returned (.bool true) ∧ Below z.heap.size z w') := by
        have h2 := own_below HOA.out ((Below.refl _ _).drew.trans HBZ.out)
        have h3 := own_cutE h2 HNN.out
        have h5 := HOB.out
        rw [HNE.out] at h3 h5
        rw [← HNE.out] at h3 h5
        have h4 := sameE_any (es := es) h3 h5
        rw [HNE.out] at h4
        exact h4
      have HBY : Hid (Below w.heap.size w z) := HB1.out.trans ((HB2.out.trans (((Below.refl _ _).drew.trans HBZ.out).mono HB2.out.size)).mono HB1.out.size)
      have HTZ : Hid (Tab z) := HT1.out.below (HB2.out.trans (((Below.refl _ _).drew.trans HBZ.out).mono HB2.out.size))
      have hin1 : (ne : Int) ≤ nn := by omega
      have hin2 : (ne : Int) ≤ ca := by omega
      have hd1 : decide ((ne : Int) ≤ nn) = true := decide_eq_true hin1
      clear HBZ hob HR2 HR1
      go_wp2_with fail
      refine HSE.out.mono ?_
      rintro e y4 ⟨rfl, hb4⟩
      have HB4 : Hid (Below w.heap.size w y4) := HBY.out.trans (hb4.mono HBY.out.size)
      have HLV : Hid (Calls Tryd.prog 7 #[] y4 fun e w' => e = .returned (.bool true) ∧ Below y4.heap.size y4 w') := live_any y4 (HTZ.out.below hb4)
      clear hb4
      go_wp2_with fail
      refine HLV.out.mono ?_
      rintro e y5 ⟨rfl, hb5⟩
      have HB5 : Hid (Below w.heap.size w y5) := HB4.out.trans (hb5.mono HB4.out.size)
      clear hb5
      go_wp2
      go_ret
      exact ⟨rfl, HB5.out⟩
  · obtain rfl := hpos (by omega)
    clear hneg hpos
    cases hm : m.may with
    | false =>
      have HRN : Hid (∀ (y : World) p, Below y1.heap.size y1 y → Calls Tryd.prog 5 #[.agg #[.string m.code, .slice a1 l1 c1, .slice a2 l2 c2], p] y fun e w' => e = .returned (.tuple #[.slice none 0 0, .int .i64 1]) ∧ Below y.heap.size y w') := fun y p hy => run_no (HI.out.below hy) HLS.out hm
      clear hm
      go_wp2_with fail
      refine (HRN.out _ _ (Below.refl _ _)).mono ?_
      rintro e y2 ⟨rfl, hb2⟩
      have HKK : Hid (∀ z : World, Below y2.heap.size y2 z → (z.cell? ⟨w.heap.size, 0, none⟩ = some (.string m.code) ∧ z.cell? ⟨w.heap.size, 1, none⟩ = some (.slice a1 l1 c1) ∧ z.cell? ⟨w.heap.size, 2, none⟩ = some (.slice a2 l2 c2))) := fun z hz => ⟨cell_up hz (cell_up hb2 v0), cell_up hz (cell_up hb2 v1), cell_up hz (cell_up hb2 v2)⟩
      have HB2 : Hid (Below y1.heap.size y1 y2) := hb2
      clear hb2 v0 v1 v2
      go_wp2_with fail
      go_region_held3 (fun w' : World => w'.cell? ⟨w.heap.size, 0, none⟩ = some (.string m.code) ∧ w'.cell? ⟨w.heap.size, 1, none⟩ = some (.slice a1 l1 c1) ∧ w'.cell? ⟨w.heap.size, 2, none⟩ = some (.slice a2 l2 c2)) (first | exact HKK.out _ (Below.refl _ _).drew | exact HKK.out _ ((Below.refl _ _).drew.trans HBZ.out)) ((go_at_call 5; refine (HRN.out _ _ HB2.out.drew).mono ?_; rintro e z ⟨rfl, hbz⟩; have HBZ : Hid (Below y2.drew.heap.size y2.drew z) := hbz; clear hbz))
      have HSE : Hid (Calls Tryd.prog 6 #[.slice none 0 0, .slice none 0 0] z fun e w' => e = .returned (.bool true) ∧ Below z.heap.size z w') := sameE_any (B := 0) (B' := 0) (es := []) (World.ownsRow_nil _ _ _ _) (World.ownsRow_nil _ _ _ _)
      have HBY : Hid (Below w.heap.size w z) := HB1.out.trans ((HB2.out.trans (((Below.refl _ _).drew.trans HBZ.out).mono HB2.out.size)).mono HB1.out.size)
      have HTZ : Hid (Tab z) := HT1.out.below (HB2.out.trans (((Below.refl _ _).drew.trans HBZ.out).mono HB2.out.size))
      clear HBZ HRN
      go_wp2_with fail
      refine HSE.out.mono ?_
      rintro e y4 ⟨rfl, hb4⟩
      have HB4 : Hid (Below w.heap.size w y4) := HBY.out.trans (hb4.mono HBY.out.size)
      have HLV : Hid (Calls Tryd.prog 7 #[] y4 fun e w' => e = .returned (.bool true) ∧ Below y4.heap.size y4 w') := live_any y4 (HTZ.out.below hb4)
      clear hb4
      go_wp2_with fail
      refine HLV.out.mono ?_
      rintro e y5 ⟨rfl, hb5⟩
      have HB5 : Hid (Below w.heap.size w y5) := HB4.out.trans (hb5.mono HB4.out.size)
      clear hb5
      go_wp2
      go_ret
      exact ⟨rfl, HB5.out⟩
    | true =>
      have HML : Hid (0 < m.mach.ts.length) := (mach_len m hm).1
      have HR1 : Hid (Calls Tryd.prog 5 #[.agg #[.string m.code, .slice a1 l1 c1, .slice a2 l2 c2], .slice a l' c] y1 fun e w' => RunIs y1.heap.size e w' (T.runs m.mach ps).es ∧ Below y1.heap.size y1 w') := run_yes HI.out HLS.out hm HP.out (by omega) HT1.out
      have HR2 : Hid (∀ y, Below y1.heap.size y1 y → Calls Tryd.prog 5 #[.agg #[.string m.code, .slice a1 l1 c1, .slice a2 l2 c2], .slice a q c] y fun e w' => RunIs y.heap.size e w' (T.runs m.mach (ps.take q)).es ∧ Below y.heap.size y w') := fun y hy => run_yes (HI.out.below hy) HLS.out hm (HPQ.out.below hy) (by omega) (HT1.out.below hy)
      obtain ⟨es, hes⟩ : ∃ es, (T.runs m.mach (ps.take q)).es = es := ⟨_, rfl⟩
      obtain ⟨xs, hxs⟩ : ∃ xs, (T.runs m.mach ps).es = es ++ xs := by
        have h1 : T.runs m.mach ps = T.runs (T.runs m.mach (ps.take q)) (ps.drop q) := by
          unfold T.runs
          rw [← List.foldl_append, List.take_append_drop]
        obtain ⟨xs, hx, -⟩ := T.runs_es (ps.drop q) (T.runs m.mach (ps.take q)) (by rw [T.runs_len _ _ HML.out]; exact HML.out)
        exact ⟨xs, by rw [h1, hx, hes]⟩
      rw [hxs] at HR1
      rw [hes] at HR2
      obtain ⟨nn, hnn⟩ : ∃ nn, (es ++ xs).length = nn := ⟨_, rfl⟩
      obtain ⟨ne, hne⟩ : ∃ ne, es.length = ne := ⟨_, rfl⟩
      have hle : ne ≤ nn := by rw [← hnn, ← hne, List.length_append]; omega
      have HNN : Hid ((es ++ xs).length = nn) := hnn
      have HNE : Hid (es.length = ne) := hne
      clear hm hes hxs hnn hne
      go_wp2_with fail
      refine HR1.out.mono ?_
      rintro e y2 ⟨⟨va, rfl, hoa⟩, hb2⟩
      have HKK : Hid (∀ z : World, Below y2.heap.size y2 z → (z.cell? ⟨w.heap.size, 0, none⟩ = some (.string m.code) ∧ z.cell? ⟨w.heap.size, 1, none⟩ = some (.slice a1 l1 c1) ∧ z.cell? ⟨w.heap.size, 2, none⟩ = some (.slice a2 l2 c2))) := fun z hz => ⟨cell_up hz (cell_up hb2 v0), cell_up hz (cell_up hb2 v1), cell_up hz (cell_up hb2 v2)⟩
      have HB2 : Hid (Below y1.heap.size y1 y2) := hb2
      rw [HNN.out] at hoa
      have HOA : Hid (y2.ownsRow y1.heap.size 41 3 va nn ((es ++ xs).flatMap eC)) := hoa
      obtain ⟨aa, ca, rfl, hnca, hcma⟩ := own_sl hoa
      unfold maxLen at hcma
      clear hb2 v0 v1 v2 hoa
      go_wp2_with fail
      go_region_held3 (fun w' : World => w'.cell? ⟨w.heap.size, 0, none⟩ = some (.string m.code) ∧ w'.cell? ⟨w.heap.size, 1, none⟩ = some (.slice a1 l1 c1) ∧ w'.cell? ⟨w.heap.size, 2, none⟩ = some (.slice a2 l2 c2)) (first | exact HKK.out _ (Below.refl _ _).drew | exact HKK.out _ ((Below.refl _ _).drew.trans HBZ.out)) ((go_at_call 5; refine (HR2.out _ HB2.out.drew).mono ?_; rintro e z ⟨⟨vb, rfl, hob⟩, hbz⟩; have HBZ : Hid (Below y2.drew.heap.size y2.drew z) := hbz; have HOB : Hid (z.ownsRow y2.drew.heap.size 41 3 vb es.length (es.flatMap eC)) := hob; clear hbz hob))
      have hob := HOB.out
      rw [HNE.out] at hob
      obtain ⟨ab, cb, rfl, hncb, hcmb⟩ := own_sl hob
      unfold maxLen at hcmb
      have HSE : Hid (Calls Tryd.prog 6 #[.slice aa ne ca, .slice ab ne cb] z fun e w' => e = .returned (.bool true) ∧ Below z.heap.size z w') := by
        have h2 := own_below HOA.out ((Below.refl _ _).drew.trans HBZ.out)
        have h3 := own_cutE h2 HNN.out
        have h5 := HOB.out
        rw [HNE.out] at h3 h5
        rw [← HNE.out] at h3 h5
        have h4 := sameE_any (es := es) h3 h5
        rw [HNE.out] at h4
        exact h4
      have HBY : Hid (Below w.heap.size w z) := HB1.out.trans ((HB2.out.trans (((Below.refl _ _).drew.trans HBZ.out).mono HB2.out.size)).mono HB1.out.size)
      have HTZ : Hid (Tab z) := HT1.out.below (HB2.out.trans (((Below.refl _ _).drew.trans HBZ.out).mono HB2.out.size))
      have hin1 : (ne : Int) ≤ nn := by omega
      have hin2 : (ne : Int) ≤ ca := by omega
      have hd1 : decide ((ne : Int) ≤ nn) = true := decide_eq_true hin1
      clear HBZ hob HR2 HR1
      go_wp2_with fail
      refine HSE.out.mono ?_
      rintro e y4 ⟨rfl, hb4⟩
      have HB4 : Hid (Below w.heap.size w y4) := HBY.out.trans (hb4.mono HBY.out.size)
      have HLV : Hid (Calls Tryd.prog 7 #[] y4 fun e w' => e = .returned (.bool true) ∧ Below y4.heap.size y4 w') := live_any y4 (HTZ.out.below hb4)
      clear hb4
      go_wp2_with fail
      refine HLV.out.mono ?_
      rintro e y5 ⟨rfl, hb5⟩
      have HB5 : Hid (Below w.heap.size w y5) := HB4.out.trans (hb5.mono HB4.out.size)
      clear hb5
      go_wp2
      go_ret
      exact ⟨rfl, HB5.out⟩

end Go.Proofs.YtdcdmlboilojmabDoor

/- Proved: TsoGrows answers true for every image, every picks and every number (the reach that the form gives is the only bound), where the tables of instructions are what their initialisers lay (the card ties that to the program): the events of a beginning of picks are a beginning of those of all. -/
namespace Go.Proofs.YtdcdmlboilojmabDoor.tsoGrows
open Go.ChangeShapes Go.WideShapes Go.ChangeAt Go.RowKit
open Go.ChangeMaps (open_string shut_string)
set_option linter.unusedVariables false
set_option maxRecDepth 100000

theorem own : ownKnob Tryd.prog.godebug = none := by kernel_rfl
theorem laidO : laidOutB Tryd.prog = true := by kernel_rfl

/-! ### The row -/
theorem contract (H : Type) (enc : TypeId × Value → H) (W : World) (base : Nat) (args : Array Value) (ds gs : List (DataW H)) (before : List MemPlace)
    (hval : ∀ (j : Nat) t v, Tryd.f3.params[j]? = some t → args[j]? = some v → Value.okWide Tryd.prog W .any base t v)
    (hW : DataW.Whole enc Tryd.prog Tryd.f3.params.toList Rows.tsoGrowsSpec.vars false W args.toList ds gs before) (hsz : (DataW.weightsEach Tryd.prog (Tryd.f3.params.toList ++ Rows.tsoGrowsSpec.plain.varTypes Tryd.prog) (ds ++ gs)).all (· ≤ reachBytes) = true) (hT : Tab W) :
    Calls Tryd.prog 3 args W fun e W' => ∃ v, e = .returned v ∧ Rows.tsoGrowsSpec.post enc Tryd.prog Tryd.f3 false true false false W args v W' := by
  have hW' := hW
  obtain ⟨p, q, hA0, hV, rfl, hfz, hnd⟩ := hW
  have hA : DataW.TrodAll enc Tryd.prog W 0 (fun _ => true) true Tryd.f3.params.toList args.toList ds p := hA0
  have hlt := hA.lt
  rw [Tryd.params3] at hA hval hsz
  obtain ⟨v0, vs0, d0, ds0, p0, q0, hargs, rfl, rfl, h0, r0⟩ := trodAll_cons hA
  obtain ⟨v1, vs1, d1, ds1, p1, q1, rfl, rfl, rfl, h1, r1⟩ := trodAll_cons r0
  obtain ⟨v2, vs2, d2, ds2, p2, q2, rfl, rfl, rfl, h2, r2⟩ := trodAll_cons r1
  obtain ⟨rfl, rfl, rfl⟩ := trodAll_nil r2
  obtain rfl : args = #[v0, v1, v2] := by cases args; simp_all
  obtain ⟨rfl, rfl⟩ := trodVars_none hV
  obtain ⟨m0, V0⟩ := open_img (fun _ => rfl) (hval 0 25 v0 rfl rfl) h0
  have hl0 : m0.syms.length ≤ 8796093022208 := by
    have h1 := (img_sized (hval 0 25 v0 rfl rfl) h0 V0 (R := reachBytes) (fun n hn => by
      have h2 := List.all_eq_true.1 hsz n (DataW.weights_mem_each (j := 0) rfl rfl n hn)
      simpa using h2)).2
    have h3 : reachBytes = 140737488351232 := rfl
    omega
  obtain ⟨x1, y1, t1, rfl⟩ := okWide_slice Tryd.underlying26 (hval 1 26 v1 rfl rfl)
  have hh1 := h1
  obtain ⟨fuel1, g1⟩ := hh1
  obtain ⟨a1, l1, c1, zs1, e1, V1, -⟩ := open_N (v := .slice x1 y1 t1) (fun _ => rfl) g1
  cases e1
  have g2 := h2
  obtain ⟨z2, rfl, -, -, w2⟩ := open_int Tryd.underlying3 (hval 2 3 v2 rfl rfl) g2
  clear hA0
  simp only [List.append_nil] at hW'
  refine (grows_any V0 hl0 V1 z2 w2 hT).mono fun e W' ⟨he, hg⟩ => ?_
  subst he
  exact ⟨_, rfl, _, _, _, [], _, [], hW', (trodAll_cons_mk (shut_bool Tryd.underlying4 _) trodAll_mk0), (trodAll_cons_mk (Below.trod laidO (by kernel_rfl) (of_decide_eq_true (by kernel_rfl)) h0 hg (fun x hx => hlt x (by simp [hx]))) (trodAll_cons_mk (Below.trod laidO (by kernel_rfl) (of_decide_eq_true (by kernel_rfl)) h1 hg (fun x hx => hlt x (by simp [hx]))) (trodAll_cons_mk (Below.trod laidO (by kernel_rfl) (of_decide_eq_true (by kernel_rfl)) h2 hg (fun x hx => hlt x (by simp [hx]))) trodAll_mk0))), rfl, hg.frame _, fun h => by cases h⟩

theorem laid_met (os : Os) : laidMet Tryd.prog Rows.tsoGrowsRow.laid ((laidWorld os).forCall (fun _ _ => 0) ⟨#[], #[.agg #[.string { data := #[] }, .slice none 0 0, .slice none 0 0], .slice none 0 0, .int .i64 0], []⟩).memory :=
  laidMet_of_run' 8 (by kernel_rfl) (by kernel_rfl)
theorem reads (os : Os) {H : Type} (enc : TypeId × Value → H) : ∃ places, DataW.whole enc Tryd.prog ((laidWorld os).forCall (fun _ _ => 0) ⟨#[], #[.agg #[.string { data := #[] }, .slice none 0 0, .slice none 0 0], .slice none 0 0, .int .i64 0], []⟩).memory Tryd.f3.params.toList Rows.tsoGrowsSpec.vars false (#[.agg #[.string { data := #[] }, .slice none 0 0, .slice none 0 0], .slice none 0 0, .int .i64 0] : Array Value).toList 8 = some ([.agg [.lit (.string []), .nil, .nil], .nil, .lit (.int .i64 0)], [], places) :=
  ⟨[], by kernel_rfl⟩

set_option maxRecDepth 100000 in
theorem lifted (os : Os) (started : os.Started) (H : Type) (enc : TypeId × Value → H) (F : Stop.Interp) :
    ReturnsInHanded {} Tryd.checked os 3 .any ((OpenSpec.ofChange Rows.tsoGrowsSpec).preRow enc Tryd.prog Tryd.f3 Rows.tsoGrowsRow.domain false Rows.tsoGrowsRow.laid) (((OpenSpec.ofChange Rows.tsoGrowsSpec).at F).post enc Tryd.prog Tryd.f3 false true false false) := by
  obtain ⟨places, hx⟩ := reads os enc
  refine returnsInHanded_of_row (C := Tryd.checked) (s := OpenSpec.ofChange Rows.tsoGrowsSpec) own started (by kernel_rfl) Tryd.func3
    (witness_row_at (enc := enc) (C := Tryd.checked) false (laidWorld os) #[.agg #[.string { data := #[] }, .slice none 0 0, .slice none 0 0], .slice none 0 0, .int .i64 0] rfl (by kernel_rfl) (by kernel_rfl) (by kernel_rfl)
      (OpenSpec.preRow_of_cond 8 hx (by kernel_rfl) (fun k hk => by cases hk) (by kernel_rfl) (laid_met os))) ?_
  intro W base args ds gs before hval hW _ hcond hsz hL _ _
  exact contract H enc W base args ds gs before hval hW hsz (tab_of_laid hL)

theorem said : Rows.TsoGrowsSaid :=
  OpenClaim.holds_of_cond 3 Tryd.f3 rfl rfl rfl rfl rfl rfl rfl ⟨rfl, rfl, rfl, rfl, rfl⟩ rfl rfl rfl rfl rfl (by kernel_rfl) Tryd.func3 (by kernel_rfl)
    (of_decide_eq_true (by kernel_rfl)) (by unfold Func.isWrapper; first | (rw [if_pos (by decide +kernel)]; kernel_rfl) | (rw [if_neg (by decide +kernel)]; exact ⟨rfl, rfl⟩))
    (fun os started H enc _ F => by rw [OpenClaim.pre_eq_preRow]; exact lifted os started H enc F)

/-- No parameter wants a stand-in; the program's own looks are off: what the card asks. -/
theorem plain (f : FuncId) (fn : Func) (hf : Tryd.pinned.checked.prog.funcNamed "cotter/cotterlaw05.TsoGrows" = some f) (hfn : Tryd.pinned.checked.prog.funcs[f]? = some fn) :
    false = Tryd.pinned.checked.prog.looks [] ∧ ∀ (j : Nat) t, fn.params[j]? = some t → Tryd.pinned.checked.prog.wantsStandIn t = false := by
  obtain rfl : f = 3 := Option.some.inj ((show Tryd.prog.funcNamed "cotter/cotterlaw05.TsoGrows" = some 3 by kernel_rfl).symm.trans hf) |>.symm
  obtain rfl : fn = Tryd.f3 := (Option.some.inj (Tryd.func3.symm.trans hfn)).symm
  refine ⟨by kernel_rfl, fun j t ht => ?_⟩
  rw [Tryd.params3] at ht
  have hm : t ∈ [25, 26, 3] := by simpa using Array.mem_of_getElem? ht
  have hall : ([25, 26, 3].all fun u => !Tryd.prog.wantsStandIn u) = true := by kernel_rfl
  exact (show Tryd.prog.wantsStandIn t = false by simpa using List.all_eq_true.1 hall t hm)

theorem card : Rows.TsoGrowsCardSaid :=
  Claim7.holds_tied_plain_at .later [] _ _ _ _ said (fun _ h => by cases h) (by kernel_rfl) (fun _ h => by cases h) tsoGrows_row_tie rfl ⟨rfl, rfl⟩ (by kernel_rfl) rfl plain (by kernel_rfl)
end Go.Proofs.YtdcdmlboilojmabDoor.tsoGrows
namespace Go.Proofs.YtdcdmlboilojmabDoor
/-- The statement. -/
theorem tsoGrows_holds : Rows.TsoGrowsCardSaid := tsoGrows.card
#print axioms tsoGrows_holds
end Go.Proofs.YtdcdmlboilojmabDoor
