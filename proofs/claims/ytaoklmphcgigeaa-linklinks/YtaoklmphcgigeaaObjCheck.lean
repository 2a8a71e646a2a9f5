/- What objf.Check comes to. (Written by gen_check.py.) -/
import Derived.Test.YtaoklmphcgigeaaObjSmall
import Derived.StringKeys
namespace Go.Proofs.Ytaoklmphcgigeaa
open Go.RowKit Go.Maps
set_option linter.unusedVariables false

theorem get0 {α : Type} (x : α) (l : List α) : (List.toArray (x :: l))[0]? = some x := rfl
theorem get1 {α : Type} {x y : α} {l : List α} {i : Nat} (h : (List.toArray l)[i]? = some y) : (List.toArray (x :: l))[i + 1]? = some y := by simpa using h
theorem lawS : Keyed Try.prog 9 := string_keyed Try.underlying9
theorem zeroU (w : World) : (zeroValue 88).run Try.prog w = .ok (.agg #[]) w := by kernel_rfl
theorem take_snocS (ss : List Sym) (k : Nat) (h : k < ss.length) : (ss.map Sym.name).take (k + 1) = (ss.map Sym.name).take k ++ [(ss.getD k noSym).name] := by
  rw [List.take_succ_eq_append_getElem (by simpa using h)]; congr 1; simp [List.getD, h]
theorem names_dup {ss : List Sym} {k : Nat} (hk : k < ss.length) {x : ByteArray} (h : ((ss.map Sym.name).take k).any (fun y => decide (y = x)) = true) (hx : (ss.getD k noSym).name = x) (cl dl : Nat) : symAt cl dl ss k = false := by
  rw [← List.map_take] at h
  simp only [List.any_eq_true, List.mem_map, decide_eq_true_eq] at h
  obtain ⟨y, ⟨s, hs, rfl⟩, e⟩ := h
  obtain ⟨i, hi, rfl⟩ := List.getElem_of_mem hs
  rw [List.length_take] at hi
  unfold symAt
  rw [all_range_no (i := i) (by omega) (by
    rw [List.getElem_take] at e
    have : (ss.getD i noSym).name = x := by simp [List.getD, show i < ss.length by omega, e]
    exact decide_eq_false (fun hne => hne (this.trans hx.symm))), Bool.false_and]
theorem names_new {ss : List Sym} {k : Nat} (hk : k < ss.length) {x : ByteArray} (h : ((ss.map Sym.name).take k).any (fun y => decide (y = x)) = false) (hx : (ss.getD k noSym).name = x) (cl dl : Nat) : symAt cl dl ss k = symOk cl dl (ss.getD k noSym) := by
  unfold symAt
  rw [all_range_yes (fun i hi => ?_), Bool.true_and]
  rw [← List.map_take, ← Bool.not_eq_true, List.any_eq_true] at h
  simp only [decide_eq_true_eq]
  intro e
  apply h
  refine ⟨(ss.getD i noSym).name, List.mem_map.2 ⟨ss.getD i noSym, ?_, rfl⟩, decide_eq_true (e.trans hx)⟩
  rw [show ss.getD i noSym = (ss.take k)[i]'(by rw [List.length_take]; omega) by simp [List.getD, show i < ss.length by omega]]
  exact List.getElem_mem _
theorem syms_no {cl dl : Nat} {ss : List Sym} {k : Nat} (hk : k < ss.length) (h : symAt cl dl ss k = false) : symsOk cl dl ss = false := by
  unfold symsOk
  rw [all_range_no hk h, Bool.and_false]

set_option maxRecDepth 100000 in
set_option maxHeartbeats 8000000 in
theorem syms_any {w : World} (code : ByteArray) {a1 a2 a3 : Option Addr} {l1 c1 l2 c2 l3 c3 : Nat} {ss : List Sym} (h : SymsV w a2 l2 c2 ss) :
    Calls Try.prog 39 #[.agg #[.string code, .slice a1 l1 c1, .slice a2 l2 c2, .slice a3 l3 c3]] w fun e w' => e = .returned (.bool (symsOk code.size l1 ss)) ∧ Below w.heap.size w w' := by
  have hmm := @run_makeMap Try.prog
  have HV : Hid _ := h
  have hcnt := h.count
  clear h
  by_cases hbig : (1000 : Int) < l2
  · have HNO : Hid (symsOk code.size l1 ss = false) := by show _ = _; unfold symsOk; rw [show decide (ss.length ≤ 1000) = false by simp; omega, Bool.false_and]
    have hb : Below w.heap.size w (w.alloc (.cells #[.string code, .slice a1 l1 c1, .slice a2 l2 c2, .slice a3 l3 c3] 40)) := bl_one _ _
    go_enter Try.func39, Try.ntmps39
    go_wp2
    go_ret
    exact ⟨by rw [HNO.out]; rfl, hb⟩
  obtain ⟨W1, hW1⟩ : ∃ W1, w.alloc (.cells #[.string code, .slice a1 l1 c1, .slice a2 l2 c2, .slice a3 l3 c3] 40) = W1 := ⟨_, rfl⟩
  have s1 : W1.heap.size = w.heap.size + 1 := by subst hW1; simp
  have b1 : Below w.heap.size w W1 := by subst hW1; exact bl_one _ _
  have v0 : W1.cell? ⟨w.heap.size, 0, none⟩ = some (.string code) := by subst hW1; exact cell_last rfl rfl
  have v1 : W1.cell? ⟨w.heap.size, 1, none⟩ = some (.slice a1 l1 c1) := by subst hW1; exact cell_last rfl rfl
  have v2 : W1.cell? ⟨w.heap.size, 2, none⟩ = some (.slice a2 l2 c2) := by subst hW1; exact cell_last rfl rfl
  have v3 : W1.cell? ⟨w.heap.size, 3, none⟩ = some (.slice a3 l3 c3) := by subst hW1; exact cell_last rfl rfl
  obtain ⟨W2, hW2⟩ : ∃ W2, W1.alloc (.map #[] 0) = W2 := ⟨_, rfl⟩
  have zW2 : w.heap.size + 2 ≤ W2.heap.size := by subst hW2; simp; omega
  have b2 : Below W1.heap.size W1 W2 := by subst hW2; exact bl_one _ _
  have v0 := cell_thru b2 v0
  have v1 := cell_thru b2 v1
  have v2 := cell_thru b2 v2
  have v3 := cell_thru b2 v3
  have HOW : Hid (W2.ownsMap Try.prog 9 (unitElem (H := Unit)) (w.heap.size + 1) 0 (nset [])) := by
    show World.ownsMap _ _ _ _ _ _ _
    rw [← s1, ← hW2]
    exact World.ownsMap_made _ _ _ _
  go_enter Try.func39, Try.ntmps39
  go_wp2_with fail
  go_loopg [16] l2 (fun r iv wq => ∃ (k : Nat), iv = .int .i64 k ∧ k ≤ l2 ∧ l2 - k ≤ r ∧ Hid (wq.ownsMap Try.prog 9 unitElem (w.heap.size + 1) k (nset ((ss.map Sym.name).take k))) ∧ Hid (∀ i, i < k → symAt code.size l1 ss i = true) ∧ Hid (Below (w.heap.size + 1) W2 wq))
  case atStart => exact ⟨0, rfl, Nat.zero_le _, by omega, HOW.out, (fun i hi => by omega : ∀ i, i < 0 → symAt code.size l1 ss i = true), Below.refl _ _⟩
  case round =>
    obtain ⟨k, rfl, hk, hr, HMP, HAL, HBL⟩ := hrel
    have hbw : Below w.heap.size w wr := (b1.trans (b2.mono (by omega))).trans (HBL.out.mono (Nat.le_succ _))
    have zw2 : w.heap.size + 2 ≤ wr.heap.size := by have := HBL.out.size; subst hW2; simp at this; omega
    have u0 := (HBL.out.cell (p := ⟨w.heap.size, 0, none⟩) (Nat.lt_succ_self _)).trans v0
    have u1 := (HBL.out.cell (p := ⟨w.heap.size, 1, none⟩) (Nat.lt_succ_self _)).trans v1
    have u2 := (HBL.out.cell (p := ⟨w.heap.size, 2, none⟩) (Nat.lt_succ_self _)).trans v2
    have u3 := (HBL.out.cell (p := ⟨w.heap.size, 3, none⟩) (Nat.lt_succ_self _)).trans v3
    by_cases hlt : k < l2
    · rcases HV.out.cells with h0 | ⟨b, off, hA, hc⟩
      · omega
      obtain ⟨k0, k1, k2⟩ := hc k hlt
      have hbl : b < w.heap.size := World.block_lt_of_cell? w ⟨b, off + k * 3, none⟩ k0
      have q0 := (hbw.cell (p := ⟨b, off + k * 3, none⟩) hbl).trans k0
      have q1 := (hbw.cell (p := ⟨b, off + k * 3 + 1, none⟩) hbl).trans k1
      have q2 := (hbw.cell (p := ⟨b, off + k * 3 + 2, none⟩) hbl).trans k2
      have HTK : Hid _ := take_snocS ss k (by omega)
      have hfit := HV.out.fits (ss.getD k noSym) (by simp [List.getD, show k < ss.length by omega])
      have HDUP : Hid (∀ {x : ByteArray}, ((ss.map Sym.name).take k).any (fun y => decide (y = x)) = true → (ss.getD k noSym).name = x → symsOk code.size l1 ss = false) := fun hx he => syms_no (by omega) (names_dup (by omega) hx he _ _)
      have HNEW : Hid (∀ {x : ByteArray}, ((ss.map Sym.name).take k).any (fun y => decide (y = x)) = false → (ss.getD k noSym).name = x → symAt code.size l1 ss k = symOk code.size l1 (ss.getD k noSym)) := fun hx he => names_new (by omega) hx he _ _
      have HSO : Hid (symOk code.size l1 (ss.getD k noSym) = (nameOk (ss.getD k noSym).name && (decide (0 ≤ (ss.getD k noSym).pos) && decide ((ss.getD k noSym).pos < roomOf code.size l1 (ss.getD k noSym).kind)))) := rfl
      obtain ⟨nm, hnm⟩ : ∃ nm, (ss.getD k noSym).name = nm := ⟨_, rfl⟩
      obtain ⟨kd, hkd⟩ : ∃ kd, (ss.getD k noSym).kind = kd := ⟨_, rfl⟩
      obtain ⟨ps, hps⟩ : ∃ ps, (ss.getD k noSym).pos = ps := ⟨_, rfl⟩
      have HNMX : Hid _ := hnm
      rw [hnm] at q0 HTK hfit HSO
      rw [hkd] at q1 HSO
      rw [hps] at q2 HSO
      have hkey : keyOf Try.prog 9 (.string nm) = some (.string nm.data.toList) := Go.WideMaps.keyOf_string_mk Try.underlying9 hfit.1
      have hH := has_nset ((ss.map Sym.name).take k) nm
      subst hA
      have hii : (k : Int) < l2 := by omega
      have hin : 0 ≤ (k : Int) := by omega
      clear hc k0 k1 k2 hnm hkd hps hfit
      obtain ⟨Y1, hY1⟩ : ∃ Y1, wr.alloc (.cells #[.string nm, .int .i64 kd, .int .i64 ps] 36) = Y1 := ⟨_, rfl⟩
      have bY : Below wr.heap.size wr Y1 := by subst hY1; exact bl_one _ _
      have sY1 : Y1.heap.size = wr.heap.size + 1 := by subst hY1; simp
      have g0 : Y1.cell? ⟨wr.heap.size, 0, none⟩ = some (.string nm) := by subst hY1; exact cell_last rfl rfl
      have g1 : Y1.cell? ⟨wr.heap.size, 1, none⟩ = some (.int .i64 kd) := by subst hY1; exact cell_last rfl rfl
      have g2 : Y1.cell? ⟨wr.heap.size, 2, none⟩ = some (.int .i64 ps) := by subst hY1; exact cell_last rfl rfl
      have HMY : Hid (Y1.ownsMap Try.prog 9 (unitElem (H := Unit)) (w.heap.size + 1) k (nset ((ss.map Sym.name).take k))) := by subst hY1; exact HMP.out.alloc _
      cases hdup : ((ss.map Sym.name).take k).any (fun y => decide (y = nm)) with
      | true =>
        rw [hdup] at hH
        have HNO : Hid (symsOk code.size l1 ss = false) := HDUP.out hdup HNMX.out
        clear hdup
        go_wp2_with (first | (at_lookup; refine wpList_lookup_own_unit _ rfl _ _ 87 rfl 9 88 lawS Try.underlying87 (zeroU _) (w.heap.size + 1) k _ rfl HMY.out _ _ rfl hkey ?_) | go_in)
        go_ret
        exact ⟨by rw [HNO.out]; rfl, (hbw.trans (bY.mono hbw.size)).alloc (by have := hbw.size; omega) _⟩
      | false =>
        rw [hdup] at hH
        have HSA : Hid (symAt code.size l1 ss k = symOk code.size l1 (ss.getD k noSym)) := HNEW.out hdup HNMX.out
        clear hdup
        go_wp2_with (first | (at_lookup; refine wpList_lookup_own_unit _ rfl _ _ 87 rfl 9 88 lawS Try.underlying87 (zeroU _) (w.heap.size + 1) k _ rfl HMY.out _ _ rfl hkey ?_) | go_in)
        obtain ⟨Y2, hY2⟩ : ∃ Y2, Y1.alloc (.cells #[] 88) = Y2 := ⟨_, rfl⟩
        have bY2 : Below Y1.heap.size Y1 Y2 := by subst hY2; exact bl_one _ _
        have bY12 : Below wr.heap.size wr Y2 := bY.trans (bY2.mono (by omega))
        have HS : Hid (Y2.drew.cell? ⟨wr.heap.size, 0, none⟩ = some (.string nm) ∧ Y2.drew.cell? ⟨wr.heap.size, 1, none⟩ = some (.int .i64 kd) ∧ Y2.drew.cell? ⟨wr.heap.size, 2, none⟩ = some (.int .i64 ps) ∧ Y2.drew.cell? ⟨w.heap.size, 0, none⟩ = some (.string code) ∧ Y2.drew.cell? ⟨w.heap.size, 1, none⟩ = some (.slice a1 l1 c1) ∧ Y2.drew.cell? ⟨w.heap.size, 2, none⟩ = some (.slice (some ⟨b, off, none⟩) l2 c2) ∧ Y2.drew.cell? ⟨w.heap.size, 3, none⟩ = some (.slice a3 l3 c3)) := ⟨cell_thru bY2.drew g0, cell_thru bY2.drew g1, cell_thru bY2.drew g2, cell_thru bY12.drew u0, cell_thru bY12.drew u1, cell_thru bY12.drew u2, cell_thru bY12.drew u3⟩
        have HMX : Hid (Y2.drew.ownsMap Try.prog 9 (unitElem (H := Unit)) (w.heap.size + 1) k (nset ((ss.map Sym.name).take k))) := by subst hY2; exact (HMY.out.alloc _).drew
        have HBX : Hid (Below (w.heap.size + 1) W2 Y2) := HBL.out.trans (bY12.mono (by omega))
        have hbY : Below w.heap.size w Y2 := hbw.trans (bY12.mono hbw.size)
        rw [hY2]
        clear g0 g1 g2 u0 u1 u2 u3 q0 q1 q2
        cases hnk : nameOk nm with
        | false =>
          have HNM : Hid _ := hnk
          have HNO : Hid (symsOk code.size l1 ss = false) := syms_no (k := k) (by omega) (by rw [HSA.out, HSO.out, hnk, Bool.false_and])
          clear hnk
          refine wp_region_held_drew (S := (fun w' : World => (w'.cell? ⟨wr.heap.size, 0, none⟩ = some (.string nm) ∧ w'.cell? ⟨wr.heap.size, 1, none⟩ = some (.int .i64 kd) ∧ w'.cell? ⟨wr.heap.size, 2, none⟩ = some (.int .i64 ps) ∧ w'.cell? ⟨w.heap.size, 0, none⟩ = some (.string code) ∧ w'.cell? ⟨w.heap.size, 1, none⟩ = some (.slice a1 l1 c1) ∧ w'.cell? ⟨w.heap.size, 2, none⟩ = some (.slice (some ⟨b, off, none⟩) l2 c2) ∧ w'.cell? ⟨w.heap.size, 3, none⟩ = some (.slice a3 l3 c3)))) (by kernel_rfl) HS.out (fun hHeld => ?_)
          refine wpAnyH_take (i := 0) (v := ?_) (get0 _ _) (by kernel_rfl) (by kernel_rfl) (by kernel_rfl) (fun _ _ _ h => h) (Or.inl ⟨by rfl, ?_⟩) (by assumption) ?_
          rotate_left
          · (intro w hSw; (try dsimp only at hSw); go_simp <;> with_reducible rfl)
          simp only [Act.put, List.setIfInBounds_toArray, List.set_cons_zero, List.set_cons_succ]
          refine wpAnyH_take (i := 1) (v := ?_) (get1 (get0 _ _)) (by kernel_rfl) (by kernel_rfl) (by kernel_rfl) (fun _ _ _ h => h) (Or.inl ⟨by rfl, ?_⟩) (by assumption) ?_
          rotate_left
          · (intro w hSw; (try dsimp only at hSw); go_simp <;> with_reducible rfl)
          simp only [Act.put, List.setIfInBounds_toArray, List.set_cons_zero, List.set_cons_succ]
          refine wpAnyH_ready (rs := [2]) (by kernel_rfl) (by simp) ?_
          refine AllReadyH.cons (get1 (get1 (get0 _ _))) (fun K hK => ?_) AllReadyH.nil
          go_simp
          refine (name_any nm _).mono ?_
          rintro e y1 ⟨rfl, rfl⟩
          rw [HNM.out]
          have sy := hHeld
          clear hHeld
          try go_wp2_with fail
          refine hK.out _ _ sy (fun hHeld => ?_)
          clear hK K
          try simp only [Act.put, List.setIfInBounds_toArray, List.set_cons_zero, List.set_cons_succ]
          refine wpAnyH_take (i := 3) (v := ?_) (get1 (get1 (get1 (get0 _ _)))) (by kernel_rfl) (by kernel_rfl) (by kernel_rfl) (fun _ _ _ h => h) (Or.inl ⟨by rfl, ?_⟩) (by assumption) ?_
          rotate_left
          · (intro w hSw; (try dsimp only at hSw); go_simp <;> with_reducible rfl)
          simp only [Act.put, List.setIfInBounds_toArray, List.set_cons_zero, List.set_cons_succ]
          refine wpAnyH_take (i := 4) (v := ?_) (get1 (get1 (get1 (get1 (get0 _ _))))) (by kernel_rfl) (by kernel_rfl) (by kernel_rfl) (fun _ _ _ h => h) (Or.inl ⟨by rfl, ?_⟩) (by assumption) ?_
          rotate_left
          · (intro w hSw; (try dsimp only at hSw); go_simp <;> with_reducible rfl)
          simp only [Act.put, List.setIfInBounds_toArray, List.set_cons_zero, List.set_cons_succ]
          refine wpAnyH_take (i := 5) (v := undef) (get1 (get1 (get1 (get1 (get1 (get0 _ _)))))) (by kernel_rfl) (by kernel_rfl) (by kernel_rfl) (fun _ _ _ h => h) (Or.inr ⟨by rfl, rfl⟩) (by assumption) ?_
          simp only [Act.put, List.setIfInBounds_toArray, List.set_cons_zero, List.set_cons_succ]
          refine wpAnyH_take (i := 6) (v := undef) (get1 (get1 (get1 (get1 (get1 (get1 (get0 _ _))))))) (by kernel_rfl) (by kernel_rfl) (by kernel_rfl) (fun _ _ _ h => h) (Or.inr ⟨by rfl, rfl⟩) (by assumption) ?_
          simp only [Act.put, List.setIfInBounds_toArray, List.set_cons_zero, List.set_cons_succ]
          refine wpAnyH_take (i := 7) (v := undef) (get1 (get1 (get1 (get1 (get1 (get1 (get1 (get0 _ _)))))))) (by kernel_rfl) (by kernel_rfl) (by kernel_rfl) (fun _ _ _ h => h) (Or.inr ⟨by rfl, rfl⟩) (by assumption) ?_
          simp only [Act.put, List.setIfInBounds_toArray, List.set_cons_zero, List.set_cons_succ]
          refine wpAnyH_take (i := 8) (v := ?_) (get1 (get1 (get1 (get1 (get1 (get1 (get1 (get1 (get0 _ _))))))))) (by kernel_rfl) (by kernel_rfl) (by kernel_rfl) (fun _ _ _ h => h) (Or.inl ⟨by rfl, ?_⟩) (by assumption) ?_
          rotate_left
          · (intro w hSw; (try dsimp only at hSw); go_simp <;> with_reducible rfl)
          simp only [Act.put, List.setIfInBounds_toArray, List.set_cons_zero, List.set_cons_succ]
          refine wpAnyH_take (i := 9) (v := ?_) (get1 (get1 (get1 (get1 (get1 (get1 (get1 (get1 (get1 (get0 _ _)))))))))) (by kernel_rfl) (by kernel_rfl) (by kernel_rfl) (fun _ _ _ h => h) (Or.inl ⟨by rfl, ?_⟩) (by assumption) ?_
          rotate_left
          · (intro w hSw; (try dsimp only at hSw); go_simp <;> with_reducible rfl)
          simp only [Act.put, List.setIfInBounds_toArray, List.set_cons_zero, List.set_cons_succ]
          refine wpAnyH_take (i := 10) (v := undef) (get1 (get1 (get1 (get1 (get1 (get1 (get1 (get1 (get1 (get1 (get0 _ _))))))))))) (by kernel_rfl) (by kernel_rfl) (by kernel_rfl) (fun _ _ _ h => h) (Or.inr ⟨by rfl, rfl⟩) (by assumption) ?_
          simp only [Act.put, List.setIfInBounds_toArray, List.set_cons_zero, List.set_cons_succ]
          refine wpAnyH_take (i := 11) (v := undef) (get1 (get1 (get1 (get1 (get1 (get1 (get1 (get1 (get1 (get1 (get1 (get0 _ _)))))))))))) (by kernel_rfl) (by kernel_rfl) (by kernel_rfl) (fun _ _ _ h => h) (Or.inr ⟨by rfl, rfl⟩) (by assumption) ?_
          simp only [Act.put, List.setIfInBounds_toArray, List.set_cons_zero, List.set_cons_succ]
          refine wpAnyH_take (i := 12) (v := undef) (get1 (get1 (get1 (get1 (get1 (get1 (get1 (get1 (get1 (get1 (get1 (get1 (get0 _ _))))))))))))) (by kernel_rfl) (by kernel_rfl) (by kernel_rfl) (fun _ _ _ h => h) (Or.inr ⟨by rfl, rfl⟩) (by assumption) ?_
          simp only [Act.put, List.setIfInBounds_toArray, List.set_cons_zero, List.set_cons_succ]
          refine wpAnyH_take (i := 13) (v := undef) (get1 (get1 (get1 (get1 (get1 (get1 (get1 (get1 (get1 (get1 (get1 (get1 (get1 (get0 _ _)))))))))))))) (by kernel_rfl) (by kernel_rfl) (by kernel_rfl) (fun _ _ _ h => h) (Or.inr ⟨by rfl, rfl⟩) (by assumption) ?_
          simp only [Act.put, List.setIfInBounds_toArray, List.set_cons_zero, List.set_cons_succ]
          refine wpAnyH_take (i := 14) (v := undef) (get1 (get1 (get1 (get1 (get1 (get1 (get1 (get1 (get1 (get1 (get1 (get1 (get1 (get1 (get0 _ _))))))))))))))) (by kernel_rfl) (by kernel_rfl) (by kernel_rfl) (fun _ _ _ h => h) (Or.inr ⟨by rfl, rfl⟩) (by assumption) ?_
          simp only [Act.put, List.setIfInBounds_toArray, List.set_cons_zero, List.set_cons_succ]
          refine wpAnyH_take (i := 15) (v := undef) (get1 (get1 (get1 (get1 (get1 (get1 (get1 (get1 (get1 (get1 (get1 (get1 (get1 (get1 (get1 (get0 _ _)))))))))))))))) (by kernel_rfl) (by kernel_rfl) (by kernel_rfl) (fun _ _ _ h => h) (Or.inr ⟨by rfl, rfl⟩) (by assumption) ?_
          simp only [Act.put, List.setIfInBounds_toArray, List.set_cons_zero, List.set_cons_succ]
          refine wpAnyH_take (i := 16) (v := undef) (get1 (get1 (get1 (get1 (get1 (get1 (get1 (get1 (get1 (get1 (get1 (get1 (get1 (get1 (get1 (get1 (get0 _ _))))))))))))))))) (by kernel_rfl) (by kernel_rfl) (by kernel_rfl) (fun _ _ _ h => h) (Or.inr ⟨by rfl, rfl⟩) (by assumption) ?_
          simp only [Act.put, List.setIfInBounds_toArray, List.set_cons_zero, List.set_cons_succ]
          refine wpAnyH_take (i := 17) (v := ?_) (get1 (get1 (get1 (get1 (get1 (get1 (get1 (get1 (get1 (get1 (get1 (get1 (get1 (get1 (get1 (get1 (get1 (get0 _ _)))))))))))))))))) (by kernel_rfl) (by kernel_rfl) (by kernel_rfl) (fun _ _ _ h => h) (Or.inl ⟨by rfl, ?_⟩) (by assumption) ?_
          rotate_left
          · (intro w hSw; (try dsimp only at hSw); go_simp <;> with_reducible rfl)
          simp only [Act.put, List.setIfInBounds_toArray, List.set_cons_zero, List.set_cons_succ]
          refine wpAnyH_done (by kernel_rfl) ?_ _
          clear hHeld sy
          go_wp2_with fail
          go_ret
          exact ⟨by rw [HNO.out]; rfl, hbY.drew⟩
        | true =>
          have HNM : Hid _ := hnk
          by_cases hneg : ps < 0
          · have HNO : Hid (symsOk code.size l1 ss = false) := syms_no (k := k) (by omega) (by rw [HSA.out, HSO.out, hnk, show decide (0 ≤ ps) = false by simp; omega]; rfl)
            clear hnk
            refine wp_region_held_drew (S := (fun w' : World => (w'.cell? ⟨wr.heap.size, 0, none⟩ = some (.string nm) ∧ w'.cell? ⟨wr.heap.size, 1, none⟩ = some (.int .i64 kd) ∧ w'.cell? ⟨wr.heap.size, 2, none⟩ = some (.int .i64 ps) ∧ w'.cell? ⟨w.heap.size, 0, none⟩ = some (.string code) ∧ w'.cell? ⟨w.heap.size, 1, none⟩ = some (.slice a1 l1 c1) ∧ w'.cell? ⟨w.heap.size, 2, none⟩ = some (.slice (some ⟨b, off, none⟩) l2 c2) ∧ w'.cell? ⟨w.heap.size, 3, none⟩ = some (.slice a3 l3 c3)))) (by kernel_rfl) HS.out (fun hHeld => ?_)
            refine wpAnyH_take (i := 0) (v := ?_) (get0 _ _) (by kernel_rfl) (by kernel_rfl) (by kernel_rfl) (fun _ _ _ h => h) (Or.inl ⟨by rfl, ?_⟩) (by assumption) ?_
            rotate_left
            · (intro w hSw; (try dsimp only at hSw); go_simp <;> with_reducible rfl)
            simp only [Act.put, List.setIfInBounds_toArray, List.set_cons_zero, List.set_cons_succ]
            refine wpAnyH_take (i := 1) (v := ?_) (get1 (get0 _ _)) (by kernel_rfl) (by kernel_rfl) (by kernel_rfl) (fun _ _ _ h => h) (Or.inl ⟨by rfl, ?_⟩) (by assumption) ?_
            rotate_left
            · (intro w hSw; (try dsimp only at hSw); go_simp <;> with_reducible rfl)
            simp only [Act.put, List.setIfInBounds_toArray, List.set_cons_zero, List.set_cons_succ]
            refine wpAnyH_ready (rs := [2]) (by kernel_rfl) (by simp) ?_
            refine AllReadyH.cons (get1 (get1 (get0 _ _))) (fun K hK => ?_) AllReadyH.nil
            go_simp
            refine (name_any nm _).mono ?_
            rintro e y1 ⟨rfl, rfl⟩
            rw [HNM.out]
            have sy := hHeld
            clear hHeld
            try go_wp2_with fail
            refine hK.out _ _ sy (fun hHeld => ?_)
            clear hK K
            try simp only [Act.put, List.setIfInBounds_toArray, List.set_cons_zero, List.set_cons_succ]
            refine wpAnyH_take (i := 3) (v := ?_) (get1 (get1 (get1 (get0 _ _)))) (by kernel_rfl) (by kernel_rfl) (by kernel_rfl) (fun _ _ _ h => h) (Or.inl ⟨by rfl, ?_⟩) (by assumption) ?_
            rotate_left
            · (intro w hSw; (try dsimp only at hSw); go_simp <;> with_reducible rfl)
            simp only [Act.put, List.setIfInBounds_toArray, List.set_cons_zero, List.set_cons_succ]
            refine wpAnyH_take (i := 4) (v := ?_) (get1 (get1 (get1 (get1 (get0 _ _))))) (by kernel_rfl) (by kernel_rfl) (by kernel_rfl) (fun _ _ _ h => h) (Or.inl ⟨by rfl, ?_⟩) (by assumption) ?_
            rotate_left
            · (intro w hSw; (try dsimp only at hSw); go_simp <;> with_reducible rfl)
            simp only [Act.put, List.setIfInBounds_toArray, List.set_cons_zero, List.set_cons_succ]
            refine wpAnyH_take (i := 5) (v := ?_) (get1 (get1 (get1 (get1 (get1 (get0 _ _)))))) (by kernel_rfl) (by kernel_rfl) (by kernel_rfl) (fun _ _ _ h => h) (Or.inl ⟨by rfl, ?_⟩) (by assumption) ?_
            rotate_left
            · (intro w hSw; (try dsimp only at hSw); go_simp <;> with_reducible rfl)
            simp only [Act.put, List.setIfInBounds_toArray, List.set_cons_zero, List.set_cons_succ]
            refine wpAnyH_take (i := 6) (v := ?_) (get1 (get1 (get1 (get1 (get1 (get1 (get0 _ _))))))) (by kernel_rfl) (by kernel_rfl) (by kernel_rfl) (fun _ _ _ h => h) (Or.inl ⟨by rfl, ?_⟩) (by assumption) ?_
            rotate_left
            · (intro w hSw; (try dsimp only at hSw); go_simp <;> with_reducible rfl)
            simp only [Act.put, List.setIfInBounds_toArray, List.set_cons_zero, List.set_cons_succ]
            refine wpAnyH_take (i := 7) (v := ?_) (get1 (get1 (get1 (get1 (get1 (get1 (get1 (get0 _ _)))))))) (by kernel_rfl) (by kernel_rfl) (by kernel_rfl) (fun _ _ _ h => h) (Or.inl ⟨by rfl, ?_⟩) (by assumption) ?_
            rotate_left
            · (intro w hSw; (try dsimp only at hSw); go_simp <;> with_reducible rfl)
            simp only [Act.put, List.setIfInBounds_toArray, List.set_cons_zero, List.set_cons_succ]
            refine wpAnyH_take (i := 8) (v := ?_) (get1 (get1 (get1 (get1 (get1 (get1 (get1 (get1 (get0 _ _))))))))) (by kernel_rfl) (by kernel_rfl) (by kernel_rfl) (fun _ _ _ h => h) (Or.inl ⟨by rfl, ?_⟩) (by assumption) ?_
            rotate_left
            · (intro w hSw; (try dsimp only at hSw); go_simp <;> with_reducible rfl)
            simp only [Act.put, List.setIfInBounds_toArray, List.set_cons_zero, List.set_cons_succ]
            refine wpAnyH_take (i := 9) (v := ?_) (get1 (get1 (get1 (get1 (get1 (get1 (get1 (get1 (get1 (get0 _ _)))))))))) (by kernel_rfl) (by kernel_rfl) (by kernel_rfl) (fun _ _ _ h => h) (Or.inl ⟨by rfl, ?_⟩) (by assumption) ?_
            rotate_left
            · (intro w hSw; (try dsimp only at hSw); go_simp <;> with_reducible rfl)
            simp only [Act.put, List.setIfInBounds_toArray, List.set_cons_zero, List.set_cons_succ]
            refine wpAnyH_take (i := 10) (v := undef) (get1 (get1 (get1 (get1 (get1 (get1 (get1 (get1 (get1 (get1 (get0 _ _))))))))))) (by kernel_rfl) (by kernel_rfl) (by kernel_rfl) (fun _ _ _ h => h) (Or.inr ⟨by rfl, rfl⟩) (by assumption) ?_
            simp only [Act.put, List.setIfInBounds_toArray, List.set_cons_zero, List.set_cons_succ]
            refine wpAnyH_take (i := 11) (v := undef) (get1 (get1 (get1 (get1 (get1 (get1 (get1 (get1 (get1 (get1 (get1 (get0 _ _)))))))))))) (by kernel_rfl) (by kernel_rfl) (by kernel_rfl) (fun _ _ _ h => h) (Or.inr ⟨by rfl, rfl⟩) (by assumption) ?_
            simp only [Act.put, List.setIfInBounds_toArray, List.set_cons_zero, List.set_cons_succ]
            refine wpAnyH_take (i := 12) (v := undef) (get1 (get1 (get1 (get1 (get1 (get1 (get1 (get1 (get1 (get1 (get1 (get1 (get0 _ _))))))))))))) (by kernel_rfl) (by kernel_rfl) (by kernel_rfl) (fun _ _ _ h => h) (Or.inr ⟨by rfl, rfl⟩) (by assumption) ?_
            simp only [Act.put, List.setIfInBounds_toArray, List.set_cons_zero, List.set_cons_succ]
            refine wpAnyH_take (i := 13) (v := undef) (get1 (get1 (get1 (get1 (get1 (get1 (get1 (get1 (get1 (get1 (get1 (get1 (get1 (get0 _ _)))))))))))))) (by kernel_rfl) (by kernel_rfl) (by kernel_rfl) (fun _ _ _ h => h) (Or.inr ⟨by rfl, rfl⟩) (by assumption) ?_
            simp only [Act.put, List.setIfInBounds_toArray, List.set_cons_zero, List.set_cons_succ]
            refine wpAnyH_take (i := 14) (v := undef) (get1 (get1 (get1 (get1 (get1 (get1 (get1 (get1 (get1 (get1 (get1 (get1 (get1 (get1 (get0 _ _))))))))))))))) (by kernel_rfl) (by kernel_rfl) (by kernel_rfl) (fun _ _ _ h => h) (Or.inr ⟨by rfl, rfl⟩) (by assumption) ?_
            simp only [Act.put, List.setIfInBounds_toArray, List.set_cons_zero, List.set_cons_succ]
            refine wpAnyH_take (i := 15) (v := undef) (get1 (get1 (get1 (get1 (get1 (get1 (get1 (get1 (get1 (get1 (get1 (get1 (get1 (get1 (get1 (get0 _ _)))))))))))))))) (by kernel_rfl) (by kernel_rfl) (by kernel_rfl) (fun _ _ _ h => h) (Or.inr ⟨by rfl, rfl⟩) (by assumption) ?_
            simp only [Act.put, List.setIfInBounds_toArray, List.set_cons_zero, List.set_cons_succ]
            refine wpAnyH_take (i := 16) (v := undef) (get1 (get1 (get1 (get1 (get1 (get1 (get1 (get1 (get1 (get1 (get1 (get1 (get1 (get1 (get1 (get1 (get0 _ _))))))))))))))))) (by kernel_rfl) (by kernel_rfl) (by kernel_rfl) (fun _ _ _ h => h) (Or.inr ⟨by rfl, rfl⟩) (by assumption) ?_
            simp only [Act.put, List.setIfInBounds_toArray, List.set_cons_zero, List.set_cons_succ]
            refine wpAnyH_take (i := 17) (v := ?_) (get1 (get1 (get1 (get1 (get1 (get1 (get1 (get1 (get1 (get1 (get1 (get1 (get1 (get1 (get1 (get1 (get1 (get0 _ _)))))))))))))))))) (by kernel_rfl) (by kernel_rfl) (by kernel_rfl) (fun _ _ _ h => h) (Or.inl ⟨by rfl, ?_⟩) (by assumption) ?_
            rotate_left
            · (intro w hSw; (try dsimp only at hSw); go_simp <;> with_reducible rfl)
            simp only [Act.put, List.setIfInBounds_toArray, List.set_cons_zero, List.set_cons_succ]
            refine wpAnyH_done (by kernel_rfl) ?_ _
            clear hHeld sy
            go_wp2_with fail
            go_ret
            exact ⟨by rw [HNO.out]; rfl, hbY.drew⟩
          · have hd0 : decide (ps < 0) = false := decide_eq_false hneg
            obtain ⟨rm, hrm⟩ : ∃ rm, roomOf code.size l1 kd = rm := ⟨_, rfl⟩
            have HRM : Hid _ := hrm
            by_cases hge : rm ≤ ps
            · have hd1 : decide (rm ≤ ps) = true := decide_eq_true hge
              have HNO : Hid (symsOk code.size l1 ss = false) := syms_no (k := k) (by omega) (by rw [HSA.out, HSO.out, hnk, hrm, show decide (ps < rm) = false by simp; omega]; simp)
              clear hnk hrm
              refine wp_region_held_drew (S := (fun w' : World => (w'.cell? ⟨wr.heap.size, 0, none⟩ = some (.string nm) ∧ w'.cell? ⟨wr.heap.size, 1, none⟩ = some (.int .i64 kd) ∧ w'.cell? ⟨wr.heap.size, 2, none⟩ = some (.int .i64 ps) ∧ w'.cell? ⟨w.heap.size, 0, none⟩ = some (.string code) ∧ w'.cell? ⟨w.heap.size, 1, none⟩ = some (.slice a1 l1 c1) ∧ w'.cell? ⟨w.heap.size, 2, none⟩ = some (.slice (some ⟨b, off, none⟩) l2 c2) ∧ w'.cell? ⟨w.heap.size, 3, none⟩ = some (.slice a3 l3 c3)))) (by kernel_rfl) HS.out (fun hHeld => ?_)
              refine wpAnyH_take (i := 0) (v := ?_) (get0 _ _) (by kernel_rfl) (by kernel_rfl) (by kernel_rfl) (fun _ _ _ h => h) (Or.inl ⟨by rfl, ?_⟩) (by assumption) ?_
              rotate_left
              · (intro w hSw; (try dsimp only at hSw); go_simp <;> with_reducible rfl)
              simp only [Act.put, List.setIfInBounds_toArray, List.set_cons_zero, List.set_cons_succ]
              refine wpAnyH_take (i := 1) (v := ?_) (get1 (get0 _ _)) (by kernel_rfl) (by kernel_rfl) (by kernel_rfl) (fun _ _ _ h => h) (Or.inl ⟨by rfl, ?_⟩) (by assumption) ?_
              rotate_left
              · (intro w hSw; (try dsimp only at hSw); go_simp <;> with_reducible rfl)
              simp only [Act.put, List.setIfInBounds_toArray, List.set_cons_zero, List.set_cons_succ]
              refine wpAnyH_ready (rs := [2]) (by kernel_rfl) (by simp) ?_
              refine AllReadyH.cons (get1 (get1 (get0 _ _))) (fun K hK => ?_) AllReadyH.nil
              go_simp
              refine (name_any nm _).mono ?_
              rintro e y1 ⟨rfl, rfl⟩
              rw [HNM.out]
              have sy := hHeld
              clear hHeld
              try go_wp2_with fail
              refine hK.out _ _ sy (fun hHeld => ?_)
              clear hK K
              try simp only [Act.put, List.setIfInBounds_toArray, List.set_cons_zero, List.set_cons_succ]
              refine wpAnyH_take (i := 3) (v := ?_) (get1 (get1 (get1 (get0 _ _)))) (by kernel_rfl) (by kernel_rfl) (by kernel_rfl) (fun _ _ _ h => h) (Or.inl ⟨by rfl, ?_⟩) (by assumption) ?_
              rotate_left
              · (intro w hSw; (try dsimp only at hSw); go_simp <;> with_reducible rfl)
              simp only [Act.put, List.setIfInBounds_toArray, List.set_cons_zero, List.set_cons_succ]
              refine wpAnyH_take (i := 4) (v := ?_) (get1 (get1 (get1 (get1 (get0 _ _))))) (by kernel_rfl) (by kernel_rfl) (by kernel_rfl) (fun _ _ _ h => h) (Or.inl ⟨by rfl, ?_⟩) (by assumption) ?_
              rotate_left
              · (intro w hSw; (try dsimp only at hSw); go_simp <;> with_reducible rfl)
              simp only [Act.put, List.setIfInBounds_toArray, List.set_cons_zero, List.set_cons_succ]
              refine wpAnyH_take (i := 5) (v := ?_) (get1 (get1 (get1 (get1 (get1 (get0 _ _)))))) (by kernel_rfl) (by kernel_rfl) (by kernel_rfl) (fun _ _ _ h => h) (Or.inl ⟨by rfl, ?_⟩) (by assumption) ?_
              rotate_left
              · (intro w hSw; (try dsimp only at hSw); go_simp <;> with_reducible rfl)
              simp only [Act.put, List.setIfInBounds_toArray, List.set_cons_zero, List.set_cons_succ]
              refine wpAnyH_take (i := 6) (v := ?_) (get1 (get1 (get1 (get1 (get1 (get1 (get0 _ _))))))) (by kernel_rfl) (by kernel_rfl) (by kernel_rfl) (fun _ _ _ h => h) (Or.inl ⟨by rfl, ?_⟩) (by assumption) ?_
              rotate_left
              · (intro w hSw; (try dsimp only at hSw); go_simp <;> with_reducible rfl)
              simp only [Act.put, List.setIfInBounds_toArray, List.set_cons_zero, List.set_cons_succ]
              refine wpAnyH_take (i := 7) (v := ?_) (get1 (get1 (get1 (get1 (get1 (get1 (get1 (get0 _ _)))))))) (by kernel_rfl) (by kernel_rfl) (by kernel_rfl) (fun _ _ _ h => h) (Or.inl ⟨by rfl, ?_⟩) (by assumption) ?_
              rotate_left
              · (intro w hSw; (try dsimp only at hSw); go_simp <;> with_reducible rfl)
              simp only [Act.put, List.setIfInBounds_toArray, List.set_cons_zero, List.set_cons_succ]
              refine wpAnyH_take (i := 8) (v := ?_) (get1 (get1 (get1 (get1 (get1 (get1 (get1 (get1 (get0 _ _))))))))) (by kernel_rfl) (by kernel_rfl) (by kernel_rfl) (fun _ _ _ h => h) (Or.inl ⟨by rfl, ?_⟩) (by assumption) ?_
              rotate_left
              · (intro w hSw; (try dsimp only at hSw); go_simp <;> with_reducible rfl)
              simp only [Act.put, List.setIfInBounds_toArray, List.set_cons_zero, List.set_cons_succ]
              refine wpAnyH_take (i := 9) (v := ?_) (get1 (get1 (get1 (get1 (get1 (get1 (get1 (get1 (get1 (get0 _ _)))))))))) (by kernel_rfl) (by kernel_rfl) (by kernel_rfl) (fun _ _ _ h => h) (Or.inl ⟨by rfl, ?_⟩) (by assumption) ?_
              rotate_left
              · (intro w hSw; (try dsimp only at hSw); go_simp <;> with_reducible rfl)
              simp only [Act.put, List.setIfInBounds_toArray, List.set_cons_zero, List.set_cons_succ]
              refine wpAnyH_take (i := 10) (v := ?_) (get1 (get1 (get1 (get1 (get1 (get1 (get1 (get1 (get1 (get1 (get0 _ _))))))))))) (by kernel_rfl) (by kernel_rfl) (by kernel_rfl) (fun _ _ _ h => h) (Or.inl ⟨by rfl, ?_⟩) (by assumption) ?_
              rotate_left
              · (intro w hSw; (try dsimp only at hSw); go_simp <;> with_reducible rfl)
              simp only [Act.put, List.setIfInBounds_toArray, List.set_cons_zero, List.set_cons_succ]
              refine wpAnyH_take (i := 11) (v := ?_) (get1 (get1 (get1 (get1 (get1 (get1 (get1 (get1 (get1 (get1 (get1 (get0 _ _)))))))))))) (by kernel_rfl) (by kernel_rfl) (by kernel_rfl) (fun _ _ _ h => h) (Or.inl ⟨by rfl, ?_⟩) (by assumption) ?_
              rotate_left
              · (intro w hSw; (try dsimp only at hSw); go_simp <;> with_reducible rfl)
              simp only [Act.put, List.setIfInBounds_toArray, List.set_cons_zero, List.set_cons_succ]
              refine wpAnyH_take (i := 12) (v := ?_) (get1 (get1 (get1 (get1 (get1 (get1 (get1 (get1 (get1 (get1 (get1 (get1 (get0 _ _))))))))))))) (by kernel_rfl) (by kernel_rfl) (by kernel_rfl) (fun _ _ _ h => h) (Or.inl ⟨by rfl, ?_⟩) (by assumption) ?_
              rotate_left
              · (intro w hSw; (try dsimp only at hSw); go_simp <;> with_reducible rfl)
              simp only [Act.put, List.setIfInBounds_toArray, List.set_cons_zero, List.set_cons_succ]
              refine wpAnyH_take (i := 13) (v := ?_) (get1 (get1 (get1 (get1 (get1 (get1 (get1 (get1 (get1 (get1 (get1 (get1 (get1 (get0 _ _)))))))))))))) (by kernel_rfl) (by kernel_rfl) (by kernel_rfl) (fun _ _ _ h => h) (Or.inl ⟨by rfl, ?_⟩) (by assumption) ?_
              rotate_left
              · (intro w hSw; (try dsimp only at hSw); go_simp <;> with_reducible rfl)
              simp only [Act.put, List.setIfInBounds_toArray, List.set_cons_zero, List.set_cons_succ]
              refine wpAnyH_take (i := 14) (v := ?_) (get1 (get1 (get1 (get1 (get1 (get1 (get1 (get1 (get1 (get1 (get1 (get1 (get1 (get1 (get0 _ _))))))))))))))) (by kernel_rfl) (by kernel_rfl) (by kernel_rfl) (fun _ _ _ h => h) (Or.inl ⟨by rfl, ?_⟩) (by assumption) ?_
              rotate_left
              · (intro w hSw; (try dsimp only at hSw); go_simp <;> with_reducible rfl)
              simp only [Act.put, List.setIfInBounds_toArray, List.set_cons_zero, List.set_cons_succ]
              refine wpAnyH_ready (rs := [15]) (by kernel_rfl) (by simp) ?_
              refine AllReadyH.cons (get1 (get1 (get1 (get1 (get1 (get1 (get1 (get1 (get1 (get1 (get1 (get1 (get1 (get1 (get1 (get0 _ _)))))))))))))))) (fun K hK => ?_) AllReadyH.nil
              go_simp
              refine (room_any code kd _).mono ?_
              rintro e y2 ⟨rfl, hb2⟩
              rw [HRM.out]
              have sy : (y2.cell? ⟨wr.heap.size, 0, none⟩ = some (.string nm) ∧ y2.cell? ⟨wr.heap.size, 1, none⟩ = some (.int .i64 kd) ∧ y2.cell? ⟨wr.heap.size, 2, none⟩ = some (.int .i64 ps) ∧ y2.cell? ⟨w.heap.size, 0, none⟩ = some (.string code) ∧ y2.cell? ⟨w.heap.size, 1, none⟩ = some (.slice a1 l1 c1) ∧ y2.cell? ⟨w.heap.size, 2, none⟩ = some (.slice (some ⟨b, off, none⟩) l2 c2) ∧ y2.cell? ⟨w.heap.size, 3, none⟩ = some (.slice a3 l3 c3)) := ⟨cell_thru hb2 hHeld.1, cell_thru hb2 hHeld.2.1, cell_thru hb2 hHeld.2.2.1, cell_thru hb2 hHeld.2.2.2.1, cell_thru hb2 hHeld.2.2.2.2.1, cell_thru hb2 hHeld.2.2.2.2.2.1, cell_thru hb2 hHeld.2.2.2.2.2.2⟩
              clear hHeld
              try go_wp2_with fail
              refine hK.out _ _ sy (fun hHeld => ?_)
              clear hK K
              try simp only [Act.put, List.setIfInBounds_toArray, List.set_cons_zero, List.set_cons_succ]
              refine wpAnyH_take (i := 16) (v := ?_) (get1 (get1 (get1 (get1 (get1 (get1 (get1 (get1 (get1 (get1 (get1 (get1 (get1 (get1 (get1 (get1 (get0 _ _))))))))))))))))) (by kernel_rfl) (by kernel_rfl) (by kernel_rfl) (fun _ _ _ h => h) (Or.inl ⟨by rfl, ?_⟩) (by assumption) ?_
              rotate_left
              · (intro w hSw; (try dsimp only at hSw); go_simp <;> with_reducible rfl)
              simp only [Act.put, List.setIfInBounds_toArray, List.set_cons_zero, List.set_cons_succ]
              refine wpAnyH_take (i := 17) (v := ?_) (get1 (get1 (get1 (get1 (get1 (get1 (get1 (get1 (get1 (get1 (get1 (get1 (get1 (get1 (get1 (get1 (get1 (get0 _ _)))))))))))))))))) (by kernel_rfl) (by kernel_rfl) (by kernel_rfl) (fun _ _ _ h => h) (Or.inl ⟨by rfl, ?_⟩) (by assumption) ?_
              rotate_left
              · (intro w hSw; (try dsimp only at hSw); go_simp <;> with_reducible rfl)
              simp only [Act.put, List.setIfInBounds_toArray, List.set_cons_zero, List.set_cons_succ]
              refine wpAnyH_done (by kernel_rfl) ?_ _
              clear hHeld sy
              go_wp2_with fail
              go_ret
              exact ⟨by rw [HNO.out]; rfl, hbY.drew.trans (hb2.mono (by have := hbY.size; simpa using this))⟩
            · have hd1 : decide (rm ≤ ps) = false := decide_eq_false hge
              have HYES : Hid (symAt code.size l1 ss k = true) := by
                show _ = _
                rw [HSA.out, HSO.out, hnk, hrm, show decide (ps < rm) = true by simp; omega, show decide (0 ≤ ps) = true by simp; omega]
                rfl
              clear hnk hrm
              refine wp_region_held_drew (S := (fun w' : World => (w'.cell? ⟨wr.heap.size, 0, none⟩ = some (.string nm) ∧ w'.cell? ⟨wr.heap.size, 1, none⟩ = some (.int .i64 kd) ∧ w'.cell? ⟨wr.heap.size, 2, none⟩ = some (.int .i64 ps) ∧ w'.cell? ⟨w.heap.size, 0, none⟩ = some (.string code) ∧ w'.cell? ⟨w.heap.size, 1, none⟩ = some (.slice a1 l1 c1) ∧ w'.cell? ⟨w.heap.size, 2, none⟩ = some (.slice (some ⟨b, off, none⟩) l2 c2) ∧ w'.cell? ⟨w.heap.size, 3, none⟩ = some (.slice a3 l3 c3)))) (by kernel_rfl) HS.out (fun hHeld => ?_)
              refine wpAnyH_take (i := 0) (v := ?_) (get0 _ _) (by kernel_rfl) (by kernel_rfl) (by kernel_rfl) (fun _ _ _ h => h) (Or.inl ⟨by rfl, ?_⟩) (by assumption) ?_
              rotate_left
              · (intro w hSw; (try dsimp only at hSw); go_simp <;> with_reducible rfl)
              simp only [Act.put, List.setIfInBounds_toArray, List.set_cons_zero, List.set_cons_succ]
              refine wpAnyH_take (i := 1) (v := ?_) (get1 (get0 _ _)) (by kernel_rfl) (by kernel_rfl) (by kernel_rfl) (fun _ _ _ h => h) (Or.inl ⟨by rfl, ?_⟩) (by assumption) ?_
              rotate_left
              · (intro w hSw; (try dsimp only at hSw); go_simp <;> with_reducible rfl)
              simp only [Act.put, List.setIfInBounds_toArray, List.set_cons_zero, List.set_cons_succ]
              refine wpAnyH_ready (rs := [2]) (by kernel_rfl) (by simp) ?_
              refine AllReadyH.cons (get1 (get1 (get0 _ _))) (fun K hK => ?_) AllReadyH.nil
              go_simp
              refine (name_any nm _).mono ?_
              rintro e y1 ⟨rfl, rfl⟩
              rw [HNM.out]
              have sy := hHeld
              clear hHeld
              try go_wp2_with fail
              refine hK.out _ _ sy (fun hHeld => ?_)
              clear hK K
              try simp only [Act.put, List.setIfInBounds_toArray, List.set_cons_zero, List.set_cons_succ]
              refine wpAnyH_take (i := 3) (v := ?_) (get1 (get1 (get1 (get0 _ _)))) (by kernel_rfl) (by kernel_rfl) (by kernel_rfl) (fun _ _ _ h => h) (Or.inl ⟨by rfl, ?_⟩) (by assumption) ?_
              rotate_left
              · (intro w hSw; (try dsimp only at hSw); go_simp <;> with_reducible rfl)
              simp only [Act.put, List.setIfInBounds_toArray, List.set_cons_zero, List.set_cons_succ]
              refine wpAnyH_take (i := 4) (v := ?_) (get1 (get1 (get1 (get1 (get0 _ _))))) (by kernel_rfl) (by kernel_rfl) (by kernel_rfl) (fun _ _ _ h => h) (Or.inl ⟨by rfl, ?_⟩) (by assumption) ?_
              rotate_left
              · (intro w hSw; (try dsimp only at hSw); go_simp <;> with_reducible rfl)
              simp only [Act.put, List.setIfInBounds_toArray, List.set_cons_zero, List.set_cons_succ]
              refine wpAnyH_take (i := 5) (v := ?_) (get1 (get1 (get1 (get1 (get1 (get0 _ _)))))) (by kernel_rfl) (by kernel_rfl) (by kernel_rfl) (fun _ _ _ h => h) (Or.inl ⟨by rfl, ?_⟩) (by assumption) ?_
              rotate_left
              · (intro w hSw; (try dsimp only at hSw); go_simp <;> with_reducible rfl)
              simp only [Act.put, List.setIfInBounds_toArray, List.set_cons_zero, List.set_cons_succ]
              refine wpAnyH_take (i := 6) (v := ?_) (get1 (get1 (get1 (get1 (get1 (get1 (get0 _ _))))))) (by kernel_rfl) (by kernel_rfl) (by kernel_rfl) (fun _ _ _ h => h) (Or.inl ⟨by rfl, ?_⟩) (by assumption) ?_
              rotate_left
              · (intro w hSw; (try dsimp only at hSw); go_simp <;> with_reducible rfl)
              simp only [Act.put, List.setIfInBounds_toArray, List.set_cons_zero, List.set_cons_succ]
              refine wpAnyH_take (i := 7) (v := ?_) (get1 (get1 (get1 (get1 (get1 (get1 (get1 (get0 _ _)))))))) (by kernel_rfl) (by kernel_rfl) (by kernel_rfl) (fun _ _ _ h => h) (Or.inl ⟨by rfl, ?_⟩) (by assumption) ?_
              rotate_left
              · (intro w hSw; (try dsimp only at hSw); go_simp <;> with_reducible rfl)
              simp only [Act.put, List.setIfInBounds_toArray, List.set_cons_zero, List.set_cons_succ]
              refine wpAnyH_take (i := 8) (v := ?_) (get1 (get1 (get1 (get1 (get1 (get1 (get1 (get1 (get0 _ _))))))))) (by kernel_rfl) (by kernel_rfl) (by kernel_rfl) (fun _ _ _ h => h) (Or.inl ⟨by rfl, ?_⟩) (by assumption) ?_
              rotate_left
              · (intro w hSw; (try dsimp only at hSw); go_simp <;> with_reducible rfl)
              simp only [Act.put, List.setIfInBounds_toArray, List.set_cons_zero, List.set_cons_succ]
              refine wpAnyH_take (i := 9) (v := ?_) (get1 (get1 (get1 (get1 (get1 (get1 (get1 (get1 (get1 (get0 _ _)))))))))) (by kernel_rfl) (by kernel_rfl) (by kernel_rfl) (fun _ _ _ h => h) (Or.inl ⟨by rfl, ?_⟩) (by assumption) ?_
              rotate_left
              · (intro w hSw; (try dsimp only at hSw); go_simp <;> with_reducible rfl)
              simp only [Act.put, List.setIfInBounds_toArray, List.set_cons_zero, List.set_cons_succ]
              refine wpAnyH_take (i := 10) (v := ?_) (get1 (get1 (get1 (get1 (get1 (get1 (get1 (get1 (get1 (get1 (get0 _ _))))))))))) (by kernel_rfl) (by kernel_rfl) (by kernel_rfl) (fun _ _ _ h => h) (Or.inl ⟨by rfl, ?_⟩) (by assumption) ?_
              rotate_left
              · (intro w hSw; (try dsimp only at hSw); go_simp <;> with_reducible rfl)
              simp only [Act.put, List.setIfInBounds_toArray, List.set_cons_zero, List.set_cons_succ]
              refine wpAnyH_take (i := 11) (v := ?_) (get1 (get1 (get1 (get1 (get1 (get1 (get1 (get1 (get1 (get1 (get1 (get0 _ _)))))))))))) (by kernel_rfl) (by kernel_rfl) (by kernel_rfl) (fun _ _ _ h => h) (Or.inl ⟨by rfl, ?_⟩) (by assumption) ?_
              rotate_left
              · (intro w hSw; (try dsimp only at hSw); go_simp <;> with_reducible rfl)
              simp only [Act.put, List.setIfInBounds_toArray, List.set_cons_zero, List.set_cons_succ]
              refine wpAnyH_take (i := 12) (v := ?_) (get1 (get1 (get1 (get1 (get1 (get1 (get1 (get1 (get1 (get1 (get1 (get1 (get0 _ _))))))))))))) (by kernel_rfl) (by kernel_rfl) (by kernel_rfl) (fun _ _ _ h => h) (Or.inl ⟨by rfl, ?_⟩) (by assumption) ?_
              rotate_left
              · (intro w hSw; (try dsimp only at hSw); go_simp <;> with_reducible rfl)
              simp only [Act.put, List.setIfInBounds_toArray, List.set_cons_zero, List.set_cons_succ]
              refine wpAnyH_take (i := 13) (v := ?_) (get1 (get1 (get1 (get1 (get1 (get1 (get1 (get1 (get1 (get1 (get1 (get1 (get1 (get0 _ _)))))))))))))) (by kernel_rfl) (by kernel_rfl) (by kernel_rfl) (fun _ _ _ h => h) (Or.inl ⟨by rfl, ?_⟩) (by assumption) ?_
              rotate_left
              · (intro w hSw; (try dsimp only at hSw); go_simp <;> with_reducible rfl)
              simp only [Act.put, List.setIfInBounds_toArray, List.set_cons_zero, List.set_cons_succ]
              refine wpAnyH_take (i := 14) (v := ?_) (get1 (get1 (get1 (get1 (get1 (get1 (get1 (get1 (get1 (get1 (get1 (get1 (get1 (get1 (get0 _ _))))))))))))))) (by kernel_rfl) (by kernel_rfl) (by kernel_rfl) (fun _ _ _ h => h) (Or.inl ⟨by rfl, ?_⟩) (by assumption) ?_
              rotate_left
              · (intro w hSw; (try dsimp only at hSw); go_simp <;> with_reducible rfl)
              simp only [Act.put, List.setIfInBounds_toArray, List.set_cons_zero, List.set_cons_succ]
              refine wpAnyH_ready (rs := [15]) (by kernel_rfl) (by simp) ?_
              refine AllReadyH.cons (get1 (get1 (get1 (get1 (get1 (get1 (get1 (get1 (get1 (get1 (get1 (get1 (get1 (get1 (get1 (get0 _ _)))))))))))))))) (fun K hK => ?_) AllReadyH.nil
              go_simp
              refine (room_any code kd _).mono ?_
              rintro e y2 ⟨rfl, hb2⟩
              rw [HRM.out]
              have sy : (y2.cell? ⟨wr.heap.size, 0, none⟩ = some (.string nm) ∧ y2.cell? ⟨wr.heap.size, 1, none⟩ = some (.int .i64 kd) ∧ y2.cell? ⟨wr.heap.size, 2, none⟩ = some (.int .i64 ps) ∧ y2.cell? ⟨w.heap.size, 0, none⟩ = some (.string code) ∧ y2.cell? ⟨w.heap.size, 1, none⟩ = some (.slice a1 l1 c1) ∧ y2.cell? ⟨w.heap.size, 2, none⟩ = some (.slice (some ⟨b, off, none⟩) l2 c2) ∧ y2.cell? ⟨w.heap.size, 3, none⟩ = some (.slice a3 l3 c3)) := ⟨cell_thru hb2 hHeld.1, cell_thru hb2 hHeld.2.1, cell_thru hb2 hHeld.2.2.1, cell_thru hb2 hHeld.2.2.2.1, cell_thru hb2 hHeld.2.2.2.2.1, cell_thru hb2 hHeld.2.2.2.2.2.1, cell_thru hb2 hHeld.2.2.2.2.2.2⟩
              clear hHeld
              try go_wp2_with fail
              refine hK.out _ _ sy (fun hHeld => ?_)
              clear hK K
              try simp only [Act.put, List.setIfInBounds_toArray, List.set_cons_zero, List.set_cons_succ]
              refine wpAnyH_take (i := 16) (v := ?_) (get1 (get1 (get1 (get1 (get1 (get1 (get1 (get1 (get1 (get1 (get1 (get1 (get1 (get1 (get1 (get1 (get0 _ _))))))))))))))))) (by kernel_rfl) (by kernel_rfl) (by kernel_rfl) (fun _ _ _ h => h) (Or.inl ⟨by rfl, ?_⟩) (by assumption) ?_
              rotate_left
              · (intro w hSw; (try dsimp only at hSw); go_simp <;> with_reducible rfl)
              simp only [Act.put, List.setIfInBounds_toArray, List.set_cons_zero, List.set_cons_succ]
              refine wpAnyH_take (i := 17) (v := ?_) (get1 (get1 (get1 (get1 (get1 (get1 (get1 (get1 (get1 (get1 (get1 (get1 (get1 (get1 (get1 (get1 (get1 (get0 _ _)))))))))))))))))) (by kernel_rfl) (by kernel_rfl) (by kernel_rfl) (fun _ _ _ h => h) (Or.inl ⟨by rfl, ?_⟩) (by assumption) ?_
              rotate_left
              · (intro w hSw; (try dsimp only at hSw); go_simp <;> with_reducible rfl)
              simp only [Act.put, List.setIfInBounds_toArray, List.set_cons_zero, List.set_cons_succ]
              refine wpAnyH_done (by kernel_rfl) ?_ _
              have HC1 : Hid (Below (w.heap.size + 1) W2 y2) := HBX.out.trans ((Below.refl _ _).drew.trans (hb2.mono (by show w.heap.size + 1 ≤ Y2.heap.size; have := HBX.out.size; omega)))
              have HOM : Hid (y2.ownsMap Try.prog 9 unitElem (w.heap.size + 1) k (nset ((ss.map Sym.name).take k))) := HMX.out.kept (row := none) ⟨hb2.os, hb2.tape, hb2.output, hb2.size, fun j hj _ => hb2.block j hj⟩ (by simp)
              clear hHeld hb2
              go_wp2_with (first | (at_mapUpdate; refine wpList_mapUpdate_own _ rfl _ _ _ 87 rfl 9 88 lawS Try.underlying87 (unitElem (H := Unit)) (w.heap.size + 1) k _ rfl HOM.out (by unfold maxLen; omega) _ _ _ rfl rfl hkey _ [] unitElem_mk ?_) | go_in)
              intro w5 hown5 hg5
              have HO5 : Hid (w5.ownsMap Try.prog 9 unitElem (w.heap.size + 1) (k + 1) (nset ((ss.map Sym.name).take (k + 1)))) := by
                show World.ownsMap _ _ _ _ _ _ _
                rw [HTK.out, nset_snoc]
                exact hown5
              have HB5 : Hid (Below (w.heap.size + 1) W2 w5) := HC1.out.grown hg5 (by have := HC1.out.size; omega) (fun j hj => by cases hj; exact Nat.le_refl _)
              have HA5 : Hid (∀ i, i < k + 1 → symAt code.size l1 ss i = true) := fun i hi => by
                rcases Nat.lt_or_ge i k with c | c
                · exact HAL.out i c
                · obtain rfl : i = k := by omega
                  exact HYES.out
              clear hown5 hg5
              go_wp2_with fail
              go_roundg (l2 - (k + 1))
              case measure => omega
              case rel => exact ⟨k + 1, by first | rfl | (congr 1; omega), by omega, Nat.le_refl _, HO5.out, HA5.out, HB5.out⟩
    · obtain rfl : k = l2 := by omega
      have HYA : Hid (symsOk code.size l1 ss = true) := by
        show _ = _
        unfold symsOk
        rw [show decide (ss.length ≤ 1000) = true by simp; omega, all_range_yes (fun i hi => HAL.out i (by omega))]
        rfl
      go_wp2_with fail
      go_ret
      exact ⟨by rw [HYA.out]; rfl, hbw⟩

end Go.Proofs.Ytaoklmphcgigeaa
