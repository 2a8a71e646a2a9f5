/- What is wrong with names, and where labels are. -/
import Derived.Test.YtgjingleolhkbaaGreatDoorAmSmall
namespace Go.Proofs.YtgjingleolhkbaaGreatDoor
open Go.RowKit Go.Maps
set_option linter.unusedVariables false
set_option linter.unusedSimpArgs false

theorem cellA {w : World} {A : Array Value} {t g j : Nat} (hg : g = w.heap.size) {v : Value} (hv : A[j]? = some v) : (w.alloc (.cells A t)).cell? ⟨g, j, none⟩ = some v := by
  subst hg
  simp [hv]
theorem keptB {W W' : World} {k : TypeId} {R : Value → Option (DataW Unit × List MemPlace)} {b n : Nat} {D : DataW Unit} (h : W.ownsMap Tryz.prog k R b n D) (hb : Below W.heap.size W W') : W'.ownsMap Tryz.prog k R b n D :=
  h.kept (row := none) ⟨hb.os, hb.tape, hb.output, hb.size, fun j hj _ => hb.block j hj⟩ (by simp)

set_option maxRecDepth 100000 in
set_option maxHeartbeats 8000000 in
theorem unlike_any {w : World} {a : Option Addr} {l c : Nat} {ts : List X.It} (h : ItsV w a l c ts) (hl : l ≤ 20000) (f : Nat) (p : X.It → Bool)
    (hf : ∀ (t : X.It) (aw : Option Addr) (lw cw : Nat) (W : World), Calls Tryz.prog f #[itV t (.slice aw lw cw)] W fun e w' => e = .returned (.bool (p t)) ∧ Below W.heap.size W w')
    (hcf : ∀ (args : Array Value) (W : World), (callFunc f args).run Tryz.prog W = .ok (.enter f args) W) :
    Calls Tryz.prog 45 #[.slice a l c, .func (.func f) #[] #[]] w fun e w' => e = .returned (.bool (Z.unl p ts)) ∧ Below w.heap.size w w' := by
  have HV : Hid _ := h
  have HF : Hid _ := hf
  have HC : Hid (ts.length = l) := h.count
  clear h hf
  have hmm := @run_makeMap Tryz.prog
  go_enter Tryz.func45, Tryz.ntmps45
  go_wp2_with fail
  go_loopg [13] l (fun r iv wq => ∃ (k : Nat), iv = .int .i64 k ∧ k ≤ l ∧ l - k ≤ r ∧ Hid (wq.ownsMap Tryz.prog 9 unitElem w.heap.size k (kset (Z.nms p (ts.take k)))) ∧ Hid ((Z.nms p (ts.take k)).Nodup) ∧ Hid (Below w.heap.size w wq))
  case atStart =>
    refine ⟨0, rfl, Nat.zero_le _, by omega, ?_, ?_, bl1 _ _⟩
    · show World.ownsMap _ _ _ _ _ _ _
      have := World.ownsMap_made w Tryz.prog 9 (unitElem (H := Unit))
      simpa [Z.nms, kset, setOf] using this
    · show List.Nodup _
      simp [Z.nms]
  case round =>
    obtain ⟨k, rfl, hk, hr, HM, HN, HB⟩ := hrel
    by_cases hlt : k < l
    · have hii : (k : Int) < l := by omega
      have hin : 0 ≤ (k : Int) := by omega
      obtain ⟨b, off, t, aw, lw, cw, rfl, hg, hmem, c0, c1, c2, c3, c4, c5, c6, hi⟩ := (HV.out.below HB.out).at hlt
      have HTK : Hid (ts.take (k + 1) = ts.take k ++ [t]) := by
        show _ = _
        have hk2 : k < ts.length := by rw [HC.out]; exact hlt
        rw [List.take_add_one, List.getElem?_eq_getElem hk2]
        simp only [List.getD, List.getElem?_eq_getElem hk2, Option.getD_some] at hg
        rw [hg]
        rfl
      have HGT : Hid (ts[k]? = some t) := by
        show _ = _
        have hk2 : k < ts.length := by rw [HC.out]; exact hlt
        simp only [List.getD, List.getElem?_eq_getElem hk2, Option.getD_some] at hg
        rw [List.getElem?_eq_getElem hk2, hg]
      have hfit := (HV.out.fit t hmem).1
      have hkey := keyStr t.name hfit
      have hsz : w.heap.size ≤ wr.heap.size := HB.out.size
      clear hg hmem hi hfit
      obtain ⟨Y0, hY0⟩ : ∃ Y0, wr.alloc (.cells #[.int .i64 t.kind, .string (X.str t.name), .int .i64 t.op, .int .i64 t.a, .int .i64 t.b, .int .i64 t.n, .slice aw lw cw] 44) = Y0 := ⟨_, rfl⟩
      have f0 : Y0.cell? ⟨wr.heap.size, 0, none⟩ = some (.int .i64 t.kind) := by subst hY0; exact cellA rfl rfl
      have f1 : Y0.cell? ⟨wr.heap.size, 1, none⟩ = some (.string (X.str t.name)) := by subst hY0; exact cellA rfl rfl
      have f2 : Y0.cell? ⟨wr.heap.size, 2, none⟩ = some (.int .i64 t.op) := by subst hY0; exact cellA rfl rfl
      have f3 : Y0.cell? ⟨wr.heap.size, 3, none⟩ = some (.int .i64 t.a) := by subst hY0; exact cellA rfl rfl
      have f4 : Y0.cell? ⟨wr.heap.size, 4, none⟩ = some (.int .i64 t.b) := by subst hY0; exact cellA rfl rfl
      have f5 : Y0.cell? ⟨wr.heap.size, 5, none⟩ = some (.int .i64 t.n) := by subst hY0; exact cellA rfl rfl
      have f6 : Y0.cell? ⟨wr.heap.size, 6, none⟩ = some (.slice aw lw cw) := by subst hY0; exact cellA rfl rfl
      have bY0 : Below wr.heap.size wr Y0 := by subst hY0; exact bl1 _ _
      have HY0 : Hid (Below w.heap.size w Y0) := HB.out.trans (bY0.mono hsz)
      have HM0 : Hid (Y0.ownsMap Tryz.prog 9 unitElem w.heap.size k (kset (Z.nms p (ts.take k)))) := keptB HM.out bY0
      clear bY0
      have hcall := HF.out t aw lw cw Y0
      cases hp : p t with
      | false =>
        rw [hp] at hcall
        have HNX : Hid (Z.nms p (ts.take (k + 1)) = Z.nms p (ts.take k)) := by show _ = _; rw [HTK.out, Z.nms_snoc_no hp]
        clear hp
        go_wp2_with fail
        refine hcall.mono ?_
        rintro e w1 ⟨rfl, hb1⟩
        have HW1 : Hid (Below w.heap.size w w1) := HY0.out.trans (hb1.mono HY0.out.size)
        have HM1 : Hid _ := keptB HM0.out hb1
        clear hb1 hcall f0 f1 f2 f3 f4 f5 f6
        go_wp2_with fail
        go_roundg (l - (k + 1))
        case measure => omega
        case rel => exact ⟨k + 1, by go_num, by omega, Nat.le_refl _, (by rw [HNX.out]; exact World.ownsMap.mono HM1.out (Nat.le_succ _)), (by rw [HNX.out]; exact HN.out), HW1.out⟩
      | true =>
        rw [hp] at hcall
        have HNX : Hid (Z.nms p (ts.take (k + 1)) = Z.nms p (ts.take k) ++ [t.name]) := by show _ = _; rw [HTK.out, Z.nms_snoc_yes hp]
        have HNO : Hid (t.name ∈ Z.nms p (ts.take k) → Z.unl p ts = false) := fun hm => Z.unl_no HGT.out hp hm
        have hH := has_kset (Z.nms p (ts.take k)) t.name
        clear hp
        go_wp2_with fail
        refine hcall.mono ?_
        rintro e w1 ⟨rfl, hb1⟩
        have HW1 : Hid (Below w.heap.size w w1) := HY0.out.trans (hb1.mono HY0.out.size)
        have HM1 : Hid (w1.ownsMap Tryz.prog 9 unitElem w.heap.size k (kset (Z.nms p (ts.take k)))) := keptB HM0.out hb1
        have g1 := cell_thru hb1 f1
        have hsz1 : w.heap.size ≤ w1.heap.size := HW1.out.size
        clear hb1 hcall f0 f1 f2 f3 f4 f5 f6 c0 c1 c2 c3 c4 c5 c6
        by_cases hm : t.name ∈ Z.nms p (ts.take k)
        · rw [decide_eq_true hm] at hH
          have HR : Hid (Z.unl p ts = false) := HNO.out hm
          clear hm
          go_wp2_with (first | (at_lookup; refine wpList_lookup_own_unit _ rfl _ _ 105 rfl 9 106 lawS Tryz.underlying105 (zeroU _) w.heap.size k _ rfl HM1.out _ _ rfl hkey ?_) | go_in)
          go_ret
          exact ⟨by rw [HR.out]; rfl, HW1.out.alloc hsz1 _⟩
        · rw [decide_eq_false hm] at hH
          have HND : Hid ((Z.nms p (ts.take (k + 1))).Nodup) := by
            show List.Nodup _
            rw [HNX.out, List.nodup_append]
            refine ⟨HN.out, by simp, fun x hx y hy e => ?_⟩
            simp at hy
            subst hy e
            exact hm hx
          clear hm
          obtain ⟨Y2, hY2⟩ : ∃ Y2, w1.alloc (.cells #[] 106) = Y2 := ⟨_, rfl⟩
          have bY2 : Below w1.heap.size w1 Y2 := by subst hY2; exact bl1 _ _
          have HM2 : Hid (Y2.ownsMap Tryz.prog 9 unitElem w.heap.size k (kset (Z.nms p (ts.take k)))) := keptB HM1.out bY2
          have g2 := cell_thru bY2 g1
          have HW2 : Hid (Below w.heap.size w Y2) := HW1.out.trans (bY2.mono hsz1)
          have hsz2 : w.heap.size ≤ Y2.heap.size := HW2.out.size
          clear bY2
          go_wp2_with (first | (at_lookup; refine wpList_lookup_own_unit _ rfl _ _ 105 rfl 9 106 lawS Tryz.underlying105 (zeroU _) w.heap.size k _ rfl HM1.out _ _ rfl hkey ?_) | (at_mapUpdate; refine wpList_mapUpdate_own _ rfl _ _ _ 105 rfl 9 106 lawS Tryz.underlying105 (unitElem (H := Unit)) w.heap.size k _ rfl HM2.out (by unfold maxLen; omega) _ _ _ rfl rfl hkey _ [] unitElem_mk ?_; intro w5 hown5 hg5) | go_in)
          have HO5 : Hid (w5.ownsMap Tryz.prog 9 unitElem w.heap.size (k + 1) (kset (Z.nms p (ts.take (k + 1))))) := by
            show World.ownsMap _ _ _ _ _ _ _
            rw [HNX.out, kset_snoc]
            exact hown5
          have HB5 : Hid (Below w.heap.size w w5) := HW2.out.grown hg5 hsz2 (fun j hj => by cases hj; exact Nat.le_refl _)
          clear hown5 hg5
          go_roundg (l - (k + 1))
          case measure => omega
          case rel => exact ⟨k + 1, by go_num, by omega, Nat.le_refl _, HO5.out, HND.out, HB5.out⟩
    · obtain rfl : k = l := by omega
      have hii : ¬ (k : Int) < k := by omega
      have HR : Hid (Z.unl p ts = true) := by
        show _ = _
        have := HN.out
        rw [List.take_of_length_le (by rw [HC.out]; exact Nat.le_refl _)] at this
        exact decide_eq_true this
      go_wp2_with fail
      go_ret
      exact ⟨by rw [HR.out]; rfl, HB.out⟩

end Go.Proofs.YtgjingleolhkbaaGreatDoor
