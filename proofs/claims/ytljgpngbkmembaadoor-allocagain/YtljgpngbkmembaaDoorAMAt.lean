/- The document's Right. -/
import Derived.Test.YtljgpngbkmembaaDoorAMAl
namespace Go.Proofs.YtljgpngbkmembaaDoor
open Go.RowKit Go.Maps
set_option linter.unusedVariables false
set_option linter.unusedSimpArgs false
set_option maxRecDepth 100000 in
set_option maxHeartbeats 16000000 in
theorem rRight_any {w : World} {f : F.Fn} {a : Option Addr} {n c : Nat} (h : OpsV w a n c f.code) (hsz : ∀ x ∈ f.code, x.args.length * 8 ≤ 140737488355328) {tab : Nat → Nat → Bool} (htab : ∀ i t, tab i t = true ↔ F.Lv f i t) {aw : Option Addr} {lw cw : Nat} {ws : List Int} (hw : NumV w aw lw cw ws) (slots : Int) : Calls Tryd.prog 18 #[fnV f a n c, .agg #[.slice aw lw cw, .int .i64 slots]] w fun e w' => e = .returned (.bool (F.rightB f tab ws slots)) ∧ Below w.heap.size w w' := by
  have hmax : maxLen = 9223372036854775807 := rfl
  obtain ⟨ii, hiI, hz0, hz1, hz2⟩ := ainfo infoN
  have HO : Hid (OpsV w a n c f.code) := h
  have HC : Hid (f.code.length = n) := h.count
  have HW : Hid (NumV w aw lw cw ws) := hw
  have HWC : Hid (ws.length = lw) := hw.count
  have hwr := hw.room
  have hrm := h.room
  have HLIVE : Hid (∀ W, Below w.heap.size w W → Calls Tryd.prog 12 #[fnV f a n c] W (LvOut W f n f.temps.toNat tab)) := fun W hW => rLive_any (h.below hW) hsz htab
  obtain ⟨R, hR⟩ : ∃ R, F.rightB f tab ws slots = R := ⟨_, rfl⟩
  have HR : Hid (R = F.rightB f tab ws slots) := hR.symm
  rw [hR]
  clear hR h hsz htab hw
  obtain ⟨nm0, hnm0⟩ : ∃ q, f.name = q := ⟨_, rfl⟩
  obtain ⟨params, hpar⟩ : ∃ q, f.params = q := ⟨_, rfl⟩
  obtain ⟨temps, htm⟩ : ∃ q, f.temps = q := ⟨_, rfl⟩
  have HPAR : Hid (f.params = params) := hpar
  have HTMP : Hid (f.temps = temps) := htm
  unfold fnV at HLIVE ⊢
  rw [hnm0, hpar, htm] at HLIVE ⊢
  clear hnm0 hpar htm
  obtain ⟨W0, hW0⟩ : ∃ W0, (w.alloc (.cells #[.string nm0, .int .i64 params, .int .i64 temps, .slice a n c] 24)).alloc (.cells #[.slice aw lw cw, .int .i64 slots] 38) = W0 := ⟨_, rfl⟩
  have hb0 : Below w.heap.size w W0 := by rw [← hW0]; exact (bl1 _ _).alloc (by simp) _
  have HB0 : Hid (Below w.heap.size w W0) := hb0
  have HD : Hid (∀ y, Below W0.heap.size W0 y → (y.cell? ⟨w.heap.size, 0, none⟩ = some (.string nm0) ∧ y.cell? ⟨w.heap.size, 1, none⟩ = some (.int .i64 params) ∧ y.cell? ⟨w.heap.size, 2, none⟩ = some (.int .i64 temps) ∧ y.cell? ⟨w.heap.size, 3, none⟩ = some (.slice a n c)) ∧ y.cell? ⟨w.heap.size + 1, 0, none⟩ = some (.slice aw lw cw) ∧ y.cell? ⟨w.heap.size + 1, 1, none⟩ = some (.int .i64 slots)) := by
    have d0 : W0.cell? ⟨w.heap.size, 0, none⟩ = some (.string nm0) := by rw [← hW0]; simp
    have d1 : W0.cell? ⟨w.heap.size, 1, none⟩ = some (.int .i64 params) := by rw [← hW0]; simp
    have d2 : W0.cell? ⟨w.heap.size, 2, none⟩ = some (.int .i64 temps) := by rw [← hW0]; simp
    have d3 : W0.cell? ⟨w.heap.size, 3, none⟩ = some (.slice a n c) := by rw [← hW0]; simp
    have d4 : W0.cell? ⟨w.heap.size + 1, 0, none⟩ = some (.slice aw lw cw) := by rw [← hW0]; simp
    have d5 : W0.cell? ⟨w.heap.size + 1, 1, none⟩ = some (.int .i64 slots) := by rw [← hW0]; simp
    exact fun y hy => ⟨⟨cell_thru hy d0, cell_thru hy d1, cell_thru hy d2, cell_thru hy d3⟩, cell_thru hy d4, cell_thru hy d5⟩
  have HWB : Hid (∀ y, Below W0.heap.size W0 y → Below w.heap.size w y) := fun y hy => HB0.out.trans (hy.mono HB0.out.size)
  have hlive := HLIVE.out W0 hb0
  obtain ⟨⟨d0, d1, d2, d3⟩, d4, d5⟩ := HD.out W0 (Below.refl _ _)
  clear hb0
  go_enter Tryd.func18, Tryd.ntmps18
  go_wp2_with fail
  refine hlive.mono ?_
  rintro e y1 ⟨hb1, hlo⟩
  have HY1 : Hid (Below W0.heap.size W0 y1) := hb1
  have HBX : Hid (Below w.heap.size w y1) := HWB.out _ hb1
  have HBAD : Hid (∀ P : Bool, (R = (F.mayF f && P)) → F.mayF f = false → R = false) := fun P h1 h2 => by rw [h1, h2]; rfl
  clear hlive hb1 d0 d1 d2 d3 d4 d5 hW0
  obtain ⟨⟨d0, d1, d2, d3⟩, d4, d5⟩ := HD.out y1 HY1.out
  cases hmm : F.mayF f with
  | false =>
    rw [hmm, if_neg (by decide)] at hlo
    subst hlo
    have HRF : R = false := by rw [HR.out]; unfold F.rightB; rw [hmm]; rfl
    subst HRF
    clear hmm
    go_wp2_with fail
    go_ret
    exact ⟨rfl, HBX.out⟩
  | true =>
  rw [hmm, if_pos rfl] at hlo
  obtain ⟨al, cl, af, cf, rfl, hls, hfr⟩ := hlo
  have HLS : Hid (LsV y1 al n cl ((List.range n).map fun i => F.outs f tab i temps.toNat)) := hls
  have HMAY : Hid (F.mayF f = true) := hmm
  have HHD : Hid (0 ≤ params ∧ params ≤ temps ∧ temps ≤ 400 ∧ 1 ≤ n ∧ n ≤ 20000) := by
    have h1 := F.may_head hmm
    rw [HC.out, HPAR.out, HTMP.out] at h1
    exact h1
  have HR2 : Hid (R = (decide ((ws.length : Int) = temps) && (decide (0 ≤ slots) && (decide (slots ≤ 400) && ((List.range temps.toNat).all (F.placeOk ws slots) && ((List.range n).all (fun i => F.okRow ws (F.at_ f i) (F.outs f tab i temps.toNat)) && (List.range (F.ext (F.firsts tab temps.toNat) params.toNat).length).all (F.pairOk ws (F.ext (F.firsts tab temps.toNat) params.toNat)))))))) := by
    show _ = _
    rw [HR.out]
    unfold F.rightB
    rw [hmm, HTMP.out, HPAR.out, HC.out]
    rfl
  have HFR : Hid (y1.ownsRow W0.heap.size 3 1 (.slice af (F.firsts tab temps.toNat).length cf) (F.firsts tab temps.toNat).length ((F.firsts tab temps.toNat).map iV)) := hfr
  clear hmm hls hfr HR HBAD
  obtain ⟨hp0, hpT, hT4, hn1, hn2⟩ := HHD.out
  obtain ⟨T, rfl⟩ : ∃ T : Nat, temps = T := ⟨temps.toNat, by omega⟩
  obtain ⟨P, rfl⟩ : ∃ P : Nat, params = P := ⟨params.toNat, by omega⟩
  rw [Int.toNat_natCast] at HLS HFR
  rw [Int.toNat_natCast, Int.toNat_natCast] at HR2
  try rw [Int.toNat_natCast]
  have hT400 : T ≤ 400 := by omega
  have hPT : P ≤ T := by omega
  clear hp0 hpT hT4 HHD
  obtain ⟨nf, hnf⟩ : ∃ nf, (F.firsts tab T).length = nf := ⟨_, rfl⟩
  have HNF : Hid ((F.firsts tab T).length = nf) := hnf
  rw [hnf] at HFR
  rw [hnf]
  clear hnf
  by_cases hlw : lw = T
  rotate_left
  · have HRF : R = false := by rw [HR2.out, decide_eq_false (by rw [HWC.out]; omega)]; rfl
    subst HRF
    have e1 : ((lw : Int) != (T : Int)) = true := by have : ¬ (lw : Int) = T := by omega
                                                     simpa using this
    clear hlw
    go_wp2_with fail
    go_ret
    exact ⟨rfl, HBX.out⟩
  have e1 : ((lw : Int) != (T : Int)) = false := by rw [hlw]; simp
  have HLW : Hid (lw = T) := hlw
  have HR3 : Hid (R = (decide (0 ≤ slots) && (decide (slots ≤ 400) && ((List.range T).all (F.placeOk ws slots) && ((List.range n).all (fun i => F.okRow ws (F.at_ f i) (F.outs f tab i T)) && (List.range (F.ext (F.firsts tab T) P).length).all (F.pairOk ws (F.ext (F.firsts tab T) P))))))) := by
    show _ = _
    rw [HR2.out, decide_eq_true (by rw [HWC.out]; omega)]
    rfl
  clear hlw HR2
  by_cases hs0 : slots < 0
  · have HRF : R = false := by rw [HR3.out, decide_eq_false (by omega : ¬ 0 ≤ slots)]; rfl
    subst HRF
    go_wp2_with fail
    go_ret
    exact ⟨rfl, HBX.out⟩
  by_cases hs4 : 400 < slots
  · have HRF : R = false := by rw [HR3.out, decide_eq_false (by omega : ¬ slots ≤ 400)]; simp
    subst HRF
    go_wp2_with fail
    go_ret
    exact ⟨rfl, HBX.out⟩
  have HR4 : Hid (R = ((List.range T).all (F.placeOk ws slots) && ((List.range n).all (fun i => F.okRow ws (F.at_ f i) (F.outs f tab i T)) && (List.range (F.ext (F.firsts tab T) P).length).all (F.pairOk ws (F.ext (F.firsts tab T) P))))) := by
    show _ = _
    rw [HR3.out, decide_eq_true (by omega : 0 ≤ slots), decide_eq_true (by omega : slots ≤ 400)]
    rfl
  clear HR3
  have hs8 : IntKind.i64.wrap (8 + slots) = 8 + slots := by rw [IntKind.wrap_i64]; omega
  go_wp2_with fail
  go_loopg [8, 9] T (fun g iv z9 wq => ∃ (t : Nat), g = T - t ∧ iv = .int .i64 t ∧ t ≤ T ∧ wq = y1 ∧ Hid (∀ k, k < t → F.placeOk ws slots k = true))
  case atStart => exact ⟨0, rfl, rfl, Nat.zero_le _, rfl, (fun k hk => by omega : ∀ k, k < 0 → F.placeOk ws slots k = true)⟩
  case round =>
    obtain ⟨t, rfl, rfl, ht, hwr1, HAL⟩ := hrel
    subst hwr1
    by_cases htT : t < T
    · have hti : (t : Int) < T := by omega
      have ht0 : 0 ≤ (t : Int) := by omega
      obtain ⟨bw, ow, hab, cw1⟩ := (HW.out.below HBX.out).w (t := (t : Int)) ht0 (by have := HLW.out; omega)
      rw [Int.toNat_natCast] at cw1
      subst hab
      have HPL : Hid (F.placeOk ws slots t = ((decide (1 ≤ F.wAt ws t) && decide (F.wAt ws t ≤ 4)) || (decide (8 ≤ F.wAt ws t) && decide (F.wAt ws t < 8 + slots)))) := rfl
      have HNX : Hid (F.placeOk ws slots t = true → ∀ k, k < t + 1 → F.placeOk ws slots k = true) := fun e k hk => by
        by_cases e2 : k = t
        · subst e2; exact e
        · exact HAL.out k (by omega)
      have HNO : Hid (F.placeOk ws slots t = false → R = false) := fun e => by rw [HR4.out, F.all_range_no htT e]; rfl
      obtain ⟨z, hz⟩ : ∃ z, F.wAt ws t = z := ⟨_, rfl⟩
      rw [hz] at cw1 HPL
      clear hz
      have hlwT := HLW.out
      have hti2 : (t : Int) < lw := by omega
      clear hlwT
      by_cases g1 : 1 ≤ z ∧ z ≤ 4
      · obtain ⟨g1, g2⟩ := g1
        have HN : Hid _ := HNX.out (by rw [HPL.out, decide_eq_true g1, decide_eq_true g2]; rfl)
        have dz1 : decide (1 ≤ z) = true := decide_eq_true g1
        have dz2 : decide (z ≤ 4) = true := decide_eq_true g2
        clear HNX HNO
        go_wp2_with fail
        go_roundg (T - (t + 1))
        case measure => omega
        case rel => exact ⟨t + 1, rfl, by go_num, by omega, rfl, HN⟩
      by_cases g3 : 8 ≤ z ∧ z < 8 + slots
      · obtain ⟨g3, g4⟩ := g3
        have HN : Hid _ := HNX.out (by rw [HPL.out, decide_eq_true g3, decide_eq_true g4]; simp)
        have g5 : 1 ≤ z := by omega
        have g6 : ¬ z ≤ 4 := by omega
        clear HNX HNO g1
        go_wp2_with fail
        go_roundg (T - (t + 1))
        case measure => omega
        case rel => exact ⟨t + 1, rfl, by go_num, by omega, rfl, HN⟩
      have HRF := HNO.out (by
        rw [HPL.out, Bool.or_eq_false_iff, Bool.and_eq_false_iff, Bool.and_eq_false_iff, decide_eq_false_iff_not, decide_eq_false_iff_not, decide_eq_false_iff_not, decide_eq_false_iff_not]
        omega)
      subst HRF
      by_cases g5 : 1 ≤ z
      · have g6 : ¬ z ≤ 4 := by omega
        by_cases g7 : 8 ≤ z
        · have g8 : ¬ z < 8 + slots := by omega
          clear g1 g3 HNX HNO
          go_wp2_with fail
          go_ret
          exact ⟨rfl, HBX.out⟩
        · clear g1 g3 HNX HNO
          go_wp2_with fail
          go_ret
          exact ⟨rfl, HBX.out⟩
      · have g7 : ¬ 8 ≤ z := by omega
        clear g1 g3 HNX HNO
        go_wp2_with fail
        go_ret
        exact ⟨rfl, HBX.out⟩
    · have htt : t = T := by omega
      have htn : ¬ (t : Int) < T := by omega
      have HR5 : Hid (R = ((List.range n).all (fun i => F.okRow ws (F.at_ f i) (F.outs f tab i T)) && (List.range (F.ext (F.firsts tab T) P).length).all (F.pairOk ws (F.ext (F.firsts tab T) P)))) := by
        show _ = _
        rw [HR4.out, F.all_range_yes (fun k hk => HAL.out k (by omega))]
        rfl
      clear htt HR4 HAL
      obtain ⟨W1, hW1⟩ : ∃ q, q = wr := ⟨_, rfl⟩
      subst hW1
      go_wp2_with fail
      go_loopg [10, 11, 12, 13, 14, 15] n (fun g iv z11 z12 z13 z14 z15 wq => ∃ (i : Nat), g = n - i ∧ iv = .int .i64 i ∧ i ≤ n ∧ Hid (∀ k, k < i → F.okRow ws (F.at_ f k) (F.outs f tab k T) = true) ∧ Hid (Below W1.heap.size W1 wq))
      case atStart => exact ⟨0, rfl, rfl, Nat.zero_le _, (fun k hk => by omega : ∀ k, k < 0 → F.okRow ws (F.at_ f k) (F.outs f tab k T) = true), Below.refl _ _⟩
      case round =>
        obtain ⟨i, rfl, rfl, hi, HAL, HB1⟩ := hrel
        have HY2 : Hid (Below W0.heap.size W0 wr) := HY1.out.trans (HB1.out.mono HY1.out.size)
        obtain ⟨⟨d0, d1, d2, d3⟩, d4, d5⟩ := HD.out wr HY2.out
        by_cases hin : i < n
        · have hii : (i : Int) < n := by omega
          have hi0 : 0 ≤ (i : Int) := by omega
          obtain ⟨b, off, r, hab, ho, -⟩ := (HO.out.below (HWB.out _ HY2.out)).at hin
          subst hab
          have HWR : Hid ((0 ≤ F.wr (F.at_ f i) ∧ F.wr (F.at_ f i) < T) ∨ F.wr (F.at_ f i) = -1) := by
            have := F.wr_in (F.may_op HMAY.out (i := i) (by rw [HC.out]; exact hin))
            rw [HTMP.out] at this
            exact this
          have HNO : Hid (F.okRow ws (F.at_ f i) (F.outs f tab i T) = false → R = false) := fun e => by rw [HR5.out, F.all_range_no hin e]; rfl
          have HNX : Hid (F.okRow ws (F.at_ f i) (F.outs f tab i T) = true → ∀ k, k < i + 1 → F.okRow ws (F.at_ f k) (F.outs f tab k T) = true) := fun e k hk => by
            by_cases e2 : k = i
            · subst e2; exact e
            · exact HAL.out k (by omega)
          have hwrt := fun W => rWrites_any (F.at_ f i) r W
          have hatq : f.code.getD i F.noOp = F.at_ f i := rfl
          rw [hatq] at ho
          obtain ⟨x, hx⟩ : ∃ x, F.at_ f i = x := ⟨_, rfl⟩
          rw [hx] at ho hwrt HNO HNX HWR
          obtain ⟨d, hdw⟩ : ∃ d, F.wr x = d := ⟨_, rfl⟩
          have HDW : Hid (F.wr x = d) := hdw
          rw [hdw] at hwrt HWR
          clear hatq hx hdw
          have HLX : Hid (F.leaves x = (decide (x.op = 6) || (decide (7 ≤ x.op) && decide (x.op ≤ 10)))) := rfl
          have HB1D : Hid (∀ t, F.bad1 ws x d t = (decide (0 ≤ d) && (decide (t ≠ d) && (decide (F.wAt ws t = F.wAt ws d) && !(decide (x.op = 2) && decide (t = x.a)))))) := fun t => rfl
          have HB2D : Hid (∀ t, F.bad2 ws x d t = (F.leaves x && (decide (t ≠ d) && decide (F.wAt ws t < 8)))) := fun t => rfl
          have HOKD : Hid (∀ t, F.okOne ws x t = !(F.bad1 ws x d t || F.bad2 ws x d t)) := fun t => by unfold F.okOne; rw [HDW.out]
          obtain ⟨lv, hlv⟩ : ∃ lv, F.leaves x = lv := ⟨_, rfl⟩
          rw [hlv] at HLX HB2D
          clear hlv
          obtain ⟨okR, hokR⟩ : ∃ g, F.okRow ws x (F.outs f tab i T) = g := ⟨_, rfl⟩
          obtain ⟨b1f, hb1f⟩ : ∃ q : Int → Bool, q = fun t => F.bad1 ws x d t := ⟨_, rfl⟩
          obtain ⟨b2f, hb2f⟩ : ∃ q : Int → Bool, q = fun t => F.bad2 ws x d t := ⟨_, rfl⟩
          have HOKR : Hid (okR = (List.range (F.outs f tab i T).length).all fun k => !(b1f ((F.outs f tab i T).getD k 0) || b2f ((F.outs f tab i T).getD k 0))) := by
            show _ = _
            rw [← hokR, hb1f, hb2f]
            unfold F.okRow
            congr 1
            funext k
            exact HOKD.out _
          have HB1F : Hid (∀ t, b1f t = (decide (0 ≤ d) && (decide (t ≠ d) && (decide (F.wAt ws t = F.wAt ws d) && !(decide (x.op = 2) && decide (t = x.a)))))) := fun t => by rw [hb1f]; exact HB1D.out t
          have HB2F : Hid (∀ t, b2f t = (lv && (decide (t ≠ d) && decide (F.wAt ws t < 8)))) := fun t => by rw [hb2f]; exact HB2D.out t
          rw [hokR] at HNO HNX
          clear hokR hb1f hb2f HOKD HB1D HB2D HDW
          obtain ⟨xop, xwhat, xnm, xd, xa, xb9, xn, xargs, xdest⟩ := x
          obtain ⟨xra, xrl, xrc⟩ := r
          obtain ⟨o0, o1, o2, o3, o4, o5, o6, o7, o8⟩ := ho
          simp only at o0 o1 o2 o3 o4 o5 o6 o7 o8 HLX HB1F
          unfold opV at hwrt
          simp only at hwrt
          obtain ⟨Y, hY⟩ : ∃ Y, wr.alloc (.cells #[.int .i64 xop, .int .i64 xwhat, .string xnm, .int .i64 xd, .int .i64 xa, .int .i64 xb9, .int .i64 xn, .slice xra xrl xrc, .int .i64 xdest] 46) = Y := ⟨_, rfl⟩
          have hby : Below wr.heap.size wr Y := by rw [← hY]; exact bl1 _ _
          have x0 : Y.cell? ⟨wr.heap.size, 0, none⟩ = some (.int .i64 xop) := by rw [← hY]; exact ncell_at rfl
          have x1 : Y.cell? ⟨wr.heap.size, 1, none⟩ = some (.int .i64 xwhat) := by rw [← hY]; exact ncell_at rfl
          have x2 : Y.cell? ⟨wr.heap.size, 2, none⟩ = some (.string xnm) := by rw [← hY]; exact ncell_at rfl
          have x3 : Y.cell? ⟨wr.heap.size, 3, none⟩ = some (.int .i64 xd) := by rw [← hY]; exact ncell_at rfl
          have x4 : Y.cell? ⟨wr.heap.size, 4, none⟩ = some (.int .i64 xa) := by rw [← hY]; exact ncell_at rfl
          have x5 : Y.cell? ⟨wr.heap.size, 5, none⟩ = some (.int .i64 xb9) := by rw [← hY]; exact ncell_at rfl
          have x6 : Y.cell? ⟨wr.heap.size, 6, none⟩ = some (.int .i64 xn) := by rw [← hY]; exact ncell_at rfl
          have x7 : Y.cell? ⟨wr.heap.size, 7, none⟩ = some (.slice xra xrl xrc) := by rw [← hY]; exact ncell_at rfl
          have x8 : Y.cell? ⟨wr.heap.size, 8, none⟩ = some (.int .i64 xdest) := by rw [← hY]; exact ncell_at rfl
          have HX : Hid (∀ y, Below Y.heap.size Y y → y.cell? ⟨wr.heap.size, 0, none⟩ = some (.int .i64 xop) ∧ y.cell? ⟨wr.heap.size, 4, none⟩ = some (.int .i64 xa)) := fun y hy => ⟨cell_thru hy x0, cell_thru hy x4⟩
          have HBY : Hid (Below W1.heap.size W1 Y) := HB1.out.trans (hby.mono HB1.out.size)
          have hwrY := hwrt Y
          clear hby hwrt
          go_wp2_with fail
          try rw [hY]
          refine hwrY.mono ?_
          rintro e y3 ⟨rfl, hy3⟩
          have HXY : Hid (Below Y.heap.size Y y3) := hy3
          have HB3 : Hid (Below W1.heap.size W1 y3) := HBY.out.trans (hy3.mono HBY.out.size)
          clear hwrY hy3 hY x0 x1 x2 x3 x4 x5 x6 x7 x8 o0 o1 o2 o3 o4 o5 o6 o7 o8 d0 d1 d2 d3 d4 d5
          obtain ⟨xb, hxb⟩ : ∃ xb, wr.heap.size = xb := ⟨_, rfl⟩
          rw [hxb] at HX
          try rw [hxb]
          clear hxb
          obtain ⟨x0, x4⟩ := HX.out y3 HXY.out
          go_upto_region 15 with fail
          go_cut [13] from 75 to 163 (fun v wx => v = .bool lv ∧ wx = y3)
          case first =>
            by_cases g6 : xop = 6
            · have e6 : (xop == 6) = true := by simpa using g6
              have HV : lv = true := by rw [HLX.out, decide_eq_true g6]; rfl
              clear g6
              go_wp2_with fail
              go_meet
              exact ⟨by rw [HV], rfl⟩
            have e6 : (xop == 6) = false := by simpa using g6
            by_cases g7 : 7 ≤ xop
            · by_cases g10 : xop ≤ 10
              · have HV : lv = true := by rw [HLX.out, decide_eq_true g7, decide_eq_true g10]; simp
                clear g6
                go_wp2_with fail
                go_meet
                exact ⟨by rw [HV], rfl⟩
              · have HV : lv = false := by rw [HLX.out, decide_eq_false g6, decide_eq_false g10]; simp
                clear g6
                go_wp2_with fail
                go_meet
                exact ⟨by rw [HV], rfl⟩
            · have HV : lv = false := by rw [HLX.out, decide_eq_false g6, decide_eq_false g7]; simp
              clear g6
              go_wp2_with fail
              go_meet
              exact ⟨by rw [HV], rfl⟩
          obtain ⟨rfl, hwc⟩ := hcut
          have hwc2 := hwc.symm
          subst hwc2
          clear hwc x0 x4
          have HY3 : Hid (Below W0.heap.size W0 y3) := HY1.out.trans (HB3.out.mono HY1.out.size)
          obtain ⟨b2, off2, ai, ci, hab2, ck2, hv2⟩ := (HLS.out.below HB3.out).at hin
          have hgo : ((List.range n).map fun i => F.outs f tab i T).getD i [] = F.outs f tab i T := by simp [List.getD, hin]
          rw [hgo] at ck2 hv2
          obtain ⟨no, hno⟩ : ∃ q, (F.outs f tab i T).length = q := ⟨_, rfl⟩
          have HNOL : Hid ((F.outs f tab i T).length = no) := hno
          rw [hno] at ck2 hv2
          subst hab2
          have HV2 : Hid (NumV y3 ai no ci (F.outs f tab i T)) := hv2
          have HCK : Hid (y3.cell? ⟨b2, off2 + i, none⟩ = some (.slice ai no ci)) := ck2
          have hvr := hv2.room
          have hlsr := HLS.out.room
          clear hgo hno hv2
          go_wp2_with fail
          clear ck2
          go_loopg [14, 15] no (fun g iv z15 wq => ∃ (k : Nat), g = no - k ∧ iv = .int .i64 k ∧ k ≤ no ∧ Hid (∀ q, q < k → (!(b1f ((F.outs f tab i T).getD q 0) || b2f ((F.outs f tab i T).getD q 0))) = true) ∧ Hid (Below y3.heap.size y3 wq))
          case atStart => exact ⟨0, rfl, rfl, Nat.zero_le _, (fun k hk => by omega : ∀ q, q < 0 → (!(b1f ((F.outs f tab i T).getD q 0) || b2f ((F.outs f tab i T).getD q 0))) = true), Below.refl _ _⟩
          case round =>
            obtain ⟨k, rfl, rfl, hk, HAK, HBK⟩ := hrel
            have HY4 : Hid (Below W0.heap.size W0 wr) := HY3.out.trans (HBK.out.mono HY3.out.size)
            obtain ⟨⟨d0, d1, d2, d3⟩, d4, d5⟩ := HD.out wr HY4.out
            obtain ⟨x0, x4⟩ := HX.out wr (HXY.out.trans (HBK.out.mono HXY.out.size))
            have ck2 := cell_thru HBK.out HCK.out
            by_cases hkn : k < no
            · have hki : (k : Int) < no := by omega
              have hk0 : 0 ≤ (k : Int) := by omega
              obtain ⟨b3, off3, hab3, ck3⟩ := (HV2.out.below HBK.out).at hkn
              subst hab3
              have HT : Hid (0 ≤ (F.outs f tab i T).getD k 0 ∧ (F.outs f tab i T).getD k 0 < T) := F.getD_in (P := fun x => 0 ≤ x ∧ x < T) (F.outs_in f tab i T) (by rw [HNOL.out]; exact hkn)
              have HNO2 : Hid ((!(b1f ((F.outs f tab i T).getD k 0) || b2f ((F.outs f tab i T).getD k 0))) = false → R = false) := fun e => HNO.out (by rw [HOKR.out, HNOL.out]; exact F.all_range_no hkn e)
              have HNX2 : Hid ((!(b1f ((F.outs f tab i T).getD k 0) || b2f ((F.outs f tab i T).getD k 0))) = true → ∀ q, q < k + 1 → (!(b1f ((F.outs f tab i T).getD q 0) || b2f ((F.outs f tab i T).getD q 0))) = true) := fun e q hq => by
                by_cases e2 : q = k
                · subst e2; exact e
                · exact HAK.out q (by omega)
              obtain ⟨t, ht⟩ : ∃ t, (F.outs f tab i T).getD k 0 = t := ⟨_, rfl⟩
              rw [ht] at ck3 HT HNO2 HNX2
              have HBT := HB1F.out t
              have HBT2 := HB2F.out t
              obtain ⟨b1, hb1⟩ : ∃ q, b1f t = q := ⟨_, rfl⟩
              obtain ⟨b2v, hb2v⟩ : ∃ q, b2f t = q := ⟨_, rfl⟩
              rw [hb1] at HBT HNO2 HNX2
              rw [hb2v] at HBT2 HNO2 HNX2
              have HBD1 : Hid (b1 = (decide (0 ≤ d) && (decide (t ≠ d) && (decide (F.wAt ws t = F.wAt ws d) && !(decide (xop = 2) && decide (t = xa)))))) := HBT
              have HBD2 : Hid (b2v = (lv && (decide (t ≠ d) && decide (F.wAt ws t < 8)))) := HBT2
              clear ht hb1 hb2v HBT HBT2
              obtain ⟨bw, ow, habw, ct⟩ := (HW.out.below (HWB.out _ HY4.out)).w (t := t) HT.out.1 (by rw [HLW.out]; exact HT.out.2)
              subst habw
              have HCT : Hid (wr.cell? ⟨bw, ow + t.toNat, none⟩ = some (.int .i64 (F.wAt ws t))) := ct
              have ht0 := HT.out.1
              have htl : t < (lw : Int) := by rw [HLW.out]; exact HT.out.2
              obtain ⟨zt, hzt⟩ : ∃ z, F.wAt ws t = z := ⟨_, rfl⟩
              rw [hzt] at HBD1 HBD2 HCT ct
              clear hzt
              go_upto_region 20 with fail
              go_cut [149] from 102 to 163 (fun v wx => v = .bool b1 ∧ wx = wr.drew)
              case first =>
                by_cases h1 : 0 ≤ d
                rotate_left
                · have HS : Hid (wr.drew.cell? ⟨xb, 0, none⟩ = some (.int .i64 xop)) := by show _ = _; rw [World.cell?_drew]; exact x0
                  have HV : b1 = false := by rw [HBD1.out, decide_eq_false h1]; rfl
                  have hd9 : decide (0 ≤ d) = false := decide_eq_false h1
                  clear h1
                  go_wp2_with fail
                  refine wp_region_held_drew (S := (fun w' : World => w'.cell? ⟨xb, 0, none⟩ = some (.int .i64 xop))) (by kernel_rfl) HS.out (fun hHeld => ?_)
                  refine tk (i := 0) (v := ?_) (tA rfl) (by kernel_rfl) (fun _ _ _ h => h) (Or.inl ⟨by rfl, ?_⟩) (by assumption) ?_
                  rotate_left
                  · (intro w hSw; (try dsimp only at hSw); go_simp <;> with_reducible rfl)
                  simp only [Act.put, List.setIfInBounds_toArray, List.set_cons_zero, List.set_cons_succ]
                  refine tk (i := 1) (v := ?_) (tA rfl) (by kernel_rfl) (fun _ _ _ h => h) (Or.inl ⟨by rfl, ?_⟩) (by assumption) ?_
                  rotate_left
                  · (intro w hSw; (try dsimp only at hSw); go_simp <;> with_reducible rfl)
                  simp only [Act.put, List.setIfInBounds_toArray, List.set_cons_zero, List.set_cons_succ]
                  refine tk (i := 2) (v := ?_) (tA rfl) (by kernel_rfl) (fun _ _ _ h => h) (Or.inl ⟨by rfl, ?_⟩) (by assumption) ?_
                  rotate_left
                  · (intro w hSw; (try dsimp only at hSw); go_simp <;> with_reducible rfl)
                  simp only [Act.put, List.setIfInBounds_toArray, List.set_cons_zero, List.set_cons_succ]
                  refine tk (i := 3) (v := undef) (tA rfl) (by kernel_rfl) (fun _ _ _ h => h) (Or.inr ⟨by rfl, rfl⟩) (by assumption) ?_
                  simp only [Act.put, List.setIfInBounds_toArray, List.set_cons_zero, List.set_cons_succ]
                  refine tk (i := 4) (v := undef) (tA rfl) (by kernel_rfl) (fun _ _ _ h => h) (Or.inr ⟨by rfl, rfl⟩) (by assumption) ?_
                  simp only [Act.put, List.setIfInBounds_toArray, List.set_cons_zero, List.set_cons_succ]
                  refine tk (i := 5) (v := undef) (tA rfl) (by kernel_rfl) (fun _ _ _ h => h) (Or.inr ⟨by rfl, rfl⟩) (by assumption) ?_
                  simp only [Act.put, List.setIfInBounds_toArray, List.set_cons_zero, List.set_cons_succ]
                  refine tk (i := 6) (v := ?_) (tA rfl) (by kernel_rfl) (fun _ _ _ h => h) (Or.inl ⟨by rfl, ?_⟩) (by assumption) ?_
                  rotate_left
                  · (intro w hSw; (try dsimp only at hSw); go_simp <;> with_reducible rfl)
                  simp only [Act.put, List.setIfInBounds_toArray, List.set_cons_zero, List.set_cons_succ]
                  refine tk (i := 7) (v := ?_) (tA rfl) (by kernel_rfl) (fun _ _ _ h => h) (Or.inl ⟨by rfl, ?_⟩) (by assumption) ?_
                  rotate_left
                  · (intro w hSw; (try dsimp only at hSw); go_simp <;> with_reducible rfl)
                  simp only [Act.put, List.setIfInBounds_toArray, List.set_cons_zero, List.set_cons_succ]
                  refine tk (i := 8) (v := undef) (tA rfl) (by kernel_rfl) (fun _ _ _ h => h) (Or.inr ⟨by rfl, rfl⟩) (by assumption) ?_
                  simp only [Act.put, List.setIfInBounds_toArray, List.set_cons_zero, List.set_cons_succ]
                  refine tk (i := 9) (v := undef) (tA rfl) (by kernel_rfl) (fun _ _ _ h => h) (Or.inr ⟨by rfl, rfl⟩) (by assumption) ?_
                  simp only [Act.put, List.setIfInBounds_toArray, List.set_cons_zero, List.set_cons_succ]
                  refine tk (i := 10) (v := undef) (tA rfl) (by kernel_rfl) (fun _ _ _ h => h) (Or.inr ⟨by rfl, rfl⟩) (by assumption) ?_
                  simp only [Act.put, List.setIfInBounds_toArray, List.set_cons_zero, List.set_cons_succ]
                  refine tk (i := 11) (v := undef) (tA rfl) (by kernel_rfl) (fun _ _ _ h => h) (Or.inr ⟨by rfl, rfl⟩) (by assumption) ?_
                  simp only [Act.put, List.setIfInBounds_toArray, List.set_cons_zero, List.set_cons_succ]
                  refine tk (i := 12) (v := undef) (tA rfl) (by kernel_rfl) (fun _ _ _ h => h) (Or.inr ⟨by rfl, rfl⟩) (by assumption) ?_
                  simp only [Act.put, List.setIfInBounds_toArray, List.set_cons_zero, List.set_cons_succ]
                  refine tk (i := 13) (v := undef) (tA rfl) (by kernel_rfl) (fun _ _ _ h => h) (Or.inr ⟨by rfl, rfl⟩) (by assumption) ?_
                  simp only [Act.put, List.setIfInBounds_toArray, List.set_cons_zero, List.set_cons_succ]
                  refine tk (i := 14) (v := undef) (tA rfl) (by kernel_rfl) (fun _ _ _ h => h) (Or.inr ⟨by rfl, rfl⟩) (by assumption) ?_
                  simp only [Act.put, List.setIfInBounds_toArray, List.set_cons_zero, List.set_cons_succ]
                  refine tk (i := 15) (v := undef) (tA rfl) (by kernel_rfl) (fun _ _ _ h => h) (Or.inr ⟨by rfl, rfl⟩) (by assumption) ?_
                  simp only [Act.put, List.setIfInBounds_toArray, List.set_cons_zero, List.set_cons_succ]
                  refine tk (i := 16) (v := undef) (tA rfl) (by kernel_rfl) (fun _ _ _ h => h) (Or.inr ⟨by rfl, rfl⟩) (by assumption) ?_
                  simp only [Act.put, List.setIfInBounds_toArray, List.set_cons_zero, List.set_cons_succ]
                  refine tk (i := 17) (v := undef) (tA rfl) (by kernel_rfl) (fun _ _ _ h => h) (Or.inr ⟨by rfl, rfl⟩) (by assumption) ?_
                  simp only [Act.put, List.setIfInBounds_toArray, List.set_cons_zero, List.set_cons_succ]
                  refine tk (i := 18) (v := undef) (tA rfl) (by kernel_rfl) (fun _ _ _ h => h) (Or.inr ⟨by rfl, rfl⟩) (by assumption) ?_
                  simp only [Act.put, List.setIfInBounds_toArray, List.set_cons_zero, List.set_cons_succ]
                  refine tk (i := 19) (v := ?_) (tA rfl) (by kernel_rfl) (fun _ _ _ h => h) (Or.inl ⟨by rfl, ?_⟩) (by assumption) ?_
                  rotate_left
                  · (intro w hSw; (try dsimp only at hSw); go_simp <;> with_reducible rfl)
                  simp only [Act.put, List.setIfInBounds_toArray, List.set_cons_zero, List.set_cons_succ]
                  refine tk (i := 20) (v := ?_) (tA rfl) (by kernel_rfl) (fun _ _ _ h => h) (Or.inl ⟨by rfl, ?_⟩) (by assumption) ?_
                  rotate_left
                  · (intro w hSw; (try dsimp only at hSw); go_simp <;> with_reducible rfl)
                  simp only [Act.put, List.setIfInBounds_toArray, List.set_cons_zero, List.set_cons_succ]
                  refine tk (i := 21) (v := undef) (tA rfl) (by kernel_rfl) (fun _ _ _ h => h) (Or.inr ⟨by rfl, rfl⟩) (by assumption) ?_
                  simp only [Act.put, List.setIfInBounds_toArray, List.set_cons_zero, List.set_cons_succ]
                  refine tk (i := 22) (v := undef) (tA rfl) (by kernel_rfl) (fun _ _ _ h => h) (Or.inr ⟨by rfl, rfl⟩) (by assumption) ?_
                  simp only [Act.put, List.setIfInBounds_toArray, List.set_cons_zero, List.set_cons_succ]
                  refine tk (i := 23) (v := undef) (tA rfl) (by kernel_rfl) (fun _ _ _ h => h) (Or.inr ⟨by rfl, rfl⟩) (by assumption) ?_
                  simp only [Act.put, List.setIfInBounds_toArray, List.set_cons_zero, List.set_cons_succ]
                  refine tk (i := 24) (v := undef) (tA rfl) (by kernel_rfl) (fun _ _ _ h => h) (Or.inr ⟨by rfl, rfl⟩) (by assumption) ?_
                  simp only [Act.put, List.setIfInBounds_toArray, List.set_cons_zero, List.set_cons_succ]
                  refine tk (i := 25) (v := undef) (tA rfl) (by kernel_rfl) (fun _ _ _ h => h) (Or.inr ⟨by rfl, rfl⟩) (by assumption) ?_
                  simp only [Act.put, List.setIfInBounds_toArray, List.set_cons_zero, List.set_cons_succ]
                  refine tk (i := 26) (v := undef) (tA rfl) (by kernel_rfl) (fun _ _ _ h => h) (Or.inr ⟨by rfl, rfl⟩) (by assumption) ?_
                  simp only [Act.put, List.setIfInBounds_toArray, List.set_cons_zero, List.set_cons_succ]
                  refine tk (i := 27) (v := undef) (tA rfl) (by kernel_rfl) (fun _ _ _ h => h) (Or.inr ⟨by rfl, rfl⟩) (by assumption) ?_
                  simp only [Act.put, List.setIfInBounds_toArray, List.set_cons_zero, List.set_cons_succ]
                  refine tk (i := 28) (v := undef) (tA rfl) (by kernel_rfl) (fun _ _ _ h => h) (Or.inr ⟨by rfl, rfl⟩) (by assumption) ?_
                  simp only [Act.put, List.setIfInBounds_toArray, List.set_cons_zero, List.set_cons_succ]
                  refine tk (i := 29) (v := undef) (tA rfl) (by kernel_rfl) (fun _ _ _ h => h) (Or.inr ⟨by rfl, rfl⟩) (by assumption) ?_
                  simp only [Act.put, List.setIfInBounds_toArray, List.set_cons_zero, List.set_cons_succ]
                  refine tk (i := 30) (v := undef) (tA rfl) (by kernel_rfl) (fun _ _ _ h => h) (Or.inr ⟨by rfl, rfl⟩) (by assumption) ?_
                  simp only [Act.put, List.setIfInBounds_toArray, List.set_cons_zero, List.set_cons_succ]
                  refine tk (i := 31) (v := ?_) (tA rfl) (by kernel_rfl) (fun _ _ _ h => h) (Or.inl ⟨by rfl, ?_⟩) (by assumption) ?_
                  rotate_left
                  · (intro w hSw; (try dsimp only at hSw); go_simp <;> with_reducible rfl)
                  simp only [Act.put, List.setIfInBounds_toArray, List.set_cons_zero, List.set_cons_succ]
                  refine wpAnyH_done (by kernel_rfl) ?_ _
                  clear hHeld
                  go_wp2_with fail
                  go_meet
                  exact ⟨by rw [HV], rfl⟩
                have hd9 : decide (0 ≤ d) = true := decide_eq_true h1
                by_cases h2 : t = d
                · have HS : Hid (wr.drew.cell? ⟨xb, 0, none⟩ = some (.int .i64 xop)) := by show _ = _; rw [World.cell?_drew]; exact x0
                  have HV : b1 = false := by rw [HBD1.out]; simp [h2]
                  have e2 : (t != d) = false := by simpa using h2
                  clear h2
                  go_wp2_with fail
                  refine wp_region_held_drew (S := (fun w' : World => w'.cell? ⟨xb, 0, none⟩ = some (.int .i64 xop))) (by kernel_rfl) HS.out (fun hHeld => ?_)
                  refine tk (i := 0) (v := ?_) (tA rfl) (by kernel_rfl) (fun _ _ _ h => h) (Or.inl ⟨by rfl, ?_⟩) (by assumption) ?_
                  rotate_left
                  · (intro w hSw; (try dsimp only at hSw); go_simp <;> with_reducible rfl)
                  simp only [Act.put, List.setIfInBounds_toArray, List.set_cons_zero, List.set_cons_succ]
                  refine tk (i := 1) (v := ?_) (tA rfl) (by kernel_rfl) (fun _ _ _ h => h) (Or.inl ⟨by rfl, ?_⟩) (by assumption) ?_
                  rotate_left
                  · (intro w hSw; (try dsimp only at hSw); go_simp <;> with_reducible rfl)
                  simp only [Act.put, List.setIfInBounds_toArray, List.set_cons_zero, List.set_cons_succ]
                  refine tk (i := 2) (v := ?_) (tA rfl) (by kernel_rfl) (fun _ _ _ h => h) (Or.inl ⟨by rfl, ?_⟩) (by assumption) ?_
                  rotate_left
                  · (intro w hSw; (try dsimp only at hSw); go_simp <;> with_reducible rfl)
                  simp only [Act.put, List.setIfInBounds_toArray, List.set_cons_zero, List.set_cons_succ]
                  refine tk (i := 3) (v := ?_) (tA rfl) (by kernel_rfl) (fun _ _ _ h => h) (Or.inl ⟨by rfl, ?_⟩) (by assumption) ?_
                  rotate_left
                  · (intro w hSw; (try dsimp only at hSw); go_simp <;> with_reducible rfl)
                  simp only [Act.put, List.setIfInBounds_toArray, List.set_cons_zero, List.set_cons_succ]
                  refine tk (i := 4) (v := ?_) (tA rfl) (by kernel_rfl) (fun _ _ _ h => h) (Or.inl ⟨by rfl, ?_⟩) (by assumption) ?_
                  rotate_left
                  · (intro w hSw; (try dsimp only at hSw); go_simp <;> with_reducible rfl)
                  simp only [Act.put, List.setIfInBounds_toArray, List.set_cons_zero, List.set_cons_succ]
                  refine tk (i := 5) (v := ?_) (tA rfl) (by kernel_rfl) (fun _ _ _ h => h) (Or.inl ⟨by rfl, ?_⟩) (by assumption) ?_
                  rotate_left
                  · (intro w hSw; (try dsimp only at hSw); go_simp <;> with_reducible rfl)
                  simp only [Act.put, List.setIfInBounds_toArray, List.set_cons_zero, List.set_cons_succ]
                  refine tk (i := 6) (v := ?_) (tA rfl) (by kernel_rfl) (fun _ _ _ h => h) (Or.inl ⟨by rfl, ?_⟩) (by assumption) ?_
                  rotate_left
                  · (intro w hSw; (try dsimp only at hSw); go_simp <;> with_reducible rfl)
                  simp only [Act.put, List.setIfInBounds_toArray, List.set_cons_zero, List.set_cons_succ]
                  refine tk (i := 7) (v := ?_) (tA rfl) (by kernel_rfl) (fun _ _ _ h => h) (Or.inl ⟨by rfl, ?_⟩) (by assumption) ?_
                  rotate_left
                  · (intro w hSw; (try dsimp only at hSw); go_simp <;> with_reducible rfl)
                  simp only [Act.put, List.setIfInBounds_toArray, List.set_cons_zero, List.set_cons_succ]
                  refine tk (i := 8) (v := undef) (tA rfl) (by kernel_rfl) (fun _ _ _ h => h) (Or.inr ⟨by rfl, rfl⟩) (by assumption) ?_
                  simp only [Act.put, List.setIfInBounds_toArray, List.set_cons_zero, List.set_cons_succ]
                  refine tk (i := 9) (v := undef) (tA rfl) (by kernel_rfl) (fun _ _ _ h => h) (Or.inr ⟨by rfl, rfl⟩) (by assumption) ?_
                  simp only [Act.put, List.setIfInBounds_toArray, List.set_cons_zero, List.set_cons_succ]
                  refine tk (i := 10) (v := undef) (tA rfl) (by kernel_rfl) (fun _ _ _ h => h) (Or.inr ⟨by rfl, rfl⟩) (by assumption) ?_
                  simp only [Act.put, List.setIfInBounds_toArray, List.set_cons_zero, List.set_cons_succ]
                  refine tk (i := 11) (v := undef) (tA rfl) (by kernel_rfl) (fun _ _ _ h => h) (Or.inr ⟨by rfl, rfl⟩) (by assumption) ?_
                  simp only [Act.put, List.setIfInBounds_toArray, List.set_cons_zero, List.set_cons_succ]
                  refine tk (i := 12) (v := undef) (tA rfl) (by kernel_rfl) (fun _ _ _ h => h) (Or.inr ⟨by rfl, rfl⟩) (by assumption) ?_
                  simp only [Act.put, List.setIfInBounds_toArray, List.set_cons_zero, List.set_cons_succ]
                  refine tk (i := 13) (v := undef) (tA rfl) (by kernel_rfl) (fun _ _ _ h => h) (Or.inr ⟨by rfl, rfl⟩) (by assumption) ?_
                  simp only [Act.put, List.setIfInBounds_toArray, List.set_cons_zero, List.set_cons_succ]
                  refine tk (i := 14) (v := undef) (tA rfl) (by kernel_rfl) (fun _ _ _ h => h) (Or.inr ⟨by rfl, rfl⟩) (by assumption) ?_
                  simp only [Act.put, List.setIfInBounds_toArray, List.set_cons_zero, List.set_cons_succ]
                  refine tk (i := 15) (v := undef) (tA rfl) (by kernel_rfl) (fun _ _ _ h => h) (Or.inr ⟨by rfl, rfl⟩) (by assumption) ?_
                  simp only [Act.put, List.setIfInBounds_toArray, List.set_cons_zero, List.set_cons_succ]
                  refine tk (i := 16) (v := undef) (tA rfl) (by kernel_rfl) (fun _ _ _ h => h) (Or.inr ⟨by rfl, rfl⟩) (by assumption) ?_
                  simp only [Act.put, List.setIfInBounds_toArray, List.set_cons_zero, List.set_cons_succ]
                  refine tk (i := 17) (v := undef) (tA rfl) (by kernel_rfl) (fun _ _ _ h => h) (Or.inr ⟨by rfl, rfl⟩) (by assumption) ?_
                  simp only [Act.put, List.setIfInBounds_toArray, List.set_cons_zero, List.set_cons_succ]
                  refine tk (i := 18) (v := undef) (tA rfl) (by kernel_rfl) (fun _ _ _ h => h) (Or.inr ⟨by rfl, rfl⟩) (by assumption) ?_
                  simp only [Act.put, List.setIfInBounds_toArray, List.set_cons_zero, List.set_cons_succ]
                  refine tk (i := 19) (v := ?_) (tA rfl) (by kernel_rfl) (fun _ _ _ h => h) (Or.inl ⟨by rfl, ?_⟩) (by assumption) ?_
                  rotate_left
                  · (intro w hSw; (try dsimp only at hSw); go_simp <;> with_reducible rfl)
                  simp only [Act.put, List.setIfInBounds_toArray, List.set_cons_zero, List.set_cons_succ]
                  refine tk (i := 20) (v := ?_) (tA rfl) (by kernel_rfl) (fun _ _ _ h => h) (Or.inl ⟨by rfl, ?_⟩) (by assumption) ?_
                  rotate_left
                  · (intro w hSw; (try dsimp only at hSw); go_simp <;> with_reducible rfl)
                  simp only [Act.put, List.setIfInBounds_toArray, List.set_cons_zero, List.set_cons_succ]
                  refine tk (i := 21) (v := undef) (tA rfl) (by kernel_rfl) (fun _ _ _ h => h) (Or.inr ⟨by rfl, rfl⟩) (by assumption) ?_
                  simp only [Act.put, List.setIfInBounds_toArray, List.set_cons_zero, List.set_cons_succ]
                  refine tk (i := 22) (v := undef) (tA rfl) (by kernel_rfl) (fun _ _ _ h => h) (Or.inr ⟨by rfl, rfl⟩) (by assumption) ?_
                  simp only [Act.put, List.setIfInBounds_toArray, List.set_cons_zero, List.set_cons_succ]
                  refine tk (i := 23) (v := undef) (tA rfl) (by kernel_rfl) (fun _ _ _ h => h) (Or.inr ⟨by rfl, rfl⟩) (by assumption) ?_
                  simp only [Act.put, List.setIfInBounds_toArray, List.set_cons_zero, List.set_cons_succ]
                  refine tk (i := 24) (v := undef) (tA rfl) (by kernel_rfl) (fun _ _ _ h => h) (Or.inr ⟨by rfl, rfl⟩) (by assumption) ?_
                  simp only [Act.put, List.setIfInBounds_toArray, List.set_cons_zero, List.set_cons_succ]
                  refine tk (i := 25) (v := undef) (tA rfl) (by kernel_rfl) (fun _ _ _ h => h) (Or.inr ⟨by rfl, rfl⟩) (by assumption) ?_
                  simp only [Act.put, List.setIfInBounds_toArray, List.set_cons_zero, List.set_cons_succ]
                  refine tk (i := 26) (v := undef) (tA rfl) (by kernel_rfl) (fun _ _ _ h => h) (Or.inr ⟨by rfl, rfl⟩) (by assumption) ?_
                  simp only [Act.put, List.setIfInBounds_toArray, List.set_cons_zero, List.set_cons_succ]
                  refine tk (i := 27) (v := undef) (tA rfl) (by kernel_rfl) (fun _ _ _ h => h) (Or.inr ⟨by rfl, rfl⟩) (by assumption) ?_
                  simp only [Act.put, List.setIfInBounds_toArray, List.set_cons_zero, List.set_cons_succ]
                  refine tk (i := 28) (v := undef) (tA rfl) (by kernel_rfl) (fun _ _ _ h => h) (Or.inr ⟨by rfl, rfl⟩) (by assumption) ?_
                  simp only [Act.put, List.setIfInBounds_toArray, List.set_cons_zero, List.set_cons_succ]
                  refine tk (i := 29) (v := undef) (tA rfl) (by kernel_rfl) (fun _ _ _ h => h) (Or.inr ⟨by rfl, rfl⟩) (by assumption) ?_
                  simp only [Act.put, List.setIfInBounds_toArray, List.set_cons_zero, List.set_cons_succ]
                  refine tk (i := 30) (v := undef) (tA rfl) (by kernel_rfl) (fun _ _ _ h => h) (Or.inr ⟨by rfl, rfl⟩) (by assumption) ?_
                  simp only [Act.put, List.setIfInBounds_toArray, List.set_cons_zero, List.set_cons_succ]
                  refine tk (i := 31) (v := ?_) (tA rfl) (by kernel_rfl) (fun _ _ _ h => h) (Or.inl ⟨by rfl, ?_⟩) (by assumption) ?_
                  rotate_left
                  · (intro w hSw; (try dsimp only at hSw); go_simp <;> with_reducible rfl)
                  simp only [Act.put, List.setIfInBounds_toArray, List.set_cons_zero, List.set_cons_succ]
                  refine wpAnyH_done (by kernel_rfl) ?_ _
                  clear hHeld
                  go_wp2_with fail
                  go_meet
                  exact ⟨by rw [HV], rfl⟩
                have e2 : (t != d) = true := by simpa using h2
                have hdT : d < T := by rcases HWR.out with h | h <;> omega
                obtain ⟨bw', ow', habw', cd9⟩ := (HW.out.below (HWB.out _ HY4.out)).w (t := d) h1 (by rw [HLW.out]; exact hdT)
                cases habw'
                have hdl : d < (lw : Int) := by rw [HLW.out]; exact hdT
                obtain ⟨zd, hzd⟩ : ∃ z, F.wAt ws d = z := ⟨_, rfl⟩
                rw [hzd] at cd9 HBD1
                have HS : Hid ((wr.drew.cell? ⟨w.heap.size + 1, 0, none⟩ = some (.slice (some ⟨bw, ow, none⟩) lw cw) ∧ wr.drew.cell? ⟨xb, 0, none⟩ = some (.int .i64 xop) ∧ wr.drew.cell? ⟨xb, 4, none⟩ = some (.int .i64 xa)) ∧ wr.drew.cell? ⟨bw, ow + t.toNat, none⟩ = some (.int .i64 zt) ∧ wr.drew.cell? ⟨bw, ow + d.toNat, none⟩ = some (.int .i64 zd)) := by
                  simp only [World.cell?_drew]
                  exact ⟨⟨d4, x0, x4⟩, ct, cd9⟩
                clear hzd cd9
                by_cases h3 : zt = zd
                rotate_left
                · have HV : b1 = false := by rw [HBD1.out, decide_eq_false h3]; simp
                  have e3 : (zt == zd) = false := by simpa using h3
                  clear h2 h3
                  go_wp2_with fail
                  refine wp_region_held_drew (S := (fun w' : World => (w'.cell? ⟨w.heap.size + 1, 0, none⟩ = some (.slice (some ⟨bw, ow, none⟩) lw cw) ∧ w'.cell? ⟨xb, 0, none⟩ = some (.int .i64 xop) ∧ w'.cell? ⟨xb, 4, none⟩ = some (.int .i64 xa)) ∧ w'.cell? ⟨bw, ow + t.toNat, none⟩ = some (.int .i64 zt) ∧ w'.cell? ⟨bw, ow + d.toNat, none⟩ = some (.int .i64 zd))) (by kernel_rfl) HS.out (fun hHeld => ?_)
                  refine tk (i := 0) (v := ?_) (tA rfl) (by kernel_rfl) (fun _ _ _ h => h) (Or.inl ⟨by rfl, ?_⟩) (by assumption) ?_
                  rotate_left
                  · (intro w hSw; (try dsimp only at hSw); go_simp <;> with_reducible rfl)
                  simp only [Act.put, List.setIfInBounds_toArray, List.set_cons_zero, List.set_cons_succ]
                  refine tk (i := 1) (v := ?_) (tA rfl) (by kernel_rfl) (fun _ _ _ h => h) (Or.inl ⟨by rfl, ?_⟩) (by assumption) ?_
                  rotate_left
                  · (intro w hSw; (try dsimp only at hSw); go_simp <;> with_reducible rfl)
                  simp only [Act.put, List.setIfInBounds_toArray, List.set_cons_zero, List.set_cons_succ]
                  refine tk (i := 2) (v := ?_) (tA rfl) (by kernel_rfl) (fun _ _ _ h => h) (Or.inl ⟨by rfl, ?_⟩) (by assumption) ?_
                  rotate_left
                  · (intro w hSw; (try dsimp only at hSw); go_simp <;> with_reducible rfl)
                  simp only [Act.put, List.setIfInBounds_toArray, List.set_cons_zero, List.set_cons_succ]
                  refine tk (i := 3) (v := ?_) (tA rfl) (by kernel_rfl) (fun _ _ _ h => h) (Or.inl ⟨by rfl, ?_⟩) (by assumption) ?_
                  rotate_left
                  · (intro w hSw; (try dsimp only at hSw); go_simp <;> with_reducible rfl)
                  simp only [Act.put, List.setIfInBounds_toArray, List.set_cons_zero, List.set_cons_succ]
                  refine tk (i := 4) (v := ?_) (tA rfl) (by kernel_rfl) (fun _ _ _ h => h) (Or.inl ⟨by rfl, ?_⟩) (by assumption) ?_
                  rotate_left
                  · (intro w hSw; (try dsimp only at hSw); go_simp <;> with_reducible rfl)
                  simp only [Act.put, List.setIfInBounds_toArray, List.set_cons_zero, List.set_cons_succ]
                  refine tk (i := 5) (v := ?_) (tA rfl) (by kernel_rfl) (fun _ _ _ h => h) (Or.inl ⟨by rfl, ?_⟩) (by assumption) ?_
                  rotate_left
                  · (intro w hSw; (try dsimp only at hSw); go_simp <;> with_reducible rfl)
                  simp only [Act.put, List.setIfInBounds_toArray, List.set_cons_zero, List.set_cons_succ]
                  refine tk (i := 6) (v := ?_) (tA rfl) (by kernel_rfl) (fun _ _ _ h => h) (Or.inl ⟨by rfl, ?_⟩) (by assumption) ?_
                  rotate_left
                  · (intro w hSw; (try dsimp only at hSw); go_simp <;> with_reducible rfl)
                  simp only [Act.put, List.setIfInBounds_toArray, List.set_cons_zero, List.set_cons_succ]
                  refine tk (i := 7) (v := ?_) (tA rfl) (by kernel_rfl) (fun _ _ _ h => h) (Or.inl ⟨by rfl, ?_⟩) (by assumption) ?_
                  rotate_left
                  · (intro w hSw; (try dsimp only at hSw); go_simp <;> with_reducible rfl)
                  simp only [Act.put, List.setIfInBounds_toArray, List.set_cons_zero, List.set_cons_succ]
                  refine tk (i := 8) (v := ?_) (tA rfl) (by kernel_rfl) (fun _ _ _ h => h) (Or.inl ⟨by rfl, ?_⟩) (by assumption) ?_
                  rotate_left
                  · (intro w hSw; (try dsimp only at hSw); go_simp <;> with_reducible rfl)
                  simp only [Act.put, List.setIfInBounds_toArray, List.set_cons_zero, List.set_cons_succ]
                  refine tk (i := 9) (v := ?_) (tA rfl) (by kernel_rfl) (fun _ _ _ h => h) (Or.inl ⟨by rfl, ?_⟩) (by assumption) ?_
                  rotate_left
                  · (intro w hSw; (try dsimp only at hSw); go_simp <;> with_reducible rfl)
                  simp only [Act.put, List.setIfInBounds_toArray, List.set_cons_zero, List.set_cons_succ]
                  refine tk (i := 10) (v := ?_) (tA rfl) (by kernel_rfl) (fun _ _ _ h => h) (Or.inl ⟨by rfl, ?_⟩) (by assumption) ?_
                  rotate_left
                  · (intro w hSw; (try dsimp only at hSw); go_simp <;> with_reducible rfl)
                  simp only [Act.put, List.setIfInBounds_toArray, List.set_cons_zero, List.set_cons_succ]
                  refine tk (i := 11) (v := ?_) (tA rfl) (by kernel_rfl) (fun _ _ _ h => h) (Or.inl ⟨by rfl, ?_⟩) (by assumption) ?_
                  rotate_left
                  · (intro w hSw; (try dsimp only at hSw); go_simp <;> with_reducible rfl)
                  simp only [Act.put, List.setIfInBounds_toArray, List.set_cons_zero, List.set_cons_succ]
                  refine tk (i := 12) (v := ?_) (tA rfl) (by kernel_rfl) (fun _ _ _ h => h) (Or.inl ⟨by rfl, ?_⟩) (by assumption) ?_
                  rotate_left
                  · (intro w hSw; (try dsimp only at hSw); go_simp <;> with_reducible rfl)
                  simp only [Act.put, List.setIfInBounds_toArray, List.set_cons_zero, List.set_cons_succ]
                  refine tk (i := 13) (v := ?_) (tA rfl) (by kernel_rfl) (fun _ _ _ h => h) (Or.inl ⟨by rfl, ?_⟩) (by assumption) ?_
                  rotate_left
                  · (intro w hSw; (try dsimp only at hSw); go_simp <;> with_reducible rfl)
                  simp only [Act.put, List.setIfInBounds_toArray, List.set_cons_zero, List.set_cons_succ]
                  refine tk (i := 14) (v := ?_) (tA rfl) (by kernel_rfl) (fun _ _ _ h => h) (Or.inl ⟨by rfl, ?_⟩) (by assumption) ?_
                  rotate_left
                  · (intro w hSw; (try dsimp only at hSw); go_simp <;> with_reducible rfl)
                  simp only [Act.put, List.setIfInBounds_toArray, List.set_cons_zero, List.set_cons_succ]
                  refine tk (i := 15) (v := ?_) (tA rfl) (by kernel_rfl) (fun _ _ _ h => h) (Or.inl ⟨by rfl, ?_⟩) (by assumption) ?_
                  rotate_left
                  · (intro w hSw; (try dsimp only at hSw); go_simp <;> with_reducible rfl)
                  simp only [Act.put, List.setIfInBounds_toArray, List.set_cons_zero, List.set_cons_succ]
                  refine tk (i := 16) (v := ?_) (tA rfl) (by kernel_rfl) (fun _ _ _ h => h) (Or.inl ⟨by rfl, ?_⟩) (by assumption) ?_
                  rotate_left
                  · (intro w hSw; (try dsimp only at hSw); go_simp <;> with_reducible rfl)
                  simp only [Act.put, List.setIfInBounds_toArray, List.set_cons_zero, List.set_cons_succ]
                  refine tk (i := 17) (v := ?_) (tA rfl) (by kernel_rfl) (fun _ _ _ h => h) (Or.inl ⟨by rfl, ?_⟩) (by assumption) ?_
                  rotate_left
                  · (intro w hSw; (try dsimp only at hSw); go_simp <;> with_reducible rfl)
                  simp only [Act.put, List.setIfInBounds_toArray, List.set_cons_zero, List.set_cons_succ]
                  refine tk (i := 18) (v := ?_) (tA rfl) (by kernel_rfl) (fun _ _ _ h => h) (Or.inl ⟨by rfl, ?_⟩) (by assumption) ?_
                  rotate_left
                  · (intro w hSw; (try dsimp only at hSw); go_simp <;> with_reducible rfl)
                  simp only [Act.put, List.setIfInBounds_toArray, List.set_cons_zero, List.set_cons_succ]
                  refine tk (i := 19) (v := ?_) (tA rfl) (by kernel_rfl) (fun _ _ _ h => h) (Or.inl ⟨by rfl, ?_⟩) (by assumption) ?_
                  rotate_left
                  · (intro w hSw; (try dsimp only at hSw); go_simp <;> with_reducible rfl)
                  simp only [Act.put, List.setIfInBounds_toArray, List.set_cons_zero, List.set_cons_succ]
                  refine tk (i := 20) (v := ?_) (tA rfl) (by kernel_rfl) (fun _ _ _ h => h) (Or.inl ⟨by rfl, ?_⟩) (by assumption) ?_
                  rotate_left
                  · (intro w hSw; (try dsimp only at hSw); go_simp <;> with_reducible rfl)
                  simp only [Act.put, List.setIfInBounds_toArray, List.set_cons_zero, List.set_cons_succ]
                  refine tk (i := 21) (v := undef) (tA rfl) (by kernel_rfl) (fun _ _ _ h => h) (Or.inr ⟨by rfl, rfl⟩) (by assumption) ?_
                  simp only [Act.put, List.setIfInBounds_toArray, List.set_cons_zero, List.set_cons_succ]
                  refine tk (i := 22) (v := undef) (tA rfl) (by kernel_rfl) (fun _ _ _ h => h) (Or.inr ⟨by rfl, rfl⟩) (by assumption) ?_
                  simp only [Act.put, List.setIfInBounds_toArray, List.set_cons_zero, List.set_cons_succ]
                  refine tk (i := 23) (v := undef) (tA rfl) (by kernel_rfl) (fun _ _ _ h => h) (Or.inr ⟨by rfl, rfl⟩) (by assumption) ?_
                  simp only [Act.put, List.setIfInBounds_toArray, List.set_cons_zero, List.set_cons_succ]
                  refine tk (i := 24) (v := undef) (tA rfl) (by kernel_rfl) (fun _ _ _ h => h) (Or.inr ⟨by rfl, rfl⟩) (by assumption) ?_
                  simp only [Act.put, List.setIfInBounds_toArray, List.set_cons_zero, List.set_cons_succ]
                  refine tk (i := 25) (v := undef) (tA rfl) (by kernel_rfl) (fun _ _ _ h => h) (Or.inr ⟨by rfl, rfl⟩) (by assumption) ?_
                  simp only [Act.put, List.setIfInBounds_toArray, List.set_cons_zero, List.set_cons_succ]
                  refine tk (i := 26) (v := undef) (tA rfl) (by kernel_rfl) (fun _ _ _ h => h) (Or.inr ⟨by rfl, rfl⟩) (by assumption) ?_
                  simp only [Act.put, List.setIfInBounds_toArray, List.set_cons_zero, List.set_cons_succ]
                  refine tk (i := 27) (v := undef) (tA rfl) (by kernel_rfl) (fun _ _ _ h => h) (Or.inr ⟨by rfl, rfl⟩) (by assumption) ?_
                  simp only [Act.put, List.setIfInBounds_toArray, List.set_cons_zero, List.set_cons_succ]
                  refine tk (i := 28) (v := undef) (tA rfl) (by kernel_rfl) (fun _ _ _ h => h) (Or.inr ⟨by rfl, rfl⟩) (by assumption) ?_
                  simp only [Act.put, List.setIfInBounds_toArray, List.set_cons_zero, List.set_cons_succ]
                  refine tk (i := 29) (v := undef) (tA rfl) (by kernel_rfl) (fun _ _ _ h => h) (Or.inr ⟨by rfl, rfl⟩) (by assumption) ?_
                  simp only [Act.put, List.setIfInBounds_toArray, List.set_cons_zero, List.set_cons_succ]
                  refine tk (i := 30) (v := undef) (tA rfl) (by kernel_rfl) (fun _ _ _ h => h) (Or.inr ⟨by rfl, rfl⟩) (by assumption) ?_
                  simp only [Act.put, List.setIfInBounds_toArray, List.set_cons_zero, List.set_cons_succ]
                  refine tk (i := 31) (v := ?_) (tA rfl) (by kernel_rfl) (fun _ _ _ h => h) (Or.inl ⟨by rfl, ?_⟩) (by assumption) ?_
                  rotate_left
                  · (intro w hSw; (try dsimp only at hSw); go_simp <;> with_reducible rfl)
                  simp only [Act.put, List.setIfInBounds_toArray, List.set_cons_zero, List.set_cons_succ]
                  refine wpAnyH_done (by kernel_rfl) ?_ _
                  clear hHeld
                  go_wp2_with fail
                  go_meet
                  exact ⟨by rw [HV], rfl⟩
                have e3 : (zt == zd) = true := by simpa using h3
                by_cases h4 : xop = 2
                rotate_left
                · have HV : b1 = true := by rw [HBD1.out, decide_eq_true h1, decide_eq_true (by simpa using h2), decide_eq_true h3, decide_eq_false h4]; rfl
                  have e4 : (xop == 2) = false := by simpa using h4
                  clear h2 h3 h4
                  go_wp2_with fail
                  refine wp_region_held_drew (S := (fun w' : World => (w'.cell? ⟨w.heap.size + 1, 0, none⟩ = some (.slice (some ⟨bw, ow, none⟩) lw cw) ∧ w'.cell? ⟨xb, 0, none⟩ = some (.int .i64 xop) ∧ w'.cell? ⟨xb, 4, none⟩ = some (.int .i64 xa)) ∧ w'.cell? ⟨bw, ow + t.toNat, none⟩ = some (.int .i64 zt) ∧ w'.cell? ⟨bw, ow + d.toNat, none⟩ = some (.int .i64 zd))) (by kernel_rfl) HS.out (fun hHeld => ?_)
                  refine tk (i := 0) (v := ?_) (tA rfl) (by kernel_rfl) (fun _ _ _ h => h) (Or.inl ⟨by rfl, ?_⟩) (by assumption) ?_
                  rotate_left
                  · (intro w hSw; (try dsimp only at hSw); go_simp <;> with_reducible rfl)
                  simp only [Act.put, List.setIfInBounds_toArray, List.set_cons_zero, List.set_cons_succ]
                  refine tk (i := 1) (v := ?_) (tA rfl) (by kernel_rfl) (fun _ _ _ h => h) (Or.inl ⟨by rfl, ?_⟩) (by assumption) ?_
                  rotate_left
                  · (intro w hSw; (try dsimp only at hSw); go_simp <;> with_reducible rfl)
                  simp only [Act.put, List.setIfInBounds_toArray, List.set_cons_zero, List.set_cons_succ]
                  refine tk (i := 2) (v := ?_) (tA rfl) (by kernel_rfl) (fun _ _ _ h => h) (Or.inl ⟨by rfl, ?_⟩) (by assumption) ?_
                  rotate_left
                  · (intro w hSw; (try dsimp only at hSw); go_simp <;> with_reducible rfl)
                  simp only [Act.put, List.setIfInBounds_toArray, List.set_cons_zero, List.set_cons_succ]
                  refine tk (i := 3) (v := ?_) (tA rfl) (by kernel_rfl) (fun _ _ _ h => h) (Or.inl ⟨by rfl, ?_⟩) (by assumption) ?_
                  rotate_left
                  · (intro w hSw; (try dsimp only at hSw); go_simp <;> with_reducible rfl)
                  simp only [Act.put, List.setIfInBounds_toArray, List.set_cons_zero, List.set_cons_succ]
                  refine tk (i := 4) (v := ?_) (tA rfl) (by kernel_rfl) (fun _ _ _ h => h) (Or.inl ⟨by rfl, ?_⟩) (by assumption) ?_
                  rotate_left
                  · (intro w hSw; (try dsimp only at hSw); go_simp <;> with_reducible rfl)
                  simp only [Act.put, List.setIfInBounds_toArray, List.set_cons_zero, List.set_cons_succ]
                  refine tk (i := 5) (v := ?_) (tA rfl) (by kernel_rfl) (fun _ _ _ h => h) (Or.inl ⟨by rfl, ?_⟩) (by assumption) ?_
                  rotate_left
                  · (intro w hSw; (try dsimp only at hSw); go_simp <;> with_reducible rfl)
                  simp only [Act.put, List.setIfInBounds_toArray, List.set_cons_zero, List.set_cons_succ]
                  refine tk (i := 6) (v := ?_) (tA rfl) (by kernel_rfl) (fun _ _ _ h => h) (Or.inl ⟨by rfl, ?_⟩) (by assumption) ?_
                  rotate_left
                  · (intro w hSw; (try dsimp only at hSw); go_simp <;> with_reducible rfl)
                  simp only [Act.put, List.setIfInBounds_toArray, List.set_cons_zero, List.set_cons_succ]
                  refine tk (i := 7) (v := ?_) (tA rfl) (by kernel_rfl) (fun _ _ _ h => h) (Or.inl ⟨by rfl, ?_⟩) (by assumption) ?_
                  rotate_left
                  · (intro w hSw; (try dsimp only at hSw); go_simp <;> with_reducible rfl)
                  simp only [Act.put, List.setIfInBounds_toArray, List.set_cons_zero, List.set_cons_succ]
                  refine tk (i := 8) (v := ?_) (tA rfl) (by kernel_rfl) (fun _ _ _ h => h) (Or.inl ⟨by rfl, ?_⟩) (by assumption) ?_
                  rotate_left
                  · (intro w hSw; (try dsimp only at hSw); go_simp <;> with_reducible rfl)
                  simp only [Act.put, List.setIfInBounds_toArray, List.set_cons_zero, List.set_cons_succ]
                  refine tk (i := 9) (v := ?_) (tA rfl) (by kernel_rfl) (fun _ _ _ h => h) (Or.inl ⟨by rfl, ?_⟩) (by assumption) ?_
                  rotate_left
                  · (intro w hSw; (try dsimp only at hSw); go_simp <;> with_reducible rfl)
                  simp only [Act.put, List.setIfInBounds_toArray, List.set_cons_zero, List.set_cons_succ]
                  refine tk (i := 10) (v := ?_) (tA rfl) (by kernel_rfl) (fun _ _ _ h => h) (Or.inl ⟨by rfl, ?_⟩) (by assumption) ?_
                  rotate_left
                  · (intro w hSw; (try dsimp only at hSw); go_simp <;> with_reducible rfl)
                  simp only [Act.put, List.setIfInBounds_toArray, List.set_cons_zero, List.set_cons_succ]
                  refine tk (i := 11) (v := ?_) (tA rfl) (by kernel_rfl) (fun _ _ _ h => h) (Or.inl ⟨by rfl, ?_⟩) (by assumption) ?_
                  rotate_left
                  · (intro w hSw; (try dsimp only at hSw); go_simp <;> with_reducible rfl)
                  simp only [Act.put, List.setIfInBounds_toArray, List.set_cons_zero, List.set_cons_succ]
                  refine tk (i := 12) (v := ?_) (tA rfl) (by kernel_rfl) (fun _ _ _ h => h) (Or.inl ⟨by rfl, ?_⟩) (by assumption) ?_
                  rotate_left
                  · (intro w hSw; (try dsimp only at hSw); go_simp <;> with_reducible rfl)
                  simp only [Act.put, List.setIfInBounds_toArray, List.set_cons_zero, List.set_cons_succ]
                  refine tk (i := 13) (v := ?_) (tA rfl) (by kernel_rfl) (fun _ _ _ h => h) (Or.inl ⟨by rfl, ?_⟩) (by assumption) ?_
                  rotate_left
                  · (intro w hSw; (try dsimp only at hSw); go_simp <;> with_reducible rfl)
                  simp only [Act.put, List.setIfInBounds_toArray, List.set_cons_zero, List.set_cons_succ]
                  refine tk (i := 14) (v := ?_) (tA rfl) (by kernel_rfl) (fun _ _ _ h => h) (Or.inl ⟨by rfl, ?_⟩) (by assumption) ?_
                  rotate_left
                  · (intro w hSw; (try dsimp only at hSw); go_simp <;> with_reducible rfl)
                  simp only [Act.put, List.setIfInBounds_toArray, List.set_cons_zero, List.set_cons_succ]
                  refine tk (i := 15) (v := ?_) (tA rfl) (by kernel_rfl) (fun _ _ _ h => h) (Or.inl ⟨by rfl, ?_⟩) (by assumption) ?_
                  rotate_left
                  · (intro w hSw; (try dsimp only at hSw); go_simp <;> with_reducible rfl)
                  simp only [Act.put, List.setIfInBounds_toArray, List.set_cons_zero, List.set_cons_succ]
                  refine tk (i := 16) (v := ?_) (tA rfl) (by kernel_rfl) (fun _ _ _ h => h) (Or.inl ⟨by rfl, ?_⟩) (by assumption) ?_
                  rotate_left
                  · (intro w hSw; (try dsimp only at hSw); go_simp <;> with_reducible rfl)
                  simp only [Act.put, List.setIfInBounds_toArray, List.set_cons_zero, List.set_cons_succ]
                  refine tk (i := 17) (v := ?_) (tA rfl) (by kernel_rfl) (fun _ _ _ h => h) (Or.inl ⟨by rfl, ?_⟩) (by assumption) ?_
                  rotate_left
                  · (intro w hSw; (try dsimp only at hSw); go_simp <;> with_reducible rfl)
                  simp only [Act.put, List.setIfInBounds_toArray, List.set_cons_zero, List.set_cons_succ]
                  refine tk (i := 18) (v := ?_) (tA rfl) (by kernel_rfl) (fun _ _ _ h => h) (Or.inl ⟨by rfl, ?_⟩) (by assumption) ?_
                  rotate_left
                  · (intro w hSw; (try dsimp only at hSw); go_simp <;> with_reducible rfl)
                  simp only [Act.put, List.setIfInBounds_toArray, List.set_cons_zero, List.set_cons_succ]
                  refine tk (i := 19) (v := ?_) (tA rfl) (by kernel_rfl) (fun _ _ _ h => h) (Or.inl ⟨by rfl, ?_⟩) (by assumption) ?_
                  rotate_left
                  · (intro w hSw; (try dsimp only at hSw); go_simp <;> with_reducible rfl)
                  simp only [Act.put, List.setIfInBounds_toArray, List.set_cons_zero, List.set_cons_succ]
                  refine tk (i := 20) (v := ?_) (tA rfl) (by kernel_rfl) (fun _ _ _ h => h) (Or.inl ⟨by rfl, ?_⟩) (by assumption) ?_
                  rotate_left
                  · (intro w hSw; (try dsimp only at hSw); go_simp <;> with_reducible rfl)
                  simp only [Act.put, List.setIfInBounds_toArray, List.set_cons_zero, List.set_cons_succ]
                  refine tk (i := 21) (v := ?_) (tA rfl) (by kernel_rfl) (fun _ _ _ h => h) (Or.inl ⟨by rfl, ?_⟩) (by assumption) ?_
                  rotate_left
                  · (intro w hSw; (try dsimp only at hSw); go_simp <;> with_reducible rfl)
                  simp only [Act.put, List.setIfInBounds_toArray, List.set_cons_zero, List.set_cons_succ]
                  refine tk (i := 22) (v := ?_) (tA rfl) (by kernel_rfl) (fun _ _ _ h => h) (Or.inl ⟨by rfl, ?_⟩) (by assumption) ?_
                  rotate_left
                  · (intro w hSw; (try dsimp only at hSw); go_simp <;> with_reducible rfl)
                  simp only [Act.put, List.setIfInBounds_toArray, List.set_cons_zero, List.set_cons_succ]
                  refine tk (i := 23) (v := ?_) (tA rfl) (by kernel_rfl) (fun _ _ _ h => h) (Or.inl ⟨by rfl, ?_⟩) (by assumption) ?_
                  rotate_left
                  · (intro w hSw; (try dsimp only at hSw); go_simp <;> with_reducible rfl)
                  simp only [Act.put, List.setIfInBounds_toArray, List.set_cons_zero, List.set_cons_succ]
                  refine tk (i := 24) (v := ?_) (tA rfl) (by kernel_rfl) (fun _ _ _ h => h) (Or.inl ⟨by rfl, ?_⟩) (by assumption) ?_
                  rotate_left
                  · (intro w hSw; (try dsimp only at hSw); go_simp <;> with_reducible rfl)
                  simp only [Act.put, List.setIfInBounds_toArray, List.set_cons_zero, List.set_cons_succ]
                  refine tk (i := 25) (v := undef) (tA rfl) (by kernel_rfl) (fun _ _ _ h => h) (Or.inr ⟨by rfl, rfl⟩) (by assumption) ?_
                  simp only [Act.put, List.setIfInBounds_toArray, List.set_cons_zero, List.set_cons_succ]
                  refine tk (i := 26) (v := undef) (tA rfl) (by kernel_rfl) (fun _ _ _ h => h) (Or.inr ⟨by rfl, rfl⟩) (by assumption) ?_
                  simp only [Act.put, List.setIfInBounds_toArray, List.set_cons_zero, List.set_cons_succ]
                  refine tk (i := 27) (v := undef) (tA rfl) (by kernel_rfl) (fun _ _ _ h => h) (Or.inr ⟨by rfl, rfl⟩) (by assumption) ?_
                  simp only [Act.put, List.setIfInBounds_toArray, List.set_cons_zero, List.set_cons_succ]
                  refine tk (i := 28) (v := undef) (tA rfl) (by kernel_rfl) (fun _ _ _ h => h) (Or.inr ⟨by rfl, rfl⟩) (by assumption) ?_
                  simp only [Act.put, List.setIfInBounds_toArray, List.set_cons_zero, List.set_cons_succ]
                  refine tk (i := 29) (v := ?_) (tA rfl) (by kernel_rfl) (fun _ _ _ h => h) (Or.inl ⟨by rfl, ?_⟩) (by assumption) ?_
                  rotate_left
                  · (intro w hSw; (try dsimp only at hSw); go_simp <;> with_reducible rfl)
                  simp only [Act.put, List.setIfInBounds_toArray, List.set_cons_zero, List.set_cons_succ]
                  refine tk (i := 30) (v := ?_) (tA rfl) (by kernel_rfl) (fun _ _ _ h => h) (Or.inl ⟨by rfl, ?_⟩) (by assumption) ?_
                  rotate_left
                  · (intro w hSw; (try dsimp only at hSw); go_simp <;> with_reducible rfl)
                  simp only [Act.put, List.setIfInBounds_toArray, List.set_cons_zero, List.set_cons_succ]
                  refine tk (i := 31) (v := ?_) (tA rfl) (by kernel_rfl) (fun _ _ _ h => h) (Or.inl ⟨by rfl, ?_⟩) (by assumption) ?_
                  rotate_left
                  · (intro w hSw; (try dsimp only at hSw); go_simp <;> with_reducible rfl)
                  simp only [Act.put, List.setIfInBounds_toArray, List.set_cons_zero, List.set_cons_succ]
                  refine wpAnyH_done (by kernel_rfl) ?_ _
                  clear hHeld
                  go_wp2_with fail
                  go_meet
                  exact ⟨by rw [HV], rfl⟩
                have e4 : (xop == 2) = true := by simpa using h4
                by_cases h5 : t = xa
                · have HV : b1 = false := by rw [HBD1.out, decide_eq_true h4, decide_eq_true h5]; simp
                  have e5 : (t == xa) = true := by simpa using h5
                  clear h2 h3 h4 h5
                  go_wp2_with fail
                  refine wp_region_held_drew (S := (fun w' : World => (w'.cell? ⟨w.heap.size + 1, 0, none⟩ = some (.slice (some ⟨bw, ow, none⟩) lw cw) ∧ w'.cell? ⟨xb, 0, none⟩ = some (.int .i64 xop) ∧ w'.cell? ⟨xb, 4, none⟩ = some (.int .i64 xa)) ∧ w'.cell? ⟨bw, ow + t.toNat, none⟩ = some (.int .i64 zt) ∧ w'.cell? ⟨bw, ow + d.toNat, none⟩ = some (.int .i64 zd))) (by kernel_rfl) HS.out (fun hHeld => ?_)
                  refine tk (i := 0) (v := ?_) (tA rfl) (by kernel_rfl) (fun _ _ _ h => h) (Or.inl ⟨by rfl, ?_⟩) (by assumption) ?_
                  rotate_left
                  · (intro w hSw; (try dsimp only at hSw); go_simp <;> with_reducible rfl)
                  simp only [Act.put, List.setIfInBounds_toArray, List.set_cons_zero, List.set_cons_succ]
                  refine tk (i := 1) (v := ?_) (tA rfl) (by kernel_rfl) (fun _ _ _ h => h) (Or.inl ⟨by rfl, ?_⟩) (by assumption) ?_
                  rotate_left
                  · (intro w hSw; (try dsimp only at hSw); go_simp <;> with_reducible rfl)
                  simp only [Act.put, List.setIfInBounds_toArray, List.set_cons_zero, List.set_cons_succ]
                  refine tk (i := 2) (v := ?_) (tA rfl) (by kernel_rfl) (fun _ _ _ h => h) (Or.inl ⟨by rfl, ?_⟩) (by assumption) ?_
                  rotate_left
                  · (intro w hSw; (try dsimp only at hSw); go_simp <;> with_reducible rfl)
                  simp only [Act.put, List.setIfInBounds_toArray, List.set_cons_zero, List.set_cons_succ]
                  refine tk (i := 3) (v := ?_) (tA rfl) (by kernel_rfl) (fun _ _ _ h => h) (Or.inl ⟨by rfl, ?_⟩) (by assumption) ?_
                  rotate_left
                  · (intro w hSw; (try dsimp only at hSw); go_simp <;> with_reducible rfl)
                  simp only [Act.put, List.setIfInBounds_toArray, List.set_cons_zero, List.set_cons_succ]
                  refine tk (i := 4) (v := ?_) (tA rfl) (by kernel_rfl) (fun _ _ _ h => h) (Or.inl ⟨by rfl, ?_⟩) (by assumption) ?_
                  rotate_left
                  · (intro w hSw; (try dsimp only at hSw); go_simp <;> with_reducible rfl)
                  simp only [Act.put, List.setIfInBounds_toArray, List.set_cons_zero, List.set_cons_succ]
                  refine tk (i := 5) (v := ?_) (tA rfl) (by kernel_rfl) (fun _ _ _ h => h) (Or.inl ⟨by rfl, ?_⟩) (by assumption) ?_
                  rotate_left
                  · (intro w hSw; (try dsimp only at hSw); go_simp <;> with_reducible rfl)
                  simp only [Act.put, List.setIfInBounds_toArray, List.set_cons_zero, List.set_cons_succ]
                  refine tk (i := 6) (v := ?_) (tA rfl) (by kernel_rfl) (fun _ _ _ h => h) (Or.inl ⟨by rfl, ?_⟩) (by assumption) ?_
                  rotate_left
                  · (intro w hSw; (try dsimp only at hSw); go_simp <;> with_reducible rfl)
                  simp only [Act.put, List.setIfInBounds_toArray, List.set_cons_zero, List.set_cons_succ]
                  refine tk (i := 7) (v := ?_) (tA rfl) (by kernel_rfl) (fun _ _ _ h => h) (Or.inl ⟨by rfl, ?_⟩) (by assumption) ?_
                  rotate_left
                  · (intro w hSw; (try dsimp only at hSw); go_simp <;> with_reducible rfl)
                  simp only [Act.put, List.setIfInBounds_toArray, List.set_cons_zero, List.set_cons_succ]
                  refine tk (i := 8) (v := ?_) (tA rfl) (by kernel_rfl) (fun _ _ _ h => h) (Or.inl ⟨by rfl, ?_⟩) (by assumption) ?_
                  rotate_left
                  · (intro w hSw; (try dsimp only at hSw); go_simp <;> with_reducible rfl)
                  simp only [Act.put, List.setIfInBounds_toArray, List.set_cons_zero, List.set_cons_succ]
                  refine tk (i := 9) (v := ?_) (tA rfl) (by kernel_rfl) (fun _ _ _ h => h) (Or.inl ⟨by rfl, ?_⟩) (by assumption) ?_
                  rotate_left
                  · (intro w hSw; (try dsimp only at hSw); go_simp <;> with_reducible rfl)
                  simp only [Act.put, List.setIfInBounds_toArray, List.set_cons_zero, List.set_cons_succ]
                  refine tk (i := 10) (v := ?_) (tA rfl) (by kernel_rfl) (fun _ _ _ h => h) (Or.inl ⟨by rfl, ?_⟩) (by assumption) ?_
                  rotate_left
                  · (intro w hSw; (try dsimp only at hSw); go_simp <;> with_reducible rfl)
                  simp only [Act.put, List.setIfInBounds_toArray, List.set_cons_zero, List.set_cons_succ]
                  refine tk (i := 11) (v := ?_) (tA rfl) (by kernel_rfl) (fun _ _ _ h => h) (Or.inl ⟨by rfl, ?_⟩) (by assumption) ?_
                  rotate_left
                  · (intro w hSw; (try dsimp only at hSw); go_simp <;> with_reducible rfl)
                  simp only [Act.put, List.setIfInBounds_toArray, List.set_cons_zero, List.set_cons_succ]
                  refine tk (i := 12) (v := ?_) (tA rfl) (by kernel_rfl) (fun _ _ _ h => h) (Or.inl ⟨by rfl, ?_⟩) (by assumption) ?_
                  rotate_left
                  · (intro w hSw; (try dsimp only at hSw); go_simp <;> with_reducible rfl)
                  simp only [Act.put, List.setIfInBounds_toArray, List.set_cons_zero, List.set_cons_succ]
                  refine tk (i := 13) (v := ?_) (tA rfl) (by kernel_rfl) (fun _ _ _ h => h) (Or.inl ⟨by rfl, ?_⟩) (by assumption) ?_
                  rotate_left
                  · (intro w hSw; (try dsimp only at hSw); go_simp <;> with_reducible rfl)
                  simp only [Act.put, List.setIfInBounds_toArray, List.set_cons_zero, List.set_cons_succ]
                  refine tk (i := 14) (v := ?_) (tA rfl) (by kernel_rfl) (fun _ _ _ h => h) (Or.inl ⟨by rfl, ?_⟩) (by assumption) ?_
                  rotate_left
                  · (intro w hSw; (try dsimp only at hSw); go_simp <;> with_reducible rfl)
                  simp only [Act.put, List.setIfInBounds_toArray, List.set_cons_zero, List.set_cons_succ]
                  refine tk (i := 15) (v := ?_) (tA rfl) (by kernel_rfl) (fun _ _ _ h => h) (Or.inl ⟨by rfl, ?_⟩) (by assumption) ?_
                  rotate_left
                  · (intro w hSw; (try dsimp only at hSw); go_simp <;> with_reducible rfl)
                  simp only [Act.put, List.setIfInBounds_toArray, List.set_cons_zero, List.set_cons_succ]
                  refine tk (i := 16) (v := ?_) (tA rfl) (by kernel_rfl) (fun _ _ _ h => h) (Or.inl ⟨by rfl, ?_⟩) (by assumption) ?_
                  rotate_left
                  · (intro w hSw; (try dsimp only at hSw); go_simp <;> with_reducible rfl)
                  simp only [Act.put, List.setIfInBounds_toArray, List.set_cons_zero, List.set_cons_succ]
                  refine tk (i := 17) (v := ?_) (tA rfl) (by kernel_rfl) (fun _ _ _ h => h) (Or.inl ⟨by rfl, ?_⟩) (by assumption) ?_
                  rotate_left
                  · (intro w hSw; (try dsimp only at hSw); go_simp <;> with_reducible rfl)
                  simp only [Act.put, List.setIfInBounds_toArray, List.set_cons_zero, List.set_cons_succ]
                  refine tk (i := 18) (v := ?_) (tA rfl) (by kernel_rfl) (fun _ _ _ h => h) (Or.inl ⟨by rfl, ?_⟩) (by assumption) ?_
                  rotate_left
                  · (intro w hSw; (try dsimp only at hSw); go_simp <;> with_reducible rfl)
                  simp only [Act.put, List.setIfInBounds_toArray, List.set_cons_zero, List.set_cons_succ]
                  refine tk (i := 19) (v := ?_) (tA rfl) (by kernel_rfl) (fun _ _ _ h => h) (Or.inl ⟨by rfl, ?_⟩) (by assumption) ?_
                  rotate_left
                  · (intro w hSw; (try dsimp only at hSw); go_simp <;> with_reducible rfl)
                  simp only [Act.put, List.setIfInBounds_toArray, List.set_cons_zero, List.set_cons_succ]
                  refine tk (i := 20) (v := ?_) (tA rfl) (by kernel_rfl) (fun _ _ _ h => h) (Or.inl ⟨by rfl, ?_⟩) (by assumption) ?_
                  rotate_left
                  · (intro w hSw; (try dsimp only at hSw); go_simp <;> with_reducible rfl)
                  simp only [Act.put, List.setIfInBounds_toArray, List.set_cons_zero, List.set_cons_succ]
                  refine tk (i := 21) (v := ?_) (tA rfl) (by kernel_rfl) (fun _ _ _ h => h) (Or.inl ⟨by rfl, ?_⟩) (by assumption) ?_
                  rotate_left
                  · (intro w hSw; (try dsimp only at hSw); go_simp <;> with_reducible rfl)
                  simp only [Act.put, List.setIfInBounds_toArray, List.set_cons_zero, List.set_cons_succ]
                  refine tk (i := 22) (v := ?_) (tA rfl) (by kernel_rfl) (fun _ _ _ h => h) (Or.inl ⟨by rfl, ?_⟩) (by assumption) ?_
                  rotate_left
                  · (intro w hSw; (try dsimp only at hSw); go_simp <;> with_reducible rfl)
                  simp only [Act.put, List.setIfInBounds_toArray, List.set_cons_zero, List.set_cons_succ]
                  refine tk (i := 23) (v := ?_) (tA rfl) (by kernel_rfl) (fun _ _ _ h => h) (Or.inl ⟨by rfl, ?_⟩) (by assumption) ?_
                  rotate_left
                  · (intro w hSw; (try dsimp only at hSw); go_simp <;> with_reducible rfl)
                  simp only [Act.put, List.setIfInBounds_toArray, List.set_cons_zero, List.set_cons_succ]
                  refine tk (i := 24) (v := ?_) (tA rfl) (by kernel_rfl) (fun _ _ _ h => h) (Or.inl ⟨by rfl, ?_⟩) (by assumption) ?_
                  rotate_left
                  · (intro w hSw; (try dsimp only at hSw); go_simp <;> with_reducible rfl)
                  simp only [Act.put, List.setIfInBounds_toArray, List.set_cons_zero, List.set_cons_succ]
                  refine tk (i := 25) (v := ?_) (tA rfl) (by kernel_rfl) (fun _ _ _ h => h) (Or.inl ⟨by rfl, ?_⟩) (by assumption) ?_
                  rotate_left
                  · (intro w hSw; (try dsimp only at hSw); go_simp <;> with_reducible rfl)
                  simp only [Act.put, List.setIfInBounds_toArray, List.set_cons_zero, List.set_cons_succ]
                  refine tk (i := 26) (v := ?_) (tA rfl) (by kernel_rfl) (fun _ _ _ h => h) (Or.inl ⟨by rfl, ?_⟩) (by assumption) ?_
                  rotate_left
                  · (intro w hSw; (try dsimp only at hSw); go_simp <;> with_reducible rfl)
                  simp only [Act.put, List.setIfInBounds_toArray, List.set_cons_zero, List.set_cons_succ]
                  refine tk (i := 27) (v := ?_) (tA rfl) (by kernel_rfl) (fun _ _ _ h => h) (Or.inl ⟨by rfl, ?_⟩) (by assumption) ?_
                  rotate_left
                  · (intro w hSw; (try dsimp only at hSw); go_simp <;> with_reducible rfl)
                  simp only [Act.put, List.setIfInBounds_toArray, List.set_cons_zero, List.set_cons_succ]
                  refine tk (i := 28) (v := ?_) (tA rfl) (by kernel_rfl) (fun _ _ _ h => h) (Or.inl ⟨by rfl, ?_⟩) (by assumption) ?_
                  rotate_left
                  · (intro w hSw; (try dsimp only at hSw); go_simp <;> with_reducible rfl)
                  simp only [Act.put, List.setIfInBounds_toArray, List.set_cons_zero, List.set_cons_succ]
                  refine tk (i := 29) (v := ?_) (tA rfl) (by kernel_rfl) (fun _ _ _ h => h) (Or.inl ⟨by rfl, ?_⟩) (by assumption) ?_
                  rotate_left
                  · (intro w hSw; (try dsimp only at hSw); go_simp <;> with_reducible rfl)
                  simp only [Act.put, List.setIfInBounds_toArray, List.set_cons_zero, List.set_cons_succ]
                  refine tk (i := 30) (v := ?_) (tA rfl) (by kernel_rfl) (fun _ _ _ h => h) (Or.inl ⟨by rfl, ?_⟩) (by assumption) ?_
                  rotate_left
                  · (intro w hSw; (try dsimp only at hSw); go_simp <;> with_reducible rfl)
                  simp only [Act.put, List.setIfInBounds_toArray, List.set_cons_zero, List.set_cons_succ]
                  refine tk (i := 31) (v := ?_) (tA rfl) (by kernel_rfl) (fun _ _ _ h => h) (Or.inl ⟨by rfl, ?_⟩) (by assumption) ?_
                  rotate_left
                  · (intro w hSw; (try dsimp only at hSw); go_simp <;> with_reducible rfl)
                  simp only [Act.put, List.setIfInBounds_toArray, List.set_cons_zero, List.set_cons_succ]
                  refine wpAnyH_done (by kernel_rfl) ?_ _
                  clear hHeld
                  go_wp2_with fail
                  go_meet
                  exact ⟨by rw [HV], rfl⟩
                · have HV : b1 = true := by rw [HBD1.out, decide_eq_true h1, decide_eq_true (by simpa using h2), decide_eq_true h3, decide_eq_false h5]; simp
                  have e5 : (t == xa) = false := by simpa using h5
                  clear h2 h3 h4 h5
                  go_wp2_with fail
                  refine wp_region_held_drew (S := (fun w' : World => (w'.cell? ⟨w.heap.size + 1, 0, none⟩ = some (.slice (some ⟨bw, ow, none⟩) lw cw) ∧ w'.cell? ⟨xb, 0, none⟩ = some (.int .i64 xop) ∧ w'.cell? ⟨xb, 4, none⟩ = some (.int .i64 xa)) ∧ w'.cell? ⟨bw, ow + t.toNat, none⟩ = some (.int .i64 zt) ∧ w'.cell? ⟨bw, ow + d.toNat, none⟩ = some (.int .i64 zd))) (by kernel_rfl) HS.out (fun hHeld => ?_)
                  refine tk (i := 0) (v := ?_) (tA rfl) (by kernel_rfl) (fun _ _ _ h => h) (Or.inl ⟨by rfl, ?_⟩) (by assumption) ?_
                  rotate_left
                  · (intro w hSw; (try dsimp only at hSw); go_simp <;> with_reducible rfl)
                  simp only [Act.put, List.setIfInBounds_toArray, List.set_cons_zero, List.set_cons_succ]
                  refine tk (i := 1) (v := ?_) (tA rfl) (by kernel_rfl) (fun _ _ _ h => h) (Or.inl ⟨by rfl, ?_⟩) (by assumption) ?_
                  rotate_left
                  · (intro w hSw; (try dsimp only at hSw); go_simp <;> with_reducible rfl)
                  simp only [Act.put, List.setIfInBounds_toArray, List.set_cons_zero, List.set_cons_succ]
                  refine tk (i := 2) (v := ?_) (tA rfl) (by kernel_rfl) (fun _ _ _ h => h) (Or.inl ⟨by rfl, ?_⟩) (by assumption) ?_
                  rotate_left
                  · (intro w hSw; (try dsimp only at hSw); go_simp <;> with_reducible rfl)
                  simp only [Act.put, List.setIfInBounds_toArray, List.set_cons_zero, List.set_cons_succ]
                  refine tk (i := 3) (v := ?_) (tA rfl) (by kernel_rfl) (fun _ _ _ h => h) (Or.inl ⟨by rfl, ?_⟩) (by assumption) ?_
                  rotate_left
                  · (intro w hSw; (try dsimp only at hSw); go_simp <;> with_reducible rfl)
                  simp only [Act.put, List.setIfInBounds_toArray, List.set_cons_zero, List.set_cons_succ]
                  refine tk (i := 4) (v := ?_) (tA rfl) (by kernel_rfl) (fun _ _ _ h => h) (Or.inl ⟨by rfl, ?_⟩) (by assumption) ?_
                  rotate_left
                  · (intro w hSw; (try dsimp only at hSw); go_simp <;> with_reducible rfl)
                  simp only [Act.put, List.setIfInBounds_toArray, List.set_cons_zero, List.set_cons_succ]
                  refine tk (i := 5) (v := ?_) (tA rfl) (by kernel_rfl) (fun _ _ _ h => h) (Or.inl ⟨by rfl, ?_⟩) (by assumption) ?_
                  rotate_left
                  · (intro w hSw; (try dsimp only at hSw); go_simp <;> with_reducible rfl)
                  simp only [Act.put, List.setIfInBounds_toArray, List.set_cons_zero, List.set_cons_succ]
                  refine tk (i := 6) (v := ?_) (tA rfl) (by kernel_rfl) (fun _ _ _ h => h) (Or.inl ⟨by rfl, ?_⟩) (by assumption) ?_
                  rotate_left
                  · (intro w hSw; (try dsimp only at hSw); go_simp <;> with_reducible rfl)
                  simp only [Act.put, List.setIfInBounds_toArray, List.set_cons_zero, List.set_cons_succ]
                  refine tk (i := 7) (v := ?_) (tA rfl) (by kernel_rfl) (fun _ _ _ h => h) (Or.inl ⟨by rfl, ?_⟩) (by assumption) ?_
                  rotate_left
                  · (intro w hSw; (try dsimp only at hSw); go_simp <;> with_reducible rfl)
                  simp only [Act.put, List.setIfInBounds_toArray, List.set_cons_zero, List.set_cons_succ]
                  refine tk (i := 8) (v := ?_) (tA rfl) (by kernel_rfl) (fun _ _ _ h => h) (Or.inl ⟨by rfl, ?_⟩) (by assumption) ?_
                  rotate_left
                  · (intro w hSw; (try dsimp only at hSw); go_simp <;> with_reducible rfl)
                  simp only [Act.put, List.setIfInBounds_toArray, List.set_cons_zero, List.set_cons_succ]
                  refine tk (i := 9) (v := ?_) (tA rfl) (by kernel_rfl) (fun _ _ _ h => h) (Or.inl ⟨by rfl, ?_⟩) (by assumption) ?_
                  rotate_left
                  · (intro w hSw; (try dsimp only at hSw); go_simp <;> with_reducible rfl)
                  simp only [Act.put, List.setIfInBounds_toArray, List.set_cons_zero, List.set_cons_succ]
                  refine tk (i := 10) (v := ?_) (tA rfl) (by kernel_rfl) (fun _ _ _ h => h) (Or.inl ⟨by rfl, ?_⟩) (by assumption) ?_
                  rotate_left
                  · (intro w hSw; (try dsimp only at hSw); go_simp <;> with_reducible rfl)
                  simp only [Act.put, List.setIfInBounds_toArray, List.set_cons_zero, List.set_cons_succ]
                  refine tk (i := 11) (v := ?_) (tA rfl) (by kernel_rfl) (fun _ _ _ h => h) (Or.inl ⟨by rfl, ?_⟩) (by assumption) ?_
                  rotate_left
                  · (intro w hSw; (try dsimp only at hSw); go_simp <;> with_reducible rfl)
                  simp only [Act.put, List.setIfInBounds_toArray, List.set_cons_zero, List.set_cons_succ]
                  refine tk (i := 12) (v := ?_) (tA rfl) (by kernel_rfl) (fun _ _ _ h => h) (Or.inl ⟨by rfl, ?_⟩) (by assumption) ?_
                  rotate_left
                  · (intro w hSw; (try dsimp only at hSw); go_simp <;> with_reducible rfl)
                  simp only [Act.put, List.setIfInBounds_toArray, List.set_cons_zero, List.set_cons_succ]
                  refine tk (i := 13) (v := ?_) (tA rfl) (by kernel_rfl) (fun _ _ _ h => h) (Or.inl ⟨by rfl, ?_⟩) (by assumption) ?_
                  rotate_left
                  · (intro w hSw; (try dsimp only at hSw); go_simp <;> with_reducible rfl)
                  simp only [Act.put, List.setIfInBounds_toArray, List.set_cons_zero, List.set_cons_succ]
                  refine tk (i := 14) (v := ?_) (tA rfl) (by kernel_rfl) (fun _ _ _ h => h) (Or.inl ⟨by rfl, ?_⟩) (by assumption) ?_
                  rotate_left
                  · (intro w hSw; (try dsimp only at hSw); go_simp <;> with_reducible rfl)
                  simp only [Act.put, List.setIfInBounds_toArray, List.set_cons_zero, List.set_cons_succ]
                  refine tk (i := 15) (v := ?_) (tA rfl) (by kernel_rfl) (fun _ _ _ h => h) (Or.inl ⟨by rfl, ?_⟩) (by assumption) ?_
                  rotate_left
                  · (intro w hSw; (try dsimp only at hSw); go_simp <;> with_reducible rfl)
                  simp only [Act.put, List.setIfInBounds_toArray, List.set_cons_zero, List.set_cons_succ]
                  refine tk (i := 16) (v := ?_) (tA rfl) (by kernel_rfl) (fun _ _ _ h => h) (Or.inl ⟨by rfl, ?_⟩) (by assumption) ?_
                  rotate_left
                  · (intro w hSw; (try dsimp only at hSw); go_simp <;> with_reducible rfl)
                  simp only [Act.put, List.setIfInBounds_toArray, List.set_cons_zero, List.set_cons_succ]
                  refine tk (i := 17) (v := ?_) (tA rfl) (by kernel_rfl) (fun _ _ _ h => h) (Or.inl ⟨by rfl, ?_⟩) (by assumption) ?_
                  rotate_left
                  · (intro w hSw; (try dsimp only at hSw); go_simp <;> with_reducible rfl)
                  simp only [Act.put, List.setIfInBounds_toArray, List.set_cons_zero, List.set_cons_succ]
                  refine tk (i := 18) (v := ?_) (tA rfl) (by kernel_rfl) (fun _ _ _ h => h) (Or.inl ⟨by rfl, ?_⟩) (by assumption) ?_
                  rotate_left
                  · (intro w hSw; (try dsimp only at hSw); go_simp <;> with_reducible rfl)
                  simp only [Act.put, List.setIfInBounds_toArray, List.set_cons_zero, List.set_cons_succ]
                  refine tk (i := 19) (v := ?_) (tA rfl) (by kernel_rfl) (fun _ _ _ h => h) (Or.inl ⟨by rfl, ?_⟩) (by assumption) ?_
                  rotate_left
                  · (intro w hSw; (try dsimp only at hSw); go_simp <;> with_reducible rfl)
                  simp only [Act.put, List.setIfInBounds_toArray, List.set_cons_zero, List.set_cons_succ]
                  refine tk (i := 20) (v := ?_) (tA rfl) (by kernel_rfl) (fun _ _ _ h => h) (Or.inl ⟨by rfl, ?_⟩) (by assumption) ?_
                  rotate_left
                  · (intro w hSw; (try dsimp only at hSw); go_simp <;> with_reducible rfl)
                  simp only [Act.put, List.setIfInBounds_toArray, List.set_cons_zero, List.set_cons_succ]
                  refine tk (i := 21) (v := ?_) (tA rfl) (by kernel_rfl) (fun _ _ _ h => h) (Or.inl ⟨by rfl, ?_⟩) (by assumption) ?_
                  rotate_left
                  · (intro w hSw; (try dsimp only at hSw); go_simp <;> with_reducible rfl)
                  simp only [Act.put, List.setIfInBounds_toArray, List.set_cons_zero, List.set_cons_succ]
                  refine tk (i := 22) (v := ?_) (tA rfl) (by kernel_rfl) (fun _ _ _ h => h) (Or.inl ⟨by rfl, ?_⟩) (by assumption) ?_
                  rotate_left
                  · (intro w hSw; (try dsimp only at hSw); go_simp <;> with_reducible rfl)
                  simp only [Act.put, List.setIfInBounds_toArray, List.set_cons_zero, List.set_cons_succ]
                  refine tk (i := 23) (v := ?_) (tA rfl) (by kernel_rfl) (fun _ _ _ h => h) (Or.inl ⟨by rfl, ?_⟩) (by assumption) ?_
                  rotate_left
                  · (intro w hSw; (try dsimp only at hSw); go_simp <;> with_reducible rfl)
                  simp only [Act.put, List.setIfInBounds_toArray, List.set_cons_zero, List.set_cons_succ]
                  refine tk (i := 24) (v := ?_) (tA rfl) (by kernel_rfl) (fun _ _ _ h => h) (Or.inl ⟨by rfl, ?_⟩) (by assumption) ?_
                  rotate_left
                  · (intro w hSw; (try dsimp only at hSw); go_simp <;> with_reducible rfl)
                  simp only [Act.put, List.setIfInBounds_toArray, List.set_cons_zero, List.set_cons_succ]
                  refine tk (i := 25) (v := ?_) (tA rfl) (by kernel_rfl) (fun _ _ _ h => h) (Or.inl ⟨by rfl, ?_⟩) (by assumption) ?_
                  rotate_left
                  · (intro w hSw; (try dsimp only at hSw); go_simp <;> with_reducible rfl)
                  simp only [Act.put, List.setIfInBounds_toArray, List.set_cons_zero, List.set_cons_succ]
                  refine tk (i := 26) (v := ?_) (tA rfl) (by kernel_rfl) (fun _ _ _ h => h) (Or.inl ⟨by rfl, ?_⟩) (by assumption) ?_
                  rotate_left
                  · (intro w hSw; (try dsimp only at hSw); go_simp <;> with_reducible rfl)
                  simp only [Act.put, List.setIfInBounds_toArray, List.set_cons_zero, List.set_cons_succ]
                  refine tk (i := 27) (v := ?_) (tA rfl) (by kernel_rfl) (fun _ _ _ h => h) (Or.inl ⟨by rfl, ?_⟩) (by assumption) ?_
                  rotate_left
                  · (intro w hSw; (try dsimp only at hSw); go_simp <;> with_reducible rfl)
                  simp only [Act.put, List.setIfInBounds_toArray, List.set_cons_zero, List.set_cons_succ]
                  refine tk (i := 28) (v := ?_) (tA rfl) (by kernel_rfl) (fun _ _ _ h => h) (Or.inl ⟨by rfl, ?_⟩) (by assumption) ?_
                  rotate_left
                  · (intro w hSw; (try dsimp only at hSw); go_simp <;> with_reducible rfl)
                  simp only [Act.put, List.setIfInBounds_toArray, List.set_cons_zero, List.set_cons_succ]
                  refine tk (i := 29) (v := ?_) (tA rfl) (by kernel_rfl) (fun _ _ _ h => h) (Or.inl ⟨by rfl, ?_⟩) (by assumption) ?_
                  rotate_left
                  · (intro w hSw; (try dsimp only at hSw); go_simp <;> with_reducible rfl)
                  simp only [Act.put, List.setIfInBounds_toArray, List.set_cons_zero, List.set_cons_succ]
                  refine tk (i := 30) (v := ?_) (tA rfl) (by kernel_rfl) (fun _ _ _ h => h) (Or.inl ⟨by rfl, ?_⟩) (by assumption) ?_
                  rotate_left
                  · (intro w hSw; (try dsimp only at hSw); go_simp <;> with_reducible rfl)
                  simp only [Act.put, List.setIfInBounds_toArray, List.set_cons_zero, List.set_cons_succ]
                  refine tk (i := 31) (v := ?_) (tA rfl) (by kernel_rfl) (fun _ _ _ h => h) (Or.inl ⟨by rfl, ?_⟩) (by assumption) ?_
                  rotate_left
                  · (intro w hSw; (try dsimp only at hSw); go_simp <;> with_reducible rfl)
                  simp only [Act.put, List.setIfInBounds_toArray, List.set_cons_zero, List.set_cons_succ]
                  refine wpAnyH_done (by kernel_rfl) ?_ _
                  clear hHeld
                  go_wp2_with fail
                  go_meet
                  exact ⟨by rw [HV], rfl⟩
              obtain ⟨rfl, hwc⟩ := hcut
              subst hwc
              have HBKD : Hid (Below y3.heap.size y3 wr.drew) := HBK.out.drew
              have HBXD : Hid (Below w.heap.size w wr.drew) := (HWB.out _ HY4.out).drew
              cases b1 with
              | true =>
                have HRF := HNO2.out rfl
                subst HRF
                clear HNX2 HNO2
                go_wp2_with fail
                go_ret
                exact ⟨rfl, HBXD.out⟩
              | false =>
              have d4' : wr.drew.cell? ⟨w.heap.size + 1, 0, none⟩ = some (.slice (some ⟨bw, ow, none⟩) lw cw) := by rw [World.cell?_drew]; exact d4
              have ct' : wr.drew.cell? ⟨bw, ow + t.toNat, none⟩ = some (.int .i64 zt) := by rw [World.cell?_drew]; exact ct
              clear HBD1 ck2 ck3 x0 x4 d0 d1 d2 d3 d5
              cases lv with
              | false =>
                have HV : b2v = false := by rw [HBD2.out]; rfl
                subst HV
                have HN : Hid _ := HNX2.out rfl
                clear HNX2 HNO2
                go_wp2_with fail
                go_roundg (no - (k + 1))
                case measure => omega
                case rel => exact ⟨k + 1, rfl, by go_num, by omega, HN, HBKD⟩
              | true =>
              by_cases h2 : t = d
              · have HV : b2v = false := by rw [HBD2.out, decide_eq_false (by simpa using h2)]; rfl
                subst HV
                have e2 : (t != d) = false := by simpa using h2
                have HN : Hid _ := HNX2.out rfl
                clear HNX2 HNO2 h2
                go_wp2_with fail
                go_roundg (no - (k + 1))
                case measure => omega
                case rel => exact ⟨k + 1, rfl, by go_num, by omega, HN, HBKD⟩
              have e2 : (t != d) = true := by simpa using h2
              by_cases h3 : zt < 8
              · have HV : b2v = true := by rw [HBD2.out, decide_eq_true (by simpa using h2), decide_eq_true h3]; rfl
                subst HV
                have HRF := HNO2.out rfl
                subst HRF
                clear HNX2 HNO2 h2
                go_wp2_with fail
                go_ret
                exact ⟨rfl, HBXD.out⟩
              · have HV : b2v = false := by rw [HBD2.out, decide_eq_false h3]; simp
                subst HV
                have HN : Hid _ := HNX2.out rfl
                clear HNX2 HNO2 h2
                go_wp2_with fail
                go_roundg (no - (k + 1))
                case measure => omega
                case rel => exact ⟨k + 1, rfl, by go_num, by omega, HN, HBKD⟩
            · have hkk : ¬ (k : Int) < no := by omega
              have HOKT : Hid (okR = true) := by
                show _ = _
                rw [HOKR.out, HNOL.out]
                exact F.all_range_yes fun q hq => HAK.out q (by omega)
              have HN : Hid _ := HNX.out HOKT.out
              have HBN : Hid (Below W1.heap.size W1 wr) := HB3.out.trans (HBK.out.mono HB3.out.size)
              clear HNX HNO
              go_wp2_with fail
              go_roundg (n - (i + 1))
              case measure => omega
              case rel => exact ⟨i + 1, rfl, by go_num, by omega, HN, HBN⟩
        · have hnn : ¬ (i : Int) < n := by omega
          have hin2 : i = n := by omega
          have HR6 : Hid (R = (List.range (F.ext (F.firsts tab T) P).length).all (F.pairOk ws (F.ext (F.firsts tab T) P))) := by
            show _ = _
            rw [HR5.out, F.all_range_yes (fun k hk => HAL.out k (by omega))]
            rfl
          have HPF : Hid (∀ p, p ≤ T → ∀ z ∈ F.ext (F.firsts tab T) p, 0 ≤ z ∧ z < T) := fun p hp => F.ext_in (F.firsts_in tab T) hp
          have HFIT : Hid (∀ p, p ≤ T → ∀ z ∈ F.ext (F.firsts tab T) p, (Lit.int .i64 z).wf = true) := fun p hp z hz => by
            have h1 := HPF.out p hp z hz
            show (decide (IntKind.i64.min ≤ z) && decide (z ≤ IntKind.i64.max)) = true
            have e1 : IntKind.i64.min = -9223372036854775808 := by decide
            have e2 : IntKind.i64.max = 9223372036854775807 := by decide
            rw [e1, e2, Bool.and_eq_true, decide_eq_true_eq, decide_eq_true_eq]
            omega
          have HELN : Hid (∀ p, (F.ext (F.firsts tab T) p).length ≤ T + p) := fun p => by
            have h1 := F.ext_len (F.firsts tab T) p
            have h2 := F.firsts_len tab T
            omega
          have HR0 : Hid (wr.ownsRow W0.heap.size 3 1 (.slice af nf cf) nf ((F.ext (F.firsts tab T) 0).map iV)) := row_below HFR.out HB1.out
          have HL0 : Hid ((F.ext (F.firsts tab T) 0).length = nf) := HNF
          clear hin2 HAL HR5 d2
          go_wp2_with fail
          clear d0 d1 d3 d4 d5
          go_loopg [6, 16] P (fun g z6 iv wq => ∃ (p : Nat) (a6 : Option Addr) (n6 c6 : Nat), g = P - p ∧ z6 = .slice a6 n6 c6 ∧ iv = .int .i64 p ∧ p ≤ P ∧ Hid (wq.ownsRow W0.heap.size 3 1 (.slice a6 n6 c6) n6 ((F.ext (F.firsts tab T) p).map iV)) ∧ Hid ((F.ext (F.firsts tab T) p).length = n6) ∧ Hid (Below W0.heap.size W0 wq))
          case atStart => exact ⟨0, af, nf, cf, rfl, rfl, rfl, Nat.zero_le _, HR0, HL0, HY2⟩
          case round =>
            obtain ⟨p, a6, n6, c6, rfl, rfl, rfl, hp, HRP, HLP, HBP⟩ := hrel
            obtain ⟨⟨d0, d1, d2, d3⟩, d4, d5⟩ := HD.out wr HBP.out
            by_cases hpP : p < P
            · have hpi : (p : Int) < P := by omega
              have hp0 : 0 ≤ (p : Int) := by omega
              have hhas := rhas_any (num_of_row HRP.out HLP.out (HFIT.out p (by omega))) (p : Int)
              have HEX : Hid (F.ext (F.firsts tab T) (p + 1) = if (p : Int) ∈ F.ext (F.firsts tab T) p then F.ext (F.firsts tab T) p else F.ext (F.firsts tab T) p ++ [(p : Int)]) := rfl
              have hn6 : n6 ≤ 800 := by have := HELN.out p; rw [HLP.out] at this; omega
              by_cases hmem : (p : Int) ∈ F.ext (F.firsts tab T) p
              · rw [decide_eq_true hmem] at hhas
                have HRP2 : Hid (wr.ownsRow W0.heap.size 3 1 (.slice a6 n6 c6) n6 ((F.ext (F.firsts tab T) (p + 1)).map iV)) := by show World.ownsRow _ _ _ _ _ _ _; rw [HEX.out, if_pos hmem]; exact HRP.out
                have HLP2 : Hid ((F.ext (F.firsts tab T) (p + 1)).length = n6) := by show _ = _; rw [HEX.out, if_pos hmem]; exact HLP.out
                clear hmem
                go_wp2_with fail
                refine hhas.mono ?_
                rintro e y ⟨rfl, hy⟩
                rw [hy]
                clear hy hhas
                go_wp2_with fail
                go_roundg (P - (p + 1))
                case measure => omega
                case rel => exact ⟨p + 1, a6, n6, c6, rfl, rfl, by go_num, by omega, HRP2, HLP2, HBP⟩
              · rw [decide_eq_false hmem] at hhas
                have HMEM : Hid (¬ (p : Int) ∈ F.ext (F.firsts tab T) p) := hmem
                have HSZ9 : Hid (W0.heap.size ≤ wr.heap.size) := HBP.out.size
                clear hmem
                go_wp2_with fail
                refine hhas.mono ?_
                rintro e y ⟨rfl, hy⟩
                rw [hy]
                clear hy hhas
                have HN9 : Hid (∀ (j : Nat) u, ([.int .i64 (p : Int)] : List Value)[j]? = some u → (wr.alloc (.cells #[.int .i64 (p : Int)] 3)).cell? ((⟨wr.heap.size, 0, none⟩ : Addr).add j) = some u) := by
                  intro j u hu
                  rw [Addr.add_lit, Nat.zero_add]
                  exact ncell_at (by simpa using hu)
                have HRW9 : Hid ((wr.alloc (.cells #[.int .i64 (p : Int)] 3)).ownsRow W0.heap.size 3 1 (.slice a6 n6 c6) n6 ((F.ext (F.firsts tab T) p).map iV)) := row_below HRP.out (bl1 _ _)
                have HBS9 : Hid (W0.heap.size ≤ (wr.alloc (.cells #[.int .i64 (p : Int)] 3)).heap.size) := by
                  show _ ≤ _
                  rw [World.size_alloc]
                  have := HSZ9.out
                  omega
                go_wp2_with (first | (at_builtin; refine wpList_append_lies _ rfl _ _ 30 rfl W0.heap.size 3 ii _ 1 8 Tryd.underlying30 hiI hz0 hz1 hz2 rfl (by decide) (.slice a6 n6 c6) n6 ((F.ext (F.firsts tab T) p).map iV) rfl HRW9.out _ 1 1 [.int .i64 (p : Int)] rfl rfl HN9.out (by intro u hu; simp at hu; subst hu; rfl) (by decide) (by omega) (by omega) HBS9.out _ rfl ?_) | fail)
                intro g9 c9 w9 ho9 hg9 hat9 hlt9
                have HB9 : Hid (Below W0.heap.size W0 w9) := (HBP.out.trans ((bl1 wr _).mono HBP.out.size)).trans (grown_below hg9 (B := W0.heap.size) (fun g e => (HRP.out.lt g e).1) HBS9.out)
                have HRP2 : Hid (w9.ownsRow W0.heap.size 3 1 (.slice (some ⟨g9, 0, none⟩) (n6 + 1) c9) (n6 + 1) ((F.ext (F.firsts tab T) (p + 1)).map iV)) := by
                  show World.ownsRow _ _ _ _ _ _ _
                  rw [HEX.out, if_neg HMEM.out, List.map_append]
                  exact ho9
                have HLP2 : Hid ((F.ext (F.firsts tab T) (p + 1)).length = n6 + 1) := by
                  show _ = _
                  rw [HEX.out, if_neg HMEM.out, List.length_append, HLP.out]
                  rfl
                clear ho9 hg9 hat9 hlt9 HN9 HRW9 HBS9
                go_wp2_with fail
                go_roundg (P - (p + 1))
                case measure => omega
                case rel => exact ⟨p + 1, some ⟨g9, 0, none⟩, n6 + 1, c9, rfl, rfl, by go_num, by omega, HRP2, HLP2, HB9⟩
            · have hpn : ¬ (p : Int) < P := by omega
              have hpp : p = P := by omega
              rw [hpp] at HRP HLP
              obtain ⟨L, hL⟩ : ∃ L, F.ext (F.firsts tab T) P = L := ⟨_, rfl⟩
              have HLIN : Hid (∀ z ∈ L, 0 ≤ z ∧ z < T) := by show ∀ z ∈ L, _; rw [← hL]; exact HPF.out P hPT
              have HLF : Hid (∀ z ∈ L, (Lit.int .i64 z).wf = true) := by show ∀ z ∈ L, _; rw [← hL]; exact HFIT.out P hPT
              rw [hL] at HRP HLP HR6
              have HNVL : Hid (NumV wr a6 n6 c6 L) := num_of_row HRP.out HLP.out HLF.out
              have hn6 := HNVL.out.room
              clear hpp hL HPF HFIT HELN
              obtain ⟨W7, hW7⟩ : ∃ q, q = wr := ⟨_, rfl⟩
              subst hW7
              go_wp2_with fail
              clear d0 d1 d2 d3 d4 d5
              go_loopg [17, 18] n6 (fun g iv z18 wq => ∃ (i : Nat), g = n6 - i ∧ iv = .int .i64 i ∧ i ≤ n6 ∧ Hid (∀ q, q < i → F.pairOk ws L q = true) ∧ Hid (Below W7.heap.size W7 wq))
              case atStart => exact ⟨0, rfl, rfl, Nat.zero_le _, (fun q hq => by omega : ∀ q, q < 0 → F.pairOk ws L q = true), Below.refl _ _⟩
              case round =>
                obtain ⟨i, rfl, rfl, hi, HAI, HBI⟩ := hrel
                by_cases hin6 : i < n6
                · have hii : (i : Int) < n6 := by omega
                  have hi0 : 0 ≤ (i : Int) := by omega
                  have HNOP : Hid (F.pairOk ws L i = false → R = false) := fun e => by rw [HR6.out, HLP.out]; exact F.all_range_no hin6 e
                  have HNXP : Hid (F.pairOk ws L i = true → ∀ q, q < i + 1 → F.pairOk ws L q = true) := fun e q hq => by
                    by_cases e2 : q = i
                    · subst e2; exact e
                    · exact HAI.out q (by omega)
                  have HPO : Hid (F.pairOk ws L i = (List.range i).all fun k => !decide (F.wAt ws (L.getD i 0) = F.wAt ws (L.getD k 0))) := rfl
                  have HLI : Hid (0 ≤ L.getD i 0 ∧ L.getD i 0 < T) := F.getD_in (P := fun x => 0 ≤ x ∧ x < T) HLIN.out (by rw [HLP.out]; exact hin6)
                  obtain ⟨W8, hW8⟩ : ∃ q, q = wr := ⟨_, rfl⟩
                  subst hW8
                  go_wp2_with fail
                  go_loopg [18] i (fun g iv wq => ∃ (k : Nat), g = i - k ∧ iv = .int .i64 k ∧ k ≤ i ∧ Hid (∀ q, q < k → (!decide (F.wAt ws (L.getD i 0) = F.wAt ws (L.getD q 0))) = true) ∧ Hid (Below W8.heap.size W8 wq))
                  case atStart => exact ⟨0, rfl, rfl, Nat.zero_le _, (fun q hq => by omega : ∀ q, q < 0 → (!decide (F.wAt ws (L.getD i 0) = F.wAt ws (L.getD q 0))) = true), Below.refl _ _⟩
                  case round =>
                    obtain ⟨k, rfl, rfl, hk, HAK, HBK⟩ := hrel
                    have HB7 : Hid (Below W7.heap.size W7 wr) := HBI.out.trans (HBK.out.mono HBI.out.size)
                    have HBZ : Hid (Below W0.heap.size W0 wr) := HBP.out.trans (HB7.out.mono HBP.out.size)
                    by_cases hki6 : k < i
                    · have hki : (k : Int) < i := by omega
                      have hk0 : 0 ≤ (k : Int) := by omega
                      have hkn6 : (k : Int) < n6 := by omega
                      have HLK : Hid (0 ≤ L.getD k 0 ∧ L.getD k 0 < T) := F.getD_in (P := fun x => 0 ≤ x ∧ x < T) HLIN.out (by rw [HLP.out]; omega)
                      obtain ⟨b6, o6, hab6, ci6⟩ := (HNVL.out.below HB7.out).at hin6
                      obtain ⟨b6', o6', hab6', ck6⟩ := (HNVL.out.below HB7.out).at (i := k) (by omega)
                      subst hab6
                      cases hab6'
                      obtain ⟨-, d4, -⟩ := HD.out wr HBZ.out
                      obtain ⟨bw, ow, habw, cwi⟩ := (HW.out.below (HWB.out _ HBZ.out)).w (t := L.getD i 0) HLI.out.1 (by rw [HLW.out]; exact HLI.out.2)
                      obtain ⟨bw', ow', habw', cwk⟩ := (HW.out.below (HWB.out _ HBZ.out)).w (t := L.getD k 0) HLK.out.1 (by rw [HLW.out]; exact HLK.out.2)
                      subst habw
                      cases habw'
                      have HNK : Hid ((!decide (F.wAt ws (L.getD i 0) = F.wAt ws (L.getD k 0))) = true → ∀ q, q < k + 1 → (!decide (F.wAt ws (L.getD i 0) = F.wAt ws (L.getD q 0))) = true) := fun e q hq => by
                        by_cases e2 : q = k
                        · subst e2; exact e
                        · exact HAK.out q (by omega)
                      have HBADK : Hid ((!decide (F.wAt ws (L.getD i 0) = F.wAt ws (L.getD k 0))) = false → R = false) := fun e => HNOP.out (by rw [HPO.out]; exact F.all_range_no hki6 e)
                      have hti0 := HLI.out.1
                      have htil : L.getD i 0 < (lw : Int) := by rw [HLW.out]; exact HLI.out.2
                      have htk0 := HLK.out.1
                      have htkl : L.getD k 0 < (lw : Int) := by rw [HLW.out]; exact HLK.out.2
                      obtain ⟨vi, hvi⟩ : ∃ v, F.wAt ws (L.getD i 0) = v := ⟨_, rfl⟩
                      obtain ⟨vk, hvk⟩ : ∃ v, F.wAt ws (L.getD k 0) = v := ⟨_, rfl⟩
                      obtain ⟨ti, hti⟩ : ∃ v, L.getD i 0 = v := ⟨_, rfl⟩
                      obtain ⟨tk9, htk⟩ : ∃ v, L.getD k 0 = v := ⟨_, rfl⟩
                      rw [hvi, hvk] at HBADK
                      have HNK2 : Hid ((!decide (vi = vk)) = true → ∀ q, q < k + 1 → (!decide (F.wAt ws (L.getD i 0) = F.wAt ws (L.getD q 0))) = true) := by rw [← hvi, ← hvk]; exact HNK
                      rw [hvi] at cwi
                      rw [hvk] at cwk
                      rw [hti] at ci6 cwi hti0 htil
                      rw [htk] at ck6 cwk htk0 htkl
                      have HS : Hid (wr.drew.cell? ⟨w.heap.size + 1, 0, none⟩ = some (.slice (some ⟨bw, ow, none⟩) lw cw) ∧ (wr.drew.cell? ⟨b6, o6 + i, none⟩ = some (.int .i64 ti) ∧ wr.drew.cell? ⟨b6, o6 + k, none⟩ = some (.int .i64 tk9)) ∧ wr.drew.cell? ⟨bw, ow + ti.toNat, none⟩ = some (.int .i64 vi) ∧ wr.drew.cell? ⟨bw, ow + tk9.toNat, none⟩ = some (.int .i64 vk)) := by
                        simp only [World.cell?_drew]
                        exact ⟨d4, ⟨ci6, ck6⟩, cwi, cwk⟩
                      have HBKD : Hid (Below W8.heap.size W8 wr.drew) := HBK.out.drew
                      have HBXD : Hid (Below w.heap.size w wr.drew) := (HWB.out _ HBZ.out).drew
                      clear hvi hvk hti htk ci6 ck6 cwi cwk d4 HNK
                      by_cases hvv : vi = vk
                      · have HRF := HBADK.out (by rw [decide_eq_true hvv]; rfl)
                        subst HRF
                        have ev : (vi == vk) = true := by simpa using hvv
                        clear hvv HBADK HNK2
                        go_wp2_with fail
                        refine wp_region_held_drew (S := (fun w' : World => w'.cell? ⟨w.heap.size + 1, 0, none⟩ = some (.slice (some ⟨bw, ow, none⟩) lw cw) ∧ (w'.cell? ⟨b6, o6 + i, none⟩ = some (.int .i64 ti) ∧ w'.cell? ⟨b6, o6 + k, none⟩ = some (.int .i64 tk9)) ∧ w'.cell? ⟨bw, ow + ti.toNat, none⟩ = some (.int .i64 vi) ∧ w'.cell? ⟨bw, ow + tk9.toNat, none⟩ = some (.int .i64 vk))) (by kernel_rfl) HS.out (fun hHeld => ?_)
                        refine tk (i := 0) (v := ?_) (tA rfl) (by kernel_rfl) (fun _ _ _ h => h) (Or.inl ⟨by rfl, ?_⟩) (by assumption) ?_
                        rotate_left
                        · (intro w hSw; (try dsimp only at hSw); go_simp <;> with_reducible rfl)
                        simp only [Act.put, List.setIfInBounds_toArray, List.set_cons_zero, List.set_cons_succ]
                        refine tk (i := 1) (v := ?_) (tA rfl) (by kernel_rfl) (fun _ _ _ h => h) (Or.inl ⟨by rfl, ?_⟩) (by assumption) ?_
                        rotate_left
                        · (intro w hSw; (try dsimp only at hSw); go_simp <;> with_reducible rfl)
                        simp only [Act.put, List.setIfInBounds_toArray, List.set_cons_zero, List.set_cons_succ]
                        refine tk (i := 2) (v := ?_) (tA rfl) (by kernel_rfl) (fun _ _ _ h => h) (Or.inl ⟨by rfl, ?_⟩) (by assumption) ?_
                        rotate_left
                        · (intro w hSw; (try dsimp only at hSw); go_simp <;> with_reducible rfl)
                        simp only [Act.put, List.setIfInBounds_toArray, List.set_cons_zero, List.set_cons_succ]
                        refine tk (i := 3) (v := ?_) (tA rfl) (by kernel_rfl) (fun _ _ _ h => h) (Or.inl ⟨by rfl, ?_⟩) (by assumption) ?_
                        rotate_left
                        · (intro w hSw; (try dsimp only at hSw); go_simp <;> with_reducible rfl)
                        simp only [Act.put, List.setIfInBounds_toArray, List.set_cons_zero, List.set_cons_succ]
                        refine tk (i := 4) (v := ?_) (tA rfl) (by kernel_rfl) (fun _ _ _ h => h) (Or.inl ⟨by rfl, ?_⟩) (by assumption) ?_
                        rotate_left
                        · (intro w hSw; (try dsimp only at hSw); go_simp <;> with_reducible rfl)
                        simp only [Act.put, List.setIfInBounds_toArray, List.set_cons_zero, List.set_cons_succ]
                        refine tk (i := 5) (v := ?_) (tA rfl) (by kernel_rfl) (fun _ _ _ h => h) (Or.inl ⟨by rfl, ?_⟩) (by assumption) ?_
                        rotate_left
                        · (intro w hSw; (try dsimp only at hSw); go_simp <;> with_reducible rfl)
                        simp only [Act.put, List.setIfInBounds_toArray, List.set_cons_zero, List.set_cons_succ]
                        refine tk (i := 6) (v := ?_) (tA rfl) (by kernel_rfl) (fun _ _ _ h => h) (Or.inl ⟨by rfl, ?_⟩) (by assumption) ?_
                        rotate_left
                        · (intro w hSw; (try dsimp only at hSw); go_simp <;> with_reducible rfl)
                        simp only [Act.put, List.setIfInBounds_toArray, List.set_cons_zero, List.set_cons_succ]
                        refine tk (i := 7) (v := ?_) (tA rfl) (by kernel_rfl) (fun _ _ _ h => h) (Or.inl ⟨by rfl, ?_⟩) (by assumption) ?_
                        rotate_left
                        · (intro w hSw; (try dsimp only at hSw); go_simp <;> with_reducible rfl)
                        simp only [Act.put, List.setIfInBounds_toArray, List.set_cons_zero, List.set_cons_succ]
                        refine tk (i := 8) (v := ?_) (tA rfl) (by kernel_rfl) (fun _ _ _ h => h) (Or.inl ⟨by rfl, ?_⟩) (by assumption) ?_
                        rotate_left
                        · (intro w hSw; (try dsimp only at hSw); go_simp <;> with_reducible rfl)
                        simp only [Act.put, List.setIfInBounds_toArray, List.set_cons_zero, List.set_cons_succ]
                        refine tk (i := 9) (v := ?_) (tA rfl) (by kernel_rfl) (fun _ _ _ h => h) (Or.inl ⟨by rfl, ?_⟩) (by assumption) ?_
                        rotate_left
                        · (intro w hSw; (try dsimp only at hSw); go_simp <;> with_reducible rfl)
                        simp only [Act.put, List.setIfInBounds_toArray, List.set_cons_zero, List.set_cons_succ]
                        refine tk (i := 10) (v := ?_) (tA rfl) (by kernel_rfl) (fun _ _ _ h => h) (Or.inl ⟨by rfl, ?_⟩) (by assumption) ?_
                        rotate_left
                        · (intro w hSw; (try dsimp only at hSw); go_simp <;> with_reducible rfl)
                        simp only [Act.put, List.setIfInBounds_toArray, List.set_cons_zero, List.set_cons_succ]
                        refine tk (i := 11) (v := ?_) (tA rfl) (by kernel_rfl) (fun _ _ _ h => h) (Or.inl ⟨by rfl, ?_⟩) (by assumption) ?_
                        rotate_left
                        · (intro w hSw; (try dsimp only at hSw); go_simp <;> with_reducible rfl)
                        simp only [Act.put, List.setIfInBounds_toArray, List.set_cons_zero, List.set_cons_succ]
                        refine tk (i := 12) (v := ?_) (tA rfl) (by kernel_rfl) (fun _ _ _ h => h) (Or.inl ⟨by rfl, ?_⟩) (by assumption) ?_
                        rotate_left
                        · (intro w hSw; (try dsimp only at hSw); go_simp <;> with_reducible rfl)
                        simp only [Act.put, List.setIfInBounds_toArray, List.set_cons_zero, List.set_cons_succ]
                        refine tk (i := 13) (v := ?_) (tA rfl) (by kernel_rfl) (fun _ _ _ h => h) (Or.inl ⟨by rfl, ?_⟩) (by assumption) ?_
                        rotate_left
                        · (intro w hSw; (try dsimp only at hSw); go_simp <;> with_reducible rfl)
                        simp only [Act.put, List.setIfInBounds_toArray, List.set_cons_zero, List.set_cons_succ]
                        refine tk (i := 14) (v := ?_) (tA rfl) (by kernel_rfl) (fun _ _ _ h => h) (Or.inl ⟨by rfl, ?_⟩) (by assumption) ?_
                        rotate_left
                        · (intro w hSw; (try dsimp only at hSw); go_simp <;> with_reducible rfl)
                        simp only [Act.put, List.setIfInBounds_toArray, List.set_cons_zero, List.set_cons_succ]
                        refine tk (i := 15) (v := ?_) (tA rfl) (by kernel_rfl) (fun _ _ _ h => h) (Or.inl ⟨by rfl, ?_⟩) (by assumption) ?_
                        rotate_left
                        · (intro w hSw; (try dsimp only at hSw); go_simp <;> with_reducible rfl)
                        simp only [Act.put, List.setIfInBounds_toArray, List.set_cons_zero, List.set_cons_succ]
                        refine tk (i := 16) (v := ?_) (tA rfl) (by kernel_rfl) (fun _ _ _ h => h) (Or.inl ⟨by rfl, ?_⟩) (by assumption) ?_
                        rotate_left
                        · (intro w hSw; (try dsimp only at hSw); go_simp <;> with_reducible rfl)
                        simp only [Act.put, List.setIfInBounds_toArray, List.set_cons_zero, List.set_cons_succ]
                        refine wpAnyH_done (by kernel_rfl) ?_ _
                        clear hHeld
                        go_wp2_with fail
                        go_ret
                        exact ⟨rfl, HBXD.out⟩
                      · have HN : Hid _ := HNK2.out (by rw [decide_eq_false hvv]; rfl)
                        have ev : (vi == vk) = false := by simpa using hvv
                        clear hvv HBADK HNK2
                        go_wp2_with fail
                        refine wp_region_held_drew (S := (fun w' : World => w'.cell? ⟨w.heap.size + 1, 0, none⟩ = some (.slice (some ⟨bw, ow, none⟩) lw cw) ∧ (w'.cell? ⟨b6, o6 + i, none⟩ = some (.int .i64 ti) ∧ w'.cell? ⟨b6, o6 + k, none⟩ = some (.int .i64 tk9)) ∧ w'.cell? ⟨bw, ow + ti.toNat, none⟩ = some (.int .i64 vi) ∧ w'.cell? ⟨bw, ow + tk9.toNat, none⟩ = some (.int .i64 vk))) (by kernel_rfl) HS.out (fun hHeld => ?_)
                        refine tk (i := 0) (v := ?_) (tA rfl) (by kernel_rfl) (fun _ _ _ h => h) (Or.inl ⟨by rfl, ?_⟩) (by assumption) ?_
                        rotate_left
                        · (intro w hSw; (try dsimp only at hSw); go_simp <;> with_reducible rfl)
                        simp only [Act.put, List.setIfInBounds_toArray, List.set_cons_zero, List.set_cons_succ]
                        refine tk (i := 1) (v := ?_) (tA rfl) (by kernel_rfl) (fun _ _ _ h => h) (Or.inl ⟨by rfl, ?_⟩) (by assumption) ?_
                        rotate_left
                        · (intro w hSw; (try dsimp only at hSw); go_simp <;> with_reducible rfl)
                        simp only [Act.put, List.setIfInBounds_toArray, List.set_cons_zero, List.set_cons_succ]
                        refine tk (i := 2) (v := ?_) (tA rfl) (by kernel_rfl) (fun _ _ _ h => h) (Or.inl ⟨by rfl, ?_⟩) (by assumption) ?_
                        rotate_left
                        · (intro w hSw; (try dsimp only at hSw); go_simp <;> with_reducible rfl)
                        simp only [Act.put, List.setIfInBounds_toArray, List.set_cons_zero, List.set_cons_succ]
                        refine tk (i := 3) (v := ?_) (tA rfl) (by kernel_rfl) (fun _ _ _ h => h) (Or.inl ⟨by rfl, ?_⟩) (by assumption) ?_
                        rotate_left
                        · (intro w hSw; (try dsimp only at hSw); go_simp <;> with_reducible rfl)
                        simp only [Act.put, List.setIfInBounds_toArray, List.set_cons_zero, List.set_cons_succ]
                        refine tk (i := 4) (v := ?_) (tA rfl) (by kernel_rfl) (fun _ _ _ h => h) (Or.inl ⟨by rfl, ?_⟩) (by assumption) ?_
                        rotate_left
                        · (intro w hSw; (try dsimp only at hSw); go_simp <;> with_reducible rfl)
                        simp only [Act.put, List.setIfInBounds_toArray, List.set_cons_zero, List.set_cons_succ]
                        refine tk (i := 5) (v := ?_) (tA rfl) (by kernel_rfl) (fun _ _ _ h => h) (Or.inl ⟨by rfl, ?_⟩) (by assumption) ?_
                        rotate_left
                        · (intro w hSw; (try dsimp only at hSw); go_simp <;> with_reducible rfl)
                        simp only [Act.put, List.setIfInBounds_toArray, List.set_cons_zero, List.set_cons_succ]
                        refine tk (i := 6) (v := ?_) (tA rfl) (by kernel_rfl) (fun _ _ _ h => h) (Or.inl ⟨by rfl, ?_⟩) (by assumption) ?_
                        rotate_left
                        · (intro w hSw; (try dsimp only at hSw); go_simp <;> with_reducible rfl)
                        simp only [Act.put, List.setIfInBounds_toArray, List.set_cons_zero, List.set_cons_succ]
                        refine tk (i := 7) (v := ?_) (tA rfl) (by kernel_rfl) (fun _ _ _ h => h) (Or.inl ⟨by rfl, ?_⟩) (by assumption) ?_
                        rotate_left
                        · (intro w hSw; (try dsimp only at hSw); go_simp <;> with_reducible rfl)
                        simp only [Act.put, List.setIfInBounds_toArray, List.set_cons_zero, List.set_cons_succ]
                        refine tk (i := 8) (v := ?_) (tA rfl) (by kernel_rfl) (fun _ _ _ h => h) (Or.inl ⟨by rfl, ?_⟩) (by assumption) ?_
                        rotate_left
                        · (intro w hSw; (try dsimp only at hSw); go_simp <;> with_reducible rfl)
                        simp only [Act.put, List.setIfInBounds_toArray, List.set_cons_zero, List.set_cons_succ]
                        refine tk (i := 9) (v := ?_) (tA rfl) (by kernel_rfl) (fun _ _ _ h => h) (Or.inl ⟨by rfl, ?_⟩) (by assumption) ?_
                        rotate_left
                        · (intro w hSw; (try dsimp only at hSw); go_simp <;> with_reducible rfl)
                        simp only [Act.put, List.setIfInBounds_toArray, List.set_cons_zero, List.set_cons_succ]
                        refine tk (i := 10) (v := ?_) (tA rfl) (by kernel_rfl) (fun _ _ _ h => h) (Or.inl ⟨by rfl, ?_⟩) (by assumption) ?_
                        rotate_left
                        · (intro w hSw; (try dsimp only at hSw); go_simp <;> with_reducible rfl)
                        simp only [Act.put, List.setIfInBounds_toArray, List.set_cons_zero, List.set_cons_succ]
                        refine tk (i := 11) (v := ?_) (tA rfl) (by kernel_rfl) (fun _ _ _ h => h) (Or.inl ⟨by rfl, ?_⟩) (by assumption) ?_
                        rotate_left
                        · (intro w hSw; (try dsimp only at hSw); go_simp <;> with_reducible rfl)
                        simp only [Act.put, List.setIfInBounds_toArray, List.set_cons_zero, List.set_cons_succ]
                        refine tk (i := 12) (v := ?_) (tA rfl) (by kernel_rfl) (fun _ _ _ h => h) (Or.inl ⟨by rfl, ?_⟩) (by assumption) ?_
                        rotate_left
                        · (intro w hSw; (try dsimp only at hSw); go_simp <;> with_reducible rfl)
                        simp only [Act.put, List.setIfInBounds_toArray, List.set_cons_zero, List.set_cons_succ]
                        refine tk (i := 13) (v := ?_) (tA rfl) (by kernel_rfl) (fun _ _ _ h => h) (Or.inl ⟨by rfl, ?_⟩) (by assumption) ?_
                        rotate_left
                        · (intro w hSw; (try dsimp only at hSw); go_simp <;> with_reducible rfl)
                        simp only [Act.put, List.setIfInBounds_toArray, List.set_cons_zero, List.set_cons_succ]
                        refine tk (i := 14) (v := ?_) (tA rfl) (by kernel_rfl) (fun _ _ _ h => h) (Or.inl ⟨by rfl, ?_⟩) (by assumption) ?_
                        rotate_left
                        · (intro w hSw; (try dsimp only at hSw); go_simp <;> with_reducible rfl)
                        simp only [Act.put, List.setIfInBounds_toArray, List.set_cons_zero, List.set_cons_succ]
                        refine tk (i := 15) (v := ?_) (tA rfl) (by kernel_rfl) (fun _ _ _ h => h) (Or.inl ⟨by rfl, ?_⟩) (by assumption) ?_
                        rotate_left
                        · (intro w hSw; (try dsimp only at hSw); go_simp <;> with_reducible rfl)
                        simp only [Act.put, List.setIfInBounds_toArray, List.set_cons_zero, List.set_cons_succ]
                        refine tk (i := 16) (v := ?_) (tA rfl) (by kernel_rfl) (fun _ _ _ h => h) (Or.inl ⟨by rfl, ?_⟩) (by assumption) ?_
                        rotate_left
                        · (intro w hSw; (try dsimp only at hSw); go_simp <;> with_reducible rfl)
                        simp only [Act.put, List.setIfInBounds_toArray, List.set_cons_zero, List.set_cons_succ]
                        refine wpAnyH_done (by kernel_rfl) ?_ _
                        clear hHeld
                        go_wp2_with fail
                        go_roundg (i - (k + 1))
                        case measure => omega
                        case rel => exact ⟨k + 1, rfl, by go_num, by omega, HN, HBKD⟩
                    · have hkk : ¬ (k : Int) < i := by omega
                      have HPT : Hid (F.pairOk ws L i = true) := by
                        show _ = _
                        rw [HPO.out]
                        exact F.all_range_yes fun q hq => HAK.out q (by omega)
                      have HN : Hid _ := HNXP.out HPT.out
                      go_wp2_with fail
                      go_roundg (n6 - (i + 1))
                      case measure => omega
                      case rel => exact ⟨i + 1, rfl, by go_num, by omega, HN, HB7⟩
                · have hnn6 : ¬ (i : Int) < n6 := by omega
                  have HRT : R = true := by
                    rw [HR6.out, HLP.out]
                    exact F.all_range_yes fun q hq => HAI.out q (by omega)
                  subst HRT
                  have HBXE : Hid (Below w.heap.size w wr) := HWB.out _ (HBP.out.trans (HBI.out.mono HBP.out.size))
                  go_wp2_with fail
                  go_ret
                  exact ⟨rfl, HBXE.out⟩
end Go.Proofs.YtljgpngbkmembaaDoor
