/- Operations that were done one by one have their one order. -/
import Derived.Test.YtafdjmccgijmnaaHiPend
import Derived.Test.YtafdjmccgijmnaaHiAloneM
import Derived.Test.YtafdjmccgijmnaaAtRefDoS
namespace Go.Proofs.Ytafdjmccgijmnaa
open Go.RowKit A Go.Maps
set_option linter.unusedVariables false
set_option linter.unusedSimpArgs false
theorem flat_set {al : List H.Ac} {q : Nat} {z : Int} (hq : q < al.length) : (al.flatMap H.Ac.cs).set (q * 7 + 6) (.int .i64 z) = (al.set q { al.getD q H.noAc with ans := z }).flatMap H.Ac.cs := by
  apply List.ext_getElem?
  intro p
  have hl1 : (al.flatMap H.Ac.cs).length = al.length * 7 := A.flat_len' (m := 7) (fun _ => rfl) al
  have hl2 : ((al.set q { al.getD q H.noAc with ans := z }).flatMap H.Ac.cs).length = al.length * 7 := by rw [A.flat_len' (m := 7) (fun _ => rfl), List.length_set]
  by_cases hp : p < al.length * 7
  · obtain ⟨i, j, hij, hj⟩ : ∃ i j, p = i * 7 + j ∧ j < 7 := ⟨p / 7, p % 7, by omega, Nat.mod_lt _ (by decide)⟩
    have hi : i < al.length := by omega
    subst hij
    rw [A.flat_at H.Ac.cs 7 H.noAc (fun _ => rfl) _ _ _ (by rw [List.length_set]; exact hi) hj, set_at _ _ _ _ (by omega), A.flat_at H.Ac.cs 7 H.noAc (fun _ => rfl) _ _ _ hi hj]
    by_cases e : i = q
    · subst e
      rw [A.getD_set_eq _ _ _ hi]
      rcases (show j = 0 ∨ j = 1 ∨ j = 2 ∨ j = 3 ∨ j = 4 ∨ j = 5 ∨ j = 6 by omega) with rfl | rfl | rfl | rfl | rfl | rfl | rfl
      all_goals first | (rw [if_neg (by omega)]; rfl) | (rw [if_pos rfl]; rfl)
    · rw [A.getD_set_ne _ _ _ (fun e' => e e'.symm), if_neg (by omega)]
  · rw [List.getElem?_eq_none (by rw [List.length_set]; omega), List.getElem?_eq_none (by omega)]
/-- The objects now, wherever all but the row of acts is as it was. -/
def NowV (W : World) (v : Value) (a : Option Addr) (l c : Nat) (os : List At) : Prop := ∀ W' : World, (∀ b o u, v.ownBlock ≠ some b → W.cell? ⟨b, o, none⟩ = some u → W'.cell? ⟨b, o, none⟩ = some u) → AtsV W' a l c os
theorem NowV.below {W y : World} {v : Value} {a : Option Addr} {l c : Nat} {os : List At} (h : NowV W v a l c os) (hb : Below W.heap.size W y) : NowV y v a l c os := fun W' hk => h W' fun b o u hv hc => hk b o u hv (hcell_thru hb hc)
theorem NowV.now {W : World} {v : Value} {a : Option Addr} {l c : Nat} {os : List At} (h : NowV W v a l c os) : AtsV W a l c os := h W fun _ _ _ _ hc => hc
set_option maxRecDepth 100000 in
set_option maxHeartbeats 16000000 in
theorem alone_any {w : World} {a aa : Option Addr} {lo c l cc : Nat} {os : List At} {ts : List H.Ac} (hO : AtsV w a lo c os) (hA : ActsV w aa l cc ts) (hf : ∀ r ∈ ts, AcFit r) (wh : Int) (hwh : (Lit.int .i64 wh).wf = true) :
    Calls Try.prog 5 #[.slice a lo c, .slice aa l cc, .int .i64 wh] w fun e w' => e = .returned (.bool true) ∧ Below w.heap.size w w' := by
  have HO : Hid (AtsV w a lo c os) := hO
  have HA : Hid (ActsV w aa l cc ts) := hA
  have HTC : Hid (ts.length = l) := hA.count
  have HOC : Hid (os.length = lo) := hO.count
  have HARG : Hid (∀ r ∈ ts, (Lit.int .i64 r.arg).wf = true) := fun r hr => (hf r hr).2.2.2.1
  have hmx := hA.room
  have hmax : maxLen = 9223372036854775807 := rfl
  have HL : Hid (∀ W, Calls Try.prog 9 #[] W fun e w' => e = .returned (.bool true) ∧ Below W.heap.size W w') := fun W => live_any W
  obtain ⟨i7, hi7, hz70, hz71, hz72⟩ := hinfo infoAct
  have hmay := rmay_any hO
  have HWH : Hid ((Lit.int .i64 wh).wf = true) := hwh
  clear hO hA hf hwh
  have hfew := few_any (w := w) (a := a) (aa := aa) (lo := lo) (c := c) (l := l) (cc := cc)
  by_cases hsm : lo ≤ 10 ∧ l ≤ 12
  rotate_left
  · have e1 : (decide (lo ≤ 10) && decide (l ≤ 12)) = false := by
      rw [Bool.and_eq_false_iff, decide_eq_false_iff_not, decide_eq_false_iff_not]
      omega
    rw [e1] at hfew
    clear hsm e1 hmay
    go_enter Try.func5, Try.ntmps5
    go_wp2_with fail
    refine hfew.mono ?_
    rintro e y ⟨rfl, hy⟩
    rw [hy]
    clear hy hfew
    go_wp2_with fail
    refine (HL.out _).mono ?_
    rintro e y ⟨rfl, hy⟩
    have HY : Hid (Below w.heap.size w y) := hy
    clear hy
    go_wp2_with fail
    go_ret
    exact ⟨rfl, HY.out⟩
  rw [decide_eq_true hsm.1, decide_eq_true hsm.2] at hfew
  have hl12 : l ≤ 12 := hsm.2
  have hlo10 : lo ≤ 10 := hsm.1
  clear hsm
  cases hm : mayAll os with
  | false =>
    rw [hm] at hmay
    clear hm
    go_enter Try.func5, Try.ntmps5
    go_wp2_with fail
    refine hfew.mono ?_
    rintro e y ⟨rfl, hy⟩
    rw [hy]
    clear hy hfew
    go_wp2_with fail
    refine hmay.mono ?_
    rintro e y ⟨rfl, hy⟩
    have HY : Hid (Below w.heap.size w y) := hy
    clear hy hmay
    go_wp2_with fail
    refine (HL.out _).mono ?_
    rintro e y2 ⟨rfl, hy2⟩
    have HY2 : Hid (Below w.heap.size w y2) := HY.out.trans (hy2.mono HY.out.size)
    clear hy2
    go_wp2_with fail
    go_ret
    exact ⟨rfl, HY2.out⟩
  | true =>
    rw [hm] at hmay
    have HM : Hid (mayAll os = true) := hm
    clear hm
    go_enter Try.func5, Try.ntmps5
    go_wp2_with fail
    refine hfew.mono ?_
    rintro e y ⟨rfl, hy⟩
    rw [hy]
    clear hy hfew
    go_wp2_with fail
    refine hmay.mono ?_
    rintro e y0 ⟨rfl, hy⟩
    have HY0 : Hid (Below w.heap.size w y0) := hy
    have HN0 : Hid (NowV y0 (.slice none 0 0) a lo c os) := fun W' hk => (HO.out.below hy).agr fun b o u hc => hk b o u (by simp [Value.ownBlock]) hc
    clear hy hmay
    go_wp2_with fail
    go_loopg [7, 8, 9, 10, 11, 12, 13] l (fun r v7 v8 iv z10 z11 z12 z13 wq => ∃ (k : Nat) (an : Option Addr) (cn : Nat) (ma : Option Addr) (mc : Nat), r = l - k ∧ iv = .int .i64 k ∧ k ≤ l ∧ v7 = .slice an lo cn ∧ v8 = .slice ma (H.alone os ts k).2.length mc ∧ Hid (wq.ownsRow y0.heap.size 42 7 (.slice ma (H.alone os ts k).2.length mc) (H.alone os ts k).2.length ((H.alone os ts k).2.flatMap H.Ac.cs)) ∧ Hid (NowV wq (.slice ma (H.alone os ts k).2.length mc) an lo cn (H.alone os ts k).1) ∧ Hid (Below y0.heap.size y0 wq))
    case atStart => exact ⟨0, a, c, none, 0, rfl, rfl, Nat.zero_le _, rfl, rfl, World.ownsRow_nil _ _ _ _, HN0.out, Below.refl _ _⟩
    case round =>
      obtain ⟨k, an, cn, ma, mc, rfl, rfl, hk, rfl, rfl, HR, HN, HB⟩ := hrel
      have HAI : Hid (H.AI os ts k (H.alone os ts k)) := H.alone_ai os ts k
      have HBW : Hid (Below w.heap.size w wr) := HY0.out.trans (HB.out.mono HY0.out.size)
      by_cases hlt : k < l
      · have hii : (k : Int) < l := by omega
        have hin : 0 ≤ (k : Int) := by omega
        obtain ⟨b, off, rfl, c0, c1, c2, c3, c4, c5, c6⟩ := (HA.out.below HBW.out).at hlt
        have HNX : Hid (H.alone os ts (k + 1) = if (H.made (H.alone os ts k).1 (ts.getD k H.noAc)).2.2 = 0 then ((H.made (H.alone os ts k).1 (ts.getD k H.noAc)).1, (H.alone os ts k).2 ++ [H.seqAct (ts.getD k H.noAc) (H.alone os ts k).2.length (H.made (H.alone os ts k).1 (ts.getD k H.noAc)).2.1]) else H.alone os ts k) := rfl
        have hlen := HAI.out.len
        have HIT : Hid (∀ x ∈ (H.alone os ts k).1, x.items.length * 8 ≤ 140737488355328) := may_items (HAI.out.may HM.out)
        have HWF : Hid ((Lit.int .i64 (ts.getD k H.noAc).arg).wf = true) := HARG.out _ (by simp [List.getD, show k < ts.length by rw [HTC.out]; exact hlt])
        obtain ⟨x, hx⟩ : ∃ x, ts.getD k H.noAc = x := ⟨_, rfl⟩
        rw [hx] at c0 c1 c2 c3 c4 c5 c6 HNX HWF
        clear hx
        obtain ⟨⟨s, al⟩, hxs⟩ : ∃ x, H.alone os ts k = x := ⟨_, rfl⟩
        rw [hxs] at HR HN HNX hlen HIT ⊢
        have HXS : Hid (H.alone os ts k = (s, al)) := hxs
        clear hxs
        obtain ⟨th, dd, nm, arg, call, back, ans⟩ := x
        simp only at c0 c1 c2 c3 c4 c5 c6 HNX HWF HR HN hlen HIT ⊢
        obtain ⟨Y1, hY1⟩ : ∃ Y, wr.alloc (.cells #[.int .i64 th, .int .i64 dd, .string nm, .int .i64 arg, .int .i64 call, .int .i64 back, .int .i64 ans] 42) = Y := ⟨_, rfl⟩
        have hb1 : Below wr.heap.size wr Y1 := by rw [← hY1]; exact hbl1 _ _
        have HWY : Hid (wr.heap.size < Y1.heap.size) := by show _ < _; rw [← hY1]; simp
        have HB1 : Hid (Below y0.heap.size y0 Y1) := HB.out.trans (hb1.mono HB.out.size)
        have d0 : Y1.cell? ⟨wr.heap.size, 0, none⟩ = some (.int .i64 th) := by rw [← hY1]; simp
        have d1 : Y1.cell? ⟨wr.heap.size, 1, none⟩ = some (.int .i64 dd) := by rw [← hY1]; simp
        have d2 : Y1.cell? ⟨wr.heap.size, 2, none⟩ = some (.string nm) := by rw [← hY1]; simp
        have d3 : Y1.cell? ⟨wr.heap.size, 3, none⟩ = some (.int .i64 arg) := by rw [← hY1]; simp
        have d4 : Y1.cell? ⟨wr.heap.size, 4, none⟩ = some (.int .i64 call) := by rw [← hY1]; simp
        have d5 : Y1.cell? ⟨wr.heap.size, 5, none⟩ = some (.int .i64 back) := by rw [← hY1]; simp
        have d6 : Y1.cell? ⟨wr.heap.size, 6, none⟩ = some (.int .i64 ans) := by rw [← hY1]; simp
        have hfz : ∀ j, Y1.frozen? ⟨wr.heap.size, j, none⟩ = false := fun j => by rw [← hY1]; exact World.frozen?_alloc_at _ _ _ _ rfl
        have hdo := rdoS_any ((HN.out.below hb1).now) (by omega) HIT.out th dd nm arg HWF.out
        have HMD : Hid (H.made s ⟨th, dd, nm, arg, call, back, ans⟩ = doA s th dd nm arg) := rfl
        have HR1 : Hid (Y1.ownsRow y0.heap.size 42 7 (.slice ma al.length mc) al.length (al.flatMap H.Ac.cs)) := hown_thru HR.out hb1
        have HN1 : Hid (NowV Y1 (.slice ma al.length mc) an lo cn s) := HN.out.below hb1
        rw [HMD.out] at HNX
        obtain ⟨s1, hs1⟩ : ∃ q, (doA s th dd nm arg).1 = q := ⟨_, rfl⟩
        obtain ⟨n1, hn1⟩ : ∃ q, (doA s th dd nm arg).2.1 = q := ⟨_, rfl⟩
        obtain ⟨n2, hn2⟩ : ∃ q, (doA s th dd nm arg).2.2 = q := ⟨_, rfl⟩
        rw [hs1, hn1, hn2] at hdo HNX
        clear hs1 hn1 hn2 hb1
        go_wp2_with fail
        refine hdo.mono ?_
        rintro e y2 ⟨⟨a2, cq, rfl, hstay⟩, hb2⟩
        have HST : Hid (Stay Y1.heap.size y2 a2 lo cq s1) := hstay
        have HB2 : Hid (Below Y1.heap.size Y1 y2) := hb2
        have HB02 : Hid (Below y0.heap.size y0 y2) := HB1.out.trans (hb2.mono HB1.out.size)
        have HR2 : Hid (y2.ownsRow y0.heap.size 42 7 (.slice ma al.length mc) al.length (al.flatMap H.Ac.cs)) := hown_thru HR1.out hb2
        have HN2 : Hid (NowV y2 (.slice ma al.length mc) an lo cn s) := HN1.out.below hb2
        by_cases h0 : n2 = 0
        rotate_left
        · have e0 : (n2 != 0) = true := by simpa using h0
          have HEQ : Hid (H.alone os ts (k + 1) = (s, al)) := by show _ = _; rw [HNX.out, if_neg h0]
          clear h0 hdo hstay hb2 hfz d0 d1 d2 d3 d4 d5 d6
          go_wp2_with fail
          go_roundg (l - (k + 1))
          case measure => omega
          case rel => exact ⟨k + 1, an, cn, ma, mc, rfl, by go_num, by omega, rfl, by rw [HEQ.out], by rw [HEQ.out]; exact HR2.out, by rw [HEQ.out]; exact HN2.out, HB02⟩
        · have e0 : (n2 != 0) = false := by simpa using h0
          have HEQ : Hid (H.alone os ts (k + 1) = (s1, al ++ [⟨th, dd, nm, arg, 2 * (al.length : Int), 2 * (al.length : Int) + 1, n1⟩])) := by show _ = _; rw [HNX.out, if_pos h0]; rfl
          have HOLD : Hid (∀ q, (Value.slice ma al.length mc).ownBlock = some q → q < wr.heap.size ∧ y0.heap.size ≤ q) := fun q hq => ⟨(HR.out.lt q hq).2, (HR.out.lt q hq).1⟩
          have d0 := hcell_thru hb2 d0
          have d1 := hcell_thru hb2 d1
          have d2 := hcell_thru hb2 d2
          have d3 := hcell_thru hb2 d3
          have d4 := hcell_thru hb2 d4
          have d5 := hcell_thru hb2 d5
          have d6 := hcell_thru hb2 d6
          have f4 : y2.frozen? ⟨wr.heap.size, 4, none⟩ = false := (hb2.frozen (p := ⟨wr.heap.size, 4, none⟩) HWY.out).trans (hfz 4)
          have f5 : y2.frozen? ⟨wr.heap.size, 5, none⟩ = false := (hb2.frozen (p := ⟨wr.heap.size, 5, none⟩) HWY.out).trans (hfz 5)
          have f6 : y2.frozen? ⟨wr.heap.size, 6, none⟩ = false := (hb2.frozen (p := ⟨wr.heap.size, 6, none⟩) HWY.out).trans (hfz 6)
          have HWR : Hid (y0.heap.size ≤ wr.heap.size) := HB.out.size
          have HLEN : Hid (al.length ≤ 12) := by show _ ≤ _; omega
          obtain ⟨nn, hnn⟩ : ∃ q, al.length = q := ⟨_, rfl⟩
          have HNN : Hid (al.length = nn) := hnn
          rw [hnn] at HR2 HEQ HOLD HLEN ⊢
          have hn12 : nn ≤ 12 := HLEN.out
          have hw1 : IntKind.i64.wrap (2 * (nn : Int)) = 2 * (nn : Int) := by rw [IntKind.wrap_i64]; omega
          have hw2 : IntKind.i64.wrap (2 * (nn : Int) + 1) = 2 * (nn : Int) + 1 := by rw [IntKind.wrap_i64]; omega
          obtain ⟨Y3, hY3⟩ : ∃ Y, ((y2.setCell ⟨wr.heap.size, 6, none⟩ (.int .i64 n1)).setCell ⟨wr.heap.size, 4, none⟩ (.int .i64 (2 * (nn : Int)))).setCell ⟨wr.heap.size, 5, none⟩ (.int .i64 (2 * (nn : Int) + 1)) = Y := ⟨_, rfl⟩
          have hsz3 : Y3.heap.size = y2.heap.size := by rw [← hY3, World.size_setCell, World.size_setCell, World.size_setCell]
          have HFAR3 : Hid (∀ b o u, b ≠ wr.heap.size → y2.cell? ⟨b, o, none⟩ = some u → Y3.cell? ⟨b, o, none⟩ = some u) := fun b o u hb hc => by
            rw [← hY3, World.cell?_setCell_far _ ⟨wr.heap.size, 5, none⟩ ⟨b, o, none⟩ _ (fun e => hb e.symm), World.cell?_setCell_far _ ⟨wr.heap.size, 4, none⟩ ⟨b, o, none⟩ _ (fun e => hb e.symm), World.cell?_setCell_far _ ⟨wr.heap.size, 6, none⟩ ⟨b, o, none⟩ _ (fun e => hb e.symm)]
            exact hc
          have HB03 : Hid (Below y0.heap.size y0 Y3) := by show Below _ _ _; rw [← hY3]; exact ((HB02.out.setCell HWR.out _).setCell HWR.out _).setCell HWR.out _
          have hnb : (Value.slice ma nn mc).ownBlock ≠ some wr.heap.size := fun e => by have := (HOLD.out _ e).1; omega
          have HR3 : Hid (Y3.ownsRow y0.heap.size 42 7 (.slice ma nn mc) nn (al.flatMap H.Ac.cs)) := by
            show World.ownsRow _ _ _ _ _ _ _
            rw [← hY3]
            exact ((HR2.out.kept (gb_setO _ ⟨wr.heap.size, 6, none⟩ _) (.inr hnb)).kept (gb_setO _ ⟨wr.heap.size, 4, none⟩ _) (.inr hnb)).kept (gb_setO _ ⟨wr.heap.size, 5, none⟩ _) (.inr hnb)
          obtain ⟨Z, hZ⟩ : ∃ Y, Y3.alloc (.cells #[.int .i64 th, .int .i64 dd, .string nm, .int .i64 arg, .int .i64 (2 * (nn : Int)), .int .i64 (2 * (nn : Int) + 1), .int .i64 n1] 42) = Y := ⟨_, rfl⟩
          have hbZ : Below Y3.heap.size Y3 Z := by rw [← hZ]; exact hbl1 _ _
          have HRZ : Hid (Z.ownsRow y0.heap.size 42 7 (.slice ma nn mc) nn (al.flatMap H.Ac.cs)) := hown_thru HR3.out hbZ
          have HB0Z : Hid (Below y0.heap.size y0 Z) := HB03.out.trans (hbZ.mono HB03.out.size)
          have HNC : Hid (∀ j u, (H.Ac.cs ⟨th, dd, nm, arg, 2 * (nn : Int), 2 * (nn : Int) + 1, n1⟩)[j]? = some u → Z.cell? ((⟨Y3.heap.size, 0, none⟩ : Addr).add j) = some u) := by
            intro j u hu
            rw [Addr.add_lit, Nat.zero_add, ← hZ]
            exact A.cell_last rfl (by simpa [H.Ac.cs] using hu)
          have HSTZ : Hid (∀ b o u, Y1.heap.size ≤ b → y2.cell? ⟨b, o, none⟩ = some u → Z.cell? ⟨b, o, none⟩ = some u ∧ b < Z.heap.size ∧ wr.heap.size < b) := fun b o u hb hc => by
            have hlt := HWY.out
            have h3 := HFAR3.out b o u (by omega) hc
            have hz := hcell_thru hbZ h3
            exact ⟨hz, World.block_lt_of_cell? Z ⟨b, o, none⟩ hz, by omega⟩
          have hyz : y0.heap.size ≤ Z.heap.size := HB0Z.out.size
          have g0 : Y3.cell? ⟨wr.heap.size, 0, none⟩ = some (.int .i64 th) := by rw [← hY3, World.cell?_setCell_other _ _ _ _ (by simp), World.cell?_setCell_other _ _ _ _ (by simp), World.cell?_setCell_other _ _ _ _ (by simp)]; exact d0
          have g1 : Y3.cell? ⟨wr.heap.size, 1, none⟩ = some (.int .i64 dd) := by rw [← hY3, World.cell?_setCell_other _ _ _ _ (by simp), World.cell?_setCell_other _ _ _ _ (by simp), World.cell?_setCell_other _ _ _ _ (by simp)]; exact d1
          have g2 : Y3.cell? ⟨wr.heap.size, 2, none⟩ = some (.string nm) := by rw [← hY3, World.cell?_setCell_other _ _ _ _ (by simp), World.cell?_setCell_other _ _ _ _ (by simp), World.cell?_setCell_other _ _ _ _ (by simp)]; exact d2
          have g3 : Y3.cell? ⟨wr.heap.size, 3, none⟩ = some (.int .i64 arg) := by rw [← hY3, World.cell?_setCell_other _ _ _ _ (by simp), World.cell?_setCell_other _ _ _ _ (by simp), World.cell?_setCell_other _ _ _ _ (by simp)]; exact d3
          have g4 : Y3.cell? ⟨wr.heap.size, 4, none⟩ = some (.int .i64 (2 * (nn : Int))) := by rw [← hY3, World.cell?_setCell_other _ _ _ _ (by simp)]; exact World.cell?_setCell_same' _ _ _ (by rw [World.cell?_setCell_other _ _ _ _ (by simp), d4]; rfl)
          have g5 : Y3.cell? ⟨wr.heap.size, 5, none⟩ = some (.int .i64 (2 * (nn : Int) + 1)) := by rw [← hY3]; exact World.cell?_setCell_same' _ _ _ (by rw [World.cell?_setCell_other _ _ _ _ (by simp), World.cell?_setCell_other _ _ _ _ (by simp), d5]; rfl)
          have g6 : Y3.cell? ⟨wr.heap.size, 6, none⟩ = some (.int .i64 n1) := by rw [← hY3, World.cell?_setCell_other _ _ _ _ (by simp), World.cell?_setCell_other _ _ _ _ (by simp)]; exact World.cell?_setCell_same' _ _ _ (by rw [d6]; rfl)
          clear h0 hdo hstay hb2 hfz hnn hbZ hnb hlen hsz3
          go_wp2_with (first | (at_builtin; go_loud (refine wpList_append_lies _ rfl _ _ 23 rfl y0.heap.size 42 i7 _ 7 64 Try.underlying23 hi7 hz70 hz71 hz72 rfl (by decide) (.slice ma nn mc) nn (al.flatMap H.Ac.cs) rfl HRZ.out ⟨Y3.heap.size, 0, none⟩ 1 1 (H.Ac.cs ⟨th, dd, nm, arg, 2 * (nn : Int), 2 * (nn : Int) + 1, n1⟩) rfl rfl HNC.out (by intro u hu; simp [H.Ac.cs] at hu; rcases hu with rfl | rfl | rfl | rfl | rfl | rfl | rfl <;> rfl) (by decide) (by unfold maxLen; omega) (by omega) hyz Z.heap.size rfl ?_; intro ga ca w1 ho1 hg1 hat1 hlt1; have HO1 : Hid (w1.ownsRow y0.heap.size 42 7 (.slice (some ⟨ga, 0, none⟩) (nn + 1) ca) (nn + 1) (al.flatMap H.Ac.cs ++ H.Ac.cs ⟨th, dd, nm, arg, 2 * (nn : Int), 2 * (nn : Int) + 1, n1⟩)) := ho1; have HG1 : Hid (Z.grownBy w1 (Value.slice ma nn mc).ownBlock) := hg1; have HAT1 : Hid ((Value.slice ma nn mc).ownBlock = some ga ∨ ga = Z.heap.size) := hat1; clear ho1 hg1 hat1 hlt1)) | fail)
          go_roundg (l - (k + 1))
          case measure => omega
          case rel =>
            have hlen2 : (H.alone os ts (k + 1)).2.length = nn + 1 := by rw [HEQ.out]; simp [HNN.out]
            refine ⟨k + 1, a2, cq, some ⟨ga, 0, none⟩, ca, rfl, by go_num, by omega, rfl, by rw [hlen2], ?_, ?_, ?_⟩
            · show World.ownsRow _ _ _ _ _ _ _
              rw [hlen2, HEQ.out, List.flatMap_append, List.flatMap_cons, List.flatMap_nil, List.append_nil]
              exact HO1.out
            · show NowV _ _ _ _ _ _
              rw [hlen2, HEQ.out]
              intro W' hkk
              refine HST.out W' (fun b o u hB hc => ?_)
              obtain ⟨hz, hbz, hbw⟩ := HSTZ.out b o u hB hc
              refine hkk b o u (fun e => ?_) (HG1.out.cell hz (fun e => ?_))
              · simp [Value.ownBlock] at e
                subst e
                rcases HAT1.out with e1 | e1
                · have := (HOLD.out _ e1).1; omega
                · omega
              · have := (HOLD.out b e.symm).1; omega
            · show Below _ _ _
              refine ⟨HG1.out.os.trans HB0Z.out.os, HG1.out.tape.trans HB0Z.out.tape, HG1.out.output.trans HB0Z.out.output, Nat.le_trans HB0Z.out.size HG1.out.size, fun i hi => (HG1.out.block i (by have := HB0Z.out.size; omega) (fun e => ?_)).trans (HB0Z.out.block i hi)⟩
              have := (HOLD.out i e.symm).2
              omega
      · have hkk : k = l := by omega
        subst hkk
        have hii : ¬ (k : Int) < k := by omega
        obtain ⟨⟨s, al⟩, hxs⟩ : ∃ x, H.alone os ts k = x := ⟨_, rfl⟩
        rw [hxs] at HR HN HAI ⊢
        simp only at HR HN HAI ⊢
        have hAC := acts_own HR.out rfl
        have hlen := HAI.out.len
        simp only at hlen
        have HSEQ : Hid (H.Seq al) := HAI.out.seq
        have HRUN : Hid (H.run al os 0 al.length = some s) := HAI.out.run
        have HMH : Hid (H.mayH al = true) := H.seq_may HAI.out.seq (by omega)
        have HARA : Hid (∀ r ∈ al, (Lit.int .i64 r.arg).wf = true) := HAI.out.args HARG.out
        have hor := Order_any (HO.out.below HBW.out) hAC (by omega) HARA.out
        obtain ⟨nn, hnn⟩ : ∃ q, al.length = q := ⟨_, rfl⟩
        have HNN : Hid (al.length = nn) := hnn
        rw [hnn] at hor HR hlen ⊢
        clear hAC hxs hnn
        go_wp2_with fail
        refine hor.mono ?_
        rintro e y7 ⟨r, v, ord, rfl, hrow, hb7, hyes, hno⟩
        have hok : (H.Pf al).Ok 0 os (List.range' 0 nn) := by
          have := (H.seq_ok HSEQ.out al.length 0 0 os (List.range' 0 al.length) (by omega) (fun j => by simp)).2 ⟨rfl, by rw [HRUN.out]; rfl⟩
          rw [HNN.out] at this
          exact this
        have hr : r = true := by
          cases r with
          | true => rfl
          | false => exact absurd hok ((hno rfl).2 HM.out HMH.out _)
        subst hr
        have hord := ((H.seq_ok HSEQ.out al.length 0 0 os ord (by omega) (fun j => by simp)).1 (hyes rfl).2.2).1
        rw [HNN.out] at hord
        subst hord
        rw [List.length_range'] at hrow
        obtain ⟨va, vc, hv⟩ := own_form hrow
        subst hv
        have HNV : Hid (NV y7 va nn vc (List.range' 0 nn)) := nv_of_row hrow (by rw [List.length_range'])
        have hvr := HNV.out.room
        have HB7 : Hid (Below w.heap.size w y7) := HBW.out.trans (hb7.mono HBW.out.size)
        have HR7 : Hid (y7.ownsRow y0.heap.size 42 7 (.slice ma nn mc) nn (al.flatMap H.Ac.cs)) := hown_thru HR.out hb7
        have HY07 : Hid (Below y0.heap.size y0 y7) := HB.out.trans (hb7.mono HB.out.size)
        clear hor hrow hb7 hyes hno hok
        go_wp2_with fail
        go_loopg [16] nn (fun r iv wq => ∃ (j : Nat), r = nn - j ∧ iv = .int .i64 j ∧ j ≤ nn ∧ wq = y7)
        case atStart => exact ⟨0, rfl, rfl, Nat.zero_le _, rfl⟩
        case round =>
          obtain ⟨j, rfl, rfl, hj, rfl⟩ := hrel
          by_cases hjn : j < nn
          · have hji : (j : Int) < nn := by omega
            have hj0 : 0 ≤ (j : Int) := by omega
            obtain ⟨b, off, hab, cj⟩ := HNV.out.at hjn
            rw [show (List.range' 0 nn).getD j 0 = j by simp [List.getD, hjn]] at cj
            subst hab
            go_wp2_with fail
            go_roundg (nn - (j + 1))
            case measure => omega
            case rel => exact ⟨j + 1, rfl, by go_num, by omega, rfl⟩
          · have hjj : j = nn := by omega
            subst hjj
            have hji : ¬ (j : Int) < j := by omega
            by_cases h0 : j = 0
            · have e0 : ((j : Int) == 0) = true := by simpa using h0
              clear h0
              go_wp2_with fail
              refine (HL.out _).mono ?_
              rintro e y ⟨rfl, hy⟩
              have HY : Hid (Below w.heap.size w y) := HB7.out.trans (hy.mono HB7.out.size)
              clear hy
              go_wp2_with fail
              go_ret
              exact ⟨rfl, HY.out⟩
            · have e0 : ((j : Int) == 0) = false := by simpa using h0
              have hj1 : 0 < j := by omega
              clear h0
              have hwf : -9223372036854775808 ≤ wh ∧ wh ≤ 9223372036854775807 := by
                have := HWH.out
                simp [Lit.wf, IntKind.min, IntKind.max, IntKind.signed, IntKind.bits] at this
                omega
              obtain ⟨g, hg⟩ : ∃ g, ma = some ⟨g, 0, none⟩ := by
                rcases HR7.out.2 with ⟨e, -⟩ | ⟨g, cap, cur, e, -⟩
                · simp only [Value.slice.injEq] at e; omega
                · simp only [Value.slice.injEq] at e; exact ⟨g, e.1⟩
              subst hg
              have HPART : Hid (∀ q : Nat, q < j → wr.cell? ⟨g, q * 7 + 1, none⟩ = some (.int .i64 (al.getD q H.noAc).dd) ∧ wr.cell? ⟨g, q * 7 + 6, none⟩ = some (.int .i64 (al.getD q H.noAc).ans) ∧ wr.frozen? ⟨g, q * 7 + 6, none⟩ = false) := fun q hq => by
                have hql : q < al.length := by rw [HNN.out]; exact hq
                refine ⟨?_, ?_, HR7.out.frozenAt _⟩
                · rw [HR7.out.cellAt (q * 7 + 1) (by omega), A.flat_at H.Ac.cs 7 H.noAc (fun _ => rfl) _ _ _ hql (by decide)]; rfl
                · rw [HR7.out.cellAt (q * 7 + 6) (by omega), A.flat_at H.Ac.cs 7 H.noAc (fun _ => rfl) _ _ _ hql (by decide)]; rfl
              have HSET : Hid (∀ (q : Nat) (z : Int), q < j → z ≠ (al.getD q H.noAc).ans → (al.getD q H.noAc).answers = true → ActsV (wr.setCell ⟨g, q * 7 + 6, none⟩ (.int .i64 z)) (some ⟨g, 0, none⟩) j mc (al.set q { al.getD q H.noAc with ans := z }) ∧ (H.Pf (al.set q { al.getD q H.noAc with ans := z })).Bad 0 os ∧ Below w.heap.size w (wr.setCell ⟨g, q * 7 + 6, none⟩ (.int .i64 z)) ∧ ∀ r ∈ al.set q { al.getD q H.noAc with ans := z }, (Lit.int .i64 r.arg).wf = true) := fun q z hq hz han => by
                have hql : q < al.length := by rw [HNN.out]; exact hq
                have hst := (HR7.out.stored (q * 7 + 6) (.int .i64 z)).1
                rw [flat_set hql] at hst
                refine ⟨acts_own hst (by rw [List.length_set]; exact HNN.out), H.other_bad HSEQ.out HRUN.out hql han hz, HB7.out.setCell (Nat.le_trans HY0.out.size (HR7.out.lt g rfl).1) _, fun r hr => ?_⟩
                rcases List.mem_or_eq_of_mem_set hr with h1 | h1
                · exact HARA.out r h1
                · rw [h1]; exact HARA.out (al.getD q H.noAc) (by simp [List.getD, hql])
              by_cases hneg : wh < 0
              · have hkey : -((wh + 1).tmod (j : Int)) = (-(wh + 1)) % (j : Int) := by rw [← Int.neg_tmod, Int.tmod_eq_emod_of_nonneg (by omega)]
                obtain ⟨q, hq, hqj⟩ : ∃ q : Nat, -((wh + 1).tmod (j : Int)) = q ∧ q < j := ⟨((-(wh + 1)) % (j : Int)).toNat, by have := Int.emod_nonneg (-(wh + 1)) (show (j : Int) ≠ 0 by omega); omega, by have := Int.emod_lt_of_pos (-(wh + 1)) (show (0 : Int) < j by omega); have := Int.emod_nonneg (-(wh + 1)) (show (j : Int) ≠ 0 by omega); omega⟩
                have hwa : IntKind.i64.wrap (wh + 1) = wh + 1 := by rw [IntKind.wrap_i64]; omega
                have hwb : IntKind.i64.wrap (-(wh + 1)) = -(wh + 1) := by rw [IntKind.wrap_i64]; omega
                clear hkey
                have hqi : (q : Int) < j := by omega
                have hq0 : 0 ≤ (q : Int) := by omega
                obtain ⟨p1, p6, pf⟩ := HPART.out q hqj
                have HAN : Hid ((al.getD q H.noAc).answers = (decide ((al.getD q H.noAc).dd = 3) || decide ((al.getD q H.noAc).dd = 4))) := rfl
                obtain ⟨xd, hxd⟩ : ∃ x, (al.getD q H.noAc).dd = x := ⟨_, rfl⟩
                obtain ⟨xa, hxa⟩ : ∃ x, (al.getD q H.noAc).ans = x := ⟨_, rfl⟩
                have HXA : Hid ((al.getD q H.noAc).ans = xa) := hxa
                rw [hxd] at p1 HAN
                rw [hxa] at p6
                clear hxd hxa
                by_cases hd : xd = 3 ∨ xd = 4
                · have han : Hid ((al.getD q H.noAc).answers = true) := by
                    show _ = _
                    rw [HAN.out]
                    rcases hd with rfl | rfl <;> rfl
                  have hdn : ((xd != 3) && (xd != 4)) = false := by rcases hd with rfl | rfl <;> rfl
                  by_cases h7 : xa = 7
                  · have e7 : (xa == 7) = true := by simpa using h7
                    have hzz : (8 : Int) ≠ (al.getD q H.noAc).ans := by rw [HXA.out]; omega
                    clear h7
                    rcases hd with rfl | rfl
                    · obtain ⟨hAM, hbad, hbs, haw⟩ := HSET.out q 8 hqj hzz han.out
                      have ho2 := Order_any (HO.out.below hbs) hAM (by omega) haw
                      have HBS : Hid (Below w.heap.size w (wr.setCell ⟨g, q * 7 + 6, none⟩ (.int .i64 8))) := hbs
                      have HBAD : Hid ((H.Pf (al.set q { al.getD q H.noAc with ans := 8 })).Bad 0 os) := hbad
                      clear hAM hbad hbs haw hzz
                      go_wp2_with fail
                      refine ho2.mono ?_
                      rintro e y8 ⟨r, v2, ord2, rfl, -, hb8, hyes2, hno2⟩
                      have HB8 : Hid (Below w.heap.size w y8) := HBS.out.trans (hb8.mono HBS.out.size)
                      have hr2 : r = false := by
                        cases r with
                        | false => rfl
                        | true => exact absurd (hyes2 rfl).2.2 (HBAD.out _)
                      subst hr2
                      clear ho2 hyes2 hno2 hb8
                      go_wp2_with fail
                      refine (HL.out _).mono ?_
                      rintro e y ⟨rfl, hy⟩
                      have HY : Hid (Below w.heap.size w y) := HB8.out.trans (hy.mono HB8.out.size)
                      clear hy
                      go_wp2_with fail
                      go_ret
                      exact ⟨rfl, HY.out⟩
                    · obtain ⟨hAM, hbad, hbs, haw⟩ := HSET.out q 8 hqj hzz han.out
                      have ho2 := Order_any (HO.out.below hbs) hAM (by omega) haw
                      have HBS : Hid (Below w.heap.size w (wr.setCell ⟨g, q * 7 + 6, none⟩ (.int .i64 8))) := hbs
                      have HBAD : Hid ((H.Pf (al.set q { al.getD q H.noAc with ans := 8 })).Bad 0 os) := hbad
                      clear hAM hbad hbs haw hzz
                      go_wp2_with fail
                      refine ho2.mono ?_
                      rintro e y8 ⟨r, v2, ord2, rfl, -, hb8, hyes2, hno2⟩
                      have HB8 : Hid (Below w.heap.size w y8) := HBS.out.trans (hb8.mono HBS.out.size)
                      have hr2 : r = false := by
                        cases r with
                        | false => rfl
                        | true => exact absurd (hyes2 rfl).2.2 (HBAD.out _)
                      subst hr2
                      clear ho2 hyes2 hno2 hb8
                      go_wp2_with fail
                      refine (HL.out _).mono ?_
                      rintro e y ⟨rfl, hy⟩
                      have HY : Hid (Below w.heap.size w y) := HB8.out.trans (hy.mono HB8.out.size)
                      clear hy
                      go_wp2_with fail
                      go_ret
                      exact ⟨rfl, HY.out⟩
                  · have e7 : (xa == 7) = false := by simpa using h7
                    have hzz : (7 : Int) ≠ (al.getD q H.noAc).ans := by rw [HXA.out]; omega
                    clear h7
                    rcases hd with rfl | rfl
                    · obtain ⟨hAM, hbad, hbs, haw⟩ := HSET.out q 7 hqj hzz han.out
                      have ho2 := Order_any (HO.out.below hbs) hAM (by omega) haw
                      have HBS : Hid (Below w.heap.size w (wr.setCell ⟨g, q * 7 + 6, none⟩ (.int .i64 7))) := hbs
                      have HBAD : Hid ((H.Pf (al.set q { al.getD q H.noAc with ans := 7 })).Bad 0 os) := hbad
                      clear hAM hbad hbs haw hzz
                      go_wp2_with fail
                      refine ho2.mono ?_
                      rintro e y8 ⟨r, v2, ord2, rfl, -, hb8, hyes2, hno2⟩
                      have HB8 : Hid (Below w.heap.size w y8) := HBS.out.trans (hb8.mono HBS.out.size)
                      have hr2 : r = false := by
                        cases r with
                        | false => rfl
                        | true => exact absurd (hyes2 rfl).2.2 (HBAD.out _)
                      subst hr2
                      clear ho2 hyes2 hno2 hb8
                      go_wp2_with fail
                      refine (HL.out _).mono ?_
                      rintro e y ⟨rfl, hy⟩
                      have HY : Hid (Below w.heap.size w y) := HB8.out.trans (hy.mono HB8.out.size)
                      clear hy
                      go_wp2_with fail
                      go_ret
                      exact ⟨rfl, HY.out⟩
                    · obtain ⟨hAM, hbad, hbs, haw⟩ := HSET.out q 7 hqj hzz han.out
                      have ho2 := Order_any (HO.out.below hbs) hAM (by omega) haw
                      have HBS : Hid (Below w.heap.size w (wr.setCell ⟨g, q * 7 + 6, none⟩ (.int .i64 7))) := hbs
                      have HBAD : Hid ((H.Pf (al.set q { al.getD q H.noAc with ans := 7 })).Bad 0 os) := hbad
                      clear hAM hbad hbs haw hzz
                      go_wp2_with fail
                      refine ho2.mono ?_
                      rintro e y8 ⟨r, v2, ord2, rfl, -, hb8, hyes2, hno2⟩
                      have HB8 : Hid (Below w.heap.size w y8) := HBS.out.trans (hb8.mono HBS.out.size)
                      have hr2 : r = false := by
                        cases r with
                        | false => rfl
                        | true => exact absurd (hyes2 rfl).2.2 (HBAD.out _)
                      subst hr2
                      clear ho2 hyes2 hno2 hb8
                      go_wp2_with fail
                      refine (HL.out _).mono ?_
                      rintro e y ⟨rfl, hy⟩
                      have HY : Hid (Below w.heap.size w y) := HB8.out.trans (hy.mono HB8.out.size)
                      clear hy
                      go_wp2_with fail
                      go_ret
                      exact ⟨rfl, HY.out⟩
                · have e3 : (xd != 3) = true := by simp; omega
                  have e4 : (xd != 4) = true := by simp; omega
                  clear hd
                  go_wp2_with fail
                  refine (HL.out _).mono ?_
                  rintro e y ⟨rfl, hy⟩
                  have HY : Hid (Below w.heap.size w y) := HB7.out.trans (hy.mono HB7.out.size)
                  clear hy
                  go_wp2_with fail
                  go_ret
                  exact ⟨rfl, HY.out⟩
              · obtain ⟨q, hq, hqj⟩ : ∃ q : Nat, wh % (j : Int) = q ∧ q < j := ⟨(wh % (j : Int)).toNat, by have := Int.emod_nonneg wh (show (j : Int) ≠ 0 by omega); omega, by have := Int.emod_lt_of_pos wh (show (0 : Int) < j by omega); have := Int.emod_nonneg wh (show (j : Int) ≠ 0 by omega); omega⟩
                have hqi : (q : Int) < j := by omega
                have hq0 : 0 ≤ (q : Int) := by omega
                obtain ⟨p1, p6, pf⟩ := HPART.out q hqj
                have HAN : Hid ((al.getD q H.noAc).answers = (decide ((al.getD q H.noAc).dd = 3) || decide ((al.getD q H.noAc).dd = 4))) := rfl
                obtain ⟨xd, hxd⟩ : ∃ x, (al.getD q H.noAc).dd = x := ⟨_, rfl⟩
                obtain ⟨xa, hxa⟩ : ∃ x, (al.getD q H.noAc).ans = x := ⟨_, rfl⟩
                have HXA : Hid ((al.getD q H.noAc).ans = xa) := hxa
                rw [hxd] at p1 HAN
                rw [hxa] at p6
                clear hxd hxa
                by_cases hd : xd = 3 ∨ xd = 4
                · have han : Hid ((al.getD q H.noAc).answers = true) := by
                    show _ = _
                    rw [HAN.out]
                    rcases hd with rfl | rfl <;> rfl
                  have hdn : ((xd != 3) && (xd != 4)) = false := by rcases hd with rfl | rfl <;> rfl
                  by_cases h7 : xa = 7
                  · have e7 : (xa == 7) = true := by simpa using h7
                    have hzz : (8 : Int) ≠ (al.getD q H.noAc).ans := by rw [HXA.out]; omega
                    clear h7
                    rcases hd with rfl | rfl
                    · obtain ⟨hAM, hbad, hbs, haw⟩ := HSET.out q 8 hqj hzz han.out
                      have ho2 := Order_any (HO.out.below hbs) hAM (by omega) haw
                      have HBS : Hid (Below w.heap.size w (wr.setCell ⟨g, q * 7 + 6, none⟩ (.int .i64 8))) := hbs
                      have HBAD : Hid ((H.Pf (al.set q { al.getD q H.noAc with ans := 8 })).Bad 0 os) := hbad
                      clear hAM hbad hbs haw hzz
                      go_wp2_with fail
                      refine ho2.mono ?_
                      rintro e y8 ⟨r, v2, ord2, rfl, -, hb8, hyes2, hno2⟩
                      have HB8 : Hid (Below w.heap.size w y8) := HBS.out.trans (hb8.mono HBS.out.size)
                      have hr2 : r = false := by
                        cases r with
                        | false => rfl
                        | true => exact absurd (hyes2 rfl).2.2 (HBAD.out _)
                      subst hr2
                      clear ho2 hyes2 hno2 hb8
                      go_wp2_with fail
                      refine (HL.out _).mono ?_
                      rintro e y ⟨rfl, hy⟩
                      have HY : Hid (Below w.heap.size w y) := HB8.out.trans (hy.mono HB8.out.size)
                      clear hy
                      go_wp2_with fail
                      go_ret
                      exact ⟨rfl, HY.out⟩
                    · obtain ⟨hAM, hbad, hbs, haw⟩ := HSET.out q 8 hqj hzz han.out
                      have ho2 := Order_any (HO.out.below hbs) hAM (by omega) haw
                      have HBS : Hid (Below w.heap.size w (wr.setCell ⟨g, q * 7 + 6, none⟩ (.int .i64 8))) := hbs
                      have HBAD : Hid ((H.Pf (al.set q { al.getD q H.noAc with ans := 8 })).Bad 0 os) := hbad
                      clear hAM hbad hbs haw hzz
                      go_wp2_with fail
                      refine ho2.mono ?_
                      rintro e y8 ⟨r, v2, ord2, rfl, -, hb8, hyes2, hno2⟩
                      have HB8 : Hid (Below w.heap.size w y8) := HBS.out.trans (hb8.mono HBS.out.size)
                      have hr2 : r = false := by
                        cases r with
                        | false => rfl
                        | true => exact absurd (hyes2 rfl).2.2 (HBAD.out _)
                      subst hr2
                      clear ho2 hyes2 hno2 hb8
                      go_wp2_with fail
                      refine (HL.out _).mono ?_
                      rintro e y ⟨rfl, hy⟩
                      have HY : Hid (Below w.heap.size w y) := HB8.out.trans (hy.mono HB8.out.size)
                      clear hy
                      go_wp2_with fail
                      go_ret
                      exact ⟨rfl, HY.out⟩
                  · have e7 : (xa == 7) = false := by simpa using h7
                    have hzz : (7 : Int) ≠ (al.getD q H.noAc).ans := by rw [HXA.out]; omega
                    clear h7
                    rcases hd with rfl | rfl
                    · obtain ⟨hAM, hbad, hbs, haw⟩ := HSET.out q 7 hqj hzz han.out
                      have ho2 := Order_any (HO.out.below hbs) hAM (by omega) haw
                      have HBS : Hid (Below w.heap.size w (wr.setCell ⟨g, q * 7 + 6, none⟩ (.int .i64 7))) := hbs
                      have HBAD : Hid ((H.Pf (al.set q { al.getD q H.noAc with ans := 7 })).Bad 0 os) := hbad
                      clear hAM hbad hbs haw hzz
                      go_wp2_with fail
                      refine ho2.mono ?_
                      rintro e y8 ⟨r, v2, ord2, rfl, -, hb8, hyes2, hno2⟩
                      have HB8 : Hid (Below w.heap.size w y8) := HBS.out.trans (hb8.mono HBS.out.size)
                      have hr2 : r = false := by
                        cases r with
                        | false => rfl
                        | true => exact absurd (hyes2 rfl).2.2 (HBAD.out _)
                      subst hr2
                      clear ho2 hyes2 hno2 hb8
                      go_wp2_with fail
                      refine (HL.out _).mono ?_
                      rintro e y ⟨rfl, hy⟩
                      have HY : Hid (Below w.heap.size w y) := HB8.out.trans (hy.mono HB8.out.size)
                      clear hy
                      go_wp2_with fail
                      go_ret
                      exact ⟨rfl, HY.out⟩
                    · obtain ⟨hAM, hbad, hbs, haw⟩ := HSET.out q 7 hqj hzz han.out
                      have ho2 := Order_any (HO.out.below hbs) hAM (by omega) haw
                      have HBS : Hid (Below w.heap.size w (wr.setCell ⟨g, q * 7 + 6, none⟩ (.int .i64 7))) := hbs
                      have HBAD : Hid ((H.Pf (al.set q { al.getD q H.noAc with ans := 7 })).Bad 0 os) := hbad
                      clear hAM hbad hbs haw hzz
                      go_wp2_with fail
                      refine ho2.mono ?_
                      rintro e y8 ⟨r, v2, ord2, rfl, -, hb8, hyes2, hno2⟩
                      have HB8 : Hid (Below w.heap.size w y8) := HBS.out.trans (hb8.mono HBS.out.size)
                      have hr2 : r = false := by
                        cases r with
                        | false => rfl
                        | true => exact absurd (hyes2 rfl).2.2 (HBAD.out _)
                      subst hr2
                      clear ho2 hyes2 hno2 hb8
                      go_wp2_with fail
                      refine (HL.out _).mono ?_
                      rintro e y ⟨rfl, hy⟩
                      have HY : Hid (Below w.heap.size w y) := HB8.out.trans (hy.mono HB8.out.size)
                      clear hy
                      go_wp2_with fail
                      go_ret
                      exact ⟨rfl, HY.out⟩
                · have e3 : (xd != 3) = true := by simp; omega
                  have e4 : (xd != 4) = true := by simp; omega
                  clear hd
                  go_wp2_with fail
                  refine (HL.out _).mono ?_
                  rintro e y ⟨rfl, hy⟩
                  have HY : Hid (Below w.heap.size w y) := HB7.out.trans (hy.mono HB7.out.size)
                  clear hy
                  go_wp2_with fail
                  go_ret
                  exact ⟨rfl, HY.out⟩
end Go.Proofs.Ytafdjmccgijmnaa
