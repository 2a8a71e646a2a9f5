/- The document's Foot and Words. -/
import Derived.Test.YtfkpbmopneleiaaMemRefX
import Derived.Test.YtfkpbmopneleiaaMemFoot
namespace Go.Proofs.Ytfkpbmopneleiaa
open Go.RowKit Go.Maps
set_option linter.unusedVariables false

theorem RefV.forget {B : Nat} {w w' : World} {bx : Nat} {rs : List Reg} {R W : List Int} {lv v1 v2 : Value} {us : List Value} {L1 L2 : List Int} {t : Nat → Nat} (h : RefV B w bx rs R W lv v1 v2 us L1 L2 t) (hb : ∀ k, t k ≠ 0 → k ≠ bx → w'.heap[k]? = w.heap[k]?) (hs : w.heap.size ≤ w'.heap.size)
    (c0 : w'.cell? ⟨bx, 0, none⟩ = some lv) (c1 : w'.cell? ⟨bx, 1, none⟩ = some (.slice none 0 0)) (c2 : w'.cell? ⟨bx, 2, none⟩ = some (.slice none 0 0)) (fz : ∀ o, w'.frozen? ⟨bx, o, none⟩ = false) : RefV B w' bx rs [] [] lv (.slice none 0 0) (.slice none 0 0) us [] [] t where
  reg := h.reg.conv (fun k hk => hb k (by omega) (fun e => by rw [e, h.tb] at hk; omega)) (fun _ _ => rfl) (fun k hk => ⟨(h.reg.lt k hk).1, Nat.lt_of_lt_of_le (h.reg.lt k hk).2 hs⟩)
  c0 := c0
  c1 := c1
  c2 := c2
  fz := fz
  tb := h.tb
  o1 := World.ownsRow_nil _ _ _ _
  o2 := World.ownsRow_nil _ _ _ _
  t1 := by simp [Value.ownBlock]
  t2 := by simp [Value.ownBlock]
  i1 := ⟨by simp, by simp⟩
  i2 := ⟨by simp, by simp⟩
  f1 := by simp
  f2 := by simp

set_option maxRecDepth 100000 in
set_option maxHeartbeats 4000000 in
theorem rfoot_any {B : Nat} {w : World} {bx : Nat} {rs : List Reg} {R W : List Int} {t : Nat → Nat} (h : RefX B w bx rs R W t) :
    Calls Try.prog 16 #[.pointer (some ⟨bx, 0, none⟩)] w fun e w' => ∃ v L L', e = .returned v ∧ M.Ris L (· ∈ R) ∧ M.Ris L' (· ∈ W) ∧ FootV w' v L L' ∧ RefX B w' bx rs [] [] t ∧ St t t w w' := by
  obtain ⟨lv, v1, v2, us, L1, L2, h⟩ := h
  have HM : Hid _ := h
  obtain ⟨pa, pc, hv1, PV⟩ := view_own h.f1 h.o1
  obtain ⟨qa, qc, hv2, QV⟩ := view_own h.f2 h.o2
  subst hv1 hv2
  have m0 := h.c0
  have m1 := h.c1
  have m2 := h.c2
  have z1 := h.fz 1
  have z2 := h.fz 2
  have zb := h.lt
  have HPV : Hid _ := PV
  have HQV : Hid _ := QV
  have HT1 : Hid _ := h.t1
  have HT2 : Hid _ := h.t2
  clear h PV QV
  go_enter Try.func16, Try.ntmps16
  go_wp2
  refine bodyPost_ret (v := .agg #[.slice pa L1.length pc, .slice qa L2.length qc]) (by simp [results, Try.results16, go_sem]) rfl ?_
  obtain ⟨Y, hY⟩ : ∃ Y, (w.setCell ⟨bx, 1, none⟩ (.slice none 0 0)).setCell ⟨bx, 2, none⟩ (.slice none 0 0) = Y := ⟨_, rfl⟩
  rw [hY]
  have sY : Y.heap.size = w.heap.size := by subst hY; simp
  have g1 := gb_set w ⟨bx, 1, none⟩ (.slice none 0 0)
  have g2 := gb_set (w.setCell ⟨bx, 1, none⟩ (.slice none 0 0)) ⟨bx, 2, none⟩ (.slice none 0 0)
  rw [hY] at g2
  have hblk : ∀ k, k < w.heap.size → k ≠ bx → Y.heap[k]? = w.heap[k]? := fun k hk hne => (g2.block k (by simpa using hk) (by simpa using hne)).trans (g1.block k hk (by simpa using hne))
  have e0 : Y.cell? ⟨bx, 0, none⟩ = some lv := by subst hY; rw [World.cell?_setCell_other _ _ _ _ (by simp), World.cell?_setCell_other _ _ _ _ (by simp)]; exact m0
  have e1 : Y.cell? ⟨bx, 1, none⟩ = some (.slice none 0 0) := by subst hY; rw [World.cell?_setCell_other _ _ _ _ (by simp)]; exact World.cell?_setCell_same' _ _ _ (by rw [m1]; rfl)
  have e2 : Y.cell? ⟨bx, 2, none⟩ = some (.slice none 0 0) := by subst hY; exact World.cell?_setCell_same' _ _ _ (by rw [World.cell?_setCell_other _ _ _ _ (by simp), m2]; rfl)
  have e3 : ∀ o, Y.frozen? ⟨bx, o, none⟩ = false := fun o => by subst hY; rw [World.frozen?_setCell, World.frozen?_setCell]; exact HM.out.fz o
  have hV : RefV B Y bx rs [] [] lv (.slice none 0 0) (.slice none 0 0) us [] [] t := HM.out.forget (fun k hk hne => hblk k (HM.out.reg.lt k hk).2 hne) (by omega) e0 e1 e2 e3
  have hbA : Below Y.heap.size Y ((Y.alloc (.cells #[.slice pa L1.length pc, .slice qa L2.length qc] 40)).alloc (.cells #[.slice pa L1.length pc, .slice qa L2.length qc] 40)) := (bl_one Y _).alloc (by simp) _
  have hS : St t t w Y := ⟨fun _ _ => rfl, fun k hk hz => hblk k hk (fun e => by rw [e, HM.out.tb] at hz; cases hz), by omega, g2.os.trans g1.os, g2.tape.trans g1.tape, g2.output.trans g1.output⟩
  have P1 : Y.ownsRow B 2 1 (.slice pa L1.length pc) L1.length (intsR L1) := row_cong HM.out.o1 (fun g hg => hblk g (HM.out.o1.lt g hg).2 (fun e => by have := HT1.out g hg; rw [e, HM.out.tb] at this; cases this))
  have P2 : Y.ownsRow B 2 1 (.slice qa L2.length qc) L2.length (intsR L2) := row_cong HM.out.o2 (fun g hg => hblk g (HM.out.o2.lt g hg).2 (fun e => by have := HT2.out g hg; rw [e, HM.out.tb] at this; cases this))
  obtain ⟨_, _, x1, X1⟩ := view_own HM.out.f1 P1
  obtain ⟨_, _, x2, X2⟩ := view_own HM.out.f2 P2
  cases x1
  cases x2
  exact ⟨_, L1, L2, rfl, HM.out.i1, HM.out.i2, ⟨⟨_, _, _, _, _, _, rfl, X1.below hbA, X2.below hbA⟩⟩, ⟨_, _, _, _, _, _, hV.below hbA⟩, hS.trans (St.ofBelow t hbA)⟩

set_option maxRecDepth 100000 in
set_option maxHeartbeats 4000000 in
theorem rwords_no {B : Nat} {w : World} {bx : Nat} {rs : List Reg} {R W : List Int} {t : Nat → Nat} (h : RefX B w bx rs R W t) (z : Int) (hz : z < 0 ∨ (rs.length : Int) ≤ z) :
    Calls Try.prog 19 #[.pointer (some ⟨bx, 0, none⟩), .int .i64 z] w fun e w' => e = .returned (.slice none 0 0) ∧ w' = w := by
  obtain ⟨lv, v1, v2, us, L1, L2, h⟩ := h
  obtain ⟨fa, fc, hlv, -, -, -⟩ := h.reg.form
  subst hlv
  have m0 := h.c0
  clear h
  rcases (show z < 0 ∨ (0 ≤ z ∧ (rs.length : Int) ≤ z) by omega) with h | ⟨h, h'⟩
  all_goals
    go_enter Try.func19, Try.ntmps19
    go_wp2
    go_ret
    exact ⟨rfl, rfl⟩

set_option maxRecDepth 100000 in
set_option maxHeartbeats 4000000 in
theorem rwords_yes {B : Nat} {w : World} {bx : Nat} {rs : List Reg} {R W : List Int} {t : Nat → Nat} (h : RefX B w bx rs R W t) (i : Nat) (hi : i < rs.length) (hl : (rs.getD i noReg).words.length ≤ 65536) :
    Calls Try.prog 19 #[.pointer (some ⟨bx, 0, none⟩), .int .i64 i] w fun e w' => ∃ a c, e = .returned (.slice a (rs.getD i noReg).words.length c) ∧ View w' a (rs.getD i noReg).words.length c (rs.getD i noReg).words ∧ Below w.heap.size w w' := by
  obtain ⟨lv, v1, v2, us, L1, L2, h⟩ := h
  obtain ⟨fa, fc, hlv, -, -, hcs⟩ := h.reg.form
  subst hlv
  have m0 := h.c0
  rcases hcs with h0 | ⟨g, rfl, hgz, -, hc⟩
  · omega
  obtain ⟨-, k1, -⟩ := hc i hi
  obtain ⟨a1, cc, e1, Vw⟩ := h.reg.view i hi
  rw [e1] at k1
  have HV : Hid _ := Vw
  have HF : Hid (∀ n ∈ (rs.getD i noReg).words, (Lit.int .i64 n).wf = true) := Vw.fits
  have i0 : (0 : Int) ≤ (i : Int) := by omega
  have i1 : (i : Int) < (rs.length : Int) := by omega
  have i2 : ¬ (rs.length : Int) ≤ (i : Int) := by omega
  clear hc h Vw e1
  generalize (rs.getD i noReg).words = ws at *
  go_enter Try.func19, Try.ntmps19
  go_wp2_with (first | (at_builtin; refine wpList_append_view rfl _ _ rfl (zs := ws) rfl rfl HV.out (by omega) ?_) | go_in)
  intro a' c' w' ho hb
  obtain ⟨_, _, e2, V2⟩ := view_own HF.out ho
  cases e2
  have HV2 : Hid _ := V2
  clear ho V2
  go_wp2
  go_ret
  exact ⟨a', c', rfl, HV2.out, hb⟩

end Go.Proofs.Ytfkpbmopneleiaa
