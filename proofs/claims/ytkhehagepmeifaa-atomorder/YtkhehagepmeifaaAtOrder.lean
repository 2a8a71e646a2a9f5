/- What is put into a queue is got in its order. -/
import Derived.Test.YtkhehagepmeifaaAtLive
namespace Go.Proofs.Ytkhehagepmeifaa
open Go.RowKit Go.Maps Go.Lib
set_option linter.unusedVariables false
set_option linter.unusedSimpArgs false

/-- Objects that lie as they are wherever the cells from block B on are as they are. -/
def Stay (B : Nat) (w : World) (a : Option Addr) (l c : Nat) (os : List At) : Prop := ∀ w1 : World, (∀ b o v, B ≤ b → w.cell? ⟨b, o, none⟩ = some v → w1.cell? ⟨b, o, none⟩ = some v) → AtsV w1 a l c os
theorem Res.stay {B : Nat} {w : World} {g n : Nat} {os : List At} (h : Res B w g n os) (hf : ∀ x ∈ os, AtFit x) (hB : B ≤ g) : Stay B w (some ⟨g, 0, none⟩) n n os := by
  intro w1 hk
  obtain ⟨xs, hx⟩ := h.row
  refine ⟨h.len, hf, fun e => (by cases e), own_room hx, .inr ⟨g, 0, rfl, fun i hi => ?_⟩⟩
  obtain ⟨c0, c1, c2, a1, l1, c1', c3, V, N⟩ := h.cell i hi
  simp only [Nat.zero_add]
  refine ⟨hk _ _ _ hB c0, hk _ _ _ hB c1, hk _ _ _ hB c2, a1, l1, c1', hk _ _ _ hB c3, ⟨V.count, V.fits, V.nilOf, V.room, ?_⟩⟩
  rcases V.cells with h0 | ⟨b, off, ha, hc⟩
  · exact .inl h0
  · exact .inr ⟨b, off, ha, fun j hj => hk _ _ _ (N _ ha).1 (hc j hj)⟩
theorem do_stay {w : World} {a : Option Addr} {l c : Nat} {os : List At} (h : AtsV w a l c os) (hl : l ≤ 1048576) (hi : ∀ x ∈ os, x.items.length * 8 ≤ 140737488355328) {th d : Int} {nm : ByteArray} {arg : Int} (ha : (Lit.int .i64 arg).wf = true) {os' : List At} {n1 n2 : Int} (hdo : doA os th d nm arg = (os', n1, n2)) :
    Calls Try.prog 11 #[.slice a l c, .int .i64 th, .int .i64 d, .string nm, .int .i64 arg] w fun e w' => e = .returned (.tuple #[.slice (some ⟨w.heap.size + 1, 0, none⟩) l l, .int .i64 n1, .int .i64 n2]) ∧ Stay (w.heap.size + 1) w' (some ⟨w.heap.size + 1, 0, none⟩) l l os' ∧ Below w.heap.size w w' := by
  refine (do_any h hl hi th d nm arg ha).mono ?_
  rintro e y ⟨rfl, hr, hb⟩
  have hf := doA_fit (th := th) (d := d) (nm := nm) (arg := arg) h.fits ha
  rw [hdo] at hr hf ⊢
  exact ⟨rfl, hr.stay hf (Nat.le_refl _), hb⟩
theorem Stay.ats {B : Nat} {w : World} {a : Option Addr} {l c : Nat} {os : List At} (h : Stay B w a l c os) : AtsV w a l c os := h w (fun _ _ _ _ h => h)

/-- What was put, what was got: rows of the call's own. -/
structure PG (B : Nat) (w : World) (P G : List Int) (pv gv : Value) : Prop where
  po : w.ownsRow B 2 1 pv P.length (P.flatMap intC)
  gt : w.ownsRow B 2 1 gv G.length (G.flatMap intC)
  pf : ∀ z ∈ P, (Lit.int .i64 z).wf = true
  gf : ∀ z ∈ G, (Lit.int .i64 z).wf = true
  ne : ∀ b, pv.ownBlock = some b → gv.ownBlock ≠ some b
theorem PG.below {B : Nat} {w w' : World} {P G : List Int} {pv gv : Value} (h : PG B w P G pv gv) (hb : Below w.heap.size w w') : PG B w' P G pv gv := ⟨row_thru h.po hb, row_thru h.gt hb, h.pf, h.gf, h.ne⟩
theorem PG.swap {B : Nat} {w : World} {P G : List Int} {pv gv : Value} (h : PG B w P G pv gv) : PG B w G P gv pv := ⟨h.gt, h.po, h.gf, h.pf, fun b h1 h2 => h.ne b h2 h1⟩
theorem PG.push {B : Nat} {w w1 : World} {P G : List Int} {pv gv : Value} (h : PG B w P G pv gv) {z : Int} (hz : (Lit.int .i64 z).wf = true) {g c : Nat} (ho : w1.ownsRow B 2 1 (.slice (some ⟨g, 0, none⟩) (P.length + 1) c) (P.length + 1) (P.flatMap intC ++ [.int .i64 z])) (hg : w.grownBy w1 pv.ownBlock) (hat : pv.ownBlock = some g ∨ g = w.heap.size) : PG B w1 (P ++ [z]) G (.slice (some ⟨g, 0, none⟩) (P.length + 1) c) gv := by
  refine ⟨?_, h.gt.kept hg ?_, fun y hy => ?_, h.gf, fun b hb hb2 => ?_⟩
  · rw [List.length_append, List.flatMap_append]; exact ho
  · cases e : gv.ownBlock with
    | none => exact .inl rfl
    | some b => exact .inr (fun e2 => h.ne b e2.symm e)
  · rcases List.mem_append.1 hy with h1 | h1
    · exact h.pf y h1
    · simp at h1; subst h1; exact hz
  · simp [Value.ownBlock] at hb
    subst hb
    rcases hat with e | e
    · exact h.ne _ e hb2
    · have := (h.gt.lt _ hb2).2; omega
theorem PG.form {B : Nat} {w : World} {P G : List Int} {pv gv : Value} (h : PG B w P G pv gv) : ∃ a c a' c', pv = .slice a P.length c ∧ gv = .slice a' G.length c' := by
  obtain ⟨a, c, e⟩ := own_form h.po
  obtain ⟨a', c', e'⟩ := own_form h.gt
  exact ⟨a, c, a', c', e, e'⟩
theorem PG.views {B : Nat} {w : World} {P G : List Int} {a a' : Option Addr} {l l' c c' : Nat} (h : PG B w P G (.slice a l c) (.slice a' l' c')) (hl : P.length = l) (hl' : G.length = l') : IntsV w a l c P ∧ IntsV w a' l' c' G := by
  subst hl hl'
  exact ⟨intsV_own h.pf rfl h.po, intsV_own h.gf rfl h.gt⟩
/-- A new number is pushed onto a row, the queue beside it. -/
theorem stay_grown {B0 : Nat} {y Z w1 : World} {a : Option Addr} {l c : Nat} {os : List At} {row : Option Nat} (h : Stay B0 y a l c os) (hb : Below y.heap.size y Z) (hg : Z.grownBy w1 row) (hr : ∀ b, row = some b → b < B0) : AtsV w1 a l c os :=
  h w1 (fun b o v hB hc => hg.cell (cell_thru hb hc) (fun e => by have := hr b e.symm; omega))

set_option maxRecDepth 100000 in
set_option maxHeartbeats 8000000 in
theorem order_out (n : Int) (h : n < 1 ∨ 8 < n) {a : Option Addr} {l c : Nat} (w : World) :
    Calls Try.prog 5 #[.int .i64 n, .slice a l c] w fun e w' => e = .returned (.bool true) ∧ Below w.heap.size w w' := by
  rcases (show n < 1 ∨ (¬ n < 1 ∧ 8 < n) by omega) with h1 | ⟨h1, h2⟩
  all_goals
    clear h
    go_enter Try.func5, Try.ntmps5
    go_wp2_with (go_at_call 9; refine (live_any _).mono ?_; rintro e y ⟨rfl, hb⟩)
    go_ret
    exact ⟨rfl, hb⟩

theorem qu_items {n : Int} {zs : List Int} (h : zs.length ≤ 1000) : ∀ x ∈ quA n zs, x.items.length * 8 ≤ 140737488355328 := fun x hx => by simp [quA] at hx; subst hx; simp; omega

set_option maxRecDepth 100000 in
set_option maxHeartbeats 8000000 in
theorem order_in {w : World} (n : Int) (n1 : 1 ≤ n) (n8 : n ≤ 8) (wn : (Lit.int .i64 n).wf = true) {a : Option Addr} {l c : Nat} {ops : List Int} (h : IntsV w a l c ops) :
    Calls Try.prog 5 #[.int .i64 n, .slice a l c] w fun e w' => e = .returned (.bool true) ∧ Below w.heap.size w w' := by
  obtain ⟨i1, hi1, hz10, hz11, hz12⟩ := info_parts infoI
  have HV : Hid _ := h
  have HC : Hid _ := h.count
  have hrm := h.room
  have hmax : maxLen = 9223372036854775807 := rfl
  have HQ : Hid _ := ats_one w nmQ n 0 (fit_lit _ (by decide) wn (by decide))
  obtain ⟨W1, hW1⟩ : ∃ W1, w.alloc (.cells #[.string { data := #[113] }, .int .i64 n, .int .i64 0, .slice none 0 0] 35) = W1 := ⟨_, rfl⟩
  have b1 : Below w.heap.size w W1 := by subst hW1; exact bl_one _ _
  have HQ1 : Hid (AtsV W1 (some ⟨w.heap.size, 0, none⟩) 1 1 (quA n [])) := by show AtsV _ _ _ _ _; subst hW1; exact HQ.out
  have HB1 : Hid _ := b1
  have HP0 : Hid (PG w.heap.size W1 [] [] (.slice none 0 0) (.slice none 0 0)) := ⟨World.ownsRow_nil _ _ _ _, World.ownsRow_nil _ _ _ _, by simp, by simp, by simp [Value.ownBlock]⟩
  have hn1 : ¬ n < 1 := by omega
  have hn8 : ¬ 8 < n := by omega
  have HN1 : Hid _ := n1
  have HN8 : Hid _ := n8
  clear b1 HQ h wn
  go_enter Try.func5, Try.ntmps5
  go_wp2_with fail
  go_loopg [5, 6, 7, 8] l (fun r qv pv gv iv wq => ∃ (k g p q : Nat) (P G zs : List Int) (ap ag : Option Addr) (cp cg : Nat), qv = .slice (some ⟨g, 0, none⟩) 1 1 ∧ pv = .slice ap p cp ∧ gv = .slice ag q cg ∧ iv = .int .i64 k ∧ k ≤ l ∧ k ≤ 80 ∧ l - k ≤ r ∧ p ≤ k ∧ q ≤ p ∧ (p : Int) - q ≤ n ∧ Hid (P.length = p ∧ G.length = q ∧ P = G ++ zs ∧ ∀ z ∈ zs, 0 ≤ z) ∧ Hid (PG w.heap.size wq P G (.slice ap p cp) (.slice ag q cg)) ∧ Hid (AtsV wq (some ⟨g, 0, none⟩) 1 1 (quA n zs)) ∧ Hid (Below w.heap.size w wq))
  case atStart => exact ⟨0, _, 0, 0, [], [], [], none, none, 0, 0, rfl, rfl, rfl, rfl, Nat.zero_le _, by omega, by omega, by omega, by omega, by omega, ⟨rfl, rfl, rfl, by simp⟩, HP0.out, HQ1.out, HB1.out⟩
  case round =>
    obtain ⟨k, g, p, q, P, G, zs, ap, ag, cp, cg, rfl, rfl, rfl, rfl, hk, hk80, hr, hp, hq, hpq, HE, HPG, HAV, HBL⟩ := hrel
    by_cases hlt : k < l ∧ k < 80
    · obtain ⟨hlt, hlt80⟩ := hlt
      rcases HV.out.cells with h0 | ⟨b, off, hA, hc⟩
      · omega
      have q0 := cell_thru HBL.out (hc k hlt)
      have HFZ : Hid _ := HV.out.fits (ops.getD k 0) (by have := HC.out; simp [List.getD, show k < ops.length by omega])
      generalize ops.getD k 0 = z at q0 HFZ
      have hii : (k : Int) < l := by omega
      have hi80 : (k : Int) < 80 := by omega
      have hin : 0 ≤ (k : Int) := by omega
      have HT0 : Hid (0 ≤ (k : Int) % 4) := by show _ ≤ _; omega
      have HT3 : Hid ((k : Int) % 4 ≤ 3) := by show _ ≤ _; omega
      have hzl : zs.length = p - q := by have := HE.out.1; rw [HE.out.2.2.1, List.length_append, HE.out.2.1] at this; omega
      have HLZ : Hid ((zs.length : Int) ≤ n ∧ zs.length ≤ 8) := ⟨by omega, by omega⟩
      have HZL : Hid _ := hzl
      subst hA
      clear hc hzl
      by_cases hneg : z < 0
      · cases zs with
        | nil =>
          have hpe : p = q := by have := HZL.out; simp at this; omega
          have HDO : Hid _ := get_no (n := n) (th := (k : Int) % 4) (arg := z) HN1.out HN8.out HT0.out HT3.out
          subst hpe
          go_wp2_with fail
          refine (do_stay HAV.out (by decide) (qu_items (by have := HLZ.out; omega)) HFZ.out HDO.out).mono ?_
          rintro e y ⟨rfl, h1, g1⟩
          have HS1 : Hid _ := h1
          have HPY : Hid (PG w.heap.size y P G (.slice ap p cp) (.slice ag p cg)) := HPG.out.below g1
          have B1 : Hid (Below w.heap.size w y) := HBL.out.trans (g1.mono HBL.out.size)
          have q1 := cell_thru g1 q0
          clear h1 g1 q0
          have A1 : Hid _ := Stay.ats HS1.out
          have HE2 : Hid _ := HE.out
          go_wp2_with fail
          go_roundg (l - (k + 1))
          case measure => omega
          case rel => exact ⟨k + 1, _, p, p, P, G, [], ap, ag, cp, cg, rfl, rfl, rfl, by first | rfl | (congr 1; omega), by omega, by omega, Nat.le_refl _, by omega, by omega, by omega, HE2.out, HPY.out, A1.out, B1.out⟩
        | cons y0 ys =>
          have hpe : q + 1 ≤ p := by have := HZL.out; simp at this; omega
          have HNN : Hid _ := HE.out.2.2.2
          have hy0 : 0 ≤ y0 := HNN.out y0 (by simp)
          have HDO : Hid _ := get_yes (n := n) (z := y0) (zs := ys) (th := (k : Int) % 4) (arg := z) HN1.out HN8.out HLZ.out.1 HNN.out HT0.out HT3.out
          have HFY : Hid ((Lit.int .i64 y0).wf = true) := HPG.out.pf y0 (by rw [HE.out.2.2.1]; simp)
          go_wp2_with fail
          refine (do_stay HAV.out (by decide) (qu_items (by have := HLZ.out; omega)) HFZ.out HDO.out).mono ?_
          rintro e y ⟨rfl, h1, g1⟩
          have HS1 : Hid _ := h1
          have HPY : Hid (PG w.heap.size y P G (.slice ap p cp) (.slice ag q cg)) := HPG.out.below g1
          have B1 : Hid (Below w.heap.size w y) := HBL.out.trans (g1.mono HBL.out.size)
          have q1 := cell_thru g1 q0
          clear h1 g1 q0
          obtain ⟨Z, hZ⟩ : ∃ Z, y.alloc (.cells #[.int .i64 y0] 2) = Z := ⟨_, rfl⟩
          have bZ : Below y.heap.size y Z := by subst hZ; exact bl_one _ _
          have HPZ : Hid (PG w.heap.size Z P G (.slice ap p cp) (.slice ag q cg)) := HPY.out.below bZ
          have HOZ : Hid (Z.ownsRow w.heap.size 2 1 (.slice ag q cg) q (G.flatMap intC)) := by have := HPZ.out.gt; rw [HE.out.2.1] at this; exact this
          have HBZ : Hid (Below y.heap.size y Z) := bZ
          have HZB : Hid (w.heap.size ≤ Z.heap.size) := Nat.le_trans B1.out.size bZ.size
          have q2 := cell_thru bZ q1
          have HNC : Hid (∀ j u, ([.int .i64 y0] : List Value)[j]? = some u → Z.cell? ((⟨y.heap.size, 0, none⟩ : Addr).add j) = some u) := by
            intro j u hu
            match j, hu with
            | 0, hu => subst hZ; simp at hu; subst hu; exact cell_last (by simp) (by simp)
            | j + 1, hu => simp at hu
          clear bZ
          go_wp2_with (first | (at_builtin; refine wpList_append_lies _ rfl _ _ 33 rfl w.heap.size 2 i1 _ 1 8 Try.underlying33 hi1 hz10 hz11 hz12 rfl (by decide) (.slice ag q cg) q (G.flatMap intC) rfl HOZ.out ⟨y.heap.size, 0, none⟩ 1 1 [.int .i64 y0] rfl rfl HNC.out (by intro u hu; simp at hu; subst hu; rfl) (by decide) (by omega) (by omega) HZB.out Z.heap.size rfl ?_; intro ga ca w1 ho1 hg1 hat1 hlt1; have HO1 : Hid _ := ho1; have HG1 : Hid _ := hg1; have HAT1 : Hid _ := hat1; clear ho1 hg1 hat1) | fail)
          have HLT : Hid (∀ b, (Value.slice ag q cg).ownBlock = some b → b < wr.heap.size + 1) := fun b hb => by
            have := (HPG.out.gt.lt b hb).2
            omega
          have A1 : Hid _ := stay_grown HS1.out HBZ.out HG1.out HLT.out
          have B2 : Hid (Below w.heap.size w w1) := by
            have hb := B1.out.trans (HBZ.out.mono B1.out.size)
            refine ⟨HG1.out.os.trans hb.os, HG1.out.tape.trans hb.tape, HG1.out.output.trans hb.output, Nat.le_trans hb.size HG1.out.size, fun i hi => (HG1.out.block i (by have := hb.size; omega) ?_).trans (hb.block i hi)⟩
            intro e
            have := (HPG.out.gt.lt i e.symm).1
            omega
          have HE2 : Hid (P.length = p ∧ (G ++ [y0]).length = q + 1 ∧ P = (G ++ [y0]) ++ ys ∧ ∀ z ∈ ys, 0 ≤ z) := ⟨HE.out.1, by rw [List.length_append, HE.out.2.1]; rfl, by rw [HE.out.2.2.1]; simp, fun z hz => HNN.out z (by simp [hz])⟩
          have HP2 : Hid (PG w.heap.size w1 P (G ++ [y0]) (.slice ap p cp) (.slice (some ⟨ga, 0, none⟩) (q + 1) ca)) := by
            have := HPZ.out.swap.push HFY.out (g := ga) (c := ca) (by rw [HE.out.2.1]; exact HO1.out) HG1.out HAT1.out
            rw [HE.out.2.1] at this
            exact this.swap
          go_roundg (l - (k + 1))
          case measure => omega
          case rel => exact ⟨k + 1, _, p, (q + 1), P, (G ++ [y0]), ys, ap, (some ⟨ga, 0, none⟩), cp, ca, rfl, rfl, rfl, by first | rfl | (congr 1; omega), by omega, by omega, Nat.le_refl _, by omega, by omega, by omega, HE2.out, HP2.out, A1.out, B2.out⟩
      · by_cases hfull : (p : Int) - q = n
        · have HDO : Hid _ := put_no (n := n) (zs := zs) (th := (k : Int) % 4) (arg := z) HN1.out HN8.out HLZ.out.1 HE.out.2.2.2 HT0.out HT3.out (Or.inr (by have := HZL.out; omega))
          go_wp2_with fail
          refine (do_stay HAV.out (by decide) (qu_items (by have := HLZ.out; omega)) HFZ.out HDO.out).mono ?_
          rintro e y ⟨rfl, h1, g1⟩
          have HS1 : Hid _ := h1
          have HPY : Hid (PG w.heap.size y P G (.slice ap p cp) (.slice ag q cg)) := HPG.out.below g1
          have B1 : Hid (Below w.heap.size w y) := HBL.out.trans (g1.mono HBL.out.size)
          have q1 := cell_thru g1 q0
          clear h1 g1 q0
          have A1 : Hid _ := Stay.ats HS1.out
          have HE2 : Hid _ := HE.out
          go_wp2_with fail
          go_roundg (l - (k + 1))
          case measure => omega
          case rel => exact ⟨k + 1, _, p, q, P, G, zs, ap, ag, cp, cg, rfl, rfl, rfl, by first | rfl | (congr 1; omega), by omega, by omega, Nat.le_refl _, by omega, by omega, by omega, HE2.out, HPY.out, A1.out, B1.out⟩
        · have HDO : Hid _ := put_yes (n := n) (zs := zs) (th := (k : Int) % 4) (arg := z) HN1.out HN8.out HLZ.out.1 HE.out.2.2.2 HT0.out HT3.out (by have := HZL.out; omega)
          rcases (show (p : Int) + 1 - q = n ∨ ¬ (p : Int) + 1 - q = n by omega) with hm | hm
          all_goals
            go_wp2_with fail
            refine (do_stay HAV.out (by decide) (qu_items (by have := HLZ.out; omega)) HFZ.out HDO.out).mono ?_
            rintro e y ⟨rfl, h1, g1⟩
            have HS1 : Hid _ := h1
            have HPY : Hid (PG w.heap.size y P G (.slice ap p cp) (.slice ag q cg)) := HPG.out.below g1
            have B1 : Hid (Below w.heap.size w y) := HBL.out.trans (g1.mono HBL.out.size)
            have q1 := cell_thru g1 q0
            clear h1 g1 q0
            obtain ⟨Z, hZ⟩ : ∃ Z, y.alloc (.cells #[.int .i64 z] 2) = Z := ⟨_, rfl⟩
            have bZ : Below y.heap.size y Z := by subst hZ; exact bl_one _ _
            have HPZ : Hid (PG w.heap.size Z P G (.slice ap p cp) (.slice ag q cg)) := HPY.out.below bZ
            have HOZ : Hid (Z.ownsRow w.heap.size 2 1 (.slice ap p cp) p (P.flatMap intC)) := by have := HPZ.out.po; rw [HE.out.1] at this; exact this
            have HBZ : Hid (Below y.heap.size y Z) := bZ
            have HZB : Hid (w.heap.size ≤ Z.heap.size) := Nat.le_trans B1.out.size bZ.size
            have q2 := cell_thru bZ q1
            have HNC : Hid (∀ j u, ([.int .i64 z] : List Value)[j]? = some u → Z.cell? ((⟨y.heap.size, 0, none⟩ : Addr).add j) = some u) := by
              intro j u hu
              match j, hu with
              | 0, hu => subst hZ; simp at hu; subst hu; exact cell_last (by simp) (by simp)
              | j + 1, hu => simp at hu
            clear bZ
            go_wp2_with (first | (at_builtin; refine wpList_append_lies _ rfl _ _ 33 rfl w.heap.size 2 i1 _ 1 8 Try.underlying33 hi1 hz10 hz11 hz12 rfl (by decide) (.slice ap p cp) p (P.flatMap intC) rfl HOZ.out ⟨y.heap.size, 0, none⟩ 1 1 [.int .i64 z] rfl rfl HNC.out (by intro u hu; simp at hu; subst hu; rfl) (by decide) (by omega) (by omega) HZB.out Z.heap.size rfl ?_; intro ga ca w1 ho1 hg1 hat1 hlt1; have HO1 : Hid _ := ho1; have HG1 : Hid _ := hg1; have HAT1 : Hid _ := hat1; clear ho1 hg1 hat1) | fail)
            have HLT : Hid (∀ b, (Value.slice ap p cp).ownBlock = some b → b < wr.heap.size + 1) := fun b hb => by
              have := (HPG.out.po.lt b hb).2
              omega
            have A1 : Hid _ := stay_grown HS1.out HBZ.out HG1.out HLT.out
            have B2 : Hid (Below w.heap.size w w1) := by
              have hb := B1.out.trans (HBZ.out.mono B1.out.size)
              refine ⟨HG1.out.os.trans hb.os, HG1.out.tape.trans hb.tape, HG1.out.output.trans hb.output, Nat.le_trans hb.size HG1.out.size, fun i hi => (HG1.out.block i (by have := hb.size; omega) ?_).trans (hb.block i hi)⟩
              intro e
              have := (HPG.out.po.lt i e.symm).1
              omega
            have HE2 : Hid ((P ++ [z]).length = p + 1 ∧ G.length = q ∧ P ++ [z] = G ++ (zs ++ [z]) ∧ ∀ x ∈ zs ++ [z], 0 ≤ x) := ⟨by rw [List.length_append, HE.out.1]; rfl, HE.out.2.1, by rw [HE.out.2.2.1]; simp, fun x hx => by
              rcases List.mem_append.1 hx with h1 | h1
              · exact HE.out.2.2.2 x h1
              · simp at h1; subst h1; omega⟩
            have HP2 : Hid (PG w.heap.size w1 (P ++ [z]) G (.slice (some ⟨ga, 0, none⟩) (p + 1) ca) (.slice ag q cg)) := by
              have := HPZ.out.push HFZ.out (g := ga) (c := ca) (by rw [HE.out.1]; exact HO1.out) HG1.out HAT1.out
              rw [HE.out.1] at this
              exact this
            go_roundg (l - (k + 1))
            case measure => omega
            case rel => exact ⟨k + 1, _, (p + 1), q, (P ++ [z]), G, (zs ++ [z]), (some ⟨ga, 0, none⟩), ag, ca, cg, rfl, rfl, rfl, by first | rfl | (congr 1; omega), by omega, by omega, Nat.le_refl _, by omega, by omega, by omega, HE2.out, HP2.out, A1.out, B2.out⟩
    · have hstop : ¬ (k : Int) < l ∨ ¬ (k : Int) < 80 := by omega
      obtain ⟨VP, VG⟩ := HPG.out.views HE.out.1 HE.out.2.1
      have HVP : Hid _ := VP
      have HVG : Hid _ := VG
      have HGE : Hid (∀ j, j < q → P.getD j 0 = G.getD j 0) := fun j hj => by
        have := HE.out.2.1
        rw [HE.out.2.2.1]
        simp [List.getD, List.getElem?_append_left (show j < G.length by omega)]
      have HB2 : Hid _ := HBL.out
      have HSO : Hid _ := hq
      clear VP VG HBL HAV HPG
      generalize wr = wo at *
      have key : (k : Int) < l ∧ ¬ (k : Int) < 80 ∨ ¬ (k : Int) < l := by omega
      clear hstop hlt
      rcases key with ⟨hs1, hs2⟩ | hs1
      all_goals
        go_wp2_with fail
        go_loopg [13] q (fun r iv wq => ∃ (j : Nat), iv = .int .i64 j ∧ j ≤ q ∧ q - j ≤ r ∧ Hid (Below wo.heap.size wo wq))
        case atStart => exact ⟨0, rfl, Nat.zero_le _, by omega, Below.refl _ _⟩
        case round =>
          obtain ⟨j, rfl, hj, hr2, HBI⟩ := hrel
          by_cases hlt2 : j < q
          · rcases HVP.out.cells with h0 | ⟨b, off, hA, hc⟩
            · omega
            rcases HVG.out.cells with h0 | ⟨b', off', hA', hc'⟩
            · omega
            have t0 := cell_thru HBI.out (hc j (by omega))
            have t1 := cell_thru HBI.out (hc' j hlt2)
            rw [HGE.out j hlt2] at t0
            generalize G.getD j 0 = y at t0 t1
            have hde : (y != y) = false := by simp
            subst hA
            subst hA'
            have hjq : (j : Int) < q := by omega
            have hjp : (j : Int) < p := by omega
            have hjn : 0 ≤ (j : Int) := by omega
            clear hc hc'
            go_wp2_with fail
            go_quiet (fail)
            go_wp2_with fail
            go_roundg (q - (j + 1))
            case measure => omega
            case rel => exact ⟨j + 1, by first | rfl | (congr 1; omega), by omega, Nat.le_refl _, bl_drewN HBI.out _⟩
          · obtain rfl : j = q := by omega
            have B3 : Hid (Below w.heap.size w wr) := HB2.out.trans (HBI.out.mono HB2.out.size)
            go_wp2_with fail
            refine (live_any _).mono ?_
            rintro e y7 ⟨rfl, g7⟩
            have B7 : Hid _ := B3.out.trans (g7.mono B3.out.size)
            clear g7
            go_wp2
            go_ret
            exact ⟨rfl, B7.out⟩

theorem order_any {w : World} (n : Int) (wn : (Lit.int .i64 n).wf = true) {a : Option Addr} {l c : Nat} {ops : List Int} (h : IntsV w a l c ops) :
    Calls Try.prog 5 #[.int .i64 n, .slice a l c] w fun e w' => e = .returned (.bool true) ∧ Below w.heap.size w w' := by
  by_cases hn : n < 1 ∨ 8 < n
  · exact order_out n hn w
  · exact order_in n (by omega) (by omega) wn h
end Go.Proofs.Ytkhehagepmeifaa
