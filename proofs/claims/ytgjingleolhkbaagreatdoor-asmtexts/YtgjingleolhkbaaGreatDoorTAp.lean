/- How many bytes an instruction takes, as the program reckons it. -/
import Derived.Test.YtgjingleolhkbaaGreatDoorTAd
import Derived.Test.YtgjingleolhkbaaGreatDoorTAo
import Derived.Test.YtgjingleolhkbaaGreatDoorTAk
import Derived.WalkMore
namespace Go.Proofs.YtgjingleolhkbaaGreatDoor.J

def I.psize (op : Int) : Int := if I.regs op = 0 then 1 + I.num op else 2 + I.num op
theorem I.psize_size (op : Int) (h : 1 ≤ op ∧ op ≤ 33) : I.psize op = I.size op := by
 rcases I.cases33 op h.1 h.2 with rfl | rfl | rfl | rfl | rfl | rfl | rfl | rfl | rfl | rfl | rfl | rfl | rfl | rfl | rfl | rfl | rfl | rfl | rfl | rfl | rfl | rfl | rfl | rfl | rfl | rfl | rfl | rfl | rfl | rfl | rfl | rfl | rfl <;> decide

end Go.Proofs.YtgjingleolhkbaaGreatDoor.J

/- ins.Encode and ins.Size, whatever the instruction. -/
namespace Go.Proofs.YtgjingleolhkbaaGreatDoor.J
open Go.RowKit
set_option linter.unusedVariables false

def I.fits (op a b n : Int) : Bool := decide (1 ≤ op ∧ op ≤ 33) && I.bears (I.regs op) (I.num op) a b n
def I.encE (op a b n : Int) : Int := if I.fits op a b n = true then (if I.numOk (I.num op) (I.nat op) n = true then 0 else 7) else 1
def I.encV (op a b n : Int) : List Int := if I.fits op a b n = true then (if I.numOk (I.num op) (I.nat op) n = true then [op] ++ I.regB (I.regs op) a b ++ I.numW (I.num op) n else []) else []

theorem I.bears_regs {r m a b n : Int} (h : I.bears r m a b n = true) : (0 ≤ a ∧ a < 8) ∧ 0 ≤ b ∧ b < 8 := by
 unfold I.bears at h
 have h2 := Bool.and_eq_true_iff.1 (Bool.and_eq_true_iff.1 h).2
 exact ⟨of_decide_eq_true h2.1, of_decide_eq_true h2.2⟩

theorem encode_any (op a b n : Int) (w : World) (ht : Tab w) :
  Calls Tryz.prog 76 #[insV op a b n] w fun e w' => e = .returned (.tuple #[.string (strOfNums (I.encV op a b n)), .int .i64 (I.encE op a b n)]) ∧ Below w.heap.size w w' := by
 unfold I.encV I.encE
 by_cases h : 1 ≤ op ∧ op ≤ 33
 ·cases hb : I.bears (I.regs op) (I.num op) a b n with
  | false =>
   have hf : I.fits op a b n = false := by unfold I.fits; rw [hb]; simp
   rw [if_neg (by rw [hf]; decide), if_neg (by rw [hf]; decide)]
   exact enc_bad op a b n h hb w ht
  | true =>
   have hf : I.fits op a b n = true := by unfold I.fits; rw [hb, decide_eq_true h]; rfl
   rw [if_pos hf, if_pos hf]
   have hr := I.bears_regs hb
   exact enc_ok op a b n h hr.1.1 hr.1.2 hr.2.1 hr.2.2 hb w ht
 ·have hf : I.fits op a b n = false := by unfold I.fits; rw [decide_eq_false h]; rfl
  rw [if_neg (by rw [hf]; decide), if_neg (by rw [hf]; decide)]
  exact enc_none op a b n (by omega) w ht

set_option maxRecDepth 100000 in
set_option maxHeartbeats 8000000 in
theorem size_any (op : Int) (w : World) (ht : Tab w) :
  Calls Tryz.prog 71 #[.int .i64 op] w fun e w' => e = .returned (.int .i64 (I.size op)) ∧ Below w.heap.size w w' := by
 by_cases h : 1 ≤ op ∧ op ≤ 33
 ·rw [← I.psize_size op h]
  obtain ⟨v, hv⟩ : ∃ v, I.psize op = v := ⟨_, rfl⟩
  have HV : Hid (I.psize op = v) := hv
  rw [hv]
  clear hv
  go_enter Tryz.func71, Tryz.ntmps71
  go_wp2_with (first | (go_at_call 93; refine (formOf_yes _ h _ ht).mono ?_; rintro e w' ⟨rfl, rfl⟩) | (go_at_call 94; refine (fsize_any _ _ _ (I.regs_range _) (I.num_range _) _).mono ?_; rintro e w' ⟨rfl, rfl⟩))
  all_goals
   go_ret
   refine ⟨congrArg (fun x => Ending.returned (.int .i64 x)) ?_, bl3 _ _ _ _⟩
   rw [← HV.out]
   unfold I.psize
   first | rw [if_pos ‹I.regs op = 0›] | rw [if_neg ‹¬ I.regs op = 0›]
 ·rw [I.size_none (by omega)]
  go_enter Tryz.func71, Tryz.ntmps71
  go_wp2_with (go_at_call 93; refine (formOf_no _ ?_ _ ht).mono ?_; omega; rintro e w' ⟨rfl, rfl⟩)
  go_ret
  exact ⟨rfl, bl2 _ _ _⟩

end Go.Proofs.YtgjingleolhkbaaGreatDoor.J

/- Jumps that are too far become long. -/
namespace Go.Proofs.YtgjingleolhkbaaGreatDoor
open Go.RowKit Go.Maps
set_option linter.unusedVariables false
set_option linter.unusedSimpArgs false

def JIn (n : Nat) (js : List (Nat × Nat)) : Prop := ∀ j ∈ js, j.1 < n ∧ j.2 < n
section
variable {w W : World} {yb bm : Nat} {ai : Option Addr} {li ci : Nat} {ts : List X.It} {ap aj : Option Addr} {cp cj : Nat} {ops bs : List Int} {js : List (Nat × Nat)} {sz : Int}
set_option maxRecDepth 100000 in
set_option maxHeartbeats 8000000 in
theorem lengthen_any (h : LV w W yb bm ai li ci ts ap aj cp cj ops bs js sz) (hv : ItsV w ai li ci ts) (hJ : J.Tab w) (hlen : ops.length = ts.length) (hl : ops.length ≤ 20000) (hn : Near bs) (hjs : JIn ops.length js) (i : Nat) (hi : i < js.length) (gj : Nat) (hgj : aj = some ⟨gj, 0, none⟩) (n c : Nat) (hnn : n = js.length - i) :
  Calls Tryz.prog 74 #[.pointer (some ⟨yb, 0, none⟩), .slice (some ⟨gj, i * 2, none⟩) n c] W fun e w' => e = .returned (.tuple #[]) ∧ LV w w' yb bm ai li ci ts ap aj cp cj (Z.lens ts bs (js.drop i) ops) bs js sz := by
 have HV0 : Hid _ := h
 have HIT : Hid _ := hv
 have HJT : Hid (J.Tab w) := hJ
 have HJS : Hid _ := hjs
 have HNR : Hid _ := hn
 have HGJ : Hid _ := hgj
 have hcj : js.length ≤ 9223372036854775807 := by obtain ⟨g, -, -, -, -, h1, h2⟩ := h.jumpAt hi; unfold maxLen at h2; omega
 have hn1 : n ≤ 9223372036854775807 := by omega
 have HNN : Hid _ := hnn
 have HLT : Hid _ := hlen
 clear h hv hJ hjs hn hgj hnn hlen
 go_enter Tryz.func74, Tryz.ntmps74
 go_wp2_with fail
 go_loopg [9] n (fun r iv wq => ∃ (m : Nat), iv = .int .i64 m ∧ m ≤ n ∧ n - m ≤ r ∧ Hid (∃ qs : List Int, LV w wq yb bm ai li ci ts ap aj cp cj qs bs js sz ∧ qs.length = ops.length ∧ Z.lens ts bs (js.drop i) ops = Z.lens ts bs (js.drop (i + m)) qs))
 case atStart => exact ⟨0, rfl, Nat.zero_le _, by omega, ⟨ops, HV0.out, rfl, rfl⟩⟩
 case round =>
  obtain ⟨m, rfl, hm, hr, HX⟩ := hrel
  obtain ⟨qs, hLV, hql, hlens⟩ := HX.out
  have HLV : Hid _ := hLV
  have HLE : Hid _ := hlens
  have HQL : Hid _ := hql
  clear HX hlens
  by_cases hlt : m < n
  ·have hii : (m : Int) < n := by omega
   have hin : 0 ≤ (m : Int) := by omega
   have hj : i + m < js.length := by have := HNN.out; omega
   obtain ⟨g2, hg2, x0, x1, hgl, -, -⟩ := hLV.jumpAt hj
   rw [HGJ.out] at hg2
   cases hg2
   obtain ⟨j, hjd⟩ : ∃ j, js.getD (i + m) (0, 0) = j := ⟨_, rfl⟩
   have HJE : Hid (js.drop (i + m) = j :: js.drop (i + m + 1)) := by
    show _ = _
    rw [List.drop_eq_getElem_cons hj]
    congr 1
    simp only [List.getD, List.getElem?_eq_getElem hj, Option.getD_some] at hjd
    exact hjd
   have hjm : j ∈ js := by rw [← hjd]; simp [List.getD, hj]
   obtain ⟨hj1, hj2⟩ := HJS.out j hjm
   rw [hjd] at x0 x1
   have e0 : (i + m) * 2 = i * 2 + m * 2 := by omega
   rw [e0] at x0 x1
   have hfar := fun W' (hb : Below wr.heap.size wr W') => isTooFar_any (hLV.below hb) HIT.out (by rw [hql]; exact HLT.out) HNR.out j (by rw [hql]; exact hj1) (by rw [hql]; exact hj2)
   obtain ⟨jn, jk⟩ := j
   simp only at x0 x1 hj1 hj2 hfar
   have HL2 : Hid (LV w (wr.alloc (.cells #[.int .i64 jn, .int .i64 jk] 109)) yb bm ai li ci ts ap aj cp cj qs bs js sz) := hLV.below (bl1 _ _)
   have b0 := hfar (wr.alloc (.cells #[.int .i64 jn, .int .i64 jk] 109)) (bl1 _ _)
   obtain ⟨Y0, hY0⟩ : ∃ Y0, wr.alloc (.cells #[.int .i64 jn, .int .i64 jk] 109) = Y0 := ⟨_, rfl⟩
   rw [hY0] at b0 HL2
   have f0 : Y0.cell? ⟨wr.heap.size, 0, none⟩ = some (.int .i64 jn) := by subst hY0; exact cellA rfl rfl
   have f1 : Y0.cell? ⟨wr.heap.size, 1, none⟩ = some (.int .i64 jk) := by subst hY0; exact cellA rfl rfl
   clear hfar hjd hjm hLV e0 hql
   cases hT : Z.tooFar ts qs bs (jn, jk) with
   | false =>
    rw [hT] at b0
    have HNX : Hid (Z.lens ts bs (js.drop i) ops = Z.lens ts bs (js.drop (i + (m + 1))) qs) := by
     show _ = _
     rw [HLE.out, HJE.out, Z.lens, hT]
     simp only [Bool.false_eq_true, if_false]
     rfl
    clear hT
    go_wp2_with fail
    refine b0.mono ?_
    rintro e w1 ⟨rfl, hb1⟩
    have HL3 : Hid _ := LV.below HL2.out hb1
    clear hb1 b0 hY0 f0 f1
    go_wp2_with fail
    go_roundg (n - (m + 1))
    case measure => omega
    case rel => exact ⟨m + 1, by go_num, by omega, Nat.le_refl _, ⟨qs, HL3.out, HQL.out, HNX.out⟩⟩
   | true =>
    rw [hT] at b0
    obtain ⟨tt, htt⟩ : ∃ tt, ts.getD jn X.noIt = tt := ⟨_, rfl⟩
    have HNX : Hid (Z.lens ts bs (js.drop i) ops = Z.lens ts bs (js.drop (i + (m + 1))) (qs.set jn tt.op)) := by
     show _ = _
     rw [HLE.out, HJE.out, Z.lens, hT]
     simp only [if_true]
     rw [htt]
     rfl
    clear hT
    go_wp2_with fail
    refine b0.mono ?_
    rintro e w1 ⟨rfl, hb1⟩
    have HL3 : Hid (LV w w1 yb bm ai li ci ts ap aj cp cj qs bs js sz) := LV.below HL2.out hb1
    have g0 := cell_thru hb1 f0
    have hjnl : jn < li := by rw [← HIT.out.count, ← HLT.out]; exact hj1
    obtain ⟨b, off, t, aw, lw, cw, rfl, hgt, -, -, -, c2, -, -, -, -, -⟩ := (HIT.out.below HL3.out.low).at hjnl
    rw [htt] at hgt
    subst hgt
    have hjq : jn < qs.length := by rw [HQL.out]; exact hj1
    obtain ⟨g, rfl, hgw, hgl2, hgy, hc, hfz, -⟩ := HL3.out.piece hjq
    obtain ⟨k0, k1, k2⟩ := hc jn hjq
    obtain ⟨-, y1, y2, -⟩ := HL3.out.cells
    have hrm := HL3.out.pr.room
    have hrm2 := HIT.out.room
    have hq' : (jn : Int) < qs.length := by omega
    have hjl' : (jn : Int) < li := by omega
    have hj0 : 0 ≤ (jn : Int) := by omega
    have hfz0 := hfz (jn * 3)
    have hfz1 := hfz (jn * 3 + 1)
    have HJW : Hid (J.Tab w1) := J.Tab.below HJT.out HL3.out.low
    clear hb1 b0 hY0 f0 f1 hc hfz x0 x1
    have hsize : ∀ W', Below w1.heap.size w1 W' → Calls Tryz.prog 71 #[.int .i64 tt.op] W' fun e w' => e = .returned (.int .i64 (Z.sz tt.op)) ∧ Below W'.heap.size W' w' := fun W' hb => J.size_any tt.op W' (J.Tab.below HJW.out hb)
    obtain ⟨o, ho⟩ : ∃ o, tt.op = o := ⟨_, rfl⟩
    obtain ⟨so, hso⟩ : ∃ so, Z.sz o = so := ⟨_, rfl⟩
    have HSO : Hid _ := hso
    rw [ho] at hsize c2 HNX
    rw [hso] at hsize
    have HSP : Hid (∀ (W' : World), Below w1.heap.size w1 W' → LV w ((W'.setCell ⟨g, jn * 3, none⟩ (.int .i64 o)).setCell ⟨g, jn * 3 + 1, none⟩ (.int .i64 so)) yb bm (some ⟨b, off, none⟩) li ci ts (some ⟨g, 0, none⟩) aj cp cj (qs.set jn o) bs js sz) := fun W' hb => by
     rw [← HSO.out]
     exact ((LV.below HL3.out hb).setOp rfl hjq o).1
    have HQS : Hid ((qs.set jn o).length = ops.length) := by show _ = _; rw [List.length_set]; exact HQL.out
    have HK : Hid (∀ (W' : World), Below w1.heap.size w1 W' → W'.cell? ⟨yb, 2, none⟩ = some (.slice (some ⟨g, 0, none⟩) qs.length cp) ∧ W'.cell? ⟨wr.heap.size, 0, none⟩ = some (.int .i64 jn)) := fun W' hb => ⟨cell_thru hb y2, cell_thru hb g0⟩
    have hgne : g ≠ wr.heap.size := by
     obtain ⟨g3, e3, -, h3, -⟩ := HLV.out.piece hjq
     cases e3
     omega
    have hgne2 := Ne.symm hgne
    clear ho hso
    go_wp2_with fail
    go_quiet (fail)
    go_wp2_with fail
    go_region_held3 (fun w' : World => w'.cell? ⟨yb, 2, none⟩ = some (.slice (some ⟨g, 0, none⟩) qs.length cp) ∧ w'.cell? ⟨wr.heap.size, 0, none⟩ = some (.int .i64 jn)) (first | (exact HK.out _ hB1) | go_keep) ((go_at_call 71; refine (hsize _ (bl_drewN (Below.refl _ _) _)).mono ?_; rintro e y1 ⟨rfl, hb1⟩; have hB1 := (bl_drewN (Below.refl w1.heap.size w1) _).trans hb1; have z0 := cell_thru hB1 k0; have z1 := cell_thru hB1 k1; have z2 := (hB1.frozen (p := ⟨g, jn * 3, none⟩) hgl2).trans hfz0; have z3 := (hB1.frozen (p := ⟨g, jn * 3 + 1, none⟩) hgl2).trans hfz1))
    have HLN : Hid _ := HSP.out _ hB1
    clear hB1 hb1 z0 z1 z2 z3
    go_wp2_with fail
    go_roundg (n - (m + 1))
    case measure => omega
    case rel => exact ⟨m + 1, by go_num, by omega, Nat.le_refl _, ⟨_, HLN.out, HQS.out, HNX.out⟩⟩
  ·obtain rfl : m = n := by omega
   have hii : ¬ (m : Int) < m := by omega
   have HR : Hid (LV w wr yb bm ai li ci ts ap aj cp cj (Z.lens ts bs (js.drop i) ops) bs js sz) := by
    show LV _ _ _ _ _ _ _ _ _ _ _ _ _ _ _ _
    rw [HLE.out, List.drop_eq_nil_of_le (by have := HNN.out; omega)]
    exact HLV.out
   go_wp2_with fail
   go_end0
   exact ⟨rfl, HR.out⟩
end

end Go.Proofs.YtgjingleolhkbaaGreatDoor

/- Jumps become long until none is too far. -/
namespace Go.Proofs.YtgjingleolhkbaaGreatDoor
namespace Z
set_option linter.unusedVariables false
theorem filter_le {α : Type} {p q : α → Bool} : ∀ (l : List α), (∀ x ∈ l, p x = true → q x = true) → (l.filter p).length ≤ (l.filter q).length
 | [], _ => by simp
 | x :: l, h => by
  have ih := filter_le l (fun y hy => h y (by simp [hy]))
  cases hp : p x with
  | true =>
   have hq := h x (by simp) hp
   simp [hp, hq]; exact ih
  | false =>
   cases hq : q x <;> simp [hp, hq] <;> omega
theorem filter_lt {α : Type} {p q : α → Bool} : ∀ (l : List α), (∀ x ∈ l, p x = true → q x = true) → ∀ y ∈ l, q y = true → p y = false → (l.filter p).length + 1 ≤ (l.filter q).length
 | [], _, y, hy, _, _ => by simp at hy
 | x :: l, h, y, hy, hqy, hpy => by
  have ih0 := filter_le l (fun z hz => h z (by simp [hz]))
  rcases List.mem_cons.1 hy with rfl | hy
  ·simp [hqy, hpy]; exact ih0
  ·have ih := filter_lt l (fun z hz => h z (by simp [hz])) y hy hqy hpy
   cases hp : p x with
   | true =>
    have hq := h x (by simp) hp
    simp [hp, hq]; omega
   | false => cases hq : q x <;> simp [hp, hq] <;> omega
theorem getD_set_ne' (l : List Int) (i : Nat) (v : Int) (k : Nat) (h : k ≠ i) : (l.set i v).getD k 0 = l.getD k 0 := by
 simp only [List.getD]; rw [List.getElem?_set_ne (fun e => h e.symm)]
theorem getD_set_eq' (l : List Int) (i : Nat) (v : Int) (h : i < l.length) : (l.set i v).getD i 0 = v := by simp [List.getD, h]
theorem set_sub {ts : List X.It} {ops : List Int} {i : Nat} (hi : i < ops.length) : ∀ x : Nat × Nat, decide ((ops.set i (ts.getD i X.noIt).op).getD x.1 0 ≠ (ts.getD x.1 X.noIt).op) = true → decide (ops.getD x.1 0 ≠ (ts.getD x.1 X.noIt).op) = true := fun x hx => by
 by_cases e : x.1 = i
 ·rw [e, getD_set_eq' _ _ _ hi] at hx; simp at hx
 ·rw [getD_set_ne' _ _ _ _ e] at hx; exact hx
theorem shorts_set_le {ts : List X.It} {ops : List Int} {i : Nat} (hi : i < ops.length) : shorts ts (ops.set i (ts.getD i X.noIt).op) ≤ shorts ts ops :=
 filter_le _ (fun x _ hx => set_sub hi x hx)
theorem shorts_set_lt {ts : List X.It} {ops bs : List Int} {j : Nat × Nat} (hi : j.1 < ops.length) (hj : j ∈ js ts) (hf : tooFar ts ops bs j = true) : shorts ts (ops.set j.1 (ts.getD j.1 X.noIt).op) + 1 ≤ shorts ts ops := by
 refine filter_lt _ (fun x _ hx => set_sub hi x hx) j hj ?_ ?_
 ·unfold tooFar at hf
  exact (Bool.and_eq_true_iff.1 hf).1
 ·rw [getD_set_eq' _ _ _ hi]; simp
theorem lens_le {ts : List X.It} {bs : List Int} : ∀ (l : List (Nat × Nat)) (ops : List Int), (∀ j ∈ l, j.1 < ops.length) → shorts ts (lens ts bs l ops) ≤ shorts ts ops
 | [], ops, _ => Nat.le_refl _
 | j :: r, ops, h => by
  rw [lens]
  split
  ·exact Nat.le_trans (lens_le r _ (fun x hx => by rw [List.length_set]; exact h x (by simp [hx]))) (shorts_set_le (h j (by simp)))
  ·exact lens_le r _ (fun x hx => h x (by simp [hx]))
theorem lens_lt {ts : List X.It} {ops bs : List Int} {a b : List (Nat × Nat)} {j : Nat × Nat} (hd : js ts = a ++ j :: b) (ha : ∀ x ∈ a, tooFar ts ops bs x = false) (hf : tooFar ts ops bs j = true) (h : ∀ x ∈ js ts, x.1 < ops.length) : shorts ts (lens ts bs (j :: b) ops) + 1 ≤ shorts ts ops := by
 have hj : j ∈ js ts := by rw [hd]; simp
 rw [lens, if_pos hf]
 have h1 := lens_le (ts := ts) (bs := bs) b (ops.set j.1 (ts.getD j.1 X.noIt).op) (fun x hx => by rw [List.length_set]; exact h x (by rw [hd]; simp [hx]))
 have h2 := shorts_set_lt (h j hj) hj hf
 omega
theorem settle_done {ts : List X.It} {ops : List Int} (h : anyFar ts ops = false) : ∀ n, settle ts n ops = ops
 | 0 => rfl
 | n + 1 => by rw [settle, h]; rfl
theorem any_no {ts : List X.It} {ops : List Int} (h : ∀ i, i < (js ts).length → tooFar ts ops (ats ops) ((js ts).getD i (0, 0)) = false) : anyFar ts ops = false := by
 unfold anyFar
 rw [List.any_eq_false]
 intro j hj
 obtain ⟨i, hi, rfl⟩ := List.getElem_of_mem hj
 have := h i hi
 rw [show (js ts).getD i (0, 0) = (js ts)[i] by simp [List.getD, hi]] at this
 rw [this]
 simp
theorem any_yes {ts : List X.It} {ops : List Int} {i : Nat} (hi : i < (js ts).length) (h : tooFar ts ops (ats ops) ((js ts).getD i (0, 0)) = true) : anyFar ts ops = true := by
 unfold anyFar
 rw [List.any_eq_true]
 exact ⟨_, by simp [List.getD, hi], h⟩
theorem js_cut {ts : List X.It} {i : Nat} (hi : i < (js ts).length) : js ts = (js ts).take i ++ (js ts).getD i (0, 0) :: (js ts).drop (i + 1) ∧ (js ts).drop i = (js ts).getD i (0, 0) :: (js ts).drop (i + 1) := by
 have e : (js ts).drop i = (js ts).getD i (0, 0) :: (js ts).drop (i + 1) := by
  rw [List.drop_eq_getElem_cons hi]
  congr 1
  simp [List.getD, hi]
 exact ⟨by rw [← e, List.take_append_drop], e⟩
theorem round_eq {ts : List X.It} {ops : List Int} {i : Nat} (hi : i < (js ts).length) (ha : ∀ k, k < i → tooFar ts ops (ats ops) ((js ts).getD k (0, 0)) = false) : lens ts (ats ops) ((js ts).drop i) ops = lens ts (ats ops) (js ts) ops := by
 obtain ⟨h1, h2⟩ := js_cut hi
 conv => rhs; rw [h1]
 rw [lens_skip, h2]
 intro x hx
 obtain ⟨k, hk, rfl⟩ := List.getElem_of_mem hx
 rw [List.length_take] at hk
 have := ha k (by omega)
 rw [List.getElem_take]
 rw [show (js ts).getD k (0, 0) = (js ts)[k] by simp [List.getD, show k < (js ts).length by omega]] at this
 exact this
theorem round_lt {ts : List X.It} {ops : List Int} {i : Nat} (hi : i < (js ts).length) (ha : ∀ k, k < i → tooFar ts ops (ats ops) ((js ts).getD k (0, 0)) = false) (hf : tooFar ts ops (ats ops) ((js ts).getD i (0, 0)) = true) (h : ∀ x ∈ js ts, x.1 < ops.length) : shorts ts (lens ts (ats ops) ((js ts).drop i) ops) + 1 ≤ shorts ts ops := by
 obtain ⟨h1, h2⟩ := js_cut hi
 rw [h2]
 refine lens_lt h1 ?_ hf h
 intro x hx
 obtain ⟨k, hk, rfl⟩ := List.getElem_of_mem hx
 rw [List.length_take] at hk
 have := ha k (by omega)
 rw [List.getElem_take]
 rw [show (js ts).getD k (0, 0) = (js ts)[k] by simp [List.getD, show k < (js ts).length by omega]] at this
 exact this
end Z
open Go.RowKit Go.Maps
set_option linter.unusedVariables false
set_option linter.unusedSimpArgs false
section
variable {w W : World} {yb bm : Nat} {ai : Option Addr} {li ci : Nat} {ts : List X.It} {ap aj : Option Addr} {cp cj : Nat} {ops bs : List Int} {sz : Int}
set_option maxRecDepth 100000 in
set_option maxHeartbeats 8000000 in
theorem settle_any (h : LV w W yb bm ai li ci ts ap aj cp cj ops bs (Z.js ts) sz) (hv : ItsV w ai li ci ts) (hJ : J.Tab w) (hlen : ops.length = ts.length) (hl : ops.length ≤ 20000) (hjs : JIn ops.length (Z.js ts)) (N : Nat) (hN : Z.shorts ts ops ≤ N) :
  Calls Tryz.prog 51 #[.pointer (some ⟨yb, 0, none⟩)] W fun e w' => e = .returned (.tuple #[]) ∧ LV w w' yb bm ai li ci ts ap aj cp cj (Z.settle ts N ops) (Z.ats (Z.settle ts N ops)) (Z.js ts) (Z.tot (Z.settle ts N ops)) := by
 have HV0 : Hid _ := h
 have HIT : Hid _ := hv
 have HJT : Hid (J.Tab w) := hJ
 have HJS : Hid (JIn ops.length (Z.js ts)) := hjs
 have HLT : Hid _ := hlen
 have HL : Hid (ops.length ≤ 20000) := hl
 have HN0 : Hid _ := hN
 clear h hv hJ hjs hlen hl hN
 go_enter Tryz.func51, Tryz.ntmps51
 go_wp2_with fail
 go_step3
 go_wp2_with fail
 go_step3
 go_wp2_with fail
 go_loopg [] N (fun r wq => Hid (∃ (qs cs : List Int) (z : Int), LV w wq yb bm ai li ci ts ap aj cp cj qs cs (Z.js ts) z ∧ qs.length = ops.length ∧ Z.settle ts N ops = Z.settle ts r qs ∧ Z.shorts ts qs ≤ r))
 case atStart => exact ⟨ops, bs, sz, HV0.out, rfl, rfl, HN0.out⟩
 case round =>
  have HX := hrel
  obtain ⟨qs, cs, z, hLV, hql, hse, hsh⟩ := HX.out
  have HQL : Hid (qs.length = ops.length) := hql
  have HSE : Hid _ := hse
  have HSH : Hid _ := hsh
  have hpl := place_any hLV (by rw [hql]; exact HL.out)
  have HNR : Hid (Near (Z.ats qs)) := near_ats (by rw [hql]; exact HL.out)
  clear HX hrel hLV hql hse hsh HV0
  go_wp2_with fail
  refine hpl.mono ?_
  rintro e w1 ⟨rfl, hL1⟩
  have HL1 : Hid _ := hL1
  obtain ⟨-, -, -, y3, -, -⟩ := hL1.cells
  have hjl : (Z.js ts).length ≤ 9223372036854775807 := by
   by_cases h0 : 0 < (Z.js ts).length
   ·obtain ⟨g, -, -, -, -, h1, h2⟩ := hL1.jumpAt h0; unfold maxLen at h2; omega
   ·omega
  clear hL1 hpl
  obtain ⟨nj, hnj⟩ : ∃ nj, (Z.js ts).length = nj := ⟨_, rfl⟩
  have HNJ : Hid _ := hnj
  rw [hnj] at y3 hjl
  clear hnj
  go_wp2_with fail
  generalize wr = wo at *
  generalize gk = go at *
  go_loopg [11] nj (fun r2 iv wq => ∃ (m : Nat), iv = .int .i64 m ∧ m ≤ nj ∧ nj - m ≤ r2 ∧ Hid (LV w wq yb bm ai li ci ts ap aj cp cj qs (Z.ats qs) (Z.js ts) (Z.tot qs)) ∧ Hid (∀ k, k < m → Z.tooFar ts qs (Z.ats qs) ((Z.js ts).getD k (0, 0)) = false))
  case atStart => exact ⟨0, rfl, Nat.zero_le _, by omega, HL1.out, (fun k hk => by omega : ∀ k, k < 0 → Z.tooFar ts qs (Z.ats qs) ((Z.js ts).getD k (0, 0)) = false)⟩
  case round =>
   obtain ⟨m, rfl, hm, hr2, HLV, HNF⟩ := hrel
   by_cases hlt : m < nj
   ·have hii : (m : Int) < nj := by omega
    have hin : 0 ≤ (m : Int) := by omega
    have hlt2 : m < (Z.js ts).length := by rw [HNJ.out]; exact hlt
    obtain ⟨gj, hgj, x0, x1, hgl, hc1, hc2⟩ := HLV.out.jumpAt hlt2
    obtain ⟨j, hjd⟩ : ∃ j, (Z.js ts).getD m (0, 0) = j := ⟨_, rfl⟩
    have hjm : j ∈ Z.js ts := by rw [← hjd]; simp [List.getD, hlt2]
    obtain ⟨hj1, hj2⟩ := HJS.out j hjm
    rw [hjd] at x0 x1
    have HFT : Hid (Z.tooFar ts qs (Z.ats qs) j = Z.tooFar ts qs (Z.ats qs) ((Z.js ts).getD m (0, 0))) := by show _ = _; rw [hjd]
    have b0 := isTooFar_any (LV.below HLV.out (bl1 wr (.cells #[.int .i64 j.1, .int .i64 j.2] 109))) HIT.out (by rw [HQL.out]; exact HLT.out) HNR.out j (by rw [HQL.out]; exact hj1) (by rw [HQL.out]; exact hj2)
    have HL2 : Hid _ := LV.below HLV.out (bl1 wr (.cells #[.int .i64 j.1, .int .i64 j.2] 109))
    obtain ⟨jn, jk⟩ := j
    simp only at x0 x1 b0 HL2
    obtain ⟨Y0, hY0⟩ : ∃ Y0, wr.alloc (.cells #[.int .i64 jn, .int .i64 jk] 109) = Y0 := ⟨_, rfl⟩
    rw [hY0] at b0 HL2
    have f0 : Y0.cell? ⟨wr.heap.size, 0, none⟩ = some (.int .i64 jn) := by subst hY0; exact cellA rfl rfl
    have f1 : Y0.cell? ⟨wr.heap.size, 1, none⟩ = some (.int .i64 jk) := by subst hY0; exact cellA rfl rfl
    have HGJ : Hid _ := hgj
    subst hgj
    clear hjd hjm y3
    cases hT : Z.tooFar ts qs (Z.ats qs) (jn, jk) with
    | false =>
     rw [hT] at b0
     have HN2 : Hid (∀ k, k < m + 1 → Z.tooFar ts qs (Z.ats qs) ((Z.js ts).getD k (0, 0)) = false) := fun k hk => by
      by_cases e : k = m
      ·rw [e, ← HFT.out]; exact hT
      ·exact HNF.out k (by omega)
     clear hT
     go_wp2_with fail
     refine b0.mono ?_
     rintro e w2 ⟨rfl, hb1⟩
     have HL3 : Hid _ := LV.below HL2.out hb1
     clear hb1 b0 hY0 f0 f1 x0 x1
     go_wp2_with fail
     go_roundg (nj - (m + 1))
     case measure => omega
     case rel => exact ⟨m + 1, by go_num, by omega, Nat.le_refl _, HL3.out, HN2.out⟩
    | true =>
     rw [hT] at b0
     have hTm : Z.tooFar ts qs (Z.ats qs) ((Z.js ts).getD m (0, 0)) = true := by rw [← HFT.out]; exact hT
     have hlt3 := Z.round_lt hlt2 HNF.out hTm (fun x hx => by rw [HQL.out]; exact (HJS.out x hx).1)
     obtain ⟨r', hr'⟩ : ∃ r', go = r' + 1 := ⟨go - 1, by have := HSH.out; omega⟩
     have HNX : Hid (Z.settle ts N ops = Z.settle ts r' (Z.lens ts (Z.ats qs) ((Z.js ts).drop m) qs)) := by
      show _ = _
      rw [HSE.out, hr', Z.settle, if_pos (Z.any_yes hlt2 hTm), Z.round_eq hlt2 HNF.out]
     have HSX : Hid (Z.shorts ts (Z.lens ts (Z.ats qs) ((Z.js ts).drop m) qs) ≤ r') := by show _ ≤ _; have := HSH.out; omega
     have HQX : Hid ((Z.lens ts (Z.ats qs) ((Z.js ts).drop m) qs).length = ops.length) := by show _ = _; rw [Z.lens_len]; exact HQL.out
     clear hT hTm hlt3
     go_wp2_with fail
     refine b0.mono ?_
     rintro e w2 ⟨rfl, hb1⟩
     have HL3 : Hid (LV w w2 yb bm ai li ci ts ap (some ⟨gj, 0, none⟩) cp cj qs (Z.ats qs) (Z.js ts) (Z.tot qs)) := LV.below HL2.out hb1
     obtain ⟨-, -, -, y3, -, -⟩ := HL3.out.cells
     rw [HNJ.out] at y3
     have hcc : (nj : Int) ≤ cj := by have := hc1; rw [HNJ.out] at this; omega
     have hcm : (cj : Int) ≤ 9223372036854775807 := by unfold maxLen at hc2; omega
     have hle : (m : Int) ≤ nj := by omega
     have hle2 : (m : Int) ≤ cj := by omega
     clear hb1 b0 hY0 f0 f1 x0 x1
     go_wp2_with fail
     refine (lengthen_any HL3.out HIT.out HJT.out (by rw [HQL.out]; exact HLT.out) (by rw [HQL.out]; exact HL.out) HNR.out (by rw [HQL.out]; exact HJS.out) m hlt2 gj rfl (nj - m) (cj - m) (by rw [HNJ.out])).mono ?_
     rintro e w3 ⟨rfl, hL4⟩
     have HL4 : Hid _ := hL4
     clear hL4
     go_wp2_with fail
     go_roundg r'
     case measure => omega
     case rel => exact ⟨_, _, _, HL4.out, HQX.out, HNX.out, HSX.out⟩
   ·obtain rfl : m = nj := by omega
    have hii : ¬ (m : Int) < m := by omega
    have HDN : Hid (Z.settle ts N ops = qs) := by
     show _ = _
     rw [HSE.out]
     exact Z.settle_done (Z.any_no (fun i hi => HNF.out i (by rw [← HNJ.out]; exact hi))) _
    go_wp2_with fail
    refine bodyPost_ret (results_none rfl _ _ _) rfl ?_
    rw [HDN.out]
    exact ⟨rfl, HLV.out⟩
end

end Go.Proofs.YtgjingleolhkbaaGreatDoor
