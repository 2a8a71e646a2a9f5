/- An item's code; what a relocation says. (Written by gen_code.py.) -/
import Derived.Test.YtgjingleolhkbaaGreatDoorTAr
import Derived.Lib.AppendStr
import Derived.Deep.AppendSrc
import Derived.Deep.AppendLies
namespace Go.Proofs.YtgjingleolhkbaaGreatDoor
open Go.RowKit Go.Maps
set_option linter.unusedVariables false
set_option linter.unusedSimpArgs false

namespace Z
def codeN (ts : List X.It) (ops : List Int) (k : Nat) : Int :=
 if isOpen ts (ts.getD k X.noIt) = true then 0 else if (ts.getD k X.noIt).name ≠ [] then far ops (ats ops) k (labN ts (ts.getD k X.noIt).name) else (ts.getD k X.noIt).n
def codeV (ts : List X.It) (ops : List Int) (k : Nat) : List Int := J.I.encV (ops.getD k 0) (ts.getD k X.noIt).a (ts.getD k X.noIt).b (codeN ts ops k)
end Z
section
variable {w W : World} {yb bm : Nat} {ai : Option Addr} {li ci : Nat} {ts : List X.It} {ap aj : Option Addr} {cp cj : Nat}
set_option maxRecDepth 100000 in
set_option maxHeartbeats 8000000 in
theorem code_any (h : LV w W yb bm ai li ci ts ap aj cp cj (Z.ops ts) (Z.ats (Z.ops ts)) (Z.js ts) (Z.tot (Z.ops ts))) (hv : ItsV w ai li ci ts) (hl : li ≤ 20000) (hJ : J.Tab w) (k : Nat) (hk : k < li) :
  Calls Tryz.prog 54 #[.pointer (some ⟨yb, 0, none⟩), .int .i64 k] W fun e w' => e = .returned (.string (strOfNums (Z.codeV ts (Z.ops ts) k))) ∧ Below W.heap.size W w' := by
 have hcnt := hv.count
 obtain ⟨b, off, t, aw, lw, cw, rfl, hg, hmem, c0, c1, c2, c3, c4, c5, c6, hi⟩ := (hv.below h.low).at hk
 have hfit := (hv.fit t hmem).1
 have hkl : k < (Z.ops ts).length := by rw [Z.ops_len, hcnt]; exact hk
 obtain ⟨g, rfl, -, hgl, -, hc, -, -⟩ := h.piece hkl
 obtain ⟨o0, -, -⟩ := hc k hkl
 obtain ⟨y0, y1, y2, -⟩ := h.cells
 have hrm := h.pr.room
 have hrm2 := hv.room
 have HLV : Hid _ := h
 have HJT : Hid (J.Tab w) := hJ
 have hk1 : (k : Int) < li := by omega
 have hk2 : (k : Int) < (Z.ops ts).length := by omega
 have hk0 : 0 ≤ (k : Int) := by omega
 have hlab : Z.labN ts t.name < (Z.ops ts).length := by rw [Z.ops_len]; exact labN_lt _ (by omega)
 have hnear : Near (Z.ats (Z.ops ts)) := near_ats (by rw [Z.ops_len, hcnt]; exact hl)
 have hkey := keyStr t.name hfit
 have HR0 : Hid (Z.codeV ts (Z.ops ts) k = J.I.encV ((Z.ops ts).getD k 0) t.a t.b (if Z.isOpen ts t = true then 0 else if t.name ≠ [] then Z.far (Z.ops ts) (Z.ats (Z.ops ts)) k (Z.labN ts t.name) else t.n)) := by
  show _ = _
  unfold Z.codeV Z.codeN
  rw [hg]
 have hyl := blk_lt h.y
 obtain ⟨nm, hnm⟩ : ∃ nm, X.str t.name = nm := ⟨_, rfl⟩
 obtain ⟨o, ho⟩ : ∃ o, (Z.ops ts).getD k 0 = o := ⟨_, rfl⟩
 obtain ⟨b5, hb5⟩ : ∃ b5, W.heap.size = b5 := ⟨_, rfl⟩
 obtain ⟨Y1, hY1⟩ : ∃ Y1, W.alloc (.cells #[.int .i64 t.kind, .string nm, .int .i64 t.op, .int .i64 t.a, .int .i64 t.b, .int .i64 t.n, .slice aw lw cw] 44) = Y1 := ⟨_, rfl⟩
 obtain ⟨b6, hb6⟩ : ∃ b6, Y1.heap.size = b6 := ⟨_, rfl⟩
 have hb56 : b5 < b6 := by rw [← hb6, ← hY1, ← hb5]; simp
 obtain ⟨Y2, hY2⟩ : ∃ Y2, Y1.alloc (.cells #[.int .i64 t.op, .int .i64 t.a, .int .i64 t.b, .int .i64 t.n] 42) = Y2 := ⟨_, rfl⟩
 have bY1 : Below W.heap.size W Y1 := by subst hY1; exact bl1 _ _
 have bY2 : Below Y1.heap.size Y1 Y2 := by subst hY2; exact bl1 _ _
 have bY : Below W.heap.size W Y2 := bY1.trans (bY2.mono bY1.size)
 have hWb6 : W.heap.size ≤ b6 := by omega
 have e0 : Y1.cell? ⟨b5, 0, none⟩ = some (.int .i64 t.kind) := by subst hY1 hb5; exact cellA rfl rfl
 have f0 : Y2.cell? ⟨b5, 0, none⟩ = some (.int .i64 t.kind) := cell_thru bY2 e0
 have e1 : Y1.cell? ⟨b5, 1, none⟩ = some (.string nm) := by subst hY1 hb5; exact cellA rfl rfl
 have f1 : Y2.cell? ⟨b5, 1, none⟩ = some (.string nm) := cell_thru bY2 e1
 have e2 : Y1.cell? ⟨b5, 2, none⟩ = some (.int .i64 t.op) := by subst hY1 hb5; exact cellA rfl rfl
 have f2 : Y2.cell? ⟨b5, 2, none⟩ = some (.int .i64 t.op) := cell_thru bY2 e2
 have e3 : Y1.cell? ⟨b5, 3, none⟩ = some (.int .i64 t.a) := by subst hY1 hb5; exact cellA rfl rfl
 have f3 : Y2.cell? ⟨b5, 3, none⟩ = some (.int .i64 t.a) := cell_thru bY2 e3
 have e4 : Y1.cell? ⟨b5, 4, none⟩ = some (.int .i64 t.b) := by subst hY1 hb5; exact cellA rfl rfl
 have f4 : Y2.cell? ⟨b5, 4, none⟩ = some (.int .i64 t.b) := cell_thru bY2 e4
 have e5 : Y1.cell? ⟨b5, 5, none⟩ = some (.int .i64 t.n) := by subst hY1 hb5; exact cellA rfl rfl
 have f5 : Y2.cell? ⟨b5, 5, none⟩ = some (.int .i64 t.n) := cell_thru bY2 e5
 have e6 : Y1.cell? ⟨b5, 6, none⟩ = some (.slice aw lw cw) := by subst hY1 hb5; exact cellA rfl rfl
 have f6 : Y2.cell? ⟨b5, 6, none⟩ = some (.slice aw lw cw) := cell_thru bY2 e6
 have h0 : Y2.cell? ⟨b6, 0, none⟩ = some (.int .i64 t.op) := by subst hY2 hb6; exact cellA rfl rfl
 have h1 : Y2.cell? ⟨b6, 1, none⟩ = some (.int .i64 t.a) := by subst hY2 hb6; exact cellA rfl rfl
 have h2 : Y2.cell? ⟨b6, 2, none⟩ = some (.int .i64 t.b) := by subst hY2 hb6; exact cellA rfl rfl
 have h3 : Y2.cell? ⟨b6, 3, none⟩ = some (.int .i64 t.n) := by subst hY2 hb6; exact cellA rfl rfl
 have h0z : Y2.frozen? ⟨b6, 0, none⟩ = false := by subst hY2 hb6; exact World.frozen?_alloc_at _ _ _ _ rfl
 have h3z0 : Y2.frozen? ⟨b6, 3, none⟩ = false := by subst hY2 hb6; exact World.frozen?_alloc_at _ _ _ _ rfl
 have hYs : b6 < Y2.heap.size := by subst hY2 hb6; simp
 have y0a := cell_thru bY y0
 have y2a := cell_thru bY y2
 have o0a := cell_thru bY o0
 rw [hnm] at c1
 rw [ho] at o0 o0a HR0
 clear h hv hc hg hmem hi hJ
 go_enter Tryz.func54, Tryz.ntmps54
 go_wp2_with fail
 obtain ⟨Y3, hY3⟩ : ∃ Y3, Y2.setCell ⟨b6, 0, none⟩ (.int .i64 o) = Y3 := ⟨_, rfl⟩
 rw [hY3]
 have bY3 : Below W.heap.size W Y3 := by subst hY3; exact bY.setCell hWb6 _
 have g0 : Y3.cell? ⟨b5, 0, none⟩ = some (.int .i64 t.kind) := by subst hY3; rw [World.cell?_setCell_far _ ⟨b6, 0, none⟩ ⟨b5, 0, none⟩ _ (show b6 ≠ b5 by omega)]; exact f0
 have g1 : Y3.cell? ⟨b5, 1, none⟩ = some (.string nm) := by subst hY3; rw [World.cell?_setCell_far _ ⟨b6, 0, none⟩ ⟨b5, 1, none⟩ _ (show b6 ≠ b5 by omega)]; exact f1
 have g2 : Y3.cell? ⟨b5, 2, none⟩ = some (.int .i64 t.op) := by subst hY3; rw [World.cell?_setCell_far _ ⟨b6, 0, none⟩ ⟨b5, 2, none⟩ _ (show b6 ≠ b5 by omega)]; exact f2
 have g3 : Y3.cell? ⟨b5, 3, none⟩ = some (.int .i64 t.a) := by subst hY3; rw [World.cell?_setCell_far _ ⟨b6, 0, none⟩ ⟨b5, 3, none⟩ _ (show b6 ≠ b5 by omega)]; exact f3
 have g4 : Y3.cell? ⟨b5, 4, none⟩ = some (.int .i64 t.b) := by subst hY3; rw [World.cell?_setCell_far _ ⟨b6, 0, none⟩ ⟨b5, 4, none⟩ _ (show b6 ≠ b5 by omega)]; exact f4
 have g5 : Y3.cell? ⟨b5, 5, none⟩ = some (.int .i64 t.n) := by subst hY3; rw [World.cell?_setCell_far _ ⟨b6, 0, none⟩ ⟨b5, 5, none⟩ _ (show b6 ≠ b5 by omega)]; exact f5
 have g6 : Y3.cell? ⟨b5, 6, none⟩ = some (.slice aw lw cw) := by subst hY3; rw [World.cell?_setCell_far _ ⟨b6, 0, none⟩ ⟨b5, 6, none⟩ _ (show b6 ≠ b5 by omega)]; exact f6
 have i0 : Y3.cell? ⟨b6, 0, none⟩ = some (.int .i64 o) := by subst hY3; exact World.cell?_setCell_same' _ _ _ (by rw [h0]; rfl)
 have i1 : Y3.cell? ⟨b6, 1, none⟩ = some (.int .i64 t.a) := by subst hY3; rw [World.cell?_setCell_other _ _ _ _ (by simp)]; exact h1
 have i2 : Y3.cell? ⟨b6, 2, none⟩ = some (.int .i64 t.b) := by subst hY3; rw [World.cell?_setCell_other _ _ _ _ (by simp)]; exact h2
 have i3 : Y3.cell? ⟨b6, 3, none⟩ = some (.int .i64 t.n) := by subst hY3; rw [World.cell?_setCell_other _ _ _ _ (by simp)]; exact h3
 have h3z1 : Y3.frozen? ⟨b6, 3, none⟩ = false := by subst hY3; rw [World.frozen?_setCell]; exact h3z0
 have hY3s : b6 < Y3.heap.size := by subst hY3; rw [World.size_setCell]; exact hYs
 have hoc := isOpen_any (LV.below HLV.out bY3) t hfit aw lw cw
 unfold itV at hoc
 rw [hnm] at hoc
 have HB3 : Hid _ := bY3
 have y0b := cell_thru bY3 y0
 clear e0 e1 e2 e3 e4 e5 e6 f0 f1 f2 f3 f4 f5 f6 h0 h1 h2 h3 c0 c1 c2 c3 c4 c5 c6 y1 y2 y0a y2a o0 o0a h0z h3z0 hY1 hY2 bY1 bY2 bY bY3
 cases hO : Z.isOpen ts t with
 | true =>
  rw [hO] at hoc
  have HR : Hid (Z.codeV ts (Z.ops ts) k = J.I.encV o t.a t.b 0) := by show _ = _; rw [HR0.out, if_pos hO]
  clear hO
  refine hoc.mono ?_
  rintro e y4 ⟨rfl, hb4⟩
  have hB4 : Below W.heap.size W y4 := HB3.out.trans (hb4.mono HB3.out.size)
  have p0 := cell_thru hb4 i0
  have p1 := cell_thru hb4 i1
  have p2 := cell_thru hb4 i2
  have p3 := cell_thru hb4 i3
  have q3 : y4.frozen? ⟨b6, 3, none⟩ = false := (hb4.frozen (p := ⟨b6, 3, none⟩) hY3s).trans h3z1
  obtain ⟨Y6, hY6⟩ : ∃ Y6, y4.setCell ⟨b6, 3, none⟩ (.int .i64 0) = Y6 := ⟨_, rfl⟩
  have r0 : Y6.cell? ⟨b6, 0, none⟩ = some (.int .i64 o) := by subst hY6; rw [World.cell?_setCell_other _ _ _ _ (by simp)]; exact p0
  have r1 : Y6.cell? ⟨b6, 1, none⟩ = some (.int .i64 t.a) := by subst hY6; rw [World.cell?_setCell_other _ _ _ _ (by simp)]; exact p1
  have r2 : Y6.cell? ⟨b6, 2, none⟩ = some (.int .i64 t.b) := by subst hY6; rw [World.cell?_setCell_other _ _ _ _ (by simp)]; exact p2
  have r3 : Y6.cell? ⟨b6, 3, none⟩ = some (.int .i64 0) := by subst hY6; exact World.cell?_setCell_same' _ _ _ (by rw [p3]; rfl)
  have HW6 : Hid (Below W.heap.size W Y6) := by subst hY6; exact (hB4).setCell hWb6 _
  clear hY3 g0 g1 g2 g3 g4 g5 g6 i0 i1 i2 i3 hb4 hoc
  have henc := J.encode_any o t.a t.b 0 Y6 (J.Tab.below HJT.out (HLV.out.low.trans (HW6.out.mono HLV.out.low.size)))
  unfold J.insV at henc
  go_wp2_with fail
  refine henc.mono ?_
  rintro e z ⟨rfl, hbz⟩
  have HZ : Hid (Below W.heap.size W z) := HW6.out.trans (hbz.mono HW6.out.size)
  clear hbz henc
  go_wp2_with fail
  go_ret
  exact ⟨by rw [HR.out]; rfl, HZ.out⟩
 | false =>
  rw [hO] at hoc
  by_cases hne : t.name = []
  ·have HR : Hid (Z.codeV ts (Z.ops ts) k = J.I.encV o t.a t.b t.n) := by show _ = _; rw [HR0.out, if_neg (by rw [hO]; simp), if_neg (by simpa using hne)]
   have hE : nm.toList.isEmpty = true := by rw [← hnm, ByteArray.toList_eq, hne]; rfl
   clear hO hne
   refine hoc.mono ?_
   rintro e y4 ⟨rfl, hb4⟩
   have hB4 : Below W.heap.size W y4 := HB3.out.trans (hb4.mono HB3.out.size)
   have HW6 : Hid _ := hB4
   have p0 := cell_thru hb4 i0
   have p1 := cell_thru hb4 i1
   have p2 := cell_thru hb4 i2
   have p3 := cell_thru hb4 i3
   have m1 := cell_thru hb4 g1
   clear hY3 g0 g1 g2 g3 g4 g5 g6 i0 i1 i2 i3 hb4 hoc
   have henc := J.encode_any o t.a t.b t.n y4 (J.Tab.below HJT.out (HLV.out.low.trans (HW6.out.mono HLV.out.low.size)))
   unfold J.insV at henc
   go_wp2_with fail
   refine henc.mono ?_
   rintro e z ⟨rfl, hbz⟩
   have HZ : Hid (Below W.heap.size W z) := HW6.out.trans (hbz.mono HW6.out.size)
   clear hbz henc
   go_wp2_with fail
   go_ret
   exact ⟨by rw [HR.out]; rfl, HZ.out⟩
  ·have HR : Hid (Z.codeV ts (Z.ops ts) k = J.I.encV o t.a t.b (Z.far (Z.ops ts) (Z.ats (Z.ops ts)) k (Z.labN ts t.name))) := by show _ = _; rw [HR0.out, if_neg (by rw [hO]; simp), if_pos hne]
   have hE : nm.toList.isEmpty = false := by rw [← hnm, ByteArray.toList_eq, str_list]; simpa using hne
   clear hO
   refine hoc.mono ?_
   rintro e y4 ⟨rfl, hb4⟩
   have hB4 : Below W.heap.size W y4 := HB3.out.trans (hb4.mono HB3.out.size)
   have hdist : ∀ W', Below y4.heap.size y4 W' → Calls Tryz.prog 75 #[.pointer (some ⟨yb, 0, none⟩), .int .i64 k, .int .i64 (Z.labN ts t.name)] W' fun e w' => e = .returned (.int .i64 (Z.far (Z.ops ts) (Z.ats (Z.ops ts)) k (Z.labN ts t.name))) ∧ Below W'.heap.size W' w' := fun W' hb => distance_any (LV.below HLV.out (hB4.trans (hb.mono hB4.size))) hnear k _ hkl hlab
   have HRUN : Hid ((Instr.lookup 54 (.map (some bm)) (.string nm) false).run Tryz.prog y4.drew = .ok (.int .i64 (Z.labN ts t.name)) y4.drew) := by
    show _ = _
    obtain ⟨D, n, h1, h2, h3⟩ := (LV.below HLV.out hB4).nm.ex
    rw [hnm] at hkey
    obtain ⟨c, hc, hat, -⟩ := h1.drew.lookup_int lawS Tryz.underlying54 Tryz.underlying3 (zeroI _) hkey
    rw [h3 t.name] at hat
    rw [hc]
    injection hat with hat
    injection hat with _ hat
    rw [hat]
   have h0' := cell_thru hb4 i0
   have h1' := cell_thru hb4 i1
   have h2' := cell_thru hb4 i2
   have h3' := cell_thru hb4 i3
   have f1' := cell_thru hb4 g1
   have y0' := cell_thru hb4 y0b
   have h3z : y4.frozen? ⟨b6, 3, none⟩ = false := (hb4.frozen (p := ⟨b6, 3, none⟩) hY3s).trans h3z1
   have hb6l : b6 < y4.heap.size := Nat.lt_of_lt_of_le hY3s hb4.size
   have hne1 : b6 ≠ yb := by omega
   have hne2 : b6 ≠ b5 := by omega
   have HS7 : Hid (y4.drew.cell? ⟨yb, 0, none⟩ = some (.map (some bm)) ∧ y4.drew.cell? ⟨b5, 1, none⟩ = some (.string nm)) := ⟨by rw [World.cell?_drew]; exact y0', by rw [World.cell?_drew]; exact f1'⟩
   generalize Z.labN ts t.name = q at *
   generalize Z.far (Z.ops ts) (Z.ats (Z.ops ts)) k q = d at *
   clear hY3 g0 g1 g2 g3 g4 g5 g6 i0 i1 i2 i3 hb4 hoc hne
   go_wp2_with fail
   refine wp_region_held_drew (S := (fun w' : World => w'.cell? ⟨yb, 0, none⟩ = some (.map (some bm)) ∧ w'.cell? ⟨b5, 1, none⟩ = some (.string nm))) (by kernel_rfl) HS7.out (fun hHeld => ?_)
   refine tj 0 ?_
   simp only [Act.put, zA, zB, zC]
   refine tj 1 ?_
   simp only [Act.put, zA, zB, zC]
   refine tj 2 ?_
   simp only [Act.put, zA, zB, zC]
   refine tj 3 ?_
   simp only [Act.put, zA, zB, zC]
   refine tj 4 ?_
   simp only [Act.put, zA, zB, zC]
   refine tj 5 ?_
   simp only [Act.put, zA, zB, zC]
   refine tj 6 ?_
   simp only [Act.put, zA, zB, zC]
   refine tj 7 ?_
   simp only [Act.put, zA, zB, zC]
   refine tr [8] ?_
   refine AllReadyH.cons (tA rfl) (fun K hK => ?_) AllReadyH.nil
   have m4 := HRUN.out
   go_simp
   refine hK.out _ _ hHeld (fun hHeld => ?_)
   clear hK K
   try simp only [Act.put, zA, zB, zC]
   refine tr [9] ?_
   refine AllReadyH.cons (tA rfl) (fun K hK => ?_) AllReadyH.nil
   go_simp
   refine (hdist _ (Below.refl _ _).drew).mono ?_
   rintro e y5 ⟨rfl, hb5'⟩
   have hB5 : Below y4.heap.size y4 y5 := (Below.refl _ _).drew.trans hb5'
   try go_wp2_with fail
   refine hK.out _ _ ⟨cell_thru hB5 y0', cell_thru hB5 f1'⟩ (fun hHeld => ?_)
   clear hK K
   try simp only [Act.put, zA, zB, zC]
   have p3 := cell_thru hB5 h3'
   have p0 := cell_thru hB5 h0'
   have p1 := cell_thru hB5 h1'
   have p2 := cell_thru hB5 h2'
   have q3 : y5.frozen? ⟨b6, 3, none⟩ = false := (hB5.frozen (p := ⟨b6, 3, none⟩) hb6l).trans h3z
   refine tj 10 ?_
   simp only [Act.put, zA, zB, zC]
   refine tr [11] ?_
   refine AllReadyH.cons (tA rfl) (fun K hK => ?_) AllReadyH.nil
   go_simp
   refine hK.out _ _ ⟨(World.cell?_setCell_far _ ⟨b6, 3, none⟩ ⟨yb, 0, none⟩ _ hne1).trans hHeld.1, (World.cell?_setCell_far _ ⟨b6, 3, none⟩ ⟨b5, 1, none⟩ _ hne2).trans hHeld.2⟩ (fun hHeld => ?_)
   clear hK K
   try simp only [Act.put, zA, zB, zC]
   refine wpAnyH_done (by kernel_rfl) ?_ _
   clear hHeld
   obtain ⟨Y6, hY6⟩ : ∃ Y6, y5.setCell ⟨b6, 3, none⟩ (.int .i64 d) = Y6 := ⟨_, rfl⟩
   have r0 : Y6.cell? ⟨b6, 0, none⟩ = some (.int .i64 o) := by subst hY6; rw [World.cell?_setCell_other _ _ _ _ (by simp)]; exact p0
   have r1 : Y6.cell? ⟨b6, 1, none⟩ = some (.int .i64 t.a) := by subst hY6; rw [World.cell?_setCell_other _ _ _ _ (by simp)]; exact p1
   have r2 : Y6.cell? ⟨b6, 2, none⟩ = some (.int .i64 t.b) := by subst hY6; rw [World.cell?_setCell_other _ _ _ _ (by simp)]; exact p2
   have r3 : Y6.cell? ⟨b6, 3, none⟩ = some (.int .i64 d) := by subst hY6; exact World.cell?_setCell_same' _ _ _ (by rw [p3]; rfl)
   have HW6 : Hid (Below W.heap.size W Y6) := by subst hY6; exact (hB4.trans (hB5.mono hB4.size)).setCell hWb6 _
   clear hb5' hB5
   have henc := J.encode_any o t.a t.b d Y6 (J.Tab.below HJT.out (HLV.out.low.trans (HW6.out.mono HLV.out.low.size)))
   unfold J.insV at henc
   go_wp2_with fail
   refine henc.mono ?_
   rintro e z ⟨rfl, hbz⟩
   have HZ : Hid (Below W.heap.size W z) := HW6.out.trans (hbz.mono HW6.out.size)
   clear hbz henc
   go_wp2_with fail
   go_ret
   exact ⟨by rw [HR.out]; rfl, HZ.out⟩
end

end Go.Proofs.YtgjingleolhkbaaGreatDoor

/- Rows and boxes of a call's own, once more: for the assembler. (Written by gen_boxes.py out of our texts of link and objf.) -/
namespace Go.Proofs.YtgjingleolhkbaaGreatDoor
namespace O
open Go.RowKit Go.Maps Go.Lib
set_option linter.unusedVariables false
set_option linter.unusedSimpArgs false
abbrev bl_one := @bl1
theorem cell_last {w : World} {A : Array Value} {t g j : Nat} (hg : g = w.heap.size) {v : Value} (hv : A[j]? = some v) : (w.alloc (.cells A t)).cell? ⟨g, j, none⟩ = some v := cellA hg hv
theorem infoB : (Tryz.prog.info? 5).map (fun i => (i.zero, i.size, i.bytes)) = some (some (.int .u8 0), 1, 1) := by kernel_rfl
theorem infoI : (Tryz.prog.info? 2).map (fun i => (i.zero, i.size, i.bytes)) = some (some (.int .i64 0), 1, 8) := by kernel_rfl
theorem infoS : (Tryz.prog.info? 69).map (fun i => (i.zero, i.size, i.bytes)) = some (some (.agg #[.string { data := #[] }, .int .i64 0, .int .i64 0]), 3, 32) := by kernel_rfl
theorem infoR : (Tryz.prog.info? 51).map (fun i => (i.zero, i.size, i.bytes)) = some (some (.agg #[.int .i64 0, .int .i64 0, .string { data := #[] }, .int .i64 0]), 4, 40) := by kernel_rfl
def intC (x : Int) : List Value := [.int .i64 x]
structure Sym where
 name : ByteArray
 kind : Int
 pos : Int
structure Rel where
 pos : Int
 kind : Int
 name : ByteArray
 add : Int
def noSym : Sym := ⟨.empty, 0, 0⟩
def noRel : Rel := ⟨0, 0, .empty, 0⟩
structure ObjD where
 code : ByteArray
 data : List Int
 syms : List Sym
 rels : List Rel

def symC (x : Sym) : List Value := [.string x.name, .int .i64 x.kind, .int .i64 x.pos]
def relC (x : Rel) : List Value := [.int .i64 x.pos, .int .i64 x.kind, .string x.name, .int .i64 x.add]

def Cells (x : World) (b : Nat) (vs : List Value) : Prop := ∀ j u, vs[j]? = some u → x.cell? ⟨b, j, none⟩ = some u
structure Row where
 ty : TypeId
 k : Nat
 v : Value
 n : Nat
 cs : List Value
structure BS (w x : World) (rs : List Row) (bs : List (Nat × List Value)) : Prop where
 low : Below w.heap.size w x
 own : ∀ (k : Nat) (r : Row), rs[k]? = some r → x.ownsRow w.heap.size r.ty r.k r.v r.n r.cs
 dis : ∀ (k l : Nat) (r q : Row), rs[k]? = some r → rs[l]? = some q → k ≠ l → ∀ b, r.v.ownBlock = some b → q.v.ownBlock ≠ some b
 box : ∀ (m : Nat) (p : Nat × List Value), bs[m]? = some p → Cells x p.1 p.2 ∧ (∀ o, x.frozen? ⟨p.1, o, none⟩ = false) ∧ p.1 < x.heap.size ∧ w.heap.size ≤ p.1
 far : ∀ (m k : Nat) (p : Nat × List Value) (r : Row), bs[m]? = some p → rs[k]? = some r → r.v.ownBlock ≠ some p.1
 nd : ∀ (m l : Nat) (p q : Nat × List Value), bs[m]? = some p → bs[l]? = some q → m ≠ l → p.1 ≠ q.1

theorem BS.start (w : World) : BS w w [] [] := ⟨Below.refl _ _, by simp, by simp, by simp, by simp, by simp⟩
theorem row_below {w x : World} {B : Nat} {ty : TypeId} {k : Nat} {u : Value} {n : Nat} {cs : List Value} (hu : w.ownsRow B ty k u n cs) (hb : Below w.heap.size w x) : x.ownsRow B ty k u n cs :=
 hu.kept (gb_of_below hb (some w.heap.size)) (.inr fun e => by have := (hu.lt _ e).2; omega)
theorem BS.below {w x y : World} {rs : List Row} {bs : List (Nat × List Value)} (h : BS w x rs bs) (hb : Below x.heap.size x y) : BS w y rs bs :=
 {low := h.low.trans (hb.mono h.low.size), own := fun k r hk => row_below (h.own k r hk) hb, dis := h.dis, far := h.far, nd := h.nd,
  box := fun m p hp => by
   obtain ⟨h1, h2, h3, h5⟩ := h.box m p hp
   exact ⟨fun j u hu => cell_thru hb (h1 j u hu), fun o => (hb.frozen (p := ⟨p.1, o, none⟩) h3).trans (h2 o), Nat.lt_of_lt_of_le h3 hb.size, h5⟩ }
theorem BS.alloc {w x : World} {rs : List Row} {bs : List (Nat × List Value)} (h : BS w x rs bs) (a : Array Value) (t : TypeId) : BS w (x.alloc (.cells a t)) rs ((x.heap.size, a.toList) :: bs) := by
 have k := h.below (bl_one x (.cells a t))
 refine { low := k.low, own := k.own, dis := k.dis, box := fun m p hp => ?_, far := fun m n p r hp hr => ?_, nd := fun m l p q hp hq hml => ?_ }
 ·cases m with
  | zero =>
   simp at hp
   subst hp
   exact ⟨fun j u hu => cell_last rfl (by simpa using hu), fun o => World.frozen?_alloc_at _ _ _ _ rfl, by simp, h.low.size⟩
  | succ m => exact k.box m p (by simpa using hp)
 ·cases m with
  | zero =>
   simp at hp
   subst hp
   intro e
   have := ((h.own n r hr).lt _ e).2
   simp at this
  | succ m => exact h.far m n p r (by simpa using hp) hr
 ·cases m with
  | zero =>
   cases l with
   | zero => exact absurd rfl hml
   | succ l =>
    simp at hp
    subst hp
    have := (h.box l q (by simpa using hq)).2.2.1
    show x.heap.size ≠ q.1
    omega
  | succ m =>
   cases l with
   | zero =>
    simp at hq
    subst hq
    have := (h.box m p (by simpa using hp)).2.2.1
    show p.1 ≠ x.heap.size
    omega
   | succ l => exact h.nd m l p q (by simpa using hp) (by simpa using hq) (by omega)
theorem BS.drop {w x : World} {rs : List Row} {p : Nat × List Value} {bs : List (Nat × List Value)} (h : BS w x rs (p :: bs)) : BS w x rs bs :=
 {low := h.low, own := h.own, dis := h.dis, box := fun m q hq => h.box (m + 1) q (by simpa using hq), far := fun m k q r hq hr => h.far (m + 1) k q r (by simpa using hq) hr, nd := fun m l q r hq hr hml => h.nd (m + 1) (l + 1) q r (by simpa using hq) (by simpa using hr) (by omega) }
theorem BS.put {w x : World} {rs : List Row} {bs : List (Nat × List Value)} (h : BS w x rs bs) (m z : Nat) (vs : List Value) (hm : bs[m]? = some (z, vs)) (k : Nat) (hk : k < vs.length) (u : Value) : BS w (x.setCell ⟨z, k, none⟩ u) rs (bs.set m (z, vs.set k u)) := by
 obtain ⟨h1, h2, h3, h5⟩ := h.box m (z, vs) hm
 simp only at h1 h2 h3 h5
 have hml : m < bs.length := (List.getElem?_eq_some_iff.1 hm).1
 have at' : ∀ l q, (bs.set m (z, vs.set k u))[l]? = some q → (l = m ∧ q = (z, vs.set k u)) ∨ (l ≠ m ∧ bs[l]? = some q) := fun l q hq => by
  by_cases e : m = l
  ·subst e
   rw [List.getElem?_set_self hml] at hq
   exact .inl ⟨rfl, by simpa using hq.symm⟩
  ·rw [List.getElem?_set_ne e] at hq
   exact .inr ⟨fun e' => e e'.symm, hq⟩
 have gz := gb_set x ⟨z, k, none⟩ u
 refine { low := h.low.setCell h5 u, own := fun n r hr => (h.own n r hr).kept gz (.inr (h.far m n (z, vs) r hm hr)), dis := h.dis, box := fun l q hq => ?_, far := fun l n q r hq hr => ?_, nd := fun l n p q hp hq hln => ?_ }
 ·rcases at' l q hq with ⟨rfl, rfl⟩ | ⟨hne, hq'⟩
  ·refine ⟨fun j v hv => ?_, fun o => by rw [World.frozen?_setCell]; exact h2 o, by rw [World.size_setCell]; exact h3, h5⟩
   by_cases e : k = j
   ·subst e
    rw [List.getElem?_set_self hk] at hv
    cases hv
    refine World.cell?_setCell_same' _ _ _ ?_
    rw [h1 k vs[k] (by simp [hk])]
    rfl
   ·rw [List.getElem?_set_ne e] at hv
    rw [World.cell?_setCell_other _ _ _ _ (fun e' => e (by have := congrArg Addr.off e'; simpa using this))]
    exact h1 j v hv
  ·obtain ⟨g1, g2, g3, g5⟩ := h.box l q hq'
   have hzq := h.nd m l (z, vs) q hm hq' (fun e => hne e.symm)
   exact ⟨fun j v hv => (World.cell?_setCell_far _ _ _ _ hzq).trans (g1 j v hv), fun o => by rw [World.frozen?_setCell]; exact g2 o, by rw [World.size_setCell]; exact g3, g5⟩
 ·rcases at' l q hq with ⟨rfl, rfl⟩ | ⟨hne, hq'⟩
  ·exact h.far l n (z, vs) r hm hr
  ·exact h.far l n q r hq' hr
 ·rcases at' l p hp with ⟨rfl, rfl⟩ | ⟨hne, hp'⟩
  ·rcases at' n q hq with ⟨rfl, rfl⟩ | ⟨hne', hq'⟩
   ·exact absurd rfl hln
   ·exact h.nd l n (z, vs) q hm hq' hln
  ·rcases at' n q hq with ⟨rfl, rfl⟩ | ⟨hne', hq'⟩
   ·exact h.nd l n p (z, vs) hp' hm hln
   ·exact h.nd l n p q hp' hq' hln
theorem BS.push {w x y : World} {rs : List Row} {bs : List (Nat × List Value)} (h : BS w x rs bs) {k : Nat} {r : Row} (hk : rs[k]? = some r) {v' : Value} {n : Nat} {cs : List Value} (ho : y.ownsRow w.heap.size r.ty r.k v' n cs) (hg : x.grownBy y r.v.ownBlock) (hat : ∀ g, v'.ownBlock = some g → r.v.ownBlock = some g ∨ x.heap.size ≤ g) :
  BS w y (rs.set k ⟨r.ty, r.k, v', n, cs⟩) bs := by
 have hor := h.own k r hk
 have hrb : ∀ b, r.v.ownBlock = some b → w.heap.size ≤ b := fun b e => (hor.lt b e).1
 have hkl : k < rs.length := (List.getElem?_eq_some_iff.1 hk).1
 have row : ∀ l q, (rs.set k ⟨r.ty, r.k, v', n, cs⟩)[l]? = some q → (l = k ∧ q = ⟨r.ty, r.k, v', n, cs⟩) ∨ (l ≠ k ∧ rs[l]? = some q) := fun l q hq => by
  by_cases e : k = l
  ·subst e
   rw [List.getElem?_set_self hkl] at hq
   exact .inl ⟨rfl, by simpa using hq.symm⟩
  ·rw [List.getElem?_set_ne e] at hq
   exact .inr ⟨fun e' => e e'.symm, hq⟩
 refine { low := h.low.grown hg h.low.size hrb, own := fun l q hq => ?_, dis := fun l m q p hq hp hlm b hb => ?_, nd := h.nd, box := fun m p hp => ?_, far := fun m l p q hp hq => ?_ }
 ·rcases row l q hq with ⟨rfl, rfl⟩ | ⟨hne, hq'⟩
  ·exact ho
  ·refine (h.own l q hq').kept hg ?_
   cases e : q.v.ownBlock with
   | none => exact .inl rfl
   | some b => exact .inr fun e' => h.dis l k q r hq' hk hne b e e'.symm
 ·rcases row l q hq with ⟨rfl, rfl⟩ | ⟨hne, hq'⟩
  ·rcases row m p hp with ⟨rfl, rfl⟩ | ⟨hne', hp'⟩
   ·exact absurd rfl hlm
   ·intro e
    rcases hat b hb with h1 | h1
    ·exact h.dis m l p r hp' hk hne' b e h1
    ·have := ((h.own m p hp').lt _ e).2
     omega
  ·rcases row m p hp with ⟨rfl, rfl⟩ | ⟨hne', hp'⟩
   ·intro e
    rcases hat b e with h1 | h1
    ·exact h.dis l m q r hq' hk hne b hb h1
    ·have := ((h.own l q hq').lt _ hb).2
     omega
   ·exact h.dis l m q p hq' hp' hlm b hb
 ·obtain ⟨h1, h2, h3, h5⟩ := h.box m p hp
  have hne := h.far m k p r hp hk
  exact ⟨fun j u hu => hg.cell (h1 j u hu) (fun e => hne e.symm), fun o => (hg.frozen_far ⟨p.1, o, none⟩ h3 (fun e => hne e.symm)).trans (h2 o), Nat.lt_of_lt_of_le h3 hg.size, h5⟩
 ·rcases row l q hq with ⟨rfl, rfl⟩ | ⟨hne, hq'⟩
  ·intro e
   rcases hat _ e with h1 | h1
   ·exact h.far m l p r hp hk h1
   ·have := (h.box m p hp).2.2.1
    omega
  ·exact h.far m l p q hp hq'
theorem BS.nil {w x : World} {rs : List Row} {bs : List (Nat × List Value)} (h : BS w x rs bs) (ty : TypeId) (k : Nat) : BS w x (⟨ty, k, .slice none 0 0, 0, []⟩ :: rs) bs := by
 refine { low := h.low, own := fun l r hr => ?_, dis := fun l m r q hr hq hlm b hb => ?_, box := h.box, far := fun m l p r hp hr => ?_, nd := h.nd }
 ·cases l with
  | zero => simp at hr; subst hr; exact World.ownsRow_nil _ _ _ _
  | succ l => exact h.own l r (by simpa using hr)
 ·cases l with
  | zero => simp at hr; subst hr; simp [Value.ownBlock] at hb
  | succ l =>
   cases m with
   | zero => simp at hq; subst hq; simp [Value.ownBlock]
   | succ m => exact h.dis l m r q (by simpa using hr) (by simpa using hq) (by omega) b hb
 ·cases l with
  | zero => simp at hr; subst hr; simp [Value.ownBlock]
  | succ l => exact h.far m l p r hp (by simpa using hr)
theorem row_at {w : World} {B : Nat} {ty : TypeId} {m n : Nat} {v : Value} {α : Type} {f : α → List Value} {l : List α} (d : α) (hm : ∀ x, (f x).length = m) (h : w.ownsRow B ty m v n (l.flatMap f)) (hn : l.length = n) :
  ∃ a c, v = .slice a n c ∧ (a = none → n = 0 ∧ c = 0) ∧ (n = 0 ∨ ∃ b off, a = some ⟨b, off, none⟩ ∧ ∀ i, i < n → ∀ j u, j < m → (f (l.getD i d))[j]? = some u → w.cell? ⟨b, off + i * m + j, none⟩ = some u) := by
 rcases h.2 with ⟨rfl, rfl⟩ | ⟨g, cap, cur, rfl, hb, hh, h1, h2, h3, h4⟩
 ·exact ⟨none, 0, rfl, fun _ => ⟨rfl, rfl⟩, .inl rfl⟩
 ·refine ⟨_, _, rfl, fun e => (by cases e), .inr ⟨g, 0, rfl, fun i hi j u hj hu => ?_⟩⟩
  have hlt : i * m + j < n * m := by
   have : (i + 1) * m ≤ n * m := Nat.mul_le_mul_right m hi
   rw [Nat.succ_mul] at this
   omega
  rw [Nat.zero_add, h.cellAt _ hlt, flat_at f m d hm l i j (by omega) hj]
  exact hu

theorem run_append_more (w : World) (B : Nat) (t e : TypeId) (i0 : TypeInfo) (z : Value) (size bytes : Nat) (ht : Tryz.prog.underlying t = some (.slice e)) (hi : Tryz.prog.info? e = some i0) (hz : i0.zero = some z) (hsize : i0.size = size) (hby : i0.bytes = bytes) (hzs : z.cells.size = size) (hsz : 0 < size)
  {v : Value} {n : Nat} {xs : List Value} (hown : w.ownsRow B e size v n xs) (hB : B ≤ w.heap.size)
  {a : Option Addr} {l c : Nat} {cs : List Value} (hnil : a = none → l = 0 ∧ c = 0) (hlen : cs.length = l * size) (hcells : ∀ ad, a = some ad → ∀ j u, cs[j]? = some u → w.cell? (ad.add j) = some u) (h1 : ∀ u ∈ cs, u.oneCell' = true) (hb : (n + l) * bytes ≤ 140737488355328) (hm : n + l ≤ 140737488355328) (ty : TypeId) :
  ∃ v' w', (Builtin.append_ #[t, t] ty #[v, .slice a l c]).run Tryz.prog w = .ok v' w' ∧ w'.ownsRow B e size v' (n + l) (xs ++ cs) ∧ w.grownBy w' v.ownBlock ∧ ∀ g, v'.ownBlock = some g → v.ownBlock = some g ∨ w.heap.size ≤ g := by
 cases a with
 | none =>
  obtain ⟨rfl, rfl⟩ := hnil rfl
  obtain rfl : cs = [] := List.eq_nil_of_length_eq_zero (by simpa using hlen)
  exact ⟨_, _, run_append_owned_none (P := Tryz.prog) w B t ty e i0 size ht hi v n xs hown, by simpa using hown, gb_of_below (Below.refl _ _) _, fun g hg => .inl hg⟩
 | some ad =>
  obtain ⟨v', w', hr, ho, hg, -, h5⟩ := run_append_own_at (P := Tryz.prog) w B t ty e i0 z size bytes ht hi hz hsize hby hzs hsz v n xs hown ad l c cs hlen (hcells ad rfl) h1 (by unfold maxLen; omega) hb hB
  refine ⟨v', w', hr, ho, hg, fun g hg' => ?_⟩
  rcases h5 with h5 | h5
  ·exact .inl (h5 ▸ hg')
  ·rw [h5] at hg'
   cases hg'
   exact .inr (Nat.le_refl _)
theorem wpList_append_more {ops : Array Oper} {rest : List Oper} {o : Oper} {ac : Act} {w : World} {Q : Exit → Act → World → Prop} (hgd : o.guard = none) (s x : Operand) (t : TypeId)
  (ho : o.op = .call { callee := .builtin .append, args := #[s, x], argTypes := #[t, t] }) (B : Nat) (e : TypeId) (i0 : TypeInfo) (z : Value) (size bytes : Nat) (ht : Tryz.prog.underlying t = some (.slice e)) (hi : Tryz.prog.info? e = some i0) (hz : i0.zero = some z) (hsize : i0.size = size) (hby : i0.bytes = bytes) (hzs : z.cells.size = size) (hsz : 0 < size)
  {v : Value} {n : Nat} {xs : List Value} (hs : ac.eval s = v) (hown : w.ownsRow B e size v n xs) (hB : B ≤ w.heap.size)
  {a : Option Addr} {l c : Nat} {cs : List Value} (hx : ac.eval x = .slice a l c) (hnil : a = none → l = 0 ∧ c = 0) (hlen : cs.length = l * size) (hcells : ∀ ad, a = some ad → ∀ j u, cs[j]? = some u → w.cell? (ad.add j) = some u) (h1 : ∀ u ∈ cs, u.oneCell' = true) (hb : (n + l) * bytes ≤ 140737488355328) (hm : n + l ≤ 140737488355328)
  (hk : ∀ v' w', w'.ownsRow B e size v' (n + l) (xs ++ cs) → w.grownBy w' v.ownBlock → (∀ g, v'.ownBlock = some g → v.ownBlock = some g ∨ w.heap.size ≤ g) → wpList Tryz.prog ops Q rest (ac.put o.dst v') w') : wpList Tryz.prog ops Q (o :: rest) ac w := by
 refine wpList_plain hgd fun K hK => ?_
 obtain ⟨v', w', hr, h2, h3, h4⟩ := run_append_more w B t e i0 z size bytes ht hi hz hsize hby hzs hsz hown hB hnil hlen hcells h1 hb hm o.type
 unfold Oper.wp execOp
 simp only [ho, resolve, invoke, builtin, Sem.run_bind, Sem.run_pure, Result.andThen_ok, List.map_toArray, List.map_cons, List.map_nil, hs, hx, hr]
 exact hK _ _ (hk v' w' h2 h3 h4)

structure Gr (w w' : World) (v v' : Value) : Prop where
 grown : w.grownBy w' v.ownBlock
 lies : ∀ g, v'.ownBlock = some g → v.ownBlock = some g ∨ w.heap.size ≤ g
theorem Gr.refl (w : World) (v : Value) : Gr w w v v := ⟨⟨rfl, rfl, rfl, Nat.le_refl _, fun _ _ _ => rfl⟩, fun _ h => .inl h⟩
theorem Gr.trans {w w1 w2 : World} {v v1 v2 : Value} (h : Gr w w1 v v1) (k : Gr w1 w2 v1 v2) : Gr w w2 v v2 := by
 refine ⟨⟨k.grown.os.trans h.grown.os, k.grown.tape.trans h.grown.tape, k.grown.output.trans h.grown.output, Nat.le_trans h.grown.size k.grown.size, fun j hj hne => ?_⟩, fun g hg => ?_⟩
 ·refine (k.grown.block j (Nat.lt_of_lt_of_le hj h.grown.size) (fun e => ?_)).trans (h.grown.block j hj hne)
  rcases h.lies j e.symm with h1 | h1
  ·exact hne h1.symm
  ·omega
 ·rcases k.lies g hg with h1 | h1
  ·exact h.lies g h1
  ·exact .inr (Nat.le_trans h.grown.size h1)
theorem Gr.below {w w1 : World} (v : Value) (h : Below w.heap.size w w1) : Gr w w1 v v := ⟨⟨h.os, h.tape, h.output, h.size, fun k hk _ => h.block k hk⟩, fun _ h => .inl h⟩
theorem Gr.cell {w w' : World} {v v' : Value} (h : Gr w w' v v') {b o : Nat} {u : Value} (hc : w.cell? ⟨b, o, none⟩ = some u) (hne : v.ownBlock ≠ some b) : w'.cell? ⟨b, o, none⟩ = some u := h.grown.cell hc (fun e => hne e.symm)

theorem str_lies {w : World} {B : Nat} {v : Value} {n : Nat} {xs : List Value} (ty : TypeId) (hown : w.ownsRow B 5 1 v n xs) (s : ByteArray) (hbytes : n + s.size ≤ 140737488355328) (hbase : B ≤ w.heap.size) :
  ∃ v' w', (Builtin.append_ #[65, 9] ty #[v, .string s]).run Tryz.prog w = .ok v' w' ∧ w'.ownsRow B 5 1 v' (n + s.size) (xs ++ strCells s) ∧ Gr w w' v v' := by
 obtain ⟨i0, hi, hz0, hz1, hz2⟩ := info_parts infoB
 obtain ⟨v', w', hr, ho, hg, hnil⟩ := run_append_own_string (P := Tryz.prog) w B 65 9 ty 5 i0 Tryz.underlying65 Tryz.underlying9 hi hz0 hz1 hz2 v n xs hown s (by unfold maxLen; omega) hbytes hbase
 refine ⟨v', w', hr, ho, hg, fun g hgv => ?_⟩
 have hsrc : Src Tryz.prog i0.size 9 (.string s) s.size (byteCells s) w := by rw [hz1]; exact Src.ofString w Tryz.underlying9 s
 have grow : ∀ (bs : Option Addr) (c : Nat) (olds : List Value), v = .slice bs n c → c < n + s.size → (Builtin.firstCells i0.size n (.slice bs n c)).run Tryz.prog w.drew = .ok olds.toArray w.drew → w.heap.size ≤ g := by
  intro bs c olds hv hc hold
  have hr2 := run_append_grow_src (P := Tryz.prog) w 65 9 ty 5 i0 (.int .u8 0) Tryz.underlying65 hi hz0 bs n c olds hold (.string s) s.size (byteCells s) hsrc hc (by omega) (growslice_fits hc (by rw [hz2]; omega))
  rw [← hv, hr] at hr2
  injection hr2 with e1 e2
  rw [e1] at hgv
  simp [Value.ownBlock] at hgv
  omega
 rcases hown.2 with ⟨rfl, rfl⟩ | ⟨g0, cap, cur, rfl, hb, hh, h1, h2, h3, h4⟩
 ·by_cases hs : s.size = 0
  ·have := hnil.2 ⟨rfl, hs⟩
   rw [this] at hgv
   simp [Value.ownBlock] at hgv
  ·exact .inr (grow none 0 [] rfl (by omega) (run_firstCells_none w.drew i0.size 0 0 0))
 ·by_cases hroom : n + s.size ≤ cap
  ·have hr2 := run_append_room_src (P := Tryz.prog) w 65 9 ty 5 i0 Tryz.underlying65 hi g0 0 n cap (.string s) s.size (byteCells s) hsrc hroom (by
    intro j hj
    rw [byteCells_length] at hj
    rw [cell_of_row w g0 _ cur 5 (0, 0) hh, hz1]
    simp
    omega) (by
    intro j hj
    unfold World.frozen?
    rw [hh]
    simp)
   rw [hr] at hr2
   injection hr2 with e1 e2
   rw [e1] at hgv
   exact .inl hgv
  ·refine .inr (grow _ cap xs rfl (by omega) ?_)
   rw [hz1]
   exact run_firstCells_some w.drew 1 n ⟨g0, 0, none⟩ n cap xs (by simpa using hown.1) (fun j u hu => by
    have hj : j < n := by have := (List.getElem?_eq_some_iff.1 hu).1; have := hown.1; omega
    rw [Addr.add_lit, Nat.zero_add, World.cell?_drew, hown.cellAt j (by omega)]
    exact hu)

theorem wpList_append_str {ops : Array Oper} {rest : List Oper} {o : Oper} {a : Act} {Q : Exit → Act → World → Prop} {w : World} (hgd : o.guard = none) (sl x : Operand)
  (ho : o.op = .call { callee := .builtin .append, args := #[sl, x], argTypes := #[65, 9] })
  {B : Nat} {v : Value} {n : Nat} {xs : List Value} (hs : a.eval sl = v) (hown : w.ownsRow B 5 1 v n xs) (s : ByteArray) (hx : a.eval x = .string s)
  (hbytes : n + s.size ≤ 140737488355328) (hbase : B ≤ w.heap.size)
  (h : ∀ v' w', w'.ownsRow B 5 1 v' (n + s.size) (xs ++ strCells s) → Gr w w' v v' → wpList Tryz.prog ops Q rest (a.put o.dst v') w') : wpList Tryz.prog ops Q (o :: rest) a w := by
 refine wpList_plain hgd fun K hK => ?_
 obtain ⟨v', w', hr, h2, h3⟩ := str_lies o.type hown s hbytes hbase
 unfold Oper.wp execOp
 simp only [ho, resolve, invoke, builtin, Sem.run_bind, Sem.run_pure, Result.andThen_ok, List.map_toArray, List.map_cons, List.map_nil, hs, hx, hr]
 exact hK _ _ (h v' w' h2 h3)

end O
end Go.Proofs.YtgjingleolhkbaaGreatDoor

/- What a relocation says; the object, step by step. -/
namespace Go.Proofs.YtgjingleolhkbaaGreatDoor
open Go.RowKit Go.Maps Go.Lib
set_option linter.unusedVariables false
set_option linter.unusedSimpArgs false
namespace Z
def relOf (t : X.It) (p : Int) : O.Rel := if t.op = 19 then ⟨p, 2, X.str t.name, t.n⟩ else ⟨p, 1, X.str t.name, 0⟩
def stepO (ts : List X.It) (ops : List Int) (s : O.ObjD) (k : Nat) : O.ObjD :=
 if (ts.getD k X.noIt).kind = 2 then ⟨s.code ++ strOfNums (codeV ts ops k), s.data, s.syms, if isOpen ts (ts.getD k X.noIt) = true then s.rels ++ [relOf (ts.getD k X.noIt) ((s.code ++ strOfNums (codeV ts ops k)).size - 4)] else s.rels⟩
 else if (ts.getD k X.noIt).kind = 3 then ⟨s.code, s.data ++ (ts.getD k X.noIt).words, s.syms ++ [⟨X.str (ts.getD k X.noIt).name, 2, s.data.length⟩], s.rels⟩
 else if (ts.getD k X.noIt).kind = 4 then ⟨s.code, s.data, s.syms ++ [⟨X.str (ts.getD k X.noIt).name, 1, placeOf ts ops (ts.getD k X.noIt).name⟩], s.rels⟩
 else if (ts.getD k X.noIt).kind = 5 then ⟨s.code, s.data, s.syms ++ [⟨X.str (ts.getD k X.noIt).name, 3, placeOf ts ops (ts.getD k X.noIt).name⟩], s.rels⟩
 else s
def noObj : O.ObjD := ⟨{ data := #[] }, [], [], []⟩
def objTo (ts : List X.It) (ops : List Int) (k : Nat) : O.ObjD := (List.range k).foldl (stepO ts ops) noObj
def obj (ts : List X.It) : O.ObjD := objTo ts (ops ts) ts.length
theorem objTo_succ (ts : List X.It) (ops : List Int) (k : Nat) : objTo ts ops (k + 1) = stepO ts ops (objTo ts ops k) k := by
 unfold objTo
 rw [List.range_succ, List.foldl_append]
 rfl
theorem enc_len (op a b n : Int) : (J.I.encV op a b n).length ≤ 20 := by
 unfold J.I.encV
 split
 ·split
  ·have h1 : (J.I.regB (J.I.regs op) a b).length ≤ 1 := by
    unfold J.I.regB
    split
    ·simp
    ·split <;> simp
   have h2 : (J.I.numW (J.I.num op) n).length ≤ 8 := by
    have hr := J.I.num_range op
    unfold J.I.numW J.W.bytesV
    split
    ·simp
    ·split
     ·split
      ·rw [J.W.bytesOf_length]; omega
      ·simp
     ·simp
   simp only [List.length_append, List.length_cons, List.length_nil]
   omega
  ·simp
 ·simp
theorem strOf_size (l : List Int) : (strOfNums l).size = l.length := by
 unfold strOfNums
 show (List.toArray _).size = _
 simp
end Z
theorem reloc_any (t : X.It) (p : Int) (aw : Option Addr) (lw cw : Nat) (w : World) : Calls Tryz.prog 55 #[itV t (.slice aw lw cw), .int .i64 p] w fun e w' => e = .returned (.agg #[.int .i64 (Z.relOf t p).pos, .int .i64 (Z.relOf t p).kind, .string (Z.relOf t p).name, .int .i64 (Z.relOf t p).add]) ∧ Below w.heap.size w w' := by
 obtain ⟨op, hop⟩ : ∃ op, t.op = op := ⟨_, rfl⟩
 by_cases h : op = 19
 ·subst h
  have HR : Hid (Z.relOf t p = ⟨p, 2, X.str t.name, t.n⟩) := by show _ = _; unfold Z.relOf; rw [if_pos hop]
  unfold itV
  rw [hop]
  clear hop
  go_enter Tryz.func55, Tryz.ntmps55
  go_wp2_with fail
  refine bodyPost_ret (v := .agg #[.int .i64 p, .int .i64 2, .string (X.str t.name), .int .i64 t.n]) (by simp [results, Tryz.results55, go_sem]) rfl ?_
  refine ⟨by rw [HR.out], ?_⟩
  repeat (first | exact bl1 _ _ | exact (bl1 _ _).alloc (by simp) _ | refine Below.setCell ?_ (by simp) _)
 ·have hd : (op == 19) = false := by simpa using h
  have HR : Hid (Z.relOf t p = ⟨p, 1, X.str t.name, 0⟩) := by show _ = _; unfold Z.relOf; rw [if_neg (by rw [hop]; exact h)]
  unfold itV
  rw [hop]
  clear hop
  go_enter Tryz.func55, Tryz.ntmps55
  go_wp2_with fail
  refine bodyPost_ret (v := .agg #[.int .i64 p, .int .i64 1, .string (X.str t.name), .int .i64 0]) (by simp [results, Tryz.results55, go_sem]) rfl ?_
  refine ⟨by rw [HR.out], ?_⟩
  repeat (first | exact bl1 _ _ | exact (bl1 _ _).alloc (by simp) _ | refine Below.setCell ?_ (by simp) _)

end Go.Proofs.YtgjingleolhkbaaGreatDoor
