/- 'lay'. -/
import Derived.Test.YtgjingleolhkbaaGreatDoorTAq
namespace Go.Proofs.YtgjingleolhkbaaGreatDoor
open Go.RowKit Go.Maps
set_option linter.unusedVariables false
set_option linter.unusedSimpArgs false

theorem own_row_cells {W : World} {B : Nat} {ty : TypeId} {k n : Nat} {v : Value} {cs : List Value} (h : W.ownsRow B ty k v n cs) (hn : 0 < n) : ∃ g cap cur, v = .slice (some ⟨g, 0, none⟩) n cap ∧ B ≤ g ∧ W.heap[g]? = some (.cells cur ty (0, 0)) ∧ n ≤ cap ∧ cap ≤ maxLen ∧ ∀ j, j < n * k → cur[j]? = cs[j]? := by
 rcases h.2 with ⟨-, e⟩ | ⟨g, cap, cur, e, hb, hh, h1, h2, h3, h4⟩
 ·omega
 ·refine ⟨g, cap, cur, e, hb, hh, h1, h2, fun j hj => ?_⟩
  rw [← h4, List.getElem?_take, if_pos hj, Array.getElem?_toList]
theorem LA.toLV {w W : World} {yb bm : Nat} {ai : Option Addr} {li ci : Nat} {ts : List X.It} {vp vj : Value} {ops : List Int} {js : List (Nat × Nat)} (h : LA w W yb bm ai li ci ts vp vj ops.length js.length (ops.flatMap pC) (js.flatMap jpC)) :
  ∃ ap cp aj cj, LV w W yb bm ai li ci ts ap aj cp cj ops (ops.map fun _ => 0) js 0 := by
 obtain ⟨ap, cp, rfl⟩ := own_slice h.pr
 obtain ⟨aj, cj, rfl⟩ := own_slice h.jr
 refine ⟨ap, cp, aj, cj, h.low, h.hy, h.y, h.hm, h.nm, ⟨by simp, ?_, ?_⟩, h.jr⟩
 ·rcases h.pr.2 with ⟨e, e2⟩ | ⟨g, cap, cur, e, hb, hh, h1, h2, -⟩
  ·injection e with _ _ e3
   subst e3
   exact ⟨by omega, by unfold maxLen; omega⟩
  ·injection e with _ _ e
   subst e
   exact ⟨h1, h2⟩
 ·by_cases hn : 0 < ops.length
  ·obtain ⟨g, cap, cur, e, hb, hh, -, -, hc⟩ := own_row_cells h.pr hn
   injection e with e _ _
   refine .inr ⟨g, cur, e, hb, hh, fun i hi => ?_⟩
   have key : ∀ d, d < 3 → cur[i * 3 + d]? = (pC (ops.getD i 0))[d]? := fun d hd => by
    rw [hc _ (by omega), flat_at pC 3 0 (fun _ => rfl) ops i d hi hd]
   refine ⟨by simpa [pC] using key 0 (by omega), by simpa [pC] using key 1 (by omega), ?_⟩
   have := key 2 (by omega)
   rw [this]
   simp [pC, List.getD, hi]
  ·exact .inl (List.eq_nil_of_length_eq_zero (by omega))

theorem jl_snoc {ts : List X.It} {k : Nat} {t : X.It} (h : ts[k]? = some t) : Z.jumpsOf ts (ts.zipIdx.take (k + 1)) = if Z.jump t = true then Z.jumpsOf ts (ts.zipIdx.take k) ++ [(k, Z.labN ts t.name)] else Z.jumpsOf ts (ts.zipIdx.take k) := by
 have e : ts.zipIdx[k]? = some (t, k) := by rw [List.getElem?_zipIdx, h]; simp
 rw [List.take_add_one, e]
 unfold Z.jumpsOf
 rw [Option.toList_some, List.filter_append, List.map_append]
 by_cases hj : Z.jump t = true
 ·rw [if_pos hj]; simp [hj]
 ·rw [if_neg hj]; simp [hj]
theorem jl_len (ts : List X.It) (k : Nat) : (Z.jumpsOf ts (ts.zipIdx.take k)).length ≤ k := by
 unfold Z.jumpsOf
 rw [List.length_map]
 refine Nat.le_trans (List.length_filter_le _ _) ?_
 rw [List.length_take]
 omega
theorem js_take (ts : List X.It) : Z.jumpsOf ts (ts.zipIdx.take ts.length) = Z.js ts := by
 rw [List.take_of_length_le (by simp)]
 rfl
theorem labN_lt {ts : List X.It} (nm : X.By) (h : 0 < ts.length) : Z.labN ts nm < ts.length := by
 unfold Z.labN
 cases hl : Z.lab ts nm with
 | none => exact h
 | some i => exact (Z.lab_some hl).1
theorem js_in (ts : List X.It) : JIn ts.length (Z.js ts) := fun j hj => by
 unfold Z.js Z.jumpsOf at hj
 obtain ⟨p, hp, rfl⟩ := List.mem_map.1 hj
 obtain ⟨hp, -⟩ := List.mem_filter.1 hp
 obtain ⟨t, i⟩ := p
 have hi : i < ts.length := by
  have := List.mem_zipIdx hp
  simp at this
  exact this.1
 exact ⟨hi, labN_lt _ (by omega)⟩
theorem shorts_le (ts : List X.It) (ops : List Int) : Z.shorts ts ops ≤ ts.length := by
 unfold Z.shorts
 refine Nat.le_trans (List.length_filter_le _ _) ?_
 rw [← js_take]
 exact jl_len ts ts.length

def LayOut (w : World) (bm : Nat) (a : Option Addr) (l c : Nat) (ts : List X.It) (e : Ending) (w' : World) : Prop :=
 ∃ yb ap aj cp cj, e = .returned (.pointer (some ⟨yb, 0, none⟩)) ∧ LV w w' yb bm a l c ts ap aj cp cj (Z.ops ts) (Z.ats (Z.ops ts)) (Z.js ts) (Z.tot (Z.ops ts))
set_option maxRecDepth 100000 in
set_option maxHeartbeats 8000000 in
theorem lay_any {w W : World} {a : Option Addr} {l c bm : Nat} {ts : List X.It} (hv : ItsV w a l c ts) (hl : l ≤ 20000) (hJ : J.Tab w) (hb : Below w.heap.size w W) (hm : w.heap.size ≤ bm) (hn : NM W bm ts) :
  Calls Tryz.prog 24 #[.slice a l c, .map (some bm)] W (LayOut w bm a l c ts) := by
 have HV : Hid _ := hv
 have HJT : Hid (J.Tab w) := hJ
 have HC : Hid (ts.length = l) := hv.count
 have HA0 : Hid (LA w (W.alloc (.cells #[.map (some bm), .slice a l c, .slice none 0 0, .slice none 0 0, .int .i64 0] 87)) W.heap.size bm a l c ts (.slice none 0 0) (.slice none 0 0) 0 0 [] []) :=
  ⟨hb.trans ((bl1 _ _).mono hb.size), hb.size, (MapKept.heap_alloc W _).1, hm, hn.below (bl1 _ _), World.ownsRow_nil _ _ _ _, World.ownsRow_nil _ _ _ _⟩
 obtain ⟨yb, hyb⟩ : ∃ yb, W.heap.size = yb := ⟨_, rfl⟩
 obtain ⟨Y, hY⟩ : ∃ Y, W.alloc (.cells #[.map (some bm), .slice a l c, .slice none 0 0, .slice none 0 0, .int .i64 0] 87) = Y := ⟨_, rfl⟩
 rw [hyb, hY] at HA0
 clear hv hJ hb hm hn
 go_enter Tryz.func24, Tryz.ntmps24
 go_wp2_with fail
 go_loopg [14] l (fun r iv wq => ∃ (k : Nat), iv = .int .i64 k ∧ k ≤ l ∧ l - k ≤ r ∧ Hid (∃ vp vj, LA w wq yb bm a l c ts vp vj k (Z.jumpsOf ts (ts.zipIdx.take k)).length (((ts.take k).map Z.op0).flatMap pC) ((Z.jumpsOf ts (ts.zipIdx.take k)).flatMap jpC)))
 case atStart => exact ⟨0, rfl, Nat.zero_le _, by omega, ⟨_, _, by simpa [Z.jumpsOf] using HA0.out⟩⟩
 case round =>
  obtain ⟨k, rfl, hk, hr, HX⟩ := hrel
  obtain ⟨vp, vj, hLA⟩ := HX.out
  have HLA : Hid _ := hLA
  clear HX
  by_cases hlt : k < l
  ·have hii : (k : Int) < l := by omega
   have hin : 0 ≤ (k : Int) := by omega
   obtain ⟨b, off, t, aw, lw, cw, rfl, hg, hmem, c0, c1, c2, c3, c4, c5, c6, hi⟩ := (HV.out.below hLA.low).at hlt
   have hgt : ts[k]? = some t := by
    have hk2 : k < ts.length := by rw [HC.out]; exact hlt
    simp only [List.getD, List.getElem?_eq_getElem hk2, Option.getD_some] at hg
    rw [List.getElem?_eq_getElem hk2, hg]
   have hfit := (HV.out.fit t hmem).1
   have HJS : Hid _ := jl_snoc hgt
   have HTK : Hid (((ts.take (k + 1)).map Z.op0).flatMap pC = ((ts.take k).map Z.op0).flatMap pC ++ pC (Z.op0 t)) := by show _ = _; rw [Z.take_snoc hgt]; simp
   have hadd := add_any (hLA.below (bl1 wr (.cells #[.int .i64 t.kind, .string (X.str t.name), .int .i64 t.op, .int .i64 t.a, .int .i64 t.b, .int .i64 t.n, .slice aw lw cw] 44))) HJT.out (by omega) (by have := jl_len ts k; omega) k (by omega) t hfit aw lw cw
   unfold itV at hadd
   obtain ⟨Y0, hY0⟩ : ∃ Y0, wr.alloc (.cells #[.int .i64 t.kind, .string (X.str t.name), .int .i64 t.op, .int .i64 t.a, .int .i64 t.b, .int .i64 t.n, .slice aw lw cw] 44) = Y0 := ⟨_, rfl⟩
   rw [hY0] at hadd
   have f0 : Y0.cell? ⟨wr.heap.size, 0, none⟩ = some (.int .i64 t.kind) := by subst hY0; exact cellA rfl rfl
   have f1 : Y0.cell? ⟨wr.heap.size, 1, none⟩ = some (.string (X.str t.name)) := by subst hY0; exact cellA rfl rfl
   have f2 : Y0.cell? ⟨wr.heap.size, 2, none⟩ = some (.int .i64 t.op) := by subst hY0; exact cellA rfl rfl
   have f3 : Y0.cell? ⟨wr.heap.size, 3, none⟩ = some (.int .i64 t.a) := by subst hY0; exact cellA rfl rfl
   have f4 : Y0.cell? ⟨wr.heap.size, 4, none⟩ = some (.int .i64 t.b) := by subst hY0; exact cellA rfl rfl
   have f5 : Y0.cell? ⟨wr.heap.size, 5, none⟩ = some (.int .i64 t.n) := by subst hY0; exact cellA rfl rfl
   have f6 : Y0.cell? ⟨wr.heap.size, 6, none⟩ = some (.slice aw lw cw) := by subst hY0; exact cellA rfl rfl
   clear hLA hg hmem hi hfit hgt
   go_wp2_with fail
   refine hadd.mono ?_
   rintro e w1 ⟨rfl, vp', vj', h1⟩
   have HN : Hid (∃ vp vj, LA w w1 yb bm (some ⟨b, off, none⟩) l c ts vp vj (k + 1) (Z.jumpsOf ts (ts.zipIdx.take (k + 1))).length (((ts.take (k + 1)).map Z.op0).flatMap pC) ((Z.jumpsOf ts (ts.zipIdx.take (k + 1))).flatMap jpC)) := by
    refine ⟨vp', vj', ?_⟩
    rw [HTK.out, HJS.out]
    by_cases hj : Z.jump t = true
    ·rw [if_pos hj, if_pos hj] at h1
     rw [if_pos hj, List.length_append, List.flatMap_append]
     simpa using h1
    ·rw [if_neg hj, if_neg hj] at h1
     rw [if_neg hj]
     exact h1
   clear h1 hadd hY0 f0 f1 f2 f3 f4 f5 f6 c0 c1 c2 c3 c4 c5 c6
   go_wp2_with fail
   go_roundg (l - (k + 1))
   case measure => omega
   case rel => exact ⟨k + 1, by go_num, by omega, Nat.le_refl _, HN.out⟩
  ·obtain rfl : k = l := by omega
   have hii : ¬ (k : Int) < k := by omega
   have hfin : ∃ ap cp aj cj, LV w wr yb bm a k c ts ap aj cp cj (ts.map Z.op0) ((ts.map Z.op0).map fun _ => 0) (Z.js ts) 0 := by
    refine LA.toLV (vp := vp) (vj := vj) ?_
    have := HLA.out
    rw [← HC.out, js_take, List.take_length] at this
    rw [← HC.out, List.length_map]
    exact this
   obtain ⟨ap, cp, aj, cj, hLV⟩ := hfin
   have hset := settle_any hLV HV.out HJT.out (by simp) (by rw [List.length_map, HC.out]; exact hl) (by rw [List.length_map]; exact js_in ts) ts.length (shorts_le ts _)
   clear hLV hLA
   go_wp2_with fail
   refine hset.mono ?_
   rintro e w1 ⟨rfl, hL⟩
   have HL : Hid _ := hL
   clear hL hset
   go_wp2_with fail
   go_ret
   exact ⟨yb, ap, aj, cp, cj, rfl, HL.out⟩

end Go.Proofs.YtgjingleolhkbaaGreatDoor

/- Which items are left open, and where labels stand. (Written by gen_open.py.) -/
namespace Go.Proofs.YtgjingleolhkbaaGreatDoor
namespace Z
def isOpen (ts : List X.It) (t : X.It) : Bool := decide (t.op = 19) || (decide (t.op = 23) && (lab ts t.name).isNone)
def placeOf (ts : List X.It) (ops : List Int) (nm : X.By) : Int := (ats ops).getD (labN ts nm) 0
end Z
open Go.RowKit Go.Maps
set_option linter.unusedVariables false
set_option linter.unusedSimpArgs false
section
variable {w W : World} {yb bm : Nat} {ai : Option Addr} {li ci : Nat} {ts : List X.It} {ap aj : Option Addr} {cp cj : Nat} {ops bs : List Int} {js : List (Nat × Nat)} {sz : Int}
set_option maxRecDepth 100000 in
set_option maxHeartbeats 8000000 in
theorem isOpen_any (h : LV w W yb bm ai li ci ts ap aj cp cj ops bs js sz) (t : X.It) (hnm : t.name.length ≤ maxLen) (aw : Option Addr) (lw cw : Nat) :
  Calls Tryz.prog 52 #[.pointer (some ⟨yb, 0, none⟩), itV t (.slice aw lw cw)] W fun e w' => e = .returned (.bool (Z.isOpen ts t)) ∧ Below W.heap.size W w' := by
 obtain ⟨Y0, hY0⟩ : ∃ Y0, W.alloc (.cells #[.int .i64 t.kind, .string (X.str t.name), .int .i64 t.op, .int .i64 t.a, .int .i64 t.b, .int .i64 t.n, .slice aw lw cw] 44) = Y0 := ⟨_, rfl⟩
 have HB0 : Hid (Below W.heap.size W Y0) := by subst hY0; exact bl1 _ _
 have HN : Hid (NM Y0 bm ts) := h.nm.below HB0.out
 have hhc := nhas_any (HN.out.below (Below.refl _ _).drew) t.name hnm
 obtain ⟨bx, hbx⟩ : ∃ bx, W.heap.size = bx := ⟨_, rfl⟩
 have y0 : Y0.cell? ⟨yb, 0, none⟩ = some (.map (some bm)) := cell_thru HB0.out h.cells.1
 have f1 : Y0.cell? ⟨bx, 1, none⟩ = some (.string (X.str t.name)) := by subst hY0 hbx; exact cellA rfl rfl
 have f2 : Y0.cell? ⟨bx, 2, none⟩ = some (.int .i64 t.op) := by subst hY0 hbx; exact cellA rfl rfl
 obtain ⟨op, hop⟩ : ∃ op, t.op = op := ⟨_, rfl⟩
 have HR : Hid (Z.isOpen ts t = (decide (op = 19) || (decide (op = 23) && (Z.lab ts t.name).isNone))) := by show _ = _; unfold Z.isOpen; rw [hop]
 obtain ⟨nm, hnmE⟩ : ∃ nm, X.str t.name = nm := ⟨_, rfl⟩
 unfold itV
 rw [hnmE] at hhc f1 hY0 ⊢
 rw [hop] at f2 hY0 ⊢
 have HK : Hid (∀ W', Below Y0.heap.size Y0 W' → W'.cell? ⟨yb, 0, none⟩ = some (.map (some bm)) ∧ W'.cell? ⟨bx, 1, none⟩ = some (.string nm) ∧ W'.cell? ⟨bx, 2, none⟩ = some (.int .i64 op)) := fun W' hb => ⟨cell_thru hb y0, cell_thru hb f1, cell_thru hb f2⟩
 have HS0 : Hid (Y0.drew.cell? ⟨yb, 0, none⟩ = some (.map (some bm)) ∧ Y0.drew.cell? ⟨bx, 1, none⟩ = some (.string nm) ∧ Y0.drew.cell? ⟨bx, 2, none⟩ = some (.int .i64 op)) := HK.out _ (Below.refl _ _).drew
 clear h hnm hnmE hop
 rcases (show op = 19 ∨ op = 23 ∨ (¬ op = 19 ∧ ¬ op = 23) by omega) with rfl | rfl | ⟨h1, h2⟩
 ·go_enter Tryz.func52, Tryz.ntmps52
  go_wp2_with fail
  refine wp_region_held_drew (S := (fun w' : World => w'.cell? ⟨yb, 0, none⟩ = some (.map (some bm)) ∧ w'.cell? ⟨bx, 1, none⟩ = some (.string nm) ∧ w'.cell? ⟨bx, 2, none⟩ = some (.int .i64 19))) (by kernel_rfl) HS0.out (fun hHeld => ?_)
  refine tj 0 ?_
  simp only [Act.put, zA, zB, zC]
  refine tj 1 ?_
  simp only [Act.put, zA, zB, zC]
  refine tj 2 ?_
  simp only [Act.put, zA, zB, zC]
  refine tj 3 ?_
  simp only [Act.put, zA, zB, zC]
  refine tj 4 ?_
  simp only [Act.put, zA, zB, zC]
  refine tu 5 ?_
  simp only [Act.put, zA, zB, zC]
  refine tu 6 ?_
  simp only [Act.put, zA, zB, zC]
  refine tu 7 ?_
  simp only [Act.put, zA, zB, zC]
  refine tu 8 ?_
  simp only [Act.put, zA, zB, zC]
  refine tu 9 ?_
  simp only [Act.put, zA, zB, zC]
  refine tu 10 ?_
  simp only [Act.put, zA, zB, zC]
  refine tu 11 ?_
  simp only [Act.put, zA, zB, zC]
  refine tu 12 ?_
  simp only [Act.put, zA, zB, zC]
  refine tu 13 ?_
  simp only [Act.put, zA, zB, zC]
  refine tu 14 ?_
  simp only [Act.put, zA, zB, zC]
  refine tu 15 ?_
  simp only [Act.put, zA, zB, zC]
  refine tu 16 ?_
  simp only [Act.put, zA, zB, zC]
  refine tu 17 ?_
  simp only [Act.put, zA, zB, zC]
  refine tu 18 ?_
  simp only [Act.put, zA, zB, zC]
  refine tj 19 ?_
  simp only [Act.put, zA, zB, zC]
  refine tj 20 ?_
  simp only [Act.put, zA, zB, zC]
  refine wpAnyH_done (by kernel_rfl) ?_ _
  clear hHeld
  go_wp2_with fail
  go_ret
  exact ⟨by rw [HR.out]; rfl, HB0.out.drew⟩
 ·generalize Z.lab ts t.name = L at *
  go_enter Tryz.func52, Tryz.ntmps52
  go_wp2_with fail
  refine wp_region_held_drew (S := (fun w' : World => w'.cell? ⟨yb, 0, none⟩ = some (.map (some bm)) ∧ w'.cell? ⟨bx, 1, none⟩ = some (.string nm) ∧ w'.cell? ⟨bx, 2, none⟩ = some (.int .i64 23))) (by kernel_rfl) HS0.out (fun hHeld => ?_)
  refine tj 0 ?_
  simp only [Act.put, zA, zB, zC]
  refine tj 1 ?_
  simp only [Act.put, zA, zB, zC]
  refine tj 2 ?_
  simp only [Act.put, zA, zB, zC]
  refine tj 3 ?_
  simp only [Act.put, zA, zB, zC]
  refine tj 4 ?_
  simp only [Act.put, zA, zB, zC]
  refine tj 5 ?_
  simp only [Act.put, zA, zB, zC]
  refine tj 6 ?_
  simp only [Act.put, zA, zB, zC]
  refine tj 7 ?_
  simp only [Act.put, zA, zB, zC]
  refine tj 8 ?_
  simp only [Act.put, zA, zB, zC]
  refine tj 9 ?_
  simp only [Act.put, zA, zB, zC]
  refine tj 10 ?_
  simp only [Act.put, zA, zB, zC]
  refine tj 11 ?_
  simp only [Act.put, zA, zB, zC]
  refine tj 12 ?_
  simp only [Act.put, zA, zB, zC]
  refine tj 13 ?_
  simp only [Act.put, zA, zB, zC]
  refine tj 14 ?_
  simp only [Act.put, zA, zB, zC]
  refine tj 15 ?_
  simp only [Act.put, zA, zB, zC]
  refine tr [16] ?_
  refine AllReadyH.cons (tA rfl) (fun K hK => ?_) AllReadyH.nil
  go_simp
  refine hhc.mono ?_
  rintro e y1 ⟨rfl, hb1⟩
  have hB1 : Below Y0.heap.size Y0 y1 := (Below.refl _ _).drew.trans hb1
  try go_wp2_with fail
  refine hK.out _ _ (HK.out _ hB1) (fun hHeld => ?_)
  clear hK K
  try simp only [Act.put, zA, zB, zC]
  refine tj 17 ?_
  simp only [Act.put, zA, zB, zC]
  refine tj 18 ?_
  simp only [Act.put, zA, zB, zC]
  refine tj 19 ?_
  simp only [Act.put, zA, zB, zC]
  refine tj 20 ?_
  simp only [Act.put, zA, zB, zC]
  refine wpAnyH_done (by kernel_rfl) ?_ _
  clear hHeld
  have HBF : Hid _ := HB0.out.trans (hB1.mono HB0.out.size)
  clear hb1 hB1
  go_wp2_with fail
  go_ret
  exact ⟨by rw [HR.out]; cases L <;> rfl, HBF.out⟩
 ·have e1 : (op == 19) = false := by simpa using h1
  have e2 : (op == 23) = false := by simpa using h2
  go_enter Tryz.func52, Tryz.ntmps52
  go_wp2_with fail
  refine wp_region_held_drew (S := (fun w' : World => w'.cell? ⟨yb, 0, none⟩ = some (.map (some bm)) ∧ w'.cell? ⟨bx, 1, none⟩ = some (.string nm) ∧ w'.cell? ⟨bx, 2, none⟩ = some (.int .i64 op))) (by kernel_rfl) HS0.out (fun hHeld => ?_)
  refine tj 0 ?_
  simp only [Act.put, zA, zB, zC]
  refine tj 1 ?_
  simp only [Act.put, zA, zB, zC]
  refine tj 2 ?_
  simp only [Act.put, zA, zB, zC]
  refine tj 3 ?_
  simp only [Act.put, zA, zB, zC]
  refine tj 4 ?_
  simp only [Act.put, zA, zB, zC]
  refine tj 5 ?_
  simp only [Act.put, zA, zB, zC]
  refine tj 6 ?_
  simp only [Act.put, zA, zB, zC]
  refine tj 7 ?_
  simp only [Act.put, zA, zB, zC]
  refine tj 8 ?_
  simp only [Act.put, zA, zB, zC]
  refine tj 9 ?_
  simp only [Act.put, zA, zB, zC]
  refine tu 10 ?_
  simp only [Act.put, zA, zB, zC]
  refine tu 11 ?_
  simp only [Act.put, zA, zB, zC]
  refine tu 12 ?_
  simp only [Act.put, zA, zB, zC]
  refine tu 13 ?_
  simp only [Act.put, zA, zB, zC]
  refine tu 14 ?_
  simp only [Act.put, zA, zB, zC]
  refine tu 15 ?_
  simp only [Act.put, zA, zB, zC]
  refine tu 16 ?_
  simp only [Act.put, zA, zB, zC]
  refine tu 17 ?_
  simp only [Act.put, zA, zB, zC]
  refine tj 18 ?_
  simp only [Act.put, zA, zB, zC]
  refine tj 19 ?_
  simp only [Act.put, zA, zB, zC]
  refine tj 20 ?_
  simp only [Act.put, zA, zB, zC]
  refine wpAnyH_done (by kernel_rfl) ?_ _
  clear hHeld
  go_wp2_with fail
  go_ret
  exact ⟨by rw [HR.out]; simp [h1, h2], HB0.out.drew⟩

set_option maxRecDepth 100000 in
set_option maxHeartbeats 8000000 in
theorem placeOf_any (h : LV w W yb bm ai li ci ts ap aj cp cj ops (Z.ats ops) js sz) (hlen : ops.length = ts.length) (nm : X.By) (hnm : nm.length ≤ maxLen) (h0 : 0 < ts.length) :
  Calls Tryz.prog 53 #[.pointer (some ⟨yb, 0, none⟩), .string (X.str nm)] W fun e w' => e = .returned (.int .i64 (Z.placeOf ts ops nm)) ∧ Below W.heap.size W w' := by
 have hlt : Z.labN ts nm < ops.length := by rw [hlen]; exact labN_lt nm h0
 obtain ⟨g, rfl, -, hgl, -, hc, -, -⟩ := h.piece hlt
 obtain ⟨-, -, p2⟩ := hc _ hlt
 obtain ⟨y0, -, y2, -⟩ := h.cells
 have hrm := h.pr.room
 have HR : Hid (Z.placeOf ts ops nm = (Z.ats ops).getD (Z.labN ts nm) 0) := rfl
 have hkey := keyStr nm hnm
 have HRUN : Hid ((Instr.lookup 54 (.map (some bm)) (.string (X.str nm)) false).run Tryz.prog W.drew = .ok (.int .i64 (Z.labN ts nm)) W.drew) := by
  show _ = _
  obtain ⟨D, n, h1, h2, h3⟩ := h.nm.ex
  obtain ⟨c, hc, hat, -⟩ := h1.drew.lookup_int lawS Tryz.underlying54 Tryz.underlying3 (zeroI _) hkey
  rw [h3 nm] at hat
  rw [hc]
  injection hat with hat
  injection hat with _ hat
  rw [hat]
 generalize Z.labN ts nm = q at *
 generalize (Z.ats ops).getD q 0 = z at *
 have hq : (q : Int) < ops.length := by omega
 have hq0 : 0 ≤ (q : Int) := by omega
 have HS0 : Hid (W.drew.cell? ⟨yb, 0, none⟩ = some (.map (some bm)) ∧ W.drew.cell? ⟨yb, 2, none⟩ = some (.slice (some ⟨g, 0, none⟩) ops.length cp) ∧ W.drew.cell? ⟨g, q * 3 + 2, none⟩ = some (.int .i64 z)) := ⟨by rw [World.cell?_drew]; exact y0, by rw [World.cell?_drew]; exact y2, by rw [World.cell?_drew]; exact p2⟩
 have HLN : Hid _ := hlen
 clear h hc hkey hnm hlen y0 y2 p2
 generalize X.str nm = s at *
 go_enter Tryz.func53, Tryz.ntmps53
 go_wp2_with fail
 refine wp_region_held_drew (S := (fun w' : World => w'.cell? ⟨yb, 0, none⟩ = some (.map (some bm)) ∧ w'.cell? ⟨yb, 2, none⟩ = some (.slice (some ⟨g, 0, none⟩) ops.length cp) ∧ w'.cell? ⟨g, q * 3 + 2, none⟩ = some (.int .i64 z))) (by kernel_rfl) HS0.out (fun hHeld => ?_)
 refine tj 0 ?_
 simp only [Act.put, zA, zB, zC]
 refine tj 1 ?_
 simp only [Act.put, zA, zB, zC]
 refine tj 2 ?_
 simp only [Act.put, zA, zB, zC]
 refine tj 3 ?_
 simp only [Act.put, zA, zB, zC]
 refine tj 4 ?_
 simp only [Act.put, zA, zB, zC]
 refine tj 5 ?_
 simp only [Act.put, zA, zB, zC]
 refine tj 6 ?_
 simp only [Act.put, zA, zB, zC]
 refine tj 7 ?_
 simp only [Act.put, zA, zB, zC]
 refine tj 8 ?_
 simp only [Act.put, zA, zB, zC]
 refine tr [9] ?_
 refine AllReadyH.cons (tA rfl) (fun K hK => ?_) AllReadyH.nil
 have m4 := HRUN.out
 go_simp
 refine hK.out _ _ hHeld (fun hHeld => ?_)
 clear hK K
 try simp only [Act.put, zA, zB, zC]
 refine tj 10 ?_
 simp only [Act.put, zA, zB, zC]
 refine tj 11 ?_
 simp only [Act.put, zA, zB, zC]
 refine tj 12 ?_
 simp only [Act.put, zA, zB, zC]
 refine tj 13 ?_
 simp only [Act.put, zA, zB, zC]
 refine wpAnyH_done (by kernel_rfl) ?_ _
 clear hHeld
 go_wp2_with fail
 go_ret
 exact ⟨by rw [HR.out]; rfl, (Below.refl _ _).drew⟩
end

end Go.Proofs.YtgjingleolhkbaaGreatDoor

/- Whether nothing is beyond its limit, and whether all that others see stands at some code. (Written by gen_fits.py.) -/
namespace Go.Proofs.YtgjingleolhkbaaGreatDoor
namespace Z
def isSym (t : X.It) : Bool := decide (t.kind = 3) || shown t
def wordsN (ts : List X.It) : Nat := (ts.map fun t => t.words.length).sum
def symsN (ts : List X.It) : Nat := (ts.filter isSym).length
def opensN (ts l : List X.It) : Nat := (l.filter (isOpen ts)).length
def fits (ts : List X.It) : Bool := decide (tot (ops ts) ≤ 65536) && (decide (wordsN ts ≤ 4096) && (decide (symsN ts ≤ 1000) && decide (opensN ts ts ≤ 8000)))
def standAt (ts : List X.It) (t : X.It) : Bool := !(shown t && decide (placeOf ts (ops ts) t.name = tot (ops ts)))
def symsOk (ts : List X.It) : Bool := ts.all (standAt ts)
theorem wordsN_snoc (a : List X.It) (t : X.It) : wordsN (a ++ [t]) = wordsN a + t.words.length := by simp [wordsN]
theorem symsN_yes {a : List X.It} {t : X.It} (h : isSym t = true) : symsN (a ++ [t]) = symsN a + 1 := by simp [symsN, h]
theorem symsN_no {a : List X.It} {t : X.It} (h : isSym t = false) : symsN (a ++ [t]) = symsN a := by simp [symsN, h]
theorem opensN_yes {ts a : List X.It} {t : X.It} (h : isOpen ts t = true) : opensN ts (a ++ [t]) = opensN ts a + 1 := by simp [opensN, h]
theorem opensN_no {ts a : List X.It} {t : X.It} (h : isOpen ts t = false) : opensN ts (a ++ [t]) = opensN ts a := by simp [opensN, h]
theorem symsN_le (a : List X.It) : symsN a ≤ a.length := List.length_filter_le _ _
theorem opensN_le (ts a : List X.It) : opensN ts a ≤ a.length := List.length_filter_le _ _
theorem wordsN_le : ∀ (a : List X.It), (∀ t ∈ a, t.words.length ≤ 4096) → wordsN a ≤ 4096 * a.length
 | [], _ => by simp [wordsN]
 | t :: a, h => by
  have h1 := wordsN_le a (fun x hx => h x (by simp [hx]))
  have h2 := h t (by simp)
  simp only [wordsN, List.map_cons, List.sum_cons, List.length_cons] at *
  omega
end Z
open Go.RowKit Go.Maps
set_option linter.unusedVariables false
set_option linter.unusedSimpArgs false
section
variable {w W : World} {yb bm : Nat} {ai : Option Addr} {li ci : Nat} {ts : List X.It} {ap aj : Option Addr} {cp cj : Nat}
set_option maxRecDepth 100000 in
set_option maxHeartbeats 8000000 in
theorem fits_any (h : LV w W yb bm ai li ci ts ap aj cp cj (Z.ops ts) (Z.ats (Z.ops ts)) (Z.js ts) (Z.tot (Z.ops ts))) (hv : ItsV w ai li ci ts) (hl : li ≤ 20000) (hw : ∀ t ∈ ts, t.words.length ≤ 4096) :
  Calls Tryz.prog 25 #[.pointer (some ⟨yb, 0, none⟩)] W fun e w' => e = .returned (.bool (Z.fits ts)) ∧ LV w w' yb bm ai li ci ts ap aj cp cj (Z.ops ts) (Z.ats (Z.ops ts)) (Z.js ts) (Z.tot (Z.ops ts)) := by
 obtain ⟨-, y1, -⟩ := h.cells
 have HV : Hid _ := hv
 have HC : Hid (ts.length = li) := hv.count
 have HW : Hid _ := hw
 have HL0 : Hid _ := h
 clear h hv hw
 go_enter Tryz.func25, Tryz.ntmps25
 go_wp2_with fail
 go_loopg [3, 4, 5, 13] li (fun r wv sv ov iv wq => ∃ (k : Nat), wv = .int .i64 (Z.wordsN (ts.take k)) ∧ sv = .int .i64 (Z.symsN (ts.take k)) ∧ ov = .int .i64 (Z.opensN ts (ts.take k)) ∧ iv = .int .i64 k ∧ k ≤ li ∧ li - k ≤ r ∧ Hid (LV w wq yb bm ai li ci ts ap aj cp cj (Z.ops ts) (Z.ats (Z.ops ts)) (Z.js ts) (Z.tot (Z.ops ts))))
 case atStart => exact ⟨0, rfl, rfl, rfl, rfl, Nat.zero_le _, by omega, HL0.out⟩
 case round =>
  obtain ⟨k, rfl, rfl, rfl, rfl, hk, hr, HLV⟩ := hrel
  clear HL0 y1
  by_cases hlt : k < li
  ·have hii : (k : Int) < li := by omega
   have hin : 0 ≤ (k : Int) := by omega
   obtain ⟨b, off, t, aw, lw, cw, rfl, hg, hmem, c0, c1, c2, c3, c4, c5, c6, hi⟩ := (HV.out.below HLV.out.low).at hlt
   have HGT : Hid (ts[k]? = some t) := by
    show _ = _
    have hk2 : k < ts.length := by rw [HC.out]; exact hlt
    simp only [List.getD, List.getElem?_eq_getElem hk2, Option.getD_some] at hg
    rw [List.getElem?_eq_getElem hk2, hg]
   have hfit := (HV.out.fit t hmem).1
   have hwl : t.words.length = lw := hi.count
   have HMEM : Hid _ := hmem
   clear hg hmem hi
   obtain ⟨Y0, hY0⟩ : ∃ Y0, wr.alloc (.cells #[.int .i64 t.kind, .string (X.str t.name), .int .i64 t.op, .int .i64 t.a, .int .i64 t.b, .int .i64 t.n, .slice aw lw cw] 44) = Y0 := ⟨_, rfl⟩
   have f0 : Y0.cell? ⟨wr.heap.size, 0, none⟩ = some (.int .i64 t.kind) := by subst hY0; exact cellA rfl rfl
   have f1 : Y0.cell? ⟨wr.heap.size, 1, none⟩ = some (.string (X.str t.name)) := by subst hY0; exact cellA rfl rfl
   have f2 : Y0.cell? ⟨wr.heap.size, 2, none⟩ = some (.int .i64 t.op) := by subst hY0; exact cellA rfl rfl
   have f3 : Y0.cell? ⟨wr.heap.size, 3, none⟩ = some (.int .i64 t.a) := by subst hY0; exact cellA rfl rfl
   have f4 : Y0.cell? ⟨wr.heap.size, 4, none⟩ = some (.int .i64 t.b) := by subst hY0; exact cellA rfl rfl
   have f5 : Y0.cell? ⟨wr.heap.size, 5, none⟩ = some (.int .i64 t.n) := by subst hY0; exact cellA rfl rfl
   have f6 : Y0.cell? ⟨wr.heap.size, 6, none⟩ = some (.slice aw lw cw) := by subst hY0; exact cellA rfl rfl
   have HY0 : Hid (Below wr.heap.size wr Y0) := by subst hY0; exact bl1 _ _
   have HL0 : Hid (LV w Y0 yb bm (some ⟨b, off, none⟩) li ci ts ap aj cp cj (Z.ops ts) (Z.ats (Z.ops ts)) (Z.js ts) (Z.tot (Z.ops ts))) := LV.below HLV.out HY0.out
   have HTK : Hid (ts.take (k + 1) = ts.take k ++ [t]) := Z.take_snoc HGT.out
   have n1 := Z.wordsN_le (ts.take k) (fun x hx => HW.out x (List.mem_of_mem_take hx))
   have n2 := Z.symsN_le (ts.take k)
   have n3 := Z.opensN_le ts (ts.take k)
   have n4 : (ts.take k).length ≤ 20000 := by rw [List.length_take]; omega
   have n5 := HW.out t HMEM.out
   have HWL : Hid (t.words.length = lw) := hwl
   have HW1 : Hid (Z.wordsN (ts.take (k + 1)) = Z.wordsN (ts.take k) + lw) := by show _ = _; rw [HTK.out, Z.wordsN_snoc, hwl]
   have HS1 : Hid (Z.isSym t = true → Z.symsN (ts.take (k + 1)) = Z.symsN (ts.take k) + 1) := fun h => by rw [HTK.out, Z.symsN_yes h]
   have HS0 : Hid (Z.isSym t = false → Z.symsN (ts.take (k + 1)) = Z.symsN (ts.take k)) := fun h => by rw [HTK.out, Z.symsN_no h]
   have HO1 : Hid (Z.isOpen ts t = true → Z.opensN ts (ts.take (k + 1)) = Z.opensN ts (ts.take k) + 1) := fun h => by rw [HTK.out, Z.opensN_yes h]
   have HO0 : Hid (Z.isOpen ts t = false → Z.opensN ts (ts.take (k + 1)) = Z.opensN ts (ts.take k)) := fun h => by rw [HTK.out, Z.opensN_no h]
   have HIS : Hid (Z.isSym t = (decide (t.kind = 3) || Z.shown t)) := rfl
   rw [hwl] at n5
   clear hwl
   generalize Z.wordsN (ts.take k) = nw at *
   generalize Z.symsN (ts.take k) = ns at *
   generalize Z.opensN ts (ts.take k) = no at *
   generalize (ts.take k).length = nl at *
   by_cases h3 : t.kind = 3
   ·have h3' : (t.kind == 3) = true := by simpa using h3
    have HSY : Hid (Z.isSym t = true) := by show _ = _; rw [HIS.out]; simp [h3]
    clear h3
    have hoc := isOpen_any HL0.out t hfit aw lw cw
    unfold itV at hoc
    cases hO : Z.isOpen ts t with
    | true =>
     rw [hO] at hoc
     have HOP : Hid (Z.isOpen ts t = true) := hO
     clear hO
     go_wp2_with fail
     refine hoc.mono ?_
     rintro e z1 ⟨rfl, hbz⟩
     have HLz : Hid _ := LV.below HL0.out hbz
     clear hbz hoc
     go_wp2_with fail
     go_roundg (li - (k + 1))
     case measure => omega
     case rel => exact ⟨k + 1, by rw [HW1.out] <;> go_num, by rw [HS1.out HSY.out] <;> go_num, by rw [HO1.out HOP.out] <;> go_num, by go_num, by omega, Nat.le_refl _, HLz.out⟩
    | false =>
     rw [hO] at hoc
     have HOP : Hid (Z.isOpen ts t = false) := hO
     clear hO
     go_wp2_with fail
     refine hoc.mono ?_
     rintro e z1 ⟨rfl, hbz⟩
     have HLz : Hid _ := LV.below HL0.out hbz
     clear hbz hoc
     go_wp2_with fail
     go_roundg (li - (k + 1))
     case measure => omega
     case rel => exact ⟨k + 1, by rw [HW1.out] <;> go_num, by rw [HS1.out HSY.out] <;> go_num, by rw [HO0.out HOP.out] <;> go_num, by go_num, by omega, Nat.le_refl _, HLz.out⟩
   ·have h3' : (t.kind == 3) = false := by simpa using h3
    have hsc := isShown_any t aw lw cw Y0
    unfold itV at hsc
    cases hS : Z.shown t with
    | true =>
     rw [hS] at hsc
     have HSY : Hid (Z.isSym t = true) := by show _ = _; rw [HIS.out, hS]; simp
     clear h3 hS
     go_wp2_with fail
     refine hsc.mono ?_
     rintro e y1 ⟨rfl, hb1⟩
     have HL1 : Hid (LV w y1 yb bm (some ⟨b, off, none⟩) li ci ts ap aj cp cj (Z.ops ts) (Z.ats (Z.ops ts)) (Z.js ts) (Z.tot (Z.ops ts))) := LV.below HL0.out hb1
     have f0 := cell_thru hb1 f0
     have f1 := cell_thru hb1 f1
     have f2 := cell_thru hb1 f2
     have f3 := cell_thru hb1 f3
     have f4 := cell_thru hb1 f4
     have f5 := cell_thru hb1 f5
     have f6 := cell_thru hb1 f6
     clear hb1 hsc
     have hoc := isOpen_any HL1.out t hfit aw lw cw
     unfold itV at hoc
     cases hO : Z.isOpen ts t with
     | true =>
      rw [hO] at hoc
      have HOP : Hid (Z.isOpen ts t = true) := hO
      clear hO
      go_wp2_with fail
      refine hoc.mono ?_
      rintro e z1 ⟨rfl, hbz⟩
      have HLz : Hid _ := LV.below HL1.out hbz
      clear hbz hoc
      go_wp2_with fail
      go_roundg (li - (k + 1))
      case measure => omega
      case rel => exact ⟨k + 1, by rw [HW1.out] <;> go_num, by rw [HS1.out HSY.out] <;> go_num, by rw [HO1.out HOP.out] <;> go_num, by go_num, by omega, Nat.le_refl _, HLz.out⟩
     | false =>
      rw [hO] at hoc
      have HOP : Hid (Z.isOpen ts t = false) := hO
      clear hO
      go_wp2_with fail
      refine hoc.mono ?_
      rintro e z1 ⟨rfl, hbz⟩
      have HLz : Hid _ := LV.below HL1.out hbz
      clear hbz hoc
      go_wp2_with fail
      go_roundg (li - (k + 1))
      case measure => omega
      case rel => exact ⟨k + 1, by rw [HW1.out] <;> go_num, by rw [HS1.out HSY.out] <;> go_num, by rw [HO0.out HOP.out] <;> go_num, by go_num, by omega, Nat.le_refl _, HLz.out⟩
    | false =>
     rw [hS] at hsc
     have HSY : Hid (Z.isSym t = false) := by show _ = _; rw [HIS.out, hS]; simp [h3]
     clear h3 hS
     go_wp2_with fail
     refine hsc.mono ?_
     rintro e y1 ⟨rfl, hb1⟩
     have HL1 : Hid (LV w y1 yb bm (some ⟨b, off, none⟩) li ci ts ap aj cp cj (Z.ops ts) (Z.ats (Z.ops ts)) (Z.js ts) (Z.tot (Z.ops ts))) := LV.below HL0.out hb1
     have f0 := cell_thru hb1 f0
     have f1 := cell_thru hb1 f1
     have f2 := cell_thru hb1 f2
     have f3 := cell_thru hb1 f3
     have f4 := cell_thru hb1 f4
     have f5 := cell_thru hb1 f5
     have f6 := cell_thru hb1 f6
     clear hb1 hsc
     have hoc := isOpen_any HL1.out t hfit aw lw cw
     unfold itV at hoc
     cases hO : Z.isOpen ts t with
     | true =>
      rw [hO] at hoc
      have HOP : Hid (Z.isOpen ts t = true) := hO
      clear hO
      go_wp2_with fail
      refine hoc.mono ?_
      rintro e z1 ⟨rfl, hbz⟩
      have HLz : Hid _ := LV.below HL1.out hbz
      clear hbz hoc
      go_wp2_with fail
      go_roundg (li - (k + 1))
      case measure => omega
      case rel => exact ⟨k + 1, by rw [HW1.out] <;> go_num, by rw [HS0.out HSY.out] <;> go_num, by rw [HO1.out HOP.out] <;> go_num, by go_num, by omega, Nat.le_refl _, HLz.out⟩
     | false =>
      rw [hO] at hoc
      have HOP : Hid (Z.isOpen ts t = false) := hO
      clear hO
      go_wp2_with fail
      refine hoc.mono ?_
      rintro e z1 ⟨rfl, hbz⟩
      have HLz : Hid _ := LV.below HL1.out hbz
      clear hbz hoc
      go_wp2_with fail
      go_roundg (li - (k + 1))
      case measure => omega
      case rel => exact ⟨k + 1, by rw [HW1.out] <;> go_num, by rw [HS0.out HSY.out] <;> go_num, by rw [HO0.out HOP.out] <;> go_num, by go_num, by omega, Nat.le_refl _, HLz.out⟩
  ·obtain rfl : k = li := by omega
   have hii : ¬ (k : Int) < k := by omega
   obtain ⟨-, -, -, -, x4, -⟩ := HLV.out.cells
   have hfull : ts.take k = ts := List.take_of_length_le (by rw [HC.out]; exact Nat.le_refl _)
   have HF : Hid (Z.fits ts = (decide (Z.tot (Z.ops ts) ≤ 65536) && (decide (Z.wordsN (ts.take k) ≤ 4096) && (decide (Z.symsN (ts.take k) ≤ 1000) && decide (Z.opensN ts (ts.take k) ≤ 8000))))) := by show _ = _; rw [hfull]; rfl
   have HLE : Hid _ := HLV.out
   clear hfull
   generalize Z.wordsN (ts.take k) = nw at *
   generalize Z.symsN (ts.take k) = ns at *
   generalize Z.opensN ts (ts.take k) = no at *
   obtain ⟨tt, htt⟩ : ∃ tt, Z.tot (Z.ops ts) = tt := ⟨_, rfl⟩
   rw [htt] at x4 HF
   clear htt HLV
   rcases (show ¬ tt ≤ 65536 ∨ (tt ≤ 65536 ∧ ¬ (nw : Int) ≤ 4096) ∨ (tt ≤ 65536 ∧ (nw : Int) ≤ 4096 ∧ ¬ (ns : Int) ≤ 1000) ∨ (tt ≤ 65536 ∧ (nw : Int) ≤ 4096 ∧ (ns : Int) ≤ 1000 ∧ ¬ (no : Int) ≤ 8000) ∨ (tt ≤ 65536 ∧ (nw : Int) ≤ 4096 ∧ (ns : Int) ≤ 1000 ∧ (no : Int) ≤ 8000) by omega) with e1 | ⟨e1, e2⟩ | ⟨e1, e2, e3⟩ | ⟨e1, e2, e3, e4⟩ | ⟨e1, e2, e3, e4⟩
   ·have HR : Hid (Z.fits ts = false) := by show _ = _; rw [HF.out]; simp [e1]
    go_wp2_with fail
    go_ret
    exact ⟨by rw [HR.out]; rfl, HLE.out⟩
   ·have HR : Hid (Z.fits ts = false) := by show _ = _; rw [HF.out, decide_eq_false (show ¬ nw ≤ 4096 by omega)]; simp
    go_wp2_with fail
    go_ret
    exact ⟨by rw [HR.out]; rfl, HLE.out⟩
   ·have HR : Hid (Z.fits ts = false) := by show _ = _; rw [HF.out, decide_eq_false (show ¬ ns ≤ 1000 by omega)]; simp
    go_wp2_with fail
    go_ret
    exact ⟨by rw [HR.out]; rfl, HLE.out⟩
   ·have HR : Hid (Z.fits ts = false) := by show _ = _; rw [HF.out, decide_eq_false (show ¬ no ≤ 8000 by omega)]; simp
    go_wp2_with fail
    go_ret
    exact ⟨by rw [HR.out]; rfl, HLE.out⟩
   ·have HR : Hid (Z.fits ts = true) := by show _ = _; rw [HF.out, decide_eq_true e1, decide_eq_true (show nw ≤ 4096 by omega), decide_eq_true (show ns ≤ 1000 by omega), decide_eq_true (show no ≤ 8000 by omega)]; rfl
    go_wp2_with fail
    go_ret
    exact ⟨by rw [HR.out]; rfl, HLE.out⟩

set_option maxRecDepth 100000 in
set_option maxHeartbeats 8000000 in
theorem symbolsMayBe_any (h : LV w W yb bm ai li ci ts ap aj cp cj (Z.ops ts) (Z.ats (Z.ops ts)) (Z.js ts) (Z.tot (Z.ops ts))) (hv : ItsV w ai li ci ts) (hl : li ≤ 20000) :
  Calls Tryz.prog 26 #[.pointer (some ⟨yb, 0, none⟩)] W fun e w' => e = .returned (.bool (Z.symsOk ts)) ∧ LV w w' yb bm ai li ci ts ap aj cp cj (Z.ops ts) (Z.ats (Z.ops ts)) (Z.js ts) (Z.tot (Z.ops ts)) := by
 obtain ⟨-, y1, -⟩ := h.cells
 have HV : Hid _ := hv
 have HC : Hid (ts.length = li) := hv.count
 have HL0 : Hid _ := h
 clear h hv
 go_enter Tryz.func26, Tryz.ntmps26
 go_wp2_with fail
 go_loopg [10] li (fun r iv wq => ∃ (k : Nat), iv = .int .i64 k ∧ k ≤ li ∧ li - k ≤ r ∧ Hid (∀ t ∈ ts.take k, Z.standAt ts t = true) ∧ Hid (LV w wq yb bm ai li ci ts ap aj cp cj (Z.ops ts) (Z.ats (Z.ops ts)) (Z.js ts) (Z.tot (Z.ops ts))))
 case atStart => exact ⟨0, rfl, Nat.zero_le _, by omega, (fun t ht => by simp at ht : ∀ t ∈ ts.take 0, Z.standAt ts t = true), HL0.out⟩
 case round =>
  obtain ⟨k, rfl, hk, hr, HAL, HLV⟩ := hrel
  clear HL0 y1
  by_cases hlt : k < li
  ·have hii : (k : Int) < li := by omega
   have hin : 0 ≤ (k : Int) := by omega
   obtain ⟨b, off, t, aw, lw, cw, rfl, hg, hmem, c0, c1, c2, c3, c4, c5, c6, hi⟩ := (HV.out.below HLV.out.low).at hlt
   have HGT : Hid (ts[k]? = some t) := by
    show _ = _
    have hk2 : k < ts.length := by rw [HC.out]; exact hlt
    simp only [List.getD, List.getElem?_eq_getElem hk2, Option.getD_some] at hg
    rw [List.getElem?_eq_getElem hk2, hg]
   have hfit := (HV.out.fit t hmem).1
   have hwl : t.words.length = lw := hi.count
   have HMEM : Hid _ := hmem
   clear hg hmem hi
   obtain ⟨Y0, hY0⟩ : ∃ Y0, wr.alloc (.cells #[.int .i64 t.kind, .string (X.str t.name), .int .i64 t.op, .int .i64 t.a, .int .i64 t.b, .int .i64 t.n, .slice aw lw cw] 44) = Y0 := ⟨_, rfl⟩
   have f0 : Y0.cell? ⟨wr.heap.size, 0, none⟩ = some (.int .i64 t.kind) := by subst hY0; exact cellA rfl rfl
   have f1 : Y0.cell? ⟨wr.heap.size, 1, none⟩ = some (.string (X.str t.name)) := by subst hY0; exact cellA rfl rfl
   have f2 : Y0.cell? ⟨wr.heap.size, 2, none⟩ = some (.int .i64 t.op) := by subst hY0; exact cellA rfl rfl
   have f3 : Y0.cell? ⟨wr.heap.size, 3, none⟩ = some (.int .i64 t.a) := by subst hY0; exact cellA rfl rfl
   have f4 : Y0.cell? ⟨wr.heap.size, 4, none⟩ = some (.int .i64 t.b) := by subst hY0; exact cellA rfl rfl
   have f5 : Y0.cell? ⟨wr.heap.size, 5, none⟩ = some (.int .i64 t.n) := by subst hY0; exact cellA rfl rfl
   have f6 : Y0.cell? ⟨wr.heap.size, 6, none⟩ = some (.slice aw lw cw) := by subst hY0; exact cellA rfl rfl
   have HY0 : Hid (Below wr.heap.size wr Y0) := by subst hY0; exact bl1 _ _
   have HL0 : Hid (LV w Y0 yb bm (some ⟨b, off, none⟩) li ci ts ap aj cp cj (Z.ops ts) (Z.ats (Z.ops ts)) (Z.js ts) (Z.tot (Z.ops ts))) := LV.below HLV.out HY0.out
   have HNX : Hid (Z.standAt ts t = true → ∀ x ∈ ts.take (k + 1), Z.standAt ts x = true) := fun he x hx => by
    rw [Z.take_snoc HGT.out] at hx
    rcases List.mem_append.1 hx with hx | hx
    ·exact HAL.out x hx
    ·simp at hx; rw [hx]; exact he
   have HBAD : Hid (Z.standAt ts t = false → Z.symsOk ts = false) := fun he => by
    unfold Z.symsOk
    rw [List.all_eq_false]
    exact ⟨t, HMEM.out, by rw [he]; simp⟩
   have hsc := isShown_any t aw lw cw Y0.drew
   unfold itV at hsc
   obtain ⟨-, -, -, -, x4, -⟩ := HL0.out.cells
   have hpl : ∀ W', Below Y0.heap.size Y0 W' → Calls Tryz.prog 53 #[.pointer (some ⟨yb, 0, none⟩), .string (X.str t.name)] W' fun e w' => e = .returned (.int .i64 (Z.placeOf ts (Z.ops ts) t.name)) ∧ Below W'.heap.size W' w' := fun W' hb => placeOf_any (LV.below HL0.out hb) (Z.ops_len ts) t.name hfit (by rw [HC.out]; omega)
   have HST : Hid (Z.standAt ts t = !(Z.shown t && decide (Z.placeOf ts (Z.ops ts) t.name = Z.tot (Z.ops ts)))) := rfl
   obtain ⟨pl, hplE⟩ : ∃ pl, Z.placeOf ts (Z.ops ts) t.name = pl := ⟨_, rfl⟩
   obtain ⟨tt, htt⟩ : ∃ tt, Z.tot (Z.ops ts) = tt := ⟨_, rfl⟩
   rw [hplE] at hpl HST
   rw [htt] at x4 HST
   obtain ⟨nm, hnm⟩ : ∃ nm, X.str t.name = nm := ⟨_, rfl⟩
   rw [hnm] at hpl hsc f1 c1 hY0
   obtain ⟨bx, hbx⟩ : ∃ bx, wr.heap.size = bx := ⟨_, rfl⟩
   rw [hbx] at f0 f1 f2 f3 f4 f5 f6
   have HK : Hid (∀ W', Below Y0.heap.size Y0 W' → W'.cell? ⟨yb, 4, none⟩ = some (.int .i64 tt) ∧ W'.cell? ⟨bx, 0, none⟩ = some (.int .i64 t.kind) ∧ W'.cell? ⟨bx, 1, none⟩ = some (.string nm) ∧ W'.cell? ⟨bx, 2, none⟩ = some (.int .i64 t.op) ∧ W'.cell? ⟨bx, 3, none⟩ = some (.int .i64 t.a) ∧ W'.cell? ⟨bx, 4, none⟩ = some (.int .i64 t.b) ∧ W'.cell? ⟨bx, 5, none⟩ = some (.int .i64 t.n) ∧ W'.cell? ⟨bx, 6, none⟩ = some (.slice aw lw cw)) := fun W' hb => ⟨cell_thru hb x4, cell_thru hb f0, cell_thru hb f1, cell_thru hb f2, cell_thru hb f3, cell_thru hb f4, cell_thru hb f5, cell_thru hb f6⟩
   have HS0 : Hid (Y0.drew.cell? ⟨yb, 4, none⟩ = some (.int .i64 tt) ∧ Y0.drew.cell? ⟨bx, 0, none⟩ = some (.int .i64 t.kind) ∧ Y0.drew.cell? ⟨bx, 1, none⟩ = some (.string nm) ∧ Y0.drew.cell? ⟨bx, 2, none⟩ = some (.int .i64 t.op) ∧ Y0.drew.cell? ⟨bx, 3, none⟩ = some (.int .i64 t.a) ∧ Y0.drew.cell? ⟨bx, 4, none⟩ = some (.int .i64 t.b) ∧ Y0.drew.cell? ⟨bx, 5, none⟩ = some (.int .i64 t.n) ∧ Y0.drew.cell? ⟨bx, 6, none⟩ = some (.slice aw lw cw)) := HK.out _ (Below.refl _ _).drew
   clear hplE htt hnm
   cases hS : Z.shown t with
   | false =>
    rw [hS] at hsc HST
    have HST2 : Hid (Z.standAt ts t = true) := by show _ = _; rw [HST.out]; rfl
    have HN2 : Hid _ := HNX.out HST2.out
    clear hS
    go_wp2_with fail
    refine wp_region_held_drew (S := (fun w' : World => w'.cell? ⟨yb, 4, none⟩ = some (.int .i64 tt) ∧ w'.cell? ⟨bx, 0, none⟩ = some (.int .i64 t.kind) ∧ w'.cell? ⟨bx, 1, none⟩ = some (.string nm) ∧ w'.cell? ⟨bx, 2, none⟩ = some (.int .i64 t.op) ∧ w'.cell? ⟨bx, 3, none⟩ = some (.int .i64 t.a) ∧ w'.cell? ⟨bx, 4, none⟩ = some (.int .i64 t.b) ∧ w'.cell? ⟨bx, 5, none⟩ = some (.int .i64 t.n) ∧ w'.cell? ⟨bx, 6, none⟩ = some (.slice aw lw cw))) (by kernel_rfl) HS0.out (fun hHeld => ?_)
    refine tj 0 ?_
    simp only [Act.put, zA, zB, zC]
    refine tr [1] ?_
    refine AllReadyH.cons (tA rfl) (fun K hK => ?_) AllReadyH.nil
    go_simp
    refine hsc.mono ?_
    rintro e y1 ⟨rfl, hb1⟩
    have hB1 : Below Y0.heap.size Y0 y1 := (Below.refl _ _).drew.trans hb1
    try go_wp2_with fail
    refine hK.out _ _ (HK.out _ hB1) (fun hHeld => ?_)
    clear hK K
    try simp only [Act.put, zA, zB, zC]
    refine tj 2 ?_
    simp only [Act.put, zA, zB, zC]
    refine tu 3 ?_
    simp only [Act.put, zA, zB, zC]
    refine tu 4 ?_
    simp only [Act.put, zA, zB, zC]
    refine tu 5 ?_
    simp only [Act.put, zA, zB, zC]
    refine tu 6 ?_
    simp only [Act.put, zA, zB, zC]
    refine tu 7 ?_
    simp only [Act.put, zA, zB, zC]
    refine tu 8 ?_
    simp only [Act.put, zA, zB, zC]
    refine tu 9 ?_
    simp only [Act.put, zA, zB, zC]
    refine tu 10 ?_
    simp only [Act.put, zA, zB, zC]
    refine tu 11 ?_
    simp only [Act.put, zA, zB, zC]
    refine tj 12 ?_
    simp only [Act.put, zA, zB, zC]
    refine wpAnyH_done (by kernel_rfl) ?_ _
    clear hHeld
    have HL2 : Hid _ := LV.below HL0.out hB1
    clear hb1 hB1 hY0 f0 f1 f2 f3 f4 f5 f6 c0 c1 c2 c3 c4 c5 c6
    go_wp2_with fail
    go_roundg (li - (k + 1))
    case measure => omega
    case rel => exact ⟨k + 1, by go_num, by omega, Nat.le_refl _, HN2.out, HL2.out⟩
   | true =>
    rw [hS] at hsc HST
    clear hS
    by_cases he : pl = tt
    ·have HR : Hid (Z.symsOk ts = false) := HBAD.out (by rw [HST.out]; simp [he])
     subst he
     go_wp2_with fail
     refine wp_region_held_drew (S := (fun w' : World => w'.cell? ⟨yb, 4, none⟩ = some (.int .i64 pl) ∧ w'.cell? ⟨bx, 0, none⟩ = some (.int .i64 t.kind) ∧ w'.cell? ⟨bx, 1, none⟩ = some (.string nm) ∧ w'.cell? ⟨bx, 2, none⟩ = some (.int .i64 t.op) ∧ w'.cell? ⟨bx, 3, none⟩ = some (.int .i64 t.a) ∧ w'.cell? ⟨bx, 4, none⟩ = some (.int .i64 t.b) ∧ w'.cell? ⟨bx, 5, none⟩ = some (.int .i64 t.n) ∧ w'.cell? ⟨bx, 6, none⟩ = some (.slice aw lw cw))) (by kernel_rfl) HS0.out (fun hHeld => ?_)
     refine tj 0 ?_
     simp only [Act.put, zA, zB, zC]
     refine tr [1] ?_
     refine AllReadyH.cons (tA rfl) (fun K hK => ?_) AllReadyH.nil
     go_simp
     refine hsc.mono ?_
     rintro e y1 ⟨rfl, hb1⟩
     have hB1 : Below Y0.heap.size Y0 y1 := (Below.refl _ _).drew.trans hb1
     try go_wp2_with fail
     refine hK.out _ _ (HK.out _ hB1) (fun hHeld => ?_)
     clear hK K
     try simp only [Act.put, zA, zB, zC]
     refine tj 2 ?_
     simp only [Act.put, zA, zB, zC]
     refine tj 3 ?_
     simp only [Act.put, zA, zB, zC]
     refine tj 4 ?_
     simp only [Act.put, zA, zB, zC]
     refine tj 5 ?_
     simp only [Act.put, zA, zB, zC]
     refine tj 7 ?_
     simp only [Act.put, zA, zB, zC]
     refine tj 8 ?_
     simp only [Act.put, zA, zB, zC]
     refine tj 9 ?_
     simp only [Act.put, zA, zB, zC]
     refine tj 10 ?_
     simp only [Act.put, zA, zB, zC]
     refine tr [6] ?_
     refine AllReadyH.cons (tA rfl) (fun K hK => ?_) AllReadyH.nil
     go_simp
     refine (hpl _ hB1).mono ?_
     rintro e y2 ⟨rfl, hb2⟩
     have hB2 : Below Y0.heap.size Y0 y2 := hB1.trans (hb2.mono hB1.size)
     try go_wp2_with fail
     refine hK.out _ _ (HK.out _ hB2) (fun hHeld => ?_)
     clear hK K
     try simp only [Act.put, zA, zB, zC]
     refine tj 11 ?_
     simp only [Act.put, zA, zB, zC]
     refine tj 12 ?_
     simp only [Act.put, zA, zB, zC]
     refine wpAnyH_done (by kernel_rfl) ?_ _
     clear hHeld
     have HL2 : Hid _ := LV.below HL0.out hB2
     clear hb1 hB1 hb2 hB2 hY0 f0 f1 f2 f3 f4 f5 f6 c0 c1 c2 c3 c4 c5 c6
     go_wp2_with fail
     go_ret
     exact ⟨by rw [HR.out]; rfl, HL2.out⟩
    ·have HST2 : Hid (Z.standAt ts t = true) := by show _ = _; rw [HST.out]; simp [he]
     have HN2 : Hid _ := HNX.out HST2.out
     have he' : (pl == tt) = false := by simpa using he
     clear he
     go_wp2_with fail
     refine wp_region_held_drew (S := (fun w' : World => w'.cell? ⟨yb, 4, none⟩ = some (.int .i64 tt) ∧ w'.cell? ⟨bx, 0, none⟩ = some (.int .i64 t.kind) ∧ w'.cell? ⟨bx, 1, none⟩ = some (.string nm) ∧ w'.cell? ⟨bx, 2, none⟩ = some (.int .i64 t.op) ∧ w'.cell? ⟨bx, 3, none⟩ = some (.int .i64 t.a) ∧ w'.cell? ⟨bx, 4, none⟩ = some (.int .i64 t.b) ∧ w'.cell? ⟨bx, 5, none⟩ = some (.int .i64 t.n) ∧ w'.cell? ⟨bx, 6, none⟩ = some (.slice aw lw cw))) (by kernel_rfl) HS0.out (fun hHeld => ?_)
     refine tj 0 ?_
     simp only [Act.put, zA, zB, zC]
     refine tr [1] ?_
     refine AllReadyH.cons (tA rfl) (fun K hK => ?_) AllReadyH.nil
     go_simp
     refine hsc.mono ?_
     rintro e y1 ⟨rfl, hb1⟩
     have hB1 : Below Y0.heap.size Y0 y1 := (Below.refl _ _).drew.trans hb1
     try go_wp2_with fail
     refine hK.out _ _ (HK.out _ hB1) (fun hHeld => ?_)
     clear hK K
     try simp only [Act.put, zA, zB, zC]
     refine tj 2 ?_
     simp only [Act.put, zA, zB, zC]
     refine tj 3 ?_
     simp only [Act.put, zA, zB, zC]
     refine tj 4 ?_
     simp only [Act.put, zA, zB, zC]
     refine tj 5 ?_
     simp only [Act.put, zA, zB, zC]
     refine tj 7 ?_
     simp only [Act.put, zA, zB, zC]
     refine tj 8 ?_
     simp only [Act.put, zA, zB, zC]
     refine tj 9 ?_
     simp only [Act.put, zA, zB, zC]
     refine tj 10 ?_
     simp only [Act.put, zA, zB, zC]
     refine tr [6] ?_
     refine AllReadyH.cons (tA rfl) (fun K hK => ?_) AllReadyH.nil
     go_simp
     refine (hpl _ hB1).mono ?_
     rintro e y2 ⟨rfl, hb2⟩
     have hB2 : Below Y0.heap.size Y0 y2 := hB1.trans (hb2.mono hB1.size)
     try go_wp2_with fail
     refine hK.out _ _ (HK.out _ hB2) (fun hHeld => ?_)
     clear hK K
     try simp only [Act.put, zA, zB, zC]
     refine tj 11 ?_
     simp only [Act.put, zA, zB, zC]
     refine tj 12 ?_
     simp only [Act.put, zA, zB, zC]
     refine wpAnyH_done (by kernel_rfl) ?_ _
     clear hHeld
     have HL2 : Hid _ := LV.below HL0.out hB2
     clear hb1 hB1 hb2 hB2 hY0 f0 f1 f2 f3 f4 f5 f6 c0 c1 c2 c3 c4 c5 c6
     go_wp2_with fail
     go_roundg (li - (k + 1))
     case measure => omega
     case rel => exact ⟨k + 1, by go_num, by omega, Nat.le_refl _, HN2.out, HL2.out⟩
  ·obtain rfl : k = li := by omega
   have hii : ¬ (k : Int) < k := by omega
   have HR : Hid (Z.symsOk ts = true) := by
    show _ = _
    unfold Z.symsOk
    rw [List.all_eq_true]
    have := HAL.out
    rw [List.take_of_length_le (by rw [HC.out]; exact Nat.le_refl _)] at this
    exact this
   go_wp2_with fail
   go_ret
   exact ⟨by rw [HR.out]; rfl, HLV.out⟩

end

end Go.Proofs.YtgjingleolhkbaaGreatDoor
