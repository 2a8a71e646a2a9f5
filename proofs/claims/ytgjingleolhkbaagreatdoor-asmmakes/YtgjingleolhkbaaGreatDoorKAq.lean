/- 'lay'. -/
import Derived.Test.YtgjingleolhkbaaGreatDoorKAp
namespace Go.Proofs.YtgjingleolhkbaaGreatDoor
open Go.RowKit Go.Maps
set_option linter.unusedVariables false
set_option linter.unusedSimpArgs false

theorem own_row_cells {W : World} {B : Nat} {ty : TypeId} {k n : Nat} {v : Value} {cs : List Value} (h : W.ownsRow B ty k v n cs) (hn : 0 < n) : ∃ g cap cur, v = .slice (some ⟨g, 0, none⟩) n cap ∧ B ≤ g ∧ W.heap[g]? = some (.cells cur ty (0, 0)) ∧ n ≤ cap ∧ cap ≤ maxLen ∧ ∀ j, j < n * k → cur[j]? = cs[j]? := by
  rcases h.2 with ⟨-, e⟩ | ⟨g, cap, cur, e, hb, hh, h1, h2, h3, h4⟩
  · omega
  · refine ⟨g, cap, cur, e, hb, hh, h1, h2, fun j hj => ?_⟩
    rw [← h4, List.getElem?_take, if_pos hj, Array.getElem?_toList]
theorem LA.toLV {w W : World} {yb bm : Nat} {ai : Option Addr} {li ci : Nat} {ts : List X.It} {vp vj : Value} {ops : List Int} {js : List (Nat × Nat)} (h : LA w W yb bm ai li ci ts vp vj ops.length js.length (ops.flatMap pC) (js.flatMap jpC)) :
    ∃ ap cp aj cj, LV w W yb bm ai li ci ts ap aj cp cj ops (ops.map fun _ => 0) js 0 := by
  obtain ⟨ap, cp, rfl⟩ := own_slice h.pr
  obtain ⟨aj, cj, rfl⟩ := own_slice h.jr
  refine ⟨ap, cp, aj, cj, h.low, h.hy, h.y, h.hm, h.nm, ⟨by simp, ?_, ?_⟩, h.jr⟩
  · rcases h.pr.2 with ⟨e, e2⟩ | ⟨g, cap, cur, e, hb, hh, h1, h2, -⟩
    · injection e with _ _ e3
      subst e3
      exact ⟨by omega, by unfold maxLen; omega⟩
    · injection e with _ _ e
      subst e
      exact ⟨h1, h2⟩
  · by_cases hn : 0 < ops.length
    · obtain ⟨g, cap, cur, e, hb, hh, -, -, hc⟩ := own_row_cells h.pr hn
      injection e with e _ _
      refine .inr ⟨g, cur, e, hb, hh, fun i hi => ?_⟩
      have key : ∀ d, d < 3 → cur[i * 3 + d]? = (pC (ops.getD i 0))[d]? := fun d hd => by
        rw [hc _ (by omega), flat_at pC 3 0 (fun _ => rfl) ops i d hi hd]
      refine ⟨by simpa [pC] using key 0 (by omega), by simpa [pC] using key 1 (by omega), ?_⟩
      have := key 2 (by omega)
      rw [this]
      simp [pC, List.getD, hi]
    · exact .inl (List.eq_nil_of_length_eq_zero (by omega))

theorem jl_snoc {ts : List X.It} {k : Nat} {t : X.It} (h : ts[k]? = some t) : Z.jumpsOf ts (ts.zipIdx.take (k + 1)) = if Z.jump t = true then Z.jumpsOf ts (ts.zipIdx.take k) ++ [(k, Z.labN ts t.name)] else Z.jumpsOf ts (ts.zipIdx.take k) := by
  have e : ts.zipIdx[k]? = some (t, k) := by rw [List.getElem?_zipIdx, h]; simp
  rw [List.take_add_one, e]
  unfold Z.jumpsOf
  rw [Option.toList_some, List.filter_append, List.map_append]
  by_cases hj : Z.jump t = true
  · rw [if_pos hj]; simp [hj]
  · rw [if_neg hj]; simp [hj]
theorem jl_len (ts : List X.It) (k : Nat) : (Z.jumpsOf ts (ts.zipIdx.take k)).length ≤ k := by
  unfold Z.jumpsOf
  rw [List.length_map]
  refine Nat.le_trans (List.length_filter_le _ _) ?_
  rw [List.length_take]
  omega
theorem js_take (ts : List X.It) : Z.jumpsOf ts (ts.zipIdx.take ts.length) = Z.js ts := by
  rw [List.take_of_length_le (by simp)]
  rfl
theorem labN_lt {ts : List X.It} (nm : X.By) (h : 0 < ts.length) : Z.labN ts nm < ts.length := by
  unfold Z.labN
  cases hl : Z.lab ts nm with
  | none => exact h
  | some i => exact (Z.lab_some hl).1
theorem js_in (ts : List X.It) : JIn ts.length (Z.js ts) := fun j hj => by
  unfold Z.js Z.jumpsOf at hj
  obtain ⟨p, hp, rfl⟩ := List.mem_map.1 hj
  obtain ⟨hp, -⟩ := List.mem_filter.1 hp
  obtain ⟨t, i⟩ := p
  have hi : i < ts.length := by
    have := List.mem_zipIdx hp
    simp at this
    exact this.1
  exact ⟨hi, labN_lt _ (by omega)⟩
theorem shorts_le (ts : List X.It) (ops : List Int) : Z.shorts ts ops ≤ ts.length := by
  unfold Z.shorts
  refine Nat.le_trans (List.length_filter_le _ _) ?_
  rw [← js_take]
  exact jl_len ts ts.length

/-- What 'lay' leaves. -/
def LayOut (w : World) (bm : Nat) (a : Option Addr) (l c : Nat) (ts : List X.It) (e : Ending) (w' : World) : Prop :=
  ∃ yb ap aj cp cj, e = .returned (.pointer (some ⟨yb, 0, none⟩)) ∧ LV w w' yb bm a l c ts ap aj cp cj (Z.ops ts) (Z.ats (Z.ops ts)) (Z.js ts) (Z.tot (Z.ops ts))
set_option maxRecDepth 100000 in
set_option maxHeartbeats 8000000 in
theorem lay_any {w W : World} {a : Option Addr} {l c bm : Nat} {ts : List X.It} (hv : ItsV w a l c ts) (hl : l ≤ 20000) (hJ : J.Tab w) (hb : Below w.heap.size w W) (hm : w.heap.size ≤ bm) (hn : NM W bm ts) :
    Calls Tryz.prog 24 #[.slice a l c, .map (some bm)] W (LayOut w bm a l c ts) := by
  have HV : Hid _ := hv
  have HJT : Hid (J.Tab w) := hJ
  have HC : Hid (ts.length = l) := hv.count
  have HA0 : Hid (LA w (W.alloc (.cells #[.map (some bm), .slice a l c, .slice none 0 0, .slice none 0 0, .int .i64 0] 87)) W.heap.size bm a l c ts (.slice none 0 0) (.slice none 0 0) 0 0 [] []) :=
    ⟨hb.trans ((bl1 _ _).mono hb.size), hb.size, (MapKept.heap_alloc W _).1, hm, hn.below (bl1 _ _), World.ownsRow_nil _ _ _ _, World.ownsRow_nil _ _ _ _⟩
  obtain ⟨yb, hyb⟩ : ∃ yb, W.heap.size = yb := ⟨_, rfl⟩
  obtain ⟨Y, hY⟩ : ∃ Y, W.alloc (.cells #[.map (some bm), .slice a l c, .slice none 0 0, .slice none 0 0, .int .i64 0] 87) = Y := ⟨_, rfl⟩
  rw [hyb, hY] at HA0
  clear hv hJ hb hm hn
  go_enter Tryz.func24, Tryz.ntmps24
  go_wp2_with fail
  go_loopg [14] l (fun r iv wq => ∃ (k : Nat), iv = .int .i64 k ∧ k ≤ l ∧ l - k ≤ r ∧ Hid (∃ vp vj, LA w wq yb bm a l c ts vp vj k (Z.jumpsOf ts (ts.zipIdx.take k)).length (((ts.take k).map Z.op0).flatMap pC) ((Z.jumpsOf ts (ts.zipIdx.take k)).flatMap jpC)))
  case atStart => exact ⟨0, rfl, Nat.zero_le _, by omega, ⟨_, _, by simpa [Z.jumpsOf] using HA0.out⟩⟩
  case round =>
    obtain ⟨k, rfl, hk, hr, HX⟩ := hrel
    obtain ⟨vp, vj, hLA⟩ := HX.out
    have HLA : Hid _ := hLA
    clear HX
    by_cases hlt : k < l
    · have hii : (k : Int) < l := by omega
      have hin : 0 ≤ (k : Int) := by omega
      obtain ⟨b, off, t, aw, lw, cw, rfl, hg, hmem, c0, c1, c2, c3, c4, c5, c6, hi⟩ := (HV.out.below hLA.low).at hlt
      have hgt : ts[k]? = some t := by
        have hk2 : k < ts.length := by rw [HC.out]; exact hlt
        simp only [List.getD, List.getElem?_eq_getElem hk2, Option.getD_some] at hg
        rw [List.getElem?_eq_getElem hk2, hg]
      have hfit := (HV.out.fit t hmem).1
      have HJS : Hid _ := jl_snoc hgt
      have HTK : Hid (((ts.take (k + 1)).map Z.op0).flatMap pC = ((ts.take k).map Z.op0).flatMap pC ++ pC (Z.op0 t)) := by show _ = _; rw [Z.take_snoc hgt]; simp
      have hadd := add_any (hLA.below (bl1 wr (.cells #[.int .i64 t.kind, .string (X.str t.name), .int .i64 t.op, .int .i64 t.a, .int .i64 t.b, .int .i64 t.n, .slice aw lw cw] 44))) HJT.out (by omega) (by have := jl_len ts k; omega) k (by omega) t hfit aw lw cw
      unfold itV at hadd
      obtain ⟨Y0, hY0⟩ : ∃ Y0, wr.alloc (.cells #[.int .i64 t.kind, .string (X.str t.name), .int .i64 t.op, .int .i64 t.a, .int .i64 t.b, .int .i64 t.n, .slice aw lw cw] 44) = Y0 := ⟨_, rfl⟩
      rw [hY0] at hadd
      have f0 : Y0.cell? ⟨wr.heap.size, 0, none⟩ = some (.int .i64 t.kind) := by subst hY0; exact cellA rfl rfl
      have f1 : Y0.cell? ⟨wr.heap.size, 1, none⟩ = some (.string (X.str t.name)) := by subst hY0; exact cellA rfl rfl
      have f2 : Y0.cell? ⟨wr.heap.size, 2, none⟩ = some (.int .i64 t.op) := by subst hY0; exact cellA rfl rfl
      have f3 : Y0.cell? ⟨wr.heap.size, 3, none⟩ = some (.int .i64 t.a) := by subst hY0; exact cellA rfl rfl
      have f4 : Y0.cell? ⟨wr.heap.size, 4, none⟩ = some (.int .i64 t.b) := by subst hY0; exact cellA rfl rfl
      have f5 : Y0.cell? ⟨wr.heap.size, 5, none⟩ = some (.int .i64 t.n) := by subst hY0; exact cellA rfl rfl
      have f6 : Y0.cell? ⟨wr.heap.size, 6, none⟩ = some (.slice aw lw cw) := by subst hY0; exact cellA rfl rfl
      clear hLA hg hmem hi hfit hgt
      go_wp2_with fail
      refine hadd.mono ?_
      rintro e w1 ⟨rfl, vp', vj', h1⟩
      have HN : Hid (∃ vp vj, LA w w1 yb bm (some ⟨b, off, none⟩) l c ts vp vj (k + 1) (Z.jumpsOf ts (ts.zipIdx.take (k + 1))).length (((ts.take (k + 1)).map Z.op0).flatMap pC) ((Z.jumpsOf ts (ts.zipIdx.take (k + 1))).flatMap jpC)) := by
        refine ⟨vp', vj', ?_⟩
        rw [HTK.out, HJS.out]
        by_cases hj : Z.jump t = true
        · rw [if_pos hj, if_pos hj] at h1
          rw [if_pos hj, List.length_append, List.flatMap_append]
          simpa using h1
        · rw [if_neg hj, if_neg hj] at h1
          rw [if_neg hj]
          exact h1
      clear h1 hadd hY0 f0 f1 f2 f3 f4 f5 f6 c0 c1 c2 c3 c4 c5 c6
      go_wp2_with fail
      go_roundg (l - (k + 1))
      case measure => omega
      case rel => exact ⟨k + 1, by go_num, by omega, Nat.le_refl _, HN.out⟩
    · obtain rfl : k = l := by omega
      have hii : ¬ (k : Int) < k := by omega
      have hfin : ∃ ap cp aj cj, LV w wr yb bm a k c ts ap aj cp cj (ts.map Z.op0) ((ts.map Z.op0).map fun _ => 0) (Z.js ts) 0 := by
        refine LA.toLV (vp := vp) (vj := vj) ?_
        have := HLA.out
        rw [← HC.out, js_take, List.take_length] at this
        rw [← HC.out, List.length_map]
        exact this
      obtain ⟨ap, cp, aj, cj, hLV⟩ := hfin
      have hset := settle_any hLV HV.out HJT.out (by simp) (by rw [List.length_map, HC.out]; exact hl) (by rw [List.length_map]; exact js_in ts) ts.length (shorts_le ts _)
      clear hLV hLA
      go_wp2_with fail
      refine hset.mono ?_
      rintro e w1 ⟨rfl, hL⟩
      have HL : Hid _ := hL
      clear hL hset
      go_wp2_with fail
      go_ret
      exact ⟨yb, ap, aj, cp, cj, rfl, HL.out⟩

end Go.Proofs.YtgjingleolhkbaaGreatDoor

/- Which items are left open, and where labels stand. (Written by gen_open.py.) -/
namespace Go.Proofs.YtgjingleolhkbaaGreatDoor
namespace Z
/-- Whether a relocation fills an item. -/
def isOpen (ts : List X.It) (t : X.It) : Bool := decide (t.op = 19) || (decide (t.op = 23) && (lab ts t.name).isNone)
def placeOf (ts : List X.It) (ops : List Int) (nm : X.By) : Int := (ats ops).getD (labN ts nm) 0
end Z
open Go.RowKit Go.Maps
set_option linter.unusedVariables false
set_option linter.unusedSimpArgs false
section
variable {w W : World} {yb bm : Nat} {ai : Option Addr} {li ci : Nat} {ts : List X.It} {ap aj : Option Addr} {cp cj : Nat} {ops bs : List Int} {js : List (Nat × Nat)} {sz : Int}
set_option maxRecDepth 100000 in
set_option maxHeartbeats 8000000 in
theorem isOpen_any (h : LV w W yb bm ai li ci ts ap aj cp cj ops bs js sz) (t : X.It) (hnm : t.name.length ≤ maxLen) (aw : Option Addr) (lw cw : Nat) :
    Calls Tryz.prog 52 #[.pointer (some ⟨yb, 0, none⟩), itV t (.slice aw lw cw)] W fun e w' => e = .returned (.bool (Z.isOpen ts t)) ∧ Below W.heap.size W w' := by
  obtain ⟨Y0, hY0⟩ : ∃ Y0, W.alloc (.cells #[.int .i64 t.kind, .string (X.str t.name), .int .i64 t.op, .int .i64 t.a, .int .i64 t.b, .int .i64 t.n, .slice aw lw cw] 44) = Y0 := ⟨_, rfl⟩
  have HB0 : Hid (Below W.heap.size W Y0) := by subst hY0; exact bl1 _ _
  have HN : Hid (NM Y0 bm ts) := h.nm.below HB0.out
  have hhc := nhas_any (HN.out.below (Below.refl _ _).drew) t.name hnm
  obtain ⟨bx, hbx⟩ : ∃ bx, W.heap.size = bx := ⟨_, rfl⟩
  have y0 : Y0.cell? ⟨yb, 0, none⟩ = some (.map (some bm)) := cell_thru HB0.out h.cells.1
  have f1 : Y0.cell? ⟨bx, 1, none⟩ = some (.string (X.str t.name)) := by subst hY0 hbx; exact cellA rfl rfl
  have f2 : Y0.cell? ⟨bx, 2, none⟩ = some (.int .i64 t.op) := by subst hY0 hbx; exact cellA rfl rfl
  obtain ⟨op, hop⟩ : ∃ op, t.op = op := ⟨_, rfl⟩
  have HR : Hid (Z.isOpen ts t = (decide (op = 19) || (decide (op = 23) && (Z.lab ts t.name).isNone))) := by show _ = _; unfold Z.isOpen; rw [hop]
  obtain ⟨nm, hnmE⟩ : ∃ nm, X.str t.name = nm := ⟨_, rfl⟩
  unfold itV
  rw [hnmE] at hhc f1 hY0 ⊢
  rw [hop] at f2 hY0 ⊢
  have HK : Hid (∀ W', Below Y0.heap.size Y0 W' → W'.cell? ⟨yb, 0, none⟩ = some (.map (some bm)) ∧ W'.cell? ⟨bx, 1, none⟩ = some (.string nm) ∧ W'.cell? ⟨bx, 2, none⟩ = some (.int .i64 op)) := fun W' hb => ⟨cell_thru hb y0, cell_thru hb f1, cell_thru hb f2⟩
  have HS0 : Hid (Y0.drew.cell? ⟨yb, 0, none⟩ = some (.map (some bm)) ∧ Y0.drew.cell? ⟨bx, 1, none⟩ = some (.string nm) ∧ Y0.drew.cell? ⟨bx, 2, none⟩ = some (.int .i64 op)) := HK.out _ (Below.refl _ _).drew
  clear h hnm hnmE hop
  rcases (show op = 19 ∨ op = 23 ∨ (¬ op = 19 ∧ ¬ op = 23) by omega) with rfl | rfl | ⟨h1, h2⟩
  · go_enter Tryz.func52, Tryz.ntmps52
    go_wp2_with fail
    refine wp_region_held_drew (S := (fun w' : World => w'.cell? ⟨yb, 0, none⟩ = some (.map (some bm)) ∧ w'.cell? ⟨bx, 1, none⟩ = some (.string nm) ∧ w'.cell? ⟨bx, 2, none⟩ = some (.int .i64 19))) (by kernel_rfl) HS0.out (fun hHeld => ?_)
    refine tk (i := 0) (v := ?_) (tA rfl) (by kernel_rfl) (fun _ _ _ h => h) (Or.inl ⟨by rfl, ?_⟩) (by assumption) ?_
    rotate_left
    · (intro w hSw; (try dsimp only at hSw); go_simp <;> with_reducible rfl)
    simp only [Act.put, List.setIfInBounds_toArray, List.set_cons_zero, List.set_cons_succ]
    refine tk (i := 1) (v := ?_) (tA rfl) (by kernel_rfl) (fun _ _ _ h => h) (Or.inl ⟨by rfl, ?_⟩) (by assumption) ?_
    rotate_left
    · (intro w hSw; (try dsimp only at hSw); go_simp <;> with_reducible rfl)
    simp only [Act.put, List.setIfInBounds_toArray, List.set_cons_zero, List.set_cons_succ]
    refine tk (i := 2) (v := ?_) (tA rfl) (by kernel_rfl) (fun _ _ _ h => h) (Or.inl ⟨by rfl, ?_⟩) (by assumption) ?_
    rotate_left
    · (intro w hSw; (try dsimp only at hSw); go_simp <;> with_reducible rfl)
    simp only [Act.put, List.setIfInBounds_toArray, List.set_cons_zero, List.set_cons_succ]
    refine tk (i := 3) (v := ?_) (tA rfl) (by kernel_rfl) (fun _ _ _ h => h) (Or.inl ⟨by rfl, ?_⟩) (by assumption) ?_
    rotate_left
    · (intro w hSw; (try dsimp only at hSw); go_simp <;> with_reducible rfl)
    simp only [Act.put, List.setIfInBounds_toArray, List.set_cons_zero, List.set_cons_succ]
    refine tk (i := 4) (v := ?_) (tA rfl) (by kernel_rfl) (fun _ _ _ h => h) (Or.inl ⟨by rfl, ?_⟩) (by assumption) ?_
    rotate_left
    · (intro w hSw; (try dsimp only at hSw); go_simp <;> with_reducible rfl)
    simp only [Act.put, List.setIfInBounds_toArray, List.set_cons_zero, List.set_cons_succ]
    refine tk (i := 5) (v := undef) (tA rfl) (by kernel_rfl) (fun _ _ _ h => h) (Or.inr ⟨by rfl, rfl⟩) (by assumption) ?_
    simp only [Act.put, List.setIfInBounds_toArray, List.set_cons_zero, List.set_cons_succ]
    refine tk (i := 6) (v := undef) (tA rfl) (by kernel_rfl) (fun _ _ _ h => h) (Or.inr ⟨by rfl, rfl⟩) (by assumption) ?_
    simp only [Act.put, List.setIfInBounds_toArray, List.set_cons_zero, List.set_cons_succ]
    refine tk (i := 7) (v := undef) (tA rfl) (by kernel_rfl) (fun _ _ _ h => h) (Or.inr ⟨by rfl, rfl⟩) (by assumption) ?_
    simp only [Act.put, List.setIfInBounds_toArray, List.set_cons_zero, List.set_cons_succ]
    refine tk (i := 8) (v := undef) (tA rfl) (by kernel_rfl) (fun _ _ _ h => h) (Or.inr ⟨by rfl, rfl⟩) (by assumption) ?_
    simp only [Act.put, List.setIfInBounds_toArray, List.set_cons_zero, List.set_cons_succ]
    refine tk (i := 9) (v := undef) (tA rfl) (by kernel_rfl) (fun _ _ _ h => h) (Or.inr ⟨by rfl, rfl⟩) (by assumption) ?_
    simp only [Act.put, List.setIfInBounds_toArray, List.set_cons_zero, List.set_cons_succ]
    refine tk (i := 10) (v := undef) (tA rfl) (by kernel_rfl) (fun _ _ _ h => h) (Or.inr ⟨by rfl, rfl⟩) (by assumption) ?_
    simp only [Act.put, List.setIfInBounds_toArray, List.set_cons_zero, List.set_cons_succ]
    refine tk (i := 11) (v := undef) (tA rfl) (by kernel_rfl) (fun _ _ _ h => h) (Or.inr ⟨by rfl, rfl⟩) (by assumption) ?_
    simp only [Act.put, List.setIfInBounds_toArray, List.set_cons_zero, List.set_cons_succ]
    refine tk (i := 12) (v := undef) (tA rfl) (by kernel_rfl) (fun _ _ _ h => h) (Or.inr ⟨by rfl, rfl⟩) (by assumption) ?_
    simp only [Act.put, List.setIfInBounds_toArray, List.set_cons_zero, List.set_cons_succ]
    refine tk (i := 13) (v := undef) (tA rfl) (by kernel_rfl) (fun _ _ _ h => h) (Or.inr ⟨by rfl, rfl⟩) (by assumption) ?_
    simp only [Act.put, List.setIfInBounds_toArray, List.set_cons_zero, List.set_cons_succ]
    refine tk (i := 14) (v := undef) (tA rfl) (by kernel_rfl) (fun _ _ _ h => h) (Or.inr ⟨by rfl, rfl⟩) (by assumption) ?_
    simp only [Act.put, List.setIfInBounds_toArray, List.set_cons_zero, List.set_cons_succ]
    refine tk (i := 15) (v := undef) (tA rfl) (by kernel_rfl) (fun _ _ _ h => h) (Or.inr ⟨by rfl, rfl⟩) (by assumption) ?_
    simp only [Act.put, List.setIfInBounds_toArray, List.set_cons_zero, List.set_cons_succ]
    refine tk (i := 16) (v := undef) (tA rfl) (by kernel_rfl) (fun _ _ _ h => h) (Or.inr ⟨by rfl, rfl⟩) (by assumption) ?_
    simp only [Act.put, List.setIfInBounds_toArray, List.set_cons_zero, List.set_cons_succ]
    refine tk (i := 17) (v := undef) (tA rfl) (by kernel_rfl) (fun _ _ _ h => h) (Or.inr ⟨by rfl, rfl⟩) (by assumption) ?_
    simp only [Act.put, List.setIfInBounds_toArray, List.set_cons_zero, List.set_cons_succ]
    refine tk (i := 18) (v := undef) (tA rfl) (by kernel_rfl) (fun _ _ _ h => h) (Or.inr ⟨by rfl, rfl⟩) (by assumption) ?_
    simp only [Act.put, List.setIfInBounds_toArray, List.set_cons_zero, List.set_cons_succ]
    refine tk (i := 19) (v := ?_) (tA rfl) (by kernel_rfl) (fun _ _ _ h => h) (Or.inl ⟨by rfl, ?_⟩) (by assumption) ?_
    rotate_left
    · (intro w hSw; (try dsimp only at hSw); go_simp <;> with_reducible rfl)
    simp only [Act.put, List.setIfInBounds_toArray, List.set_cons_zero, List.set_cons_succ]
    refine tk (i := 20) (v := ?_) (tA rfl) (by kernel_rfl) (fun _ _ _ h => h) (Or.inl ⟨by rfl, ?_⟩) (by assumption) ?_
    rotate_left
    · (intro w hSw; (try dsimp only at hSw); go_simp <;> with_reducible rfl)
    simp only [Act.put, List.setIfInBounds_toArray, List.set_cons_zero, List.set_cons_succ]
    refine wpAnyH_done (by kernel_rfl) ?_ _
    clear hHeld
    go_wp2_with fail
    go_ret
    exact ⟨by rw [HR.out]; rfl, HB0.out.drew⟩
  · generalize Z.lab ts t.name = L at *
    go_enter Tryz.func52, Tryz.ntmps52
    go_wp2_with fail
    refine wp_region_held_drew (S := (fun w' : World => w'.cell? ⟨yb, 0, none⟩ = some (.map (some bm)) ∧ w'.cell? ⟨bx, 1, none⟩ = some (.string nm) ∧ w'.cell? ⟨bx, 2, none⟩ = some (.int .i64 23))) (by kernel_rfl) HS0.out (fun hHeld => ?_)
    refine tk (i := 0) (v := ?_) (tA rfl) (by kernel_rfl) (fun _ _ _ h => h) (Or.inl ⟨by rfl, ?_⟩) (by assumption) ?_
    rotate_left
    · (intro w hSw; (try dsimp only at hSw); go_simp <;> with_reducible rfl)
    simp only [Act.put, List.setIfInBounds_toArray, List.set_cons_zero, List.set_cons_succ]
    refine tk (i := 1) (v := ?_) (tA rfl) (by kernel_rfl) (fun _ _ _ h => h) (Or.inl ⟨by rfl, ?_⟩) (by assumption) ?_
    rotate_left
    · (intro w hSw; (try dsimp only at hSw); go_simp <;> with_reducible rfl)
    simp only [Act.put, List.setIfInBounds_toArray, List.set_cons_zero, List.set_cons_succ]
    refine tk (i := 2) (v := ?_) (tA rfl) (by kernel_rfl) (fun _ _ _ h => h) (Or.inl ⟨by rfl, ?_⟩) (by assumption) ?_
    rotate_left
    · (intro w hSw; (try dsimp only at hSw); go_simp <;> with_reducible rfl)
    simp only [Act.put, List.setIfInBounds_toArray, List.set_cons_zero, List.set_cons_succ]
    refine tk (i := 3) (v := ?_) (tA rfl) (by kernel_rfl) (fun _ _ _ h => h) (Or.inl ⟨by rfl, ?_⟩) (by assumption) ?_
    rotate_left
    · (intro w hSw; (try dsimp only at hSw); go_simp <;> with_reducible rfl)
    simp only [Act.put, List.setIfInBounds_toArray, List.set_cons_zero, List.set_cons_succ]
    refine tk (i := 4) (v := ?_) (tA rfl) (by kernel_rfl) (fun _ _ _ h => h) (Or.inl ⟨by rfl, ?_⟩) (by assumption) ?_
    rotate_left
    · (intro w hSw; (try dsimp only at hSw); go_simp <;> with_reducible rfl)
    simp only [Act.put, List.setIfInBounds_toArray, List.set_cons_zero, List.set_cons_succ]
    refine tk (i := 5) (v := ?_) (tA rfl) (by kernel_rfl) (fun _ _ _ h => h) (Or.inl ⟨by rfl, ?_⟩) (by assumption) ?_
    rotate_left
    · (intro w hSw; (try dsimp only at hSw); go_simp <;> with_reducible rfl)
    simp only [Act.put, List.setIfInBounds_toArray, List.set_cons_zero, List.set_cons_succ]
    refine tk (i := 6) (v := ?_) (tA rfl) (by kernel_rfl) (fun _ _ _ h => h) (Or.inl ⟨by rfl, ?_⟩) (by assumption) ?_
    rotate_left
    · (intro w hSw; (try dsimp only at hSw); go_simp <;> with_reducible rfl)
    simp only [Act.put, List.setIfInBounds_toArray, List.set_cons_zero, List.set_cons_succ]
    refine tk (i := 7) (v := ?_) (tA rfl) (by kernel_rfl) (fun _ _ _ h => h) (Or.inl ⟨by rfl, ?_⟩) (by assumption) ?_
    rotate_left
    · (intro w hSw; (try dsimp only at hSw); go_simp <;> with_reducible rfl)
    simp only [Act.put, List.setIfInBounds_toArray, List.set_cons_zero, List.set_cons_succ]
    refine tk (i := 8) (v := ?_) (tA rfl) (by kernel_rfl) (fun _ _ _ h => h) (Or.inl ⟨by rfl, ?_⟩) (by assumption) ?_
    rotate_left
    · (intro w hSw; (try dsimp only at hSw); go_simp <;> with_reducible rfl)
    simp only [Act.put, List.setIfInBounds_toArray, List.set_cons_zero, List.set_cons_succ]
    refine tk (i := 9) (v := ?_) (tA rfl) (by kernel_rfl) (fun _ _ _ h => h) (Or.inl ⟨by rfl, ?_⟩) (by assumption) ?_
    rotate_left
    · (intro w hSw; (try dsimp only at hSw); go_simp <;> with_reducible rfl)
    simp only [Act.put, List.setIfInBounds_toArray, List.set_cons_zero, List.set_cons_succ]
    refine tk (i := 10) (v := ?_) (tA rfl) (by kernel_rfl) (fun _ _ _ h => h) (Or.inl ⟨by rfl, ?_⟩) (by assumption) ?_
    rotate_left
    · (intro w hSw; (try dsimp only at hSw); go_simp <;> with_reducible rfl)
    simp only [Act.put, List.setIfInBounds_toArray, List.set_cons_zero, List.set_cons_succ]
    refine tk (i := 11) (v := ?_) (tA rfl) (by kernel_rfl) (fun _ _ _ h => h) (Or.inl ⟨by rfl, ?_⟩) (by assumption) ?_
    rotate_left
    · (intro w hSw; (try dsimp only at hSw); go_simp <;> with_reducible rfl)
    simp only [Act.put, List.setIfInBounds_toArray, List.set_cons_zero, List.set_cons_succ]
    refine tk (i := 12) (v := ?_) (tA rfl) (by kernel_rfl) (fun _ _ _ h => h) (Or.inl ⟨by rfl, ?_⟩) (by assumption) ?_
    rotate_left
    · (intro w hSw; (try dsimp only at hSw); go_simp <;> with_reducible rfl)
    simp only [Act.put, List.setIfInBounds_toArray, List.set_cons_zero, List.set_cons_succ]
    refine tk (i := 13) (v := ?_) (tA rfl) (by kernel_rfl) (fun _ _ _ h => h) (Or.inl ⟨by rfl, ?_⟩) (by assumption) ?_
    rotate_left
    · (intro w hSw; (try dsimp only at hSw); go_simp <;> with_reducible rfl)
    simp only [Act.put, List.setIfInBounds_toArray, List.set_cons_zero, List.set_cons_succ]
    refine tk (i := 14) (v := ?_) (tA rfl) (by kernel_rfl) (fun _ _ _ h => h) (Or.inl ⟨by rfl, ?_⟩) (by assumption) ?_
    rotate_left
    · (intro w hSw; (try dsimp only at hSw); go_simp <;> with_reducible rfl)
    simp only [Act.put, List.setIfInBounds_toArray, List.set_cons_zero, List.set_cons_succ]
    refine tk (i := 15) (v := ?_) (tA rfl) (by kernel_rfl) (fun _ _ _ h => h) (Or.inl ⟨by rfl, ?_⟩) (by assumption) ?_
    rotate_left
    · (intro w hSw; (try dsimp only at hSw); go_simp <;> with_reducible rfl)
    simp only [Act.put, List.setIfInBounds_toArray, List.set_cons_zero, List.set_cons_succ]
    refine wpAnyH_ready (rs := [16]) (by kernel_rfl) (by simp) ?_
    refine AllReadyH.cons (tA rfl) (fun K hK => ?_) AllReadyH.nil
    go_simp
    refine hhc.mono ?_
    rintro e y1 ⟨rfl, hb1⟩
    have hB1 : Below Y0.heap.size Y0 y1 := (Below.refl _ _).drew.trans hb1
    try go_wp2_with fail
    refine hK.out _ _ (HK.out _ hB1) (fun hHeld => ?_)
    clear hK K
    try simp only [Act.put, List.setIfInBounds_toArray, List.set_cons_zero, List.set_cons_succ]
    refine tk (i := 17) (v := ?_) (tA rfl) (by kernel_rfl) (fun _ _ _ h => h) (Or.inl ⟨by rfl, ?_⟩) (by assumption) ?_
    rotate_left
    · (intro w hSw; (try dsimp only at hSw); go_simp <;> with_reducible rfl)
    simp only [Act.put, List.setIfInBounds_toArray, List.set_cons_zero, List.set_cons_succ]
    refine tk (i := 18) (v := ?_) (tA rfl) (by kernel_rfl) (fun _ _ _ h => h) (Or.inl ⟨by rfl, ?_⟩) (by assumption) ?_
    rotate_left
    · (intro w hSw; (try dsimp only at hSw); go_simp <;> with_reducible rfl)
    simp only [Act.put, List.setIfInBounds_toArray, List.set_cons_zero, List.set_cons_succ]
    refine tk (i := 19) (v := ?_) (tA rfl) (by kernel_rfl) (fun _ _ _ h => h) (Or.inl ⟨by rfl, ?_⟩) (by assumption) ?_
    rotate_left
    · (intro w hSw; (try dsimp only at hSw); go_simp <;> with_reducible rfl)
    simp only [Act.put, List.setIfInBounds_toArray, List.set_cons_zero, List.set_cons_succ]
    refine tk (i := 20) (v := ?_) (tA rfl) (by kernel_rfl) (fun _ _ _ h => h) (Or.inl ⟨by rfl, ?_⟩) (by assumption) ?_
    rotate_left
    · (intro w hSw; (try dsimp only at hSw); go_simp <;> with_reducible rfl)
    simp only [Act.put, List.setIfInBounds_toArray, List.set_cons_zero, List.set_cons_succ]
    refine wpAnyH_done (by kernel_rfl) ?_ _
    clear hHeld
    have HBF : Hid _ := HB0.out.trans (hB1.mono HB0.out.size)
    clear hb1 hB1
    go_wp2_with fail
    go_ret
    exact ⟨by rw [HR.out]; cases L <;> rfl, HBF.out⟩
  · have e1 : (op == 19) = false := by simpa using h1
    have e2 : (op == 23) = false := by simpa using h2
    go_enter Tryz.func52, Tryz.ntmps52
    go_wp2_with fail
    refine wp_region_held_drew (S := (fun w' : World => w'.cell? ⟨yb, 0, none⟩ = some (.map (some bm)) ∧ w'.cell? ⟨bx, 1, none⟩ = some (.string nm) ∧ w'.cell? ⟨bx, 2, none⟩ = some (.int .i64 op))) (by kernel_rfl) HS0.out (fun hHeld => ?_)
    refine tk (i := 0) (v := ?_) (tA rfl) (by kernel_rfl) (fun _ _ _ h => h) (Or.inl ⟨by rfl, ?_⟩) (by assumption) ?_
    rotate_left
    · (intro w hSw; (try dsimp only at hSw); go_simp <;> with_reducible rfl)
    simp only [Act.put, List.setIfInBounds_toArray, List.set_cons_zero, List.set_cons_succ]
    refine tk (i := 1) (v := ?_) (tA rfl) (by kernel_rfl) (fun _ _ _ h => h) (Or.inl ⟨by rfl, ?_⟩) (by assumption) ?_
    rotate_left
    · (intro w hSw; (try dsimp only at hSw); go_simp <;> with_reducible rfl)
    simp only [Act.put, List.setIfInBounds_toArray, List.set_cons_zero, List.set_cons_succ]
    refine tk (i := 2) (v := ?_) (tA rfl) (by kernel_rfl) (fun _ _ _ h => h) (Or.inl ⟨by rfl, ?_⟩) (by assumption) ?_
    rotate_left
    · (intro w hSw; (try dsimp only at hSw); go_simp <;> with_reducible rfl)
    simp only [Act.put, List.setIfInBounds_toArray, List.set_cons_zero, List.set_cons_succ]
    refine tk (i := 3) (v := ?_) (tA rfl) (by kernel_rfl) (fun _ _ _ h => h) (Or.inl ⟨by rfl, ?_⟩) (by assumption) ?_
    rotate_left
    · (intro w hSw; (try dsimp only at hSw); go_simp <;> with_reducible rfl)
    simp only [Act.put, List.setIfInBounds_toArray, List.set_cons_zero, List.set_cons_succ]
    refine tk (i := 4) (v := ?_) (tA rfl) (by kernel_rfl) (fun _ _ _ h => h) (Or.inl ⟨by rfl, ?_⟩) (by assumption) ?_
    rotate_left
    · (intro w hSw; (try dsimp only at hSw); go_simp <;> with_reducible rfl)
    simp only [Act.put, List.setIfInBounds_toArray, List.set_cons_zero, List.set_cons_succ]
    refine tk (i := 5) (v := ?_) (tA rfl) (by kernel_rfl) (fun _ _ _ h => h) (Or.inl ⟨by rfl, ?_⟩) (by assumption) ?_
    rotate_left
    · (intro w hSw; (try dsimp only at hSw); go_simp <;> with_reducible rfl)
    simp only [Act.put, List.setIfInBounds_toArray, List.set_cons_zero, List.set_cons_succ]
    refine tk (i := 6) (v := ?_) (tA rfl) (by kernel_rfl) (fun _ _ _ h => h) (Or.inl ⟨by rfl, ?_⟩) (by assumption) ?_
    rotate_left
    · (intro w hSw; (try dsimp only at hSw); go_simp <;> with_reducible rfl)
    simp only [Act.put, List.setIfInBounds_toArray, List.set_cons_zero, List.set_cons_succ]
    refine tk (i := 7) (v := ?_) (tA rfl) (by kernel_rfl) (fun _ _ _ h => h) (Or.inl ⟨by rfl, ?_⟩) (by assumption) ?_
    rotate_left
    · (intro w hSw; (try dsimp only at hSw); go_simp <;> with_reducible rfl)
    simp only [Act.put, List.setIfInBounds_toArray, List.set_cons_zero, List.set_cons_succ]
    refine tk (i := 8) (v := ?_) (tA rfl) (by kernel_rfl) (fun _ _ _ h => h) (Or.inl ⟨by rfl, ?_⟩) (by assumption) ?_
    rotate_left
    · (intro w hSw; (try dsimp only at hSw); go_simp <;> with_reducible rfl)
    simp only [Act.put, List.setIfInBounds_toArray, List.set_cons_zero, List.set_cons_succ]
    refine tk (i := 9) (v := ?_) (tA rfl) (by kernel_rfl) (fun _ _ _ h => h) (Or.inl ⟨by rfl, ?_⟩) (by assumption) ?_
    rotate_left
    · (intro w hSw; (try dsimp only at hSw); go_simp <;> with_reducible rfl)
    simp only [Act.put, List.setIfInBounds_toArray, List.set_cons_zero, List.set_cons_succ]
    refine tk (i := 10) (v := undef) (tA rfl) (by kernel_rfl) (fun _ _ _ h => h) (Or.inr ⟨by rfl, rfl⟩) (by assumption) ?_
    simp only [Act.put, List.setIfInBounds_toArray, List.set_cons_zero, List.set_cons_succ]
    refine tk (i := 11) (v := undef) (tA rfl) (by kernel_rfl) (fun _ _ _ h => h) (Or.inr ⟨by rfl, rfl⟩) (by assumption) ?_
    simp only [Act.put, List.setIfInBounds_toArray, List.set_cons_zero, List.set_cons_succ]
    refine tk (i := 12) (v := undef) (tA rfl) (by kernel_rfl) (fun _ _ _ h => h) (Or.inr ⟨by rfl, rfl⟩) (by assumption) ?_
    simp only [Act.put, List.setIfInBounds_toArray, List.set_cons_zero, List.set_cons_succ]
    refine tk (i := 13) (v := undef) (tA rfl) (by kernel_rfl) (fun _ _ _ h => h) (Or.inr ⟨by rfl, rfl⟩) (by assumption) ?_
    simp only [Act.put, List.setIfInBounds_toArray, List.set_cons_zero, List.set_cons_succ]
    refine tk (i := 14) (v := undef) (tA rfl) (by kernel_rfl) (fun _ _ _ h => h) (Or.inr ⟨by rfl, rfl⟩) (by assumption) ?_
    simp only [Act.put, List.setIfInBounds_toArray, List.set_cons_zero, List.set_cons_succ]
    refine tk (i := 15) (v := undef) (tA rfl) (by kernel_rfl) (fun _ _ _ h => h) (Or.inr ⟨by rfl, rfl⟩) (by assumption) ?_
    simp only [Act.put, List.setIfInBounds_toArray, List.set_cons_zero, List.set_cons_succ]
    refine tk (i := 16) (v := undef) (tA rfl) (by kernel_rfl) (fun _ _ _ h => h) (Or.inr ⟨by rfl, rfl⟩) (by assumption) ?_
    simp only [Act.put, List.setIfInBounds_toArray, List.set_cons_zero, List.set_cons_succ]
    refine tk (i := 17) (v := undef) (tA rfl) (by kernel_rfl) (fun _ _ _ h => h) (Or.inr ⟨by rfl, rfl⟩) (by assumption) ?_
    simp only [Act.put, List.setIfInBounds_toArray, List.set_cons_zero, List.set_cons_succ]
    refine tk (i := 18) (v := ?_) (tA rfl) (by kernel_rfl) (fun _ _ _ h => h) (Or.inl ⟨by rfl, ?_⟩) (by assumption) ?_
    rotate_left
    · (intro w hSw; (try dsimp only at hSw); go_simp <;> with_reducible rfl)
    simp only [Act.put, List.setIfInBounds_toArray, List.set_cons_zero, List.set_cons_succ]
    refine tk (i := 19) (v := ?_) (tA rfl) (by kernel_rfl) (fun _ _ _ h => h) (Or.inl ⟨by rfl, ?_⟩) (by assumption) ?_
    rotate_left
    · (intro w hSw; (try dsimp only at hSw); go_simp <;> with_reducible rfl)
    simp only [Act.put, List.setIfInBounds_toArray, List.set_cons_zero, List.set_cons_succ]
    refine tk (i := 20) (v := ?_) (tA rfl) (by kernel_rfl) (fun _ _ _ h => h) (Or.inl ⟨by rfl, ?_⟩) (by assumption) ?_
    rotate_left
    · (intro w hSw; (try dsimp only at hSw); go_simp <;> with_reducible rfl)
    simp only [Act.put, List.setIfInBounds_toArray, List.set_cons_zero, List.set_cons_succ]
    refine wpAnyH_done (by kernel_rfl) ?_ _
    clear hHeld
    go_wp2_with fail
    go_ret
    exact ⟨by rw [HR.out]; simp [h1, h2], HB0.out.drew⟩

set_option maxRecDepth 100000 in
set_option maxHeartbeats 8000000 in
theorem placeOf_any (h : LV w W yb bm ai li ci ts ap aj cp cj ops (Z.ats ops) js sz) (hlen : ops.length = ts.length) (nm : X.By) (hnm : nm.length ≤ maxLen) (h0 : 0 < ts.length) :
    Calls Tryz.prog 53 #[.pointer (some ⟨yb, 0, none⟩), .string (X.str nm)] W fun e w' => e = .returned (.int .i64 (Z.placeOf ts ops nm)) ∧ Below W.heap.size W w' := by
  have hlt : Z.labN ts nm < ops.length := by rw [hlen]; exact labN_lt nm h0
  obtain ⟨g, rfl, -, hgl, -, hc, -, -⟩ := h.piece hlt
  obtain ⟨-, -, p2⟩ := hc _ hlt
  obtain ⟨y0, -, y2, -⟩ := h.cells
  have hrm := h.pr.room
  have HR : Hid (Z.placeOf ts ops nm = (Z.ats ops).getD (Z.labN ts nm) 0) := rfl
  have hkey := keyStr nm hnm
  have HRUN : Hid ((Instr.lookup 54 (.map (some bm)) (.string (X.str nm)) false).run Tryz.prog W.drew = .ok (.int .i64 (Z.labN ts nm)) W.drew) := by
    show _ = _
    obtain ⟨D, n, h1, h2, h3⟩ := h.nm.ex
    obtain ⟨c, hc, hat, -⟩ := h1.drew.lookup_int lawS Tryz.underlying54 Tryz.underlying3 (zeroI _) hkey
    rw [h3 nm] at hat
    rw [hc]
    injection hat with hat
    injection hat with _ hat
    rw [hat]
  generalize Z.labN ts nm = q at *
  generalize (Z.ats ops).getD q 0 = z at *
  have hq : (q : Int) < ops.length := by omega
  have hq0 : 0 ≤ (q : Int) := by omega
  have HS0 : Hid (W.drew.cell? ⟨yb, 0, none⟩ = some (.map (some bm)) ∧ W.drew.cell? ⟨yb, 2, none⟩ = some (.slice (some ⟨g, 0, none⟩) ops.length cp) ∧ W.drew.cell? ⟨g, q * 3 + 2, none⟩ = some (.int .i64 z)) := ⟨by rw [World.cell?_drew]; exact y0, by rw [World.cell?_drew]; exact y2, by rw [World.cell?_drew]; exact p2⟩
  have HLN : Hid _ := hlen
  clear h hc hkey hnm hlen y0 y2 p2
  generalize X.str nm = s at *
  go_enter Tryz.func53, Tryz.ntmps53
  go_wp2_with fail
  refine wp_region_held_drew (S := (fun w' : World => w'.cell? ⟨yb, 0, none⟩ = some (.map (some bm)) ∧ w'.cell? ⟨yb, 2, none⟩ = some (.slice (some ⟨g, 0, none⟩) ops.length cp) ∧ w'.cell? ⟨g, q * 3 + 2, none⟩ = some (.int .i64 z))) (by kernel_rfl) HS0.out (fun hHeld => ?_)
  refine tk (i := 0) (v := ?_) (tA rfl) (by kernel_rfl) (fun _ _ _ h => h) (Or.inl ⟨by rfl, ?_⟩) (by assumption) ?_
  rotate_left
  · (intro w hSw; (try dsimp only at hSw); go_simp <;> with_reducible rfl)
  simp only [Act.put, List.setIfInBounds_toArray, List.set_cons_zero, List.set_cons_succ]
  refine tk (i := 1) (v := ?_) (tA rfl) (by kernel_rfl) (fun _ _ _ h => h) (Or.inl ⟨by rfl, ?_⟩) (by assumption) ?_
  rotate_left
  · (intro w hSw; (try dsimp only at hSw); go_simp <;> with_reducible rfl)
  simp only [Act.put, List.setIfInBounds_toArray, List.set_cons_zero, List.set_cons_succ]
  refine tk (i := 2) (v := ?_) (tA rfl) (by kernel_rfl) (fun _ _ _ h => h) (Or.inl ⟨by rfl, ?_⟩) (by assumption) ?_
  rotate_left
  · (intro w hSw; (try dsimp only at hSw); go_simp <;> with_reducible rfl)
  simp only [Act.put, List.setIfInBounds_toArray, List.set_cons_zero, List.set_cons_succ]
  refine tk (i := 3) (v := ?_) (tA rfl) (by kernel_rfl) (fun _ _ _ h => h) (Or.inl ⟨by rfl, ?_⟩) (by assumption) ?_
  rotate_left
  · (intro w hSw; (try dsimp only at hSw); go_simp <;> with_reducible rfl)
  simp only [Act.put, List.setIfInBounds_toArray, List.set_cons_zero, List.set_cons_succ]
  refine tk (i := 4) (v := ?_) (tA rfl) (by kernel_rfl) (fun _ _ _ h => h) (Or.inl ⟨by rfl, ?_⟩) (by assumption) ?_
  rotate_left
  · (intro w hSw; (try dsimp only at hSw); go_simp <;> with_reducible rfl)
  simp only [Act.put, List.setIfInBounds_toArray, List.set_cons_zero, List.set_cons_succ]
  refine tk (i := 5) (v := ?_) (tA rfl) (by kernel_rfl) (fun _ _ _ h => h) (Or.inl ⟨by rfl, ?_⟩) (by assumption) ?_
  rotate_left
  · (intro w hSw; (try dsimp only at hSw); go_simp <;> with_reducible rfl)
  simp only [Act.put, List.setIfInBounds_toArray, List.set_cons_zero, List.set_cons_succ]
  refine tk (i := 6) (v := ?_) (tA rfl) (by kernel_rfl) (fun _ _ _ h => h) (Or.inl ⟨by rfl, ?_⟩) (by assumption) ?_
  rotate_left
  · (intro w hSw; (try dsimp only at hSw); go_simp <;> with_reducible rfl)
  simp only [Act.put, List.setIfInBounds_toArray, List.set_cons_zero, List.set_cons_succ]
  refine tk (i := 7) (v := ?_) (tA rfl) (by kernel_rfl) (fun _ _ _ h => h) (Or.inl ⟨by rfl, ?_⟩) (by assumption) ?_
  rotate_left
  · (intro w hSw; (try dsimp only at hSw); go_simp <;> with_reducible rfl)
  simp only [Act.put, List.setIfInBounds_toArray, List.set_cons_zero, List.set_cons_succ]
  refine tk (i := 8) (v := ?_) (tA rfl) (by kernel_rfl) (fun _ _ _ h => h) (Or.inl ⟨by rfl, ?_⟩) (by assumption) ?_
  rotate_left
  · (intro w hSw; (try dsimp only at hSw); go_simp <;> with_reducible rfl)
  simp only [Act.put, List.setIfInBounds_toArray, List.set_cons_zero, List.set_cons_succ]
  refine wpAnyH_ready (rs := [9]) (by kernel_rfl) (by simp) ?_
  refine AllReadyH.cons (tA rfl) (fun K hK => ?_) AllReadyH.nil
  have m4 := HRUN.out
  go_simp
  refine hK.out _ _ hHeld (fun hHeld => ?_)
  clear hK K
  try simp only [Act.put, List.setIfInBounds_toArray, List.set_cons_zero, List.set_cons_succ]
  refine tk (i := 10) (v := ?_) (tA rfl) (by kernel_rfl) (fun _ _ _ h => h) (Or.inl ⟨by rfl, ?_⟩) (by assumption) ?_
  rotate_left
  · (intro w hSw; (try dsimp only at hSw); go_simp <;> with_reducible rfl)
  simp only [Act.put, List.setIfInBounds_toArray, List.set_cons_zero, List.set_cons_succ]
  refine tk (i := 11) (v := ?_) (tA rfl) (by kernel_rfl) (fun _ _ _ h => h) (Or.inl ⟨by rfl, ?_⟩) (by assumption) ?_
  rotate_left
  · (intro w hSw; (try dsimp only at hSw); go_simp <;> with_reducible rfl)
  simp only [Act.put, List.setIfInBounds_toArray, List.set_cons_zero, List.set_cons_succ]
  refine tk (i := 12) (v := ?_) (tA rfl) (by kernel_rfl) (fun _ _ _ h => h) (Or.inl ⟨by rfl, ?_⟩) (by assumption) ?_
  rotate_left
  · (intro w hSw; (try dsimp only at hSw); go_simp <;> with_reducible rfl)
  simp only [Act.put, List.setIfInBounds_toArray, List.set_cons_zero, List.set_cons_succ]
  refine tk (i := 13) (v := ?_) (tA rfl) (by kernel_rfl) (fun _ _ _ h => h) (Or.inl ⟨by rfl, ?_⟩) (by assumption) ?_
  rotate_left
  · (intro w hSw; (try dsimp only at hSw); go_simp <;> with_reducible rfl)
  simp only [Act.put, List.setIfInBounds_toArray, List.set_cons_zero, List.set_cons_succ]
  refine wpAnyH_done (by kernel_rfl) ?_ _
  clear hHeld
  go_wp2_with fail
  go_ret
  exact ⟨by rw [HR.out]; rfl, (Below.refl _ _).drew⟩
end

end Go.Proofs.YtgjingleolhkbaaGreatDoor
