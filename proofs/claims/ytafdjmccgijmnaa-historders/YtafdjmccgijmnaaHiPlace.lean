/- Where a search is, as a key. -/
import Derived.Test.YtafdjmccgijmnaaHiObj
import Derived.Laws.IdiomCopy
import Derived.Deep.RegionHeld3
namespace Go.Proofs.Ytafdjmccgijmnaa
open Go.RowKit A
set_option linter.unusedVariables false
set_option linter.unusedSimpArgs false
theorem tA {l : List Oper} {i : Nat} {y : Oper} (h : l[i]? = some y) : (List.toArray l)[i]? = some y := by simpa using h
/-- An operation that yields the same in every world that meets S is taken first. -/
theorem tk {P : Program} {ops : Array Oper} {Q : Exit → Act → World → Prop} {md : Region.Mode} {S : World → Prop} {i : Nat} {oi : Oper} {v : Value} {fuel : Nat} {listed : Array Bool} {a : Act} {w : World} (hi : ops[i]? = some oi) (hb : (Region.noSelect ops && (Region.free md ops listed i && (Region.ready md ops listed).contains i)) = true)
    (hQ : ∀ c a w, Q (.panic c) (a.put oi.dst v) w → Q (.panic c) a w) (hy : YieldsIf P ops S oi v a) (hS : S w) (h : wpAnyH P md ops Q S fuel (listed.setIfInBounds i true) (a.put oi.dst v) w) : wpAnyH P md ops Q S (fuel + 1) listed a w :=
  wpAnyH_take hi (Bool.and_eq_true_iff.1 hb).1 (Bool.and_eq_true_iff.1 (Bool.and_eq_true_iff.1 hb).2).1 (Bool.and_eq_true_iff.1 (Bool.and_eq_true_iff.1 hb).2).2 hQ hy hS h
namespace H
/-- The cells of a place. -/
def pcs (d : Nat) (ow ct : Int) (zs : List Int) : List Value := [.int .u64 d, .int .i64 ow, .int .i64 ct, .int .i64 (zs.getD 0 0), .int .i64 (zs.getD 1 0), .int .i64 (zs.getD 2 0), .int .i64 (zs.getD 3 0), .int .i64 (zs.getD 4 0), .int .i64 (zs.getD 5 0), .int .i64 (zs.getD 6 0), .int .i64 (zs.getD 7 0)]
def pof (d : Nat) : List At → List Value
  | [] => pcs d 0 0 []
  | x :: _ => pcs d x.owner x.items.length x.items
end H
/-- The two boxes of placeOf: what it answers, and the place that is made. -/
structure PX (w W : World) (vs : List Value) : Prop where
  low : Below w.heap.size w W
  res : ∀ j, j < 11 → (W.cell? ⟨w.heap.size, j, none⟩).isSome = true
  box : ∀ j u, vs[j]? = some u → W.cell? ⟨w.heap.size + 1, j, none⟩ = some u
  fro : ∀ j, W.frozen? ⟨w.heap.size, j, none⟩ = false ∧ W.frozen? ⟨w.heap.size + 1, j, none⟩ = false
  siz : w.heap.size + 1 < W.heap.size
theorem PX.below {w W y : World} {vs : List Value} (h : PX w W vs) (hb : Below W.heap.size W y) : PX w y vs := by
  have hs := h.siz
  exact ⟨h.low.trans (hb.mono h.low.size), fun j hj => by rw [hb.cell (p := ⟨w.heap.size, j, none⟩) (by show w.heap.size < _; omega)]; exact h.res j hj, fun j u hu => hcell_thru hb (h.box j u hu), fun j => ⟨(hb.frozen (p := ⟨w.heap.size, j, none⟩) (by show w.heap.size < _; omega)).trans (h.fro j).1, (hb.frozen (p := ⟨w.heap.size + 1, j, none⟩) hs).trans (h.fro j).2⟩, Nat.lt_of_lt_of_le hs hb.size⟩
theorem PX.set {w W : World} {vs : List Value} (h : PX w W vs) {k : Nat} (hk : k < vs.length) (u : Value) : PX w (W.setCell ⟨w.heap.size + 1, k, none⟩ u) (vs.set k u) := by
  refine ⟨h.low.setCell (by show w.heap.size ≤ w.heap.size + 1; omega) u, fun j hj => ?_, fun j v hv => ?_, fun j => by rw [World.frozen?_setCell, World.frozen?_setCell]; exact h.fro j, by rw [World.size_setCell]; exact h.siz⟩
  · rw [World.cell?_setCell_far _ ⟨w.heap.size + 1, k, none⟩ ⟨w.heap.size, j, none⟩ _ (by show w.heap.size + 1 ≠ w.heap.size; omega)]; exact h.res j hj
  · by_cases e : k = j
    · subst e
      rw [List.getElem?_set_self hk] at hv
      cases hv
      refine World.cell?_setCell_same' _ _ _ ?_
      rw [h.box k vs[k] (by simp [hk])]
      rfl
    · rw [List.getElem?_set_ne e] at hv
      rw [World.cell?_setCell_other _ _ _ _ (fun e' => e (by have := congrArg Addr.off e'; simpa using this))]
      exact h.box j v hv
theorem pcs_at (d : Nat) (ow ct : Int) (zs : List Int) {j : Nat} (hj : j < 8) : (H.pcs d ow ct zs)[3 + j]? = some (.int .i64 (zs.getD j 0)) := by
  rcases (show j = 0 ∨ j = 1 ∨ j = 2 ∨ j = 3 ∨ j = 4 ∨ j = 5 ∨ j = 6 ∨ j = 7 by omega) with rfl | rfl | rfl | rfl | rfl | rfl | rfl | rfl <;> rfl
theorem PX.copy {w W : World} {d : Nat} {ow ct : Int} (h : PX w W (H.pcs d ow ct [])) {a : Option Addr} {l c : Nat} {zs : List Int} (hz : IntsV W a l c zs) (hl : l ≤ 8) :
    ∃ y, (∀ ty, (Builtin.copy_ #[47, 47] ty #[.slice (some ⟨w.heap.size + 1, 3, none⟩) 8 8, .slice a l c]).run Try.prog W = .ok (goInt l) y) ∧ PX w y (H.pcs d ow ct zs) ∧ ∀ p : Addr, p.block ≠ w.heap.size + 1 → y.cell? p = W.cell? p := by
  have hinf : ((Try.prog.info? 2).map (·.size)) = some 1 := by kernel_rfl
  rcases hz.cells with h0 | ⟨b, off, rfl, hc⟩
  · subst h0
    have : zs = [] := List.length_eq_zero_iff.1 hz.count
    subst this
    exact ⟨W, fun ty => run_copy_none W _ _ ty _ _ _ _ _ _ _ Try.underlying47 hinf (by simp), h, fun _ _ => rfl⟩
  · have hcl : (zs.map fun z => Value.int .i64 z).length = l := by simp [hz.count]
    have hbox : ∀ j, j < l → W.cell? ⟨w.heap.size + 1, 3 + j, none⟩ = some (.int .i64 0) := fun j hj => h.box (3 + j) _ (by rw [pcs_at _ _ _ _ (by omega)]; rfl)
    have hsome : ∀ j, j < (zs.map fun z => Value.int .i64 z).length → (W.cell? ⟨w.heap.size + 1, 3 + j, none⟩).isSome = true := fun j hj => by rw [hbox j (by omega)]; rfl
    refine ⟨W.setCells (w.heap.size + 1) 3 (zs.map fun z => Value.int .i64 z), fun ty => ?_, ⟨?_, ?_, ?_, ?_, ?_⟩, fun p hp => World.cell?_setCells_out _ _ _ _ _ (fun e => absurd e hp)⟩
    · have := run_copy_cells (P := Try.prog) W 47 47 ty 2 (w.heap.size + 1) 3 8 8 ⟨b, off, none⟩ l c (zs.map fun z => Value.int .i64 z) Try.underlying47 hinf (by rw [hcl]; simp [Nat.min_def, hl]) (fun j v hv => ?_) hsome (fun j hj => (h.fro _).2) (fun v hv => ?_)
      · rw [this, hcl]
      · rw [List.getElem?_map] at hv
        have hj : j < l := by
          by_cases e : j < l
          · exact e
          · rw [List.getElem?_eq_none (by have := hz.count; omega)] at hv; cases hv
        have e2 := hc j hj
        have hjz : j < zs.length := by have := hz.count; omega
        rw [show (⟨b, off, none⟩ : Addr).add j = ⟨b, off + j, none⟩ from by unfold Addr.add; split <;> simp_all]
        simp [hjz] at hv
        rw [e2, ← hv]
        simp [List.getD, hjz]
      · obtain ⟨z, -, rfl⟩ := List.mem_map.1 hv
        rfl
    · have hgo : ∀ (vs : List Value) (o : Nat) (X : World), Below w.heap.size w X → Below w.heap.size w (X.setCells (w.heap.size + 1) o vs) := by
        intro vs
        induction vs with
        | nil => intro o X hX; exact hX
        | cons v r ih => intro o X hX; exact ih _ _ (hX.setCell (by show w.heap.size ≤ w.heap.size + 1; omega) v)
      exact hgo _ _ _ h.low
    · intro j hj
      rw [World.cell?_setCells_out _ _ _ _ _ (fun e => by exfalso; have e' : w.heap.size = w.heap.size + 1 := e; omega)]
      exact h.res j hj
    · intro j u hu
      by_cases hj3 : j < 3
      · rw [World.cell?_setCells_out _ _ _ _ _ (fun _ _ => .inl hj3)]
        refine h.box j u ?_
        rcases (show j = 0 ∨ j = 1 ∨ j = 2 by omega) with rfl | rfl | rfl <;> exact hu
      · obtain ⟨q, rfl⟩ : ∃ q, j = 3 + q := ⟨j - 3, by omega⟩
        have hq8 : q < 8 := by
          by_cases e : q < 8
          · exact e
          · rw [List.getElem?_eq_none (by show 11 ≤ _; omega)] at hu; cases hu
        rw [pcs_at _ _ _ _ hq8] at hu
        cases hu
        by_cases hql : q < l
        · rw [World.cell?_setCells_in _ _ _ _ hsome q (by omega)]
          have hqz : q < zs.length := by have := hz.count; omega
          simp [List.getD, hqz]
        · rw [World.cell?_setCells_out _ _ _ _ _ (fun _ _ => .inr (by show 3 + _ ≤ 3 + q; omega))]
          have hqz : ¬ q < zs.length := by have := hz.count; omega
          rw [h.box (3 + q) _ (pcs_at _ _ _ _ hq8)]
          simp [List.getD, hqz]
    · intro j
      rw [World.frozen?_setCells, World.frozen?_setCells]
      exact h.fro j
    · have hgo : ∀ (vs : List Value) (o : Nat) (X : World), (X.setCells (w.heap.size + 1) o vs).heap.size = X.heap.size := by
        intro vs
        induction vs with
        | nil => intro o X; rfl
        | cons v r ih => intro o X; rw [World.setCells, ih, World.size_setCell]
      rw [hgo]
      exact h.siz
set_option maxRecDepth 100000 in
set_option maxHeartbeats 8000000 in
theorem placeOf_any {w : World} {a : Option Addr} {l c : Nat} {os : List At} (h : AtsV w a l c os) (hl : l ≤ 1) (hit : ∀ x ∈ os, x.items.length ≤ 8) (d : Nat) :
    Calls Try.prog 66 #[.int .u64 d, .slice a l c] w fun e w' => e = .returned (.agg (H.pof d os).toArray) ∧ Below w.heap.size w w' := by
  have HV : Hid _ := h
  have HC : Hid (os.length = l) := h.count
  have HIT : Hid _ := hit
  have hm := h.room
  have hmax : maxLen = 9223372036854775807 := rfl
  clear h hit
  have HSTART : Hid (PX w ((w.alloc (.cells #[.int .u64 0, .int .i64 0, .int .i64 0, .int .i64 0, .int .i64 0, .int .i64 0, .int .i64 0, .int .i64 0, .int .i64 0, .int .i64 0, .int .i64 0] 91)).alloc (.cells #[.int .u64 d, .int .i64 0, .int .i64 0, .int .i64 0, .int .i64 0, .int .i64 0, .int .i64 0, .int .i64 0, .int .i64 0, .int .i64 0, .int .i64 0] 91)) (H.pcs d 0 0 [])) := by
    refine ⟨(hbl1 _ _).alloc (by simp) _, fun j hj => ?_, fun j u hu => A.cell_last (by simp) (by simpa [H.pcs] using hu), fun j => ⟨?_, World.frozen?_alloc_at _ _ _ _ (by simp)⟩, by simp⟩
    · rw [(hbl1 (w.alloc (.cells #[.int .u64 0, .int .i64 0, .int .i64 0, .int .i64 0, .int .i64 0, .int .i64 0, .int .i64 0, .int .i64 0, .int .i64 0, .int .i64 0, .int .i64 0] 91)) _).cell (p := ⟨w.heap.size, j, none⟩) (by simp)]
      rcases (show j = 0 ∨ j = 1 ∨ j = 2 ∨ j = 3 ∨ j = 4 ∨ j = 5 ∨ j = 6 ∨ j = 7 ∨ j = 8 ∨ j = 9 ∨ j = 10 by omega) with rfl | rfl | rfl | rfl | rfl | rfl | rfl | rfl | rfl | rfl | rfl <;> simp
    · rw [(hbl1 (w.alloc (.cells #[.int .u64 0, .int .i64 0, .int .i64 0, .int .i64 0, .int .i64 0, .int .i64 0, .int .i64 0, .int .i64 0, .int .i64 0, .int .i64 0, .int .i64 0] 91)) _).frozen (p := ⟨w.heap.size, j, none⟩) (by simp)]
      exact World.frozen?_alloc_at _ _ _ _ rfl
  have HPOF : Hid (l = 0 → H.pof d os = H.pcs d 0 0 []) := fun e => by
    have : os = [] := List.length_eq_zero_iff.1 (by rw [HC.out]; exact e)
    subst this
    rfl
  have HPO1 : Hid (0 < l → H.pof d os = H.pcs d (os.getD 0 noAt).owner (os.getD 0 noAt).items.length (os.getD 0 noAt).items) := fun e => by
    match os, HC.out with
    | [], hh => simp at hh; omega
    | x :: r, _ => rfl
  go_enter Try.func66, Try.ntmps66
  go_wp2_with fail
  go_loopg [7, 12] l (fun r z7 iv wq => ∃ (k : Nat), r = l - k ∧ iv = .int .i64 k ∧ k ≤ l ∧ Hid (PX w wq (if k = 0 then H.pcs d 0 0 [] else H.pof d os)))
  case atStart => exact ⟨0, rfl, rfl, Nat.zero_le _, HSTART.out⟩
  case round =>
    obtain ⟨k, rfl, rfl, hk, HP⟩ := hrel
    by_cases hlt : k < l
    · obtain rfl : k = 0 := by omega
      obtain rfl : l = 1 := by omega
      have hii : ((0 : Nat) : Int) < (1 : Nat) := by omega
      have HP1 := HPO1.out (by omega)
      have hPX : PX w wr (H.pcs d 0 0 []) := HP.out
      rcases HV.out.cells with h0 | ⟨b, off, hab, hcl⟩
      · omega
      subst hab
      obtain ⟨q0, q1, q2, a1, l1, c1, q3, hIV⟩ := hcl 0 (by omega)
      simp only [Nat.zero_mul, Nat.add_zero] at q0 q1 q2 q3
      have q0 := hcell_thru hPX.low q0
      have q1 := hcell_thru hPX.low q1
      have q2 := hcell_thru hPX.low q2
      have q3 := hcell_thru hPX.low q3
      have h8 : l1 ≤ 8 := by
        have h1 := HIT.out (os.getD 0 noAt) (by have := HC.out; simp [List.getD, show 0 < os.length by omega])
        rw [← hIV.count]; exact h1
      have HLEN : Hid ((os.getD 0 noAt).items.length = l1) := hIV.count
      generalize os.getD 0 noAt = x at *
      obtain ⟨nm, cp, ow, zs⟩ := x
      simp only at q0 q1 q2 HP1 hIV HLEN
      rw [HLEN.out] at HP1
      obtain ⟨Y1, hY1⟩ : ∃ Y, wr.alloc (.cells #[.string nm, .int .i64 cp, .int .i64 ow, .slice a1 l1 c1] 49) = Y := ⟨_, rfl⟩
      have hY1b : Below wr.heap.size wr Y1 := by rw [← hY1]; exact hbl1 _ _
      have hd2 : Y1.drew.cell? ⟨wr.heap.size, 2, none⟩ = some (.int .i64 ow) := by rw [World.cell?_drew, ← hY1]; simp
      have hd3 : Y1.drew.cell? ⟨wr.heap.size, 3, none⟩ = some (.slice a1 l1 c1) := by rw [World.cell?_drew, ← hY1]; simp
      have HS5 : Hid (Y1.drew.cell? ⟨wr.heap.size, 2, none⟩ = some (.int .i64 ow) ∧ Y1.drew.cell? ⟨wr.heap.size, 3, none⟩ = some (.slice a1 l1 c1)) := ⟨hd2, hd3⟩
      have hbd : Below wr.heap.size wr Y1.drew := hY1b.drew
      have hPD := hPX.below hY1b
      have x1 := hPD.box 1 _ rfl
      have x2 := hPD.box 2 _ rfl
      have z1 := (hPD.fro 1).2
      have z2 := (hPD.fro 2).2
      have hP2' : PX w ((Y1.setCell ⟨w.heap.size + 1, 1, none⟩ (.int .i64 ow)).setCell ⟨w.heap.size + 1, 2, none⟩ (.int .i64 l1)) (H.pcs d ow l1 []) := (hPD.set (k := 1) (by simp [H.pcs]) (.int .i64 ow)).set (k := 2) (by simp [H.pcs]) (.int .i64 l1)
      have hne : w.heap.size + 1 ≠ wr.heap.size := by have := hPX.siz; omega
      obtain ⟨Y2, hY2⟩ : ∃ Y, (Y1.setCell ⟨w.heap.size + 1, 1, none⟩ (.int .i64 ow)).setCell ⟨w.heap.size + 1, 2, none⟩ (.int .i64 l1) = Y := ⟨_, rfl⟩
      rw [hY2] at hP2'
      have hP3 := hP2'.below (Below.refl _ _).drew.drew
      obtain ⟨Y3, hcp, hP4, hoth⟩ := hP3.copy (hIV.below hP3.low) h8
      have e3 : Y2.drew.drew.cell? ⟨wr.heap.size, 3, none⟩ = some (.slice a1 l1 c1) := by
        rw [World.cell?_drew, World.cell?_drew, ← hY2, World.cell?_setCell_far _ ⟨w.heap.size + 1, 2, none⟩ ⟨wr.heap.size, 3, none⟩ _ hne, World.cell?_setCell_far _ ⟨w.heap.size + 1, 1, none⟩ ⟨wr.heap.size, 3, none⟩ _ hne]
        exact hd3
      have e4 : Y3.cell? ⟨wr.heap.size, 3, none⟩ = some (.slice a1 l1 c1) := (hoth _ (fun e => hne e.symm)).trans e3
      have HS8 : Hid (Y2.drew.cell? ⟨wr.heap.size, 2, none⟩ = some (.int .i64 ow) ∧ Y2.drew.cell? ⟨wr.heap.size, 3, none⟩ = some (.slice a1 l1 c1)) := by
        constructor
        · rw [World.cell?_drew, ← hY2, World.cell?_setCell_far _ ⟨w.heap.size + 1, 2, none⟩ ⟨wr.heap.size, 2, none⟩ _ hne, World.cell?_setCell_far _ ⟨w.heap.size + 1, 1, none⟩ ⟨wr.heap.size, 2, none⟩ _ hne]
          exact hd2
        · rw [World.cell?_drew] at e3
          exact e3
      have HP4 : Hid (PX w Y3 (H.pof d os)) := by show PX _ _ _; rw [HP1]; exact hP4
      clear hP4 hP3 hP2' hPD hbd hd2 hd3 hPX hIV hcl HP HPO1 HPOF HSTART hY1b
      go_wp2_with fail
      refine wp_region_held_drew (S := (fun w' : World => w'.cell? ⟨wr.heap.size, 2, none⟩ = some (.int .i64 ow) ∧ w'.cell? ⟨wr.heap.size, 3, none⟩ = some (.slice a1 l1 c1))) (by kernel_rfl) HS5.out (fun hHeld => ?_)
      refine tk (i := 0) (v := ?_) (tA rfl) (by kernel_rfl) (fun _ _ _ h => h) (Or.inl ⟨by rfl, ?_⟩) (by assumption) ?_
      rotate_left
      · (intro w hSw; (try dsimp only at hSw); go_simp <;> with_reducible rfl)
      simp only [Act.put, List.setIfInBounds_toArray, List.set_cons_zero, List.set_cons_succ]
      refine tk (i := 1) (v := ?_) (tA rfl) (by kernel_rfl) (fun _ _ _ h => h) (Or.inl ⟨by rfl, ?_⟩) (by assumption) ?_
      rotate_left
      · (intro w hSw; (try dsimp only at hSw); go_simp <;> with_reducible rfl)
      simp only [Act.put, List.setIfInBounds_toArray, List.set_cons_zero, List.set_cons_succ]
      refine tk (i := 2) (v := ?_) (tA rfl) (by kernel_rfl) (fun _ _ _ h => h) (Or.inl ⟨by rfl, ?_⟩) (by assumption) ?_
      rotate_left
      · (intro w hSw; (try dsimp only at hSw); go_simp <;> with_reducible rfl)
      simp only [Act.put, List.setIfInBounds_toArray, List.set_cons_zero, List.set_cons_succ]
      refine tk (i := 3) (v := ?_) (tA rfl) (by kernel_rfl) (fun _ _ _ h => h) (Or.inl ⟨by rfl, ?_⟩) (by assumption) ?_
      rotate_left
      · (intro w hSw; (try dsimp only at hSw); go_simp <;> with_reducible rfl)
      simp only [Act.put, List.setIfInBounds_toArray, List.set_cons_zero, List.set_cons_succ]
      refine tk (i := 4) (v := ?_) (tA rfl) (by kernel_rfl) (fun _ _ _ h => h) (Or.inl ⟨by rfl, ?_⟩) (by assumption) ?_
      rotate_left
      · (intro w hSw; (try dsimp only at hSw); go_simp <;> with_reducible rfl)
      simp only [Act.put, List.setIfInBounds_toArray, List.set_cons_zero, List.set_cons_succ]
      refine tk (i := 5) (v := ?_) (tA rfl) (by kernel_rfl) (fun _ _ _ h => h) (Or.inl ⟨by rfl, ?_⟩) (by assumption) ?_
      rotate_left
      · (intro w hSw; (try dsimp only at hSw); go_simp <;> with_reducible rfl)
      simp only [Act.put, List.setIfInBounds_toArray, List.set_cons_zero, List.set_cons_succ]
      refine wpAnyH_ready (rs := [6]) (by kernel_rfl) (by simp) ?_
      refine AllReadyH.cons (tA rfl) (fun K hK => ?_) AllReadyH.nil
      go_simp
      refine hK.out _ _ ⟨(World.cell?_setCell_far _ ⟨w.heap.size + 1, 1, none⟩ ⟨wr.heap.size, 2, none⟩ _ hne).trans hHeld.1, (World.cell?_setCell_far _ ⟨w.heap.size + 1, 1, none⟩ ⟨wr.heap.size, 3, none⟩ _ hne).trans hHeld.2⟩ (fun hHeld => ?_)
      clear hK K
      show wpAnyH _ _ _ _ _ _ _ _ _
      try simp only [Act.put, List.setIfInBounds_toArray, List.set_cons_zero, List.set_cons_succ]
      refine tk (i := 7) (v := ?_) (tA rfl) (by kernel_rfl) (fun _ _ _ h => h) (Or.inl ⟨by rfl, ?_⟩) (by assumption) ?_
      rotate_left
      · (intro w hSw; (try dsimp only at hSw); go_simp <;> with_reducible rfl)
      simp only [Act.put, List.setIfInBounds_toArray, List.set_cons_zero, List.set_cons_succ]
      refine wpAnyH_ready (rs := [8]) (by kernel_rfl) (by simp) ?_
      refine AllReadyH.cons (tA rfl) (fun K hK => ?_) AllReadyH.nil
      go_simp
      refine hK.out _ _ HS8.out (fun hHeld => ?_)
      clear hK K
      try simp only [Act.put, List.setIfInBounds_toArray, List.set_cons_zero, List.set_cons_succ]
      refine wpAnyH_done (by kernel_rfl) ?_ _
      clear hHeld
      go_wp2_with fail
      refine wp_region_held_drew (S := (fun w' : World => w'.cell? ⟨wr.heap.size, 3, none⟩ = some (.slice a1 l1 c1))) (by kernel_rfl) e3 (fun hHeld => ?_)
      refine tk (i := 0) (v := ?_) (tA rfl) (by kernel_rfl) (fun _ _ _ h => h) (Or.inl ⟨by rfl, ?_⟩) (by assumption) ?_
      rotate_left
      · (intro w hSw; (try dsimp only at hSw); go_simp <;> with_reducible rfl)
      simp only [Act.put, List.setIfInBounds_toArray, List.set_cons_zero, List.set_cons_succ]
      refine tk (i := 1) (v := ?_) (tA rfl) (by kernel_rfl) (fun _ _ _ h => h) (Or.inl ⟨by rfl, ?_⟩) (by assumption) ?_
      rotate_left
      · (intro w hSw; (try dsimp only at hSw); go_simp <;> with_reducible rfl)
      simp only [Act.put, List.setIfInBounds_toArray, List.set_cons_zero, List.set_cons_succ]
      refine tk (i := 2) (v := ?_) (tA rfl) (by kernel_rfl) (fun _ _ _ h => h) (Or.inl ⟨by rfl, ?_⟩) (by assumption) ?_
      rotate_left
      · (intro w hSw; (try dsimp only at hSw); go_simp <;> with_reducible rfl)
      simp only [Act.put, List.setIfInBounds_toArray, List.set_cons_zero, List.set_cons_succ]
      refine tk (i := 3) (v := ?_) (tA rfl) (by kernel_rfl) (fun _ _ _ h => h) (Or.inl ⟨by rfl, ?_⟩) (by assumption) ?_
      rotate_left
      · (intro w hSw; (try dsimp only at hSw); go_simp <;> with_reducible rfl)
      simp only [Act.put, List.setIfInBounds_toArray, List.set_cons_zero, List.set_cons_succ]
      refine wpAnyH_ready (rs := [4]) (by kernel_rfl) (by simp) ?_
      refine AllReadyH.cons (tA rfl) (fun K hK => ?_) AllReadyH.nil
      go_simp
      refine hK.out _ _ e4 (fun hHeld => ?_)
      clear hK K
      try simp only [Act.put, List.setIfInBounds_toArray, List.set_cons_zero, List.set_cons_succ]
      refine wpAnyH_done (by kernel_rfl) ?_ _
      clear hHeld
      go_wp2_with fail
      go_roundg (1 - (0 + 1))
      case measure => omega
      case rel => exact ⟨0 + 1, rfl, by go_num, by omega, HP4⟩
    · have hkl : k = l := by omega
      subst hkl
      have hii : ¬ (k : Int) < k := by omega
      have HF : PX w wr (H.pof d os) := by
        have h1 := HP.out
        by_cases e : k = 0
        · rw [HPOF.out e]; rw [if_pos e] at h1; exact h1
        · rw [if_neg e] at h1; exact h1
      obtain ⟨ow, ct, zs, hpf⟩ : ∃ ow ct zs, H.pof d os = H.pcs d ow ct zs := by
        cases os with
        | nil => exact ⟨_, _, _, rfl⟩
        | cons x r => exact ⟨_, _, _, rfl⟩
      rw [hpf] at HF
      have HPF : Hid (H.pof d os = H.pcs d ow ct zs) := hpf
      have HFL : Hid (Below w.heap.size w wr) := HF.low
      have b0 := HF.box 0 _ rfl
      have z0 := (HF.fro 0).1
      obtain ⟨v0, r0⟩ := Option.isSome_iff_exists.1 (HF.res 0 (by omega))
      have b1 := HF.box 1 _ rfl
      have z1 := (HF.fro 1).1
      obtain ⟨v1, r1⟩ := Option.isSome_iff_exists.1 (HF.res 1 (by omega))
      have b2 := HF.box 2 _ rfl
      have z2 := (HF.fro 2).1
      obtain ⟨v2, r2⟩ := Option.isSome_iff_exists.1 (HF.res 2 (by omega))
      have b3 := HF.box 3 _ rfl
      have z3 := (HF.fro 3).1
      obtain ⟨v3, r3⟩ := Option.isSome_iff_exists.1 (HF.res 3 (by omega))
      have b4 := HF.box 4 _ rfl
      have z4 := (HF.fro 4).1
      obtain ⟨v4, r4⟩ := Option.isSome_iff_exists.1 (HF.res 4 (by omega))
      have b5 := HF.box 5 _ rfl
      have z5 := (HF.fro 5).1
      obtain ⟨v5, r5⟩ := Option.isSome_iff_exists.1 (HF.res 5 (by omega))
      have b6 := HF.box 6 _ rfl
      have z6 := (HF.fro 6).1
      obtain ⟨v6, r6⟩ := Option.isSome_iff_exists.1 (HF.res 6 (by omega))
      have b7 := HF.box 7 _ rfl
      have z7 := (HF.fro 7).1
      obtain ⟨v7, r7⟩ := Option.isSome_iff_exists.1 (HF.res 7 (by omega))
      have b8 := HF.box 8 _ rfl
      have z8 := (HF.fro 8).1
      obtain ⟨v8, r8⟩ := Option.isSome_iff_exists.1 (HF.res 8 (by omega))
      have b9 := HF.box 9 _ rfl
      have z9 := (HF.fro 9).1
      obtain ⟨v9, r9⟩ := Option.isSome_iff_exists.1 (HF.res 9 (by omega))
      have b10 := HF.box 10 _ rfl
      have z10 := (HF.fro 10).1
      obtain ⟨v10, r10⟩ := Option.isSome_iff_exists.1 (HF.res 10 (by omega))
      clear HF HP HPOF HPO1 HSTART hpf
      go_wp2_with fail
      (try simp only [Exit.inBlock, Exit.then])
      refine bodyPost_ret (v := .agg #[.int .u64 d, .int .i64 ow, .int .i64 ct, .int .i64 (zs.getD 0 0), .int .i64 (zs.getD 1 0), .int .i64 (zs.getD 2 0), .int .i64 (zs.getD 3 0), .int .i64 (zs.getD 4 0), .int .i64 (zs.getD 5 0), .int .i64 (zs.getD 6 0), .int .i64 (zs.getD 7 0)]) (by simp [results, Try.results66, go_sem, *]) rfl ?_
      exact ⟨by rw [HPF.out]; rfl, ((((((((((HFL.out.setCell (Nat.le_refl _) _).setCell (Nat.le_refl _) _).setCell (Nat.le_refl _) _).setCell (Nat.le_refl _) _).setCell (Nat.le_refl _) _).setCell (Nat.le_refl _) _).setCell (Nat.le_refl _) _).setCell (Nat.le_refl _) _).setCell (Nat.le_refl _) _).setCell (Nat.le_refl _) _).setCell (Nat.le_refl _) _⟩
end Go.Proofs.Ytafdjmccgijmnaa
