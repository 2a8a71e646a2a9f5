/- What lies about while find searches: the map of places, the order that grows and shrinks, all else as it was. -/
import Derived.Test.YtafdjmccgijmnaaHiKey
namespace Go.Proofs.Ytafdjmccgijmnaa
open Go.RowKit A Go.Maps
set_option linter.unusedVariables false
set_option linter.unusedSimpArgs false
def nV (n : Nat) : Value := .int .i64 n
/-- All but the order's box and row is as it was. -/
def Agr (bM : Nat) (W W' : World) (v : Value) : Prop := ∀ b o u, b ≠ bM + 2 → v.ownBlock ≠ some b → W.cell? ⟨b, o, none⟩ = some u → W'.cell? ⟨b, o, none⟩ = some u
structure Gn (bM : Nat) (W W' : World) (v v' : Value) : Prop where
  agr : Agr bM W W' v
  new : v'.ownBlock = v.ownBlock ∨ ∀ g, v'.ownBlock = some g → W.heap.size ≤ g
  siz : W.heap.size ≤ W'.heap.size
theorem Gn.refl (bM : Nat) (W : World) (v : Value) : Gn bM W W v v := ⟨fun _ _ _ _ _ h => h, .inl rfl, Nat.le_refl _⟩
theorem Gn.below {bM : Nat} {W W' : World} (h : Below W.heap.size W W') (v : Value) : Gn bM W W' v v := ⟨fun _ _ _ _ _ hc => hcell_thru h hc, .inl rfl, h.size⟩
theorem Gn.thru {bM : Nat} {W W1 W2 : World} {v v1 : Value} (h : Gn bM W W1 v v1) (h2 : Agr bM W1 W2 v1) : Agr bM W W2 v := fun b o u hb hv hc => by
  have hlt : b < W.heap.size := World.block_lt_of_cell? W ⟨b, o, none⟩ hc
  refine h2 b o u hb ?_ (h.agr b o u hb hv hc)
  intro e
  rcases h.new with e1 | e1
  · exact hv (e1 ▸ e)
  · have := e1 b e; omega
theorem Gn.trans {bM : Nat} {W W1 W2 : World} {v v1 v2 : Value} (h : Gn bM W W1 v v1) (h2 : Gn bM W1 W2 v1 v2) : Gn bM W W2 v v2 := by
  have hs := h.siz
  refine ⟨h.thru h2.agr, ?_, Nat.le_trans h.siz h2.siz⟩
  rcases h2.new with e2 | e2
  · rcases h.new with e1 | e1
    · exact .inl (e2.trans e1)
    · exact .inr fun g hg => e1 g (e2 ▸ hg)
  · exact .inr fun g hg => Nat.le_trans hs (e2 g hg)
/-- What is so wherever all but the order's box and row is as it was. -/
def Rob (bM : Nat) (W : World) (v : Value) (P : World → Prop) : Prop := ∀ W', Agr bM W W' v → P W'
theorem Rob.now {bM : Nat} {W : World} {v : Value} {P : World → Prop} (h : Rob bM W v P) : P W := h W (fun _ _ _ _ _ h => h)
theorem Rob.go {bM : Nat} {W W1 : World} {v v1 : Value} {P : World → Prop} (h : Rob bM W v P) (g : Gn bM W W1 v v1) : Rob bM W1 v1 P := fun W2 h2 => h W2 (g.thru h2)
/-- What a place's entry holds is nothing. -/
def RU : Value → Option (DataW Unit × List MemPlace) := fun _ => some (.lit (.bool true), [])
structure SV (w0 : World) (bM : Nat) (ts : List H.Ac) (s0 : List At) (W : World) (v : Value) (pre : List Nat) (n : Nat) : Prop where
  low : Below w0.heap.size w0 W
  bas : w0.heap.size ≤ bM
  siz : bM + 4 ≤ W.heap.size
  box : W.cell? ⟨bM + 2, 0, none⟩ = some v
  fro : W.frozen? ⟨bM + 2, 0, none⟩ = false
  row : W.ownsRow (bM + 4) 3 1 v pre.length (pre.map nV)
  mem : ∃ es clock, W.heap[bM]? = some (.map es clock) ∧ Go.WideElems.Fit Try.prog 91 RU es clock ∧ es.size ≤ n ∧ ∀ e ∈ es.toList, e.val = .agg #[] ∧ ∃ d s, H.Like s0 s ∧ mayAll s = true ∧ e.key = .agg (H.pof d s).toArray ∧ (H.Pf ts).Bad d s
section
variable {w0 : World} {bM : Nat} {ts : List H.Ac} {s0 : List At} {W : World} {v : Value} {pre : List Nat} {n : Nat}
theorem SV.mono {n' : Nat} (h : SV w0 bM ts s0 W v pre n) (hn : n ≤ n') : SV w0 bM ts s0 W v pre n' := by
  obtain ⟨es, cl, h1, h2, h3, h4⟩ := h.mem
  exact ⟨h.low, h.bas, h.siz, h.box, h.fro, h.row, es, cl, h1, h2, Nat.le_trans h3 hn, h4⟩
theorem SV.below {y : World} (h : SV w0 bM ts s0 W v pre n) (hb : Below W.heap.size W y) : SV w0 bM ts s0 y v pre n := by
  obtain ⟨es, cl, h1, h2, h3, h4⟩ := h.mem
  have hs := h.siz
  exact ⟨h.low.trans (hb.mono h.low.size), h.bas, Nat.le_trans hs hb.size, hcell_thru hb h.box, (hb.frozen (p := ⟨bM + 2, 0, none⟩) (by show bM + 2 < _; omega)).trans h.fro, hown_thru h.row hb, es, cl, (hb.block bM (by omega)).trans h1, h2, h3, h4⟩
theorem own_far {B : Nat} {ty : TypeId} {k m : Nat} {u : Value} {cs : List Value} (h : W.ownsRow B ty k u m cs) {i : Nat} (hi : i < B) : u.ownBlock ≠ some i := fun e => by have := (h.lt i e).1; omega
/-- The order's box is stored over. -/
theorem SV.setBox (h : SV w0 bM ts s0 W v pre n) {v' : Value} {pre' : List Nat} (hr : W.ownsRow (bM + 4) 3 1 v' pre'.length (pre'.map nV)) : SV w0 bM ts s0 (W.setCell ⟨bM + 2, 0, none⟩ v') v' pre' n := by
  obtain ⟨es, cl, h1, h2, h3, h4⟩ := h.mem
  have hs := h.siz
  have hbs := h.bas
  refine ⟨h.low.setCell (by show w0.heap.size ≤ bM + 2; omega) _, h.bas, by rw [World.size_setCell]; exact hs, ?_, by rw [World.frozen?_setCell]; exact h.fro, ?_, es, cl, ?_, h2, h3, h4⟩
  · refine World.cell?_setCell_same' _ _ _ ?_
    rw [h.box]; rfl
  · exact hr.kept (gb_setO W ⟨bM + 2, 0, none⟩ v') (.inr (own_far hr (by show bM + 2 < _; omega)))
  · rw [heap_setCell_other W ⟨bM + 2, 0, none⟩ bM v' (by show bM ≠ bM + 2; omega)]; exact h1
theorem gn_box (hv : True) {v' : Value} (hn : v'.ownBlock = v.ownBlock ∨ ∀ g, v'.ownBlock = some g → W.heap.size ≤ g) : Gn bM W (W.setCell ⟨bM + 2, 0, none⟩ v') v v' :=
  ⟨fun b o u hb _ hc => (World.cell?_setCell_far _ ⟨bM + 2, 0, none⟩ ⟨b, o, none⟩ _ (fun e => hb e.symm)).trans hc, hn, by rw [World.size_setCell]; exact Nat.le_refl _⟩
/-- The order's row grows. -/
theorem SV.grow {w1 : World} (h : SV w0 bM ts s0 W v pre n) (hg : W.grownBy w1 v.ownBlock) : (w1.cell? ⟨bM + 2, 0, none⟩ = some v ∧ w1.frozen? ⟨bM + 2, 0, none⟩ = false) ∧ ∀ (v1 : Value) (k : Nat), w1.ownsRow (bM + 4) 3 1 v1 (pre.length + 1) (pre.map nV ++ [nV k]) → (v1.ownBlock = v.ownBlock ∨ ∀ g, v1.ownBlock = some g → W.heap.size ≤ g) → SV w0 bM ts s0 (w1.setCell ⟨bM + 2, 0, none⟩ v1) v1 (pre ++ [k]) n ∧ Gn bM W (w1.setCell ⟨bM + 2, 0, none⟩ v1) v v1 := by
  obtain ⟨es, cl, h1, h2, h3, h4⟩ := h.mem
  have hs := h.siz
  have hbs := h.bas
  have hfar : ∀ i, i < bM + 4 → some i ≠ v.ownBlock := fun i hi e => own_far h.row hi e.symm
  have hc1 : w1.cell? ⟨bM + 2, 0, none⟩ = some v := hg.cell h.box (hfar _ (by show bM + 2 < _; omega))
  have hf1 : w1.frozen? ⟨bM + 2, 0, none⟩ = false := (World.frozen?_of_block (hg.block (bM + 2) (by omega) (hfar _ (by omega)))).trans h.fro
  refine ⟨⟨hc1, hf1⟩, fun v1 k hr hn => ⟨?_, ?_⟩⟩
  · have hlow : Below w0.heap.size w0 w1 := ⟨hg.os.trans h.low.os, hg.tape.trans h.low.tape, hg.output.trans h.low.output, Nat.le_trans h.low.size hg.size, fun i hi => (hg.block i (by have := h.low.size; omega) (hfar i (by omega))).trans (h.low.block i hi)⟩
    have hr' : w1.ownsRow (bM + 4) 3 1 v1 (pre ++ [k]).length ((pre ++ [k]).map nV) := by
      rw [List.length_append, List.map_append]; exact hr
    refine ⟨hlow.setCell (by show w0.heap.size ≤ bM + 2; omega) _, h.bas, by rw [World.size_setCell]; exact Nat.le_trans hs hg.size, World.cell?_setCell_same' _ _ _ (by rw [hc1]; rfl), by rw [World.frozen?_setCell]; exact hf1, hr'.kept (gb_setO w1 ⟨bM + 2, 0, none⟩ v1) (.inr (own_far hr' (by show bM + 2 < _; omega))), es, cl, ?_, h2, h3, h4⟩
    rw [heap_setCell_other w1 ⟨bM + 2, 0, none⟩ bM v1 (by show bM ≠ bM + 2; omega), hg.block bM (by omega) (hfar _ (by omega))]
    exact h1
  · exact ⟨fun b o u hb hv hc => (World.cell?_setCell_far _ ⟨bM + 2, 0, none⟩ ⟨b, o, none⟩ _ (fun e => hb e.symm)).trans (hg.cell hc (fun e => hv e.symm)), hn, by rw [World.size_setCell]; exact hg.size⟩
/-- The order without its last. -/
theorem SV.cut {g c k : Nat} (h : SV w0 bM ts s0 W (.slice (some ⟨g, 0, none⟩) (pre.length + 1) c) (pre ++ [k]) n) : SV w0 bM ts s0 (W.setCell ⟨bM + 2, 0, none⟩ (.slice (some ⟨g, 0, none⟩) pre.length c)) (.slice (some ⟨g, 0, none⟩) pre.length c) pre n := by
  refine h.setBox ?_
  rcases h.row.2 with ⟨e, -⟩ | ⟨g', cap', cur, h', hb, hg, hnc, hcm, hcs, htake⟩
  · cases e
  · simp only [List.length_append, List.length_cons, List.length_nil, Nat.zero_add, Value.slice.injEq, Option.some.injEq, Addr.mk.injEq, and_true, true_and] at h'
    obtain ⟨rfl, rfl⟩ := h'
    refine ⟨by simp, .inr ⟨g, c, cur, rfl, hb, hg, by simp at hnc; omega, hcm, hcs, ?_⟩⟩
    rw [List.length_append, List.map_append] at htake
    have := congrArg (fun l => l.take pre.length) htake
    simp only [List.take_take, List.length_cons, List.length_nil, Nat.zero_add, Nat.mul_one] at this ⊢
    rw [Nat.min_eq_left (by omega)] at this
    rw [this, List.take_append_of_le_length (by simp), List.take_of_length_le (by simp)]
theorem form_of (h : SV w0 bM ts s0 W v pre n) (hp : 0 < pre.length) : ∃ g c, v = .slice (some ⟨g, 0, none⟩) pre.length c := by
  rcases h.row.2 with ⟨-, e⟩ | ⟨g, cap, cur, e, -⟩
  · omega
  · exact ⟨g, cap, e⟩
theorem zeroU (w : World) : (zeroValue 93).run Try.prog w = .ok (.agg #[]) w := by kernel_rfl
theorem SV.look (h : SV w0 bM ts s0 W v pre n) (h0 : s0.length ≤ 1) {d : Nat} {s : List At} (hd : d < 2 ^ 60) (hs : ∀ x ∈ s, AtFit x) (hm : mayAll s = true) (hl : H.Like s0 s) :
    ((Instr.lookup 87 (.map (some bM)) (.agg (H.pof d s).toArray) true).run Try.prog W = .ok (.tuple #[.agg #[], .bool false]) W) ∨ ((Instr.lookup 87 (.map (some bM)) (.agg (H.pof d s).toArray) true).run Try.prog W = .ok (.tuple #[.agg #[], .bool true]) W ∧ (H.Pf ts).Bad d s) := by
  obtain ⟨es, cl, h1, h2, h3, h4⟩ := h.mem
  obtain ⟨kl, hkl⟩ := key_pof hd hs hm
  rcases fit_look true lawPl Try.underlying87 (zeroU W) h1 h2 hkl with ⟨e, -⟩ | ⟨e0, y, hin, hk, e, -⟩
  · exact .inl e
  · obtain ⟨hu, d', s', hl', hm', hk', hb⟩ := h4 e0 hin
    rw [hu] at e
    rw [hk] at hk'
    have hpof : H.pof d s = H.pof d' s' := by
      have := Value.agg.inj hk'
      have := congrArg Array.toList this
      simpa using this
    obtain ⟨rfl, rfl⟩ := H.pof_inj h0 hl hl' hm hm' hpof
    exact .inr ⟨e, hb⟩
theorem SV.put (h : SV w0 bM ts s0 W v pre n) {d : Nat} {s : List At} (hd : d < 2 ^ 60) (hs : ∀ x ∈ s, AtFit x) (hm : mayAll s = true) (hl : H.Like s0 s) (hbad : (H.Pf ts).Bad d s) (hn : n < maxLen) :
    ∃ W', (Instr.mapUpdate 87 (.map (some bM)) (.agg (H.pof d s).toArray) (.agg #[])).run Try.prog W = .ok () W' ∧ SV w0 bM ts s0 W' v pre (n + 1) ∧ Gn bM W W' v v := by
  obtain ⟨es, cl, h1, h2, h3, h4⟩ := h.mem
  obtain ⟨kl, hkl⟩ := key_pof hd hs hm
  have hsz := h.siz
  have hbs := h.bas
  obtain ⟨es', cl', e, hF, hput, -, -, hwho⟩ := fit_store (R' := RU) (yv := (.lit (.bool true), [])) lawPl Try.underlying87 h1 h2 (Nat.lt_of_le_of_lt h3 hn) (val := .agg #[]) (fun x _ _ z hz => hz) hkl rfl
  have hblk : ∀ i, i ≠ bM → (Go.ChangeMaps.setBlock W bM (.map es' cl')).heap[i]? = W.heap[i]? := fun i hi => by
    show (W.heap.setIfInBounds bM _)[i]? = _
    rw [Array.getElem?_setIfInBounds_ne (fun e => hi e.symm)]
  have hsame : (Go.ChangeMaps.setBlock W bM (.map es' cl')).heap[bM]? = some (.map es' cl') := by
    show (W.heap.setIfInBounds bM _)[bM]? = _
    rw [Array.getElem?_setIfInBounds_self_of_lt (by omega)]
  have hsize : (Go.ChangeMaps.setBlock W bM (.map es' cl')).heap.size = W.heap.size := by
    show (W.heap.setIfInBounds bM _).size = _
    simp
  have hgb : W.grownBy (Go.ChangeMaps.setBlock W bM (.map es' cl')) (some bM) := ⟨rfl, rfl, rfl, by rw [hsize]; exact Nat.le_refl _, fun k _ hk => hblk k (fun e => hk (by rw [e]))⟩
  refine ⟨_, e, ⟨⟨h.low.os, h.low.tape, h.low.output, by rw [hsize]; exact h.low.size, fun i hi => (hblk i (by omega)).trans (h.low.block i hi)⟩, h.bas, by rw [hsize]; exact hsz, (World.cell?_of_block (hblk (bM + 2) (by omega))).trans h.box, (World.frozen?_of_block (hblk (bM + 2) (by omega))).trans h.fro, h.row.kept hgb (.inr (own_far h.row (by omega))), es', cl', hsame, hF, ?_, fun x hx => ?_⟩, ⟨fun b o u _ _ hc => ?_, .inl rfl, by rw [hsize]; exact Nat.le_refl _⟩⟩
  · have l1 := congrArg List.length hput
    rw [(Go.WideShapes.sorted_perm _).length_eq, List.length_map, Go.ChangeMaps.putKey, (Go.WideShapes.insert_perm _ _).length_eq, List.length_cons] at l1
    have l2 := List.length_filter_le (Go.ChangeMaps.notKey kl) ((es.toList.map (Go.WideElems.rg Try.prog 91 RU)).foldr DataW.insert [])
    rw [(Go.WideShapes.sorted_perm _).length_eq, List.length_map] at l2
    simp only [Array.length_toList] at l1 l2
    omega
  · rcases hwho x hx with ⟨hx', -⟩ | ⟨hk, hu⟩
    · exact h4 x hx'
    · exact ⟨hu, d, s, hl, hm, hk, hbad⟩
  · by_cases e : b = bM
    · subst e
      exfalso
      simp [World.cell?, h1] at hc
    · exact (World.cell?_of_block (a := ⟨b, o, none⟩) (hblk b e)).trans hc
end
end Go.Proofs.Ytafdjmccgijmnaa
