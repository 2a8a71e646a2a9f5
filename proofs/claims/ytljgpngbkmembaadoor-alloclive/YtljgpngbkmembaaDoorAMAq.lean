/- The order of temps is one: whichever two are unlike, one of them comes first. No walk. -/
import Derived.Test.YtljgpngbkmembaaDoorAMAm
import Derived.Shelf.SlSortCmp.NoneTotal
import Derived.Test.YtljgpngbkmembaaDoorAMAp
import Derived.Test.YtljgpngbkmembaaDoorAMAo
import Derived.Test.YtljgpngbkmembaaDoorAMAd
namespace Go.Proofs.YtljgpngbkmembaaDoor
open Go.RowKit Go.Maps Go.Shelf Go.Sort
set_option linter.unusedVariables false
set_option linter.unusedSimpArgs false
namespace F
theorem rkC_lt (x y : Rk) : rkC x y < 0 ↔ y.uses < x.uses ∨ (y.uses = x.uses ∧ x.temp < y.temp) := by
  unfold rkC cmp3
  rcases (show y.uses < x.uses ∨ x.uses < y.uses ∨ y.uses = x.uses by omega) with h | h | h
  · rw [if_pos h]; simp; omega
  · rw [if_neg (by omega : ¬ y.uses < x.uses), if_pos h]; simp; omega
  · rw [if_neg (by omega : ¬ y.uses < x.uses), if_neg (by omega : ¬ x.uses < y.uses)]
    simp only [if_true]
    rcases (show x.temp < y.temp ∨ y.temp < x.temp ∨ x.temp = y.temp by omega) with g | g | g
    · rw [if_pos g]; simp; omega
    · rw [if_neg (by omega : ¬ x.temp < y.temp), if_pos g]; simp; omega
    · rw [if_neg (by omega : ¬ x.temp < y.temp), if_neg (by omega : ¬ y.temp < x.temp)]; simp; omega
theorem lt_iff (x y : Rk) : ltOf rkC x y = true ↔ y.uses < x.uses ∨ (y.uses = x.uses ∧ x.temp < y.temp) := by
  unfold ltOf
  rw [decide_eq_true_eq, rkC_lt]
theorem lt_no (x y : Rk) : ltOf rkC x y = false ↔ ¬ (y.uses < x.uses ∨ (y.uses = x.uses ∧ x.temp < y.temp)) := by
  rw [← Bool.not_eq_true, lt_iff]
theorem rk_swo : SWO (ltOf rkC) where
  irrefl x := by rw [lt_no]; omega
  trans x y z h1 h2 := by rw [lt_iff] at *; omega
  ntrans x y z h1 h2 := by rw [lt_no] at *; omega
theorem rk_tot (x y : Rk) (h1 : ltOf rkC x y = false) (h2 : ltOf rkC y x = false) : x = y := by
  rw [lt_no] at h1 h2
  obtain ⟨xu, xt⟩ := x
  obtain ⟨yu, yt⟩ := y
  simp only at h1 h2
  rw [show xu = yu by omega, show xt = yt by omega]
theorem rkE_len (x : Rk) : (rkE x).length = 2 := rfl
theorem rkE_one (x : Rk) : ∀ v ∈ rkE x, v.oneCell' = true := by
  intro v hv
  unfold rkE at hv
  simp only [List.mem_cons, List.not_mem_nil, or_false] at hv
  rcases hv with rfl | rfl <;> rfl
end F
end Go.Proofs.YtljgpngbkmembaaDoor

/- The temps, those that are used most first: slices.SortFunc by the library's contract. -/
namespace Go.Proofs.YtljgpngbkmembaaDoor
open Go.RowKit Go.Maps Go.Shelf Go.Sort
set_option linter.unusedVariables false
set_option linter.unusedSimpArgs false
/-- A row of temps, as it lies. -/
structure RkV (W : World) (g : Nat) (l : List F.Rk) : Prop where
  c0 : ∀ i, i < l.length → W.cell? ⟨g, i * 2, none⟩ = some (.int .i64 (l.getD i default).uses)
  c1 : ∀ i, i < l.length → W.cell? ⟨g, i * 2 + 1, none⟩ = some (.int .i64 (l.getD i default).temp)
  f : ∀ o, W.frozen? ⟨g, o, none⟩ = false
  lt : g < W.heap.size
theorem RkV.bel {W y : World} {g n : Nat} {l : List F.Rk} (h : RkV W g l) (hb : Below n W y) (hg : g < n) : RkV y g l :=
  ⟨fun i hi => (hb.cell (p := ⟨g, i * 2, none⟩) hg).trans (h.c0 i hi), fun i hi => (hb.cell (p := ⟨g, i * 2 + 1, none⟩) hg).trans (h.c1 i hi), fun o => (hb.frozen (p := ⟨g, o, none⟩) hg).trans (h.f o), Nat.lt_of_lt_of_le h.lt hb.size⟩
theorem RkV.below {W y : World} {g : Nat} {l : List F.Rk} (h : RkV W g l) (hb : Below W.heap.size W y) : RkV y g l := h.bel hb h.lt
theorem getD_get! {l : List F.Rk} {i : Nat} (hi : i < l.length) : (l.toArray)[i]! = l.getD i default := by
  simp [List.getD, hi]
theorem RkV.holds {W : World} {g : Nat} {l : List F.Rk} (h : RkV W g l) : HoldsK F.rkE 2 W g 0 l.toArray := by
  intro j hj
  rw [size_flatK] at hj
  have hj2 : j / 2 < l.length := by simp at hj; omega
  refine ⟨?_, h.f _⟩
  rw [get_flatK _ _ _ _ hj, getD_get! hj2, Nat.zero_add]
  rcases (show j % 2 = 0 ∨ j % 2 = 1 by omega) with e | e
  · rw [e]
    have := h.c0 (j / 2) hj2
    rw [show j / 2 * 2 = j by omega] at this
    exact this
  · rw [e]
    have := h.c1 (j / 2) hj2
    rw [show j / 2 * 2 + 1 = j by omega] at this
    exact this
theorem RkV.of_holds {W : World} {g : Nat} {l : List F.Rk} (h : HoldsK F.rkE 2 W g 0 l.toArray) (hf : ∀ o, W.frozen? ⟨g, o, none⟩ = false) (hl : g < W.heap.size) : RkV W g l := by
  refine ⟨fun i hi => ?_, fun i hi => ?_, hf, hl⟩
  · have := (HoldsK.cell h (i := i) (c := 0) (by simpa using hi) (by omega)).1
    rw [getD_get! hi, Nat.zero_add, Nat.add_zero] at this
    exact this
  · have := (HoldsK.cell h (i := i) (c := 1) (by simpa using hi) (by omega)).1
    rw [getD_get! hi, Nat.zero_add] at this
    exact this
theorem sort_below {w : World} {g m : Nat} {d : Array F.Rk} {os : Array Obj} (hg : g < w.heap.size) : Below g w (sortWorldK F.rkE 2 w g 0 m d os) := by
  unfold sortWorldK
  refine ⟨rfl, rfl, rfl, ?_, fun k hk => ?_⟩
  · rw [size_grow, size_putRowK]; exact Nat.le_add_right _ _
  · rw [heap_grow_old _ _ (by rw [size_putRowK]; show k < w.heap.size; omega)]
    unfold putRowK putRow mapBlock
    simp only [Array.getElem?_modify]
    rw [if_neg (by omega)]
    rfl
theorem sort_far {w : World} {g m : Nat} {d : Array F.Rk} {os : Array Obj} : ∀ q, q < w.heap.size → q ≠ g → (sortWorldK F.rkE 2 w g 0 m d os).heap[q]? = w.heap[q]? := fun q hq hg => by
  unfold sortWorldK
  rw [heap_grow_old _ _ (by rw [size_putRowK]; exact hq)]
  unfold putRowK putRow mapBlock
  simp only [Array.getElem?_modify]
  rw [if_neg (Ne.symm hg)]
  rfl
theorem cmp_lays (g n : Nat) (w : World) : CmpLays Tryd.prog 68 #[] F.rkE 2 F.rkC g 0 n w := fun m os dk _ x y => by
  rw [Array.append_empty]
  exact cmp_any x y _
set_option maxRecDepth 100000 in
theorem sort_any {w : World} {g n c : Nat} {l : List F.Rk} (hl : l.length = n) (hn : n ≤ 400) (h : RkV w g l) : Calls Tryd.prog 67 #[.slice (some ⟨g, 0, none⟩) n c, .func (.func 68) #[] #[]] w fun e y => e = .returned (.tuple #[]) ∧ RkV y g (l.mergeSort F.rkLe) ∧ Below g w y ∧ ∀ q, q < w.heap.size → q ≠ g → y.heap[q]? = w.heap[q]? := by
  have hs : l.toArray.size = n := by simpa using hl
  have key := AnyQ.slices_SortFunc_total Tryd.laysort 2 Tryd.isAgg91 Tryd.sizeOf91 F.rkE F.rkE_len F.rkE_one F.rkC F.rk_swo 68 #[] g 0 c l.toArray w (enters_of Tryd.func68 (by kernel_rfl) rfl) (cmp_lays g _ w) h.holds h.lt (by rw [hs]; omega) F.rk_tot
  rw [hs] at key
  change Calls Tryd.prog 67 _ _ _ at key
  refine key.mono ?_
  rintro e y ⟨rfl, q, os, rfl⟩
  refine ⟨rfl, RkV.of_holds ?_ ?_ ?_, sort_below h.lt, sort_far⟩
  · refine holdsK_sortWorldK_c _ _ _ _ _ l.toArray _ _ _ h.holds h.lt ?_
    simp [List.length_mergeSort]
  · intro o
    unfold sortWorldK
    rw [frozen?_grow _ _ _ (by rw [size_putRowK]; exact h.lt)]
    unfold putRowK
    rw [frozen?_putRow]
    exact h.f o
  · have := size_sortWorldK_c (enc := F.rkE) (k := 2) w g 0 q (l.mergeSort F.rkLe).toArray os
    exact Nat.lt_of_lt_of_le h.lt this
end Go.Proofs.YtljgpngbkmembaaDoor

/- The program's ranked: how often each temp is used, sorted. -/
namespace Go.Proofs.YtljgpngbkmembaaDoor
open Go.RowKit Go.Maps Go.Shelf
attribute [local go_sem] Oper.semAt_some
set_option linter.unusedVariables false
set_option linter.unusedSimpArgs false
theorem infoRk : (Tryd.prog.info? 91).map (fun i => (i.zero, i.size, i.bytes)) = some (some (.agg #[.int .i64 0, .int .i64 0]), 2, 16) := by kernel_rfl
set_option maxRecDepth 100000 in
theorem makeRk (w : World) (N : Nat) (hN : N ≤ 65536) :
    (Instr.makeSlice 88 (.int .i64 N) (.int .i64 N)).run Tryd.prog w = .ok (.slice (some ⟨w.heap.size, 0, none⟩) N N) (w.alloc (.cells (Array.replicate (N * 2) (.int .i64 0)) 91)) := by
  obtain ⟨i, hi, h0, h1, h2⟩ := ainfo infoRk
  have := run_make (P := Tryd.prog) w 88 91 i _ Tryd.underlying88 hi h0 .i64 .i64 N N (by omega) (by omega) (by rw [h2]; omega) (by omega)
  rw [this, h1, Int.toNat_natCast]
  congr 3
  unfold madeCells
  apply Array.ext
  · simp
  · intro i h1 h2
    simp only [Array.getElem_map, Array.getElem_range, Array.getElem_replicate]
    have hz : (Value.agg #[.int .i64 0, .int .i64 0]).cells = #[.int .i64 0, .int .i64 0] := by simp [Value.cells]
    rw [hz]
    have h7 : i % 2 < 2 := Nat.mod_lt _ (by decide)
    show (#[Value.int .i64 0, .int .i64 0] : Array Value)[i % 2]! = _
    generalize i % 2 = q at h7
    rcases (show q = 0 ∨ q = 1 by omega) with rfl | rfl <;> rfl
/-- The table of temps, the first k of them named; L: all that was used so far. -/
structure RaV (W : World) (g T k : Nat) (L : List Int) : Prop where
  c0 : ∀ i, i < T → W.cell? ⟨g, i * 2, none⟩ = some (.int .i64 ((L.count (i : Int) : Nat) : Int))
  c1 : ∀ i, i < k → W.cell? ⟨g, i * 2 + 1, none⟩ = some (.int .i64 (i : Int))
  ce : ∀ i, i < T → ∃ v, W.cell? ⟨g, i * 2 + 1, none⟩ = some v
  f : ∀ o, W.frozen? ⟨g, o, none⟩ = false
  lt : g < W.heap.size
theorem RaV.move {W y : World} {g T k : Nat} {L : List Int} (h : RaV W g T k L) (hb : y.heap[g]? = W.heap[g]?) (hs : W.heap.size ≤ y.heap.size) : RaV y g T k L :=
  ⟨fun i hi => (World.cell?_of_block (w := W) (a := ⟨g, i * 2, none⟩) hb).trans (h.c0 i hi), fun i hi => (World.cell?_of_block (w := W) (a := ⟨g, i * 2 + 1, none⟩) hb).trans (h.c1 i hi), fun i hi => by
    obtain ⟨v, hv⟩ := h.ce i hi
    exact ⟨v, (World.cell?_of_block (w := W) (a := ⟨g, i * 2 + 1, none⟩) hb).trans hv⟩, fun o => (World.frozen?_of_block (w := W) (a := ⟨g, o, none⟩) hb).trans (h.f o), Nat.lt_of_lt_of_le h.lt hs⟩
theorem rep_at {m i : Nat} (h : i < m) : (Array.replicate m (Value.int .i64 0))[i]? = some (.int .i64 0) := by simp [h]
theorem RaV.new (W : World) (T : Nat) : RaV (W.alloc (.cells (Array.replicate (T * 2) (.int .i64 0)) 91)) W.heap.size T 0 [] :=
  ⟨fun i hi => ncell_at (rep_at (by omega)), fun i hi => absurd hi (Nat.not_lt_zero i), fun i hi => ⟨.int .i64 0, ncell_at (rep_at (by omega))⟩, fun o => World.frozen?_alloc_at _ _ _ _ (by simp), by simp⟩
theorem off_ne {W : World} {g p q : Nat} {v : Value} (h : q ≠ p) : (W.setCell ⟨g, p, none⟩ v).cell? ⟨g, q, none⟩ = W.cell? ⟨g, q, none⟩ := World.cell?_setCell_other _ _ _ _ (fun e => h (by have := congrArg Addr.off e; simpa using this.symm))
theorem RaV.temp {W : World} {g T k : Nat} {L : List Int} (h : RaV W g T k L) (hk : k < T) : RaV (W.setCell ⟨g, k * 2 + 1, none⟩ (.int .i64 (k : Int))) g T (k + 1) L := by
  obtain ⟨v, hv⟩ := h.ce k hk
  refine ⟨fun i hi => (off_ne (by omega)).trans (h.c0 i hi), fun i hi => ?_, fun i hi => ?_, fun o => by rw [World.frozen?_setCell]; exact h.f o, by rw [World.size_setCell]; exact h.lt⟩
  · by_cases e : i = k
    · subst e; exact World.cell?_setCell_same' _ _ _ (by rw [hv]; rfl)
    · exact (off_ne (by omega)).trans (h.c1 i (by omega))
  · by_cases e : i = k
    · subst e; exact ⟨_, World.cell?_setCell_same' _ _ _ (by rw [hv]; rfl)⟩
    · obtain ⟨u, hu⟩ := h.ce i hi
      exact ⟨u, (off_ne (by omega)).trans hu⟩
theorem RaV.use {W : World} {g T k : Nat} {L : List Int} (h : RaV W g T k L) {x : Nat} (hx : x < T) {q : Int} (hq : q = ((L.count (x : Int) : Nat) : Int) + 1) : RaV (W.setCell ⟨g, x * 2, none⟩ (.int .i64 q)) g T k (L ++ [(x : Int)]) := by
  refine ⟨fun i hi => ?_, fun i hi => (off_ne (by omega)).trans (h.c1 i hi), fun i hi => ?_, fun o => by rw [World.frozen?_setCell]; exact h.f o, by rw [World.size_setCell]; exact h.lt⟩
  · rw [List.count_append, List.count_singleton]
    by_cases e : i = x
    · subst e
      rw [World.cell?_setCell_same' _ _ _ (by rw [h.c0 i hi]; rfl), hq]
      simp
    · rw [off_ne (by omega), h.c0 i hi]
      have : ((x : Int) == (i : Int)) = false := by simp; omega
      simp [this]
  · obtain ⟨u, hu⟩ := h.ce i hi
    exact ⟨u, (off_ne (by omega)).trans hu⟩
theorem RaV.done {W : World} {g T : Nat} {L : List Int} (h : RaV W g T T L) : RkV W g (F.rk0 L T) := by
  have hl : (F.rk0 L T).length = T := by simp [F.rk0]
  have hd : ∀ i, i < T → (F.rk0 L T).getD i default = ⟨((L.count (i : Int) : Nat) : Int), (i : Int)⟩ := fun i hi => by simp [F.rk0, List.getD, hi]
  refine ⟨fun i hi => ?_, fun i hi => ?_, h.f, h.lt⟩
  · rw [hl] at hi; rw [hd i hi]; exact h.c0 i hi
  · rw [hl] at hi; rw [hd i hi]; exact h.c1 i hi
/-- What lies all along. -/
structure RaI (w : World) (T k : Nat) (L : List Int) (W : World) : Prop where
  low : Below w.heap.size w W
  bx : Bx W (w.heap.size + 1) [.slice (some ⟨w.heap.size, 0, none⟩) T T]
  rk : RaV W w.heap.size T k L
theorem RaI.bel {w A B : World} {T k m : Nat} {L : List Int} (h : RaI w T k L A) (hb : Below m A B) (hm : w.heap.size + 1 < m) : RaI w T k L B := ⟨h.low.trans (hb.mono (by omega)), h.bx.bel hb hm, h.rk.move (hb.block _ (by omega)) hb.size⟩
theorem RaI.below {w A B : World} {T k : Nat} {L : List Int} (h : RaI w T k L A) (hb : Below A.heap.size A B) : RaI w T k L B := h.bel hb h.bx.lt
theorem RaI.temp {w A : World} {T k : Nat} {L : List Int} (h : RaI w T k L A) (hk : k < T) : RaI w T (k + 1) L (A.setCell ⟨w.heap.size, k * 2 + 1, none⟩ (.int .i64 (k : Int))) :=
  ⟨h.low.setCell (Nat.le_refl _) _, h.bx.far (by omega) _, h.rk.temp hk⟩
theorem RaI.use {w A : World} {T k : Nat} {L : List Int} (h : RaI w T k L A) {x : Nat} (hx : x < T) {q : Int} (hq : q = ((L.count (x : Int) : Nat) : Int) + 1) : RaI w T k (L ++ [(x : Int)]) (A.setCell ⟨w.heap.size, x * 2, none⟩ (.int .i64 q)) :=
  ⟨h.low.setCell (Nat.le_refl _) _, h.bx.far (by omega) _, h.rk.use hx hq⟩
theorem rd_len (x : F.Op) : (F.rd x).length ≤ x.args.length + 2 := by
  unfold F.rd
  split
  · (simp only [List.length_cons, List.length_nil]; omega)
  · split
    · (simp only [List.length_cons, List.length_nil]; omega)
    · split
      · split <;> (simp only [List.length_cons, List.length_nil]; omega)
      · split
        · split <;> (simp only [List.length_cons, List.length_nil]; omega)
        · split
          · (simp only [List.length_cons, List.length_nil]; omega)
          · split
            · omega
            · (simp only [List.length_cons, List.length_nil]; omega)
theorem usesL_len {f : F.Fn} (hsz : ∀ x ∈ f.code, x.args.length ≤ 17592186044416) : ∀ k, k ≤ f.code.length → (F.usesL f k).length ≤ k * 17592186044419 := by
  intro k
  induction k with
  | zero => intro _; simp [F.usesL]
  | succ k ih =>
    intro hk
    rw [F.usesL_succ, List.length_append, List.length_append]
    have h1 := ih (by omega)
    have h2 := rd_len (F.at_ f k)
    have h3 : (F.at_ f k).args.length ≤ 17592186044416 := hsz _ (by unfold F.at_; simp [List.getD, show k < f.code.length by omega])
    have h4 : (if F.wr (F.at_ f k) = -1 then ([] : List Int) else [F.wr (F.at_ f k)]).length ≤ 1 := by split <;> simp
    omega
set_option maxRecDepth 100000 in
set_option maxHeartbeats 16000000 in
theorem ranked_any {w0 w : World} {N b bf ga gu gw : Nat} {f : F.Fn} {a : Option Addr} {n c : Nat} {U u : Nat → Nat → Nat} {ws : List Int} (h : FnV w0 N b bf ga gu gw f a n c U u ws w) (ho : OpsV w0 a n c f.code) (he : Env w0) (hm : F.mayF f = true) (hsz : ∀ x ∈ f.code, x.args.length ≤ 17592186044416) {T : Nat} (hT : f.temps = T) :
    Calls Tryd.prog 49 #[.pointer (some ⟨bf, 0, none⟩)] w fun e w' => ∃ g, e = .returned (.slice (some ⟨g, 0, none⟩) T T) ∧ RkV w' g (F.rks f) ∧ w.heap.size ≤ g ∧ Below w.heap.size w w' := by
  have hhd := F.may_head hm
  have hT4 : T ≤ 400 := by omega
  have hn2 : n ≤ 20000 := by have := ho.count; omega
  have HC : Hid (f.code.length = n) := ho.count
  have HLF : Hid (∀ W, Below w.heap.size w W → LfV W b f a n c ga U) := fun W hW => (h.below hW ho he).lf
  have HOP : Hid (∀ m, m < n → (F.opOk f.temps f.code.length (F.at_ f m) = true)) := fun m hm2 => F.may_op hm (by rw [ho.count]; exact hm2)
  have HIN : Hid (∀ m, m < n → ∀ t ∈ F.rd (F.at_ f m), 0 ≤ t ∧ t < T) := fun m hm2 t ht => by have := F.rd_in (F.may_op hm (by rw [ho.count]; exact hm2)) t ht; omega
  have HWI : Hid (∀ m, m < n → (0 ≤ F.wr (F.at_ f m) ∧ F.wr (F.at_ f m) < T) ∨ F.wr (F.at_ f m) = -1) := fun m hm2 => by have := F.wr_in (F.may_op hm (by rw [ho.count]; exact hm2)); omega
  have HLEN : Hid (∀ m, m ≤ n → (F.usesL f m).length ≤ m * 17592186044419) := fun m hm2 => usesL_len hsz m (by rw [ho.count]; exact hm2)
  have HRES : Hid (∀ g W, RkV W g (F.rk0 (F.usesL f n) T) → ∀ q Y, RkV Y q ((F.rk0 (F.usesL f n) T).mergeSort F.rkLe) → RkV Y q (F.rks f)) := fun g W _ q Y hY => by
    unfold F.rks
    rw [ho.count, hT, Int.toNat_natCast]
    exact hY
  have h0 := h.bx.c 0 _ rfl
  have h1 : w.cell? ⟨b, 2, none⟩ = some (.int .i64 T) := by rw [← hT]; exact h.lf.c2
  have HX0 : Hid (∀ W, Below w.heap.size w W → W.cell? ⟨bf, 0, none⟩ = some (.pointer (some ⟨b, 0, none⟩))) := fun W hW => cell_thru hW h0
  have hmk := makeRk w T (by omega)
  clear h ho he hm hsz hhd
  obtain ⟨W0, hW0⟩ : ∃ W0, (w.alloc (.cells (Array.replicate (T * 2) (.int .i64 0)) 91)).alloc (.cells #[.slice (some ⟨w.heap.size, 0, none⟩) T T] 88) = W0 := ⟨_, rfl⟩
  have HI0 : Hid (RaI w T 0 [] W0) := by
    have hb1 := bl1 w (.cells (Array.replicate (T * 2) (.int .i64 0)) 91)
    have hr := RaV.new w T
    obtain ⟨A1, hA1⟩ : ∃ A1, w.alloc (.cells (Array.replicate (T * 2) (.int .i64 0)) 91) = A1 := ⟨_, rfl⟩
    have s1 : A1.heap.size = w.heap.size + 1 := by rw [← hA1]; simp
    rw [hA1] at hr hb1 hW0
    have x := Bx.new A1 #[.slice (some ⟨w.heap.size, 0, none⟩) T T] 88
    have hb2 := bl1 A1 (.cells #[.slice (some ⟨w.heap.size, 0, none⟩) T T] 88)
    rw [hW0, s1] at x
    rw [hW0] at hb2
    exact ⟨hb1.trans (hb2.mono hb1.size), x, hr.move (hb2.block _ (by omega)) hb2.size⟩
  refine (callsIn_wide (n := 6)).1 ?_
  refine callsIn_of_wp_marks Tryd.func49 rfl trivial ?_ rfl
  simp only [Tryd.ntmps49, List.size_toArray, List.length_cons, List.length_nil, Nat.reduceAdd, Nat.reduceSub, Array.replicate_succ, Array.replicate_zero, List.push_toArray, List.append_toArray, List.nil_append, List.cons_append]
  have g0 := HI0.out.bx.c 0 _ rfl
  gi_wp2
  try rw [hW0]
  clear hW0 hmk h0 h1 hT g0
  refine wpIn_loop_ghost (fun g a' W => ∃ (k : Nat) (u4 u21 u22 u23 u24 u25 u26 u27 u28 : Value), g = T - k ∧ a' = { tmps := List.toArray (.pointer (some ⟨bf, 0, none⟩) :: undef :: .slice none 0 0 :: .pointer (some ⟨w.heap.size + 1, 0, none⟩) :: u4 :: undef :: undef :: undef :: undef :: .pointer (some ⟨bf, 0, none⟩) :: .pointer (some ⟨bf, 0, none⟩) :: .pointer (some ⟨bf, 0, none⟩) :: .pointer (some ⟨b, 0, none⟩) :: .pointer (some ⟨b, 0, none⟩) :: .pointer (some ⟨b, 0, none⟩) :: .pointer (some ⟨b, 2, none⟩) :: .int .i64 T :: .slice (some ⟨w.heap.size, 0, none⟩) T T :: .slice (some ⟨w.heap.size, 0, none⟩) T T :: .int .i64 T :: .int .i64 k :: u21 :: u22 :: u23 :: u24 :: u25 :: u26 :: u27 :: u28 :: undef :: undef :: undef :: undef :: undef :: undef :: undef :: undef :: undef :: undef :: undef :: undef :: undef :: undef :: undef :: undef :: undef :: undef :: undef :: undef :: undef :: undef :: undef :: undef :: undef :: undef :: undef :: undef :: undef :: undef :: undef :: undef :: undef :: undef :: undef :: undef :: undef :: undef :: undef :: undef :: []), defers := [] } ∧ k ≤ T ∧ Hid (RaI w T k [] W)) T ⟨0, _, _, _, _, _, _, _, _, _, rfl, rfl, Nat.zero_le _, HI0⟩ ?_
  rintro g a' W ⟨k, u4, u21, u22, u23, u24, u25, u26, u27, u28, rfl, rfl, hk, HI⟩
  clear HI0
  by_cases hkT : k < T
  · have hki : (k : Int) < T := by omega
    have hk0 : 0 ≤ (k : Int) := by omega
    have c3 := HI.out.bx.c 0 _ rfl
    obtain ⟨v0, hv0⟩ := HI.out.rk.ce k hkT
    have hf := HI.out.rk.f (k * 2 + 1)
    have HN : Hid _ := HI.out.temp hkT
    gi_wp2
    exact ⟨T - (k + 1), by omega, k + 1, _, _, _, _, _, _, _, _, _, rfl, by go_num, by omega, HN⟩
  · have hkk : T = k := by omega
    subst hkk
    have hki : ¬ (T : Int) < T := by omega
    have c0 := HX0.out W HI.out.low
    have c3 := (HLF.out W HI.out.low).c3
    have HI2 : Hid (RaI w T T (F.usesL f 0) W) := HI.out
    clear HI
    gi_wp2
    clear c0 c3 HX0
    refine wpIn_loop_ghost (fun g a' W => ∃ (m : Nat) (Ds : List Nat) (u4 u5 u6 u7 u8 u9 u10 u11 u12 u13 u14 u15 u16 u17 u18 u19 u20 u21 u22 u23 u24 u25 u26 u27 u28 u29 u30 u31 u32 u33 u34 u35 u39 u40 u41 u42 u43 u44 u45 u46 u47 u48 u49 u50 u51 u52 u53 u54 u55 u56 u57 u58 u59 u60 u61 u62 u63 u64 u65 u66 u67 u68 : Value), g = n - m ∧ a' = { tmps := List.toArray (.pointer (some ⟨bf, 0, none⟩) :: undef :: .slice none 0 0 :: .pointer (some ⟨w.heap.size + 1, 0, none⟩) :: u4 :: u5 :: u6 :: u7 :: u8 :: u9 :: u10 :: u11 :: u12 :: u13 :: u14 :: u15 :: u16 :: u17 :: u18 :: u19 :: u20 :: u21 :: u22 :: u23 :: u24 :: u25 :: u26 :: u27 :: u28 :: u29 :: u30 :: u31 :: u32 :: u33 :: u34 :: u35 :: .slice a n c :: .int .i64 n :: .int .i64 m :: u39 :: u40 :: u41 :: u42 :: u43 :: u44 :: u45 :: u46 :: u47 :: u48 :: u49 :: u50 :: u51 :: u52 :: u53 :: u54 :: u55 :: u56 :: u57 :: u58 :: u59 :: u60 :: u61 :: u62 :: u63 :: u64 :: u65 :: u66 :: u67 :: u68 :: []), defers := Ds.map mk } ∧ m ≤ n ∧ Hid (RaI w T T (F.usesL f m) W) ∧ Hid (Mk (w.heap.size + 2) W Ds)) n ⟨0, [], _, _, _, _, _, _, _, _, _, _, _, _, _, _, _, _, _, _, _, _, _, _, _, _, _, _, _, _, _, _, _, _, _, _, _, _, _, _, _, _, _, _, _, _, _, _, _, _, _, _, _, _, _, _, _, _, _, _, _, _, _, _, rfl, rfl, Nat.zero_le _, HI2, Mk.nil _ _⟩ ?_
    rintro g a' W ⟨m, Ds, u4, u5, u6, u7, u8, u9, u10, u11, u12, u13, u14, u15, u16, u17, u18, u19, u20, u21, u22, u23, u24, u25, u26, u27, u28, u29, u30, u31, u32, u33, u34, u35, u39, u40, u41, u42, u43, u44, u45, u46, u47, u48, u49, u50, u51, u52, u53, u54, u55, u56, u57, u58, u59, u60, u61, u62, u63, u64, u65, u66, u67, u68, rfl, rfl, hm, HI, HM⟩
    clear HI2
    by_cases hmn : m < n
    · have hmi : (m : Int) < n := by omega
      have hm0 : 0 ≤ (m : Int) := by omega
      obtain ⟨bc, offc, r, rfl, hat0, hnum⟩ := (HLF.out w (Below.refl _ _)).ops.at hmn
      obtain ⟨x, hxx⟩ : ∃ x, f.code.getD m F.noOp = x := ⟨_, rfl⟩
      rw [hxx] at hat0 hnum
      have HXX : Hid (F.at_ f m = x) := hxx
      have HNUM : Hid (NumV w r.a r.l r.c x.args) := hnum
      have hok := HOP.out m hmn
      rw [HXX.out] at hok
      have hopk := F.op_kind hok
      have hwi := HWI.out m hmn
      rw [HXX.out] at hwi
      have HRIN : Hid (∀ t ∈ F.rd x, 0 ≤ t ∧ t < T) := fun t ht => HIN.out m hmn t (by rw [HXX.out]; exact ht)
      have HWR : Hid (∀ W, Below w.heap.size w W → Calls Tryd.prog 64 #[opV x r] W fun e w' => e = .returned (.int .i64 (F.wr x)) ∧ Below W.heap.size W w') := fun W hW => writes_any x r (k := x.op.toNat) (by omega) (by omega) W (HLF.out W hW).env.shp
      have HRS : Hid (∀ W, _) := reads_any x r
      have HGO : Hid (∀ Bo, Goes Tryd.prog 73 #[.pointer (some ⟨Bo, 0, none⟩)] (fun t : Int => #[.int .i64 t]) (F.rd x) (RdsRd Bo x r)) := fun Bo => (reads_goes Bo x r hok).goes
      have hat := hat0.sub (below_sub HI.out.low)
      obtain ⟨o0, o1, o2, o3, o4, o5, o6, o7, o8⟩ := hat
      unfold opV at HWR HRS
      clear hat0 hnum hxx hopk hok
      obtain ⟨W1, hW1⟩ : ∃ W1, W.alloc (.cells #[.int .i64 x.op, .int .i64 x.what, .string x.nm, .int .i64 x.d, .int .i64 x.a, .int .i64 x.b, .int .i64 x.n, .slice r.a r.l r.c, .int .i64 x.dest] 46) = W1 := ⟨_, rfl⟩
      have HX5 : Hid (Bx W1 W.heap.size (opC x r)) := by show Bx _ _ _; rw [← hW1]; exact Bx.new W (opC x r).toArray _
      have HI1 : Hid (RaI w T T (F.usesL f m) W1) := by show RaI _ _ _ _ _; rw [← hW1]; exact HI.out.below (bl1 _ _)
      have HM1 : Hid (Mk (w.heap.size + 2) W1 Ds) := by show Mk _ _ _; rw [← hW1]; exact HM.out.below (bl1 _ _)
      obtain ⟨b6, hb6⟩ : ∃ b6, W.heap.size = b6 := ⟨_, rfl⟩
      have HB6 : Hid (w.heap.size + 1 < b6) := by show _ < _; rw [← hb6]; exact HI.out.bx.lt
      rw [hb6] at HX5
      have p0 := HX5.out.c 0 _ rfl
      have p1 := HX5.out.c 1 _ rfl
      have p2 := HX5.out.c 2 _ rfl
      have p3 := HX5.out.c 3 _ rfl
      have p4 := HX5.out.c 4 _ rfl
      have p5 := HX5.out.c 5 _ rfl
      have p6 := HX5.out.c 6 _ rfl
      have p7 := HX5.out.c 7 _ rfl
      have p8 := HX5.out.c 8 _ rfl
      gi_wp2
      refine ⟨trivial, (callsIn_wide.2 (HWR.out W1 HI1.out.low)).mono ?_⟩
      rintro e y1 ⟨rfl, hb1⟩
      have HX2 : Hid (Bx y1 b6 (opC x r)) := HX5.out.below hb1
      have HI2 : Hid (RaI w T T (F.usesL f m) y1) := HI1.out.below hb1
      have HM2 : Hid (Mk (w.heap.size + 2) y1 Ds) := HM1.out.below hb1
      clear hb1 hW1 hb6 p0 p1 p2 p3 p4 p5 p6 p7 p8 o0 o1 o2 o3 o4 o5 o6 o7 o8 HX5 HI1 HM1 HI HM
      by_cases hw1 : F.wr x = -1
      · have HW1 : Hid (F.wr x = -1) := hw1
        rw [hw1]
        have HX3 : Hid (Bx y1 b6 (opC x r)) := HX2.out
        have HI3 : Hid (RaI w T T (F.usesL f m) y1) := HI2.out
        have HM3 : Hid (Mk (w.heap.size + 2) y1 Ds) := HM2.out
        clear hw1 hwi HI2 HM2 HX2
        obtain ⟨L0, hL0⟩ : ∃ L0, F.usesL f m = L0 := ⟨_, rfl⟩
        have HL0 : Hid (F.usesL f (m + 1) = L0 ++ F.rd x) := by show _ = _; rw [F.usesL_succ, HXX.out, ← hL0]; rw [if_pos HW1.out, List.append_nil]
        rw [hL0] at HI3
        clear hL0
        have p0 := HX3.out.c 0 _ rfl
        have p1 := HX3.out.c 1 _ rfl
        have p2 := HX3.out.c 2 _ rfl
        have p3 := HX3.out.c 3 _ rfl
        have p4 := HX3.out.c 4 _ rfl
        have p5 := HX3.out.c 5 _ rfl
        have p6 := HX3.out.c 6 _ rfl
        have p7 := HX3.out.c 7 _ rfl
        have p8 := HX3.out.c 8 _ rfl
        gi_wp2
        refine ⟨trivial, (callsIn_wide.2 (HRS.out y1)).mono ?_⟩
        rintro e y ⟨rfl, rfl⟩
        have HI4 : Hid (RaI w T T L0 (y1.alloc (.cells (opC x r).toArray 46))) := HI3.out.below (bl1 _ _)
        have HM4 : Hid (Mk (w.heap.size + 2) (y1.alloc (.cells (opC x r).toArray 46)) Ds) := HM3.out.below (bl1 _ _)
        have HB4 : Hid (Bx (y1.alloc (.cells (opC x r).toArray 46)) y1.heap.size (opC x r)) := Bx.new _ _ _
        have HSZ : Hid (y1.heap.size + 1 = (y1.alloc (.cells (opC x r).toArray 46)).heap.size ∧ w.heap.size + 1 < y1.heap.size ∧ ∀ D ∈ Ds, D < y1.heap.size) := ⟨by simp, HI3.out.bx.lt, HM3.out.lt⟩
        clear p0 p1 p2 p3 p4 p5 p6 p7 p8 HI3 HM3 HX3
        generalize (y1.alloc (.cells (opC x r).toArray 46)) = W5 at HI4 HM4 HB4 HSZ ⊢
        obtain ⟨Bo, hBo⟩ : ∃ Bo, y1.heap.size = Bo := ⟨_, rfl⟩
        rw [hBo] at HB4 HSZ ⊢
        clear hBo
        gi_wp2
        refine range_a1 (β := Int) (gf := 73) (lb := #[.pointer (some ⟨Bo, 0, none⟩)]) (HGO.out Bo) rfl (enters_of Tryd.func73 (by kernel_rfl) rfl)
          (fun j W => RaI w T T (L0 ++ (F.rd x).take j) W ∧ Bx W Bo (opC x r) ∧ Mk (w.heap.size + 2) W Ds) (fun _ => False) .ret ?a1x0 (fun _ => rfl) ?assign ?I (fun _ _ h _ => h.elim) (fun k A h => ⟨h.2.1.opAt, HNUM.out.below h.1.low, (HLF.out A h.1.low).env.shp⟩) ⟨by rw [List.take_zero, List.append_nil]; exact HI4.out, HB4.out, HM4.out⟩ ?body ?done (fun _ _ _ h _ => h.elim)
        case assign =>
          intro li o W K hK
          gi_wp2
          exact hK
        case I =>
          rintro j A B ⟨h1, h2, h3⟩ hB
          have hs := HSZ.out
          exact ⟨h1.bel hB (by omega), h2.bel hB (by omega), h3.bel (fun D hD => by have := hs.2.2 D hD; omega) hB⟩
        case body =>
          rintro lp j o W hk ⟨hA, hbo, hmk⟩ hl1 hl2 -
          have hjm := HRIN.out o (List.mem_of_getElem? hk)
          obtain ⟨on, rfl⟩ : ∃ on : Nat, o = (on : Int) := ⟨o.toNat, by omega⟩
          have HK : Hid ((F.rd x)[j]? = some (on : Int)) := hk
          have hon : on < T := by omega
          have hoi : (on : Int) < T := by omega
          have hcnt : (L0 ++ (F.rd x).take j).count (on : Int) ≤ (F.usesL f (m + 1)).length := by
            refine Nat.le_trans List.count_le_length ?_
            rw [HL0.out, List.length_append, List.length_append, List.length_take]
            omega
          have hlen := HLEN.out (m + 1) (by omega)
          obtain ⟨q, hq⟩ : ∃ q : Nat, (L0 ++ (F.rd x).take j).count (on : Int) = q := ⟨_, rfl⟩
          have c0 := hA.rk.c0 on hon
          rw [hq] at c0 hcnt
          have hqb : (q : Int) < 9000000000000000000 := by
            have : (m + 1) * 17592186044419 ≤ 20000 * 17592186044419 := Nat.mul_le_mul_right _ (by omega)
            omega
          have hwr : IntKind.i64.wrap ((q : Int) + 1) = (q : Int) + 1 := by rw [IntKind.wrap_i64]; omega
          have c3 := hA.bx.c 0 _ rfl
          have hf := hA.rk.f (on * 2)
          have HN : Hid (RaI w T T (L0 ++ (F.rd x).take (j + 1)) (W.setCell ⟨w.heap.size, on * 2, none⟩ (.int .i64 ((q : Int) + 1)))) := by
            have := hA.use hon (q := (q : Int) + 1) (by rw [hq])
            rw [List.append_assoc] at this
            rw [List.take_add_one, hk]
            exact this
          have HBO : Hid (Bx W Bo (opC x r) ∧ Mk (w.heap.size + 2) W Ds) := ⟨hbo, hmk⟩
          clear hk hA hbo hmk hl1 hl2 hcnt hlen hq hqb HI4 HM4 HB4 hjm
          gi_wp2
          have hs := HSZ.out
          refine ⟨Abv.set _ _ _ (by show w.heap.size < _; omega), HN.out, HBO.out.1.far (by omega) _, HBO.out.2.nd, HBO.out.2.ge, fun D hD => (Below.heap_setCell _ _ _ _ (by have := HBO.out.2.ge D hD; show D ≠ w.heap.size; omega)).trans (HBO.out.2.blk D hD)⟩
        case done =>
          rintro D W hD ⟨h1, h2, h3⟩ hK
          have hs := HSZ.out
          rw [List.take_length, ← HL0.out] at h1
          have HEND : Hid (RaI w T T (F.usesL f (m + 1)) W ∧ Mk (w.heap.size + 2) W (D :: Ds)) := ⟨h1, h3.cons hK (by omega) (fun E hE => by have := hs.2.2 E hE; omega)⟩
          clear h1 h2 h3 hK HI4 HM4 HB4 hs
          gi_wp2
          exact ⟨n - (m + 1), by omega, m + 1, D :: Ds, _, _, _, _, _, _, _, _, _, _, _, _, _, _, _, _, _, _, _, _, _, _, _, _, _, _, _, _, _, _, _, _, _, _, _, _, _, _, _, _, _, _, _, _, _, _, _, _, _, _, _, _, _, _, _, _, _, _, _, _, _, _, rfl, by go_num, by omega, HEND.out.1, HEND.out.2⟩
      · obtain ⟨d, hd⟩ : ∃ d : Nat, F.wr x = d := ⟨(F.wr x).toNat, by omega⟩
        have HD : Hid (F.wr x = d) := hd
        rw [hd] at hwi hw1 ⊢
        have hdT : d < T := by omega
        have hdi : (d : Int) < T := by omega
        have e1 : ((d : Int) == -1) = false := by simp
        have hcnt : (F.usesL f m).count (d : Int) ≤ (F.usesL f m).length := List.count_le_length
        have hlen := HLEN.out m (by omega)
        obtain ⟨q, hq⟩ : ∃ q : Nat, (F.usesL f m).count (d : Int) = q := ⟨_, rfl⟩
        have c0 := HI2.out.rk.c0 d hdT
        rw [hq] at c0 hcnt
        have hqb : (q : Int) < 9000000000000000000 := by
          have : m * 17592186044419 ≤ 20000 * 17592186044419 := Nat.mul_le_mul_right _ (by omega)
          omega
        have hwr : IntKind.i64.wrap ((q : Int) + 1) = (q : Int) + 1 := by rw [IntKind.wrap_i64]; omega
        have c3 := HI2.out.bx.c 0 _ rfl
        have hf := HI2.out.rk.f (d * 2)
        obtain ⟨Y, hY⟩ : ∃ Y, y1.setCell ⟨w.heap.size, d * 2, none⟩ (.int .i64 ((q : Int) + 1)) = Y := ⟨_, rfl⟩
        have HI3 : Hid (RaI w T T (F.usesL f m ++ [(d : Int)]) Y) := by
          show RaI _ _ _ _ _
          rw [← hY]
          exact HI2.out.use hdT (by rw [hq])
        have HX3 : Hid (Bx Y b6 (opC x r)) := by
          show Bx _ _ _
          rw [← hY]
          exact HX2.out.far (by have := HB6.out; omega) _
        have HM3 : Hid (Mk (w.heap.size + 2) Y Ds) := by
          show Mk _ _ _
          rw [← hY]
          exact ⟨HM2.out.nd, HM2.out.ge, fun D hD => (Below.heap_setCell _ _ _ _ (by have := HM2.out.ge D hD; show D ≠ w.heap.size; omega)).trans (HM2.out.blk D hD)⟩
        clear hwi hw1 hcnt hlen hq hqb HI2 HM2 HX2
        obtain ⟨L0, hL0⟩ : ∃ L0, F.usesL f m ++ [(d : Int)] = L0 := ⟨_, rfl⟩
        have HL0 : Hid (F.usesL f (m + 1) = L0 ++ F.rd x) := by show _ = _; rw [F.usesL_succ, HXX.out, ← hL0]; rw [if_neg (by rw [HD.out]; omega), HD.out]
        rw [hL0] at HI3
        clear hL0
        have p0 := HX3.out.c 0 _ rfl
        have p1 := HX3.out.c 1 _ rfl
        have p2 := HX3.out.c 2 _ rfl
        have p3 := HX3.out.c 3 _ rfl
        have p4 := HX3.out.c 4 _ rfl
        have p5 := HX3.out.c 5 _ rfl
        have p6 := HX3.out.c 6 _ rfl
        have p7 := HX3.out.c 7 _ rfl
        have p8 := HX3.out.c 8 _ rfl
        gi_wp2
        try rw [hY]
        clear c0 c3 hf e1 hwr hY
        refine ⟨trivial, (callsIn_wide.2 (HRS.out Y)).mono ?_⟩
        rintro e y ⟨rfl, rfl⟩
        have HI4 : Hid (RaI w T T L0 (Y.alloc (.cells (opC x r).toArray 46))) := HI3.out.below (bl1 _ _)
        have HM4 : Hid (Mk (w.heap.size + 2) (Y.alloc (.cells (opC x r).toArray 46)) Ds) := HM3.out.below (bl1 _ _)
        have HB4 : Hid (Bx (Y.alloc (.cells (opC x r).toArray 46)) Y.heap.size (opC x r)) := Bx.new _ _ _
        have HSZ : Hid (Y.heap.size + 1 = (Y.alloc (.cells (opC x r).toArray 46)).heap.size ∧ w.heap.size + 1 < Y.heap.size ∧ ∀ D ∈ Ds, D < Y.heap.size) := ⟨by simp, HI3.out.bx.lt, HM3.out.lt⟩
        clear p0 p1 p2 p3 p4 p5 p6 p7 p8 HI3 HM3 HX3
        generalize (Y.alloc (.cells (opC x r).toArray 46)) = W5 at HI4 HM4 HB4 HSZ ⊢
        obtain ⟨Bo, hBo⟩ : ∃ Bo, Y.heap.size = Bo := ⟨_, rfl⟩
        rw [hBo] at HB4 HSZ ⊢
        clear hBo
        gi_wp2
        refine range_a1 (β := Int) (gf := 73) (lb := #[.pointer (some ⟨Bo, 0, none⟩)]) (HGO.out Bo) rfl (enters_of Tryd.func73 (by kernel_rfl) rfl)
          (fun j W => RaI w T T (L0 ++ (F.rd x).take j) W ∧ Bx W Bo (opC x r) ∧ Mk (w.heap.size + 2) W Ds) (fun _ => False) .ret ?a1x1 (fun _ => rfl) ?assign ?I (fun _ _ h _ => h.elim) (fun k A h => ⟨h.2.1.opAt, HNUM.out.below h.1.low, (HLF.out A h.1.low).env.shp⟩) ⟨by rw [List.take_zero, List.append_nil]; exact HI4.out, HB4.out, HM4.out⟩ ?body ?done (fun _ _ _ h _ => h.elim)
        case assign =>
          intro li o W K hK
          gi_wp2
          exact hK
        case I =>
          rintro j A B ⟨h1, h2, h3⟩ hB
          have hs := HSZ.out
          exact ⟨h1.bel hB (by omega), h2.bel hB (by omega), h3.bel (fun D hD => by have := hs.2.2 D hD; omega) hB⟩
        case body =>
          rintro lp j o W hk ⟨hA, hbo, hmk⟩ hl1 hl2 -
          have hjm := HRIN.out o (List.mem_of_getElem? hk)
          obtain ⟨on, rfl⟩ : ∃ on : Nat, o = (on : Int) := ⟨o.toNat, by omega⟩
          have HK : Hid ((F.rd x)[j]? = some (on : Int)) := hk
          have hon : on < T := by omega
          have hoi : (on : Int) < T := by omega
          have hcnt : (L0 ++ (F.rd x).take j).count (on : Int) ≤ (F.usesL f (m + 1)).length := by
            refine Nat.le_trans List.count_le_length ?_
            rw [HL0.out, List.length_append, List.length_append, List.length_take]
            omega
          have hlen := HLEN.out (m + 1) (by omega)
          obtain ⟨q, hq⟩ : ∃ q : Nat, (L0 ++ (F.rd x).take j).count (on : Int) = q := ⟨_, rfl⟩
          have c0 := hA.rk.c0 on hon
          rw [hq] at c0 hcnt
          have hqb : (q : Int) < 9000000000000000000 := by
            have : (m + 1) * 17592186044419 ≤ 20000 * 17592186044419 := Nat.mul_le_mul_right _ (by omega)
            omega
          have hwr : IntKind.i64.wrap ((q : Int) + 1) = (q : Int) + 1 := by rw [IntKind.wrap_i64]; omega
          have c3 := hA.bx.c 0 _ rfl
          have hf := hA.rk.f (on * 2)
          have HN : Hid (RaI w T T (L0 ++ (F.rd x).take (j + 1)) (W.setCell ⟨w.heap.size, on * 2, none⟩ (.int .i64 ((q : Int) + 1)))) := by
            have := hA.use hon (q := (q : Int) + 1) (by rw [hq])
            rw [List.append_assoc] at this
            rw [List.take_add_one, hk]
            exact this
          have HBO : Hid (Bx W Bo (opC x r) ∧ Mk (w.heap.size + 2) W Ds) := ⟨hbo, hmk⟩
          clear hk hA hbo hmk hl1 hl2 hcnt hlen hq hqb HI4 HM4 HB4 hjm
          gi_wp2
          have hs := HSZ.out
          refine ⟨Abv.set _ _ _ (by show w.heap.size < _; omega), HN.out, HBO.out.1.far (by omega) _, HBO.out.2.nd, HBO.out.2.ge, fun D hD => (Below.heap_setCell _ _ _ _ (by have := HBO.out.2.ge D hD; show D ≠ w.heap.size; omega)).trans (HBO.out.2.blk D hD)⟩
        case done =>
          rintro D W hD ⟨h1, h2, h3⟩ hK
          have hs := HSZ.out
          rw [List.take_length, ← HL0.out] at h1
          have HEND : Hid (RaI w T T (F.usesL f (m + 1)) W ∧ Mk (w.heap.size + 2) W (D :: Ds)) := ⟨h1, h3.cons hK (by omega) (fun E hE => by have := hs.2.2 E hE; omega)⟩
          clear h1 h2 h3 hK HI4 HM4 HB4 hs
          gi_wp2
          exact ⟨n - (m + 1), by omega, m + 1, D :: Ds, _, _, _, _, _, _, _, _, _, _, _, _, _, _, _, _, _, _, _, _, _, _, _, _, _, _, _, _, _, _, _, _, _, _, _, _, _, _, _, _, _, _, _, _, _, _, _, _, _, _, _, _, _, _, _, _, _, _, _, _, _, _, rfl, by go_num, by omega, HEND.out.1, HEND.out.2⟩
    · have hmm : n = m := by omega
      subst hmm
      have hmi : ¬ (n : Int) < n := by omega
      have c3 := HI.out.bx.c 0 _ rfl
      have HSO : Hid _ := sort_any (c := T) (l := F.rk0 (F.usesL f n) T) (n := T) (by simp [F.rk0]) hT4 HI.out.rk.done
      gi_wp2
      refine ⟨trivial, (callsIn_wide.2 HSO.out).mono ?_⟩
      rintro e y ⟨rfl, hrk, hb, hfar⟩
      have hby : Below w.heap.size w y := HI.out.low.trans hb
      have HBX : Hid (Bx y (w.heap.size + 1) [.slice (some ⟨w.heap.size, 0, none⟩) T T]) := HI.out.bx.move (hfar _ HI.out.bx.lt (by omega)) hb.size
      have HMY : Hid (Mk (w.heap.size + 2) y Ds) := ⟨HM.out.nd, HM.out.ge, fun D hD => (hfar D (HM.out.lt D hD) (by have := HM.out.ge D hD; omega)).trans (HM.out.blk D hD)⟩
      have HRK : Hid (RkV y w.heap.size (F.rks f)) := HRES.out _ _ HI.out.rk.done _ _ hrk
      have HBY : Hid (Below w.heap.size w y) := hby
      clear hby hrk hb hfar c3 HSO
      have c3 := HBX.out.c 0 _ rfl
      gi_wp2
      refine leave_marks Ds y HMY.out (fun W' hb hc => ?_)
      refine ⟨.slice (some ⟨w.heap.size, 0, none⟩) T T, ?_, w.heap.size, rfl, HRK.out.bel hb (by omega), Nat.le_refl _, HBY.out.trans (hb.mono (by omega))⟩
      simp [results, Tryd.results49, go_sem]
end Go.Proofs.YtljgpngbkmembaaDoor

/- The program's find: a place for each temp, those that are used most first. -/
namespace Go.Proofs.YtljgpngbkmembaaDoor
open Go.RowKit Go.Maps Go.Shelf
set_option linter.unusedVariables false
set_option linter.unusedSimpArgs false
theorem TW.num {W : World} {g T : Nat} {ws : List Int} (h : TW W g T ws) (hT : T ≤ 400) (hf : ∀ t : Nat, 0 ≤ F.wAt ws (t : Int) ∧ F.wAt ws (t : Int) ≤ 1000) : NumV W (some ⟨g, 0, none⟩) T T ws := by
  refine ⟨h.len, fun z hz => ?_, fun e => (by cases e), ⟨Nat.le_refl _, by unfold maxLen; omega⟩, .inr ⟨g, 0, rfl, fun i hi => ?_⟩⟩
  · obtain ⟨i, hi, e⟩ := List.mem_iff_getElem.1 hz
    have := hf i
    unfold F.wAt at this
    rw [Int.toNat_natCast] at this
    have e2 : ws.getD i 0 = z := by simp [List.getD, hi, e]
    rw [e2] at this
    show (decide (IntKind.i64.min ≤ z) && decide (z ≤ IntKind.i64.max)) = true
    rw [show IntKind.i64.min = -9223372036854775808 from rfl, show IntKind.i64.max = 9223372036854775807 from rfl, Bool.and_eq_true, decide_eq_true_eq, decide_eq_true_eq]
    omega
  · rw [Nat.zero_add]
    have := h.c i hi
    unfold F.wAt at this
    rw [Int.toNat_natCast] at this
    exact this
/-- What lies while places are found. -/
structure FdI (w0 w : World) (N b bf ga gu gw : Nat) (f : F.Fn) (a : Option Addr) (n c : Nat) (U u : Nat → Nat → Nat) (kk : Nat → Nat) (b3 g : Nat) (ws : List Int) (W : World) : Prop where
  fn : FnV w0 N b bf ga gu gw f a n c U u ws W
  x2 : Bx W w.heap.size [.slice none 0 0, .int .i64 0]
  x3 : Bx W b3 (setCs kk).toList
  rk : RkV W g (F.rks f)
  num : N ≤ w.heap.size ∧ w.heap.size < b3 ∧ b3 < g
variable {w0 w W y : World} {N b bf ga gu gw : Nat} {f : F.Fn} {a : Option Addr} {n c : Nat} {U u : Nat → Nat → Nat} {kk : Nat → Nat} {b3 g : Nat} {ws : List Int}
theorem FdI.below (h : FdI w0 w N b bf ga gu gw f a n c U u kk b3 g ws W) (hb : Below W.heap.size W y) (ho : OpsV w0 a n c f.code) (he : Env w0) : FdI w0 w N b bf ga gu gw f a n c U u kk b3 g ws y :=
  ⟨h.fn.below hb ho he, h.x2.below hb, h.x3.below hb, h.rk.below hb, h.num⟩
theorem FdI.put (h : FdI w0 w N b bf ga gu gw f a n c U u kk b3 g ws W) {t : Nat} (ht : t < f.temps.toNat) (p : Int) (ho : OpsV w0 a n c f.code) (he : Env w0) : FdI w0 w N b bf ga gu gw f a n c U u kk b3 g (ws.set t p) (W.setCell ⟨gw, t, none⟩ (.int .i64 p)) := by
  obtain ⟨n1, n2, n3⟩ := h.num
  have hg := h.fn.top
  have far : ∀ q, q ≠ gw → (W.setCell ⟨gw, t, none⟩ (.int .i64 p)).heap[q]? = W.heap[q]? := fun q hq => Below.heap_setCell _ _ _ _ hq
  have hs : W.heap.size ≤ (W.setCell ⟨gw, t, none⟩ (.int .i64 p)).heap.size := by rw [World.size_setCell]; exact Nat.le_refl _
  have hr : RkV (W.setCell ⟨gw, t, none⟩ (.int .i64 p)) g (F.rks f) := by
    have e := far g (by omega)
    exact ⟨fun i hi => (World.cell?_of_block (w := W) (a := ⟨g, i * 2, none⟩) e).trans (h.rk.c0 i hi), fun i hi => (World.cell?_of_block (w := W) (a := ⟨g, i * 2 + 1, none⟩) e).trans (h.rk.c1 i hi), fun o => (World.frozen?_of_block (w := W) (a := ⟨g, o, none⟩) e).trans (h.rk.f o), Nat.lt_of_lt_of_le h.rk.lt hs⟩
  exact ⟨h.fn.put ht p ho he, h.x2.move (far _ (by omega)) hs, h.x3.move (far _ (by omega)) hs, hr, h.num⟩
def FdOut (w0 : World) (T : Nat) (ws : List Int) (slots : Int) (e : Ending) (W : World) : Prop := ∃ g, e = .returned (.agg #[.slice (some ⟨g, 0, none⟩) T T, .int .i64 slots]) ∧ NumV W (some ⟨g, 0, none⟩) T T ws ∧ w0.heap.size ≤ g ∧ Below w0.heap.size w0 W
theorem rks_temp {f : F.Fn} {k : Nat} (hk : k < (F.rks f).length) : ∃ t : Nat, t < f.temps.toNat ∧ ((F.rks f).getD k default).temp = (t : Int) ∧ (F.ord f)[k]? = some t := by
  have hm : (F.rks f)[k] ∈ F.rk0 (F.usesL f f.code.length) f.temps.toNat := (List.mergeSort_perm _ _).mem_iff.1 (List.getElem_mem hk)
  unfold F.rk0 at hm
  obtain ⟨t, ht, e⟩ := List.mem_map.1 hm
  refine ⟨t, List.mem_range.1 ht, ?_, ?_⟩
  · simp [List.getD, hk, ← e]
  · unfold F.ord
    simp [hk, ← e]
set_option maxRecDepth 100000 in
set_option maxHeartbeats 16000000 in
theorem find_any (h : FnV w0 N b bf ga gu gw f a n c U (F.unS (F.doneP f U n)) (List.replicate f.temps.toNat 0) w) (hu : LfU f n U) (ho : OpsV w0 a n c f.code) (he : Env w0) (hsz : ∀ x ∈ f.code, x.args.length ≤ 17592186044416) {T : Nat} (hT : f.temps = T) :
    Calls Tryd.prog 31 #[.pointer (some ⟨bf, 0, none⟩)] w (FdOut w0 T (F.alc f U n).1 (F.alc f U n).2) := by
  have hh := F.may_head hu.may
  have hT4 : T ≤ 400 := by omega
  have hTn : f.temps.toNat = T := by rw [hT]; exact Int.toNat_natCast T
  have HT : Hid (f.temps.toNat = T) := hTn
  have HOE : Hid (OpsV w0 a n c f.code ∧ Env w0) := ⟨ho, he⟩
  obtain ⟨u, huu⟩ : ∃ u, F.unS (F.doneP f U n) = u := ⟨_, rfl⟩
  obtain ⟨kk, hkk⟩ : ∃ kk, F.keptS f U n = kk := ⟨_, rfl⟩
  have HK7 : Hid (F.Set7 kk) := by show F.Set7 kk; rw [← hkk]; exact F.keptS_s7 hu.may hu.cnt hu.s7 n (Nat.le_refl _)
  have HU7 : Hid (∀ t, F.Set7 (u t)) := by show ∀ t, _; rw [← huu]; exact F.unS_s7 _
  have HUE : Hid (∀ t, ∀ o ∈ F.els (u t), 0 ≤ o ∧ o < T) := fun t o hot => by
    obtain ⟨k, rfl, hk4, hm⟩ := F.mem_els.1 hot
    rw [← huu, F.mem_unS] at hm
    obtain ⟨p, hp, hp2⟩ := hm
    have := F.pair_in hu hp
    omega
  have hord : (F.ord f).length = T := by rw [(F.ord_perm f).length_eq, List.length_range, hTn]
  have hsym : ∀ t o : Nat, F.mem (u t) o = true → F.mem (u o) t = true := fun t o h => by
    rw [← huu, F.mem_unS] at h ⊢
    obtain ⟨p, hp, h⟩ := h
    exact ⟨p, hp, h.elim (fun h => .inr ⟨h.2, h.1⟩) (fun h => .inl ⟨h.2, h.1⟩)⟩
  have HPI : Hid (∀ k, k ≤ T → F.PI (F.els kk) u T ((F.ord f).take k) (F.findF (F.els kk) u T ((F.ord f).take k))) := fun k hk => by
    refine F.PI.all (T := T) hsym (by omega) (fun t ht => ?_) (by omega) ((F.ord_perm f).nodup_iff.2 List.nodup_range) k (by omega)
    have := (F.ord_perm f).mem_iff.1 ht
    rw [List.mem_range, hTn] at this
    exact this
  have HALC : Hid (F.alc f U n = F.findF (F.els kk) u T ((F.ord f).take T)) := by
    show F.alc f U n = _
    unfold F.alc
    rw [hkk, huu, hTn, ← hord, List.take_length]
  have HRL : Hid ((F.rks f).length = T) := by
    show _ = _
    have : (F.ord f).length = (F.rks f).length := by unfold F.ord; exact List.length_map _
    omega
  have HKC : Hid (∀ W, Below w.heap.size w W → Calls Tryd.prog 48 #[.pointer (some ⟨b, 0, none⟩)] W fun e w' => e = .returned (.agg (setCs kk)) ∧ Below W.heap.size W w') := fun W hW => by rw [← hkk]; exact kept_any (h.below hW ho he).lf hu
  have HRC : Hid (∀ W, Below w.heap.size w W → Calls Tryd.prog 49 #[.pointer (some ⟨bf, 0, none⟩)] W fun e w' => ∃ g, e = .returned (.slice (some ⟨g, 0, none⟩) T T) ∧ RkV w' g (F.rks f) ∧ W.heap.size ≤ g ∧ Below W.heap.size W w') := fun W hW => ranked_any (h.below hW ho he) ho he hu.may hsz hT
  rw [huu, hTn] at h
  rw [HALC.out]
  have h0 := h.bx.c 0 _ rfl
  have HFN : Hid (FnV w0 N b bf ga gu gw f a n c U u (List.replicate T 0) w) := h
  clear h hu ho he hsz huu hkk hord hsym hh
  obtain ⟨W0, hW0⟩ : ∃ W0, w.alloc (.cells #[.slice none 0 0, .int .i64 0] 38) = W0 := ⟨_, rfl⟩
  have HB0 : Hid (Below w.heap.size w W0 ∧ Bx W0 w.heap.size [.slice none 0 0, .int .i64 0]) := by
    show _ ∧ _
    rw [← hW0]
    exact ⟨bl1 _ _, Bx.new w #[.slice none 0 0, .int .i64 0] _⟩
  have c0 : W0.cell? ⟨bf, 0, none⟩ = some (.pointer (some ⟨b, 0, none⟩)) := cell_thru HB0.out.1 h0
  clear h0
  unfold setCs at HKC
  go_enter Tryd.func31, Tryd.ntmps31
  go_wp2_with fail
  refine (HKC.out W0 HB0.out.1).mono ?_
  rintro e y1 ⟨rfl, hb1⟩
  clear hW0 c0
  obtain ⟨b3, hb3⟩ : ∃ b3, y1.heap.size = b3 := ⟨_, rfl⟩
  obtain ⟨W2, hW2⟩ : ∃ W2, y1.alloc (.cells #[.int .u64 (kk 0 : Int), .int .u64 (kk 1 : Int), .int .u64 (kk 2 : Int), .int .u64 (kk 3 : Int), .int .u64 (kk 4 : Int), .int .u64 (kk 5 : Int), .int .u64 (kk 6 : Int)] 54) = W2 := ⟨_, rfl⟩
  have HB2 : Hid (Below w.heap.size w W2 ∧ Bx W2 w.heap.size [.slice none 0 0, .int .i64 0] ∧ Bx W2 b3 (setCs kk).toList ∧ w.heap.size < b3 ∧ W2.heap.size = b3 + 1) := by
    show _ ∧ _
    have h1 := HB0.out.1.trans (hb1.mono HB0.out.1.size)
    have h2 := HB0.out.2.below hb1
    rw [← hW2, ← hb3]
    exact ⟨h1.alloc h1.size _, h2.below (bl1 _ _), Bx.new y1 (setCs kk) _, h2.lt, by simp⟩
  clear hb1 HKC
  go_wp2_with fail
  try rw [hW2]
  try rw [hb3]
  clear hW2 hb3
  refine (HRC.out W2 HB2.out.1).mono ?_
  rintro e y2 ⟨g, rfl, hrk, hg, hb2⟩
  have HI0 : Hid (FdI w0 w N b bf ga gu gw f a n c U u kk b3 g (F.findF (F.els kk) u T ((F.ord f).take 0)).1 y2) := by
    have h1 := HB2.out.1.trans (hb2.mono HB2.out.1.size)
    have h3 := HB2.out.2.2.2
    refine ⟨HFN.out.below h1 HOE.out.1 HOE.out.2, HB2.out.2.1.below hb2, HB2.out.2.2.1.below hb2, hrk, HFN.out.top.2.2.2.2.2.2, h3.1, by omega⟩
  clear hrk hg hb2 HRC
  go_wp2_with fail
  clear HFN HB0 HB2
  go_loopg [4, 6, 7, 8, 17] T (fun r v4 v6 v7 v8 iv wq => ∃ (k : Nat), r = T - k ∧ v4 = .int .i64 (F.findF (F.els kk) u T ((F.ord f).take k)).2 ∧ iv = .int .i64 k ∧ k ≤ T ∧ Hid (FdI w0 w N b bf ga gu gw f a n c U u kk b3 g (F.findF (F.els kk) u T ((F.ord f).take k)).1 wq))
  case atStart => exact ⟨0, rfl, rfl, rfl, Nat.zero_le _, HI0⟩
  case round =>
    obtain ⟨k, rfl, rfl, rfl, hk, HI⟩ := hrel
    clear HI0
    by_cases hkT : k < T
    · have hki : (k : Int) < T := by omega
      have hk0 : 0 ≤ (k : Int) := by omega
      obtain ⟨t, ht, htt, hordk⟩ := rks_temp (f := f) (k := k) (by rw [HRL.out]; exact hkT)
      rw [HT.out] at ht
      have htT : t < T := ht
      have hti : (t : Int) < T := by omega
      have c0 := HI.out.rk.c0 k (by rw [HRL.out]; exact hkT)
      have c1 := HI.out.rk.c1 k (by rw [HRL.out]; exact hkT)
      rw [htt] at c1
      obtain ⟨us, hus⟩ : ∃ us, ((F.rks f).getD k default).uses = us := ⟨_, rfl⟩
      rw [hus] at c0
      have hpi := HPI.out k hk
      obtain ⟨kb, hkb⟩ : ∃ kb, F.mem kk t = kb := ⟨_, rfl⟩
      have hdec : decide ((t : Int) ∈ F.els kk) = kb := by
        rw [← hkb, Bool.eq_iff_iff, decide_eq_true_eq, F.mem_els]
        constructor
        · rintro ⟨q, hq, _, hm⟩
          rwa [show t = q by omega]
        · intro hm
          exact ⟨t, rfl, by omega, hm⟩
      have hnx := F.findF_take (F.els kk) u T hordk
      have hlen : ((F.ord f).take k).length ≤ k := by rw [List.length_take]; omega
      obtain ⟨st, hst⟩ : ∃ st, F.findF (F.els kk) u T ((F.ord f).take k) = st := ⟨_, rfl⟩
      rw [hst] at hpi hnx HI ⊢
      obtain ⟨ws, S⟩ := st
      unfold F.step1 at hnx
      rw [hdec] at hnx
      simp only at hpi hnx HI ⊢
      have HNX : Hid (F.findF (F.els kk) u T ((F.ord f).take (k + 1)) = (ws.set t (F.freeF ws (F.els (u t)) kb), max S (F.freeF ws (F.els (u t)) kb - 7))) := hnx
      have hS0 : 0 ≤ S := hpi.s0
      have hS4 : S ≤ 400 := by have := hpi.sk; simp only at this; omega
      have HLOW : Hid (∀ o, F.wAt ws o < 8 + S) := hpi.low
      obtain ⟨W3, hW3⟩ : ∃ W3, wr.alloc (.cells #[.int .i64 us, .int .i64 t] 91) = W3 := ⟨_, rfl⟩
      obtain ⟨b6, hb6⟩ : ∃ b6, wr.heap.size = b6 := ⟨_, rfl⟩
      have HI1 : Hid (FdI w0 w N b bf ga gu gw f a n c U u kk b3 g ws W3) := by show FdI _ _ _ _ _ _ _ _ _ _ _ _ _ _ _ _ _ _ _; rw [← hW3]; exact HI.out.below (bl1 _ _) HOE.out.1 HOE.out.2
      have HX6 : Hid (Bx W3 b6 [.int .i64 us, .int .i64 t]) := by show Bx _ _ _; rw [← hW3, ← hb6]; exact Bx.new wr #[.int .i64 us, .int .i64 t] _
      have HB6 : Hid (gw < b6) := by show gw < b6; rw [← hb6]; exact HI.out.fn.tw.lt
      have HHAS : Hid (Calls Tryd.prog 50 #[.pointer (some ⟨b3, 0, none⟩), .int .i64 (t : Int)] W3 fun e w' => e = .returned (.bool kb) ∧ w' = W3) := by
        show Calls _ _ _ _ _
        rw [← hkb]
        exact has_any b3 0 t (kk (t / 64)) (by omega) (HK7.out _ (by omega)) W3 (HI1.out.x3.set _ (by omega))
      have HFR : Hid (∀ p0, p0 = F.plc kb 0 → Calls Tryd.prog 51 #[.pointer (some ⟨bf, 0, none⟩), .int .i64 t, .int .i64 p0] W3 fun e w' => e = .returned (.int .i64 (F.freeF ws (F.els (u t)) kb)) ∧ Below W3.heap.size W3 w') := fun p0 hp0 => free_any HI1.out.fn HOE.out.1 HOE.out.2 HT.out hT4 htT (HU7.out t) (HUE.out t) kb hS0 hS4 HLOW.out hp0
      have p1 := HX6.out.c 1 _ rfl
      clear hpi hnx hlen hst hdec hkb hordk htt ht hus HI
      go_wp2_with fail
      try rw [hW3]
      try rw [hb6]
      clear hW3 hb6 c0 c1
      refine HHAS.out.mono ?_
      rintro e y ⟨rfl, rfl⟩
      clear HHAS
      cases kb with
      | true =>
        have HFR := HFR.out 8 (by rw [F.plc_zero]; rfl)
        have HFR : Hid _ := HFR
        go_wp2_with fail
        refine Calls.mono HFR.out ?_
        rintro e z ⟨rfl, hb⟩
        have HI2 : Hid (FdI w0 w N b bf ga gu gw f a n c U u kk b3 g ws z) := HI1.out.below hb HOE.out.1 HOE.out.2
        have HX2 : Hid (Bx z b6 [.int .i64 us, .int .i64 t]) := HX6.out.below hb
        have HSP : Hid _ := F.free_spec (us := F.els (u t)) true hS0 hS4 HLOW.out
        obtain ⟨p, hp⟩ : ∃ p, F.freeF ws (F.els (u t)) true = p := ⟨_, rfl⟩
        rw [hp] at HSP HNX ⊢
        clear hb hp HFR p1 HX6 HI1
        have HSS : Hid (z.drew.cell? ⟨bf, 2, none⟩ = some (.slice (some ⟨gw, 0, none⟩) T T) ∧ z.drew.cell? ⟨b6, 1, none⟩ = some (.int .i64 t)) := by
          have h1 := HI2.out.fn.bx.c 2 _ rfl
          rw [HT.out] at h1
          exact ⟨h1, HX2.out.c 1 _ rfl⟩
        have HN : Hid (FdI w0 w N b bf ga gu gw f a n c U u kk b3 g (ws.set t p) (z.drew.setCell ⟨gw, t, none⟩ (.int .i64 p)) ∧ Bx (z.drew.setCell ⟨gw, t, none⟩ (.int .i64 p)) b6 [.int .i64 us, .int .i64 t]) := by
          have h1 := (HI2.out.below (Below.refl _ _).drew HOE.out.1 HOE.out.2).put (t := t) (by rw [HT.out]; exact htT) p HOE.out.1 HOE.out.2
          have h2 := HI2.out.num
          have h3 := HI2.out.fn.top
          refine ⟨h1, HX2.out.drew.far (by have := HB6.out; omega) _⟩
        have g1 : z.drew.cell? ⟨gw, t, none⟩ = some (.int .i64 (F.wAt ws (t : Int))) := HI2.out.fn.tw.c t (by rw [HT.out]; exact htT)
        have f1 := HI2.out.fn.tw.f t
        go_wp2_with fail
        refine wp_region_held_drew (S := (fun w' : World => w'.cell? ⟨bf, 2, none⟩ = some (.slice (some ⟨gw, 0, none⟩) T T) ∧ w'.cell? ⟨b6, 1, none⟩ = some (.int .i64 t))) (by kernel_rfl) HSS.out (fun hHeld => ?_)
        refine tkr (i := 0) (v := ?_) (tA rfl) (by kernel_rfl) (fun _ _ _ h => h) (Or.inl ⟨by rfl, ?_⟩) (by assumption) ?_
        rotate_left
        · (intro w hSw; (try dsimp only at hSw); go_simp <;> with_reducible rfl)
        simp only [Act.put, List.setIfInBounds_toArray, List.set_cons_zero, List.set_cons_succ]
        refine tkr (i := 1) (v := ?_) (tA rfl) (by kernel_rfl) (fun _ _ _ h => h) (Or.inl ⟨by rfl, ?_⟩) (by assumption) ?_
        rotate_left
        · (intro w hSw; (try dsimp only at hSw); go_simp <;> with_reducible rfl)
        simp only [Act.put, List.setIfInBounds_toArray, List.set_cons_zero, List.set_cons_succ]
        refine tkr (i := 2) (v := ?_) (tA rfl) (by kernel_rfl) (fun _ _ _ h => h) (Or.inl ⟨by rfl, ?_⟩) (by assumption) ?_
        rotate_left
        · (intro w hSw; (try dsimp only at hSw); go_simp <;> with_reducible rfl)
        simp only [Act.put, List.setIfInBounds_toArray, List.set_cons_zero, List.set_cons_succ]
        refine tkr (i := 3) (v := ?_) (tA rfl) (by kernel_rfl) (fun _ _ _ h => h) (Or.inl ⟨by rfl, ?_⟩) (by assumption) ?_
        rotate_left
        · (intro w hSw; (try dsimp only at hSw); go_simp <;> with_reducible rfl)
        simp only [Act.put, List.setIfInBounds_toArray, List.set_cons_zero, List.set_cons_succ]
        refine tkr (i := 4) (v := ?_) (tA rfl) (by kernel_rfl) (fun _ _ _ h => h) (Or.inl ⟨by rfl, ?_⟩) (by assumption) ?_
        rotate_left
        · (intro w hSw; (try dsimp only at hSw); go_simp <;> with_reducible rfl)
        simp only [Act.put, List.setIfInBounds_toArray, List.set_cons_zero, List.set_cons_succ]
        refine tkr (i := 5) (v := ?_) (tA rfl) (by kernel_rfl) (fun _ _ _ h => h) (Or.inl ⟨by rfl, ?_⟩) (by assumption) ?_
        rotate_left
        · (intro w hSw; (try dsimp only at hSw); go_simp <;> with_reducible rfl)
        simp only [Act.put, List.setIfInBounds_toArray, List.set_cons_zero, List.set_cons_succ]
        refine tkr (i := 6) (v := ?_) (tA rfl) (by kernel_rfl) (fun _ _ _ h => h) (Or.inl ⟨by rfl, ?_⟩) (by assumption) ?_
        rotate_left
        · (intro w hSw; (try dsimp only at hSw); go_simp <;> with_reducible rfl)
        simp only [Act.put, List.setIfInBounds_toArray, List.set_cons_zero, List.set_cons_succ]
        refine tkr (i := 7) (v := ?_) (tA rfl) (by kernel_rfl) (fun _ _ _ h => h) (Or.inl ⟨by rfl, ?_⟩) (by assumption) ?_
        rotate_left
        · (intro w hSw; (try dsimp only at hSw); go_simp <;> with_reducible rfl)
        simp only [Act.put, List.setIfInBounds_toArray, List.set_cons_zero, List.set_cons_succ]
        refine wpAnyH_ready (rs := [8]) (by kernel_rfl) (by simp) ?_
        refine AllReadyH.cons (tA rfl) (fun K hK => ?_) AllReadyH.nil
        clear hHeld
        go_simp
        refine hK.out _ _ ?hstrue (fun hHeld => ?_)
        case hstrue =>
          have h1 := HN.out.1.fn.bx.c 2 _ rfl
          rw [HT.out] at h1
          exact ⟨h1, HN.out.2.c 1 _ rfl⟩
        clear hK K
        try simp only [Act.put, List.setIfInBounds_toArray, List.set_cons_zero, List.set_cons_succ]
        refine wpAnyH_done (by kernel_rfl) ?_ _
        clear hHeld HSS g1 f1
        have hsp := HSP.out
        have hw1 : IntKind.i64.wrap (p - 8) = p - 8 := by rw [IntKind.wrap_i64]; omega
        have hw2 : IntKind.i64.wrap (p - 8 + 1) = p - 8 + 1 := by rw [IntKind.wrap_i64]; omega
        clear hsp
        go_wp2_with fail
        go_roundg (T - (k + 1))
        case measure => omega
        case rel =>
          refine ⟨k + 1, rfl, ?_, by go_num, by omega, ?_⟩
          · rw [HNX.out]
            simp only [Value.int.injEq, true_and]
            omega
          · rw [HNX.out]
            exact HN.out.1
      | false =>
        have HFR := HFR.out 1 (by rw [F.plc_zero]; rfl)
        have HFR : Hid _ := HFR
        go_wp2_with fail
        refine Calls.mono HFR.out ?_
        rintro e z ⟨rfl, hb⟩
        have HI2 : Hid (FdI w0 w N b bf ga gu gw f a n c U u kk b3 g ws z) := HI1.out.below hb HOE.out.1 HOE.out.2
        have HX2 : Hid (Bx z b6 [.int .i64 us, .int .i64 t]) := HX6.out.below hb
        have HSP : Hid _ := F.free_spec (us := F.els (u t)) false hS0 hS4 HLOW.out
        obtain ⟨p, hp⟩ : ∃ p, F.freeF ws (F.els (u t)) false = p := ⟨_, rfl⟩
        rw [hp] at HSP HNX ⊢
        clear hb hp HFR p1 HX6 HI1
        have HSS : Hid (z.drew.cell? ⟨bf, 2, none⟩ = some (.slice (some ⟨gw, 0, none⟩) T T) ∧ z.drew.cell? ⟨b6, 1, none⟩ = some (.int .i64 t)) := by
          have h1 := HI2.out.fn.bx.c 2 _ rfl
          rw [HT.out] at h1
          exact ⟨h1, HX2.out.c 1 _ rfl⟩
        have HN : Hid (FdI w0 w N b bf ga gu gw f a n c U u kk b3 g (ws.set t p) (z.drew.setCell ⟨gw, t, none⟩ (.int .i64 p)) ∧ Bx (z.drew.setCell ⟨gw, t, none⟩ (.int .i64 p)) b6 [.int .i64 us, .int .i64 t]) := by
          have h1 := (HI2.out.below (Below.refl _ _).drew HOE.out.1 HOE.out.2).put (t := t) (by rw [HT.out]; exact htT) p HOE.out.1 HOE.out.2
          have h2 := HI2.out.num
          have h3 := HI2.out.fn.top
          refine ⟨h1, HX2.out.drew.far (by have := HB6.out; omega) _⟩
        have g1 : z.drew.cell? ⟨gw, t, none⟩ = some (.int .i64 (F.wAt ws (t : Int))) := HI2.out.fn.tw.c t (by rw [HT.out]; exact htT)
        have f1 := HI2.out.fn.tw.f t
        go_wp2_with fail
        refine wp_region_held_drew (S := (fun w' : World => w'.cell? ⟨bf, 2, none⟩ = some (.slice (some ⟨gw, 0, none⟩) T T) ∧ w'.cell? ⟨b6, 1, none⟩ = some (.int .i64 t))) (by kernel_rfl) HSS.out (fun hHeld => ?_)
        refine tkr (i := 0) (v := ?_) (tA rfl) (by kernel_rfl) (fun _ _ _ h => h) (Or.inl ⟨by rfl, ?_⟩) (by assumption) ?_
        rotate_left
        · (intro w hSw; (try dsimp only at hSw); go_simp <;> with_reducible rfl)
        simp only [Act.put, List.setIfInBounds_toArray, List.set_cons_zero, List.set_cons_succ]
        refine tkr (i := 1) (v := ?_) (tA rfl) (by kernel_rfl) (fun _ _ _ h => h) (Or.inl ⟨by rfl, ?_⟩) (by assumption) ?_
        rotate_left
        · (intro w hSw; (try dsimp only at hSw); go_simp <;> with_reducible rfl)
        simp only [Act.put, List.setIfInBounds_toArray, List.set_cons_zero, List.set_cons_succ]
        refine tkr (i := 2) (v := ?_) (tA rfl) (by kernel_rfl) (fun _ _ _ h => h) (Or.inl ⟨by rfl, ?_⟩) (by assumption) ?_
        rotate_left
        · (intro w hSw; (try dsimp only at hSw); go_simp <;> with_reducible rfl)
        simp only [Act.put, List.setIfInBounds_toArray, List.set_cons_zero, List.set_cons_succ]
        refine tkr (i := 3) (v := ?_) (tA rfl) (by kernel_rfl) (fun _ _ _ h => h) (Or.inl ⟨by rfl, ?_⟩) (by assumption) ?_
        rotate_left
        · (intro w hSw; (try dsimp only at hSw); go_simp <;> with_reducible rfl)
        simp only [Act.put, List.setIfInBounds_toArray, List.set_cons_zero, List.set_cons_succ]
        refine tkr (i := 4) (v := ?_) (tA rfl) (by kernel_rfl) (fun _ _ _ h => h) (Or.inl ⟨by rfl, ?_⟩) (by assumption) ?_
        rotate_left
        · (intro w hSw; (try dsimp only at hSw); go_simp <;> with_reducible rfl)
        simp only [Act.put, List.setIfInBounds_toArray, List.set_cons_zero, List.set_cons_succ]
        refine tkr (i := 5) (v := ?_) (tA rfl) (by kernel_rfl) (fun _ _ _ h => h) (Or.inl ⟨by rfl, ?_⟩) (by assumption) ?_
        rotate_left
        · (intro w hSw; (try dsimp only at hSw); go_simp <;> with_reducible rfl)
        simp only [Act.put, List.setIfInBounds_toArray, List.set_cons_zero, List.set_cons_succ]
        refine tkr (i := 6) (v := ?_) (tA rfl) (by kernel_rfl) (fun _ _ _ h => h) (Or.inl ⟨by rfl, ?_⟩) (by assumption) ?_
        rotate_left
        · (intro w hSw; (try dsimp only at hSw); go_simp <;> with_reducible rfl)
        simp only [Act.put, List.setIfInBounds_toArray, List.set_cons_zero, List.set_cons_succ]
        refine tkr (i := 7) (v := ?_) (tA rfl) (by kernel_rfl) (fun _ _ _ h => h) (Or.inl ⟨by rfl, ?_⟩) (by assumption) ?_
        rotate_left
        · (intro w hSw; (try dsimp only at hSw); go_simp <;> with_reducible rfl)
        simp only [Act.put, List.setIfInBounds_toArray, List.set_cons_zero, List.set_cons_succ]
        refine wpAnyH_ready (rs := [8]) (by kernel_rfl) (by simp) ?_
        refine AllReadyH.cons (tA rfl) (fun K hK => ?_) AllReadyH.nil
        clear hHeld
        go_simp
        refine hK.out _ _ ?hsfalse (fun hHeld => ?_)
        case hsfalse =>
          have h1 := HN.out.1.fn.bx.c 2 _ rfl
          rw [HT.out] at h1
          exact ⟨h1, HN.out.2.c 1 _ rfl⟩
        clear hK K
        try simp only [Act.put, List.setIfInBounds_toArray, List.set_cons_zero, List.set_cons_succ]
        refine wpAnyH_done (by kernel_rfl) ?_ _
        clear hHeld HSS g1 f1
        have hsp := HSP.out
        have hw1 : IntKind.i64.wrap (p - 8) = p - 8 := by rw [IntKind.wrap_i64]; omega
        have hw2 : IntKind.i64.wrap (p - 8 + 1) = p - 8 + 1 := by rw [IntKind.wrap_i64]; omega
        clear hsp
        go_wp2_with fail
        go_roundg (T - (k + 1))
        case measure => omega
        case rel =>
          refine ⟨k + 1, rfl, ?_, by go_num, by omega, ?_⟩
          · rw [HNX.out]
            simp only [Value.int.injEq, true_and]
            omega
          · rw [HNX.out]
            exact HN.out.1
    · have hkk2 : T = k := by omega
      subst hkk2
      have hki : ¬ (T : Int) < T := by omega
      have hpi := HPI.out T (Nat.le_refl _)
      obtain ⟨st, hst⟩ : ∃ st, F.findF (F.els kk) u T ((F.ord f).take T) = st := ⟨_, rfl⟩
      have HST : Hid (F.findF (F.els kk) u T ((F.ord f).take T) = st) := hst
      rw [hst] at hpi HI ⊢
      obtain ⟨ws, S⟩ := st
      simp only at hpi HI ⊢
      have HFIT : Hid (∀ t : Nat, 0 ≤ F.wAt ws (t : Int) ∧ F.wAt ws (t : Int) ≤ 1000) := fun t => by
        have hlen : ((F.ord f).take T).length ≤ T := by rw [List.length_take]; omega
        have hsk := hpi.sk
        simp only at hsk
        by_cases hd : t ∈ (F.ord f).take T
        · have := hpi.ok t hd
          simp only at this
          omega
        · have := hpi.none t hd
          simp only at this
          omega
      clear hpi hst
      have c2 := HI.out.fn.bx.c 2 _ rfl
      rw [HT.out] at c2
      have g0 := HI.out.x2.c 0 _ rfl
      have g1 := HI.out.x2.c 1 _ rfl
      have f0 := HI.out.x2.f 0
      have f1 := HI.out.x2.f 1
      have HTW : Hid (TW wr gw T ws) := by show TW _ _ _ _; have := HI.out.fn.tw; rwa [HT.out] at this
      obtain ⟨WE, hWE⟩ : ∃ WE, (wr.setCell ⟨w.heap.size, 0, none⟩ (.slice (some ⟨gw, 0, none⟩) T T)).setCell ⟨w.heap.size, 1, none⟩ (.int .i64 S) = WE := ⟨_, rfl⟩
      have HX2 : Hid (Bx WE w.heap.size [.slice (some ⟨gw, 0, none⟩) T T, .int .i64 S]) := by
        show Bx _ _ _
        rw [← hWE]
        exact (HI.out.x2.put 0 (by simp) (.slice (some ⟨gw, 0, none⟩) T T)).put 1 (by simp) (.int .i64 S)
      have HND : Hid (FdOut w0 T ws S (.returned (.agg #[.slice (some ⟨gw, 0, none⟩) T T, .int .i64 S])) WE) := by
        have h1 := HI.out.fn.top
        have h2 := HI.out.num
        have h3 := HI.out.fn.ne
        have hb : Below w.heap.size wr WE := by rw [← hWE]; exact ((Below.refl _ _).setCell (p := ⟨w.heap.size, 0, none⟩) (Nat.le_refl _) _).setCell (p := ⟨w.heap.size, 1, none⟩) (Nat.le_refl _) _
        exact ⟨gw, rfl, (HTW.out.move (hb.block _ (by omega)) hb.size).num hT4 HFIT.out, h3.2.2.2, HI.out.fn.low.trans (hb.mono (by omega))⟩
      go_wp2_with fail
      try rw [hWE]
      clear hWE g0 g1 f0 f1 c2
      have g0 := HX2.out.c 0 _ rfl
      have g1 := HX2.out.c 1 _ rfl
      refine bodyPost_ret (v := .agg #[.slice (some ⟨gw, 0, none⟩) T T, .int .i64 S]) ?_ rfl ?_
      · simp [results, Tryd.results31, go_sem, g0, g1]
      · rw [HST.out]; exact HND.out
end Go.Proofs.YtljgpngbkmembaaDoor
