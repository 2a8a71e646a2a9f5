/- Objects: what may be, no program in sight; and how an object lies. -/
import Derived.Test.YtmplnkfjaeegdaaDoorProg
import Derived.WalkKit
import Derived.WalkSpells
import Derived.WalkLawsBesides
import Derived.Maps.OwnSet
import Derived.Maps.Keyed
import Derived.OpenShut
import Derived.Deep.LoopGhost
import Derived.Deep.RegionHeld3
import Derived.StringKeys
namespace Go.Proofs.YtmplnkfjaeegdaaDoor
set_option maxRecDepth 100000
open Go.RowKit Go.Maps

structure Sym where
  name : ByteArray
  kind : Int
  pos : Int
structure Rel where
  pos : Int
  kind : Int
  name : ByteArray
  add : Int
def noSym : Sym := ⟨.empty, 0, 0⟩
def noRel : Rel := ⟨0, 0, .empty, 0⟩
/-- An object. -/
structure ObjD where
  code : ByteArray
  data : List Int
  syms : List Sym
  rels : List Rel

def nameOk (s : ByteArray) : Bool := decide (1 ≤ s.size) && decide (s.size ≤ 28)
def roomOf (cl dl : Nat) (k : Int) : Int := if k = 1 ∨ k = 3 then cl else if k = 2 then dl else 0
def addOk (k n : Int) : Bool := if k = 1 then decide (n = 0) else if k = 2 then decide (-2147483648 ≤ n) && decide (n ≤ 2147483647) else false
def symOk (cl dl : Nat) (s : Sym) : Bool := nameOk s.name && (decide (0 ≤ s.pos) && decide (s.pos < roomOf cl dl s.kind))
def symAt (cl dl : Nat) (ss : List Sym) (i : Nat) : Bool := (List.range i).all (fun j => decide ((ss.getD j noSym).name ≠ (ss.getD i noSym).name)) && symOk cl dl (ss.getD i noSym)
def symsOk (cl dl : Nat) (ss : List Sym) : Bool := decide (ss.length ≤ 1000) && (List.range ss.length).all (symAt cl dl ss)
def freeAt (rs : List Rel) (i : Nat) : Int := if i = 0 then 0 else (rs.getD (i - 1) noRel).pos + 4
def relOk (cl : Nat) (free : Int) (r : Rel) : Bool := (decide (free ≤ r.pos) && decide (r.pos ≤ (cl : Int) - 4)) && (nameOk r.name && addOk r.kind r.add)
def relsOk (cl : Nat) (rs : List Rel) : Bool := decide (rs.length ≤ 8000) && (List.range rs.length).all fun i => relOk cl (freeAt rs i) (rs.getD i noRel)
def ObjD.may (o : ObjD) : Bool := (decide (o.code.size ≤ 65536) && decide (o.data.length ≤ 4096)) && (symsOk o.code.size o.data.length o.syms && relsOk o.code.size o.rels)

theorem all_range_no {n i : Nat} {f : Nat → Bool} (hi : i < n) (h : f i = false) : (List.range n).all f = false := by
  rw [← Bool.not_eq_true, List.all_eq_true]
  intro h'
  have := h' i (List.mem_range.2 hi)
  rw [h] at this
  cases this
theorem all_range_yes {n : Nat} {f : Nat → Bool} (h : ∀ i, i < n → f i = true) : (List.range n).all f = true := by
  rw [List.all_eq_true]
  intro i hi
  exact h i (List.mem_range.1 hi)

/-- Lists as they lie. -/
structure IntsV (w : World) (a : Option Addr) (len cap : Nat) (zs : List Int) : Prop where
  count : zs.length = len
  fits : ∀ n ∈ zs, (Lit.int .i64 n).wf = true
  nilOf : a = none → len = 0 ∧ cap = 0
  cells : len = 0 ∨ ∃ b off, a = some ⟨b, off, none⟩ ∧ ∀ i, i < len → w.cell? ⟨b, off + i, none⟩ = some (.int .i64 (zs.getD i 0))
structure SymsV (w : World) (a : Option Addr) (len cap : Nat) (ss : List Sym) : Prop where
  count : ss.length = len
  fits : ∀ s ∈ ss, s.name.size ≤ maxLen ∧ (Lit.int .i64 s.kind).wf = true ∧ (Lit.int .i64 s.pos).wf = true
  nilOf : a = none → len = 0 ∧ cap = 0
  cells : len = 0 ∨ ∃ b off, a = some ⟨b, off, none⟩ ∧ ∀ i, i < len → w.cell? ⟨b, off + i * 3, none⟩ = some (.string (ss.getD i noSym).name) ∧ w.cell? ⟨b, off + i * 3 + 1, none⟩ = some (.int .i64 (ss.getD i noSym).kind) ∧ w.cell? ⟨b, off + i * 3 + 2, none⟩ = some (.int .i64 (ss.getD i noSym).pos)
structure RelsV (w : World) (a : Option Addr) (len cap : Nat) (rs : List Rel) : Prop where
  count : rs.length = len
  fits : ∀ r ∈ rs, r.name.size ≤ maxLen ∧ (Lit.int .i64 r.kind).wf = true ∧ (Lit.int .i64 r.pos).wf = true ∧ (Lit.int .i64 r.add).wf = true
  nilOf : a = none → len = 0 ∧ cap = 0
  cells : len = 0 ∨ ∃ b off, a = some ⟨b, off, none⟩ ∧ ∀ i, i < len → w.cell? ⟨b, off + i * 4, none⟩ = some (.int .i64 (rs.getD i noRel).pos) ∧ w.cell? ⟨b, off + i * 4 + 1, none⟩ = some (.int .i64 (rs.getD i noRel).kind) ∧ w.cell? ⟨b, off + i * 4 + 2, none⟩ = some (.string (rs.getD i noRel).name) ∧ w.cell? ⟨b, off + i * 4 + 3, none⟩ = some (.int .i64 (rs.getD i noRel).add)

theorem IntsV.below {w w1 : World} {a : Option Addr} {len cap : Nat} {zs : List Int} (h : IntsV w a len cap zs) (hb : Below w.heap.size w w1) : IntsV w1 a len cap zs := by
  refine ⟨h.count, h.fits, h.nilOf, ?_⟩
  rcases h.cells with h0 | ⟨b, off, ha, hc⟩
  · exact .inl h0
  · exact .inr ⟨b, off, ha, fun i hi => (hb.cell (p := ⟨b, off + i, none⟩) (World.block_lt_of_cell? w ⟨b, off + i, none⟩ (hc i hi))).trans (hc i hi)⟩
theorem SymsV.below {w w1 : World} {a : Option Addr} {len cap : Nat} {ss : List Sym} (h : SymsV w a len cap ss) (hb : Below w.heap.size w w1) : SymsV w1 a len cap ss := by
  refine ⟨h.count, h.fits, h.nilOf, ?_⟩
  rcases h.cells with h0 | ⟨b, off, ha, hc⟩
  · exact .inl h0
  · refine .inr ⟨b, off, ha, fun i hi => ?_⟩
    obtain ⟨k0, k1, k2⟩ := hc i hi
    have hbl : b < w.heap.size := World.block_lt_of_cell? w ⟨b, off + i * 3, none⟩ k0
    exact ⟨(hb.cell (p := ⟨b, off + i * 3, none⟩) hbl).trans k0, (hb.cell (p := ⟨b, off + i * 3 + 1, none⟩) hbl).trans k1, (hb.cell (p := ⟨b, off + i * 3 + 2, none⟩) hbl).trans k2⟩
theorem RelsV.below {w w1 : World} {a : Option Addr} {len cap : Nat} {rs : List Rel} (h : RelsV w a len cap rs) (hb : Below w.heap.size w w1) : RelsV w1 a len cap rs := by
  refine ⟨h.count, h.fits, h.nilOf, ?_⟩
  rcases h.cells with h0 | ⟨b, off, ha, hc⟩
  · exact .inl h0
  · refine .inr ⟨b, off, ha, fun i hi => ?_⟩
    obtain ⟨k0, k1, k2, k3⟩ := hc i hi
    have hbl : b < w.heap.size := World.block_lt_of_cell? w ⟨b, off + i * 4, none⟩ k0
    exact ⟨(hb.cell (p := ⟨b, off + i * 4, none⟩) hbl).trans k0, (hb.cell (p := ⟨b, off + i * 4 + 1, none⟩) hbl).trans k1, (hb.cell (p := ⟨b, off + i * 4 + 2, none⟩) hbl).trans k2, (hb.cell (p := ⟨b, off + i * 4 + 3, none⟩) hbl).trans k3⟩
/-- An object as it is handed over. -/
structure ObjV (w : World) (v : Value) (o : ObjD) : Prop where
  form : ∃ a1 l1 c1 a2 l2 c2 a3 l3 c3, v = .agg #[.string o.code, .slice a1 l1 c1, .slice a2 l2 c2, .slice a3 l3 c3] ∧ o.code.size ≤ maxLen ∧ IntsV w a1 l1 c1 o.data ∧ SymsV w a2 l2 c2 o.syms ∧ RelsV w a3 l3 c3 o.rels
theorem ObjV.below {w w1 : World} {v : Value} {o : ObjD} (h : ObjV w v o) (hb : Below w.heap.size w w1) : ObjV w1 v o := by
  obtain ⟨a1, l1, c1, a2, l2, c2, a3, l3, c3, e, hs, h1, h2, h3⟩ := h.form
  exact ⟨⟨a1, l1, c1, a2, l2, c2, a3, l3, c3, e, hs, h1.below hb, h2.below hb, h3.below hb⟩⟩

theorem cell_last {w : World} {A : Array Value} {t g j : Nat} (hg : g = w.heap.size) {v : Value} (hv : A[j]? = some v) : (w.alloc (.cells A t)).cell? ⟨g, j, none⟩ = some v := by
  subst hg
  simp [hv]
theorem cell_thru {w w' : World} {p : Addr} {v : Value} (hb : Below w.heap.size w w') (h : w.cell? p = some v) : w'.cell? p = some v := (hb.cell (p := p) (World.block_lt_of_cell? w p h)).trans h
theorem bl_one (w : World) (x : Obj) : Below w.heap.size w (w.alloc x) := (Below.refl _ _).alloc (Nat.le_refl _) _

/-- A set of names, as a map reads. -/
def nset (l : List ByteArray) : DataW Unit := setOf (.agg []) (l.map fun s => Lit.string s.data.toList)
theorem nset_snoc (l : List ByteArray) (x : ByteArray) : nset (l ++ [x]) = (nset l).put (.string x.data.toList) (.agg []) := by
  unfold nset
  rw [List.map_append, List.map_cons, List.map_nil, setOf_snoc]
theorem bytes_ext {a b : ByteArray} (h : a.data.toList = b.data.toList) : a = b := by
  cases a; cases b; simp at h; rw [h]
theorem has_nset (l : List ByteArray) (x : ByteArray) : Maps.has (nset l) (.string x.data.toList) = l.any (fun y => decide (y = x)) := by
  unfold nset
  rw [has_setOf _ _ _ (fun y hy => by obtain ⟨_, _, rfl⟩ := List.mem_map.1 hy; trivial), List.any_map]
  congr 1
  funext y
  show (y.data.toList == x.data.toList) = decide (y = x)
  by_cases e : y = x
  · subst e; simp
  · have : ¬ y.data.toList = x.data.toList := fun h => e (bytes_ext h)
    simp only [e, decide_false]
    exact beq_eq_false_iff_ne.2 this

end Go.Proofs.YtmplnkfjaeegdaaDoor

/- What nameMayBe, room and addMayBe come to. -/
namespace Go.Proofs.YtmplnkfjaeegdaaDoor
set_option maxRecDepth 100000
open Go.RowKit Go.Maps
set_option linter.unusedVariables false

theorem name_any (s : ByteArray) (w : World) : Calls Tryd.prog 93 #[.string s] w fun e w' => e = .returned (.bool (nameOk s)) ∧ w' = w := by
  rcases (show ¬ 1 ≤ s.size ∨ (1 ≤ s.size ∧ s.size ≤ 28) ∨ (1 ≤ s.size ∧ ¬ s.size ≤ 28) by omega) with h | ⟨h, h'⟩ | ⟨h, h'⟩
  all_goals
    have HN : Hid (nameOk s = (decide (1 ≤ s.size) && decide (s.size ≤ 28))) := rfl
    go_enter Tryd.func93, Tryd.ntmps93
    go_wp2
    go_ret
    refine ⟨?_, rfl⟩
    rw [HN.out]
    simp [h] <;> omega

theorem room_any (code : ByteArray) {a1 a2 a3 : Option Addr} {l1 c1 l2 c2 l3 c3 : Nat} (k : Int) (w : World) : Calls Tryd.prog 94 #[.agg #[.string code, .slice a1 l1 c1, .slice a2 l2 c2, .slice a3 l3 c3], .int .i64 k] w fun e w' => e = .returned (.int .i64 (roomOf code.size l1 k)) ∧ Below w.heap.size w w' := by
  have hb : Below w.heap.size w (w.alloc (.cells #[.string code, .slice a1 l1 c1, .slice a2 l2 c2, .slice a3 l3 c3] 90)) := bl_one _ _
  rcases (show k = 1 ∨ k = 3 ∨ k = 2 ∨ (¬ k = 1 ∧ ¬ k = 3 ∧ ¬ k = 2) by omega) with rfl | rfl | rfl | ⟨h1, h2, h3⟩
  all_goals
    go_enter Tryd.func94, Tryd.ntmps94
    go_wp2
    go_ret
    refine ⟨?_, hb⟩
    simp [roomOf, *]

theorem add_any (k n : Int) (w : World) : Calls Tryd.prog 95 #[.int .i64 k, .int .i64 n] w fun e w' => e = .returned (.bool (addOk k n)) ∧ w' = w := by
  rcases (show k = 1 ∨ (k = 2 ∧ -2147483648 ≤ n) ∨ (k = 2 ∧ ¬ -2147483648 ≤ n) ∨ (¬ k = 1 ∧ ¬ k = 2) by omega) with rfl | ⟨rfl, h⟩ | ⟨rfl, h⟩ | ⟨h1, h2⟩
  all_goals
    go_enter Tryd.func95, Tryd.ntmps95
    go_wp2
    go_ret
    refine ⟨?_, rfl⟩
    first | (simp [addOk, *]; done) | (simp [addOk, *]; omega) | (simp [addOk]; rfl)

end Go.Proofs.YtmplnkfjaeegdaaDoor

/- What objf.Check comes to. (Written by gen_check.py.) -/
namespace Go.Proofs.YtmplnkfjaeegdaaDoor
set_option maxRecDepth 100000
open Go.RowKit Go.Maps
set_option linter.unusedVariables false

theorem get0 {α : Type} (x : α) (l : List α) : (List.toArray (x :: l))[0]? = some x := rfl
theorem get1 {α : Type} {x y : α} {l : List α} {i : Nat} (h : (List.toArray l)[i]? = some y) : (List.toArray (x :: l))[i + 1]? = some y := by simpa using h
theorem lawS : Keyed Tryd.prog 9 := string_keyed Tryd.underlying9
theorem zeroU (w : World) : (zeroValue 127).run Tryd.prog w = .ok (.agg #[]) w := by kernel_rfl
theorem take_snocS (ss : List Sym) (k : Nat) (h : k < ss.length) : (ss.map Sym.name).take (k + 1) = (ss.map Sym.name).take k ++ [(ss.getD k noSym).name] := by
  rw [List.take_succ_eq_append_getElem (by simpa using h)]; congr 1; simp [List.getD, h]
theorem names_dup {ss : List Sym} {k : Nat} (hk : k < ss.length) {x : ByteArray} (h : ((ss.map Sym.name).take k).any (fun y => decide (y = x)) = true) (hx : (ss.getD k noSym).name = x) (cl dl : Nat) : symAt cl dl ss k = false := by
  rw [← List.map_take] at h
  simp only [List.any_eq_true, List.mem_map, decide_eq_true_eq] at h
  obtain ⟨y, ⟨s, hs, rfl⟩, e⟩ := h
  obtain ⟨i, hi, rfl⟩ := List.getElem_of_mem hs
  rw [List.length_take] at hi
  unfold symAt
  rw [all_range_no (i := i) (by omega) (by
    rw [List.getElem_take] at e
    have : (ss.getD i noSym).name = x := by simp [List.getD, show i < ss.length by omega, e]
    exact decide_eq_false (fun hne => hne (this.trans hx.symm))), Bool.false_and]
theorem names_new {ss : List Sym} {k : Nat} (hk : k < ss.length) {x : ByteArray} (h : ((ss.map Sym.name).take k).any (fun y => decide (y = x)) = false) (hx : (ss.getD k noSym).name = x) (cl dl : Nat) : symAt cl dl ss k = symOk cl dl (ss.getD k noSym) := by
  unfold symAt
  rw [all_range_yes (fun i hi => ?_), Bool.true_and]
  rw [← List.map_take, ← Bool.not_eq_true, List.any_eq_true] at h
  simp only [decide_eq_true_eq]
  intro e
  apply h
  refine ⟨(ss.getD i noSym).name, List.mem_map.2 ⟨ss.getD i noSym, ?_, rfl⟩, decide_eq_true (e.trans hx)⟩
  rw [show ss.getD i noSym = (ss.take k)[i]'(by rw [List.length_take]; omega) by simp [List.getD, show i < ss.length by omega]]
  exact List.getElem_mem _
theorem syms_no {cl dl : Nat} {ss : List Sym} {k : Nat} (hk : k < ss.length) (h : symAt cl dl ss k = false) : symsOk cl dl ss = false := by
  unfold symsOk
  rw [all_range_no hk h, Bool.and_false]

set_option maxRecDepth 100000 in
set_option maxHeartbeats 8000000 in
theorem syms_any {w : World} (code : ByteArray) {a1 a2 a3 : Option Addr} {l1 c1 l2 c2 l3 c3 : Nat} {ss : List Sym} (h : SymsV w a2 l2 c2 ss) :
    Calls Tryd.prog 68 #[.agg #[.string code, .slice a1 l1 c1, .slice a2 l2 c2, .slice a3 l3 c3]] w fun e w' => e = .returned (.bool (symsOk code.size l1 ss)) ∧ Below w.heap.size w w' := by
  have hmm := @run_makeMap Tryd.prog
  have HV : Hid _ := h
  have hcnt := h.count
  clear h
  by_cases hbig : (1000 : Int) < l2
  · have HNO : Hid (symsOk code.size l1 ss = false) := by show _ = _; unfold symsOk; rw [show decide (ss.length ≤ 1000) = false by simp; omega, Bool.false_and]
    have hb : Below w.heap.size w (w.alloc (.cells #[.string code, .slice a1 l1 c1, .slice a2 l2 c2, .slice a3 l3 c3] 90)) := bl_one _ _
    go_enter Tryd.func68, Tryd.ntmps68
    go_wp2
    go_ret
    exact ⟨by rw [HNO.out]; rfl, hb⟩
  obtain ⟨W1, hW1⟩ : ∃ W1, w.alloc (.cells #[.string code, .slice a1 l1 c1, .slice a2 l2 c2, .slice a3 l3 c3] 90) = W1 := ⟨_, rfl⟩
  have s1 : W1.heap.size = w.heap.size + 1 := by subst hW1; simp
  have b1 : Below w.heap.size w W1 := by subst hW1; exact bl_one _ _
  have v0 : W1.cell? ⟨w.heap.size, 0, none⟩ = some (.string code) := by subst hW1; exact cell_last rfl rfl
  have v1 : W1.cell? ⟨w.heap.size, 1, none⟩ = some (.slice a1 l1 c1) := by subst hW1; exact cell_last rfl rfl
  have v2 : W1.cell? ⟨w.heap.size, 2, none⟩ = some (.slice a2 l2 c2) := by subst hW1; exact cell_last rfl rfl
  have v3 : W1.cell? ⟨w.heap.size, 3, none⟩ = some (.slice a3 l3 c3) := by subst hW1; exact cell_last rfl rfl
  obtain ⟨W2, hW2⟩ : ∃ W2, W1.alloc (.map #[] 0) = W2 := ⟨_, rfl⟩
  have zW2 : w.heap.size + 2 ≤ W2.heap.size := by subst hW2; simp; omega
  have b2 : Below W1.heap.size W1 W2 := by subst hW2; exact bl_one _ _
  have v0 := cell_thru b2 v0
  have v1 := cell_thru b2 v1
  have v2 := cell_thru b2 v2
  have v3 := cell_thru b2 v3
  have HOW : Hid (W2.ownsMap Tryd.prog 9 (unitElem (H := Unit)) (w.heap.size + 1) 0 (nset [])) := by
    show World.ownsMap _ _ _ _ _ _ _
    rw [← s1, ← hW2]
    exact World.ownsMap_made _ _ _ _
  go_enter Tryd.func68, Tryd.ntmps68
  go_wp2_with fail
  go_loopg [16] l2 (fun r iv wq => ∃ (k : Nat), iv = .int .i64 k ∧ k ≤ l2 ∧ l2 - k ≤ r ∧ Hid (wq.ownsMap Tryd.prog 9 unitElem (w.heap.size + 1) k (nset ((ss.map Sym.name).take k))) ∧ Hid (∀ i, i < k → symAt code.size l1 ss i = true) ∧ Hid (Below (w.heap.size + 1) W2 wq))
  case atStart => exact ⟨0, rfl, Nat.zero_le _, by omega, HOW.out, (fun i hi => by omega : ∀ i, i < 0 → symAt code.size l1 ss i = true), Below.refl _ _⟩
  case round =>
    obtain ⟨k, rfl, hk, hr, HMP, HAL, HBL⟩ := hrel
    have hbw : Below w.heap.size w wr := (b1.trans (b2.mono (by omega))).trans (HBL.out.mono (Nat.le_succ _))
    have zw2 : w.heap.size + 2 ≤ wr.heap.size := by have := HBL.out.size; subst hW2; simp at this; omega
    have u0 := (HBL.out.cell (p := ⟨w.heap.size, 0, none⟩) (Nat.lt_succ_self _)).trans v0
    have u1 := (HBL.out.cell (p := ⟨w.heap.size, 1, none⟩) (Nat.lt_succ_self _)).trans v1
    have u2 := (HBL.out.cell (p := ⟨w.heap.size, 2, none⟩) (Nat.lt_succ_self _)).trans v2
    have u3 := (HBL.out.cell (p := ⟨w.heap.size, 3, none⟩) (Nat.lt_succ_self _)).trans v3
    by_cases hlt : k < l2
    · rcases HV.out.cells with h0 | ⟨b, off, hA, hc⟩
      · omega
      obtain ⟨k0, k1, k2⟩ := hc k hlt
      have hbl : b < w.heap.size := World.block_lt_of_cell? w ⟨b, off + k * 3, none⟩ k0
      have q0 := (hbw.cell (p := ⟨b, off + k * 3, none⟩) hbl).trans k0
      have q1 := (hbw.cell (p := ⟨b, off + k * 3 + 1, none⟩) hbl).trans k1
      have q2 := (hbw.cell (p := ⟨b, off + k * 3 + 2, none⟩) hbl).trans k2
      have HTK : Hid _ := take_snocS ss k (by omega)
      have hfit := HV.out.fits (ss.getD k noSym) (by simp [List.getD, show k < ss.length by omega])
      have HDUP : Hid (∀ {x : ByteArray}, ((ss.map Sym.name).take k).any (fun y => decide (y = x)) = true → (ss.getD k noSym).name = x → symsOk code.size l1 ss = false) := fun hx he => syms_no (by omega) (names_dup (by omega) hx he _ _)
      have HNEW : Hid (∀ {x : ByteArray}, ((ss.map Sym.name).take k).any (fun y => decide (y = x)) = false → (ss.getD k noSym).name = x → symAt code.size l1 ss k = symOk code.size l1 (ss.getD k noSym)) := fun hx he => names_new (by omega) hx he _ _
      have HSO : Hid (symOk code.size l1 (ss.getD k noSym) = (nameOk (ss.getD k noSym).name && (decide (0 ≤ (ss.getD k noSym).pos) && decide ((ss.getD k noSym).pos < roomOf code.size l1 (ss.getD k noSym).kind)))) := rfl
      obtain ⟨nm, hnm⟩ : ∃ nm, (ss.getD k noSym).name = nm := ⟨_, rfl⟩
      obtain ⟨kd, hkd⟩ : ∃ kd, (ss.getD k noSym).kind = kd := ⟨_, rfl⟩
      obtain ⟨ps, hps⟩ : ∃ ps, (ss.getD k noSym).pos = ps := ⟨_, rfl⟩
      have HNMX : Hid _ := hnm
      rw [hnm] at q0 HTK hfit HSO
      rw [hkd] at q1 HSO
      rw [hps] at q2 HSO
      have hkey : keyOf Tryd.prog 9 (.string nm) = some (.string nm.data.toList) := Go.WideMaps.keyOf_string_mk Tryd.underlying9 hfit.1
      have hH := has_nset ((ss.map Sym.name).take k) nm
      subst hA
      have hii : (k : Int) < l2 := by omega
      have hin : 0 ≤ (k : Int) := by omega
      clear hc k0 k1 k2 hnm hkd hps hfit
      obtain ⟨Y1, hY1⟩ : ∃ Y1, wr.alloc (.cells #[.string nm, .int .i64 kd, .int .i64 ps] 66) = Y1 := ⟨_, rfl⟩
      have bY : Below wr.heap.size wr Y1 := by subst hY1; exact bl_one _ _
      have sY1 : Y1.heap.size = wr.heap.size + 1 := by subst hY1; simp
      have g0 : Y1.cell? ⟨wr.heap.size, 0, none⟩ = some (.string nm) := by subst hY1; exact cell_last rfl rfl
      have g1 : Y1.cell? ⟨wr.heap.size, 1, none⟩ = some (.int .i64 kd) := by subst hY1; exact cell_last rfl rfl
      have g2 : Y1.cell? ⟨wr.heap.size, 2, none⟩ = some (.int .i64 ps) := by subst hY1; exact cell_last rfl rfl
      have HMY : Hid (Y1.ownsMap Tryd.prog 9 (unitElem (H := Unit)) (w.heap.size + 1) k (nset ((ss.map Sym.name).take k))) := by subst hY1; exact HMP.out.alloc _
      cases hdup : ((ss.map Sym.name).take k).any (fun y => decide (y = nm)) with
      | true =>
        rw [hdup] at hH
        have HNO : Hid (symsOk code.size l1 ss = false) := HDUP.out hdup HNMX.out
        clear hdup
        go_wp2_with (first | (at_lookup; refine wpList_lookup_own_unit _ rfl _ _ 152 rfl 9 127 lawS Tryd.underlying152 (zeroU _) (w.heap.size + 1) k _ rfl HMY.out _ _ rfl hkey ?_) | go_in)
        go_ret
        exact ⟨by rw [HNO.out]; rfl, (hbw.trans (bY.mono hbw.size)).alloc (by have := hbw.size; omega) _⟩
      | false =>
        rw [hdup] at hH
        have HSA : Hid (symAt code.size l1 ss k = symOk code.size l1 (ss.getD k noSym)) := HNEW.out hdup HNMX.out
        clear hdup
        go_wp2_with (first | (at_lookup; refine wpList_lookup_own_unit _ rfl _ _ 152 rfl 9 127 lawS Tryd.underlying152 (zeroU _) (w.heap.size + 1) k _ rfl HMY.out _ _ rfl hkey ?_) | go_in)
        obtain ⟨Y2, hY2⟩ : ∃ Y2, Y1.alloc (.cells #[] 127) = Y2 := ⟨_, rfl⟩
        have bY2 : Below Y1.heap.size Y1 Y2 := by subst hY2; exact bl_one _ _
        have bY12 : Below wr.heap.size wr Y2 := bY.trans (bY2.mono (by omega))
        have HS : Hid (Y2.drew.cell? ⟨wr.heap.size, 0, none⟩ = some (.string nm) ∧ Y2.drew.cell? ⟨wr.heap.size, 1, none⟩ = some (.int .i64 kd) ∧ Y2.drew.cell? ⟨wr.heap.size, 2, none⟩ = some (.int .i64 ps) ∧ Y2.drew.cell? ⟨w.heap.size, 0, none⟩ = some (.string code) ∧ Y2.drew.cell? ⟨w.heap.size, 1, none⟩ = some (.slice a1 l1 c1) ∧ Y2.drew.cell? ⟨w.heap.size, 2, none⟩ = some (.slice (some ⟨b, off, none⟩) l2 c2) ∧ Y2.drew.cell? ⟨w.heap.size, 3, none⟩ = some (.slice a3 l3 c3)) := ⟨cell_thru bY2.drew g0, cell_thru bY2.drew g1, cell_thru bY2.drew g2, cell_thru bY12.drew u0, cell_thru bY12.drew u1, cell_thru bY12.drew u2, cell_thru bY12.drew u3⟩
        have HMX : Hid (Y2.drew.ownsMap Tryd.prog 9 (unitElem (H := Unit)) (w.heap.size + 1) k (nset ((ss.map Sym.name).take k))) := by subst hY2; exact (HMY.out.alloc _).drew
        have HBX : Hid (Below (w.heap.size + 1) W2 Y2) := HBL.out.trans (bY12.mono (by omega))
        have hbY : Below w.heap.size w Y2 := hbw.trans (bY12.mono hbw.size)
        rw [hY2]
        clear g0 g1 g2 u0 u1 u2 u3 q0 q1 q2
        cases hnk : nameOk nm with
        | false =>
          have HNM : Hid _ := hnk
          have HNO : Hid (symsOk code.size l1 ss = false) := syms_no (k := k) (by omega) (by rw [HSA.out, HSO.out, hnk, Bool.false_and])
          clear hnk
          refine wp_region_held_drew (S := (fun w' : World => (w'.cell? ⟨wr.heap.size, 0, none⟩ = some (.string nm) ∧ w'.cell? ⟨wr.heap.size, 1, none⟩ = some (.int .i64 kd) ∧ w'.cell? ⟨wr.heap.size, 2, none⟩ = some (.int .i64 ps) ∧ w'.cell? ⟨w.heap.size, 0, none⟩ = some (.string code) ∧ w'.cell? ⟨w.heap.size, 1, none⟩ = some (.slice a1 l1 c1) ∧ w'.cell? ⟨w.heap.size, 2, none⟩ = some (.slice (some ⟨b, off, none⟩) l2 c2) ∧ w'.cell? ⟨w.heap.size, 3, none⟩ = some (.slice a3 l3 c3)))) (by kernel_rfl) HS.out (fun hHeld => ?_)
          refine wpAnyH_take (i := 0) (v := ?_) (get0 _ _) (by kernel_rfl) (by kernel_rfl) (by kernel_rfl) (fun _ _ _ h => h) (Or.inl ⟨by rfl, ?_⟩) (by assumption) ?_
          rotate_left
          · (intro w hSw; (try dsimp only at hSw); go_simp <;> with_reducible rfl)
          simp only [Act.put, List.setIfInBounds_toArray, List.set_cons_zero, List.set_cons_succ]
          refine wpAnyH_take (i := 1) (v := ?_) (get1 (get0 _ _)) (by kernel_rfl) (by kernel_rfl) (by kernel_rfl) (fun _ _ _ h => h) (Or.inl ⟨by rfl, ?_⟩) (by assumption) ?_
          rotate_left
          · (intro w hSw; (try dsimp only at hSw); go_simp <;> with_reducible rfl)
          simp only [Act.put, List.setIfInBounds_toArray, List.set_cons_zero, List.set_cons_succ]
          refine wpAnyH_ready (rs := [2]) (by kernel_rfl) (by simp) ?_
          refine AllReadyH.cons (get1 (get1 (get0 _ _))) (fun K hK => ?_) AllReadyH.nil
          go_simp
          refine (name_any nm _).mono ?_
          rintro e y1 ⟨rfl, rfl⟩
          rw [HNM.out]
          have sy := hHeld
          clear hHeld
          try go_wp2_with fail
          refine hK.out _ _ sy (fun hHeld => ?_)
          clear hK K
          try simp only [Act.put, List.setIfInBounds_toArray, List.set_cons_zero, List.set_cons_succ]
          refine wpAnyH_take (i := 3) (v := ?_) (get1 (get1 (get1 (get0 _ _)))) (by kernel_rfl) (by kernel_rfl) (by kernel_rfl) (fun _ _ _ h => h) (Or.inl ⟨by rfl, ?_⟩) (by assumption) ?_
          rotate_left
          · (intro w hSw; (try dsimp only at hSw); go_simp <;> with_reducible rfl)
          simp only [Act.put, List.setIfInBounds_toArray, List.set_cons_zero, List.set_cons_succ]
          refine wpAnyH_take (i := 4) (v := ?_) (get1 (get1 (get1 (get1 (get0 _ _))))) (by kernel_rfl) (by kernel_rfl) (by kernel_rfl) (fun _ _ _ h => h) (Or.inl ⟨by rfl, ?_⟩) (by assumption) ?_
          rotate_left
          · (intro w hSw; (try dsimp only at hSw); go_simp <;> with_reducible rfl)
          simp only [Act.put, List.setIfInBounds_toArray, List.set_cons_zero, List.set_cons_succ]
          refine wpAnyH_take (i := 5) (v := undef) (get1 (get1 (get1 (get1 (get1 (get0 _ _)))))) (by kernel_rfl) (by kernel_rfl) (by kernel_rfl) (fun _ _ _ h => h) (Or.inr ⟨by rfl, rfl⟩) (by assumption) ?_
          simp only [Act.put, List.setIfInBounds_toArray, List.set_cons_zero, List.set_cons_succ]
          refine wpAnyH_take (i := 6) (v := undef) (get1 (get1 (get1 (get1 (get1 (get1 (get0 _ _))))))) (by kernel_rfl) (by kernel_rfl) (by kernel_rfl) (fun _ _ _ h => h) (Or.inr ⟨by rfl, rfl⟩) (by assumption) ?_
          simp only [Act.put, List.setIfInBounds_toArray, List.set_cons_zero, List.set_cons_succ]
          refine wpAnyH_take (i := 7) (v := undef) (get1 (get1 (get1 (get1 (get1 (get1 (get1 (get0 _ _)))))))) (by kernel_rfl) (by kernel_rfl) (by kernel_rfl) (fun _ _ _ h => h) (Or.inr ⟨by rfl, rfl⟩) (by assumption) ?_
          simp only [Act.put, List.setIfInBounds_toArray, List.set_cons_zero, List.set_cons_succ]
          refine wpAnyH_take (i := 8) (v := ?_) (get1 (get1 (get1 (get1 (get1 (get1 (get1 (get1 (get0 _ _))))))))) (by kernel_rfl) (by kernel_rfl) (by kernel_rfl) (fun _ _ _ h => h) (Or.inl ⟨by rfl, ?_⟩) (by assumption) ?_
          rotate_left
          · (intro w hSw; (try dsimp only at hSw); go_simp <;> with_reducible rfl)
          simp only [Act.put, List.setIfInBounds_toArray, List.set_cons_zero, List.set_cons_succ]
          refine wpAnyH_take (i := 9) (v := ?_) (get1 (get1 (get1 (get1 (get1 (get1 (get1 (get1 (get1 (get0 _ _)))))))))) (by kernel_rfl) (by kernel_rfl) (by kernel_rfl) (fun _ _ _ h => h) (Or.inl ⟨by rfl, ?_⟩) (by assumption) ?_
          rotate_left
          · (intro w hSw; (try dsimp only at hSw); go_simp <;> with_reducible rfl)
          simp only [Act.put, List.setIfInBounds_toArray, List.set_cons_zero, List.set_cons_succ]
          refine wpAnyH_take (i := 10) (v := undef) (get1 (get1 (get1 (get1 (get1 (get1 (get1 (get1 (get1 (get1 (get0 _ _))))))))))) (by kernel_rfl) (by kernel_rfl) (by kernel_rfl) (fun _ _ _ h => h) (Or.inr ⟨by rfl, rfl⟩) (by assumption) ?_
          simp only [Act.put, List.setIfInBounds_toArray, List.set_cons_zero, List.set_cons_succ]
          refine wpAnyH_take (i := 11) (v := undef) (get1 (get1 (get1 (get1 (get1 (get1 (get1 (get1 (get1 (get1 (get1 (get0 _ _)))))))))))) (by kernel_rfl) (by kernel_rfl) (by kernel_rfl) (fun _ _ _ h => h) (Or.inr ⟨by rfl, rfl⟩) (by assumption) ?_
          simp only [Act.put, List.setIfInBounds_toArray, List.set_cons_zero, List.set_cons_succ]
          refine wpAnyH_take (i := 12) (v := undef) (get1 (get1 (get1 (get1 (get1 (get1 (get1 (get1 (get1 (get1 (get1 (get1 (get0 _ _))))))))))))) (by kernel_rfl) (by kernel_rfl) (by kernel_rfl) (fun _ _ _ h => h) (Or.inr ⟨by rfl, rfl⟩) (by assumption) ?_
          simp only [Act.put, List.setIfInBounds_toArray, List.set_cons_zero, List.set_cons_succ]
          refine wpAnyH_take (i := 13) (v := undef) (get1 (get1 (get1 (get1 (get1 (get1 (get1 (get1 (get1 (get1 (get1 (get1 (get1 (get0 _ _)))))))))))))) (by kernel_rfl) (by kernel_rfl) (by kernel_rfl) (fun _ _ _ h => h) (Or.inr ⟨by rfl, rfl⟩) (by assumption) ?_
          simp only [Act.put, List.setIfInBounds_toArray, List.set_cons_zero, List.set_cons_succ]
          refine wpAnyH_take (i := 14) (v := undef) (get1 (get1 (get1 (get1 (get1 (get1 (get1 (get1 (get1 (get1 (get1 (get1 (get1 (get1 (get0 _ _))))))))))))))) (by kernel_rfl) (by kernel_rfl) (by kernel_rfl) (fun _ _ _ h => h) (Or.inr ⟨by rfl, rfl⟩) (by assumption) ?_
          simp only [Act.put, List.setIfInBounds_toArray, List.set_cons_zero, List.set_cons_succ]
          refine wpAnyH_take (i := 15) (v := undef) (get1 (get1 (get1 (get1 (get1 (get1 (get1 (get1 (get1 (get1 (get1 (get1 (get1 (get1 (get1 (get0 _ _)))))))))))))))) (by kernel_rfl) (by kernel_rfl) (by kernel_rfl) (fun _ _ _ h => h) (Or.inr ⟨by rfl, rfl⟩) (by assumption) ?_
          simp only [Act.put, List.setIfInBounds_toArray, List.set_cons_zero, List.set_cons_succ]
          refine wpAnyH_take (i := 16) (v := undef) (get1 (get1 (get1 (get1 (get1 (get1 (get1 (get1 (get1 (get1 (get1 (get1 (get1 (get1 (get1 (get1 (get0 _ _))))))))))))))))) (by kernel_rfl) (by kernel_rfl) (by kernel_rfl) (fun _ _ _ h => h) (Or.inr ⟨by rfl, rfl⟩) (by assumption) ?_
          simp only [Act.put, List.setIfInBounds_toArray, List.set_cons_zero, List.set_cons_succ]
          refine wpAnyH_take (i := 17) (v := ?_) (get1 (get1 (get1 (get1 (get1 (get1 (get1 (get1 (get1 (get1 (get1 (get1 (get1 (get1 (get1 (get1 (get1 (get0 _ _)))))))))))))))))) (by kernel_rfl) (by kernel_rfl) (by kernel_rfl) (fun _ _ _ h => h) (Or.inl ⟨by rfl, ?_⟩) (by assumption) ?_
          rotate_left
          · (intro w hSw; (try dsimp only at hSw); go_simp <;> with_reducible rfl)
          simp only [Act.put, List.setIfInBounds_toArray, List.set_cons_zero, List.set_cons_succ]
          refine wpAnyH_done (by kernel_rfl) ?_ _
          clear hHeld sy
          go_wp2_with fail
          go_ret
          exact ⟨by rw [HNO.out]; rfl, hbY.drew⟩
        | true =>
          have HNM : Hid _ := hnk
          by_cases hneg : ps < 0
          · have HNO : Hid (symsOk code.size l1 ss = false) := syms_no (k := k) (by omega) (by rw [HSA.out, HSO.out, hnk, show decide (0 ≤ ps) = false by simp; omega]; rfl)
            clear hnk
            refine wp_region_held_drew (S := (fun w' : World => (w'.cell? ⟨wr.heap.size, 0, none⟩ = some (.string nm) ∧ w'.cell? ⟨wr.heap.size, 1, none⟩ = some (.int .i64 kd) ∧ w'.cell? ⟨wr.heap.size, 2, none⟩ = some (.int .i64 ps) ∧ w'.cell? ⟨w.heap.size, 0, none⟩ = some (.string code) ∧ w'.cell? ⟨w.heap.size, 1, none⟩ = some (.slice a1 l1 c1) ∧ w'.cell? ⟨w.heap.size, 2, none⟩ = some (.slice (some ⟨b, off, none⟩) l2 c2) ∧ w'.cell? ⟨w.heap.size, 3, none⟩ = some (.slice a3 l3 c3)))) (by kernel_rfl) HS.out (fun hHeld => ?_)
            refine wpAnyH_take (i := 0) (v := ?_) (get0 _ _) (by kernel_rfl) (by kernel_rfl) (by kernel_rfl) (fun _ _ _ h => h) (Or.inl ⟨by rfl, ?_⟩) (by assumption) ?_
            rotate_left
            · (intro w hSw; (try dsimp only at hSw); go_simp <;> with_reducible rfl)
            simp only [Act.put, List.setIfInBounds_toArray, List.set_cons_zero, List.set_cons_succ]
            refine wpAnyH_take (i := 1) (v := ?_) (get1 (get0 _ _)) (by kernel_rfl) (by kernel_rfl) (by kernel_rfl) (fun _ _ _ h => h) (Or.inl ⟨by rfl, ?_⟩) (by assumption) ?_
            rotate_left
            · (intro w hSw; (try dsimp only at hSw); go_simp <;> with_reducible rfl)
            simp only [Act.put, List.setIfInBounds_toArray, List.set_cons_zero, List.set_cons_succ]
            refine wpAnyH_ready (rs := [2]) (by kernel_rfl) (by simp) ?_
            refine AllReadyH.cons (get1 (get1 (get0 _ _))) (fun K hK => ?_) AllReadyH.nil
            go_simp
            refine (name_any nm _).mono ?_
            rintro e y1 ⟨rfl, rfl⟩
            rw [HNM.out]
            have sy := hHeld
            clear hHeld
            try go_wp2_with fail
            refine hK.out _ _ sy (fun hHeld => ?_)
            clear hK K
            try simp only [Act.put, List.setIfInBounds_toArray, List.set_cons_zero, List.set_cons_succ]
            refine wpAnyH_take (i := 3) (v := ?_) (get1 (get1 (get1 (get0 _ _)))) (by kernel_rfl) (by kernel_rfl) (by kernel_rfl) (fun _ _ _ h => h) (Or.inl ⟨by rfl, ?_⟩) (by assumption) ?_
            rotate_left
            · (intro w hSw; (try dsimp only at hSw); go_simp <;> with_reducible rfl)
            simp only [Act.put, List.setIfInBounds_toArray, List.set_cons_zero, List.set_cons_succ]
            refine wpAnyH_take (i := 4) (v := ?_) (get1 (get1 (get1 (get1 (get0 _ _))))) (by kernel_rfl) (by kernel_rfl) (by kernel_rfl) (fun _ _ _ h => h) (Or.inl ⟨by rfl, ?_⟩) (by assumption) ?_
            rotate_left
            · (intro w hSw; (try dsimp only at hSw); go_simp <;> with_reducible rfl)
            simp only [Act.put, List.setIfInBounds_toArray, List.set_cons_zero, List.set_cons_succ]
            refine wpAnyH_take (i := 5) (v := ?_) (get1 (get1 (get1 (get1 (get1 (get0 _ _)))))) (by kernel_rfl) (by kernel_rfl) (by kernel_rfl) (fun _ _ _ h => h) (Or.inl ⟨by rfl, ?_⟩) (by assumption) ?_
            rotate_left
            · (intro w hSw; (try dsimp only at hSw); go_simp <;> with_reducible rfl)
            simp only [Act.put, List.setIfInBounds_toArray, List.set_cons_zero, List.set_cons_succ]
            refine wpAnyH_take (i := 6) (v := ?_) (get1 (get1 (get1 (get1 (get1 (get1 (get0 _ _))))))) (by kernel_rfl) (by kernel_rfl) (by kernel_rfl) (fun _ _ _ h => h) (Or.inl ⟨by rfl, ?_⟩) (by assumption) ?_
            rotate_left
            · (intro w hSw; (try dsimp only at hSw); go_simp <;> with_reducible rfl)
            simp only [Act.put, List.setIfInBounds_toArray, List.set_cons_zero, List.set_cons_succ]
            refine wpAnyH_take (i := 7) (v := ?_) (get1 (get1 (get1 (get1 (get1 (get1 (get1 (get0 _ _)))))))) (by kernel_rfl) (by kernel_rfl) (by kernel_rfl) (fun _ _ _ h => h) (Or.inl ⟨by rfl, ?_⟩) (by assumption) ?_
            rotate_left
            · (intro w hSw; (try dsimp only at hSw); go_simp <;> with_reducible rfl)
            simp only [Act.put, List.setIfInBounds_toArray, List.set_cons_zero, List.set_cons_succ]
            refine wpAnyH_take (i := 8) (v := ?_) (get1 (get1 (get1 (get1 (get1 (get1 (get1 (get1 (get0 _ _))))))))) (by kernel_rfl) (by kernel_rfl) (by kernel_rfl) (fun _ _ _ h => h) (Or.inl ⟨by rfl, ?_⟩) (by assumption) ?_
            rotate_left
            · (intro w hSw; (try dsimp only at hSw); go_simp <;> with_reducible rfl)
            simp only [Act.put, List.setIfInBounds_toArray, List.set_cons_zero, List.set_cons_succ]
            refine wpAnyH_take (i := 9) (v := ?_) (get1 (get1 (get1 (get1 (get1 (get1 (get1 (get1 (get1 (get0 _ _)))))))))) (by kernel_rfl) (by kernel_rfl) (by kernel_rfl) (fun _ _ _ h => h) (Or.inl ⟨by rfl, ?_⟩) (by assumption) ?_
            rotate_left
            · (intro w hSw; (try dsimp only at hSw); go_simp <;> with_reducible rfl)
            simp only [Act.put, List.setIfInBounds_toArray, List.set_cons_zero, List.set_cons_succ]
            refine wpAnyH_take (i := 10) (v := undef) (get1 (get1 (get1 (get1 (get1 (get1 (get1 (get1 (get1 (get1 (get0 _ _))))))))))) (by kernel_rfl) (by kernel_rfl) (by kernel_rfl) (fun _ _ _ h => h) (Or.inr ⟨by rfl, rfl⟩) (by assumption) ?_
            simp only [Act.put, List.setIfInBounds_toArray, List.set_cons_zero, List.set_cons_succ]
            refine wpAnyH_take (i := 11) (v := undef) (get1 (get1 (get1 (get1 (get1 (get1 (get1 (get1 (get1 (get1 (get1 (get0 _ _)))))))))))) (by kernel_rfl) (by kernel_rfl) (by kernel_rfl) (fun _ _ _ h => h) (Or.inr ⟨by rfl, rfl⟩) (by assumption) ?_
            simp only [Act.put, List.setIfInBounds_toArray, List.set_cons_zero, List.set_cons_succ]
            refine wpAnyH_take (i := 12) (v := undef) (get1 (get1 (get1 (get1 (get1 (get1 (get1 (get1 (get1 (get1 (get1 (get1 (get0 _ _))))))))))))) (by kernel_rfl) (by kernel_rfl) (by kernel_rfl) (fun _ _ _ h => h) (Or.inr ⟨by rfl, rfl⟩) (by assumption) ?_
            simp only [Act.put, List.setIfInBounds_toArray, List.set_cons_zero, List.set_cons_succ]
            refine wpAnyH_take (i := 13) (v := undef) (get1 (get1 (get1 (get1 (get1 (get1 (get1 (get1 (get1 (get1 (get1 (get1 (get1 (get0 _ _)))))))))))))) (by kernel_rfl) (by kernel_rfl) (by kernel_rfl) (fun _ _ _ h => h) (Or.inr ⟨by rfl, rfl⟩) (by assumption) ?_
            simp only [Act.put, List.setIfInBounds_toArray, List.set_cons_zero, List.set_cons_succ]
            refine wpAnyH_take (i := 14) (v := undef) (get1 (get1 (get1 (get1 (get1 (get1 (get1 (get1 (get1 (get1 (get1 (get1 (get1 (get1 (get0 _ _))))))))))))))) (by kernel_rfl) (by kernel_rfl) (by kernel_rfl) (fun _ _ _ h => h) (Or.inr ⟨by rfl, rfl⟩) (by assumption) ?_
            simp only [Act.put, List.setIfInBounds_toArray, List.set_cons_zero, List.set_cons_succ]
            refine wpAnyH_take (i := 15) (v := undef) (get1 (get1 (get1 (get1 (get1 (get1 (get1 (get1 (get1 (get1 (get1 (get1 (get1 (get1 (get1 (get0 _ _)))))))))))))))) (by kernel_rfl) (by kernel_rfl) (by kernel_rfl) (fun _ _ _ h => h) (Or.inr ⟨by rfl, rfl⟩) (by assumption) ?_
            simp only [Act.put, List.setIfInBounds_toArray, List.set_cons_zero, List.set_cons_succ]
            refine wpAnyH_take (i := 16) (v := undef) (get1 (get1 (get1 (get1 (get1 (get1 (get1 (get1 (get1 (get1 (get1 (get1 (get1 (get1 (get1 (get1 (get0 _ _))))))))))))))))) (by kernel_rfl) (by kernel_rfl) (by kernel_rfl) (fun _ _ _ h => h) (Or.inr ⟨by rfl, rfl⟩) (by assumption) ?_
            simp only [Act.put, List.setIfInBounds_toArray, List.set_cons_zero, List.set_cons_succ]
            refine wpAnyH_take (i := 17) (v := ?_) (get1 (get1 (get1 (get1 (get1 (get1 (get1 (get1 (get1 (get1 (get1 (get1 (get1 (get1 (get1 (get1 (get1 (get0 _ _)))))))))))))))))) (by kernel_rfl) (by kernel_rfl) (by kernel_rfl) (fun _ _ _ h => h) (Or.inl ⟨by rfl, ?_⟩) (by assumption) ?_
            rotate_left
            · (intro w hSw; (try dsimp only at hSw); go_simp <;> with_reducible rfl)
            simp only [Act.put, List.setIfInBounds_toArray, List.set_cons_zero, List.set_cons_succ]
            refine wpAnyH_done (by kernel_rfl) ?_ _
            clear hHeld sy
            go_wp2_with fail
            go_ret
            exact ⟨by rw [HNO.out]; rfl, hbY.drew⟩
          · have hd0 : decide (ps < 0) = false := decide_eq_false hneg
            obtain ⟨rm, hrm⟩ : ∃ rm, roomOf code.size l1 kd = rm := ⟨_, rfl⟩
            have HRM : Hid _ := hrm
            by_cases hge : rm ≤ ps
            · have hd1 : decide (rm ≤ ps) = true := decide_eq_true hge
              have HNO : Hid (symsOk code.size l1 ss = false) := syms_no (k := k) (by omega) (by rw [HSA.out, HSO.out, hnk, hrm, show decide (ps < rm) = false by simp; omega]; simp)
              clear hnk hrm
              refine wp_region_held_drew (S := (fun w' : World => (w'.cell? ⟨wr.heap.size, 0, none⟩ = some (.string nm) ∧ w'.cell? ⟨wr.heap.size, 1, none⟩ = some (.int .i64 kd) ∧ w'.cell? ⟨wr.heap.size, 2, none⟩ = some (.int .i64 ps) ∧ w'.cell? ⟨w.heap.size, 0, none⟩ = some (.string code) ∧ w'.cell? ⟨w.heap.size, 1, none⟩ = some (.slice a1 l1 c1) ∧ w'.cell? ⟨w.heap.size, 2, none⟩ = some (.slice (some ⟨b, off, none⟩) l2 c2) ∧ w'.cell? ⟨w.heap.size, 3, none⟩ = some (.slice a3 l3 c3)))) (by kernel_rfl) HS.out (fun hHeld => ?_)
              refine wpAnyH_take (i := 0) (v := ?_) (get0 _ _) (by kernel_rfl) (by kernel_rfl) (by kernel_rfl) (fun _ _ _ h => h) (Or.inl ⟨by rfl, ?_⟩) (by assumption) ?_
              rotate_left
              · (intro w hSw; (try dsimp only at hSw); go_simp <;> with_reducible rfl)
              simp only [Act.put, List.setIfInBounds_toArray, List.set_cons_zero, List.set_cons_succ]
              refine wpAnyH_take (i := 1) (v := ?_) (get1 (get0 _ _)) (by kernel_rfl) (by kernel_rfl) (by kernel_rfl) (fun _ _ _ h => h) (Or.inl ⟨by rfl, ?_⟩) (by assumption) ?_
              rotate_left
              · (intro w hSw; (try dsimp only at hSw); go_simp <;> with_reducible rfl)
              simp only [Act.put, List.setIfInBounds_toArray, List.set_cons_zero, List.set_cons_succ]
              refine wpAnyH_ready (rs := [2]) (by kernel_rfl) (by simp) ?_
              refine AllReadyH.cons (get1 (get1 (get0 _ _))) (fun K hK => ?_) AllReadyH.nil
              go_simp
              refine (name_any nm _).mono ?_
              rintro e y1 ⟨rfl, rfl⟩
              rw [HNM.out]
              have sy := hHeld
              clear hHeld
              try go_wp2_with fail
              refine hK.out _ _ sy (fun hHeld => ?_)
              clear hK K
              try simp only [Act.put, List.setIfInBounds_toArray, List.set_cons_zero, List.set_cons_succ]
              refine wpAnyH_take (i := 3) (v := ?_) (get1 (get1 (get1 (get0 _ _)))) (by kernel_rfl) (by kernel_rfl) (by kernel_rfl) (fun _ _ _ h => h) (Or.inl ⟨by rfl, ?_⟩) (by assumption) ?_
              rotate_left
              · (intro w hSw; (try dsimp only at hSw); go_simp <;> with_reducible rfl)
              simp only [Act.put, List.setIfInBounds_toArray, List.set_cons_zero, List.set_cons_succ]
              refine wpAnyH_take (i := 4) (v := ?_) (get1 (get1 (get1 (get1 (get0 _ _))))) (by kernel_rfl) (by kernel_rfl) (by kernel_rfl) (fun _ _ _ h => h) (Or.inl ⟨by rfl, ?_⟩) (by assumption) ?_
              rotate_left
              · (intro w hSw; (try dsimp only at hSw); go_simp <;> with_reducible rfl)
              simp only [Act.put, List.setIfInBounds_toArray, List.set_cons_zero, List.set_cons_succ]
              refine wpAnyH_take (i := 5) (v := ?_) (get1 (get1 (get1 (get1 (get1 (get0 _ _)))))) (by kernel_rfl) (by kernel_rfl) (by kernel_rfl) (fun _ _ _ h => h) (Or.inl ⟨by rfl, ?_⟩) (by assumption) ?_
              rotate_left
              · (intro w hSw; (try dsimp only at hSw); go_simp <;> with_reducible rfl)
              simp only [Act.put, List.setIfInBounds_toArray, List.set_cons_zero, List.set_cons_succ]
              refine wpAnyH_take (i := 6) (v := ?_) (get1 (get1 (get1 (get1 (get1 (get1 (get0 _ _))))))) (by kernel_rfl) (by kernel_rfl) (by kernel_rfl) (fun _ _ _ h => h) (Or.inl ⟨by rfl, ?_⟩) (by assumption) ?_
              rotate_left
              · (intro w hSw; (try dsimp only at hSw); go_simp <;> with_reducible rfl)
              simp only [Act.put, List.setIfInBounds_toArray, List.set_cons_zero, List.set_cons_succ]
              refine wpAnyH_take (i := 7) (v := ?_) (get1 (get1 (get1 (get1 (get1 (get1 (get1 (get0 _ _)))))))) (by kernel_rfl) (by kernel_rfl) (by kernel_rfl) (fun _ _ _ h => h) (Or.inl ⟨by rfl, ?_⟩) (by assumption) ?_
              rotate_left
              · (intro w hSw; (try dsimp only at hSw); go_simp <;> with_reducible rfl)
              simp only [Act.put, List.setIfInBounds_toArray, List.set_cons_zero, List.set_cons_succ]
              refine wpAnyH_take (i := 8) (v := ?_) (get1 (get1 (get1 (get1 (get1 (get1 (get1 (get1 (get0 _ _))))))))) (by kernel_rfl) (by kernel_rfl) (by kernel_rfl) (fun _ _ _ h => h) (Or.inl ⟨by rfl, ?_⟩) (by assumption) ?_
              rotate_left
              · (intro w hSw; (try dsimp only at hSw); go_simp <;> with_reducible rfl)
              simp only [Act.put, List.setIfInBounds_toArray, List.set_cons_zero, List.set_cons_succ]
              refine wpAnyH_take (i := 9) (v := ?_) (get1 (get1 (get1 (get1 (get1 (get1 (get1 (get1 (get1 (get0 _ _)))))))))) (by kernel_rfl) (by kernel_rfl) (by kernel_rfl) (fun _ _ _ h => h) (Or.inl ⟨by rfl, ?_⟩) (by assumption) ?_
              rotate_left
              · (intro w hSw; (try dsimp only at hSw); go_simp <;> with_reducible rfl)
              simp only [Act.put, List.setIfInBounds_toArray, List.set_cons_zero, List.set_cons_succ]
              refine wpAnyH_take (i := 10) (v := ?_) (get1 (get1 (get1 (get1 (get1 (get1 (get1 (get1 (get1 (get1 (get0 _ _))))))))))) (by kernel_rfl) (by kernel_rfl) (by kernel_rfl) (fun _ _ _ h => h) (Or.inl ⟨by rfl, ?_⟩) (by assumption) ?_
              rotate_left
              · (intro w hSw; (try dsimp only at hSw); go_simp <;> with_reducible rfl)
              simp only [Act.put, List.setIfInBounds_toArray, List.set_cons_zero, List.set_cons_succ]
              refine wpAnyH_take (i := 11) (v := ?_) (get1 (get1 (get1 (get1 (get1 (get1 (get1 (get1 (get1 (get1 (get1 (get0 _ _)))))))))))) (by kernel_rfl) (by kernel_rfl) (by kernel_rfl) (fun _ _ _ h => h) (Or.inl ⟨by rfl, ?_⟩) (by assumption) ?_
              rotate_left
              · (intro w hSw; (try dsimp only at hSw); go_simp <;> with_reducible rfl)
              simp only [Act.put, List.setIfInBounds_toArray, List.set_cons_zero, List.set_cons_succ]
              refine wpAnyH_take (i := 12) (v := ?_) (get1 (get1 (get1 (get1 (get1 (get1 (get1 (get1 (get1 (get1 (get1 (get1 (get0 _ _))))))))))))) (by kernel_rfl) (by kernel_rfl) (by kernel_rfl) (fun _ _ _ h => h) (Or.inl ⟨by rfl, ?_⟩) (by assumption) ?_
              rotate_left
              · (intro w hSw; (try dsimp only at hSw); go_simp <;> with_reducible rfl)
              simp only [Act.put, List.setIfInBounds_toArray, List.set_cons_zero, List.set_cons_succ]
              refine wpAnyH_take (i := 13) (v := ?_) (get1 (get1 (get1 (get1 (get1 (get1 (get1 (get1 (get1 (get1 (get1 (get1 (get1 (get0 _ _)))))))))))))) (by kernel_rfl) (by kernel_rfl) (by kernel_rfl) (fun _ _ _ h => h) (Or.inl ⟨by rfl, ?_⟩) (by assumption) ?_
              rotate_left
              · (intro w hSw; (try dsimp only at hSw); go_simp <;> with_reducible rfl)
              simp only [Act.put, List.setIfInBounds_toArray, List.set_cons_zero, List.set_cons_succ]
              refine wpAnyH_take (i := 14) (v := ?_) (get1 (get1 (get1 (get1 (get1 (get1 (get1 (get1 (get1 (get1 (get1 (get1 (get1 (get1 (get0 _ _))))))))))))))) (by kernel_rfl) (by kernel_rfl) (by kernel_rfl) (fun _ _ _ h => h) (Or.inl ⟨by rfl, ?_⟩) (by assumption) ?_
              rotate_left
              · (intro w hSw; (try dsimp only at hSw); go_simp <;> with_reducible rfl)
              simp only [Act.put, List.setIfInBounds_toArray, List.set_cons_zero, List.set_cons_succ]
              refine wpAnyH_ready (rs := [15]) (by kernel_rfl) (by simp) ?_
              refine AllReadyH.cons (get1 (get1 (get1 (get1 (get1 (get1 (get1 (get1 (get1 (get1 (get1 (get1 (get1 (get1 (get1 (get0 _ _)))))))))))))))) (fun K hK => ?_) AllReadyH.nil
              go_simp
              refine (room_any code kd _).mono ?_
              rintro e y2 ⟨rfl, hb2⟩
              rw [HRM.out]
              have sy : (y2.cell? ⟨wr.heap.size, 0, none⟩ = some (.string nm) ∧ y2.cell? ⟨wr.heap.size, 1, none⟩ = some (.int .i64 kd) ∧ y2.cell? ⟨wr.heap.size, 2, none⟩ = some (.int .i64 ps) ∧ y2.cell? ⟨w.heap.size, 0, none⟩ = some (.string code) ∧ y2.cell? ⟨w.heap.size, 1, none⟩ = some (.slice a1 l1 c1) ∧ y2.cell? ⟨w.heap.size, 2, none⟩ = some (.slice (some ⟨b, off, none⟩) l2 c2) ∧ y2.cell? ⟨w.heap.size, 3, none⟩ = some (.slice a3 l3 c3)) := ⟨cell_thru hb2 hHeld.1, cell_thru hb2 hHeld.2.1, cell_thru hb2 hHeld.2.2.1, cell_thru hb2 hHeld.2.2.2.1, cell_thru hb2 hHeld.2.2.2.2.1, cell_thru hb2 hHeld.2.2.2.2.2.1, cell_thru hb2 hHeld.2.2.2.2.2.2⟩
              clear hHeld
              try go_wp2_with fail
              refine hK.out _ _ sy (fun hHeld => ?_)
              clear hK K
              try simp only [Act.put, List.setIfInBounds_toArray, List.set_cons_zero, List.set_cons_succ]
              refine wpAnyH_take (i := 16) (v := ?_) (get1 (get1 (get1 (get1 (get1 (get1 (get1 (get1 (get1 (get1 (get1 (get1 (get1 (get1 (get1 (get1 (get0 _ _))))))))))))))))) (by kernel_rfl) (by kernel_rfl) (by kernel_rfl) (fun _ _ _ h => h) (Or.inl ⟨by rfl, ?_⟩) (by assumption) ?_
              rotate_left
              · (intro w hSw; (try dsimp only at hSw); go_simp <;> with_reducible rfl)
              simp only [Act.put, List.setIfInBounds_toArray, List.set_cons_zero, List.set_cons_succ]
              refine wpAnyH_take (i := 17) (v := ?_) (get1 (get1 (get1 (get1 (get1 (get1 (get1 (get1 (get1 (get1 (get1 (get1 (get1 (get1 (get1 (get1 (get1 (get0 _ _)))))))))))))))))) (by kernel_rfl) (by kernel_rfl) (by kernel_rfl) (fun _ _ _ h => h) (Or.inl ⟨by rfl, ?_⟩) (by assumption) ?_
              rotate_left
              · (intro w hSw; (try dsimp only at hSw); go_simp <;> with_reducible rfl)
              simp only [Act.put, List.setIfInBounds_toArray, List.set_cons_zero, List.set_cons_succ]
              refine wpAnyH_done (by kernel_rfl) ?_ _
              clear hHeld sy
              go_wp2_with fail
              go_ret
              exact ⟨by rw [HNO.out]; rfl, hbY.drew.trans (hb2.mono (by have := hbY.size; simpa using this))⟩
            · have hd1 : decide (rm ≤ ps) = false := decide_eq_false hge
              have HYES : Hid (symAt code.size l1 ss k = true) := by
                show _ = _
                rw [HSA.out, HSO.out, hnk, hrm, show decide (ps < rm) = true by simp; omega, show decide (0 ≤ ps) = true by simp; omega]
                rfl
              clear hnk hrm
              refine wp_region_held_drew (S := (fun w' : World => (w'.cell? ⟨wr.heap.size, 0, none⟩ = some (.string nm) ∧ w'.cell? ⟨wr.heap.size, 1, none⟩ = some (.int .i64 kd) ∧ w'.cell? ⟨wr.heap.size, 2, none⟩ = some (.int .i64 ps) ∧ w'.cell? ⟨w.heap.size, 0, none⟩ = some (.string code) ∧ w'.cell? ⟨w.heap.size, 1, none⟩ = some (.slice a1 l1 c1) ∧ w'.cell? ⟨w.heap.size, 2, none⟩ = some (.slice (some ⟨b, off, none⟩) l2 c2) ∧ w'.cell? ⟨w.heap.size, 3, none⟩ = some (.slice a3 l3 c3)))) (by kernel_rfl) HS.out (fun hHeld => ?_)
              refine wpAnyH_take (i := 0) (v := ?_) (get0 _ _) (by kernel_rfl) (by kernel_rfl) (by kernel_rfl) (fun _ _ _ h => h) (Or.inl ⟨by rfl, ?_⟩) (by assumption) ?_
              rotate_left
              · (intro w hSw; (try dsimp only at hSw); go_simp <;> with_reducible rfl)
              simp only [Act.put, List.setIfInBounds_toArray, List.set_cons_zero, List.set_cons_succ]
              refine wpAnyH_take (i := 1) (v := ?_) (get1 (get0 _ _)) (by kernel_rfl) (by kernel_rfl) (by kernel_rfl) (fun _ _ _ h => h) (Or.inl ⟨by rfl, ?_⟩) (by assumption) ?_
              rotate_left
              · (intro w hSw; (try dsimp only at hSw); go_simp <;> with_reducible rfl)
              simp only [Act.put, List.setIfInBounds_toArray, List.set_cons_zero, List.set_cons_succ]
              refine wpAnyH_ready (rs := [2]) (by kernel_rfl) (by simp) ?_
              refine AllReadyH.cons (get1 (get1 (get0 _ _))) (fun K hK => ?_) AllReadyH.nil
              go_simp
              refine (name_any nm _).mono ?_
              rintro e y1 ⟨rfl, rfl⟩
              rw [HNM.out]
              have sy := hHeld
              clear hHeld
              try go_wp2_with fail
              refine hK.out _ _ sy (fun hHeld => ?_)
              clear hK K
              try simp only [Act.put, List.setIfInBounds_toArray, List.set_cons_zero, List.set_cons_succ]
              refine wpAnyH_take (i := 3) (v := ?_) (get1 (get1 (get1 (get0 _ _)))) (by kernel_rfl) (by kernel_rfl) (by kernel_rfl) (fun _ _ _ h => h) (Or.inl ⟨by rfl, ?_⟩) (by assumption) ?_
              rotate_left
              · (intro w hSw; (try dsimp only at hSw); go_simp <;> with_reducible rfl)
              simp only [Act.put, List.setIfInBounds_toArray, List.set_cons_zero, List.set_cons_succ]
              refine wpAnyH_take (i := 4) (v := ?_) (get1 (get1 (get1 (get1 (get0 _ _))))) (by kernel_rfl) (by kernel_rfl) (by kernel_rfl) (fun _ _ _ h => h) (Or.inl ⟨by rfl, ?_⟩) (by assumption) ?_
              rotate_left
              · (intro w hSw; (try dsimp only at hSw); go_simp <;> with_reducible rfl)
              simp only [Act.put, List.setIfInBounds_toArray, List.set_cons_zero, List.set_cons_succ]
              refine wpAnyH_take (i := 5) (v := ?_) (get1 (get1 (get1 (get1 (get1 (get0 _ _)))))) (by kernel_rfl) (by kernel_rfl) (by kernel_rfl) (fun _ _ _ h => h) (Or.inl ⟨by rfl, ?_⟩) (by assumption) ?_
              rotate_left
              · (intro w hSw; (try dsimp only at hSw); go_simp <;> with_reducible rfl)
              simp only [Act.put, List.setIfInBounds_toArray, List.set_cons_zero, List.set_cons_succ]
              refine wpAnyH_take (i := 6) (v := ?_) (get1 (get1 (get1 (get1 (get1 (get1 (get0 _ _))))))) (by kernel_rfl) (by kernel_rfl) (by kernel_rfl) (fun _ _ _ h => h) (Or.inl ⟨by rfl, ?_⟩) (by assumption) ?_
              rotate_left
              · (intro w hSw; (try dsimp only at hSw); go_simp <;> with_reducible rfl)
              simp only [Act.put, List.setIfInBounds_toArray, List.set_cons_zero, List.set_cons_succ]
              refine wpAnyH_take (i := 7) (v := ?_) (get1 (get1 (get1 (get1 (get1 (get1 (get1 (get0 _ _)))))))) (by kernel_rfl) (by kernel_rfl) (by kernel_rfl) (fun _ _ _ h => h) (Or.inl ⟨by rfl, ?_⟩) (by assumption) ?_
              rotate_left
              · (intro w hSw; (try dsimp only at hSw); go_simp <;> with_reducible rfl)
              simp only [Act.put, List.setIfInBounds_toArray, List.set_cons_zero, List.set_cons_succ]
              refine wpAnyH_take (i := 8) (v := ?_) (get1 (get1 (get1 (get1 (get1 (get1 (get1 (get1 (get0 _ _))))))))) (by kernel_rfl) (by kernel_rfl) (by kernel_rfl) (fun _ _ _ h => h) (Or.inl ⟨by rfl, ?_⟩) (by assumption) ?_
              rotate_left
              · (intro w hSw; (try dsimp only at hSw); go_simp <;> with_reducible rfl)
              simp only [Act.put, List.setIfInBounds_toArray, List.set_cons_zero, List.set_cons_succ]
              refine wpAnyH_take (i := 9) (v := ?_) (get1 (get1 (get1 (get1 (get1 (get1 (get1 (get1 (get1 (get0 _ _)))))))))) (by kernel_rfl) (by kernel_rfl) (by kernel_rfl) (fun _ _ _ h => h) (Or.inl ⟨by rfl, ?_⟩) (by assumption) ?_
              rotate_left
              · (intro w hSw; (try dsimp only at hSw); go_simp <;> with_reducible rfl)
              simp only [Act.put, List.setIfInBounds_toArray, List.set_cons_zero, List.set_cons_succ]
              refine wpAnyH_take (i := 10) (v := ?_) (get1 (get1 (get1 (get1 (get1 (get1 (get1 (get1 (get1 (get1 (get0 _ _))))))))))) (by kernel_rfl) (by kernel_rfl) (by kernel_rfl) (fun _ _ _ h => h) (Or.inl ⟨by rfl, ?_⟩) (by assumption) ?_
              rotate_left
              · (intro w hSw; (try dsimp only at hSw); go_simp <;> with_reducible rfl)
              simp only [Act.put, List.setIfInBounds_toArray, List.set_cons_zero, List.set_cons_succ]
              refine wpAnyH_take (i := 11) (v := ?_) (get1 (get1 (get1 (get1 (get1 (get1 (get1 (get1 (get1 (get1 (get1 (get0 _ _)))))))))))) (by kernel_rfl) (by kernel_rfl) (by kernel_rfl) (fun _ _ _ h => h) (Or.inl ⟨by rfl, ?_⟩) (by assumption) ?_
              rotate_left
              · (intro w hSw; (try dsimp only at hSw); go_simp <;> with_reducible rfl)
              simp only [Act.put, List.setIfInBounds_toArray, List.set_cons_zero, List.set_cons_succ]
              refine wpAnyH_take (i := 12) (v := ?_) (get1 (get1 (get1 (get1 (get1 (get1 (get1 (get1 (get1 (get1 (get1 (get1 (get0 _ _))))))))))))) (by kernel_rfl) (by kernel_rfl) (by kernel_rfl) (fun _ _ _ h => h) (Or.inl ⟨by rfl, ?_⟩) (by assumption) ?_
              rotate_left
              · (intro w hSw; (try dsimp only at hSw); go_simp <;> with_reducible rfl)
              simp only [Act.put, List.setIfInBounds_toArray, List.set_cons_zero, List.set_cons_succ]
              refine wpAnyH_take (i := 13) (v := ?_) (get1 (get1 (get1 (get1 (get1 (get1 (get1 (get1 (get1 (get1 (get1 (get1 (get1 (get0 _ _)))))))))))))) (by kernel_rfl) (by kernel_rfl) (by kernel_rfl) (fun _ _ _ h => h) (Or.inl ⟨by rfl, ?_⟩) (by assumption) ?_
              rotate_left
              · (intro w hSw; (try dsimp only at hSw); go_simp <;> with_reducible rfl)
              simp only [Act.put, List.setIfInBounds_toArray, List.set_cons_zero, List.set_cons_succ]
              refine wpAnyH_take (i := 14) (v := ?_) (get1 (get1 (get1 (get1 (get1 (get1 (get1 (get1 (get1 (get1 (get1 (get1 (get1 (get1 (get0 _ _))))))))))))))) (by kernel_rfl) (by kernel_rfl) (by kernel_rfl) (fun _ _ _ h => h) (Or.inl ⟨by rfl, ?_⟩) (by assumption) ?_
              rotate_left
              · (intro w hSw; (try dsimp only at hSw); go_simp <;> with_reducible rfl)
              simp only [Act.put, List.setIfInBounds_toArray, List.set_cons_zero, List.set_cons_succ]
              refine wpAnyH_ready (rs := [15]) (by kernel_rfl) (by simp) ?_
              refine AllReadyH.cons (get1 (get1 (get1 (get1 (get1 (get1 (get1 (get1 (get1 (get1 (get1 (get1 (get1 (get1 (get1 (get0 _ _)))))))))))))))) (fun K hK => ?_) AllReadyH.nil
              go_simp
              refine (room_any code kd _).mono ?_
              rintro e y2 ⟨rfl, hb2⟩
              rw [HRM.out]
              have sy : (y2.cell? ⟨wr.heap.size, 0, none⟩ = some (.string nm) ∧ y2.cell? ⟨wr.heap.size, 1, none⟩ = some (.int .i64 kd) ∧ y2.cell? ⟨wr.heap.size, 2, none⟩ = some (.int .i64 ps) ∧ y2.cell? ⟨w.heap.size, 0, none⟩ = some (.string code) ∧ y2.cell? ⟨w.heap.size, 1, none⟩ = some (.slice a1 l1 c1) ∧ y2.cell? ⟨w.heap.size, 2, none⟩ = some (.slice (some ⟨b, off, none⟩) l2 c2) ∧ y2.cell? ⟨w.heap.size, 3, none⟩ = some (.slice a3 l3 c3)) := ⟨cell_thru hb2 hHeld.1, cell_thru hb2 hHeld.2.1, cell_thru hb2 hHeld.2.2.1, cell_thru hb2 hHeld.2.2.2.1, cell_thru hb2 hHeld.2.2.2.2.1, cell_thru hb2 hHeld.2.2.2.2.2.1, cell_thru hb2 hHeld.2.2.2.2.2.2⟩
              clear hHeld
              try go_wp2_with fail
              refine hK.out _ _ sy (fun hHeld => ?_)
              clear hK K
              try simp only [Act.put, List.setIfInBounds_toArray, List.set_cons_zero, List.set_cons_succ]
              refine wpAnyH_take (i := 16) (v := ?_) (get1 (get1 (get1 (get1 (get1 (get1 (get1 (get1 (get1 (get1 (get1 (get1 (get1 (get1 (get1 (get1 (get0 _ _))))))))))))))))) (by kernel_rfl) (by kernel_rfl) (by kernel_rfl) (fun _ _ _ h => h) (Or.inl ⟨by rfl, ?_⟩) (by assumption) ?_
              rotate_left
              · (intro w hSw; (try dsimp only at hSw); go_simp <;> with_reducible rfl)
              simp only [Act.put, List.setIfInBounds_toArray, List.set_cons_zero, List.set_cons_succ]
              refine wpAnyH_take (i := 17) (v := ?_) (get1 (get1 (get1 (get1 (get1 (get1 (get1 (get1 (get1 (get1 (get1 (get1 (get1 (get1 (get1 (get1 (get1 (get0 _ _)))))))))))))))))) (by kernel_rfl) (by kernel_rfl) (by kernel_rfl) (fun _ _ _ h => h) (Or.inl ⟨by rfl, ?_⟩) (by assumption) ?_
              rotate_left
              · (intro w hSw; (try dsimp only at hSw); go_simp <;> with_reducible rfl)
              simp only [Act.put, List.setIfInBounds_toArray, List.set_cons_zero, List.set_cons_succ]
              refine wpAnyH_done (by kernel_rfl) ?_ _
              have HC1 : Hid (Below (w.heap.size + 1) W2 y2) := HBX.out.trans ((Below.refl _ _).drew.trans (hb2.mono (by show w.heap.size + 1 ≤ Y2.heap.size; have := HBX.out.size; omega)))
              have HOM : Hid (y2.ownsMap Tryd.prog 9 unitElem (w.heap.size + 1) k (nset ((ss.map Sym.name).take k))) := HMX.out.kept (row := none) ⟨hb2.os, hb2.tape, hb2.output, hb2.size, fun j hj _ => hb2.block j hj⟩ (by simp)
              clear hHeld hb2
              go_wp2_with (first | (at_mapUpdate; refine wpList_mapUpdate_own _ rfl _ _ _ 152 rfl 9 127 lawS Tryd.underlying152 (unitElem (H := Unit)) (w.heap.size + 1) k _ rfl HOM.out (by unfold maxLen; omega) _ _ _ rfl rfl hkey _ [] unitElem_mk ?_) | go_in)
              intro w5 hown5 hg5
              have HO5 : Hid (w5.ownsMap Tryd.prog 9 unitElem (w.heap.size + 1) (k + 1) (nset ((ss.map Sym.name).take (k + 1)))) := by
                show World.ownsMap _ _ _ _ _ _ _
                rw [HTK.out, nset_snoc]
                exact hown5
              have HB5 : Hid (Below (w.heap.size + 1) W2 w5) := HC1.out.grown hg5 (by have := HC1.out.size; omega) (fun j hj => by cases hj; exact Nat.le_refl _)
              have HA5 : Hid (∀ i, i < k + 1 → symAt code.size l1 ss i = true) := fun i hi => by
                rcases Nat.lt_or_ge i k with c | c
                · exact HAL.out i c
                · obtain rfl : i = k := by omega
                  exact HYES.out
              clear hown5 hg5
              go_wp2_with fail
              go_roundg (l2 - (k + 1))
              case measure => omega
              case rel => exact ⟨k + 1, by first | rfl | (congr 1; omega), by omega, Nat.le_refl _, HO5.out, HA5.out, HB5.out⟩
    · obtain rfl : k = l2 := by omega
      have HYA : Hid (symsOk code.size l1 ss = true) := by
        show _ = _
        unfold symsOk
        rw [show decide (ss.length ≤ 1000) = true by simp; omega, all_range_yes (fun i hi => HAL.out i (by omega))]
        rfl
      go_wp2_with fail
      go_ret
      exact ⟨by rw [HYA.out]; rfl, hbw⟩

end Go.Proofs.YtmplnkfjaeegdaaDoor

/- What relocsMayBe and Check come to. -/
namespace Go.Proofs.YtmplnkfjaeegdaaDoor
set_option maxRecDepth 100000
open Go.RowKit Go.Maps
set_option linter.unusedVariables false

theorem rels_no {cl : Nat} {rs : List Rel} {k : Nat} (hk : k < rs.length) (h : relOk cl (freeAt rs k) (rs.getD k noRel) = false) : relsOk cl rs = false := by
  unfold relsOk
  rw [all_range_no hk h, Bool.and_false]

set_option maxRecDepth 100000 in
set_option maxHeartbeats 8000000 in
theorem rels_any {w : World} (code : ByteArray) {a1 a2 a3 : Option Addr} {l1 c1 l2 c2 l3 c3 : Nat} {rs : List Rel} (h : RelsV w a3 l3 c3 rs) (hcs : code.size ≤ maxLen) :
    Calls Tryd.prog 69 #[.agg #[.string code, .slice a1 l1 c1, .slice a2 l2 c2, .slice a3 l3 c3]] w fun e w' => e = .returned (.bool (relsOk code.size rs)) ∧ Below w.heap.size w w' := by
  have HV : Hid _ := h
  have hcnt := h.count
  have hcs' : code.size ≤ 9223372036854775807 := by unfold maxLen at hcs; omega
  clear h hcs
  by_cases hbig : (8000 : Int) < l3
  · have HNO : Hid (relsOk code.size rs = false) := by show _ = _; unfold relsOk; rw [show decide (rs.length ≤ 8000) = false by simp; omega, Bool.false_and]
    have hb : Below w.heap.size w (w.alloc (.cells #[.string code, .slice a1 l1 c1, .slice a2 l2 c2, .slice a3 l3 c3] 90)) := bl_one _ _
    go_enter Tryd.func69, Tryd.ntmps69
    go_wp2
    go_ret
    exact ⟨by rw [HNO.out]; rfl, hb⟩
  obtain ⟨W1, hW1⟩ : ∃ W1, w.alloc (.cells #[.string code, .slice a1 l1 c1, .slice a2 l2 c2, .slice a3 l3 c3] 90) = W1 := ⟨_, rfl⟩
  have s1 : W1.heap.size = w.heap.size + 1 := by subst hW1; simp
  have b1 : Below w.heap.size w W1 := by subst hW1; exact bl_one _ _
  have v0 : W1.cell? ⟨w.heap.size, 0, none⟩ = some (.string code) := by subst hW1; exact cell_last rfl rfl
  have v3 : W1.cell? ⟨w.heap.size, 3, none⟩ = some (.slice a3 l3 c3) := by subst hW1; exact cell_last rfl rfl
  go_enter Tryd.func69, Tryd.ntmps69
  go_wp2_with fail
  go_loopg [3, 13] l3 (fun r fv iv wq => ∃ (k : Nat) (f : Int), iv = .int .i64 k ∧ fv = .int .i64 f ∧ 0 ≤ f ∧ k ≤ l3 ∧ l3 - k ≤ r ∧ Hid (f = freeAt rs k) ∧ Hid (∀ i, i < k → relOk code.size (freeAt rs i) (rs.getD i noRel) = true) ∧ Hid (Below (w.heap.size + 1) W1 wq))
  case atStart => exact ⟨0, 0, rfl, rfl, Int.le_refl _, Nat.zero_le _, by omega, rfl, (fun i hi => by omega : ∀ i, i < 0 → relOk code.size (freeAt rs i) (rs.getD i noRel) = true), Below.refl _ _⟩
  case round =>
    obtain ⟨k, f, rfl, rfl, hf0, hk, hr, HF, HAL, HBL⟩ := hrel
    have hbw : Below w.heap.size w wr := b1.trans (HBL.out.mono (Nat.le_succ _))
    have zw : w.heap.size + 1 ≤ wr.heap.size := by have := HBL.out.size; omega
    have u0 := (HBL.out.cell (p := ⟨w.heap.size, 0, none⟩) (Nat.lt_succ_self _)).trans v0
    by_cases hlt : k < l3
    · rcases HV.out.cells with h0 | ⟨b, off, hA, hc⟩
      · omega
      obtain ⟨k0, k1, k2, k3⟩ := hc k hlt
      have hbl : b < w.heap.size := World.block_lt_of_cell? w ⟨b, off + k * 4, none⟩ k0
      have q0 := (hbw.cell (p := ⟨b, off + k * 4, none⟩) hbl).trans k0
      have q1 := (hbw.cell (p := ⟨b, off + k * 4 + 1, none⟩) hbl).trans k1
      have q2 := (hbw.cell (p := ⟨b, off + k * 4 + 2, none⟩) hbl).trans k2
      have q3 := (hbw.cell (p := ⟨b, off + k * 4 + 3, none⟩) hbl).trans k3
      have HRO : Hid (relOk code.size (freeAt rs k) (rs.getD k noRel) = ((decide (f ≤ (rs.getD k noRel).pos) && decide ((rs.getD k noRel).pos ≤ (code.size : Int) - 4)) && (nameOk (rs.getD k noRel).name && addOk (rs.getD k noRel).kind (rs.getD k noRel).add))) := by
        show _ = _
        rw [HF.out]
        rfl
      have HFN : Hid (freeAt rs (k + 1) = (rs.getD k noRel).pos + 4) := by
        show _ = _
        unfold freeAt
        rw [if_neg (by omega)]
        rfl
      obtain ⟨ps, hps⟩ : ∃ ps, (rs.getD k noRel).pos = ps := ⟨_, rfl⟩
      obtain ⟨kd, hkd⟩ : ∃ kd, (rs.getD k noRel).kind = kd := ⟨_, rfl⟩
      obtain ⟨nm, hnm⟩ : ∃ nm, (rs.getD k noRel).name = nm := ⟨_, rfl⟩
      obtain ⟨ad, had⟩ : ∃ ad, (rs.getD k noRel).add = ad := ⟨_, rfl⟩
      rw [hps] at q0 HRO HFN
      rw [hkd] at q1 HRO
      rw [hnm] at q2 HRO
      rw [had] at q3 HRO
      have HNO : Hid (((decide (f ≤ ps) && decide (ps ≤ (code.size : Int) - 4)) && (nameOk nm && addOk kd ad)) = false → relsOk code.size rs = false) := fun h => rels_no (k := k) (by omega) (by rw [HRO.out]; exact h)
      subst hA
      have hii : (k : Int) < l3 := by omega
      have hin : 0 ≤ (k : Int) := by omega
      clear hc k0 k1 k2 k3 hps hkd hnm had
      obtain ⟨Y1, hY1⟩ : ∃ Y1, wr.alloc (.cells #[.int .i64 ps, .int .i64 kd, .string nm, .int .i64 ad] 156) = Y1 := ⟨_, rfl⟩
      have bY : Below wr.heap.size wr Y1 := by subst hY1; exact bl_one _ _
      have g0 : Y1.cell? ⟨wr.heap.size, 0, none⟩ = some (.int .i64 ps) := by subst hY1; exact cell_last rfl rfl
      have g1 : Y1.cell? ⟨wr.heap.size, 1, none⟩ = some (.int .i64 kd) := by subst hY1; exact cell_last rfl rfl
      have g2 : Y1.cell? ⟨wr.heap.size, 2, none⟩ = some (.string nm) := by subst hY1; exact cell_last rfl rfl
      have g3 : Y1.cell? ⟨wr.heap.size, 3, none⟩ = some (.int .i64 ad) := by subst hY1; exact cell_last rfl rfl
      have x0 := cell_thru bY u0
      have hbY : Below w.heap.size w Y1 := hbw.trans (bY.mono hbw.size)
      have HBY : Hid (Below (w.heap.size + 1) W1 Y1) := HBL.out.trans (bY.mono zw)
      clear bY
      by_cases hf : ps < f
      · have HN : Hid (relsOk code.size rs = false) := HNO.out (by rw [show decide (f ≤ ps) = false by simp; omega]; rfl)
        go_wp2_with fail
        go_ret
        exact ⟨by rw [HN.out]; rfl, hbY⟩
      · have hd0 : decide (ps < f) = false := decide_eq_false hf
        by_cases hg : (code.size : Int) - 4 < ps
        · have HN : Hid (relsOk code.size rs = false) := HNO.out (by rw [show decide (ps ≤ (code.size : Int) - 4) = false by simp; omega]; simp)
          go_wp2_with fail
          go_ret
          exact ⟨by rw [HN.out]; rfl, hbY⟩
        · have hd1 : decide ((code.size : Int) - 4 < ps) = false := decide_eq_false hg
          have HD : Hid ((decide (f ≤ ps) && decide (ps ≤ (code.size : Int) - 4)) = true) := by show _ = _; simp; omega
          go_wp2_with fail
          refine (name_any nm _).mono ?_
          rintro e y1 ⟨rfl, rfl⟩
          cases hnk : nameOk nm with
          | false =>
            have HN : Hid (relsOk code.size rs = false) := HNO.out (by rw [hnk]; simp)
            clear hnk
            go_wp2_with fail
            go_ret
            exact ⟨by rw [HN.out]; rfl, hbY⟩
          | true =>
            have HNK : Hid _ := hnk
            clear hnk
            go_wp2_with fail
            refine (add_any kd ad _).mono ?_
            rintro e y2 ⟨rfl, rfl⟩
            cases hak : addOk kd ad with
            | false =>
              have HN : Hid (relsOk code.size rs = false) := HNO.out (by rw [hak]; simp)
              clear hak
              go_wp2_with fail
              go_ret
              exact ⟨by rw [HN.out]; rfl, hbY⟩
            | true =>
              have HY : Hid (∀ i, i < k + 1 → relOk code.size (freeAt rs i) (rs.getD i noRel) = true) := fun i hi => by
                rcases Nat.lt_or_ge i k with c | c
                · exact HAL.out i c
                · obtain rfl : i = k := by omega
                  rw [HRO.out, HD.out, HNK.out, hak]
                  rfl
              clear hak
              go_wp2_with fail
              go_roundg (l3 - (k + 1))
              case measure => omega
              case rel => exact ⟨k + 1, ps + 4, by first | rfl | (congr 1; omega), by first | rfl | (congr 1; omega), by omega, by omega, Nat.le_refl _, HFN.out.symm, HY.out, HBY.out⟩
    · obtain rfl : k = l3 := by omega
      have HYA : Hid (relsOk code.size rs = true) := by
        show _ = _
        unfold relsOk
        rw [show decide (rs.length ≤ 8000) = true by simp; omega, all_range_yes (fun i hi => HAL.out i (by omega))]
        rfl
      go_wp2_with fail
      go_ret
      exact ⟨by rw [HYA.out]; rfl, hbw⟩

set_option maxRecDepth 100000 in
set_option maxHeartbeats 8000000 in
theorem check_any {w : World} {v : Value} {o : ObjD} (h : ObjV w v o) :
    Calls Tryd.prog 41 #[v] w fun e w' => e = .returned (.int .i64 (if o.may then 0 else 1)) ∧ Below w.heap.size w w' := by
  obtain ⟨z, hz⟩ : ∃ z : Int, (if o.may then 0 else 1) = z := ⟨_, rfl⟩
  rw [hz]
  have HZ0 : Hid (o.may = false → z = 1) := fun hm => by rw [← hz, hm]; rfl
  have HZ1 : Hid (o.may = true → z = 0) := fun hm => by rw [← hz, hm]; rfl
  clear hz
  obtain ⟨a1, l1, c1, a2, l2, c2, a3, l3, c3, rfl, hcs, h1, h2, h3⟩ := h.form
  obtain ⟨code, data, syms, rels⟩ := o
  simp only at hcs h1 h2 h3
  have hd := h1.count
  have HM : Hid ((ObjD.mk code data syms rels).may = ((decide (code.size ≤ 65536) && decide (l1 ≤ 4096)) && (symsOk code.size l1 syms && relsOk code.size rels))) := by
    show _ = _
    unfold ObjD.may
    rw [← hd]
  have H2 : Hid _ := h2
  have H3 : Hid _ := h3
  have HCS : Hid _ := hcs
  clear h h1 h2 h3 hcs hd
  obtain ⟨W1, hW1⟩ : ∃ W1, w.alloc (.cells #[.string code, .slice a1 l1 c1, .slice a2 l2 c2, .slice a3 l3 c3] 90) = W1 := ⟨_, rfl⟩
  have b1 : Below w.heap.size w W1 := by subst hW1; exact bl_one _ _
  have v0 : W1.cell? ⟨w.heap.size, 0, none⟩ = some (.string code) := by subst hW1; exact cell_last rfl rfl
  have v1 : W1.cell? ⟨w.heap.size, 1, none⟩ = some (.slice a1 l1 c1) := by subst hW1; exact cell_last rfl rfl
  have v2 : W1.cell? ⟨w.heap.size, 2, none⟩ = some (.slice a2 l2 c2) := by subst hW1; exact cell_last rfl rfl
  have v3 : W1.cell? ⟨w.heap.size, 3, none⟩ = some (.slice a3 l3 c3) := by subst hW1; exact cell_last rfl rfl
  by_cases hc : (65536 : Int) < code.size
  · have HN : Hid ((ObjD.mk code data syms rels).may = false) := by show _ = _; rw [HM.out, show decide (code.size ≤ 65536) = false by simp; omega]; rfl
    go_enter Tryd.func41, Tryd.ntmps41
    go_wp2_with fail
    go_ret
    exact ⟨by rw [HZ0.out HN.out]; rfl, b1⟩
  by_cases hl : (4096 : Int) < l1
  · have HN : Hid ((ObjD.mk code data syms rels).may = false) := by show _ = _; rw [HM.out, show decide (l1 ≤ 4096) = false by simp; omega]; simp
    have hc0 : decide ((65536 : Int) < code.size) = false := decide_eq_false hc
    go_enter Tryd.func41, Tryd.ntmps41
    go_wp2_with fail
    go_ret
    exact ⟨by rw [HZ0.out HN.out]; rfl, b1⟩
  have HD : Hid ((decide (code.size ≤ 65536) && decide (l1 ≤ 4096)) = true) := by show _ = _; simp; omega
  have hc0 : decide ((65536 : Int) < code.size) = false := decide_eq_false hc
  have hl0 : decide ((4096 : Int) < l1) = false := decide_eq_false hl
  go_enter Tryd.func41, Tryd.ntmps41
  go_wp2_with fail
  refine (syms_any code (H2.out.below b1)).mono ?_
  rintro e y1 ⟨rfl, hb1⟩
  have x0 := cell_thru hb1 v0
  have x1 := cell_thru hb1 v1
  have x2 := cell_thru hb1 v2
  have x3 := cell_thru hb1 v3
  have q1 : Below w.heap.size w y1 := b1.trans (hb1.mono b1.size)
  clear hb1
  cases hs : symsOk code.size l1 syms with
  | false =>
    have HN : Hid ((ObjD.mk code data syms rels).may = false) := by show _ = _; rw [HM.out, hs]; simp
    clear hs
    go_wp2_with fail
    go_ret
    exact ⟨by rw [HZ0.out HN.out]; rfl, q1⟩
  | true =>
    have HS : Hid _ := hs
    clear hs
    go_wp2_with fail
    refine (rels_any code (H3.out.below q1) HCS.out).mono ?_
    rintro e y2 ⟨rfl, hb2⟩
    have q2 : Below w.heap.size w y2 := q1.trans (hb2.mono q1.size)
    clear hb2
    cases hr : relsOk code.size rels with
    | false =>
      have HN : Hid ((ObjD.mk code data syms rels).may = false) := by show _ = _; rw [HM.out, hr]; simp
      clear hr
      go_wp2_with fail
      go_ret
      exact ⟨by rw [HZ0.out HN.out]; rfl, q2⟩
    | true =>
      have HN : Hid ((ObjD.mk code data syms rels).may = true) := by show _ = _; rw [HM.out, hr, HS.out, HD.out]; rfl
      clear hr
      go_wp2_with fail
      go_ret
      exact ⟨by rw [HZ1.out HN.out]; rfl, q2⟩

end Go.Proofs.YtmplnkfjaeegdaaDoor
