/- Objects: what may be, no program in sight; and how an object lies. -/
import Derived.Test.YtgjingleolhkbaaGreatDoorMGf
import Derived.WalkKit
import Derived.WalkSpells
import Derived.WalkLawsBesides
import Derived.Maps.OwnSet
import Derived.Maps.Keyed
import Derived.OpenShut
import Derived.Deep.LoopGhost
import Derived.Deep.RegionHeld3
import Derived.StringKeys
import Derived.BigQuiet
namespace Go.Proofs.YtgjingleolhkbaaGreatDoor.O
open Go.RowKit Go.Maps


def nameOk (s : ByteArray) : Bool := decide (1 ≤ s.size) && decide (s.size ≤ 28)
def roomOf (cl dl : Nat) (k : Int) : Int := if k = 1 ∨ k = 3 then cl else if k = 2 then dl else 0
def addOk (k n : Int) : Bool := if k = 1 then decide (n = 0) else if k = 2 then decide (-2147483648 ≤ n) && decide (n ≤ 2147483647) else false
def symOk (cl dl : Nat) (s : Sym) : Bool := nameOk s.name && (decide (0 ≤ s.pos) && decide (s.pos < roomOf cl dl s.kind))
def symAt (cl dl : Nat) (ss : List Sym) (i : Nat) : Bool := (List.range i).all (fun j => decide ((ss.getD j noSym).name ≠ (ss.getD i noSym).name)) && symOk cl dl (ss.getD i noSym)
def symsOk (cl dl : Nat) (ss : List Sym) : Bool := decide (ss.length ≤ 1000) && (List.range ss.length).all (symAt cl dl ss)
def freeAt (rs : List Rel) (i : Nat) : Int := if i = 0 then 0 else (rs.getD (i - 1) noRel).pos + 4
def relOk (cl : Nat) (free : Int) (r : Rel) : Bool := (decide (free ≤ r.pos) && decide (r.pos ≤ (cl : Int) - 4)) && (nameOk r.name && addOk r.kind r.add)
def relsOk (cl : Nat) (rs : List Rel) : Bool := decide (rs.length ≤ 8000) && (List.range rs.length).all fun i => relOk cl (freeAt rs i) (rs.getD i noRel)
def ObjD.may (o : ObjD) : Bool := (decide (o.code.size ≤ 65536) && decide (o.data.length ≤ 4096)) && (symsOk o.code.size o.data.length o.syms && relsOk o.code.size o.rels)

theorem all_range_no {n i : Nat} {f : Nat → Bool} (hi : i < n) (h : f i = false) : (List.range n).all f = false := by
  rw [← Bool.not_eq_true, List.all_eq_true]
  intro h'
  have := h' i (List.mem_range.2 hi)
  rw [h] at this
  cases this
theorem all_range_yes {n : Nat} {f : Nat → Bool} (h : ∀ i, i < n → f i = true) : (List.range n).all f = true := by
  rw [List.all_eq_true]
  intro i hi
  exact h i (List.mem_range.1 hi)

/-- Lists as they lie. -/
structure IntsV (w : World) (a : Option Addr) (len cap : Nat) (zs : List Int) : Prop where
  count : zs.length = len
  fits : ∀ n ∈ zs, (Lit.int .i64 n).wf = true
  nilOf : a = none → len = 0 ∧ cap = 0
  cells : len = 0 ∨ ∃ b off, a = some ⟨b, off, none⟩ ∧ ∀ i, i < len → w.cell? ⟨b, off + i, none⟩ = some (.int .i64 (zs.getD i 0))
structure SymsV (w : World) (a : Option Addr) (len cap : Nat) (ss : List Sym) : Prop where
  count : ss.length = len
  fits : ∀ s ∈ ss, s.name.size ≤ maxLen ∧ (Lit.int .i64 s.kind).wf = true ∧ (Lit.int .i64 s.pos).wf = true
  nilOf : a = none → len = 0 ∧ cap = 0
  cells : len = 0 ∨ ∃ b off, a = some ⟨b, off, none⟩ ∧ ∀ i, i < len → w.cell? ⟨b, off + i * 3, none⟩ = some (.string (ss.getD i noSym).name) ∧ w.cell? ⟨b, off + i * 3 + 1, none⟩ = some (.int .i64 (ss.getD i noSym).kind) ∧ w.cell? ⟨b, off + i * 3 + 2, none⟩ = some (.int .i64 (ss.getD i noSym).pos)
structure RelsV (w : World) (a : Option Addr) (len cap : Nat) (rs : List Rel) : Prop where
  count : rs.length = len
  fits : ∀ r ∈ rs, r.name.size ≤ maxLen ∧ (Lit.int .i64 r.kind).wf = true ∧ (Lit.int .i64 r.pos).wf = true ∧ (Lit.int .i64 r.add).wf = true
  nilOf : a = none → len = 0 ∧ cap = 0
  cells : len = 0 ∨ ∃ b off, a = some ⟨b, off, none⟩ ∧ ∀ i, i < len → w.cell? ⟨b, off + i * 4, none⟩ = some (.int .i64 (rs.getD i noRel).pos) ∧ w.cell? ⟨b, off + i * 4 + 1, none⟩ = some (.int .i64 (rs.getD i noRel).kind) ∧ w.cell? ⟨b, off + i * 4 + 2, none⟩ = some (.string (rs.getD i noRel).name) ∧ w.cell? ⟨b, off + i * 4 + 3, none⟩ = some (.int .i64 (rs.getD i noRel).add)

theorem IntsV.below {w w1 : World} {a : Option Addr} {len cap : Nat} {zs : List Int} (h : IntsV w a len cap zs) (hb : Below w.heap.size w w1) : IntsV w1 a len cap zs := by
  refine ⟨h.count, h.fits, h.nilOf, ?_⟩
  rcases h.cells with h0 | ⟨b, off, ha, hc⟩
  · exact .inl h0
  · exact .inr ⟨b, off, ha, fun i hi => (hb.cell (p := ⟨b, off + i, none⟩) (World.block_lt_of_cell? w ⟨b, off + i, none⟩ (hc i hi))).trans (hc i hi)⟩
theorem SymsV.below {w w1 : World} {a : Option Addr} {len cap : Nat} {ss : List Sym} (h : SymsV w a len cap ss) (hb : Below w.heap.size w w1) : SymsV w1 a len cap ss := by
  refine ⟨h.count, h.fits, h.nilOf, ?_⟩
  rcases h.cells with h0 | ⟨b, off, ha, hc⟩
  · exact .inl h0
  · refine .inr ⟨b, off, ha, fun i hi => ?_⟩
    obtain ⟨k0, k1, k2⟩ := hc i hi
    have hbl : b < w.heap.size := World.block_lt_of_cell? w ⟨b, off + i * 3, none⟩ k0
    exact ⟨(hb.cell (p := ⟨b, off + i * 3, none⟩) hbl).trans k0, (hb.cell (p := ⟨b, off + i * 3 + 1, none⟩) hbl).trans k1, (hb.cell (p := ⟨b, off + i * 3 + 2, none⟩) hbl).trans k2⟩
theorem RelsV.below {w w1 : World} {a : Option Addr} {len cap : Nat} {rs : List Rel} (h : RelsV w a len cap rs) (hb : Below w.heap.size w w1) : RelsV w1 a len cap rs := by
  refine ⟨h.count, h.fits, h.nilOf, ?_⟩
  rcases h.cells with h0 | ⟨b, off, ha, hc⟩
  · exact .inl h0
  · refine .inr ⟨b, off, ha, fun i hi => ?_⟩
    obtain ⟨k0, k1, k2, k3⟩ := hc i hi
    have hbl : b < w.heap.size := World.block_lt_of_cell? w ⟨b, off + i * 4, none⟩ k0
    exact ⟨(hb.cell (p := ⟨b, off + i * 4, none⟩) hbl).trans k0, (hb.cell (p := ⟨b, off + i * 4 + 1, none⟩) hbl).trans k1, (hb.cell (p := ⟨b, off + i * 4 + 2, none⟩) hbl).trans k2, (hb.cell (p := ⟨b, off + i * 4 + 3, none⟩) hbl).trans k3⟩
/-- An object as it is handed over. -/
structure ObjV (w : World) (v : Value) (o : ObjD) : Prop where
  form : ∃ a1 l1 c1 a2 l2 c2 a3 l3 c3, v = .agg #[.string o.code, .slice a1 l1 c1, .slice a2 l2 c2, .slice a3 l3 c3] ∧ o.code.size ≤ maxLen ∧ IntsV w a1 l1 c1 o.data ∧ SymsV w a2 l2 c2 o.syms ∧ RelsV w a3 l3 c3 o.rels
theorem ObjV.below {w w1 : World} {v : Value} {o : ObjD} (h : ObjV w v o) (hb : Below w.heap.size w w1) : ObjV w1 v o := by
  obtain ⟨a1, l1, c1, a2, l2, c2, a3, l3, c3, e, hs, h1, h2, h3⟩ := h.form
  exact ⟨⟨a1, l1, c1, a2, l2, c2, a3, l3, c3, e, hs, h1.below hb, h2.below hb, h3.below hb⟩⟩

theorem cell_thru {w w' : World} {p : Addr} {v : Value} (hb : Below w.heap.size w w') (h : w.cell? p = some v) : w'.cell? p = some v := (hb.cell (p := p) (World.block_lt_of_cell? w p h)).trans h

/-- A set of names, as a map reads. -/
def nset (l : List ByteArray) : DataW Unit := setOf (.agg []) (l.map fun s => Lit.string s.data.toList)
theorem nset_snoc (l : List ByteArray) (x : ByteArray) : nset (l ++ [x]) = (nset l).put (.string x.data.toList) (.agg []) := by
  unfold nset
  rw [List.map_append, List.map_cons, List.map_nil, setOf_snoc]
theorem bytes_ext {a b : ByteArray} (h : a.data.toList = b.data.toList) : a = b := by
  cases a; cases b; simp at h; rw [h]
theorem has_nset (l : List ByteArray) (x : ByteArray) : Maps.has (nset l) (.string x.data.toList) = l.any (fun y => decide (y = x)) := by
  unfold nset
  rw [has_setOf _ _ _ (fun y hy => by obtain ⟨_, _, rfl⟩ := List.mem_map.1 hy; trivial), List.any_map]
  congr 1
  funext y
  show (y.data.toList == x.data.toList) = decide (y = x)
  by_cases e : y = x
  · subst e; simp
  · have : ¬ y.data.toList = x.data.toList := fun h => e (bytes_ext h)
    simp only [e, decide_false]
    exact beq_eq_false_iff_ne.2 this

end Go.Proofs.YtgjingleolhkbaaGreatDoor.O

/- What nameMayBe, room and addMayBe come to. -/
namespace Go.Proofs.YtgjingleolhkbaaGreatDoor.O
open Go.RowKit Go.Maps
set_option linter.unusedVariables false

end Go.Proofs.YtgjingleolhkbaaGreatDoor.O

/- What objf.Check comes to. (Written by gen_check.py.) -/
namespace Go.Proofs.YtgjingleolhkbaaGreatDoor.O
open Go.RowKit Go.Maps
set_option linter.unusedVariables false

theorem get0 {α : Type} (x : α) (l : List α) : (List.toArray (x :: l))[0]? = some x := rfl
theorem get1 {α : Type} {x y : α} {l : List α} {i : Nat} (h : (List.toArray l)[i]? = some y) : (List.toArray (x :: l))[i + 1]? = some y := by simpa using h
theorem lawS : Keyed Tryz.prog 9 := string_keyed Tryz.underlying9
theorem zeroU (w : World) : (zeroValue 106).run Tryz.prog w = .ok (.agg #[]) w := by kernel_rfl
theorem take_snocS (ss : List Sym) (k : Nat) (h : k < ss.length) : (ss.map Sym.name).take (k + 1) = (ss.map Sym.name).take k ++ [(ss.getD k noSym).name] := by
  rw [List.take_succ_eq_append_getElem (by simpa using h)]; congr 1; simp [List.getD, h]
theorem names_dup {ss : List Sym} {k : Nat} (hk : k < ss.length) {x : ByteArray} (h : ((ss.map Sym.name).take k).any (fun y => decide (y = x)) = true) (hx : (ss.getD k noSym).name = x) (cl dl : Nat) : symAt cl dl ss k = false := by
  rw [← List.map_take] at h
  simp only [List.any_eq_true, List.mem_map, decide_eq_true_eq] at h
  obtain ⟨y, ⟨s, hs, rfl⟩, e⟩ := h
  obtain ⟨i, hi, rfl⟩ := List.getElem_of_mem hs
  rw [List.length_take] at hi
  unfold symAt
  rw [all_range_no (i := i) (by omega) (by
    rw [List.getElem_take] at e
    have : (ss.getD i noSym).name = x := by simp [List.getD, show i < ss.length by omega, e]
    exact decide_eq_false (fun hne => hne (this.trans hx.symm))), Bool.false_and]
theorem names_new {ss : List Sym} {k : Nat} (hk : k < ss.length) {x : ByteArray} (h : ((ss.map Sym.name).take k).any (fun y => decide (y = x)) = false) (hx : (ss.getD k noSym).name = x) (cl dl : Nat) : symAt cl dl ss k = symOk cl dl (ss.getD k noSym) := by
  unfold symAt
  rw [all_range_yes (fun i hi => ?_), Bool.true_and]
  rw [← List.map_take, ← Bool.not_eq_true, List.any_eq_true] at h
  simp only [decide_eq_true_eq]
  intro e
  apply h
  refine ⟨(ss.getD i noSym).name, List.mem_map.2 ⟨ss.getD i noSym, ?_, rfl⟩, decide_eq_true (e.trans hx)⟩
  rw [show ss.getD i noSym = (ss.take k)[i]'(by rw [List.length_take]; omega) by simp [List.getD, show i < ss.length by omega]]
  exact List.getElem_mem _
theorem syms_no {cl dl : Nat} {ss : List Sym} {k : Nat} (hk : k < ss.length) (h : symAt cl dl ss k = false) : symsOk cl dl ss = false := by
  unfold symsOk
  rw [all_range_no hk h, Bool.and_false]

end Go.Proofs.YtgjingleolhkbaaGreatDoor.O

/- What relocsMayBe and Check come to. -/
namespace Go.Proofs.YtgjingleolhkbaaGreatDoor.O
open Go.RowKit Go.Maps
set_option linter.unusedVariables false

theorem rels_no {cl : Nat} {rs : List Rel} {k : Nat} (hk : k < rs.length) (h : relOk cl (freeAt rs k) (rs.getD k noRel) = false) : relsOk cl rs = false := by
  unfold relsOk
  rw [all_range_no hk h, Bool.and_false]

end Go.Proofs.YtgjingleolhkbaaGreatDoor.O

/- What the document's SameData, SameSyms and Same come to. (Written by gen_same.py.) -/
namespace Go.Proofs.YtgjingleolhkbaaGreatDoor.O
open Go.RowKit Go.Maps Go.Lib
set_option linter.unusedVariables false

theorem bl_drewN {B : Nat} {x y : World} (h : Below B x y) (m : Nat) : Below B x (y.drewN m) := ⟨h.os, h.tape, h.output, h.size, h.block⟩
theorem list_ext_getD {α : Type} {xs ys : List α} (d : α) (hl : xs.length = ys.length) (h : ∀ i, i < xs.length → xs.getD i d = ys.getD i d) : xs = ys := by
  refine List.ext_getElem hl fun i h1 h2 => ?_
  have := h i h1
  simpa [List.getD, h1, h2] using this
theorem bool_of (P : Prop) : ∃ b : Bool, (b = true ↔ P) := by
  by_cases h : P
  · exact ⟨true, by simp [h]⟩
  · exact ⟨false, by simp [h]⟩
theorem bool_no {b : Bool} {P : Prop} (h : b = true ↔ P) (hn : ¬ P) : b = false := by
  cases b with
  | false => rfl
  | true => exact absurd (h.1 rfl) hn
theorem toList_ne {a b : ByteArray} (h : ¬ a = b) : (a.toList == b.toList) = false := by
  rw [ByteArray.toList_eq, ByteArray.toList_eq]
  exact beq_eq_false_iff_ne.2 (fun e => h (bytes_ext e))
theorem symEq_yes (n : ByteArray) (k p : Int) (w : World) : (Op.equalIn 10000 69 (.agg #[.string n, .int .i64 k, .int .i64 p]) (.agg #[.string n, .int .i64 k, .int .i64 p])).run Tryz.prog w = .ok true w := by
  go_simp
theorem symEq_no {n n' : ByteArray} {k p k' p' : Int} (h : ¬ (⟨n, k, p⟩ : Sym) = ⟨n', k', p'⟩) (w : World) : (Op.equalIn 10000 69 (.agg #[.string n, .int .i64 k, .int .i64 p]) (.agg #[.string n', .int .i64 k', .int .i64 p'])).run Tryz.prog w = .ok false w := by
  by_cases h1 : n = n'
  · subst h1
    by_cases h2 : k = k'
    · subst h2
      by_cases h3 : p = p'
      · subst h3; exact absurd rfl h
      · clear h
        go_simp
    · clear h
      go_simp
  · clear h
    have hd := toList_ne h1
    go_simp
theorem relEq_yes (p k : Int) (n : ByteArray) (a : Int) (w : World) : (Op.equalIn 10000 51 (.agg #[.int .i64 p, .int .i64 k, .string n, .int .i64 a]) (.agg #[.int .i64 p, .int .i64 k, .string n, .int .i64 a])).run Tryz.prog w = .ok true w := by
  go_simp
theorem relEq_no {n n' : ByteArray} {k p a k' p' a' : Int} (h : ¬ (⟨p, k, n, a⟩ : Rel) = ⟨p', k', n', a'⟩) (w : World) : (Op.equalIn 10000 51 (.agg #[.int .i64 p, .int .i64 k, .string n, .int .i64 a]) (.agg #[.int .i64 p', .int .i64 k', .string n', .int .i64 a'])).run Tryz.prog w = .ok false w := by
  by_cases h1 : p = p'
  · subst h1
    by_cases h2 : k = k'
    · subst h2
      by_cases h3 : n = n'
      · subst h3
        by_cases h4 : a = a'
        · subst h4; exact absurd rfl h
        · clear h
          go_simp
      · clear h
        have hd := toList_ne h3
        go_simp
    · clear h
      go_simp
  · clear h
    go_simp

set_option maxRecDepth 100000 in
set_option maxHeartbeats 4000000 in
theorem samedata_any {w : World} {a1 a2 : Option Addr} {l1 c1 l2 c2 : Nat} {xs ys : List Int} (h1 : IntsV w a1 l1 c1 xs) (h2 : IntsV w a2 l2 c2 ys) (hm : l1 ≤ maxLen) (bb : Bool) (hbb : bb = true ↔ xs = ys) :
    Calls Tryz.prog 34 #[.slice a1 l1 c1, .slice a2 l2 c2] w fun e w' => e = .returned (.bool bb) ∧ Below w.heap.size w w' := by
  have HBB : Hid _ := hbb
  have H1 : Hid _ := h1
  have H2 : Hid _ := h2
  have hm' : l1 ≤ 9223372036854775807 := by unfold maxLen at hm; omega
  clear h1 h2 hm hbb
  by_cases hl : l1 = l2
  rotate_left
  · have HNO : Hid (¬ xs = ys) := fun e => hl (by rw [← H1.out.count, ← H2.out.count, e])
    have hd : ((l1 : Int) != (l2 : Int)) = true := by simp; omega
    go_enter Tryz.func34, Tryz.ntmps34
    go_wp2
    go_ret
    exact ⟨by rw [bool_no HBB.out HNO.out]; rfl, Below.refl _ _⟩
  subst hl
  have hd : ((l1 : Int) != (l1 : Int)) = false := by simp
  go_enter Tryz.func34, Tryz.ntmps34
  go_wp2_with fail
  go_loopg [5] l1 (fun r iv wq => ∃ (k : Nat), iv = .int .i64 k ∧ k ≤ l1 ∧ l1 - k ≤ r ∧ Hid (∀ j, j < k → xs.getD j 0 = ys.getD j 0) ∧ Hid (Below w.heap.size w wq))
  case atStart => exact ⟨0, rfl, Nat.zero_le _, by omega, (fun j hj => by omega : ∀ j, j < 0 → xs.getD j 0 = ys.getD j 0), Below.refl _ _⟩
  case round =>
    obtain ⟨k, rfl, hk, hr, HAL, HBL⟩ := hrel
    by_cases hlt : k < l1
    · rcases H1.out.cells with h0 | ⟨b, off, hA, hc⟩
      · omega
      rcases H2.out.cells with h0 | ⟨b', off', hA', hc'⟩
      · omega
      have k0 := hc k hlt
      have k0' := hc' k hlt
      have hb0 := World.block_lt_of_cell? w ⟨b, off + k, none⟩ k0
      have hb1 := World.block_lt_of_cell? w ⟨b', off' + k, none⟩ k0'
      have q0 := (HBL.out.cell (p := ⟨b, off + k, none⟩) hb0).trans k0
      have r0 := (HBL.out.cell (p := ⟨b', off' + k, none⟩) hb1).trans k0'
      have HNE : Hid (∀ {x y : Int}, xs.getD k 0 = x → ys.getD k 0 = y → x ≠ y → ¬ xs = ys) := fun hx hy hne e => hne (by rw [← hx, ← hy, e])
      have HEQ : Hid (∀ {x y : Int}, xs.getD k 0 = x → ys.getD k 0 = y → x = y → ∀ j, j < k + 1 → xs.getD j 0 = ys.getD j 0) := fun hx hy he j hj => by
        by_cases hjk : j = k
        · rw [hjk, hx, hy, he]
        · exact HAL.out j (by omega)
      obtain ⟨x, hx⟩ : ∃ x, xs.getD k 0 = x := ⟨_, rfl⟩
      obtain ⟨y, hy⟩ : ∃ y, ys.getD k 0 = y := ⟨_, rfl⟩
      rw [hx] at q0
      rw [hy] at r0
      have HX : Hid _ := hx
      have HY : Hid _ := hy
      subst hA
      subst hA'
      have hii : (k : Int) < l1 := by omega
      have hin : 0 ≤ (k : Int) := by omega
      clear hc hc' k0 k0' hx hy hb0 hb1
      by_cases he : (x : Int) = y
      · have HNX : Hid _ := HEQ.out HX.out HY.out he
        have hde : (x != y) = false := by simp [he]
        clear he
        go_wp2_with fail
        go_quiet (fail)
        go_wp2_with fail
        go_roundg (l1 - (k + 1))
        case measure => omega
        case rel => exact ⟨k + 1, by first | rfl | (congr 1; omega), by omega, Nat.le_refl _, HNX.out, bl_drewN HBL.out _⟩
      · have HNO : Hid _ := HNE.out HX.out HY.out he
        have hde : (x != y) = true := by simp [he]
        clear he
        go_wp2_with fail
        go_quiet (fail)
        go_wp2
        go_ret
        exact ⟨by rw [bool_no HBB.out HNO.out]; rfl, bl_drewN HBL.out _⟩
    · obtain rfl : l1 = k := by omega
      have HYES : Hid (xs = ys) := list_ext_getD 0 (by rw [H1.out.count, H2.out.count]) (fun i hi => HAL.out i (by rw [← H1.out.count]; exact hi))
      go_wp2_with fail
      go_ret
      exact ⟨by rw [HBB.out.2 HYES.out]; rfl, HBL.out⟩

set_option maxRecDepth 100000 in
set_option maxHeartbeats 4000000 in
theorem samesyms_any {w : World} {a1 a2 : Option Addr} {l1 c1 l2 c2 : Nat} {xs ys : List Sym} (h1 : SymsV w a1 l1 c1 xs) (h2 : SymsV w a2 l2 c2 ys) (hm : l1 ≤ maxLen) (bb : Bool) (hbb : bb = true ↔ xs = ys) :
    Calls Tryz.prog 35 #[.slice a1 l1 c1, .slice a2 l2 c2] w fun e w' => e = .returned (.bool bb) ∧ Below w.heap.size w w' := by
  have HBB : Hid _ := hbb
  have H1 : Hid _ := h1
  have H2 : Hid _ := h2
  have hm' : l1 ≤ 9223372036854775807 := by unfold maxLen at hm; omega
  clear h1 h2 hm hbb
  by_cases hl : l1 = l2
  rotate_left
  · have HNO : Hid (¬ xs = ys) := fun e => hl (by rw [← H1.out.count, ← H2.out.count, e])
    have hd : ((l1 : Int) != (l2 : Int)) = true := by simp; omega
    go_enter Tryz.func35, Tryz.ntmps35
    go_wp2
    go_ret
    exact ⟨by rw [bool_no HBB.out HNO.out]; rfl, Below.refl _ _⟩
  subst hl
  have hd : ((l1 : Int) != (l1 : Int)) = false := by simp
  go_enter Tryz.func35, Tryz.ntmps35
  go_wp2_with fail
  go_loopg [5] l1 (fun r iv wq => ∃ (k : Nat), iv = .int .i64 k ∧ k ≤ l1 ∧ l1 - k ≤ r ∧ Hid (∀ j, j < k → xs.getD j noSym = ys.getD j noSym) ∧ Hid (Below w.heap.size w wq))
  case atStart => exact ⟨0, rfl, Nat.zero_le _, by omega, (fun j hj => by omega : ∀ j, j < 0 → xs.getD j noSym = ys.getD j noSym), Below.refl _ _⟩
  case round =>
    obtain ⟨k, rfl, hk, hr, HAL, HBL⟩ := hrel
    by_cases hlt : k < l1
    · rcases H1.out.cells with h0 | ⟨b, off, hA, hc⟩
      · omega
      rcases H2.out.cells with h0 | ⟨b', off', hA', hc'⟩
      · omega
      obtain ⟨k0, k1, k2⟩ := hc k hlt
      obtain ⟨k0', k1', k2'⟩ := hc' k hlt
      have hb0 := World.block_lt_of_cell? w ⟨b, off + k * 3, none⟩ k0
      have hb1 := World.block_lt_of_cell? w ⟨b', off' + k * 3, none⟩ k0'
      have q0 := (HBL.out.cell (p := ⟨b, off + k * 3, none⟩) hb0).trans k0
      have r0 := (HBL.out.cell (p := ⟨b', off' + k * 3, none⟩) hb1).trans k0'
      have q1 := (HBL.out.cell (p := ⟨b, off + k * 3 + 1, none⟩) hb0).trans k1
      have r1 := (HBL.out.cell (p := ⟨b', off' + k * 3 + 1, none⟩) hb1).trans k1'
      have q2 := (HBL.out.cell (p := ⟨b, off + k * 3 + 2, none⟩) hb0).trans k2
      have r2 := (HBL.out.cell (p := ⟨b', off' + k * 3 + 2, none⟩) hb1).trans k2'
      have HNE : Hid (∀ {x y : Sym}, xs.getD k noSym = x → ys.getD k noSym = y → x ≠ y → ¬ xs = ys) := fun hx hy hne e => hne (by rw [← hx, ← hy, e])
      have HEQ : Hid (∀ {x y : Sym}, xs.getD k noSym = x → ys.getD k noSym = y → x = y → ∀ j, j < k + 1 → xs.getD j noSym = ys.getD j noSym) := fun hx hy he j hj => by
        by_cases hjk : j = k
        · rw [hjk, hx, hy, he]
        · exact HAL.out j (by omega)
      obtain ⟨⟨xn, xk, xp⟩, hx⟩ : ∃ x, xs.getD k noSym = x := ⟨_, rfl⟩
      obtain ⟨⟨yn, yk, yp⟩, hy⟩ : ∃ y, ys.getD k noSym = y := ⟨_, rfl⟩
      rw [hx] at q0 q1 q2
      rw [hy] at r0 r1 r2
      simp only at q0 r0 q1 r1 q2 r2
      have HX : Hid _ := hx
      have HY : Hid _ := hy
      subst hA
      subst hA'
      have hii : (k : Int) < l1 := by omega
      have hin : 0 ≤ (k : Int) := by omega
      clear hc hc' k0 k0' k1 k1' k2 k2' hx hy hb0 hb1
      by_cases he : (⟨xn, xk, xp⟩ : Sym) = ⟨yn, yk, yp⟩
      · have HNX : Hid _ := HEQ.out HX.out HY.out he
        injection he with en ek ep
        subst en
        subst ek
        subst ep
        have hde := fun w => symEq_yes xn xk xp w
        go_wp2_with fail
        go_quiet (fail)
        go_wp2_with fail
        go_roundg (l1 - (k + 1))
        case measure => omega
        case rel => exact ⟨k + 1, by first | rfl | (congr 1; omega), by omega, Nat.le_refl _, HNX.out, bl_drewN HBL.out _⟩
      · have HNO : Hid _ := HNE.out HX.out HY.out he
        have hde := fun w => symEq_no he w
        clear he
        go_wp2_with fail
        go_quiet (fail)
        go_wp2
        go_ret
        exact ⟨by rw [bool_no HBB.out HNO.out]; rfl, bl_drewN HBL.out _⟩
    · obtain rfl : l1 = k := by omega
      have HYES : Hid (xs = ys) := list_ext_getD noSym (by rw [H1.out.count, H2.out.count]) (fun i hi => HAL.out i (by rw [← H1.out.count]; exact hi))
      go_wp2_with fail
      go_ret
      exact ⟨by rw [HBB.out.2 HYES.out]; rfl, HBL.out⟩

set_option maxRecDepth 100000 in
set_option maxHeartbeats 8000000 in
theorem same_any {w : World} {v v' : Value} {o p : ObjD} (h : ObjV w v o) (h' : ObjV w v' p) (hd1 : o.data.length ≤ maxLen) (hd2 : o.syms.length ≤ maxLen) (hd3 : o.rels.length ≤ maxLen) (bb : Bool) (hbb : bb = true ↔ o = p) :
    Calls Tryz.prog 14 #[v, v'] w fun e w' => e = .returned (.bool bb) ∧ Below w.heap.size w w' := by
  obtain ⟨a1, l1, c1, a2, l2, c2, a3, l3, c3, rfl, hcs, h1, h2, h3⟩ := h.form
  obtain ⟨a1', l1', c1', a2', l2', c2', a3', l3', c3', rfl, hcs', h1', h2', h3'⟩ := h'.form
  obtain ⟨code, data, syms, rels⟩ := o
  obtain ⟨code', data', syms', rels'⟩ := p
  simp only at hcs hcs' h1 h2 h3 h1' h2' h3' hd1 hd2 hd3
  have HBB : Hid _ := hbb
  clear h h' hbb
  have hm1 : l1 ≤ maxLen := by rw [← h1.count]; exact hd1
  have hm2 : l2 ≤ maxLen := by rw [← h2.count]; exact hd2
  have hm3 : l3 ≤ 9223372036854775807 := by have := h3.count; unfold maxLen at hd3; omega
  obtain ⟨W1, hW1⟩ : ∃ W1, w.alloc (.cells #[.string code, .slice a1 l1 c1, .slice a2 l2 c2, .slice a3 l3 c3] 30) = W1 := ⟨_, rfl⟩
  have s1 : W1.heap.size = w.heap.size + 1 := by subst hW1; simp
  have b1 : Below w.heap.size w W1 := by subst hW1; exact bl_one _ _
  obtain ⟨W2, hW2⟩ : ∃ W2, W1.alloc (.cells #[.string code', .slice a1' l1' c1', .slice a2' l2' c2', .slice a3' l3' c3'] 30) = W2 := ⟨_, rfl⟩
  have b2 : Below W1.heap.size W1 W2 := by subst hW2; exact bl_one _ _
  have s2 : W2.heap.size = w.heap.size + 1 + 1 := by subst hW2; simp; omega
  have HW : Hid (Below w.heap.size w W2) := b1.trans (b2.mono (by omega))
  have V0 : Hid (W2.cell? ⟨w.heap.size, 0, none⟩ = some (.string code)) := cell_thru b2 (by subst hW1; exact cell_last rfl rfl)
  have V1 : Hid (W2.cell? ⟨w.heap.size, 1, none⟩ = some (.slice a1 l1 c1)) := cell_thru b2 (by subst hW1; exact cell_last rfl rfl)
  have V2 : Hid (W2.cell? ⟨w.heap.size, 2, none⟩ = some (.slice a2 l2 c2)) := cell_thru b2 (by subst hW1; exact cell_last rfl rfl)
  have V3 : Hid (W2.cell? ⟨w.heap.size, 3, none⟩ = some (.slice a3 l3 c3)) := cell_thru b2 (by subst hW1; exact cell_last rfl rfl)
  have U0 : Hid (W2.cell? ⟨w.heap.size + 1, 0, none⟩ = some (.string code')) := by show _ = _; subst hW2; exact cell_last s1.symm rfl
  have U1 : Hid (W2.cell? ⟨w.heap.size + 1, 1, none⟩ = some (.slice a1' l1' c1')) := by show _ = _; subst hW2; exact cell_last s1.symm rfl
  have U2 : Hid (W2.cell? ⟨w.heap.size + 1, 2, none⟩ = some (.slice a2' l2' c2')) := by show _ = _; subst hW2; exact cell_last s1.symm rfl
  have U3 : Hid (W2.cell? ⟨w.heap.size + 1, 3, none⟩ = some (.slice a3' l3' c3')) := by show _ = _; subst hW2; exact cell_last s1.symm rfl
  have H1 : Hid _ := h1.below HW.out
  have H2 : Hid _ := h2.below HW.out
  have H3 : Hid _ := h3.below HW.out
  have H1' : Hid _ := h1'.below HW.out
  have H2' : Hid _ := h2'.below HW.out
  have H3' : Hid _ := h3'.below HW.out
  clear h1 h2 h3 h1' h2' h3' b1 b2 hd1 hd2 hd3
  have v0 := V0.out
  have v1 := V1.out
  have u0 := U0.out
  have u1 := U1.out
  go_enter Tryz.func14, Tryz.ntmps14
  by_cases hc : code = code'
  rotate_left
  · have hdc := toList_ne hc
    have HNO : Hid (¬ (⟨code, data, syms, rels⟩ : ObjD) = ⟨code', data', syms', rels'⟩) := fun e => hc (congrArg ObjD.code e)
    go_wp2
    go_ret
    exact ⟨by rw [bool_no HBB.out HNO.out]; rfl, HW.out⟩
  subst hc
  go_wp2_with fail
  obtain ⟨b1, hbb⟩ := bool_of (data = data')
  refine (samedata_any H1.out H1'.out hm1 b1 hbb).mono ?_
  rintro e y1 ⟨rfl, hb1⟩
  have v2 := cell_thru hb1 V2.out
  have u2 := cell_thru hb1 U2.out
  have v3' := cell_thru hb1 V3.out
  have u3' := cell_thru hb1 U3.out
  have HB1 : Hid _ := hb1
  have HD1 : Hid _ := hbb
  clear hb1 hbb v0 v1 u0 u1
  cases b1 with
  | false =>
    have HNO : Hid (¬ (⟨code, data, syms, rels⟩ : ObjD) = ⟨code, data', syms', rels'⟩) := fun e => by have := HD1.out.2 (congrArg ObjD.data e); simp at this
    go_wp2
    go_ret
    exact ⟨by rw [bool_no HBB.out HNO.out]; rfl, HW.out.trans (HB1.out.mono HW.out.size)⟩
  | true =>
  go_wp2_with fail
  obtain ⟨b2, hbb⟩ := bool_of (syms = syms')
  refine (samesyms_any (H2.out.below HB1.out) (H2'.out.below HB1.out) hm2 b2 hbb).mono ?_
  rintro e y2 ⟨rfl, hb2⟩
  have v3 := cell_thru hb2 v3'
  have u3 := cell_thru hb2 u3'
  have HB2 : Hid (Below W2.heap.size W2 y2) := HB1.out.trans (hb2.mono HB1.out.size)
  have HD2 : Hid _ := hbb
  clear hb2 hbb v2 u2 v3' u3'
  cases b2 with
  | false =>
    have HNO : Hid (¬ (⟨code, data, syms, rels⟩ : ObjD) = ⟨code, data', syms', rels'⟩) := fun e => by have := HD2.out.2 (congrArg ObjD.syms e); simp at this
    go_wp2
    go_ret
    exact ⟨by rw [bool_no HBB.out HNO.out]; rfl, HW.out.trans (HB2.out.mono HW.out.size)⟩
  | true =>
  by_cases hl : l3 = l3'
  rotate_left
  · have HNO : Hid (¬ (⟨code, data, syms, rels⟩ : ObjD) = ⟨code, data', syms', rels'⟩) := fun e => hl (by rw [← H3.out.count, ← H3'.out.count]; exact congrArg (fun o => o.rels.length) e)
    have hd : ((l3 : Int) != (l3' : Int)) = true := by simp; omega
    go_wp2
    go_ret
    exact ⟨by rw [bool_no HBB.out HNO.out]; rfl, HW.out.trans (HB2.out.mono HW.out.size)⟩
  subst hl
  have hd : ((l3 : Int) != (l3 : Int)) = false := by simp
  have HA : Hid _ := H3.out.below HB2.out
  have HA' : Hid _ := H3'.out.below HB2.out
  go_wp2_with fail
  clear H1 H2 H3 H1' H2' H3'
  have e1 : data = data' := HD1.out.1 (by simp)
  have e2 : syms = syms' := HD2.out.1 (by simp)
  subst e1
  subst e2
  go_loopg [5] l3 (fun r iv wq => ∃ (k : Nat), iv = .int .i64 k ∧ k ≤ l3 ∧ l3 - k ≤ r ∧ Hid (∀ j, j < k → rels.getD j noRel = rels'.getD j noRel) ∧ Hid (Below y2.heap.size y2 wq))
  case atStart => exact ⟨0, rfl, Nat.zero_le _, by omega, (fun j hj => by omega : ∀ j, j < 0 → rels.getD j noRel = rels'.getD j noRel), Below.refl _ _⟩
  case round =>
    obtain ⟨k, rfl, hk, hr, HAL, HBL⟩ := hrel
    have t3 := cell_thru HBL.out v3
    have t3' := cell_thru HBL.out u3
    by_cases hlt : k < l3
    · rcases HA.out.cells with h0 | ⟨b, off, hA, hc⟩
      · omega
      rcases HA'.out.cells with h0 | ⟨b', off', hA', hc'⟩
      · omega
      obtain ⟨k0, k1, k2, k3⟩ := hc k hlt
      obtain ⟨k0', k1', k2', k3'⟩ := hc' k hlt
      have hb0 := World.block_lt_of_cell? y2 ⟨b, off + k * 4, none⟩ k0
      have hb1 := World.block_lt_of_cell? y2 ⟨b', off' + k * 4, none⟩ k0'
      have q0 := (HBL.out.cell (p := ⟨b, off + k * 4, none⟩) hb0).trans k0
      have r0 := (HBL.out.cell (p := ⟨b', off' + k * 4, none⟩) hb1).trans k0'
      have q1 := (HBL.out.cell (p := ⟨b, off + k * 4 + 1, none⟩) hb0).trans k1
      have r1 := (HBL.out.cell (p := ⟨b', off' + k * 4 + 1, none⟩) hb1).trans k1'
      have q2 := (HBL.out.cell (p := ⟨b, off + k * 4 + 2, none⟩) hb0).trans k2
      have r2 := (HBL.out.cell (p := ⟨b', off' + k * 4 + 2, none⟩) hb1).trans k2'
      have q3 := (HBL.out.cell (p := ⟨b, off + k * 4 + 3, none⟩) hb0).trans k3
      have r3 := (HBL.out.cell (p := ⟨b', off' + k * 4 + 3, none⟩) hb1).trans k3'
      have HNE : Hid (∀ {x y : Rel}, rels.getD k noRel = x → rels'.getD k noRel = y → x ≠ y → ¬ rels = rels') := fun hx hy hne e => hne (by rw [← hx, ← hy, e])
      have HEQ : Hid (∀ {x y : Rel}, rels.getD k noRel = x → rels'.getD k noRel = y → x = y → ∀ j, j < k + 1 → rels.getD j noRel = rels'.getD j noRel) := fun hx hy he j hj => by
        by_cases hjk : j = k
        · rw [hjk, hx, hy, he]
        · exact HAL.out j (by omega)
      obtain ⟨⟨xp, xk, xn, xa⟩, hx⟩ : ∃ x, rels.getD k noRel = x := ⟨_, rfl⟩
      obtain ⟨⟨yp, yk, yn, ya⟩, hy⟩ : ∃ y, rels'.getD k noRel = y := ⟨_, rfl⟩
      rw [hx] at q0 q1 q2 q3
      rw [hy] at r0 r1 r2 r3
      simp only at q0 r0 q1 r1 q2 r2 q3 r3
      have HX : Hid _ := hx
      have HY : Hid _ := hy
      subst hA
      subst hA'
      have hii : (k : Int) < l3 := by omega
      have hin : 0 ≤ (k : Int) := by omega
      clear hc hc' k0 k0' k1 k1' k2 k2' k3 k3' hx hy hb0 hb1
      by_cases he : (⟨xp, xk, xn, xa⟩ : Rel) = ⟨yp, yk, yn, ya⟩
      · have HNX : Hid _ := HEQ.out HX.out HY.out he
        injection he with ep ek en ea
        subst ep
        subst ek
        subst en
        subst ea
        have hde := fun w => relEq_yes xp xk xn xa w
        go_wp2_with fail
        go_quiet (fail)
        go_wp2_with fail
        go_roundg (l3 - (k + 1))
        case measure => omega
        case rel => exact ⟨k + 1, by first | rfl | (congr 1; omega), by omega, Nat.le_refl _, HNX.out, bl_drewN HBL.out _⟩
      · have HNO : Hid _ := HNE.out HX.out HY.out he
        have hde := fun w => relEq_no he w
        clear he
        go_wp2_with fail
        go_quiet (fail)
        go_wp2
        go_ret
        exact ⟨by rw [bool_no HBB.out (fun e => HNO.out (congrArg ObjD.rels e))]; rfl, HW.out.trans ((HB2.out.trans ((bl_drewN HBL.out _).mono HB2.out.size)).mono HW.out.size)⟩
    · obtain rfl : l3 = k := by omega
      have HYES : Hid (rels = rels') := list_ext_getD noRel (by rw [HA.out.count, HA'.out.count]) (fun i hi => HAL.out i (by rw [← HA.out.count]; exact hi))
      go_wp2_with fail
      go_ret
      exact ⟨by rw [HBB.out.2 (by rw [HYES.out])]; rfl, HW.out.trans ((HB2.out.trans (HBL.out.mono HB2.out.size)).mono HW.out.size)⟩

end Go.Proofs.YtgjingleolhkbaaGreatDoor.O

/- What the document's named, Syms, May and Check come to. (Written by gen_rmay.py.) -/
namespace Go.Proofs.YtgjingleolhkbaaGreatDoor.O
open Go.RowKit Go.Maps Go.Lib
set_option linter.unusedVariables false

set_option maxRecDepth 100000 in
theorem named_any (s : ByteArray) (w : World) : Calls Tryz.prog 40 #[.string s] w fun e w' => e = .returned (.bool (nameOk s)) ∧ w' = w := by
  have HD : Hid (nameOk s = (decide ((1 : Int) ≤ s.size) && decide ((s.size : Int) ≤ 28))) := by
    show _ = _
    unfold nameOk
    congr 1 <;> exact decide_eq_decide.2 (by omega)
  go_enter Tryz.func40, Tryz.ntmps40
  by_cases h1 : 1 ≤ s.size
  · by_cases h2 : s.size ≤ 28
    · have d1 : decide ((1 : Int) ≤ s.size) = true := decide_eq_true (by omega)
      have d2 : decide ((s.size : Int) ≤ 28) = true := decide_eq_true (by omega)
      go_wp2
      go_ret
      exact ⟨by rw [HD.out, d1, d2]; rfl, rfl⟩
    · have d1 : decide ((1 : Int) ≤ s.size) = true := decide_eq_true (by omega)
      have d2 : decide ((s.size : Int) ≤ 28) = false := decide_eq_false (by omega)
      go_wp2
      go_ret
      exact ⟨by rw [HD.out, d1, d2]; rfl, rfl⟩
  · have d1 : decide ((1 : Int) ≤ s.size) = false := decide_eq_false (by omega)
    go_wp2
    go_ret
    exact ⟨by rw [HD.out, d1]; rfl, rfl⟩

theorem room_none {cl dl : Nat} {k : Int} (h : k < 1 ∨ 3 < k) : roomOf cl dl k = 0 := by unfold roomOf; rw [if_neg (by omega), if_neg (by omega)]
theorem room_code {cl dl : Nat} {k : Int} (h : k = 1 ∨ k = 3) : roomOf cl dl k = cl := by unfold roomOf; rw [if_pos h]
theorem room_data (cl dl : Nat) : roomOf cl dl 2 = dl := by unfold roomOf; rw [if_neg (by omega), if_pos rfl]
theorem dec_no {x r : Int} (h : ¬ (0 ≤ x ∧ x < r)) : (decide (0 ≤ x) && decide (x < r)) = false := by
  rw [Bool.and_eq_false_iff, decide_eq_false_iff_not, decide_eq_false_iff_not]
  omega
theorem dec_yes {x r : Int} (h : 0 ≤ x ∧ x < r) : (decide (0 ≤ x) && decide (x < r)) = true := by
  rw [decide_eq_true h.1, decide_eq_true h.2]
  rfl
theorem symAt_parts (cl dl : Nat) (ss : List Sym) (k : Nat) {nm : ByteArray} {kd ps : Int} (h : ss.getD k noSym = ⟨nm, kd, ps⟩) :
    (symOk cl dl ⟨nm, kd, ps⟩ = false → symAt cl dl ss k = false) ∧ (∀ j, j < k → (ss.getD j noSym).name = nm → symAt cl dl ss k = false) ∧ (symOk cl dl ⟨nm, kd, ps⟩ = true → (∀ j, j < k → (ss.getD j noSym).name ≠ nm) → symAt cl dl ss k = true) := by
  unfold symAt
  rw [h]
  refine ⟨fun e => by rw [e, Bool.and_false], fun j hj e => ?_, fun e hall => ?_⟩
  · rw [all_range_no hj (by simpa using e), Bool.false_and]
  · rw [e, Bool.and_true]
    exact all_range_yes (fun j hj => by simpa using hall j hj)
theorem syms_not {cl dl : Nat} {ss : List Sym} {k : Nat} (hk : k < ss.length) (h : symAt cl dl ss k = false) : symsOk cl dl ss = false := by
  unfold symsOk
  rw [all_range_no hk h, Bool.and_false]

set_option maxRecDepth 100000 in
set_option maxHeartbeats 8000000 in
theorem rsyms_any {w : World} {a : Option Addr} {l c : Nat} {ss : List Sym} (cl dl : Nat) (h : SymsV w a l c ss) :
    Calls Tryz.prog 39 #[.slice a l c, .int .i64 cl, .int .i64 dl] w fun e w' => e = .returned (.bool (symsOk cl dl ss)) ∧ Below w.heap.size w w' := by
  have HV : Hid _ := h
  have hcnt := h.count
  clear h
  go_enter Tryz.func39, Tryz.ntmps39
  by_cases hl : l ≤ 1000
  rotate_left
  · have hd : decide ((1000 : Int) < l) = true := decide_eq_true (by omega)
    have HNO : Hid (symsOk cl dl ss = false) := by show _ = _; unfold symsOk; rw [decide_eq_false (by omega), Bool.false_and]
    go_wp2
    go_ret
    exact ⟨by rw [HNO.out]; rfl, Below.refl _ _⟩
  have hd : decide ((1000 : Int) < l) = false := decide_eq_false (by omega)
  go_wp2_with fail
  go_loopg [7] l (fun r iv wq => ∃ (k : Nat), iv = .int .i64 k ∧ k ≤ l ∧ l - k ≤ r ∧ Hid (∀ i, i < k → symAt cl dl ss i = true) ∧ Hid (Below w.heap.size w wq))
  case atStart => exact ⟨0, rfl, Nat.zero_le _, by omega, (fun i hi => by omega : ∀ i, i < 0 → symAt cl dl ss i = true), Below.refl _ _⟩
  case round =>
    obtain ⟨k, rfl, hk, hr, HAL, HBL⟩ := hrel
    by_cases hlt : k < l
    · rcases HV.out.cells with h0 | ⟨b, off, hA, hc⟩
      · omega
      obtain ⟨k0, k1, k2⟩ := hc k hlt
      have hbl : b < w.heap.size := World.block_lt_of_cell? w ⟨b, off + k * 3, none⟩ k0
      have q0 := (HBL.out.cell (p := ⟨b, off + k * 3, none⟩) hbl).trans k0
      have q1 := (HBL.out.cell (p := ⟨b, off + k * 3 + 1, none⟩) hbl).trans k1
      have q2 := (HBL.out.cell (p := ⟨b, off + k * 3 + 2, none⟩) hbl).trans k2
      have HCN : Hid (∀ j, j < l → w.cell? ⟨b, off + j * 3, none⟩ = some (.string (ss.getD j noSym).name)) := fun j hj => (hc j hj).1
      obtain ⟨⟨xn, xk, xp⟩, hx⟩ : ∃ x, ss.getD k noSym = x := ⟨_, rfl⟩
      rw [hx] at q0 q1 q2
      simp only at q0 q1 q2
      have HPT : Hid _ := symAt_parts cl dl ss k hx
      have HKL : Hid (k < ss.length) := by show k < _; omega
      subst hA
      have hii : (k : Int) < l := by omega
      have hin : 0 ≤ (k : Int) := by omega
      clear hc k0 k1 k2 hx
      have HBY : Hid (Below w.heap.size w (wr.alloc (.cells #[.string xn, .int .i64 xk, .int .i64 xp] 69))) := HBL.out.trans ((bl_one wr _).mono HBL.out.size)
      have HOK : Hid (symOk cl dl ⟨xn, xk, xp⟩ = (nameOk xn && (decide (0 ≤ xp) && decide (xp < roomOf cl dl xk)))) := rfl
      cases hnk : nameOk xn with
      | false =>
        have HNM : Hid _ := hnk
        have HNO : Hid (symsOk cl dl ss = false) := syms_not HKL.out (HPT.out.1 (by rw [HOK.out, hnk, Bool.false_and]))
        clear hnk
        go_wp2_with (go_at_call 40; refine (named_any _ _).mono ?_; rintro e y ⟨rfl, rfl⟩; rw [HNM.out])
        go_ret
        exact ⟨by rw [HNO.out]; rfl, HBY.out⟩
      | true =>
      have HNM : Hid _ := hnk
      rw [hnk, Bool.true_and] at HOK
      clear hnk
      by_cases g1 : xk < 1
      · have d1 : decide (xk < 1) = true := decide_eq_true g1
        have HNO : Hid (symsOk cl dl ss = false) := syms_not HKL.out (HPT.out.1 (by rw [HOK.out, room_none (by omega)]; exact dec_no (by omega)))
        go_wp2_with (go_at_call 40; refine (named_any _ _).mono ?_; rintro e y ⟨rfl, rfl⟩; rw [HNM.out])
        go_ret
        exact ⟨by rw [HNO.out]; rfl, HBY.out⟩
      have d1 : decide (xk < 1) = false := decide_eq_false g1
      by_cases g2 : 3 < xk
      · have d2 : decide (3 < xk) = true := decide_eq_true g2
        have HNO : Hid (symsOk cl dl ss = false) := syms_not HKL.out (HPT.out.1 (by rw [HOK.out, room_none (by omega)]; exact dec_no (by omega)))
        go_wp2_with (go_at_call 40; refine (named_any _ _).mono ?_; rintro e y ⟨rfl, rfl⟩; rw [HNM.out])
        go_ret
        exact ⟨by rw [HNO.out]; rfl, HBY.out⟩
      have d2 : decide (3 < xk) = false := decide_eq_false g2
      by_cases g3 : xp < 0
      · have d3 : decide (xp < 0) = true := decide_eq_true g3
        have HNO : Hid (symsOk cl dl ss = false) := syms_not HKL.out (HPT.out.1 (by rw [HOK.out]; exact dec_no (by omega)))
        go_wp2_with (go_at_call 40; refine (named_any _ _).mono ?_; rintro e y ⟨rfl, rfl⟩; rw [HNM.out])
        go_ret
        exact ⟨by rw [HNO.out]; rfl, HBY.out⟩
      have d3 : decide (xp < 0) = false := decide_eq_false g3
      by_cases g4 : xk = 2
      · subst g4
        by_cases g5 : (dl : Int) ≤ xp
        · have d5 : decide ((dl : Int) ≤ xp) = true := decide_eq_true g5
          have HNO : Hid (symsOk cl dl ss = false) := syms_not HKL.out (HPT.out.1 (by rw [HOK.out, room_data]; exact dec_no (by omega)))
          go_wp2_with (go_at_call 40; refine (named_any _ _).mono ?_; rintro e y ⟨rfl, rfl⟩; rw [HNM.out])
          go_ret
          exact ⟨by rw [HNO.out]; rfl, HBY.out⟩
        have d5 : decide ((dl : Int) ≤ xp) = false := decide_eq_false g5
        have HYES : Hid (symOk cl dl ⟨xn, 2, xp⟩ = true) := by show _ = _; rw [HOK.out, room_data]; exact dec_yes (by omega)
        go_wp2_with (go_at_call 40; refine (named_any _ _).mono ?_; rintro e y ⟨rfl, rfl⟩; rw [HNM.out])
        obtain ⟨Y1, hY1⟩ : ∃ Y, wr.alloc (.cells #[.string xn, .int .i64 2, .int .i64 xp] 69) = Y := ⟨_, rfl⟩
        have g0 : Y1.cell? ⟨wr.heap.size, 0, none⟩ = some (.string xn) := by subst hY1; exact cell_last rfl rfl
        have HBY1 : Hid (Below w.heap.size w Y1) := by subst hY1; exact HBY.out
        rw [hY1]
        clear q0 q1 q2 HBL HBY hY1
        generalize hzb : wr.heap.size = zb at *
        clear hzb
        go_loopg [9] k (fun r jv wq => ∃ (j : Nat), jv = .int .i64 j ∧ j ≤ k ∧ k - j ≤ r ∧ Hid (∀ i, i < j → (ss.getD i noSym).name ≠ xn) ∧ Hid (Below Y1.heap.size Y1 wq))
        case atStart => exact ⟨0, rfl, Nat.zero_le _, by omega, (fun i hi => by omega : ∀ i, i < 0 → (ss.getD i noSym).name ≠ xn), Below.refl _ _⟩
        case round =>
          obtain ⟨j, rfl, hj, hr2, HNE, HBI⟩ := hrel
          have HBW : Hid (Below w.heap.size w wr) := HBY1.out.trans (HBI.out.mono HBY1.out.size)
          by_cases hlj : j < k
          · have q0 := (HBW.out.cell (p := ⟨b, off + j * 3, none⟩) hbl).trans (HCN.out j (by omega))
            have g1' := cell_thru HBI.out g0
            have HDU : Hid (∀ {y : ByteArray}, (ss.getD j noSym).name = y → y = xn → symsOk cl dl ss = false) := fun h1 h2 => syms_not HKL.out (HPT.out.2.1 j hlj (h1.trans h2))
            have HNX : Hid (∀ {y : ByteArray}, (ss.getD j noSym).name = y → ¬ y = xn → ∀ i, i < j + 1 → (ss.getD i noSym).name ≠ xn) := fun h1 h2 i hi => by
              by_cases hij : i = j
              · rw [hij, h1]; exact h2
              · exact HNE.out i (by omega)
            obtain ⟨yn, hyn⟩ : ∃ y, (ss.getD j noSym).name = y := ⟨_, rfl⟩
            rw [hyn] at q0
            have HYN : Hid _ := hyn
            have hji : (j : Int) < l := by omega
            have hjk : (j : Int) < k := by omega
            have hjn : 0 ≤ (j : Int) := by omega
            clear hyn
            by_cases he : yn = xn
            · have HNO : Hid _ := HDU.out HYN.out he
              subst he
              go_wp2_with fail
              go_quiet (fail)
              go_wp2
              go_ret
              exact ⟨by rw [HNO.out]; rfl, bl_drewN HBW.out _⟩
            · have HN2 : Hid _ := HNX.out HYN.out he
              have hde := toList_ne he
              clear he
              go_wp2_with fail
              go_quiet (fail)
              go_wp2_with fail
              go_roundg (k - (j + 1))
              case measure => omega
              case rel => exact ⟨j + 1, by first | rfl | (congr 1; omega), by omega, Nat.le_refl _, HN2.out, bl_drewN HBI.out _⟩
          · obtain rfl : j = k := by omega
            have HALN : Hid (∀ i, i < j + 1 → symAt cl dl ss i = true) := fun i hi => by
              by_cases hij : i = j
              · rw [hij]; exact HPT.out.2.2 HYES.out HNE.out
              · exact HAL.out i (by omega)
            have hjn : ¬ (j : Int) < j := by omega
            go_wp2_with fail
            go_roundg (l - (j + 1))
            case measure => omega
            case rel => exact ⟨j + 1, by first | rfl | (congr 1; omega), by omega, Nat.le_refl _, HALN.out, HBW.out⟩
      · have d4 : (xk == 2) = false := beq_eq_false_iff_ne.2 g4
        have d4' : (xk != 2) = true := by simp [g4]
        have g13 : xk = 1 ∨ xk = 3 := by omega
        by_cases g5 : (cl : Int) ≤ xp
        · have d5 : decide ((cl : Int) ≤ xp) = true := decide_eq_true g5
          have HNO : Hid (symsOk cl dl ss = false) := syms_not HKL.out (HPT.out.1 (by rw [HOK.out, room_code g13]; exact dec_no (by omega)))
          clear g13
          go_wp2_with (go_at_call 40; refine (named_any _ _).mono ?_; rintro e y ⟨rfl, rfl⟩; rw [HNM.out])
          go_ret
          exact ⟨by rw [HNO.out]; rfl, HBY.out⟩
        have d5 : decide ((cl : Int) ≤ xp) = false := decide_eq_false g5
        have HYES : Hid (symOk cl dl ⟨xn, xk, xp⟩ = true) := by show _ = _; rw [HOK.out, room_code g13]; exact dec_yes (by omega)
        clear g13
        go_wp2_with (go_at_call 40; refine (named_any _ _).mono ?_; rintro e y ⟨rfl, rfl⟩; rw [HNM.out])
        obtain ⟨Y1, hY1⟩ : ∃ Y, wr.alloc (.cells #[.string xn, .int .i64 xk, .int .i64 xp] 69) = Y := ⟨_, rfl⟩
        have g0 : Y1.cell? ⟨wr.heap.size, 0, none⟩ = some (.string xn) := by subst hY1; exact cell_last rfl rfl
        have HBY1 : Hid (Below w.heap.size w Y1) := by subst hY1; exact HBY.out
        rw [hY1]
        clear q0 q1 q2 HBL HBY hY1
        generalize hzb : wr.heap.size = zb at *
        clear hzb
        go_loopg [9] k (fun r jv wq => ∃ (j : Nat), jv = .int .i64 j ∧ j ≤ k ∧ k - j ≤ r ∧ Hid (∀ i, i < j → (ss.getD i noSym).name ≠ xn) ∧ Hid (Below Y1.heap.size Y1 wq))
        case atStart => exact ⟨0, rfl, Nat.zero_le _, by omega, (fun i hi => by omega : ∀ i, i < 0 → (ss.getD i noSym).name ≠ xn), Below.refl _ _⟩
        case round =>
          obtain ⟨j, rfl, hj, hr2, HNE, HBI⟩ := hrel
          have HBW : Hid (Below w.heap.size w wr) := HBY1.out.trans (HBI.out.mono HBY1.out.size)
          by_cases hlj : j < k
          · have q0 := (HBW.out.cell (p := ⟨b, off + j * 3, none⟩) hbl).trans (HCN.out j (by omega))
            have g1' := cell_thru HBI.out g0
            have HDU : Hid (∀ {y : ByteArray}, (ss.getD j noSym).name = y → y = xn → symsOk cl dl ss = false) := fun h1 h2 => syms_not HKL.out (HPT.out.2.1 j hlj (h1.trans h2))
            have HNX : Hid (∀ {y : ByteArray}, (ss.getD j noSym).name = y → ¬ y = xn → ∀ i, i < j + 1 → (ss.getD i noSym).name ≠ xn) := fun h1 h2 i hi => by
              by_cases hij : i = j
              · rw [hij, h1]; exact h2
              · exact HNE.out i (by omega)
            obtain ⟨yn, hyn⟩ : ∃ y, (ss.getD j noSym).name = y := ⟨_, rfl⟩
            rw [hyn] at q0
            have HYN : Hid _ := hyn
            have hji : (j : Int) < l := by omega
            have hjk : (j : Int) < k := by omega
            have hjn : 0 ≤ (j : Int) := by omega
            clear hyn
            by_cases he : yn = xn
            · have HNO : Hid _ := HDU.out HYN.out he
              subst he
              go_wp2_with fail
              go_quiet (fail)
              go_wp2
              go_ret
              exact ⟨by rw [HNO.out]; rfl, bl_drewN HBW.out _⟩
            · have HN2 : Hid _ := HNX.out HYN.out he
              have hde := toList_ne he
              clear he
              go_wp2_with fail
              go_quiet (fail)
              go_wp2_with fail
              go_roundg (k - (j + 1))
              case measure => omega
              case rel => exact ⟨j + 1, by first | rfl | (congr 1; omega), by omega, Nat.le_refl _, HN2.out, bl_drewN HBI.out _⟩
          · obtain rfl : j = k := by omega
            have HALN : Hid (∀ i, i < j + 1 → symAt cl dl ss i = true) := fun i hi => by
              by_cases hij : i = j
              · rw [hij]; exact HPT.out.2.2 HYES.out HNE.out
              · exact HAL.out i (by omega)
            have hjn : ¬ (j : Int) < j := by omega
            go_wp2_with fail
            go_roundg (l - (j + 1))
            case measure => omega
            case rel => exact ⟨j + 1, by first | rfl | (congr 1; omega), by omega, Nat.le_refl _, HALN.out, HBW.out⟩
    · obtain rfl : k = l := by omega
      have HYA : Hid (symsOk cl dl ss = true) := by
        show _ = _
        unfold symsOk
        rw [show decide (ss.length ≤ 1000) = true by simp; omega, all_range_yes (fun i hi => HAL.out i (by omega))]
        rfl
      go_wp2_with fail
      go_ret
      exact ⟨by rw [HYA.out]; rfl, HBL.out⟩

end Go.Proofs.YtgjingleolhkbaaGreatDoor.O

/- What the document's named, Syms, May and Check come to. (Written by gen_rmay.py.) -/
namespace Go.Proofs.YtgjingleolhkbaaGreatDoor.O
open Go.RowKit Go.Maps Go.Lib
set_option linter.unusedVariables false


theorem may_parts {o : ObjD} (h : o.may = true) : o.code.size ≤ 65536 ∧ o.data.length ≤ 4096 ∧ symsOk o.code.size o.data.length o.syms = true ∧ relsOk o.code.size o.rels = true := by
  unfold ObjD.may at h
  simp only [Bool.and_eq_true, decide_eq_true_eq] at h
  exact ⟨h.1.1, h.1.2, h.2.1, h.2.2⟩
theorem relOk_no1 {cl : Nat} {fr : Int} {r : Rel} (h : nameOk r.name = false) : relOk cl fr r = false := by unfold relOk; rw [h, Bool.false_and, Bool.and_false]
theorem relOk_no2 {cl : Nat} {fr : Int} {r : Rel} (h : ¬ (fr ≤ r.pos ∧ r.pos ≤ (cl : Int) - 4)) : relOk cl fr r = false := by
  unfold relOk
  have : (decide (fr ≤ r.pos) && decide (r.pos ≤ (cl : Int) - 4)) = false := by
    rw [Bool.and_eq_false_iff, decide_eq_false_iff_not, decide_eq_false_iff_not]
    omega
  rw [this, Bool.false_and]
theorem relOk_no3 {cl : Nat} {fr : Int} {r : Rel} (h : addOk r.kind r.add = false) : relOk cl fr r = false := by unfold relOk; rw [h, Bool.and_false, Bool.and_false]
theorem relOk_yes {cl : Nat} {fr : Int} {r : Rel} (h1 : nameOk r.name = true) (h2 : fr ≤ r.pos ∧ r.pos ≤ (cl : Int) - 4) (h3 : addOk r.kind r.add = true) : relOk cl fr r = true := by
  unfold relOk
  rw [h1, h3, decide_eq_true h2.1, decide_eq_true h2.2]
  rfl
theorem addOk_jump (n : Int) : addOk 1 n = decide (n = 0) := by unfold addOk; rw [if_pos rfl]
theorem addOk_addr (n : Int) : addOk 2 n = (decide (-2147483648 ≤ n) && decide (n ≤ 2147483647)) := by unfold addOk; rw [if_neg (by decide), if_pos rfl]
theorem addOk_else {k n : Int} (h1 : ¬ k = 1) (h2 : ¬ k = 2) : addOk k n = false := by unfold addOk; rw [if_neg h1, if_neg h2]
theorem may_no {o : ObjD} (h : ¬ (o.code.size ≤ 65536 ∧ o.data.length ≤ 4096 ∧ symsOk o.code.size o.data.length o.syms = true ∧ o.rels.length ≤ 8000)) : o.may = false := by
  cases hm : o.may with
  | false => rfl
  | true =>
    obtain ⟨h1, h2, h3, h4⟩ := may_parts hm
    unfold relsOk at h4
    simp only [Bool.and_eq_true, decide_eq_true_eq] at h4
    exact absurd ⟨h1, h2, h3, h4.1⟩ h
theorem may_is {o : ObjD} (h1 : o.code.size ≤ 65536) (h2 : o.data.length ≤ 4096) (h3 : symsOk o.code.size o.data.length o.syms = true) : o.may = relsOk o.code.size o.rels := by
  unfold ObjD.may
  rw [decide_eq_true h1, decide_eq_true h2, h3]
  rfl
theorem free_next {rs : List Rel} {k : Nat} {r : Rel} (h : rs.getD k noRel = r) : freeAt rs (k + 1) = r.pos + 4 := by
  unfold freeAt
  rw [if_neg (by omega), Nat.add_sub_cancel, h]

set_option maxRecDepth 100000 in
set_option maxHeartbeats 8000000 in
theorem rmay_any {w : World} {v : Value} {o : ObjD} (h : ObjV w v o) :
    Calls Tryz.prog 19 #[v] w fun e w' => e = .returned (.bool o.may) ∧ Below w.heap.size w w' := by
  obtain ⟨a1, l1, c1, a2, l2, c2, a3, l3, c3, rfl, hcs, h1, h2, h3⟩ := h.form
  obtain ⟨code, data, syms, rels⟩ := o
  simp only at hcs h1 h2 h3
  obtain ⟨z, hz⟩ : ∃ z : Bool, ObjD.may ⟨code, data, syms, rels⟩ = z := ⟨_, rfl⟩
  rw [hz]
  have HZN : Hid (¬ (code.size ≤ 65536 ∧ data.length ≤ 4096 ∧ symsOk code.size data.length syms = true ∧ rels.length ≤ 8000) → z = false) := fun hn => by rw [← hz]; exact may_no hn
  have HZI : Hid (code.size ≤ 65536 → data.length ≤ 4096 → symsOk code.size data.length syms = true → z = relsOk code.size rels) := fun g1 g2 g3 => by rw [← hz]; exact may_is (o := ⟨code, data, syms, rels⟩) g1 g2 g3
  have hn1 := h1.count
  have hn3 := h3.count
  have hcz : code.size ≤ 9223372036854775807 := by unfold maxLen at hcs; omega
  obtain ⟨W1, hW1⟩ : ∃ W1, w.alloc (.cells #[.string code, .slice a1 l1 c1, .slice a2 l2 c2, .slice a3 l3 c3] 30) = W1 := ⟨_, rfl⟩
  have HW : Hid (Below w.heap.size w W1) := by subst hW1; exact bl_one _ _
  have CV : Hid (Cells W1 w.heap.size [.string code, .slice a1 l1 c1, .slice a2 l2 c2, .slice a3 l3 c3]) := fun j u hu => by subst hW1; exact cell_last rfl (by simpa using hu)
  have H2 : Hid _ := h2.below HW.out
  have H3 : Hid _ := h3.below HW.out
  clear h h1 h2 h3 hz hcs
  have r0 : W1.cell? ⟨w.heap.size, 0, none⟩ = _ := CV.out 0 _ rfl
  have r1 : W1.cell? ⟨w.heap.size, 1, none⟩ = _ := CV.out 1 _ rfl
  have r2 : W1.cell? ⟨w.heap.size, 2, none⟩ = _ := CV.out 2 _ rfl
  have r3 : W1.cell? ⟨w.heap.size, 3, none⟩ = _ := CV.out 3 _ rfl
  go_enter Tryz.func19, Tryz.ntmps19
  by_cases hc : code.size ≤ 65536
  rotate_left
  · have hd : decide ((65536 : Int) < code.size) = true := decide_eq_true (by omega)
    have HNO : Hid _ := HZN.out (by omega)
    go_wp2
    go_ret
    exact ⟨by rw [HNO.out]; rfl, HW.out⟩
  have hd : decide ((65536 : Int) < code.size) = false := decide_eq_false (by omega)
  by_cases hdl : l1 ≤ 4096
  rotate_left
  · have hd' : decide ((4096 : Int) < l1) = true := decide_eq_true (by omega)
    have HNO : Hid _ := HZN.out (by omega)
    go_wp2
    go_ret
    exact ⟨by rw [HNO.out]; rfl, HW.out⟩
  have hd' : decide ((4096 : Int) < l1) = false := decide_eq_false (by omega)
  subst hn1
  go_wp2_with fail
  refine (rsyms_any code.size data.length H2.out).mono ?_
  rintro e x1 ⟨rfl, hx1⟩
  have HX1 : Hid _ := hx1
  have HXW : Hid (Below w.heap.size w x1) := HW.out.trans (hx1.mono HW.out.size)
  clear r0 r1 r2 r3 hx1
  cases hso : symsOk code.size data.length syms with
  | false =>
    have HNO : Hid _ := HZN.out (by rw [hso]; simp)
    clear hso
    go_wp2
    go_ret
    exact ⟨by rw [HNO.out]; rfl, HXW.out⟩
  | true =>
  have HZ : Hid _ := HZI.out hc hdl hso
  have HZ8 : Hid (¬ rels.length ≤ 8000 → z = false) := fun hn => HZN.out (fun hh => hn hh.2.2.2)
  clear hso
  have r3 := cell_thru HX1.out (CV.out 3 _ rfl)
  by_cases hl : l3 ≤ 8000
  rotate_left
  · have hd2 : decide ((8000 : Int) < l3) = true := decide_eq_true (by omega)
    have HNO : Hid _ := HZ8.out (by omega)
    go_wp2
    go_ret
    exact ⟨by rw [HNO.out]; rfl, HXW.out⟩
  have hd2 : decide ((8000 : Int) < l3) = false := decide_eq_false (by omega)
  have HA : Hid _ := H3.out.below HX1.out
  have CX : Hid (Cells x1 w.heap.size [.string code, .slice a1 data.length c1, .slice a2 l2 c2, .slice a3 l3 c3]) := fun j u hu => cell_thru HX1.out (CV.out j u hu)
  go_wp2_with fail
  clear r3 H2 H3 CV HX1 HZN HZI HZ8
  go_loopg [3, 4] l3 (fun r fv iv wq => ∃ (k : Nat) (fr : Int), fv = .int .i64 fr ∧ iv = .int .i64 k ∧ k ≤ l3 ∧ l3 - k ≤ r ∧ Hid (fr = freeAt rels k) ∧ 0 ≤ fr ∧ fr ≤ 70000 ∧ Hid (∀ i, i < k → relOk code.size (freeAt rels i) (rels.getD i noRel) = true) ∧ Hid (Below x1.heap.size x1 wq))
  case atStart => exact ⟨0, 0, rfl, rfl, Nat.zero_le _, by omega, (rfl : (0 : Int) = freeAt rels 0), by decide, by decide, (fun i hi => by omega : ∀ i, i < 0 → relOk code.size (freeAt rels i) (rels.getD i noRel) = true), Below.refl _ _⟩
  case round =>
    obtain ⟨k, fr, rfl, rfl, hk, hr, HFR, hf0, hf1, HAL, HBL⟩ := hrel
    have t0 := cell_thru HBL.out (CX.out 0 _ rfl)
    have t3 := cell_thru HBL.out (CX.out 3 _ rfl)
    have HBW : Hid (Below w.heap.size w wr) := HXW.out.trans (HBL.out.mono HXW.out.size)
    by_cases hlt : k < l3
    · rcases HA.out.cells with h0 | ⟨b, off, hA, hc'⟩
      · omega
      obtain ⟨k0, k1, k2, k3⟩ := hc' k hlt
      have hbl : b < x1.heap.size := World.block_lt_of_cell? x1 ⟨b, off + k * 4, none⟩ k0
      have q0 := (HBL.out.cell (p := ⟨b, off + k * 4, none⟩) hbl).trans k0
      have q1 := (HBL.out.cell (p := ⟨b, off + k * 4 + 1, none⟩) hbl).trans k1
      have q2 := (HBL.out.cell (p := ⟨b, off + k * 4 + 2, none⟩) hbl).trans k2
      have q3 := (HBL.out.cell (p := ⟨b, off + k * 4 + 3, none⟩) hbl).trans k3
      have HNOT : Hid (∀ {r : Rel}, rels.getD k noRel = r → relOk code.size fr r = false → z = false) := fun e1 e2 => by rw [HZ.out]; exact rels_no (k := k) (by omega) (by rw [e1, ← HFR.out]; exact e2)
      have HYES : Hid (∀ {r : Rel}, rels.getD k noRel = r → relOk code.size fr r = true → ∀ i, i < k + 1 → relOk code.size (freeAt rels i) (rels.getD i noRel) = true) := fun e1 e2 i hi => by
        by_cases hik : i = k
        · rw [hik, e1, ← HFR.out]; exact e2
        · exact HAL.out i (by omega)
      have HFX : Hid (∀ {r : Rel}, rels.getD k noRel = r → r.pos + 4 = freeAt rels (k + 1)) := fun e => (free_next e).symm
      obtain ⟨⟨xp, xk, xn, xa⟩, hx⟩ : ∃ x, rels.getD k noRel = x := ⟨_, rfl⟩
      rw [hx] at q0 q1 q2 q3
      simp only at q0 q1 q2 q3
      have HNO : Hid (relOk code.size fr ⟨xp, xk, xn, xa⟩ = false → z = false) := HNOT.out hx
      have HYE : Hid _ := HYES.out hx
      have HFN : Hid (xp + 4 = freeAt rels (k + 1)) := HFX.out hx
      subst hA
      have hii : (k : Int) < l3 := by omega
      have hin : 0 ≤ (k : Int) := by omega
      clear hc' k0 k1 k2 k3 hx HNOT HYES HFX
      have HBY : Hid (Below w.heap.size w (wr.alloc (.cells #[.int .i64 xp, .int .i64 xk, .string xn, .int .i64 xa] 51))) := HBW.out.trans ((bl_one wr _).mono HBW.out.size)
      have HBZ : Hid (Below x1.heap.size x1 (wr.alloc (.cells #[.int .i64 xp, .int .i64 xk, .string xn, .int .i64 xa] 51))) := HBL.out.trans ((bl_one wr _).mono HBL.out.size)
      have hwz : w.heap.size < wr.heap.size := by have := World.block_lt_of_cell? wr ⟨w.heap.size, 0, none⟩ t0; exact this
      cases hnk : nameOk xn with
      | false =>
        have HNM : Hid _ := hnk
        have HZF : Hid (z = false) := HNO.out (relOk_no1 hnk)
        clear hnk
        go_wp2_with (go_at_call 40; refine (named_any _ _).mono ?_; rintro e y ⟨rfl, rfl⟩; rw [HNM.out])
        go_ret
        exact ⟨by rw [HZF.out]; rfl, HBY.out⟩
      | true =>
      have HNM : Hid _ := hnk
      clear hnk
      by_cases g1 : xp < fr
      · have d1 : decide (xp < fr) = true := decide_eq_true g1
        have HZF : Hid (z = false) := HNO.out (relOk_no2 (by simp only; omega))
        go_wp2_with (go_at_call 40; refine (named_any _ _).mono ?_; rintro e y ⟨rfl, rfl⟩; rw [HNM.out])
        go_ret
        exact ⟨by rw [HZF.out]; rfl, HBY.out⟩
      have d1 : decide (xp < fr) = false := decide_eq_false g1
      by_cases g2 : (code.size : Int) - 4 < xp
      · have d2 : decide ((code.size : Int) - 4 < xp) = true := decide_eq_true g2
        have HZF : Hid (z = false) := HNO.out (relOk_no2 (by simp only; omega))
        go_wp2_with (go_at_call 40; refine (named_any _ _).mono ?_; rintro e y ⟨rfl, rfl⟩; rw [HNM.out])
        go_ret
        exact ⟨by rw [HZF.out]; rfl, HBY.out⟩
      have d2 : decide ((code.size : Int) - 4 < xp) = false := decide_eq_false g2
      by_cases g3 : xk = 1
      · subst g3
        by_cases g4 : xa = 0
        · subst g4
          have HGO : Hid _ := HYE.out (relOk_yes HNM.out ⟨by simp only; omega, by simp only; omega⟩ (by rw [addOk_jump]; exact decide_eq_true rfl))
          go_wp2_with (go_at_call 40; refine (named_any _ _).mono ?_; rintro e y ⟨rfl, rfl⟩; rw [HNM.out])
          go_roundg (l3 - (k + 1))
          case measure => omega
          case rel => exact ⟨k + 1, xp + 4, by first | rfl | (congr 1; omega), by first | rfl | (congr 1; omega), by omega, Nat.le_refl _, HFN.out, by omega, by omega, HGO.out, HBZ.out⟩
        have d4 : (xa == 0) = false := beq_eq_false_iff_ne.2 g4
        have HZF : Hid (z = false) := HNO.out (relOk_no3 (by rw [addOk_jump]; exact decide_eq_false g4))
        go_wp2_with (go_at_call 40; refine (named_any _ _).mono ?_; rintro e y ⟨rfl, rfl⟩; rw [HNM.out])
        go_ret
        exact ⟨by rw [HZF.out]; rfl, HBY.out⟩
      have d3 : (xk == 1) = false := beq_eq_false_iff_ne.2 g3
      by_cases g5 : xk = 2
      · subst g5
        by_cases g6 : -2147483648 ≤ xa
        · have d6 : decide (-2147483648 ≤ xa) = true := decide_eq_true g6
          by_cases g7 : xa ≤ 2147483647
          · have d7 : decide (xa ≤ 2147483647) = true := decide_eq_true g7
            have HGO : Hid _ := HYE.out (relOk_yes HNM.out ⟨by simp only; omega, by simp only; omega⟩ (by rw [addOk_addr, d6, d7]; rfl))
            go_wp2_with (go_at_call 40; refine (named_any _ _).mono ?_; rintro e y ⟨rfl, rfl⟩; rw [HNM.out])
            go_roundg (l3 - (k + 1))
            case measure => omega
            case rel => exact ⟨k + 1, xp + 4, by first | rfl | (congr 1; omega), by first | rfl | (congr 1; omega), by omega, Nat.le_refl _, HFN.out, by omega, by omega, HGO.out, HBZ.out⟩
          have d7 : decide (xa ≤ 2147483647) = false := decide_eq_false g7
          have HZF : Hid (z = false) := HNO.out (relOk_no3 (by rw [addOk_addr, d7, Bool.and_false]))
          go_wp2_with (go_at_call 40; refine (named_any _ _).mono ?_; rintro e y ⟨rfl, rfl⟩; rw [HNM.out])
          go_ret
          exact ⟨by rw [HZF.out]; rfl, HBY.out⟩
        have d6 : decide (-2147483648 ≤ xa) = false := decide_eq_false g6
        have HZF : Hid (z = false) := HNO.out (relOk_no3 (by rw [addOk_addr, d6, Bool.false_and]))
        go_wp2_with (go_at_call 40; refine (named_any _ _).mono ?_; rintro e y ⟨rfl, rfl⟩; rw [HNM.out])
        go_ret
        exact ⟨by rw [HZF.out]; rfl, HBY.out⟩
      have d5 : (xk == 2) = false := beq_eq_false_iff_ne.2 g5
      have HZF : Hid (z = false) := HNO.out (relOk_no3 (addOk_else g3 g5))
      go_wp2_with (go_at_call 40; refine (named_any _ _).mono ?_; rintro e y ⟨rfl, rfl⟩; rw [HNM.out])
      go_ret
      exact ⟨by rw [HZF.out]; rfl, HBY.out⟩
    · obtain rfl : k = l3 := by omega
      have HYA : Hid (z = true) := by
        show _ = _
        rw [HZ.out]
        unfold relsOk
        rw [show decide (rels.length ≤ 8000) = true by simp; omega, all_range_yes (fun i hi => HAL.out i (by omega))]
        rfl
      go_wp2_with fail
      go_ret
      exact ⟨by rw [HYA.out]; rfl, HBW.out⟩

end Go.Proofs.YtgjingleolhkbaaGreatDoor.O
