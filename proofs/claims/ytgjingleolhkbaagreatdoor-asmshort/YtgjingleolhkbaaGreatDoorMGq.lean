/- The arguments of layer 9's statements, opened. -/
import Derived.Test.YtgjingleolhkbaaGreatDoorRows
import Derived.Test.YtgjingleolhkbaaGreatDoorAsChk
import Derived.ProofKit
import Derived.ShutString
import Derived.ChangeOld
import Derived.ChangeMaps5
import Derived.Below
import Derived.Carry
import Derived.OpenShut
import Derived.Lib.SmallJoins
import Derived.Deep.Slices
import Derived.Deep.Strs
import Derived.Lib.LaidTab
import Derived.Stop.LaidErr
import Derived.Shelf.Vars
import Derived.Shelf.Strings.Shaped
import Derived.Test.YtgjingleolhkbaaGreatDoorInsMath
import Derived.Test.YtgjingleolhkbaaGreatDoorCards
import Derived.Test.YtgjingleolhkbaaGreatDoorTie
import Derived.Test.YtgjingleolhkbaaGreatDoorAsOp
import Derived.WalkKit
import Derived.Deep.DeepHandedRow
import Derived.LaidMore
namespace Go.Proofs.YtgjingleolhkbaaGreatDoor
open Go.ChangeShapes Go.WideShapes Go.ChangeAt Go.RowKit Go.Joins
set_option linter.unusedVariables false
set_option linter.unusedSimpArgs false

section
variable {H : Type} {enc : TypeId × Value → H} {w : World} {base : Nat} {spare : Nat → Bool} {held : Bool}
theorem cell_i64 : Tryz.prog.cellsOf 2 = 1 := by kernel_rfl
theorem cell_int : Tryz.prog.cellsOf 3 = 1 := by kernel_rfl
theorem cell_str : Tryz.prog.cellsOf 9 = 1 := by kernel_rfl
theorem cell_sl : Tryz.prog.cellsOf 26 = 1 := by kernel_rfl
theorem cell_ins : Tryz.prog.cellsOf 42 = 4 := by kernel_rfl
theorem cell_item : Tryz.prog.cellsOf 44 = 7 := by kernel_rfl
theorem wf_iff (x : Int) : (Lit.int .i64 x).wf = true ↔ -9223372036854775808 ≤ x ∧ x ≤ 9223372036854775807 := by
  simp [Lit.wf, IntKind.min, IntKind.max, IntKind.signed, IntKind.bits]
theorem fits_of {n : Int} (h : (Lit.int .i64 n).wf = true) : X.fits n := by
  exact (wf_iff n).1 h
theorem open_I {fuel : Nat} {v : Value} {x : DataW H × List MemPlace} (hsp : ∀ b, spare b = true) (h : DataW.trod enc Tryz.prog w base spare held fuel 26 [v] = some x) : ∃ a l c zs, v = .slice a l c ∧ IntsV w a l c zs ∧ ∀ n ∈ zs, X.fits n := by
  rcases open_ints Tryz.underlying26 Tryz.underlying2 cell_i64 h with ⟨hcs, -⟩ | ⟨a, l, c, zs, hcs, -, hl, hm, hz, -, hcell, hwz⟩
  · simp at hcs
    subst hcs
    exact ⟨none, 0, 0, [], rfl, ⟨rfl, ⟨Nat.le_refl _, by decide⟩, .inl rfl⟩, by simp⟩
  · simp at hcs
    subst hcs
    rw [hsp, if_pos rfl] at hz
    refine ⟨some a, l, c, zs.take l, rfl, ⟨by simp; omega, ⟨hl, hm⟩, ?_⟩, fun n hn => fits_of (hwz n (List.mem_of_mem_take hn))⟩
    by_cases h0 : l = 0
    · exact .inl h0
    · obtain ⟨b, off, rfl, hc'⟩ := ints_at hcell (by omega)
      refine .inr ⟨b, off, rfl, fun i hi => ?_⟩
      rw [hc' i (by omega)]
      simp [List.getD, hi]
set_option maxRecDepth 100000 in
theorem trod_item {fuel : Nat} {cs : List Value} {x : DataW H × List MemPlace} (hsp : ∀ b, spare b = true) (h : DataW.trod enc Tryz.prog w base spare held fuel 44 cs = some x) :
    ∃ (t : X.It) (a1 : Option Addr) (l1 c1 : Nat), cs = [.int .i64 t.kind, .string (X.str t.name), .int .i64 t.op, .int .i64 t.a, .int .i64 t.b, .int .i64 t.n, .slice a1 l1 c1] ∧ t.name.length ≤ maxLen ∧ X.fitsIt t ∧ IntsV w a1 l1 c1 t.words := by
  obtain ⟨y0, y1, y2, y3, n, -, hl, h0, h1, h2, h3⟩ := trod_struct4 Tryz.underlying44 h
  rw [cell_item] at hl
  match cs, hl with
  | [u0, u1, u2, u3, u4, u5, u6], _ =>
    simp only [cell_int, cell_str, cell_ins, cell_sl] at h0 h1 h2 h3
    obtain ⟨z0, e0, -, w0⟩ := DataW.trod_int Tryz.underlying3 h0
    obtain ⟨z1, e1, -, w1⟩ := DataW.trod_string Tryz.underlying9 h1
    obtain ⟨x0, x1, x2, x3, n2, -, hl2, g0, g1, g2, g3⟩ := trod_struct4 Tryz.underlying42 h2
    simp only [cell_int, cell_i64] at g0 g1 g2 g3
    obtain ⟨a0, q0, -, v0⟩ := DataW.trod_int Tryz.underlying3 g0
    obtain ⟨a1, q1, -, v1⟩ := DataW.trod_int Tryz.underlying3 g1
    obtain ⟨a2, q2, -, v2⟩ := DataW.trod_int Tryz.underlying3 g2
    obtain ⟨a3, q3, -, v3⟩ := DataW.trod_int Tryz.underlying2 g3
    obtain ⟨ad, l1, c1, zs, e3, V, F⟩ := open_I hsp (v := u6) (by simpa using h3)
    simp at e0 e1 q0 q1 q2 q3
    subst e0 e1 q0 q1 q2 q3 e3
    exact ⟨⟨z0, z1.data.toList, a0, a1, a2, a3, zs⟩, ad, l1, c1, by simp [str_eq], by simpa using w1, ⟨fits_of v3, F⟩, V⟩
/-- A list of items, as it is read. -/
theorem open_items {fuel : Nat} {v : Value} {x : DataW H × List MemPlace} (hsp : ∀ b, spare b = true) (h : DataW.trod enc Tryz.prog w base spare held fuel 22 [v] = some x) :
    ∃ a len cap ts, v = .slice a len cap ∧ ItsV w a len cap ts := by
  rcases Deep.open_slice Tryz.underlying22 h with ⟨hcs, -⟩ | ⟨a, len, cap, m, n, D, Pl, hcs, -, hl, hm, hmm, -, hx⟩
  · simp at hcs
    subst hcs
    exact ⟨none, 0, 0, [], rfl, ⟨rfl, ⟨Nat.le_refl _, by decide⟩, by simp, .inl rfl⟩⟩
  · simp at hcs
    subst hcs
    rw [hsp, if_pos rfl] at hmm
    subst hmm
    have hel : ∀ i, i < len → ∃ (t : X.It), ∃ (a1 : Option Addr) (l1 c1 : Nat), w.cells? base (a.add (i * 7)) 7 = some [.int .i64 t.kind, .string (X.str t.name), .int .i64 t.op, .int .i64 t.a, .int .i64 t.b, .int .i64 t.n, .slice a1 l1 c1] ∧ (t.name.length ≤ maxLen ∧ X.fitsIt t) ∧ IntsV w a1 l1 c1 t.words := by
      intro i hi
      obtain ⟨cs', h1, h2⟩ := hx i (by omega)
      rw [cell_item] at h1
      obtain ⟨t, a1, l1, c1, rfl, hr, hr2, V⟩ := trod_item hsp h2
      exact ⟨t, a1, l1, c1, h1, ⟨hr, hr2⟩, V⟩
    have hf : ∃ f : Nat → X.It, ∀ i, i < len → ∃ (a1 : Option Addr) (l1 c1 : Nat), w.cells? base (a.add (i * 7)) 7 = some [.int .i64 (f i).kind, .string (X.str (f i).name), .int .i64 (f i).op, .int .i64 (f i).a, .int .i64 (f i).b, .int .i64 (f i).n, .slice a1 l1 c1] ∧ ((f i).name.length ≤ maxLen ∧ X.fitsIt (f i)) ∧ IntsV w a1 l1 c1 (f i).words :=
      ⟨fun i => if h : i < len then Classical.choose (hel i h) else X.noIt, fun i hi => by
        have := Classical.choose_spec (hel i hi)
        simp only [dif_pos hi]
        exact this⟩
    obtain ⟨f, hf⟩ := hf
    have hget : ∀ i, i < len → ((List.range len).map f).getD i X.noIt = f i := fun i hi => by simp [List.getD, hi]
    refine ⟨some a, len, m, (List.range len).map f, rfl, ⟨by simp, ⟨hl, hm⟩, ?_, ?_⟩⟩
    · intro r hr
      obtain ⟨i, hi, rfl⟩ := List.mem_map.1 hr
      obtain ⟨_, _, _, -, h, -⟩ := hf i (by simpa using hi)
      exact h
    · by_cases h0 : len = 0
      · exact .inl h0
      · have c0 : ∀ i, i < len → ∃ (a1 : Option Addr) (l1 c1 : Nat), (∀ j u, [.int .i64 (f i).kind, .string (X.str (f i).name), .int .i64 (f i).op, .int .i64 (f i).a, .int .i64 (f i).b, .int .i64 (f i).n, .slice a1 l1 c1][j]? = some u → w.cell? ((a.add (i * 7)).add j) = some u) ∧ IntsV w a1 l1 c1 (f i).words := fun i hi => by
          obtain ⟨a1, l1, c1, hc, -, V⟩ := hf i hi
          refine ⟨a1, l1, c1, fun j u hu => ?_, V⟩
          obtain ⟨-, -, hx⟩ := World.cells?_some hc
          have hj : j < 7 := by have := (List.getElem?_eq_some_iff.1 hu).1; simpa using this
          rw [hx j hj]
          exact hu
        obtain ⟨b, off, spot⟩ := a
        have hspot : spot = none := by
          obtain ⟨_, _, _, k, -⟩ := c0 0 (by omega)
          have := k 0 _ rfl
          rw [Addr.add_add] at this
          simpa [Addr.add] using World.cell?_spot this
        subst hspot
        refine .inr ⟨b, off, rfl, fun i hi => ?_⟩
        rw [hget i hi]
        obtain ⟨a1, l1, c1, k, V⟩ := c0 i hi
        simp only [Addr.add_lit] at k
        exact ⟨a1, l1, c1, k 0 _ rfl, k 1 _ rfl, k 2 _ rfl, k 3 _ rfl, k 4 _ rfl, k 5 _ rfl, k 6 _ rfl, V⟩
end

/-! ### The variables -/
theorem gRows : Tryz.prog.globalNamed "cotter/asmtext.rows" = some 0 := by kernel_rfl
theorem gES : Tryz.prog.globalNamed "strconv.ErrSyntax" = some 4 := by kernel_rfl
theorem gER : Tryz.prog.globalNamed "strconv.ErrRange" = some 5 := by kernel_rfl
theorem tRows : (Tryz.prog.globals[0]?).map (·.type) = some 143 := by kernel_rfl
theorem tES : (Tryz.prog.globals[4]?).map (·.type) = some 157 := by kernel_rfl
theorem tER : (Tryz.prog.globals[5]?).map (·.type) = some 157 := by kernel_rfl
theorem cRows : Tryz.prog.cellsOf 143 = 68 := by kernel_rfl
theorem cRow : Tryz.prog.cellsOf 125 = 2 := by kernel_rfl
theorem cES : Tryz.prog.cellsOf 185 = 1 := by kernel_rfl
theorem star : "*" ++ "errors.errorString" = "*errors.errorString" := by decide
theorem rowES (u : TypeId) (h : Tryz.prog.typeName? 3 u = some "*errors.errorString") : u = 183 :=
  typeName_ptr_named (nm := "errors.errorString") (by rw [star]; kernel_rfl) (by kernel_rfl) (by decide) u (by rw [star]; exact h)

theorem tPow : (Tryz.prog.globals[6]?).map (·.type) = some 187 := by kernel_rfl
theorem cPow : Tryz.prog.cellsOf 187 = 20 := by kernel_rfl
theorem cU64 : Tryz.prog.cellsOf 116 = 1 := by kernel_rfl
theorem laidPow : Rows.laid_internal_strconv_uint64pow10 (H := Unit) = Lib.tabData .u64 Lib.pow10Tab := by rfl
def rowD (r : X.By × X.By) : DataW Unit := .agg [.lit (.string r.1), .lit (.string r.2)]
theorem laidRows : Rows.laid_cotter_asmtext_rows (H := Unit) = .agg (X.rows.map rowD) := by rfl

set_option maxRecDepth 100000 in
theorem rows_of_trod {W : World} {fuel : Nat} {cs : List Value} {p : List MemPlace} {enc : TypeId × Value → Unit} {base : Nat} {sp : Nat → Bool} {held : Bool}
    (h : DataW.trod enc Tryz.prog W base sp held fuel 143 cs = some (Rows.laid_cotter_asmtext_rows, p)) : ∀ k, k < 34 → cs[k * 2]? = some (.string (X.str (X.row k).1)) ∧ cs[k * 2 + 1]? = some (.string (X.str (X.row k).2)) := by
  obtain ⟨xs, m, -, hx, hl, hn, hel⟩ := DataW.trod_array Tryz.underlying143 h
  rw [cRows] at hl
  rw [cRow] at hel
  have hx1 : xs.map (·.1) = X.rows.map rowD := by
    simp only [Prod.mk.injEq] at hx
    have h1 := hx.1
    rw [laidRows] at h1
    injection h1 with h1
    exact h1.symm
  intro k hk
  have h1 := hel k hk
  obtain ⟨y, hy⟩ : ∃ y, xs[k]? = some y := ⟨xs[k], List.getElem?_eq_getElem (by omega)⟩
  rw [hy] at h1
  have h2 : (xs.map (·.1))[k]? = some y.1 := by rw [List.getElem?_map, hy]; rfl
  have hrow : X.rows[k]? = some (X.row k) := by simp [X.row, List.getD, X.rows_length, hk]
  rw [hx1, List.getElem?_map, hrow] at h2
  have h3 : rowD (X.row k) = y.1 := Option.some.inj h2
  obtain ⟨y0, y1, n, e0, hl2, g0, g1⟩ := trod_struct2 Tryz.underlying125 h1
  simp only [cell_str] at g0 g1
  obtain ⟨s0, q0, d0, -⟩ := DataW.trod_string Tryz.underlying9 g0
  obtain ⟨s1, q1, d1, -⟩ := DataW.trod_string Tryz.underlying9 g1
  rw [e0, d0, d1] at h3
  simp only [rowD, DataW.agg.injEq, List.cons.injEq, DataW.lit.injEq, Lit.string.injEq, and_true] at h3
  obtain ⟨p0, p1⟩ := h3
  have k0 := congrArg (·[0]?) q0
  have k1 := congrArg (·[0]?) q1
  simp only [List.getElem?_take, List.getElem?_drop, List.getElem?_cons_zero] at k0 k1
  have z0 : s0 = X.str (X.row k).1 := by rw [p0, str_eq]
  have z1 : s1 = X.str (X.row k).2 := by rw [p1, str_eq]
  rw [← z0, ← z1]
  exact ⟨by simpa using k0, by simpa using k1⟩
theorem maxlen_of {W : World} (h : W.ShapedOpen Tryz.prog) : ∃ m, W.cell? ⟨3, 0, none⟩ = some (.int .i64 m) :=
  Go.Proofs.cell_of_shapedOpen_int (zero := #[.int .i64 0]) (t := 3) h (of_decide_eq_true (by kernel_rfl)) (by kernel_rfl) rfl (by kernel_rfl) (by kernel_rfl) Tryz.underlying3
theorem gB64 : Tryz.prog.globalNamed "math/bits.deBruijn64tab" = some 8 := by kernel_rfl
theorem size_of {W : World} {cs : Array Value} (h : W.var? Tryz.prog "math/bits.deBruijn64tab" = some cs) : 9 ≤ W.heap.size := by
  unfold World.var? at h
  rw [gB64] at h
  simp only [Option.bind_some] at h
  cases hc : W.heap[8]? with
  | none => rw [hc] at h; cases h
  | some o => have := (Array.getElem?_eq_some_iff.1 hc).1; omega

theorem tab_of_laid {W : World} (h : laidMetH Tryz.prog Rows.asmShortRow.laid W) (hsh : W.ShapedOpen Tryz.prog) : Tab W := by
  have h9 : laidMet Tryz.prog Rows.asmShortRow.laid W := h
  have h' := h9.tail.tail
  obtain ⟨ps6, ⟨g6, t6, cs6, f6, p6, q6, hg6, ht6, hv6, hd6, _, _⟩, _, _⟩ := h'.tail
  have h2 := h'.tail.tail
  have h3 := h2.tail
  have h4 := h3.tail
  have h5 := h4.tail
  have hp : Lib.TabIs Tryz.prog W "internal/strconv.uint64pow10" .u64 Lib.pow10Tab := by
    have e : (Rows.laid_internal_strconv_uint64pow10 (H := Unit)) = Lib.tabData .u64 Lib.pow10Tab := laidPow
    exact Lib.tabIs_of_head (rest := [("strconv.ErrRange", Rows.laid_strconv_ErrRange), ("strconv.ErrSyntax", Rows.laid_strconv_ErrSyntax), ("cotter/asmtext.rows", Rows.laid_cotter_asmtext_rows)]) gPow tPow Tryz.underlying187 Tryz.underlying116 cU64 cPow (by rw [← e]; exact h2)
  obtain ⟨a0, s0, hv0, -, -, -⟩ := laid_sentinel h3 gER tER Tryz.underlying157 rowES Tryz.underlying183 Tryz.underlying185 rfl rfl Tryz.underlying9 cES cell_str
  obtain ⟨a1, s1, hv1, -, -, -⟩ := laid_sentinel h4 gES tES Tryz.underlying157 rowES Tryz.underlying183 Tryz.underlying185 rfl rfl Tryz.underlying9 cES cell_str
  obtain ⟨ps, ⟨g2, t2, cs2, f2, p2, q2, hg2, ht2, hv2, hd2, _, _⟩, _, _⟩ := h5
  obtain rfl := Option.some.inj (gRows.symm.trans hg2)
  obtain rfl := Option.some.inj (tRows.symm.trans ht2)
  have k0 := World.var?_cell gER hv0 0
  have k1 := World.var?_cell gES hv1 0
  have k2 := World.var?_cell hg2 hv2
  have e0 := rows_of_trod hd2
  exact ⟨fun k hk => ⟨by rw [k2 (k * 2), ← Array.getElem?_toList, (e0 k hk).1], by rw [k2 (k * 2 + 1), ← Array.getElem?_toList, (e0 k hk).2]⟩, maxlen_of hsh, hp, ⟨_, by simpa using k1, .inr ⟨_, _, rfl⟩⟩, ⟨_, by simpa using k0, .inr ⟨_, _, rfl⟩⟩, size_of hv6⟩

end Go.Proofs.YtgjingleolhkbaaGreatDoor

/- What the rows' list gives: the two tables stand in memory as the program's text lays them. -/
namespace Go.Proofs.YtgjingleolhkbaaGreatDoor.J
open Go.ChangeShapes Go.WideShapes Go.ChangeAt Go.RowKit Go.Joins

theorem gForms : Tryz.prog.globalNamed "cotter/ins.forms" = some 2 := by kernel_rfl
theorem gNums : Tryz.prog.globalNamed "cotter/ins.formNumbers" = some 1 := by kernel_rfl
theorem tForms : (Tryz.prog.globals[2]?).map (·.type) = some 146 := by kernel_rfl
theorem tNums : (Tryz.prog.globals[1]?).map (·.type) = some 145 := by kernel_rfl
theorem cForms : Tryz.prog.cellsOf 146 = 33 := by kernel_rfl
theorem cNums : Tryz.prog.cellsOf 145 = 34 := by kernel_rfl
theorem cForm : Tryz.prog.cellsOf 130 = 3 := by kernel_rfl
theorem cInt : Tryz.prog.cellsOf 3 = 1 := by kernel_rfl
theorem cBool : Tryz.prog.cellsOf 4 = 1 := by kernel_rfl

/-- A form's three cells, read. -/
theorem trod_form {W : World} {fuel : Nat} {cs : List Value} {r m : Int} {t : Bool} {p : List MemPlace} {enc : TypeId × Value → Unit} {base : Nat} {sp : Nat → Bool} {held : Bool}
    (h : DataW.trod enc Tryz.prog W base sp held fuel 130 cs = some (.agg [.lit (.int .i64 r), .lit (.int .i64 m), .lit (.bool t)], p)) : cs[0]? = some (.int .i64 r) ∧ cs[1]? = some (.int .i64 m) ∧ cs[2]? = some (.bool t) := by
  obtain ⟨y0, y1, y2, n, hx, -, h0, h1, h2⟩ := Deep.trod_struct3 Tryz.underlying130 h
  obtain ⟨a0, e0, g0, -⟩ := DataW.trod_int Tryz.underlying3 h0
  obtain ⟨a1, e1, g1, -⟩ := DataW.trod_int Tryz.underlying3 h1
  obtain ⟨a2, e2, g2⟩ := DataW.trod_bool Tryz.underlying4 h2
  subst g0 g1 g2
  simp at hx
  obtain ⟨⟨rfl, rfl, rfl⟩, -⟩ := hx
  have k0 := congrArg (·[0]?) e0
  have k1 := congrArg (·[0]?) e1
  have k2 := congrArg (·[0]?) e2
  simp [cInt, cBool, List.getElem?_drop] at k0 k1 k2
  exact ⟨k0, k1, k2⟩

theorem forms_of_trod {W : World} {fuel : Nat} {cs : List Value} {p : List MemPlace} {enc : TypeId × Value → Unit} {base : Nat} {sp : Nat → Bool} {held : Bool}
    (h : DataW.trod enc Tryz.prog W base sp held fuel 146 cs = some (Rows.laid_cotter_ins_forms, p)) : ∀ o : Nat, cs[o]? = I.forms[o]? := by
  obtain ⟨xs, m, -, hx, hl, hn, hel⟩ := DataW.trod_array Tryz.underlying146 h
  rw [cForms] at hl
  rw [cForm] at hel
  match xs, hn, hx with
  | [⟨x0, p0⟩, ⟨x1, p1⟩, ⟨x2, p2⟩, ⟨x3, p3⟩, ⟨x4, p4⟩, ⟨x5, p5⟩, ⟨x6, p6⟩, ⟨x7, p7⟩, ⟨x8, p8⟩, ⟨x9, p9⟩, ⟨xa, pa⟩], _, hx =>
    simp only [Rows.laid_cotter_ins_forms, List.map_cons, List.map_nil, Prod.mk.injEq, DataW.agg.injEq, List.cons.injEq, and_true] at hx
    obtain ⟨⟨rfl, rfl, rfl, rfl, rfl, rfl, rfl, rfl, rfl, rfl, rfl⟩, -⟩ := hx
    have k0 := trod_form (hel 0 (by decide))
    have k1 := trod_form (hel 1 (by decide))
    have k2 := trod_form (hel 2 (by decide))
    have k3 := trod_form (hel 3 (by decide))
    have k4 := trod_form (hel 4 (by decide))
    have k5 := trod_form (hel 5 (by decide))
    have k6 := trod_form (hel 6 (by decide))
    have k7 := trod_form (hel 7 (by decide))
    have k8 := trod_form (hel 8 (by decide))
    have k9 := trod_form (hel 9 (by decide))
    have ka := trod_form (hel 10 (by decide))
    simp only [List.getElem?_take, List.getElem?_drop] at k0 k1 k2 k3 k4 k5 k6 k7 k8 k9 ka
    intro o
    by_cases ho : o < 33
    · obtain ⟨q, r, hr, rfl⟩ : ∃ q r, r < 3 ∧ o = q * 3 + r := ⟨o / 3, o % 3, by omega, by omega⟩
      have hq : q < 11 := by omega
      rcases (show q = 0 ∨ q = 1 ∨ q = 2 ∨ q = 3 ∨ q = 4 ∨ q = 5 ∨ q = 6 ∨ q = 7 ∨ q = 8 ∨ q = 9 ∨ q = 10 by omega) with rfl | rfl | rfl | rfl | rfl | rfl | rfl | rfl | rfl | rfl | rfl <;>
        rcases (show r = 0 ∨ r = 1 ∨ r = 2 by omega) with rfl | rfl | rfl
      all_goals first | exact k0.1 | exact k0.2.1 | exact k0.2.2 | exact k1.1 | exact k1.2.1 | exact k1.2.2 | exact k2.1 | exact k2.2.1 | exact k2.2.2 | exact k3.1 | exact k3.2.1 | exact k3.2.2 | exact k4.1 | exact k4.2.1 | exact k4.2.2 | exact k5.1 | exact k5.2.1 | exact k5.2.2 | exact k6.1 | exact k6.2.1 | exact k6.2.2 | exact k7.1 | exact k7.2.1 | exact k7.2.2 | exact k8.1 | exact k8.2.1 | exact k8.2.2 | exact k9.1 | exact k9.2.1 | exact k9.2.2 | exact ka.1 | exact ka.2.1 | exact ka.2.2
    · rw [List.getElem?_eq_none (by omega), Array.getElem?_eq_none (by simp; omega)]

theorem nums_eq : ([0, 8, 3, 3, 3, 3, 3, 3, 3, 3, 3, 3, 3, 3, 3, 3, 3, 9, 9, 7, 5, 7, 7, 5, 1, 4, 6, 6, 9, 9, 1, 2, 1, 10].map fun z => Value.int .i64 z) = I.nums.toList := by kernel_rfl

theorem tab_of_laid {W : World} (h : laidMetH Tryz.prog Rows.asmShortRow.laid W) : Tab W := by
  have h' : laidMet Tryz.prog Rows.asmShortRow.laid W := h
  obtain ⟨ps, ⟨g0, t0, cs0, f0, p0, q0, hg0, ht0, hv0, hd0, ⟨g1, t1, cs1, f1, p1, q1, hg1, ht1, hv1, hd1, _, _⟩, _⟩, _⟩ := h'
  obtain rfl := Option.some.inj (gForms.symm.trans hg0)
  obtain rfl := Option.some.inj (gNums.symm.trans hg1)
  obtain rfl := Option.some.inj (tForms.symm.trans ht0)
  obtain rfl := Option.some.inj (tNums.symm.trans ht1)
  have e0 := forms_of_trod hd0
  have e1 := Lib.cells_of_tab (zs := [0, 8, 3, 3, 3, 3, 3, 3, 3, 3, 3, 3, 3, 3, 3, 3, 3, 9, 9, 7, 5, 7, 7, 5, 1, 4, 6, 6, 9, 9, 1, 2, 1, 10]) Tryz.underlying145 Tryz.underlying3 cInt cNums hd1
  have k0 := World.var?_cell hg0 hv0
  have k1 := World.var?_cell hg1 hv1
  have f0 : ∀ o, W.cell? ⟨2, o, none⟩ = I.forms[o]? := fun o => by rw [k0 o, ← Array.getElem?_toList, e0 o]
  have f1 : ∀ o, W.cell? ⟨1, o, none⟩ = I.nums[o]? := fun o => by rw [k1 o, ← Array.getElem?_toList, e1, nums_eq, Array.getElem?_toList]
  have hz := World.block_lt_of_cell? W ⟨2, 0, none⟩ (f0 0)
  exact ⟨f1, f0, hz⟩

end Go.Proofs.YtgjingleolhkbaaGreatDoor.J

/- A world for the witness. -/
namespace Go.Proofs.YtgjingleolhkbaaGreatDoor
open Go.ChangeShapes Go.WideShapes Go.ChangeAt Go.RowKit Go.Joins

/-- A block that holds these cells in the place of its own. -/
def setObj (cs : Array Value) : Obj → Obj
  | .cells _ t frozen => .cells cs t frozen
  | o => o
def pow10V : Array Value := #[.int .u64 1, .int .u64 10, .int .u64 100, .int .u64 1000, .int .u64 10000, .int .u64 100000, .int .u64 1000000, .int .u64 10000000, .int .u64 100000000, .int .u64 1000000000, .int .u64 10000000000, .int .u64 100000000000, .int .u64 1000000000000, .int .u64 10000000000000, .int .u64 100000000000000, .int .u64 1000000000000000, .int .u64 10000000000000000, .int .u64 100000000000000000, .int .u64 1000000000000000000, .int .u64 10000000000000000000]
def tab32V : Array Value := #[.int .u8 0, .int .u8 1, .int .u8 28, .int .u8 2, .int .u8 29, .int .u8 14, .int .u8 24, .int .u8 3, .int .u8 30, .int .u8 22, .int .u8 20, .int .u8 15, .int .u8 25, .int .u8 17, .int .u8 4, .int .u8 8, .int .u8 31, .int .u8 27, .int .u8 13, .int .u8 23, .int .u8 21, .int .u8 19, .int .u8 16, .int .u8 7, .int .u8 26, .int .u8 12, .int .u8 18, .int .u8 6, .int .u8 11, .int .u8 5, .int .u8 10, .int .u8 9]
def tab64V : Array Value := #[.int .u8 0, .int .u8 1, .int .u8 56, .int .u8 2, .int .u8 57, .int .u8 49, .int .u8 28, .int .u8 3, .int .u8 61, .int .u8 58, .int .u8 42, .int .u8 50, .int .u8 38, .int .u8 29, .int .u8 17, .int .u8 4, .int .u8 62, .int .u8 47, .int .u8 59, .int .u8 36, .int .u8 45, .int .u8 43, .int .u8 51, .int .u8 22, .int .u8 53, .int .u8 39, .int .u8 33, .int .u8 30, .int .u8 24, .int .u8 18, .int .u8 12, .int .u8 5, .int .u8 63, .int .u8 55, .int .u8 48, .int .u8 27, .int .u8 60, .int .u8 41, .int .u8 37, .int .u8 16, .int .u8 46, .int .u8 35, .int .u8 44, .int .u8 21, .int .u8 52, .int .u8 32, .int .u8 23, .int .u8 11, .int .u8 54, .int .u8 26, .int .u8 40, .int .u8 15, .int .u8 34, .int .u8 20, .int .u8 31, .int .u8 10, .int .u8 25, .int .u8 14, .int .u8 19, .int .u8 9, .int .u8 13, .int .u8 8, .int .u8 7, .int .u8 6]
/-- So many blocks has the settled world. -/
noncomputable def low : Nat := (World.holding Tryz.prog default ⟨#[], #[], []⟩).heap.size
/-- A world for the witness: the settled one, the tables holding what their initialisers lay, and two errors behind all. -/
noncomputable def laidWorld (os : Os) : World :=
  let w0 := World.holding Tryz.prog os ⟨#[.cells #[.string { data := #[118, 97, 108, 117, 101, 32, 111, 117, 116, 32, 111, 102, 32, 114, 97, 110, 103, 101] }] 185, .cells #[.string { data := #[105, 110, 118, 97, 108, 105, 100, 32, 115, 121, 110, 116, 97, 120] }] 185], #[], []⟩
  { w0 with heap := (((((((w0.heap.modify 0 (setObj X.rowsL.toArray)).modify 4 (setObj #[.iface 183 (.pointer (some ⟨low + 1, 0, none⟩))])).modify 5 (setObj #[.iface 183 (.pointer (some ⟨low, 0, none⟩))])).modify 6 (setObj pow10V)).modify 7 (setObj tab32V)).modify 8 (setObj tab64V)).modify 1 (setObj J.I.nums)).modify 2 (setObj J.I.forms) }

end Go.Proofs.YtgjingleolhkbaaGreatDoor
