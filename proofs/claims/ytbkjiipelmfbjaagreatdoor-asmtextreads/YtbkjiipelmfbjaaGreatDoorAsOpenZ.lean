/- The arguments of layer 9's statements, opened. -/
import Derived.Test.YtbkjiipelmfbjaaGreatDoorRows
import Derived.Test.YtbkjiipelmfbjaaGreatDoorAsChk
import Derived.ProofKit
import Derived.ShutString
import Derived.ChangeOld
import Derived.ChangeMaps5
import Derived.Below
import Derived.Carry
import Derived.OpenShut
import Derived.Lib.SmallJoins
import Derived.Deep.Slices
import Derived.Deep.Strs
import Derived.Lib.LaidTab
import Derived.Stop.LaidErr
import Derived.Shelf.Vars
import Derived.Shelf.Strings.Shaped
namespace Go.Proofs.YtbkjiipelmfbjaaGreatDoor
open Go.ChangeShapes Go.WideShapes Go.ChangeAt Go.RowKit Go.Joins
set_option linter.unusedVariables false
set_option linter.unusedSimpArgs false

section
variable {H : Type} {enc : TypeId × Value → H} {w : World} {base : Nat} {spare : Nat → Bool} {held : Bool}
theorem cell_i64 : Tryz.prog.cellsOf 2 = 1 := by kernel_rfl
theorem cell_int : Tryz.prog.cellsOf 3 = 1 := by kernel_rfl
theorem cell_str : Tryz.prog.cellsOf 9 = 1 := by kernel_rfl
theorem cell_sl : Tryz.prog.cellsOf 30 = 1 := by kernel_rfl
theorem cell_ins : Tryz.prog.cellsOf 29 = 4 := by kernel_rfl
theorem cell_item : Tryz.prog.cellsOf 32 = 7 := by kernel_rfl
theorem wf_iff (x : Int) : (Lit.int .i64 x).wf = true ↔ -9223372036854775808 ≤ x ∧ x ≤ 9223372036854775807 := by
  simp [Lit.wf, IntKind.min, IntKind.max, IntKind.signed, IntKind.bits]
theorem fits_of {n : Int} (h : (Lit.int .i64 n).wf = true) : X.fits n := by
  exact (wf_iff n).1 h
theorem open_I {fuel : Nat} {v : Value} {x : DataW H × List MemPlace} (hsp : ∀ b, spare b = true) (h : DataW.trod enc Tryz.prog w base spare held fuel 30 [v] = some x) : ∃ a l c zs, v = .slice a l c ∧ IntsV w a l c zs ∧ ∀ n ∈ zs, X.fits n := by
  rcases open_ints Tryz.underlying30 Tryz.underlying2 cell_i64 h with ⟨hcs, -⟩ | ⟨a, l, c, zs, hcs, -, hl, hm, hz, -, hcell, hwz⟩
  · simp at hcs
    subst hcs
    exact ⟨none, 0, 0, [], rfl, ⟨rfl, ⟨Nat.le_refl _, by decide⟩, .inl rfl⟩, by simp⟩
  · simp at hcs
    subst hcs
    rw [hsp, if_pos rfl] at hz
    refine ⟨some a, l, c, zs.take l, rfl, ⟨by simp; omega, ⟨hl, hm⟩, ?_⟩, fun n hn => fits_of (hwz n (List.mem_of_mem_take hn))⟩
    by_cases h0 : l = 0
    · exact .inl h0
    · obtain ⟨b, off, rfl, hc'⟩ := ints_at hcell (by omega)
      refine .inr ⟨b, off, rfl, fun i hi => ?_⟩
      rw [hc' i (by omega)]
      simp [List.getD, hi]
set_option maxRecDepth 100000 in
theorem trod_item {fuel : Nat} {cs : List Value} {x : DataW H × List MemPlace} (hsp : ∀ b, spare b = true) (h : DataW.trod enc Tryz.prog w base spare held fuel 32 cs = some x) :
    ∃ (t : X.It) (a1 : Option Addr) (l1 c1 : Nat), cs = [.int .i64 t.kind, .string (X.str t.name), .int .i64 t.op, .int .i64 t.a, .int .i64 t.b, .int .i64 t.n, .slice a1 l1 c1] ∧ t.name.length ≤ maxLen ∧ X.fitsIt t ∧ IntsV w a1 l1 c1 t.words := by
  obtain ⟨y0, y1, y2, y3, n, -, hl, h0, h1, h2, h3⟩ := trod_struct4 Tryz.underlying32 h
  rw [cell_item] at hl
  match cs, hl with
  | [u0, u1, u2, u3, u4, u5, u6], _ =>
    simp only [cell_int, cell_str, cell_ins, cell_sl] at h0 h1 h2 h3
    obtain ⟨z0, e0, -, w0⟩ := DataW.trod_int Tryz.underlying3 h0
    obtain ⟨z1, e1, -, w1⟩ := DataW.trod_string Tryz.underlying9 h1
    obtain ⟨x0, x1, x2, x3, n2, -, hl2, g0, g1, g2, g3⟩ := trod_struct4 Tryz.underlying29 h2
    simp only [cell_int, cell_i64] at g0 g1 g2 g3
    obtain ⟨a0, q0, -, v0⟩ := DataW.trod_int Tryz.underlying3 g0
    obtain ⟨a1, q1, -, v1⟩ := DataW.trod_int Tryz.underlying3 g1
    obtain ⟨a2, q2, -, v2⟩ := DataW.trod_int Tryz.underlying3 g2
    obtain ⟨a3, q3, -, v3⟩ := DataW.trod_int Tryz.underlying2 g3
    obtain ⟨ad, l1, c1, zs, e3, V, F⟩ := open_I hsp (v := u6) (by simpa using h3)
    simp at e0 e1 q0 q1 q2 q3
    subst e0 e1 q0 q1 q2 q3 e3
    exact ⟨⟨z0, z1.data.toList, a0, a1, a2, a3, zs⟩, ad, l1, c1, by simp [str_eq], by simpa using w1, ⟨fits_of v3, F⟩, V⟩
/-- A list of items, as it is read. -/
theorem open_items {fuel : Nat} {v : Value} {x : DataW H × List MemPlace} (hsp : ∀ b, spare b = true) (h : DataW.trod enc Tryz.prog w base spare held fuel 23 [v] = some x) :
    ∃ a len cap ts, v = .slice a len cap ∧ ItsV w a len cap ts := by
  rcases Deep.open_slice Tryz.underlying23 h with ⟨hcs, -⟩ | ⟨a, len, cap, m, n, D, Pl, hcs, -, hl, hm, hmm, -, hx⟩
  · simp at hcs
    subst hcs
    exact ⟨none, 0, 0, [], rfl, ⟨rfl, ⟨Nat.le_refl _, by decide⟩, by simp, .inl rfl⟩⟩
  · simp at hcs
    subst hcs
    rw [hsp, if_pos rfl] at hmm
    subst hmm
    have hel : ∀ i, i < len → ∃ (t : X.It), ∃ (a1 : Option Addr) (l1 c1 : Nat), w.cells? base (a.add (i * 7)) 7 = some [.int .i64 t.kind, .string (X.str t.name), .int .i64 t.op, .int .i64 t.a, .int .i64 t.b, .int .i64 t.n, .slice a1 l1 c1] ∧ (t.name.length ≤ maxLen ∧ X.fitsIt t) ∧ IntsV w a1 l1 c1 t.words := by
      intro i hi
      obtain ⟨cs', h1, h2⟩ := hx i (by omega)
      rw [cell_item] at h1
      obtain ⟨t, a1, l1, c1, rfl, hr, hr2, V⟩ := trod_item hsp h2
      exact ⟨t, a1, l1, c1, h1, ⟨hr, hr2⟩, V⟩
    have hf : ∃ f : Nat → X.It, ∀ i, i < len → ∃ (a1 : Option Addr) (l1 c1 : Nat), w.cells? base (a.add (i * 7)) 7 = some [.int .i64 (f i).kind, .string (X.str (f i).name), .int .i64 (f i).op, .int .i64 (f i).a, .int .i64 (f i).b, .int .i64 (f i).n, .slice a1 l1 c1] ∧ ((f i).name.length ≤ maxLen ∧ X.fitsIt (f i)) ∧ IntsV w a1 l1 c1 (f i).words :=
      ⟨fun i => if h : i < len then Classical.choose (hel i h) else X.noIt, fun i hi => by
        have := Classical.choose_spec (hel i hi)
        simp only [dif_pos hi]
        exact this⟩
    obtain ⟨f, hf⟩ := hf
    have hget : ∀ i, i < len → ((List.range len).map f).getD i X.noIt = f i := fun i hi => by simp [List.getD, hi]
    refine ⟨some a, len, m, (List.range len).map f, rfl, ⟨by simp, ⟨hl, hm⟩, ?_, ?_⟩⟩
    · intro r hr
      obtain ⟨i, hi, rfl⟩ := List.mem_map.1 hr
      obtain ⟨_, _, _, -, h, -⟩ := hf i (by simpa using hi)
      exact h
    · by_cases h0 : len = 0
      · exact .inl h0
      · have c0 : ∀ i, i < len → ∃ (a1 : Option Addr) (l1 c1 : Nat), (∀ j u, [.int .i64 (f i).kind, .string (X.str (f i).name), .int .i64 (f i).op, .int .i64 (f i).a, .int .i64 (f i).b, .int .i64 (f i).n, .slice a1 l1 c1][j]? = some u → w.cell? ((a.add (i * 7)).add j) = some u) ∧ IntsV w a1 l1 c1 (f i).words := fun i hi => by
          obtain ⟨a1, l1, c1, hc, -, V⟩ := hf i hi
          refine ⟨a1, l1, c1, fun j u hu => ?_, V⟩
          obtain ⟨-, -, hx⟩ := World.cells?_some hc
          have hj : j < 7 := by have := (List.getElem?_eq_some_iff.1 hu).1; simpa using this
          rw [hx j hj]
          exact hu
        obtain ⟨b, off, spot⟩ := a
        have hspot : spot = none := by
          obtain ⟨_, _, _, k, -⟩ := c0 0 (by omega)
          have := k 0 _ rfl
          rw [Addr.add_add] at this
          simpa [Addr.add] using World.cell?_spot this
        subst hspot
        refine .inr ⟨b, off, rfl, fun i hi => ?_⟩
        rw [hget i hi]
        obtain ⟨a1, l1, c1, k, V⟩ := c0 i hi
        simp only [Addr.add_lit] at k
        exact ⟨a1, l1, c1, k 0 _ rfl, k 1 _ rfl, k 2 _ rfl, k 3 _ rfl, k 4 _ rfl, k 5 _ rfl, k 6 _ rfl, V⟩
end

/-! ### The variables -/
theorem gRows : Tryz.prog.globalNamed "cotter/asmtext.rows" = some 0 := by kernel_rfl
theorem gES : Tryz.prog.globalNamed "strconv.ErrSyntax" = some 3 := by kernel_rfl
theorem gER : Tryz.prog.globalNamed "strconv.ErrRange" = some 4 := by kernel_rfl
theorem tRows : (Tryz.prog.globals[0]?).map (·.type) = some 85 := by kernel_rfl
theorem tES : (Tryz.prog.globals[3]?).map (·.type) = some 49 := by kernel_rfl
theorem tER : (Tryz.prog.globals[4]?).map (·.type) = some 49 := by kernel_rfl
theorem cRows : Tryz.prog.cellsOf 85 = 68 := by kernel_rfl
theorem cRow : Tryz.prog.cellsOf 84 = 2 := by kernel_rfl
theorem cES : Tryz.prog.cellsOf 129 = 1 := by kernel_rfl
theorem star : "*" ++ "errors.errorString" = "*errors.errorString" := by decide
theorem rowES (u : TypeId) (h : Tryz.prog.typeName? 3 u = some "*errors.errorString") : u = 127 :=
  typeName_ptr_named (nm := "errors.errorString") (by rw [star]; kernel_rfl) (by kernel_rfl) (by decide) u (by rw [star]; exact h)

theorem tPow : (Tryz.prog.globals[2]?).map (·.type) = some 118 := by kernel_rfl
theorem cPow : Tryz.prog.cellsOf 118 = 20 := by kernel_rfl
theorem cU64 : Tryz.prog.cellsOf 70 = 1 := by kernel_rfl
theorem laidPow : Rows.laid_internal_strconv_uint64pow10 (H := Unit) = Lib.tabData .u64 Lib.pow10Tab := by rfl
def rowD (r : X.By × X.By) : DataW Unit := .agg [.lit (.string r.1), .lit (.string r.2)]
theorem laidRows : Rows.laid_cotter_asmtext_rows (H := Unit) = .agg (X.rows.map rowD) := by rfl

set_option maxRecDepth 100000 in
theorem rows_of_trod {W : World} {fuel : Nat} {cs : List Value} {p : List MemPlace} {enc : TypeId × Value → Unit} {base : Nat} {sp : Nat → Bool} {held : Bool}
    (h : DataW.trod enc Tryz.prog W base sp held fuel 85 cs = some (Rows.laid_cotter_asmtext_rows, p)) : ∀ k, k < 34 → cs[k * 2]? = some (.string (X.str (X.row k).1)) ∧ cs[k * 2 + 1]? = some (.string (X.str (X.row k).2)) := by
  obtain ⟨xs, m, -, hx, hl, hn, hel⟩ := DataW.trod_array Tryz.underlying85 h
  rw [cRows] at hl
  rw [cRow] at hel
  have hx1 : xs.map (·.1) = X.rows.map rowD := by
    simp only [Prod.mk.injEq] at hx
    have h1 := hx.1
    rw [laidRows] at h1
    injection h1 with h1
    exact h1.symm
  intro k hk
  have h1 := hel k hk
  obtain ⟨y, hy⟩ : ∃ y, xs[k]? = some y := ⟨xs[k], List.getElem?_eq_getElem (by omega)⟩
  rw [hy] at h1
  have h2 : (xs.map (·.1))[k]? = some y.1 := by rw [List.getElem?_map, hy]; rfl
  have hrow : X.rows[k]? = some (X.row k) := by simp [X.row, List.getD, X.rows_length, hk]
  rw [hx1, List.getElem?_map, hrow] at h2
  have h3 : rowD (X.row k) = y.1 := Option.some.inj h2
  obtain ⟨y0, y1, n, e0, hl2, g0, g1⟩ := trod_struct2 Tryz.underlying84 h1
  simp only [cell_str] at g0 g1
  obtain ⟨s0, q0, d0, -⟩ := DataW.trod_string Tryz.underlying9 g0
  obtain ⟨s1, q1, d1, -⟩ := DataW.trod_string Tryz.underlying9 g1
  rw [e0, d0, d1] at h3
  simp only [rowD, DataW.agg.injEq, List.cons.injEq, DataW.lit.injEq, Lit.string.injEq, and_true] at h3
  obtain ⟨p0, p1⟩ := h3
  have k0 := congrArg (·[0]?) q0
  have k1 := congrArg (·[0]?) q1
  simp only [List.getElem?_take, List.getElem?_drop, List.getElem?_cons_zero] at k0 k1
  have z0 : s0 = X.str (X.row k).1 := by rw [p0, str_eq]
  have z1 : s1 = X.str (X.row k).2 := by rw [p1, str_eq]
  rw [← z0, ← z1]
  exact ⟨by simpa using k0, by simpa using k1⟩
theorem maxlen_of {W : World} (h : W.ShapedOpen Tryz.prog) : ∃ m, W.cell? ⟨1, 0, none⟩ = some (.int .i64 m) :=
  Go.Proofs.cell_of_shapedOpen_int (zero := #[.int .i64 0]) (t := 3) h (of_decide_eq_true (by kernel_rfl)) (by kernel_rfl) rfl (by kernel_rfl) (by kernel_rfl) Tryz.underlying3
theorem gB64 : Tryz.prog.globalNamed "math/bits.deBruijn64tab" = some 6 := by kernel_rfl
theorem size_of {W : World} {cs : Array Value} (h : W.var? Tryz.prog "math/bits.deBruijn64tab" = some cs) : 7 ≤ W.heap.size := by
  unfold World.var? at h
  rw [gB64] at h
  simp only [Option.bind_some] at h
  cases hc : W.heap[6]? with
  | none => rw [hc] at h; cases h
  | some o => have := (Array.getElem?_eq_some_iff.1 hc).1; omega

theorem tab_of_laid {W : World} (h : laidMetH Tryz.prog Rows.asmtextReadsRow.laid W) (hsh : W.ShapedOpen Tryz.prog) : Tab W := by
  have h' : laidMet Tryz.prog Rows.asmtextReadsRow.laid W := h
  obtain ⟨ps6, ⟨g6, t6, cs6, f6, p6, q6, hg6, ht6, hv6, hd6, _, _⟩, _, _⟩ := h'.tail
  have h2 := h'.tail.tail
  have h3 := h2.tail
  have h4 := h3.tail
  have h5 := h4.tail
  have hp : Lib.TabIs Tryz.prog W "internal/strconv.uint64pow10" .u64 Lib.pow10Tab := by
    have e : (Rows.laid_internal_strconv_uint64pow10 (H := Unit)) = Lib.tabData .u64 Lib.pow10Tab := laidPow
    exact Lib.tabIs_of_head (rest := [("strconv.ErrRange", Rows.laid_strconv_ErrRange), ("strconv.ErrSyntax", Rows.laid_strconv_ErrSyntax), ("cotter/asmtext.rows", Rows.laid_cotter_asmtext_rows)]) gPow tPow Tryz.underlying118 Tryz.underlying70 cU64 cPow (by rw [← e]; exact h2)
  obtain ⟨a0, s0, hv0, -, -, -⟩ := laid_sentinel h3 gER tER Tryz.underlying49 rowES Tryz.underlying127 Tryz.underlying129 rfl rfl Tryz.underlying9 cES cell_str
  obtain ⟨a1, s1, hv1, -, -, -⟩ := laid_sentinel h4 gES tES Tryz.underlying49 rowES Tryz.underlying127 Tryz.underlying129 rfl rfl Tryz.underlying9 cES cell_str
  obtain ⟨ps, ⟨g2, t2, cs2, f2, p2, q2, hg2, ht2, hv2, hd2, _, _⟩, _, _⟩ := h5
  obtain rfl := Option.some.inj (gRows.symm.trans hg2)
  obtain rfl := Option.some.inj (tRows.symm.trans ht2)
  have k0 := World.var?_cell gER hv0 0
  have k1 := World.var?_cell gES hv1 0
  have k2 := World.var?_cell hg2 hv2
  have e0 := rows_of_trod hd2
  exact ⟨fun k hk => ⟨by rw [k2 (k * 2), ← Array.getElem?_toList, (e0 k hk).1], by rw [k2 (k * 2 + 1), ← Array.getElem?_toList, (e0 k hk).2]⟩, maxlen_of hsh, hp, ⟨_, by simpa using k1, .inr ⟨_, _, rfl⟩⟩, ⟨_, by simpa using k0, .inr ⟨_, _, rfl⟩⟩, size_of hv6⟩

end Go.Proofs.YtbkjiipelmfbjaaGreatDoor
