/- What the rows' list, and the world's shape, give: the table of words and the library's variables. -/
import Derived.Test.YtfnakckiidblkaaDoorRows
import Derived.Test.YtfnakckiidblkaaDoorLexName
import Derived.OpenShut
import Derived.Deep.Strs
import Derived.Lib.LaidTab
import Derived.Lib.SmallJoins
import Derived.Stop.LaidErr
import Derived.Shelf.Vars
namespace Go.Proofs.YtfnakckiidblkaaDoor
open Go.ChangeShapes Go.WideShapes Go.ChangeAt Go.RowKit Go.Joins
set_option linter.unusedVariables false
set_option linter.unusedSimpArgs false

theorem gWords : Tryd.prog.globalNamed "cotter/lex.words" = some 0 := by kernel_rfl
theorem gER : Tryd.prog.globalNamed "strconv.ErrRange" = some 3 := by kernel_rfl
theorem gES : Tryd.prog.globalNamed "strconv.ErrSyntax" = some 2 := by kernel_rfl
theorem tWords : (Tryd.prog.globals[0]?).map (·.type) = some 44 := by kernel_rfl
theorem tER : (Tryd.prog.globals[3]?).map (·.type) = some 49 := by kernel_rfl
theorem tES : (Tryd.prog.globals[2]?).map (·.type) = some 49 := by kernel_rfl
theorem cWords : Tryd.prog.cellsOf 44 = 17 := by kernel_rfl
theorem cStr : Tryd.prog.cellsOf 9 = 1 := by kernel_rfl
theorem cES : Tryd.prog.cellsOf 75 = 1 := by kernel_rfl
theorem star : "*" ++ "errors.errorString" = "*errors.errorString" := by decide
theorem rowES (u : TypeId) (h : Tryd.prog.typeName? 3 u = some "*errors.errorString") : u = 73 :=
  typeName_ptr_named (nm := "errors.errorString") (by rw [star]; kernel_rfl) (by kernel_rfl) (by decide) u (by rw [star]; exact h)

theorem words_of_trod {W : World} {fuel : Nat} {cs : List Value} {p : List MemPlace} {enc : TypeId × Value → Unit} {base : Nat} {sp : Nat → Bool} {held : Bool}
    (h : DataW.trod enc Tryd.prog W base sp held fuel 44 cs = some (Rows.laid_cotter_lex_words, p)) : ∀ o : Nat, cs[o]? = X.wordsV[o]? := by
  obtain ⟨xs, m, -, hx, hl, hn, hel⟩ := DataW.trod_array Tryd.underlying44 h
  rw [cWords] at hl
  rw [cStr] at hel
  have hx1 : xs.map (·.1) = X.words.map fun l => DataW.lit (.string l) := by
    simp only [Prod.mk.injEq] at hx
    have h1 := hx.1
    unfold Rows.laid_cotter_lex_words at h1
    injection h1 with h1
    exact h1.symm
  intro o
  by_cases ho : o < 17
  · have h1 := hel o ho
    rw [Nat.mul_one] at h1
    obtain ⟨y, hy⟩ : ∃ y, xs[o]? = some y := ⟨xs[o], List.getElem?_eq_getElem (by omega)⟩
    rw [hy] at h1
    obtain ⟨s, e1, e2, -⟩ := DataW.trod_string Tryd.underlying9 h1
    obtain ⟨b, hb1, hb2⟩ := wordsV_at o ho
    have h2 : (xs.map (·.1))[o]? = some y.1 := by rw [List.getElem?_map, hy]; rfl
    rw [hx1, List.getElem?_map, hb2] at h2
    have h3 : DataW.lit (H := Unit) (.string b.data.toList) = y.1 := Option.some.inj h2
    rw [e2] at h3
    injection h3 with h3
    injection h3 with h3
    have h4 : b = s := by cases b; cases s; simp at h3; simp [h3]
    rw [hb1, h4]
    have h5 := congrArg (·[0]?) e1
    simpa [List.getElem?_take, List.getElem?_drop] using h5
  · rw [List.getElem?_eq_none (by omega), Array.getElem?_eq_none (by show 17 ≤ o; omega)]

theorem maxlen_of {W : World} (h : W.ShapedOpen Tryd.prog) : ∃ m, W.cell? ⟨1, 0, none⟩ = some (.int .i64 m) :=
  Go.Proofs.cell_of_shapedOpen_int (zero := #[.int .i64 0]) (t := 3) h (of_decide_eq_true (by kernel_rfl)) (by kernel_rfl) rfl (by kernel_rfl) (by kernel_rfl) Tryd.underlying3

theorem tab_of_laid {W : World} (h : laidMetH Tryd.prog Rows.lexCutsRow.laid W) (hsh : W.ShapedOpen Tryd.prog) : Tab W := by
  have h' : laidMet Tryd.prog Rows.lexCutsRow.laid W := h
  have h3 := h'.tail.tail.tail
  have h4 := h3.tail
  have h5 := h4.tail
  obtain ⟨a0, s0, hv0, -, -, -⟩ := laid_sentinel h3 gER tER Tryd.underlying49 rowES Tryd.underlying73 Tryd.underlying75 rfl rfl Tryd.underlying9 cES cStr
  obtain ⟨a1, s1, hv1, -, -, -⟩ := laid_sentinel h4 gES tES Tryd.underlying49 rowES Tryd.underlying73 Tryd.underlying75 rfl rfl Tryd.underlying9 cES cStr
  obtain ⟨ps, ⟨g2, t2, cs2, f2, p2, q2, hg2, ht2, hv2, hd2, _, _⟩, _, _⟩ := h5
  obtain rfl := Option.some.inj (gWords.symm.trans hg2)
  obtain rfl := Option.some.inj (tWords.symm.trans ht2)
  have k0 := World.var?_cell gER hv0 0
  have k1 := World.var?_cell gES hv1 0
  have k2 := World.var?_cell hg2 hv2
  have e0 := words_of_trod hd2
  have c3 : W.cell? ⟨3, 0, none⟩ = some (.iface 73 (.pointer (some a0))) := by simpa using k0
  have hz := World.block_lt_of_cell? W ⟨3, 0, none⟩ c3
  exact ⟨fun o => by rw [k2 o, ← Array.getElem?_toList, e0 o], ⟨_, by simpa using k1, .inr ⟨_, _, rfl⟩⟩, ⟨_, c3, .inr ⟨_, _, rfl⟩⟩, maxlen_of hsh, hz⟩

end Go.Proofs.YtfnakckiidblkaaDoor
