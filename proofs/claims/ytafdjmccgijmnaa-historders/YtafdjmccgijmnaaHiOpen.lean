/- The arguments of layer 13's statements, opened. -/
import Derived.Test.YtafdjmccgijmnaaRows
import Derived.Test.YtafdjmccgijmnaaHiActs
import Derived.Test.YtafdjmccgijmnaaAtMath
import Derived.ProofKit
import Derived.ShutString
import Derived.ChangeOld
import Derived.ChangeMaps5
import Derived.Below
import Derived.Carry
import Derived.Lib.SmallJoins
import Derived.Deep.Slices
import Derived.Deep.Strs
namespace Go.Proofs.Ytafdjmccgijmnaa
open Go.ChangeShapes Go.WideShapes Go.ChangeAt Go.RowKit Go.Joins A
set_option linter.unusedVariables false
def AcFit (a : H.Ac) : Prop := (Lit.int .i64 a.th).wf = true ∧ (Lit.int .i64 a.dd).wf = true ∧ a.nm.size ≤ maxLen ∧ (Lit.int .i64 a.arg).wf = true ∧ (Lit.int .i64 a.call).wf = true ∧ (Lit.int .i64 a.back).wf = true ∧ (Lit.int .i64 a.ans).wf = true
section
variable {H' : Type} {enc : TypeId × Value → H'} {w : World} {base : Nat} {spare : Nat → Bool} {held : Bool}
theorem cell_i64 : Try.prog.cellsOf 2 = 1 := by kernel_rfl
theorem cell_int : Try.prog.cellsOf 3 = 1 := by kernel_rfl
theorem cell_str : Try.prog.cellsOf 9 = 1 := by kernel_rfl
theorem cell_sl : Try.prog.cellsOf 47 = 1 := by kernel_rfl
theorem open_I {fuel : Nat} {v : Value} {x : DataW H' × List MemPlace} (hsp : ∀ b, spare b = true) (h : DataW.trod enc Try.prog w base spare held fuel 47 [v] = some x) : ∃ a l c zs, v = .slice a l c ∧ IntsV w a l c zs := by
  rcases open_ints Try.underlying47 Try.underlying2 cell_i64 h with ⟨hcs, -⟩ | ⟨a, l, c, zs, hcs, -, hl, hm, hz, -, hcell, hwz⟩
  · simp at hcs
    subst hcs
    exact ⟨none, 0, 0, [], rfl, ⟨rfl, by simp, fun _ => ⟨rfl, rfl⟩, ⟨Nat.le_refl _, by decide⟩, .inl rfl⟩⟩
  · simp at hcs
    subst hcs
    rw [hsp, if_pos rfl] at hz
    refine ⟨some a, l, c, zs.take l, rfl, ⟨by simp; omega, fun n hn => hwz n (List.mem_of_mem_take hn), fun e => (by cases e), ⟨hl, hm⟩, ?_⟩⟩
    by_cases h0 : l = 0
    · exact .inl h0
    · obtain ⟨b, off, rfl, hc'⟩ := ints_at hcell (by omega)
      refine .inr ⟨b, off, rfl, fun i hi => ?_⟩
      rw [hc' i (by omega)]
      simp [List.getD, hi]

theorem cell_A : Try.prog.cellsOf 49 = 4 := by kernel_rfl
set_option maxRecDepth 100000 in
theorem trod_A {fuel : Nat} {cs : List Value} {x : DataW H' × List MemPlace} (hsp : ∀ b, spare b = true) (h : DataW.trod enc Try.prog w base spare held fuel 49 cs = some x) :
    ∃ (r : At) (a1 : Option Addr) (l1 c1 : Nat), cs = [.string r.name, .int .i64 r.cap, .int .i64 r.owner, .slice a1 l1 c1] ∧ AtFit r ∧ IntsV w a1 l1 c1 r.items := by
  obtain ⟨y0, y1, y2, y3, n, -, hl, h0, h1, h2, h3⟩ := trod_struct4 Try.underlying49 h
  rw [cell_A] at hl
  match cs, hl with
  | [u0, u1, u2, u3], _ =>
    simp only [cell_int, cell_str, cell_sl] at h0 h1 h2 h3
    obtain ⟨z0, e0, -, w0⟩ := DataW.trod_string Try.underlying9 h0
    obtain ⟨z1, e1, -, w1⟩ := DataW.trod_int Try.underlying3 h1
    obtain ⟨z2, e2, -, w2⟩ := DataW.trod_int Try.underlying3 h2
    obtain ⟨a1, l1, c1, zs, e3, V⟩ := open_I hsp (v := u3) (by simpa using h3)
    simp at e0 e1 e2
    subst e0 e1 e2 e3
    exact ⟨⟨z0, z1, z2, zs⟩, a1, l1, c1, rfl, ⟨w0, w1, w2, V.fits⟩, V⟩
/-- A list of objects, as it is read. -/
theorem open_A {fuel : Nat} {v : Value} {x : DataW H' × List MemPlace} (hsp : ∀ b, spare b = true) (h : DataW.trod enc Try.prog w base spare held fuel 22 [v] = some x) :
    ∃ a len cap rs, v = .slice a len cap ∧ AtsV w a len cap rs := by
  rcases Deep.open_slice Try.underlying22 h with ⟨hcs, -⟩ | ⟨a, len, cap, m, n, D, Pl, hcs, -, hl, hm, hmm, -, hx⟩
  · simp at hcs
    subst hcs
    exact ⟨none, 0, 0, [], rfl, ⟨rfl, by simp, fun _ => ⟨rfl, rfl⟩, ⟨Nat.le_refl _, by decide⟩, .inl rfl⟩⟩
  · simp at hcs
    subst hcs
    rw [hsp, if_pos rfl] at hmm
    subst hmm
    have hel : ∀ i, i < len → ∃ (r : At), ∃ (a1 : Option Addr) (l1 c1 : Nat), w.cells? base (a.add (i * 4)) 4 = some [.string r.name, .int .i64 r.cap, .int .i64 r.owner, .slice a1 l1 c1] ∧ AtFit r ∧ IntsV w a1 l1 c1 r.items := by
      intro i hi
      obtain ⟨cs', h1, h2⟩ := hx i (by omega)
      rw [cell_A] at h1
      obtain ⟨r, a1, l1, c1, rfl, hr, V⟩ := trod_A hsp h2
      exact ⟨r, a1, l1, c1, h1, hr, V⟩
    have hf : ∃ f : Nat → At, ∀ i, i < len → ∃ (a1 : Option Addr) (l1 c1 : Nat), w.cells? base (a.add (i * 4)) 4 = some [.string (f i).name, .int .i64 (f i).cap, .int .i64 (f i).owner, .slice a1 l1 c1] ∧ AtFit (f i) ∧ IntsV w a1 l1 c1 (f i).items :=
      ⟨fun i => if h : i < len then Classical.choose (hel i h) else noAt, fun i hi => by
        have := Classical.choose_spec (hel i hi)
        simp only [dif_pos hi]
        exact this⟩
    obtain ⟨f, hf⟩ := hf
    have hget : ∀ i, i < len → ((List.range len).map f).getD i noAt = f i := fun i hi => by simp [List.getD, hi]
    refine ⟨some a, len, m, (List.range len).map f, rfl, ⟨by simp, ?_, fun e => (by cases e), ⟨hl, hm⟩, ?_⟩⟩
    · intro r hr
      obtain ⟨i, hi, rfl⟩ := List.mem_map.1 hr
      obtain ⟨_, _, _, -, h, -⟩ := hf i (by simpa using hi)
      exact h
    · by_cases h0 : len = 0
      · exact .inl h0
      · have c0 : ∀ i, i < len → ∃ (a1 : Option Addr) (l1 c1 : Nat), (∀ j u, [.string (f i).name, .int .i64 (f i).cap, .int .i64 (f i).owner, .slice a1 l1 c1][j]? = some u → w.cell? ((a.add (i * 4)).add j) = some u) ∧ IntsV w a1 l1 c1 (f i).items := fun i hi => by
          obtain ⟨a1, l1, c1, hc, -, V⟩ := hf i hi
          refine ⟨a1, l1, c1, fun j u hu => ?_, V⟩
          obtain ⟨-, -, hx⟩ := World.cells?_some hc
          have hj : j < 4 := by have := (List.getElem?_eq_some_iff.1 hu).1; simpa using this
          rw [hx j hj]
          exact hu
        obtain ⟨b, off, spot⟩ := a
        have hspot : spot = none := by
          obtain ⟨_, _, _, k, -⟩ := c0 0 (by omega)
          have := k 0 _ rfl
          rw [Addr.add_add] at this
          simpa [Addr.add] using World.cell?_spot this
        subst hspot
        refine .inr ⟨b, off, rfl, fun i hi => ?_⟩
        rw [hget i hi]
        obtain ⟨a1, l1, c1, k, V⟩ := c0 i hi
        simp only [Addr.add_lit] at k
        exact ⟨k 0 _ rfl, k 1 _ rfl, k 2 _ rfl, a1, l1, c1, k 3 _ rfl, V⟩

theorem cell_C : Try.prog.cellsOf 42 = 7 := by kernel_rfl
theorem trod_struct7 {P : Program} {t : TypeId} {f0 f1 f2 f3 f4 f5 f6 : Field} {fuel : Nat} {cs : List Value} {x : DataW H' × List MemPlace} (ht : P.underlying t = some (.struct #[f0, f1, f2, f3, f4, f5, f6])) (h : DataW.trod enc P w base spare held fuel t cs = some x) :
    ∃ y0 y1 y2 y3 y4 y5 y6 n, cs.length = P.cellsOf t ∧ DataW.trod enc P w base spare held n f0.type ((cs.drop f0.offset).take (P.cellsOf f0.type)) = some y0 ∧ DataW.trod enc P w base spare held n f1.type ((cs.drop f1.offset).take (P.cellsOf f1.type)) = some y1 ∧ DataW.trod enc P w base spare held n f2.type ((cs.drop f2.offset).take (P.cellsOf f2.type)) = some y2 ∧ DataW.trod enc P w base spare held n f3.type ((cs.drop f3.offset).take (P.cellsOf f3.type)) = some y3 ∧ DataW.trod enc P w base spare held n f4.type ((cs.drop f4.offset).take (P.cellsOf f4.type)) = some y4 ∧ DataW.trod enc P w base spare held n f5.type ((cs.drop f5.offset).take (P.cellsOf f5.type)) = some y5 ∧ DataW.trod enc P w base spare held n f6.type ((cs.drop f6.offset).take (P.cellsOf f6.type)) = some y6 := by
  obtain ⟨xs, n, _, rfl, hl, hlen, hf⟩ := DataW.trod_struct ht h
  match xs, hlen with
  | [y0, y1, y2, y3, y4, y5, y6], _ => exact ⟨y0, y1, y2, y3, y4, y5, y6, n, hl, by simpa using hf 0 f0 rfl, by simpa using hf 1 f1 rfl, by simpa using hf 2 f2 rfl, by simpa using hf 3 f3 rfl, by simpa using hf 4 f4 rfl, by simpa using hf 5 f5 rfl, by simpa using hf 6 f6 rfl⟩
set_option maxRecDepth 100000 in
theorem trod_C {fuel : Nat} {cs : List Value} {x : DataW H' × List MemPlace} (h : DataW.trod enc Try.prog w base spare held fuel 42 cs = some x) :
    ∃ r : H.Ac, cs = [.int .i64 r.th, .int .i64 r.dd, .string r.nm, .int .i64 r.arg, .int .i64 r.call, .int .i64 r.back, .int .i64 r.ans] ∧ AcFit r := by
  obtain ⟨y0, y1, y2, y3, y4, y5, y6, n, hl, h0, h1, h2, h3, h4, h5, h6⟩ := trod_struct7 Try.underlying42 h
  rw [cell_C] at hl
  match cs, hl with
  | [u0, u1, u2, u3, u4, u5, u6], _ =>
    simp only [cell_int, cell_i64, cell_str] at h0 h1 h2 h3 h4 h5 h6
    obtain ⟨z0, e0, -, w0⟩ := DataW.trod_int Try.underlying3 h0
    obtain ⟨z1, e1, -, w1⟩ := DataW.trod_int Try.underlying3 h1
    obtain ⟨z2, e2, -, w2⟩ := DataW.trod_string Try.underlying9 h2
    obtain ⟨z3, e3, -, w3⟩ := DataW.trod_int Try.underlying2 h3
    obtain ⟨z4, e4, -, w4⟩ := DataW.trod_int Try.underlying3 h4
    obtain ⟨z5, e5, -, w5⟩ := DataW.trod_int Try.underlying3 h5
    obtain ⟨z6, e6, -, w6⟩ := DataW.trod_int Try.underlying2 h6
    simp at e0 e1 e2 e3 e4 e5 e6
    subst e0 e1 e2 e3 e4 e5 e6
    exact ⟨⟨z0, z1, z2, z3, z4, z5, z6⟩, rfl, w0, w1, w2, w3, w4, w5, w6⟩
/-- A list of acts, as it is read. -/
theorem open_C {fuel : Nat} {v : Value} {x : DataW H' × List MemPlace} (hsp : ∀ b, spare b = true) (h : DataW.trod enc Try.prog w base spare held fuel 23 [v] = some x) :
    ∃ a len cap rs, v = .slice a len cap ∧ ActsV w a len cap rs ∧ (∀ r ∈ rs, AcFit r) ∧ (a = none → len = 0 ∧ cap = 0) := by
  rcases Deep.open_slice Try.underlying23 h with ⟨hcs, -⟩ | ⟨a, len, cap, m, n, D, Pl, hcs, -, hl, hm, hmm, -, hx⟩
  · simp at hcs
    subst hcs
    exact ⟨none, 0, 0, [], rfl, ⟨rfl, ⟨Nat.le_refl _, by decide⟩, .inl rfl⟩, by simp, fun _ => ⟨rfl, rfl⟩⟩
  · simp at hcs
    subst hcs
    rw [hsp, if_pos rfl] at hmm
    subst hmm
    have hel : ∀ i, i < len → ∃ (r : H.Ac), w.cells? base (a.add (i * 7)) 7 = some [.int .i64 r.th, .int .i64 r.dd, .string r.nm, .int .i64 r.arg, .int .i64 r.call, .int .i64 r.back, .int .i64 r.ans] ∧ AcFit r := by
      intro i hi
      obtain ⟨cs', h1, h2⟩ := hx i (by omega)
      rw [cell_C] at h1
      obtain ⟨r, rfl, hr⟩ := trod_C h2
      exact ⟨r, h1, hr⟩
    have hf : ∃ f : Nat → H.Ac, ∀ i, i < len → w.cells? base (a.add (i * 7)) 7 = some [.int .i64 (f i).th, .int .i64 (f i).dd, .string (f i).nm, .int .i64 (f i).arg, .int .i64 (f i).call, .int .i64 (f i).back, .int .i64 (f i).ans] ∧ AcFit (f i) :=
      ⟨fun i => if h : i < len then Classical.choose (hel i h) else H.noAc, fun i hi => by
        have := Classical.choose_spec (hel i hi)
        simp only [dif_pos hi]
        exact this⟩
    obtain ⟨f, hf⟩ := hf
    have hget : ∀ i, i < len → ((List.range len).map f).getD i H.noAc = f i := fun i hi => by simp [List.getD, hi]
    refine ⟨some a, len, m, (List.range len).map f, rfl, ⟨by simp, ⟨hl, hm⟩, ?_⟩, ?_, fun e => (by cases e)⟩
    · by_cases h0 : len = 0
      · exact .inl h0
      · have c0 : ∀ i, i < len → ∀ j u, [.int .i64 (f i).th, .int .i64 (f i).dd, .string (f i).nm, .int .i64 (f i).arg, .int .i64 (f i).call, .int .i64 (f i).back, .int .i64 (f i).ans][j]? = some u → w.cell? ((a.add (i * 7)).add j) = some u := fun i hi j u hu => by
          obtain ⟨-, -, hx⟩ := World.cells?_some (hf i hi).1
          have hj : j < 7 := by have := (List.getElem?_eq_some_iff.1 hu).1; simpa using this
          rw [hx j hj]
          exact hu
        obtain ⟨b, off, spot⟩ := a
        have hspot : spot = none := by
          have := c0 0 (by omega) 0 _ rfl
          rw [Addr.add_add] at this
          simpa [Addr.add] using World.cell?_spot this
        subst hspot
        refine .inr ⟨b, off, rfl, fun i hi j u hu => ?_⟩
        rw [hget i hi] at hu
        have k := c0 i hi j u hu
        simp only [Addr.add_lit] at k
        exact k
    · intro r hr
      obtain ⟨i, hi, rfl⟩ := List.mem_map.1 hr
      exact (hf i (by simpa using hi)).2
set_option maxRecDepth 100000 in
theorem open_act {r : Reach} {b0 : Nat} {v : Value} {d : DataW H'} {p : List MemPlace} (hv : Value.okWide Try.prog w r b0 42 v) (h : DataW.Trod enc Try.prog w base spare held 42 v d p) :
    ∃ s : H.Ac, v = s.v ∧ AcFit s := by
  obtain ⟨cs, rfl, hsz⟩ := okWide_struct Try.underlying42 hv
  obtain ⟨fuel, hf⟩ := h
  obtain ⟨s, hs, hfit⟩ := trod_C (cs := cs.toList) (by simpa [Value.cells] using hf)
  refine ⟨s, ?_, hfit⟩
  unfold H.Ac.v
  rw [← Array.toArray_toList (xs := cs), hs]
end
end Go.Proofs.Ytafdjmccgijmnaa
