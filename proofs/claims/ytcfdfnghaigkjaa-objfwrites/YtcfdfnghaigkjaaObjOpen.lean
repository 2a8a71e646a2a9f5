/- The arguments of layer 6's statements, opened: an object. (Written by gen_open.py.) -/
import Derived.Test.YtcfdfnghaigkjaaRows
import Derived.Test.YtcfdfnghaigkjaaObjLive
import Derived.ProofKit
import Derived.ShutString
import Derived.ChangeOld
import Derived.ChangeMaps5
import Derived.Below
import Derived.Carry
import Derived.Lib.SmallJoins
import Derived.Deep.Slices
import Derived.Deep.Strs
namespace Go.Proofs.Ytcfdfnghaigkjaa
open Go.ChangeShapes Go.WideShapes Go.ChangeAt Go.RowKit Go.Joins

section
variable {H : Type} {enc : TypeId × Value → H} {w : World} {base : Nat} {spare : Nat → Bool} {held : Bool}

theorem cell_i64 : Try.prog.cellsOf 2 = 1 := by kernel_rfl
theorem cell_int : Try.prog.cellsOf 3 = 1 := by kernel_rfl
theorem cell_str : Try.prog.cellsOf 9 = 1 := by kernel_rfl
theorem open_I {fuel : Nat} {v : Value} {x : DataW H × List MemPlace} (hsp : ∀ b, spare b = true) (h : DataW.trod enc Try.prog w base spare held fuel 22 [v] = some x) : ∃ a l c zs, v = .slice a l c ∧ IntsV w a l c zs ∧ zs.length ≤ maxLen := by
  rcases open_ints Try.underlying22 Try.underlying2 cell_i64 h with ⟨hcs, -⟩ | ⟨a, l, c, zs, hcs, -, hl, hm, hz, -, hcell, hwz⟩
  · simp at hcs
    subst hcs
    exact ⟨none, 0, 0, [], rfl, ⟨rfl, by simp, fun _ => ⟨rfl, rfl⟩, .inl rfl⟩, by decide⟩
  · simp at hcs
    subst hcs
    rw [hsp, if_pos rfl] at hz
    refine ⟨some a, l, c, zs.take l, rfl, ⟨by simp; omega, fun n hn => hwz n (List.mem_of_mem_take hn), fun e => (by cases e), ?_⟩, by simp; omega⟩
    by_cases h0 : l = 0
    · exact .inl h0
    · obtain ⟨b, off, rfl, hc'⟩ := ints_at hcell (by omega)
      refine .inr ⟨b, off, rfl, fun i hi => ?_⟩
      rw [hc' i (by omega)]
      simp [List.getD, hi]

theorem cell_S : Try.prog.cellsOf 41 = 3 := by kernel_rfl
set_option maxRecDepth 100000 in
theorem trod_S {fuel : Nat} {cs : List Value} {x : DataW H × List MemPlace} (h : DataW.trod enc Try.prog w base spare held fuel 41 cs = some x) :
    ∃ r : Sym, cs = [.string r.name, .int .i64 r.kind, .int .i64 r.pos] ∧ (r.name.size ≤ maxLen ∧ (Lit.int .i64 r.kind).wf = true ∧ (Lit.int .i64 r.pos).wf = true) := by
  obtain ⟨y0, y1, y2, n, -, hl, h0, h1, h2⟩ := Deep.trod_struct3 Try.underlying41 h
  rw [cell_S] at hl
  match cs, hl with
  | [u0, u1, u2], _ =>
    simp only [cell_int, cell_str] at h0 h1 h2
    obtain ⟨z0, e0, -, w0⟩ := DataW.trod_string Try.underlying9 h0
    obtain ⟨z1, e1, -, w1⟩ := DataW.trod_int Try.underlying3 h1
    obtain ⟨z2, e2, -, w2⟩ := DataW.trod_int Try.underlying3 h2
    simp at e0 e1 e2
    subst e0 e1 e2
    exact ⟨⟨z0, z1, z2⟩, rfl, w0, w1, w2⟩
/-- A list, as it is read. -/
theorem open_S {fuel : Nat} {v : Value} {x : DataW H × List MemPlace} (hsp : ∀ b, spare b = true) (h : DataW.trod enc Try.prog w base spare held fuel 23 [v] = some x) :
    ∃ a len cap rs, v = .slice a len cap ∧ SymsV w a len cap rs ∧ rs.length ≤ maxLen := by
  rcases Deep.open_slice Try.underlying23 h with ⟨hcs, -⟩ | ⟨a, len, cap, m, n, D, Pl, hcs, -, hl, hm, hmm, -, hx⟩
  · simp at hcs
    subst hcs
    exact ⟨none, 0, 0, [], rfl, ⟨rfl, by simp, fun _ => ⟨rfl, rfl⟩, .inl rfl⟩, by decide⟩
  · simp at hcs
    subst hcs
    rw [hsp, if_pos rfl] at hmm
    subst hmm
    have hel : ∀ i, i < len → ∃ (r : Sym), w.cells? base (a.add (i * 3)) 3 = some [.string r.name, .int .i64 r.kind, .int .i64 r.pos] ∧ (r.name.size ≤ maxLen ∧ (Lit.int .i64 r.kind).wf = true ∧ (Lit.int .i64 r.pos).wf = true) := by
      intro i hi
      obtain ⟨cs', h1, h2⟩ := hx i (by omega)
      rw [cell_S] at h1
      obtain ⟨r, rfl, hr⟩ := trod_S h2
      exact ⟨r, h1, hr⟩
    have hf : ∃ f : Nat → Sym, ∀ i, i < len → w.cells? base (a.add (i * 3)) 3 = some [.string (f i).name, .int .i64 (f i).kind, .int .i64 (f i).pos] ∧ ((f i).name.size ≤ maxLen ∧ (Lit.int .i64 (f i).kind).wf = true ∧ (Lit.int .i64 (f i).pos).wf = true) :=
      ⟨fun i => if h : i < len then Classical.choose (hel i h) else noSym, fun i hi => by
        have := Classical.choose_spec (hel i hi)
        simp only [dif_pos hi]
        exact this⟩
    obtain ⟨f, hf⟩ := hf
    have hget : ∀ i, i < len → ((List.range len).map f).getD i noSym = f i := fun i hi => by simp [List.getD, hi]
    refine ⟨some a, len, m, (List.range len).map f, rfl, ⟨by simp, ?_, fun e => (by cases e), ?_⟩, by simp; omega⟩
    · intro r hr
      obtain ⟨i, hi, rfl⟩ := List.mem_map.1 hr
      exact (hf i (by simpa using hi)).2
    · by_cases h0 : len = 0
      · exact .inl h0
      · have c0 : ∀ i, i < len → ∀ j u, [.string (f i).name, .int .i64 (f i).kind, .int .i64 (f i).pos][j]? = some u → w.cell? ((a.add (i * 3)).add j) = some u := fun i hi j u hu => by
          obtain ⟨-, -, hx⟩ := World.cells?_some (hf i hi).1
          have hj : j < 3 := by have := (List.getElem?_eq_some_iff.1 hu).1; simpa using this
          rw [hx j hj]
          exact hu
        obtain ⟨b, off, spot⟩ := a
        have hspot : spot = none := by
          have := c0 0 (by omega) 0 _ rfl
          rw [Addr.add_add] at this
          simpa [Addr.add] using World.cell?_spot this
        subst hspot
        refine .inr ⟨b, off, rfl, fun i hi => ?_⟩
        rw [hget i hi]
        have k := c0 i hi
        simp only [Addr.add_lit] at k
        exact ⟨k 0 _ rfl, k 1 _ rfl, k 2 _ rfl⟩

theorem cell_R : Try.prog.cellsOf 43 = 4 := by kernel_rfl
set_option maxRecDepth 100000 in
theorem trod_R {fuel : Nat} {cs : List Value} {x : DataW H × List MemPlace} (h : DataW.trod enc Try.prog w base spare held fuel 43 cs = some x) :
    ∃ r : Rel, cs = [.int .i64 r.pos, .int .i64 r.kind, .string r.name, .int .i64 r.add] ∧ (r.name.size ≤ maxLen ∧ (Lit.int .i64 r.kind).wf = true ∧ (Lit.int .i64 r.pos).wf = true ∧ (Lit.int .i64 r.add).wf = true) := by
  obtain ⟨y0, y1, y2, y3, n, -, hl, h0, h1, h2, h3⟩ := trod_struct4 Try.underlying43 h
  rw [cell_R] at hl
  match cs, hl with
  | [u0, u1, u2, u3], _ =>
    simp only [cell_i64, cell_int, cell_str] at h0 h1 h2 h3
    obtain ⟨z0, e0, -, w0⟩ := DataW.trod_int Try.underlying3 h0
    obtain ⟨z1, e1, -, w1⟩ := DataW.trod_int Try.underlying3 h1
    obtain ⟨z2, e2, -, w2⟩ := DataW.trod_string Try.underlying9 h2
    obtain ⟨z3, e3, -, w3⟩ := DataW.trod_int Try.underlying2 h3
    simp at e0 e1 e2 e3
    subst e0 e1 e2 e3
    exact ⟨⟨z0, z1, z2, z3⟩, rfl, w2, w1, w0, w3⟩
/-- A list, as it is read. -/
theorem open_R {fuel : Nat} {v : Value} {x : DataW H × List MemPlace} (hsp : ∀ b, spare b = true) (h : DataW.trod enc Try.prog w base spare held fuel 24 [v] = some x) :
    ∃ a len cap rs, v = .slice a len cap ∧ RelsV w a len cap rs ∧ rs.length ≤ maxLen := by
  rcases Deep.open_slice Try.underlying24 h with ⟨hcs, -⟩ | ⟨a, len, cap, m, n, D, Pl, hcs, -, hl, hm, hmm, -, hx⟩
  · simp at hcs
    subst hcs
    exact ⟨none, 0, 0, [], rfl, ⟨rfl, by simp, fun _ => ⟨rfl, rfl⟩, .inl rfl⟩, by decide⟩
  · simp at hcs
    subst hcs
    rw [hsp, if_pos rfl] at hmm
    subst hmm
    have hel : ∀ i, i < len → ∃ (r : Rel), w.cells? base (a.add (i * 4)) 4 = some [.int .i64 r.pos, .int .i64 r.kind, .string r.name, .int .i64 r.add] ∧ (r.name.size ≤ maxLen ∧ (Lit.int .i64 r.kind).wf = true ∧ (Lit.int .i64 r.pos).wf = true ∧ (Lit.int .i64 r.add).wf = true) := by
      intro i hi
      obtain ⟨cs', h1, h2⟩ := hx i (by omega)
      rw [cell_R] at h1
      obtain ⟨r, rfl, hr⟩ := trod_R h2
      exact ⟨r, h1, hr⟩
    have hf : ∃ f : Nat → Rel, ∀ i, i < len → w.cells? base (a.add (i * 4)) 4 = some [.int .i64 (f i).pos, .int .i64 (f i).kind, .string (f i).name, .int .i64 (f i).add] ∧ ((f i).name.size ≤ maxLen ∧ (Lit.int .i64 (f i).kind).wf = true ∧ (Lit.int .i64 (f i).pos).wf = true ∧ (Lit.int .i64 (f i).add).wf = true) :=
      ⟨fun i => if h : i < len then Classical.choose (hel i h) else noRel, fun i hi => by
        have := Classical.choose_spec (hel i hi)
        simp only [dif_pos hi]
        exact this⟩
    obtain ⟨f, hf⟩ := hf
    have hget : ∀ i, i < len → ((List.range len).map f).getD i noRel = f i := fun i hi => by simp [List.getD, hi]
    refine ⟨some a, len, m, (List.range len).map f, rfl, ⟨by simp, ?_, fun e => (by cases e), ?_⟩, by simp; omega⟩
    · intro r hr
      obtain ⟨i, hi, rfl⟩ := List.mem_map.1 hr
      exact (hf i (by simpa using hi)).2
    · by_cases h0 : len = 0
      · exact .inl h0
      · have c0 : ∀ i, i < len → ∀ j u, [.int .i64 (f i).pos, .int .i64 (f i).kind, .string (f i).name, .int .i64 (f i).add][j]? = some u → w.cell? ((a.add (i * 4)).add j) = some u := fun i hi j u hu => by
          obtain ⟨-, -, hx⟩ := World.cells?_some (hf i hi).1
          have hj : j < 4 := by have := (List.getElem?_eq_some_iff.1 hu).1; simpa using this
          rw [hx j hj]
          exact hu
        obtain ⟨b, off, spot⟩ := a
        have hspot : spot = none := by
          have := c0 0 (by omega) 0 _ rfl
          rw [Addr.add_add] at this
          simpa [Addr.add] using World.cell?_spot this
        subst hspot
        refine .inr ⟨b, off, rfl, fun i hi => ?_⟩
        rw [hget i hi]
        have k := c0 i hi
        simp only [Addr.add_lit] at k
        exact ⟨k 0 _ rfl, k 1 _ rfl, k 2 _ rfl, k 3 _ rfl⟩

set_option maxRecDepth 100000 in
theorem open_obj {r : Reach} {b0 : Nat} {v : Value} {d : DataW H} {p : List MemPlace} (hsp : ∀ b, spare b = true) (hv : Value.okWide Try.prog w r b0 26 v) (h : DataW.Trod enc Try.prog w base spare held 26 v d p) :
    ∃ o, ObjV w v o ∧ o.data.length ≤ maxLen ∧ o.syms.length ≤ maxLen ∧ o.rels.length ≤ maxLen := by
  obtain ⟨v0, v1, v2, v3, y0, y1, y2, y3, n, rfl, -, -, h0, h1, h2, h3⟩ := open_agg4 Try.underlying26 (by kernel_rfl) (by kernel_rfl) hv h
  obtain ⟨s, e0, -, hs⟩ := DataW.trod_string Try.underlying9 h0
  obtain ⟨a1, l1, c1, z1, rfl, V1, k1⟩ := open_I hsp h1
  obtain ⟨a2, l2, c2, z2, rfl, V2, k2⟩ := open_S hsp h2
  obtain ⟨a3, l3, c3, z3, rfl, V3, k3⟩ := open_R hsp h3
  simp at e0
  subst e0
  exact ⟨⟨s, z1, z2, z3⟩, ⟨⟨_, _, _, _, _, _, _, _, _, rfl, hs, V1, V2, V3⟩⟩, k1, k2, k3⟩
end
end Go.Proofs.Ytcfdfnghaigkjaa
