/- The arguments of layer 7's statements, opened: objects. -/
import Derived.Test.YtaoklmphcgigeaaRows
import Derived.Test.YtaoklmphcgigeaaLinkLink
import Derived.ProofKit
import Derived.ShutString
import Derived.ChangeOld
import Derived.ChangeMaps5
import Derived.Below
import Derived.Carry
import Derived.Lib.SmallJoins
import Derived.Deep.Slices
import Derived.Deep.Strs
import Derived.SizedLaws
namespace Go.Proofs.Ytaoklmphcgigeaa
open Go.ChangeShapes Go.WideShapes Go.ChangeAt Go.RowKit Go.Joins
set_option linter.unusedVariables false

theorem bytesI : Try.prog.bytesOf 2 = 8 := by kernel_rfl
theorem bytesS : Try.prog.bytesOf 36 = 32 := by kernel_rfl
theorem bytesR : Try.prog.bytesOf 45 = 40 := by kernel_rfl
theorem bytesO : Try.prog.bytesOf 40 = 88 := by kernel_rfl
section
variable {H : Type} {enc : TypeId × Value → H} {w : World} {base : Nat} {spare : Nat → Bool} {held : Bool}

theorem cell_i64 : Try.prog.cellsOf 2 = 1 := by kernel_rfl
theorem cell_int : Try.prog.cellsOf 3 = 1 := by kernel_rfl
theorem cell_str : Try.prog.cellsOf 9 = 1 := by kernel_rfl
theorem open_I {fuel : Nat} {v : Value} {x : DataW H × List MemPlace} (hsp : ∀ b, spare b = true) (h : DataW.trod enc Try.prog w base spare held fuel 26 [v] = some x) : ∃ a l c zs, v = .slice a l c ∧ IntsV w a l c zs ∧ zs.length ≤ maxLen := by
  rcases open_ints Try.underlying26 Try.underlying2 cell_i64 h with ⟨hcs, -⟩ | ⟨a, l, c, zs, hcs, -, hl, hm, hz, -, hcell, hwz⟩
  · simp at hcs
    subst hcs
    exact ⟨none, 0, 0, [], rfl, ⟨rfl, by simp, fun _ => ⟨rfl, rfl⟩, .inl rfl⟩, by decide⟩
  · simp at hcs
    subst hcs
    rw [hsp, if_pos rfl] at hz
    refine ⟨some a, l, c, zs.take l, rfl, ⟨by simp; omega, fun n hn => hwz n (List.mem_of_mem_take hn), fun e => (by cases e), ?_⟩, by simp; omega⟩
    by_cases h0 : l = 0
    · exact .inl h0
    · obtain ⟨b, off, rfl, hc'⟩ := ints_at hcell (by omega)
      refine .inr ⟨b, off, rfl, fun i hi => ?_⟩
      rw [hc' i (by omega)]
      simp [List.getD, hi]

theorem cell_S : Try.prog.cellsOf 36 = 3 := by kernel_rfl
set_option maxRecDepth 100000 in
theorem trod_S {fuel : Nat} {cs : List Value} {x : DataW H × List MemPlace} (h : DataW.trod enc Try.prog w base spare held fuel 36 cs = some x) :
    ∃ r : Sym, cs = [.string r.name, .int .i64 r.kind, .int .i64 r.pos] ∧ (r.name.size ≤ maxLen ∧ (Lit.int .i64 r.kind).wf = true ∧ (Lit.int .i64 r.pos).wf = true) := by
  obtain ⟨y0, y1, y2, n, -, hl, h0, h1, h2⟩ := Deep.trod_struct3 Try.underlying36 h
  rw [cell_S] at hl
  match cs, hl with
  | [u0, u1, u2], _ =>
    simp only [cell_int, cell_str] at h0 h1 h2
    obtain ⟨z0, e0, -, w0⟩ := DataW.trod_string Try.underlying9 h0
    obtain ⟨z1, e1, -, w1⟩ := DataW.trod_int Try.underlying3 h1
    obtain ⟨z2, e2, -, w2⟩ := DataW.trod_int Try.underlying3 h2
    simp at e0 e1 e2
    subst e0 e1 e2
    exact ⟨⟨z0, z1, z2⟩, rfl, w0, w1, w2⟩
/-- A list, as it is read. -/
theorem open_S {fuel : Nat} {v : Value} {x : DataW H × List MemPlace} (hsp : ∀ b, spare b = true) (h : DataW.trod enc Try.prog w base spare held fuel 27 [v] = some x) :
    ∃ a len cap rs, v = .slice a len cap ∧ SymsV w a len cap rs ∧ rs.length ≤ maxLen := by
  rcases Deep.open_slice Try.underlying27 h with ⟨hcs, -⟩ | ⟨a, len, cap, m, n, D, Pl, hcs, -, hl, hm, hmm, -, hx⟩
  · simp at hcs
    subst hcs
    exact ⟨none, 0, 0, [], rfl, ⟨rfl, by simp, fun _ => ⟨rfl, rfl⟩, .inl rfl⟩, by decide⟩
  · simp at hcs
    subst hcs
    rw [hsp, if_pos rfl] at hmm
    subst hmm
    have hel : ∀ i, i < len → ∃ (r : Sym), w.cells? base (a.add (i * 3)) 3 = some [.string r.name, .int .i64 r.kind, .int .i64 r.pos] ∧ (r.name.size ≤ maxLen ∧ (Lit.int .i64 r.kind).wf = true ∧ (Lit.int .i64 r.pos).wf = true) := by
      intro i hi
      obtain ⟨cs', h1, h2⟩ := hx i (by omega)
      rw [cell_S] at h1
      obtain ⟨r, rfl, hr⟩ := trod_S h2
      exact ⟨r, h1, hr⟩
    have hf : ∃ f : Nat → Sym, ∀ i, i < len → w.cells? base (a.add (i * 3)) 3 = some [.string (f i).name, .int .i64 (f i).kind, .int .i64 (f i).pos] ∧ ((f i).name.size ≤ maxLen ∧ (Lit.int .i64 (f i).kind).wf = true ∧ (Lit.int .i64 (f i).pos).wf = true) :=
      ⟨fun i => if h : i < len then Classical.choose (hel i h) else noSym, fun i hi => by
        have := Classical.choose_spec (hel i hi)
        simp only [dif_pos hi]
        exact this⟩
    obtain ⟨f, hf⟩ := hf
    have hget : ∀ i, i < len → ((List.range len).map f).getD i noSym = f i := fun i hi => by simp [List.getD, hi]
    refine ⟨some a, len, m, (List.range len).map f, rfl, ⟨by simp, ?_, fun e => (by cases e), ?_⟩, by simp; omega⟩
    · intro r hr
      obtain ⟨i, hi, rfl⟩ := List.mem_map.1 hr
      exact (hf i (by simpa using hi)).2
    · by_cases h0 : len = 0
      · exact .inl h0
      · have c0 : ∀ i, i < len → ∀ j u, [.string (f i).name, .int .i64 (f i).kind, .int .i64 (f i).pos][j]? = some u → w.cell? ((a.add (i * 3)).add j) = some u := fun i hi j u hu => by
          obtain ⟨-, -, hx⟩ := World.cells?_some (hf i hi).1
          have hj : j < 3 := by have := (List.getElem?_eq_some_iff.1 hu).1; simpa using this
          rw [hx j hj]
          exact hu
        obtain ⟨b, off, spot⟩ := a
        have hspot : spot = none := by
          have := c0 0 (by omega) 0 _ rfl
          rw [Addr.add_add] at this
          simpa [Addr.add] using World.cell?_spot this
        subst hspot
        refine .inr ⟨b, off, rfl, fun i hi => ?_⟩
        rw [hget i hi]
        have k := c0 i hi
        simp only [Addr.add_lit] at k
        exact ⟨k 0 _ rfl, k 1 _ rfl, k 2 _ rfl⟩

theorem cell_R : Try.prog.cellsOf 45 = 4 := by kernel_rfl
set_option maxRecDepth 100000 in
theorem trod_R {fuel : Nat} {cs : List Value} {x : DataW H × List MemPlace} (h : DataW.trod enc Try.prog w base spare held fuel 45 cs = some x) :
    ∃ r : Rel, cs = [.int .i64 r.pos, .int .i64 r.kind, .string r.name, .int .i64 r.add] ∧ (r.name.size ≤ maxLen ∧ (Lit.int .i64 r.kind).wf = true ∧ (Lit.int .i64 r.pos).wf = true ∧ (Lit.int .i64 r.add).wf = true) := by
  obtain ⟨y0, y1, y2, y3, n, -, hl, h0, h1, h2, h3⟩ := trod_struct4 Try.underlying45 h
  rw [cell_R] at hl
  match cs, hl with
  | [u0, u1, u2, u3], _ =>
    simp only [cell_i64, cell_int, cell_str] at h0 h1 h2 h3
    obtain ⟨z0, e0, -, w0⟩ := DataW.trod_int Try.underlying3 h0
    obtain ⟨z1, e1, -, w1⟩ := DataW.trod_int Try.underlying3 h1
    obtain ⟨z2, e2, -, w2⟩ := DataW.trod_string Try.underlying9 h2
    obtain ⟨z3, e3, -, w3⟩ := DataW.trod_int Try.underlying2 h3
    simp at e0 e1 e2 e3
    subst e0 e1 e2 e3
    exact ⟨⟨z0, z1, z2, z3⟩, rfl, w2, w1, w0, w3⟩
/-- A list, as it is read. -/
theorem open_R {fuel : Nat} {v : Value} {x : DataW H × List MemPlace} (hsp : ∀ b, spare b = true) (h : DataW.trod enc Try.prog w base spare held fuel 38 [v] = some x) :
    ∃ a len cap rs, v = .slice a len cap ∧ RelsV w a len cap rs ∧ rs.length ≤ maxLen := by
  rcases Deep.open_slice Try.underlying38 h with ⟨hcs, -⟩ | ⟨a, len, cap, m, n, D, Pl, hcs, -, hl, hm, hmm, -, hx⟩
  · simp at hcs
    subst hcs
    exact ⟨none, 0, 0, [], rfl, ⟨rfl, by simp, fun _ => ⟨rfl, rfl⟩, .inl rfl⟩, by decide⟩
  · simp at hcs
    subst hcs
    rw [hsp, if_pos rfl] at hmm
    subst hmm
    have hel : ∀ i, i < len → ∃ (r : Rel), w.cells? base (a.add (i * 4)) 4 = some [.int .i64 r.pos, .int .i64 r.kind, .string r.name, .int .i64 r.add] ∧ (r.name.size ≤ maxLen ∧ (Lit.int .i64 r.kind).wf = true ∧ (Lit.int .i64 r.pos).wf = true ∧ (Lit.int .i64 r.add).wf = true) := by
      intro i hi
      obtain ⟨cs', h1, h2⟩ := hx i (by omega)
      rw [cell_R] at h1
      obtain ⟨r, rfl, hr⟩ := trod_R h2
      exact ⟨r, h1, hr⟩
    have hf : ∃ f : Nat → Rel, ∀ i, i < len → w.cells? base (a.add (i * 4)) 4 = some [.int .i64 (f i).pos, .int .i64 (f i).kind, .string (f i).name, .int .i64 (f i).add] ∧ ((f i).name.size ≤ maxLen ∧ (Lit.int .i64 (f i).kind).wf = true ∧ (Lit.int .i64 (f i).pos).wf = true ∧ (Lit.int .i64 (f i).add).wf = true) :=
      ⟨fun i => if h : i < len then Classical.choose (hel i h) else noRel, fun i hi => by
        have := Classical.choose_spec (hel i hi)
        simp only [dif_pos hi]
        exact this⟩
    obtain ⟨f, hf⟩ := hf
    have hget : ∀ i, i < len → ((List.range len).map f).getD i noRel = f i := fun i hi => by simp [List.getD, hi]
    refine ⟨some a, len, m, (List.range len).map f, rfl, ⟨by simp, ?_, fun e => (by cases e), ?_⟩, by simp; omega⟩
    · intro r hr
      obtain ⟨i, hi, rfl⟩ := List.mem_map.1 hr
      exact (hf i (by simpa using hi)).2
    · by_cases h0 : len = 0
      · exact .inl h0
      · have c0 : ∀ i, i < len → ∀ j u, [.int .i64 (f i).pos, .int .i64 (f i).kind, .string (f i).name, .int .i64 (f i).add][j]? = some u → w.cell? ((a.add (i * 4)).add j) = some u := fun i hi j u hu => by
          obtain ⟨-, -, hx⟩ := World.cells?_some (hf i hi).1
          have hj : j < 4 := by have := (List.getElem?_eq_some_iff.1 hu).1; simpa using this
          rw [hx j hj]
          exact hu
        obtain ⟨b, off, spot⟩ := a
        have hspot : spot = none := by
          have := c0 0 (by omega) 0 _ rfl
          rw [Addr.add_add] at this
          simpa [Addr.add] using World.cell?_spot this
        subst hspot
        refine .inr ⟨b, off, rfl, fun i hi => ?_⟩
        rw [hget i hi]
        have k := c0 i hi
        simp only [Addr.add_lit] at k
        exact ⟨k 0 _ rfl, k 1 _ rfl, k 2 _ rfl, k 3 _ rfl⟩

theorem slice_weight {fuel : Nat} {t e : TypeId} (ht : Try.prog.underlying t = some (.slice e)) {a : Option Addr} {len cap : Nat} {x : DataW H × List MemPlace} {R : Nat} (h : DataW.trod enc Try.prog w base spare held fuel t [.slice a len cap] = some x) (hR : ∀ n ∈ x.1.weights Try.prog t, n ≤ R) : len * Try.prog.bytesOf e ≤ R := by
  rcases Deep.open_slice ht h with ⟨hcs, rfl⟩ | ⟨a', len', cap', m, n, D, Pl, hcs, -, -, -, -, rfl, -⟩
  · simp at hcs
    obtain ⟨-, rfl, -⟩ := hcs
    simp
  · simp at hcs
    obtain ⟨-, rfl, -⟩ := hcs
    have := hR ((((List.range len).map D).length + ((List.range (m - len)).map fun j => D (len + j)).length) * Try.prog.bytesOf e) (by simp [DataW.weights, ht])
    simp only [List.length_map, List.length_range] at this
    exact Nat.le_trans (Nat.mul_le_mul_right _ (Nat.le_add_right _ _)) this

/-- How long an object's lists are. -/
def Len (R : Nat) (d : ObjD) : Prop := d.data.length * 8 ≤ R ∧ d.syms.length * 32 ≤ R ∧ d.rels.length * 40 ≤ R
theorem cell_slI : Try.prog.cellsOf 26 = 1 := by kernel_rfl
theorem cell_slS : Try.prog.cellsOf 27 = 1 := by kernel_rfl
theorem cell_slR : Try.prog.cellsOf 38 = 1 := by kernel_rfl
theorem cell_O : Try.prog.cellsOf 40 = 4 := by kernel_rfl
set_option maxRecDepth 100000 in
theorem trod_O {fuel : Nat} {cs : List Value} {x : DataW H × List MemPlace} (hsp : ∀ b, spare b = true) (h : DataW.trod enc Try.prog w base spare held fuel 40 cs = some x) {R : Nat} (hR : ∀ n ∈ x.1.weights Try.prog 40, n ≤ R) :
    ∃ (d : ObjD) (s : Sl), cs = [.string d.code, .slice s.a1 s.l1 s.c1, .slice s.a2 s.l2 s.c2, .slice s.a3 s.l3 s.c3] ∧ OV w d s ∧ Len R d := by
  obtain ⟨y0, y1, y2, y3, n, hx, hl, h0, h1, h2, h3⟩ := trod_struct4 Try.underlying40 h
  rw [cell_O] at hl
  match cs, hl with
  | [u0, u1, u2, u3], _ =>
    simp only [cell_str, cell_slI, cell_slS, cell_slR] at h0 h1 h2 h3
    obtain ⟨s, e0, -, hs⟩ := DataW.trod_string Try.underlying9 h0
    have h1' : DataW.trod enc Try.prog w base spare held n 26 [u1] = some y1 := by simpa using h1
    have h2' : DataW.trod enc Try.prog w base spare held n 27 [u2] = some y2 := by simpa using h2
    have h3' : DataW.trod enc Try.prog w base spare held n 38 [u3] = some y3 := by simpa using h3
    obtain ⟨a1, l1, c1, z1, rfl, V1, k1⟩ := open_I hsp h1'
    obtain ⟨a2, l2, c2, z2, rfl, V2, k2⟩ := open_S hsp h2'
    obtain ⟨a3, l3, c3, z3, rfl, V3, k3⟩ := open_R hsp h3'
    simp at e0
    subst e0
    refine ⟨⟨s, z1, z2, z3⟩, ⟨a1, l1, c1, a2, l2, c2, a3, l3, c3⟩, rfl, ⟨hs, V1, V2, V3⟩, ?_⟩
    subst hx
    simp only [DataW.weights, Try.underlying40] at hR
    simp only [List.map_cons, List.map_nil, DataW.weightsEach, List.mem_append] at hR
    have n1 := V1.count
    have n2 := V2.count
    have n3 := V3.count
    unfold Len
    simp only
    rw [n1, n2, n3, ← bytesI, ← bytesS, ← bytesR]
    exact ⟨slice_weight Try.underlying26 h1' (fun n hn => hR n (Or.inr (Or.inl hn))), slice_weight Try.underlying27 h2' (fun n hn => hR n (Or.inr (Or.inr (Or.inl hn)))), slice_weight Try.underlying38 h3' (fun n hn => hR n (Or.inr (Or.inr (Or.inr (Or.inl hn)))))⟩
theorem weights_all {e : TypeId} : ∀ (l : List (DataW H)) (d : DataW H), d ∈ l → ∀ n ∈ d.weights Try.prog e, n ∈ DataW.weightsAll Try.prog e l
  | [], d, h, n, hn => by cases h
  | x :: l, d, h, n, hn => by
    simp only [DataW.weightsAll, List.mem_append]
    rcases List.mem_cons.1 h with rfl | h
    · exact .inl hn
    · exact .inr (weights_all l d h n hn)

/-- Objects that lie one behind the other, as they are read. -/
theorem open_objs {fuel : Nat} {v : Value} {x : DataW H × List MemPlace} (hsp : ∀ b, spare b = true) (h : DataW.trod enc Try.prog w base spare held fuel 22 [v] = some x) {R : Nat} (hR : ∀ n ∈ x.1.weights Try.prog 22, n ≤ R) :
    ∃ a len cap os, v = .slice a len cap ∧ ObjsV w a len cap os ∧ len * 88 ≤ R ∧ ∀ o ∈ os, Len R o := by
  rcases Deep.open_slice Try.underlying22 h with ⟨hcs, -⟩ | ⟨a, len, cap, m, n, D, Pl, hcs, -, hl, hm, hmm, hxx, hx⟩
  · simp at hcs
    subst hcs
    exact ⟨none, 0, 0, [], rfl, ⟨rfl, by decide, fun _ => ⟨rfl, rfl⟩, .inl rfl⟩, by omega, by simp⟩
  · simp at hcs
    subst hcs
    rw [hsp, if_pos rfl] at hmm
    subst hmm
    subst hxx
    have hw1 : len * 88 ≤ R := by
      have := hR ((((List.range len).map D).length + ((List.range (m - len)).map fun j => D (len + j)).length) * Try.prog.bytesOf 40) (by simp [DataW.weights, Try.underlying22])
      simp only [List.length_map, List.length_range] at this
      rw [bytesO] at this
      omega
    have hel : ∀ i, i < len → ∃ (d : ObjD), (∃ s : Sl, w.cells? base (a.add (i * 4)) 4 = some [.string d.code, .slice s.a1 s.l1 s.c1, .slice s.a2 s.l2 s.c2, .slice s.a3 s.l3 s.c3] ∧ OV w d s) ∧ Len R d := by
      intro i hi
      obtain ⟨cs', h1, h2⟩ := hx i (by omega)
      rw [cell_O] at h1
      obtain ⟨d, s, rfl, hV, hL⟩ := trod_O hsp h2 (R := R) (fun q hq => hR q (by
        simp only [DataW.weights, Try.underlying22, List.mem_cons, List.mem_append]
        exact .inr (.inl (weights_all _ (D i) (List.mem_map.2 ⟨i, by simpa using hi, rfl⟩) q hq))))
      exact ⟨d, ⟨s, h1, hV⟩, hL⟩
    have hf : ∃ f : Nat → ObjD, ∀ i, i < len → (∃ s : Sl, w.cells? base (a.add (i * 4)) 4 = some [.string (f i).code, .slice s.a1 s.l1 s.c1, .slice s.a2 s.l2 s.c2, .slice s.a3 s.l3 s.c3] ∧ OV w (f i) s) ∧ Len R (f i) :=
      ⟨fun i => if h : i < len then Classical.choose (hel i h) else noObj, fun i hi => by
        have := Classical.choose_spec (hel i hi)
        simp only [dif_pos hi]
        exact this⟩
    obtain ⟨f, hf⟩ := hf
    have hget : ∀ i, i < len → ((List.range len).map f).getD i noObj = f i := fun i hi => by simp [List.getD, hi]
    refine ⟨some a, len, m, (List.range len).map f, rfl, ⟨by simp, by omega, fun e => (by cases e), ?_⟩, hw1, ?_⟩
    · by_cases h0 : len = 0
      · exact .inl h0
      · have c0 : ∀ i, i < len → ∃ s : Sl, (∀ j u, [Value.string (f i).code, .slice s.a1 s.l1 s.c1, .slice s.a2 s.l2 s.c2, .slice s.a3 s.l3 s.c3][j]? = some u → w.cell? ((a.add (i * 4)).add j) = some u) ∧ OV w (f i) s := fun i hi => by
          obtain ⟨s, hc, hV⟩ := (hf i hi).1
          obtain ⟨-, -, hx⟩ := World.cells?_some hc
          refine ⟨s, fun j u hu => ?_, hV⟩
          have hj : j < 4 := by have := (List.getElem?_eq_some_iff.1 hu).1; simpa using this
          rw [hx j hj]
          exact hu
        obtain ⟨b, off, spot⟩ := a
        have hspot : spot = none := by
          obtain ⟨s, hs, -⟩ := c0 0 (by omega)
          have := hs 0 _ rfl
          rw [Addr.add_add] at this
          simpa [Addr.add] using World.cell?_spot this
        subst hspot
        refine .inr ⟨b, off, rfl, fun i hi => ?_⟩
        rw [hget i hi]
        obtain ⟨s, k, hV⟩ := c0 i hi
        simp only [Addr.add_lit] at k
        exact ⟨s, ⟨k 0 _ rfl, k 1 _ rfl, k 2 _ rfl, k 3 _ rfl⟩, hV⟩
    · intro o ho
      obtain ⟨i, hi, rfl⟩ := List.mem_map.1 ho
      exact (hf i (by simpa using hi)).2
end
end Go.Proofs.Ytaoklmphcgigeaa
