/- The arguments of layer 11's statements, opened. -/
import Derived.Test.YtkhehagepmeifaaRows
import Derived.Test.YtkhehagepmeifaaAtMath
import Derived.ProofKit
import Derived.ShutString
import Derived.ChangeOld
import Derived.ChangeMaps5
import Derived.Below
import Derived.Carry
import Derived.Lib.SmallJoins
import Derived.Deep.Slices
import Derived.Deep.Strs
namespace Go.Proofs.Ytkhehagepmeifaa
open Go.ChangeShapes Go.WideShapes Go.ChangeAt Go.RowKit Go.Joins

/-- A step of a script. -/
structure Stp where
  thread : Int
  doo : Int
  name : ByteArray
  arg : Int
def noStp : Stp := ⟨0, 0, .empty, 0⟩
structure StpsV (w : World) (a : Option Addr) (len cap : Nat) (ss : List Stp) : Prop where
  count : ss.length = len
  fits : ∀ s ∈ ss, s.name.size ≤ maxLen ∧ (Lit.int .i64 s.thread).wf = true ∧ (Lit.int .i64 s.doo).wf = true ∧ (Lit.int .i64 s.arg).wf = true
  room : len ≤ cap ∧ cap ≤ maxLen
  cells : len = 0 ∨ ∃ b off, a = some ⟨b, off, none⟩ ∧ ∀ i, i < len → w.cell? ⟨b, off + i * 4, none⟩ = some (.int .i64 (ss.getD i noStp).thread) ∧ w.cell? ⟨b, off + i * 4 + 1, none⟩ = some (.int .i64 (ss.getD i noStp).doo) ∧ w.cell? ⟨b, off + i * 4 + 2, none⟩ = some (.string (ss.getD i noStp).name) ∧ w.cell? ⟨b, off + i * 4 + 3, none⟩ = some (.int .i64 (ss.getD i noStp).arg)

section
variable {H : Type} {enc : TypeId × Value → H} {w : World} {base : Nat} {spare : Nat → Bool} {held : Bool}

theorem cell_i64 : Try.prog.cellsOf 2 = 1 := by kernel_rfl
theorem cell_int : Try.prog.cellsOf 3 = 1 := by kernel_rfl
theorem cell_str : Try.prog.cellsOf 9 = 1 := by kernel_rfl
theorem cell_sl : Try.prog.cellsOf 33 = 1 := by kernel_rfl
theorem open_I {fuel : Nat} {v : Value} {x : DataW H × List MemPlace} (hsp : ∀ b, spare b = true) (h : DataW.trod enc Try.prog w base spare held fuel 33 [v] = some x) : ∃ a l c zs, v = .slice a l c ∧ IntsV w a l c zs := by
  rcases open_ints Try.underlying33 Try.underlying2 cell_i64 h with ⟨hcs, -⟩ | ⟨a, l, c, zs, hcs, -, hl, hm, hz, -, hcell, hwz⟩
  · simp at hcs
    subst hcs
    exact ⟨none, 0, 0, [], rfl, ⟨rfl, by simp, fun _ => ⟨rfl, rfl⟩, ⟨Nat.le_refl _, by decide⟩, .inl rfl⟩⟩
  · simp at hcs
    subst hcs
    rw [hsp, if_pos rfl] at hz
    refine ⟨some a, l, c, zs.take l, rfl, ⟨by simp; omega, fun n hn => hwz n (List.mem_of_mem_take hn), fun e => (by cases e), ⟨hl, hm⟩, ?_⟩⟩
    by_cases h0 : l = 0
    · exact .inl h0
    · obtain ⟨b, off, rfl, hc'⟩ := ints_at hcell (by omega)
      refine .inr ⟨b, off, rfl, fun i hi => ?_⟩
      rw [hc' i (by omega)]
      simp [List.getD, hi]

theorem cell_A : Try.prog.cellsOf 35 = 4 := by kernel_rfl
set_option maxRecDepth 100000 in
theorem trod_A {fuel : Nat} {cs : List Value} {x : DataW H × List MemPlace} (hsp : ∀ b, spare b = true) (h : DataW.trod enc Try.prog w base spare held fuel 35 cs = some x) :
    ∃ (r : At) (a1 : Option Addr) (l1 c1 : Nat), cs = [.string r.name, .int .i64 r.cap, .int .i64 r.owner, .slice a1 l1 c1] ∧ AtFit r ∧ IntsV w a1 l1 c1 r.items := by
  obtain ⟨y0, y1, y2, y3, n, -, hl, h0, h1, h2, h3⟩ := trod_struct4 Try.underlying35 h
  rw [cell_A] at hl
  match cs, hl with
  | [u0, u1, u2, u3], _ =>
    simp only [cell_int, cell_str, cell_sl] at h0 h1 h2 h3
    obtain ⟨z0, e0, -, w0⟩ := DataW.trod_string Try.underlying9 h0
    obtain ⟨z1, e1, -, w1⟩ := DataW.trod_int Try.underlying3 h1
    obtain ⟨z2, e2, -, w2⟩ := DataW.trod_int Try.underlying3 h2
    obtain ⟨a1, l1, c1, zs, e3, V⟩ := open_I hsp (v := u3) (by simpa using h3)
    simp at e0 e1 e2
    subst e0 e1 e2 e3
    exact ⟨⟨z0, z1, z2, zs⟩, a1, l1, c1, rfl, ⟨w0, w1, w2, V.fits⟩, V⟩
/-- A list of objects, as it is read. -/
theorem open_A {fuel : Nat} {v : Value} {x : DataW H × List MemPlace} (hsp : ∀ b, spare b = true) (h : DataW.trod enc Try.prog w base spare held fuel 22 [v] = some x) :
    ∃ a len cap rs, v = .slice a len cap ∧ AtsV w a len cap rs := by
  rcases Deep.open_slice Try.underlying22 h with ⟨hcs, -⟩ | ⟨a, len, cap, m, n, D, Pl, hcs, -, hl, hm, hmm, -, hx⟩
  · simp at hcs
    subst hcs
    exact ⟨none, 0, 0, [], rfl, ⟨rfl, by simp, fun _ => ⟨rfl, rfl⟩, ⟨Nat.le_refl _, by decide⟩, .inl rfl⟩⟩
  · simp at hcs
    subst hcs
    rw [hsp, if_pos rfl] at hmm
    subst hmm
    have hel : ∀ i, i < len → ∃ (r : At), ∃ (a1 : Option Addr) (l1 c1 : Nat), w.cells? base (a.add (i * 4)) 4 = some [.string r.name, .int .i64 r.cap, .int .i64 r.owner, .slice a1 l1 c1] ∧ AtFit r ∧ IntsV w a1 l1 c1 r.items := by
      intro i hi
      obtain ⟨cs', h1, h2⟩ := hx i (by omega)
      rw [cell_A] at h1
      obtain ⟨r, a1, l1, c1, rfl, hr, V⟩ := trod_A hsp h2
      exact ⟨r, a1, l1, c1, h1, hr, V⟩
    have hf : ∃ f : Nat → At, ∀ i, i < len → ∃ (a1 : Option Addr) (l1 c1 : Nat), w.cells? base (a.add (i * 4)) 4 = some [.string (f i).name, .int .i64 (f i).cap, .int .i64 (f i).owner, .slice a1 l1 c1] ∧ AtFit (f i) ∧ IntsV w a1 l1 c1 (f i).items :=
      ⟨fun i => if h : i < len then Classical.choose (hel i h) else noAt, fun i hi => by
        have := Classical.choose_spec (hel i hi)
        simp only [dif_pos hi]
        exact this⟩
    obtain ⟨f, hf⟩ := hf
    have hget : ∀ i, i < len → ((List.range len).map f).getD i noAt = f i := fun i hi => by simp [List.getD, hi]
    refine ⟨some a, len, m, (List.range len).map f, rfl, ⟨by simp, ?_, fun e => (by cases e), ⟨hl, hm⟩, ?_⟩⟩
    · intro r hr
      obtain ⟨i, hi, rfl⟩ := List.mem_map.1 hr
      obtain ⟨_, _, _, -, h, -⟩ := hf i (by simpa using hi)
      exact h
    · by_cases h0 : len = 0
      · exact .inl h0
      · have c0 : ∀ i, i < len → ∃ (a1 : Option Addr) (l1 c1 : Nat), (∀ j u, [.string (f i).name, .int .i64 (f i).cap, .int .i64 (f i).owner, .slice a1 l1 c1][j]? = some u → w.cell? ((a.add (i * 4)).add j) = some u) ∧ IntsV w a1 l1 c1 (f i).items := fun i hi => by
          obtain ⟨a1, l1, c1, hc, -, V⟩ := hf i hi
          refine ⟨a1, l1, c1, fun j u hu => ?_, V⟩
          obtain ⟨-, -, hx⟩ := World.cells?_some hc
          have hj : j < 4 := by have := (List.getElem?_eq_some_iff.1 hu).1; simpa using this
          rw [hx j hj]
          exact hu
        obtain ⟨b, off, spot⟩ := a
        have hspot : spot = none := by
          obtain ⟨_, _, _, k, -⟩ := c0 0 (by omega)
          have := k 0 _ rfl
          rw [Addr.add_add] at this
          simpa [Addr.add] using World.cell?_spot this
        subst hspot
        refine .inr ⟨b, off, rfl, fun i hi => ?_⟩
        rw [hget i hi]
        obtain ⟨a1, l1, c1, k, V⟩ := c0 i hi
        simp only [Addr.add_lit] at k
        exact ⟨k 0 _ rfl, k 1 _ rfl, k 2 _ rfl, a1, l1, c1, k 3 _ rfl, V⟩

theorem cell_P : Try.prog.cellsOf 24 = 4 := by kernel_rfl
set_option maxRecDepth 100000 in
theorem trod_P {fuel : Nat} {cs : List Value} {x : DataW H × List MemPlace} (h : DataW.trod enc Try.prog w base spare held fuel 24 cs = some x) :
    ∃ r : Stp, cs = [.int .i64 r.thread, .int .i64 r.doo, .string r.name, .int .i64 r.arg] ∧ (r.name.size ≤ maxLen ∧ (Lit.int .i64 r.thread).wf = true ∧ (Lit.int .i64 r.doo).wf = true ∧ (Lit.int .i64 r.arg).wf = true) := by
  obtain ⟨y0, y1, y2, y3, n, -, hl, h0, h1, h2, h3⟩ := trod_struct4 Try.underlying24 h
  rw [cell_P] at hl
  match cs, hl with
  | [u0, u1, u2, u3], _ =>
    simp only [cell_i64, cell_int, cell_str] at h0 h1 h2 h3
    obtain ⟨z0, e0, -, w0⟩ := DataW.trod_int Try.underlying3 h0
    obtain ⟨z1, e1, -, w1⟩ := DataW.trod_int Try.underlying3 h1
    obtain ⟨z2, e2, -, w2⟩ := DataW.trod_string Try.underlying9 h2
    obtain ⟨z3, e3, -, w3⟩ := DataW.trod_int Try.underlying2 h3
    simp at e0 e1 e2 e3
    subst e0 e1 e2 e3
    exact ⟨⟨z0, z1, z2, z3⟩, rfl, w2, w0, w1, w3⟩
/-- A list of steps, as it is read. -/
theorem open_P {fuel : Nat} {v : Value} {x : DataW H × List MemPlace} (hsp : ∀ b, spare b = true) (h : DataW.trod enc Try.prog w base spare held fuel 37 [v] = some x) :
    ∃ a len cap rs, v = .slice a len cap ∧ StpsV w a len cap rs := by
  rcases Deep.open_slice Try.underlying37 h with ⟨hcs, -⟩ | ⟨a, len, cap, m, n, D, Pl, hcs, -, hl, hm, hmm, -, hx⟩
  · simp at hcs
    subst hcs
    exact ⟨none, 0, 0, [], rfl, ⟨rfl, by simp, ⟨Nat.le_refl _, by decide⟩, .inl rfl⟩⟩
  · simp at hcs
    subst hcs
    rw [hsp, if_pos rfl] at hmm
    subst hmm
    have hel : ∀ i, i < len → ∃ (r : Stp), w.cells? base (a.add (i * 4)) 4 = some [.int .i64 r.thread, .int .i64 r.doo, .string r.name, .int .i64 r.arg] ∧ (r.name.size ≤ maxLen ∧ (Lit.int .i64 r.thread).wf = true ∧ (Lit.int .i64 r.doo).wf = true ∧ (Lit.int .i64 r.arg).wf = true) := by
      intro i hi
      obtain ⟨cs', h1, h2⟩ := hx i (by omega)
      rw [cell_P] at h1
      obtain ⟨r, rfl, hr⟩ := trod_P h2
      exact ⟨r, h1, hr⟩
    have hf : ∃ f : Nat → Stp, ∀ i, i < len → w.cells? base (a.add (i * 4)) 4 = some [.int .i64 (f i).thread, .int .i64 (f i).doo, .string (f i).name, .int .i64 (f i).arg] ∧ ((f i).name.size ≤ maxLen ∧ (Lit.int .i64 (f i).thread).wf = true ∧ (Lit.int .i64 (f i).doo).wf = true ∧ (Lit.int .i64 (f i).arg).wf = true) :=
      ⟨fun i => if h : i < len then Classical.choose (hel i h) else noStp, fun i hi => by
        have := Classical.choose_spec (hel i hi)
        simp only [dif_pos hi]
        exact this⟩
    obtain ⟨f, hf⟩ := hf
    have hget : ∀ i, i < len → ((List.range len).map f).getD i noStp = f i := fun i hi => by simp [List.getD, hi]
    refine ⟨some a, len, m, (List.range len).map f, rfl, ⟨by simp, ?_, ⟨hl, hm⟩, ?_⟩⟩
    · intro r hr
      obtain ⟨i, hi, rfl⟩ := List.mem_map.1 hr
      exact (hf i (by simpa using hi)).2
    · by_cases h0 : len = 0
      · exact .inl h0
      · have c0 : ∀ i, i < len → ∀ j u, [.int .i64 (f i).thread, .int .i64 (f i).doo, .string (f i).name, .int .i64 (f i).arg][j]? = some u → w.cell? ((a.add (i * 4)).add j) = some u := fun i hi j u hu => by
          obtain ⟨-, -, hx⟩ := World.cells?_some (hf i hi).1
          have hj : j < 4 := by have := (List.getElem?_eq_some_iff.1 hu).1; simpa using this
          rw [hx j hj]
          exact hu
        obtain ⟨b, off, spot⟩ := a
        have hspot : spot = none := by
          have := c0 0 (by omega) 0 _ rfl
          rw [Addr.add_add] at this
          simpa [Addr.add] using World.cell?_spot this
        subst hspot
        refine .inr ⟨b, off, rfl, fun i hi => ?_⟩
        rw [hget i hi]
        have k := c0 i hi
        simp only [Addr.add_lit] at k
        exact ⟨k 0 _ rfl, k 1 _ rfl, k 2 _ rfl, k 3 _ rfl⟩

set_option maxRecDepth 100000 in
theorem open_stp {r : Reach} {b0 : Nat} {v : Value} {d : DataW H} {p : List MemPlace} (hv : Value.okWide Try.prog w r b0 24 v) (h : DataW.Trod enc Try.prog w base spare held 24 v d p) :
    ∃ s : Stp, v = .agg #[.int .i64 s.thread, .int .i64 s.doo, .string s.name, .int .i64 s.arg] ∧ (s.name.size ≤ maxLen ∧ (Lit.int .i64 s.thread).wf = true ∧ (Lit.int .i64 s.doo).wf = true ∧ (Lit.int .i64 s.arg).wf = true) := by
  obtain ⟨v0, v1, v2, v3, y0, y1, y2, y3, n, rfl, -, -, h0, h1, h2, h3⟩ := open_agg4 Try.underlying24 (by kernel_rfl) (by kernel_rfl) hv h
  obtain ⟨z0, e0, -, w0⟩ := DataW.trod_int Try.underlying3 h0
  obtain ⟨z1, e1, -, w1⟩ := DataW.trod_int Try.underlying3 h1
  obtain ⟨z2, e2, -, w2⟩ := DataW.trod_string Try.underlying9 h2
  obtain ⟨z3, e3, -, w3⟩ := DataW.trod_int Try.underlying2 h3
  simp at e0 e1 e2 e3
  subst e0 e1 e2 e3
  exact ⟨⟨z0, z1, z2, z3⟩, rfl, w2, w0, w1, w3⟩
end
end Go.Proofs.Ytkhehagepmeifaa
