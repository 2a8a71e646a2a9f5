/- The laws' live answers true. (Written by gen_liveb.py.) -/
import Derived.Test.YtdcdmlboilojmaaDoorQAv
import Derived.Test.YtdcdmlboilojmaaDoorCards
import Derived.Test.YtdcdmlboilojmaaDoorTie
import Derived.Test.YtdcdmlboilojmaaDoorRows
import Derived.Test.YtdcdmlboilojmaaDoorQAa
import Derived.WalkKit
import Derived.OpenShut
import Derived.Deep.DeepHandedRow
import Derived.ProofKit
import Derived.ShutString
import Derived.ChangeOld
import Derived.ChangeMaps5
import Derived.Below
import Derived.Carry
import Derived.Lib.SmallJoins
import Derived.Deep.Slices
import Derived.Deep.Strs
import Derived.SizedLaws
namespace Go.Proofs.YtdcdmlboilojmaaDoor
open Go.RowKit Go.Maps
set_option linter.unusedVariables false
set_option linter.unusedSimpArgs false

theorem ints_new (w : World) (zs : List Int) (hf : ∀ z ∈ zs, (Lit.int .i64 z).wf = true) (hl : zs.length ≤ maxLen) (ty : TypeId) : IntsV (w.alloc (.cells (zs.map (Value.int .i64)).toArray ty)) (some ⟨w.heap.size, 0, none⟩) zs.length zs.length zs :=
  ⟨rfl, hf, fun e => (by cases e), ⟨Nat.le_refl _, hl⟩, .inr ⟨w.heap.size, 0, rfl, fun i hi => cell_last _ _ _ _ _ rfl (by simp [List.getD, hi])⟩⟩
def noIm : ImgD := ⟨{ data := #[] }, [], []⟩
theorem noIm_v (w : World) : ImgV w (.agg #[.string { data := #[] }, .slice none 0 0, .slice none 0 0]) noIm :=
  ⟨⟨none, 0, 0, none, 0, 0, rfl, Nat.zero_le _, ⟨rfl, by simp [noIm], fun _ => ⟨rfl, rfl⟩, ⟨Nat.le_refl _, Nat.zero_le _⟩, .inl rfl⟩, ⟨rfl, by simp [noIm], fun _ => ⟨rfl, rfl⟩, ⟨Nat.le_refl _, Nat.zero_le _⟩, .inl rfl⟩⟩⟩
theorem noIm_may : noIm.may = false := by decide +kernel

set_option maxRecDepth 100000 in
set_option maxHeartbeats 16000000 in
theorem live_any (w : World) (ht : Tab w) : Calls Tryd.prog 12 #[] w fun e w' => e = .returned (.bool true) ∧ Below w.heap.size w w' := by
  have HT : Hid (Tab w) := ht
  clear ht
  go_enter Tryd.func12, Tryd.ntmps12
  go_wp2_with fail
  refine (crossed_any w).mono ?_
  rintro e y1 ⟨⟨v1, rfl, him⟩, hb1⟩
  have HB1 : Hid (Below w.heap.size w y1) := hb1
  have hba : Below y1.heap.size y1 (y1.alloc (.cells #[.int .i64 0, .int .i64 0, .int .i64 0, .int .i64 2, .int .i64 2, .int .i64 2, .int .i64 0, .int .i64 0, .int .i64 0, .int .i64 2, .int .i64 2, .int .i64 2] 3)) := bl_one _ _
  have HR1 : Hid (Calls Tryd.prog 23 #[v1, .slice (some ⟨y1.heap.size, 0, none⟩) 12 12] (y1.alloc (.cells #[.int .i64 0, .int .i64 0, .int .i64 0, .int .i64 2, .int .i64 2, .int .i64 2, .int .i64 0, .int .i64 0, .int .i64 0, .int .i64 2, .int .i64 2, .int .i64 2] 3)) fun e w' => RunIs (y1.alloc (.cells #[.int .i64 0, .int .i64 0, .int .i64 0, .int .i64 2, .int .i64 2, .int .i64 2, .int .i64 0, .int .i64 0, .int .i64 0, .int .i64 2, .int .i64 2, .int .i64 2] 3)).heap.size e w' [(0, 1, 0), (1, 1, 0)] ∧ Below (y1.alloc (.cells #[.int .i64 0, .int .i64 0, .int .i64 0, .int .i64 2, .int .i64 2, .int .i64 2, .int .i64 0, .int .i64 0, .int .i64 0, .int .i64 2, .int .i64 2, .int .i64 2] 3)).heap.size (y1.alloc (.cells #[.int .i64 0, .int .i64 0, .int .i64 0, .int .i64 2, .int .i64 2, .int .i64 2, .int .i64 0, .int .i64 0, .int .i64 0, .int .i64 2, .int .i64 2, .int .i64 2] 3)) w') := by
    have := run_yes (him.below hba) (by decide) imX_may (ints_new y1 [0, 0, 0, 2, 2, 2, 0, 0, 0, 2, 2, 2] (by decide) (by decide) 3) (by decide) ((HT.out.below hb1).below hba)
    rw [imX_run1] at this
    exact this
  have HBA : Hid (Below w.heap.size w (y1.alloc (.cells #[.int .i64 0, .int .i64 0, .int .i64 0, .int .i64 2, .int .i64 2, .int .i64 2, .int .i64 0, .int .i64 0, .int .i64 0, .int .i64 2, .int .i64 2, .int .i64 2] 3))) := hb1.trans (hba.mono hb1.size)
  clear hb1 him hba
  go_wp2_with fail
  refine HR1.out.mono ?_
  rintro e y2 ⟨⟨va, rfl, hoa⟩, hb2⟩
  have HB2 : Hid (Below w.heap.size w y2) := HBA.out.trans (hb2.mono HBA.out.size)
  have HOA : Hid (y2.ownsRow w.heap.size 81 3 va 2 (([(0, 1, 0), (1, 1, 0)] : List T.Ev).flatMap eC)) := own_mono hoa HBA.out.size
  clear hb2 hoa
  go_wp2_with fail
  refine (crossed_any y2).mono ?_
  rintro e y3 ⟨⟨v3, rfl, him⟩, hb3⟩
  have HB3 : Hid (Below w.heap.size w y3) := HB2.out.trans (hb3.mono HB2.out.size)
  have HOA3 : Hid (y3.ownsRow w.heap.size 81 3 va 2 (([(0, 1, 0), (1, 1, 0)] : List T.Ev).flatMap eC)) := own_below HOA.out hb3
  have hba : Below y3.heap.size y3 (y3.alloc (.cells #[.int .i64 0, .int .i64 0, .int .i64 0, .int .i64 1, .int .i64 2, .int .i64 2, .int .i64 2, .int .i64 2, .int .i64 2, .int .i64 2] 3)) := bl_one _ _
  have HR3 : Hid (Calls Tryd.prog 23 #[v3, .slice (some ⟨y3.heap.size, 0, none⟩) 10 10] (y3.alloc (.cells #[.int .i64 0, .int .i64 0, .int .i64 0, .int .i64 1, .int .i64 2, .int .i64 2, .int .i64 2, .int .i64 2, .int .i64 2, .int .i64 2] 3)) fun e w' => RunIs (y3.alloc (.cells #[.int .i64 0, .int .i64 0, .int .i64 0, .int .i64 1, .int .i64 2, .int .i64 2, .int .i64 2, .int .i64 2, .int .i64 2, .int .i64 2] 3)).heap.size e w' [(1, 1, 1)] ∧ Below (y3.alloc (.cells #[.int .i64 0, .int .i64 0, .int .i64 0, .int .i64 1, .int .i64 2, .int .i64 2, .int .i64 2, .int .i64 2, .int .i64 2, .int .i64 2] 3)).heap.size (y3.alloc (.cells #[.int .i64 0, .int .i64 0, .int .i64 0, .int .i64 1, .int .i64 2, .int .i64 2, .int .i64 2, .int .i64 2, .int .i64 2, .int .i64 2] 3)) w') := by
    have := run_yes (him.below hba) (by decide) imX_may (ints_new y3 [0, 0, 0, 1, 2, 2, 2, 2, 2, 2] (by decide) (by decide) 3) (by decide) ((HT.out.below HB3.out).below hba)
    rw [imX_run2] at this
    exact this
  have HBC : Hid (Below w.heap.size w (y3.alloc (.cells #[.int .i64 0, .int .i64 0, .int .i64 0, .int .i64 1, .int .i64 2, .int .i64 2, .int .i64 2, .int .i64 2, .int .i64 2, .int .i64 2] 3))) := HB3.out.trans (hba.mono HB3.out.size)
  have HOC : Hid ((y3.alloc (.cells #[.int .i64 0, .int .i64 0, .int .i64 0, .int .i64 1, .int .i64 2, .int .i64 2, .int .i64 2, .int .i64 2, .int .i64 2, .int .i64 2] 3)).ownsRow w.heap.size 81 3 va 2 (([(0, 1, 0), (1, 1, 0)] : List T.Ev).flatMap eC)) := own_below HOA3.out hba
  clear hb3 him hba
  go_wp2_with fail
  refine HR3.out.mono ?_
  rintro e y4 ⟨⟨vb, rfl, hob⟩, hb4⟩
  have HB4 : Hid (Below w.heap.size w y4) := HBC.out.trans (hb4.mono HBC.out.size)
  have HOA4 : Hid (y4.ownsRow w.heap.size 81 3 va 2 (([(0, 1, 0), (1, 1, 0)] : List T.Ev).flatMap eC)) := own_below HOC.out hb4
  have HOB4 : Hid (y4.ownsRow w.heap.size 81 3 vb 1 (([(1, 1, 1)] : List T.Ev).flatMap eC)) := own_mono hob HBC.out.size
  have HRN : Hid (Calls Tryd.prog 23 #[.agg #[.string { data := #[] }, .slice none 0 0, .slice none 0 0], .slice none 0 0] y4 fun e w' => e = .returned (.tuple #[.slice none 0 0, .int .i64 1]) ∧ Below y4.heap.size y4 w') := run_no (noIm_v y4) (by decide) noIm_may
  clear hb4 hob
  go_wp2_with fail
  refine HRN.out.mono ?_
  rintro e y5 ⟨rfl, hb5⟩
  have HB5 : Hid (Below w.heap.size w y5) := HB4.out.trans (hb5.mono HB4.out.size)
  have HOA5 : Hid (y5.ownsRow w.heap.size 81 3 va 2 (([(0, 1, 0), (1, 1, 0)] : List T.Ev).flatMap eC)) := own_below HOA4.out hb5
  have HOB5 : Hid (y5.ownsRow w.heap.size 81 3 vb 1 (([(1, 1, 1)] : List T.Ev).flatMap eC)) := own_below HOB4.out hb5
  clear hb5
  have hba : Below y5.heap.size y5 (y5.alloc (.cells #[.int .i64 0, .int .i64 1, .int .i64 0, .int .i64 1, .int .i64 1, .int .i64 0] 81)) := bl_one _ _
  have HS1 : Hid (Calls Tryd.prog 21 #[va, .slice (some ⟨y5.heap.size, 0, none⟩) 2 2] (y5.alloc (.cells #[.int .i64 0, .int .i64 1, .int .i64 0, .int .i64 1, .int .i64 1, .int .i64 0] 81)) fun e w' => e = .returned (.bool true) ∧ Below (y5.alloc (.cells #[.int .i64 0, .int .i64 1, .int .i64 0, .int .i64 1, .int .i64 1, .int .i64 0] 81)).heap.size (y5.alloc (.cells #[.int .i64 0, .int .i64 1, .int .i64 0, .int .i64 1, .int .i64 1, .int .i64 0] 81)) w') :=
    sameE_any (es := [(0, 1, 0), (1, 1, 0)]) (own_below HOA5.out hba) (own_new y5 #[.int .i64 0, .int .i64 1, .int .i64 0, .int .i64 1, .int .i64 1, .int .i64 0] 81 2 3 rfl (by decide))
  have HBE : Hid (Below w.heap.size w (y5.alloc (.cells #[.int .i64 0, .int .i64 1, .int .i64 0, .int .i64 1, .int .i64 1, .int .i64 0] 81))) := HB5.out.trans (hba.mono HB5.out.size)
  have HOB6 : Hid ((y5.alloc (.cells #[.int .i64 0, .int .i64 1, .int .i64 0, .int .i64 1, .int .i64 1, .int .i64 0] 81)).ownsRow w.heap.size 81 3 vb 1 (([(1, 1, 1)] : List T.Ev).flatMap eC)) := own_below HOB5.out hba
  clear hba
  go_wp2_with fail
  refine HS1.out.mono ?_
  rintro e y6 ⟨rfl, hb6⟩
  have HB6 : Hid (Below w.heap.size w y6) := HBE.out.trans (hb6.mono HBE.out.size)
  have HOB7 : Hid (y6.ownsRow w.heap.size 81 3 vb 1 (([(1, 1, 1)] : List T.Ev).flatMap eC)) := own_below HOB6.out hb6
  have hba : Below y6.heap.size y6 (y6.alloc (.cells #[.int .i64 1, .int .i64 1, .int .i64 1] 81)) := bl_one _ _
  have HS2 : Hid (Calls Tryd.prog 21 #[vb, .slice (some ⟨y6.heap.size, 0, none⟩) 1 1] (y6.alloc (.cells #[.int .i64 1, .int .i64 1, .int .i64 1] 81)) fun e w' => e = .returned (.bool true) ∧ Below (y6.alloc (.cells #[.int .i64 1, .int .i64 1, .int .i64 1] 81)).heap.size (y6.alloc (.cells #[.int .i64 1, .int .i64 1, .int .i64 1] 81)) w') :=
    sameE_any (es := [(1, 1, 1)]) (own_below HOB7.out hba) (own_new y6 #[.int .i64 1, .int .i64 1, .int .i64 1] 81 1 3 rfl (by decide))
  have HBF : Hid (Below w.heap.size w (y6.alloc (.cells #[.int .i64 1, .int .i64 1, .int .i64 1] 81))) := HB6.out.trans (hba.mono HB6.out.size)
  clear hba hb6
  go_wp2_with fail
  refine HS2.out.mono ?_
  rintro e y7 ⟨rfl, hb7⟩
  have HB7 : Hid (Below w.heap.size w y7) := HBF.out.trans (hb7.mono HBF.out.size)
  clear hb7
  go_wp2
  go_ret
  exact ⟨rfl, HB7.out⟩

end Go.Proofs.YtdcdmlboilojmaaDoor

/- The arguments of layer 6's statements, opened: an object. (Written by gen_open.py.) -/
namespace Go.Proofs.YtdcdmlboilojmaaDoor
set_option maxRecDepth 100000
open Go.ChangeShapes Go.WideShapes Go.ChangeAt Go.RowKit Go.Joins

section
variable {H : Type} {enc : TypeId × Value → H} {w : World} {base : Nat} {spare : Nat → Bool} {held : Bool}

theorem cell_i64 : Tryd.prog.cellsOf 2 = 1 := by kernel_rfl
theorem cell_int : Tryd.prog.cellsOf 3 = 1 := by kernel_rfl
theorem cell_str : Tryd.prog.cellsOf 9 = 1 := by kernel_rfl
theorem open_I {fuel : Nat} {v : Value} {x : DataW H × List MemPlace} (hsp : ∀ b, spare b = true) (h : DataW.trod enc Tryd.prog w base spare held fuel 22 [v] = some x) : ∃ a l c zs, v = .slice a l c ∧ IntsV w a l c zs ∧ zs.length ≤ maxLen := by
  rcases open_ints Tryd.underlying22 Tryd.underlying2 cell_i64 h with ⟨hcs, -⟩ | ⟨a, l, c, zs, hcs, -, hl, hm, hz, -, hcell, hwz⟩
  · simp at hcs
    subst hcs
    exact ⟨none, 0, 0, [], rfl, ⟨rfl, by simp, fun _ => ⟨rfl, rfl⟩, ⟨Nat.le_refl _, Nat.zero_le _⟩, .inl rfl⟩, by decide⟩
  · simp at hcs
    subst hcs
    rw [hsp, if_pos rfl] at hz
    refine ⟨some a, l, c, zs.take l, rfl, ⟨by simp; omega, fun n hn => hwz n (List.mem_of_mem_take hn), fun e => (by cases e), ⟨by omega, by omega⟩, ?_⟩, by simp; omega⟩
    by_cases h0 : l = 0
    · exact .inl h0
    · obtain ⟨b, off, rfl, hc'⟩ := ints_at hcell (by omega)
      refine .inr ⟨b, off, rfl, fun i hi => ?_⟩
      rw [hc' i (by omega)]
      simp [List.getD, hi]

theorem open_N {fuel : Nat} {v : Value} {x : DataW H × List MemPlace} (hsp : ∀ b, spare b = true) (h : DataW.trod enc Tryd.prog w base spare held fuel 26 [v] = some x) : ∃ a l c zs, v = .slice a l c ∧ IntsV w a l c zs ∧ zs.length ≤ maxLen := by
  rcases open_ints Tryd.underlying26 Tryd.underlying3 cell_int h with ⟨hcs, -⟩ | ⟨a, l, c, zs, hcs, -, hl, hm, hz, -, hcell, hwz⟩
  · simp at hcs
    subst hcs
    exact ⟨none, 0, 0, [], rfl, ⟨rfl, by simp, fun _ => ⟨rfl, rfl⟩, ⟨Nat.le_refl _, Nat.zero_le _⟩, .inl rfl⟩, by decide⟩
  · simp at hcs
    subst hcs
    rw [hsp, if_pos rfl] at hz
    refine ⟨some a, l, c, zs.take l, rfl, ⟨by simp; omega, fun n hn => hwz n (List.mem_of_mem_take hn), fun e => (by cases e), ⟨by omega, by omega⟩, ?_⟩, by simp; omega⟩
    by_cases h0 : l = 0
    · exact .inl h0
    · obtain ⟨b, off, rfl, hc'⟩ := ints_at hcell (by omega)
      refine .inr ⟨b, off, rfl, fun i hi => ?_⟩
      rw [hc' i (by omega)]
      simp [List.getD, hi]

theorem cell_S : Tryd.prog.cellsOf 64 = 3 := by kernel_rfl
set_option maxRecDepth 100000 in
theorem trod_S {fuel : Nat} {cs : List Value} {x : DataW H × List MemPlace} (h : DataW.trod enc Tryd.prog w base spare held fuel 64 cs = some x) :
    ∃ r : Sym, cs = [.string r.name, .int .i64 r.kind, .int .i64 r.pos] ∧ (r.name.size ≤ maxLen ∧ (Lit.int .i64 r.kind).wf = true ∧ (Lit.int .i64 r.pos).wf = true) := by
  obtain ⟨y0, y1, y2, n, -, hl, h0, h1, h2⟩ := Deep.trod_struct3 Tryd.underlying64 h
  rw [cell_S] at hl
  match cs, hl with
  | [u0, u1, u2], _ =>
    simp only [cell_int, cell_str] at h0 h1 h2
    obtain ⟨z0, e0, -, w0⟩ := DataW.trod_string Tryd.underlying9 h0
    obtain ⟨z1, e1, -, w1⟩ := DataW.trod_int Tryd.underlying3 h1
    obtain ⟨z2, e2, -, w2⟩ := DataW.trod_int Tryd.underlying3 h2
    simp at e0 e1 e2
    subst e0 e1 e2
    exact ⟨⟨z0, z1, z2⟩, rfl, w0, w1, w2⟩
/-- A list, as it is read. -/
theorem open_S {fuel : Nat} {v : Value} {x : DataW H × List MemPlace} (hsp : ∀ b, spare b = true) (h : DataW.trod enc Tryd.prog w base spare held fuel 23 [v] = some x) :
    ∃ a len cap rs, v = .slice a len cap ∧ SymsV w a len cap rs ∧ rs.length ≤ maxLen := by
  rcases Deep.open_slice Tryd.underlying23 h with ⟨hcs, -⟩ | ⟨a, len, cap, m, n, D, Pl, hcs, -, hl, hm, hmm, -, hx⟩
  · simp at hcs
    subst hcs
    exact ⟨none, 0, 0, [], rfl, ⟨rfl, by simp, fun _ => ⟨rfl, rfl⟩, ⟨Nat.le_refl _, Nat.zero_le _⟩, .inl rfl⟩, by decide⟩
  · simp at hcs
    subst hcs
    rw [hsp, if_pos rfl] at hmm
    subst hmm
    have hel : ∀ i, i < len → ∃ (r : Sym), w.cells? base (a.add (i * 3)) 3 = some [.string r.name, .int .i64 r.kind, .int .i64 r.pos] ∧ (r.name.size ≤ maxLen ∧ (Lit.int .i64 r.kind).wf = true ∧ (Lit.int .i64 r.pos).wf = true) := by
      intro i hi
      obtain ⟨cs', h1, h2⟩ := hx i (by omega)
      rw [cell_S] at h1
      obtain ⟨r, rfl, hr⟩ := trod_S h2
      exact ⟨r, h1, hr⟩
    have hf : ∃ f : Nat → Sym, ∀ i, i < len → w.cells? base (a.add (i * 3)) 3 = some [.string (f i).name, .int .i64 (f i).kind, .int .i64 (f i).pos] ∧ ((f i).name.size ≤ maxLen ∧ (Lit.int .i64 (f i).kind).wf = true ∧ (Lit.int .i64 (f i).pos).wf = true) :=
      ⟨fun i => if h : i < len then Classical.choose (hel i h) else noSym, fun i hi => by
        have := Classical.choose_spec (hel i hi)
        simp only [dif_pos hi]
        exact this⟩
    obtain ⟨f, hf⟩ := hf
    have hget : ∀ i, i < len → ((List.range len).map f).getD i noSym = f i := fun i hi => by simp [List.getD, hi]
    refine ⟨some a, len, m, (List.range len).map f, rfl, ⟨by simp, ?_, fun e => (by cases e), ⟨by omega, by omega⟩, ?_⟩, by simp; omega⟩
    · intro r hr
      obtain ⟨i, hi, rfl⟩ := List.mem_map.1 hr
      exact (hf i (by simpa using hi)).2
    · by_cases h0 : len = 0
      · exact .inl h0
      · have c0 : ∀ i, i < len → ∀ j u, [.string (f i).name, .int .i64 (f i).kind, .int .i64 (f i).pos][j]? = some u → w.cell? ((a.add (i * 3)).add j) = some u := fun i hi j u hu => by
          obtain ⟨-, -, hx⟩ := World.cells?_some (hf i hi).1
          have hj : j < 3 := by have := (List.getElem?_eq_some_iff.1 hu).1; simpa using this
          rw [hx j hj]
          exact hu
        obtain ⟨b, off, spot⟩ := a
        have hspot : spot = none := by
          have := c0 0 (by omega) 0 _ rfl
          rw [Addr.add_add] at this
          simpa [Addr.add] using World.cell?_spot this
        subst hspot
        refine .inr ⟨b, off, rfl, fun i hi => ?_⟩
        rw [hget i hi]
        have k := c0 i hi
        simp only [Addr.add_lit] at k
        exact ⟨k 0 _ rfl, k 1 _ rfl, k 2 _ rfl⟩
set_option maxRecDepth 100000 in
theorem open_img {r : Reach} {b0 : Nat} {v : Value} {d : DataW H} {p : List MemPlace} (hsp : ∀ b, spare b = true) (hv : Value.okWide Tryd.prog w r b0 25 v) (h : DataW.Trod enc Tryd.prog w base spare held 25 v d p) :
    ∃ m, ImgV w v m := by
  obtain ⟨v0, v1, v2, y0, y1, y2, n, rfl, -, -, h0, h1, h2⟩ := open_agg3 Tryd.underlying25 (by kernel_rfl) (by kernel_rfl) hv h
  obtain ⟨s, e0, -, hs⟩ := DataW.trod_string Tryd.underlying9 h0
  obtain ⟨a1, l1, c1, z1, rfl, V1, k1⟩ := open_I hsp h1
  obtain ⟨a2, l2, c2, z2, rfl, V2, k2⟩ := open_S hsp h2
  simp at e0
  subst e0
  exact ⟨⟨s, z1, z2⟩, ⟨⟨_, _, _, _, _, _, rfl, hs, V1, V2⟩⟩⟩
end
/-- A block that holds these cells in the place of its own. -/
def setObj (cs : Array Value) : Obj → Obj
  | .cells _ t frozen => .cells cs t frozen
  | o => o
/-- A world for the witness: the settled one, the tables holding what their initialisers lay. -/
noncomputable def laidWorld (os : Os) : World :=
  { World.holding Tryd.prog os ⟨#[], #[], []⟩ with heap := ((World.holding Tryd.prog os ⟨#[], #[], []⟩).heap.modify 0 (setObj I.nums)).modify 1 (setObj I.forms) }

end Go.Proofs.YtdcdmlboilojmaaDoor

/- How long an image's words can be: the reach that the form gives. -/
namespace Go.Proofs.YtdcdmlboilojmaaDoor
set_option maxRecDepth 100000
open Go.ChangeShapes Go.WideShapes Go.ChangeAt Go.RowKit Go.Joins

theorem bytes32 : Tryd.prog.bytesOf 64 = 32 := by kernel_rfl
theorem bytes8 : Tryd.prog.bytesOf 2 = 8 := by kernel_rfl
section
variable {H : Type} {enc : TypeId × Value → H} {w : World} {base : Nat} {spare : Nat → Bool} {held : Bool}
theorem slice_weight {fuel : Nat} {t e : TypeId} (ht : Tryd.prog.underlying t = some (.slice e)) {a : Option Addr} {len cap : Nat} {x : DataW H × List MemPlace} {R : Nat} (h : DataW.trod enc Tryd.prog w base spare held fuel t [.slice a len cap] = some x) (hR : ∀ n ∈ x.1.weights Tryd.prog t, n ≤ R) : len * Tryd.prog.bytesOf e ≤ R := by
  rcases Deep.open_slice ht h with ⟨hcs, rfl⟩ | ⟨a', len', cap', m, n, D, Pl, hcs, -, -, -, -, rfl, -⟩
  · simp at hcs
    obtain ⟨-, rfl, -⟩ := hcs
    simp
  · simp at hcs
    obtain ⟨-, rfl, -⟩ := hcs
    have := hR ((((List.range len).map D).length + ((List.range (m - len)).map fun j => D (len + j)).length) * Tryd.prog.bytesOf e) (by simp [DataW.weights, ht])
    simp only [List.length_map, List.length_range] at this
    exact Nat.le_trans (Nat.mul_le_mul_right _ (Nat.le_add_right _ _)) this
theorem img_sized {r : Reach} {b0 : Nat} {v : Value} {d : DataW H} {p : List MemPlace} {R : Nat} (hv : Value.okWide Tryd.prog w r b0 25 v) (h : DataW.Trod enc Tryd.prog w base spare held 25 v d p) {m : ImgD} (V : ImgV w v m) (hR : ∀ n ∈ d.weights Tryd.prog 25, n ≤ R) :
    m.data.length * 8 ≤ R ∧ m.syms.length * 32 ≤ R := by
  obtain ⟨v0, v1, v2, y0, y1, y2, n, rfl, rfl, -, h0, h1, h2⟩ := open_agg3 Tryd.underlying25 (by kernel_rfl) (by kernel_rfl) hv h
  obtain ⟨a1, l1, c1, a2, l2, c2, e, -, V1, V2⟩ := V.form
  simp at e
  obtain ⟨rfl, rfl, rfl⟩ := e
  have n1 := V1.count
  have n2 := V2.count
  rw [n1, ← bytes8, n2, ← bytes32]
  refine ⟨slice_weight Tryd.underlying22 h1 (fun n hn => hR n ?_), slice_weight Tryd.underlying23 h2 (fun n hn => hR n ?_)⟩
  · simp only [DataW.weights, Tryd.underlying25]
    simp only [List.map_cons, List.map_nil, DataW.weightsEach, List.mem_append]
    exact Or.inr (Or.inl hn)
  · simp only [DataW.weights, Tryd.underlying25]
    simp only [List.map_cons, List.map_nil, DataW.weightsEach, List.mem_append]
    exact Or.inr (Or.inr (Or.inl hn))
end
end Go.Proofs.YtdcdmlboilojmaaDoor
