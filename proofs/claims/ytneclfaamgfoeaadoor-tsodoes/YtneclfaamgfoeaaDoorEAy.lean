/- The laws' live answers true. (Written by gen_liveb.py.) -/
import Derived.Test.YtneclfaamgfoeaaDoorEAx
import Derived.Test.YtneclfaamgfoeaaDoorCards
import Derived.Test.YtneclfaamgfoeaaDoorTie
import Derived.Test.YtneclfaamgfoeaaDoorRows
import Derived.Test.YtneclfaamgfoeaaDoorEAa
import Derived.WalkKit
import Derived.OpenShut
import Derived.Deep.DeepHandedRow
import Derived.ProofKit
import Derived.ShutString
import Derived.ChangeOld
import Derived.ChangeMaps5
import Derived.Below
import Derived.Carry
import Derived.Lib.SmallJoins
import Derived.Deep.Slices
import Derived.Deep.Strs
import Derived.SizedLaws
import Derived.Test.YtneclfaamgfoeaaDoorEAb
import Derived.Test.YtneclfaamgfoeaaDoorEAf
namespace Go.Proofs.YtneclfaamgfoeaaDoor
open Go.RowKit Go.Maps
set_option linter.unusedVariables false
set_option linter.unusedSimpArgs false

theorem ints_new (w : World) (zs : List Int) (hf : ∀ z ∈ zs, (Lit.int .i64 z).wf = true) (hl : zs.length ≤ maxLen) (ty : TypeId) : IntsV (w.alloc (.cells (zs.map (Value.int .i64)).toArray ty)) (some ⟨w.heap.size, 0, none⟩) zs.length zs.length zs :=
  ⟨rfl, hf, fun e => (by cases e), ⟨Nat.le_refl _, hl⟩, .inr ⟨w.heap.size, 0, rfl, fun i hi => cell_last _ _ _ _ _ rfl (by simp [List.getD, hi])⟩⟩
def noIm : ImgD := ⟨{ data := #[] }, [], []⟩
theorem noIm_v (w : World) : ImgV w (.agg #[.string { data := #[] }, .slice none 0 0, .slice none 0 0]) noIm :=
  ⟨⟨none, 0, 0, none, 0, 0, rfl, Nat.zero_le _, ⟨rfl, by simp [noIm], fun _ => ⟨rfl, rfl⟩, ⟨Nat.le_refl _, Nat.zero_le _⟩, .inl rfl⟩, ⟨rfl, by simp [noIm], fun _ => ⟨rfl, rfl⟩, ⟨Nat.le_refl _, Nat.zero_le _⟩, .inl rfl⟩⟩⟩
theorem noIm_may : noIm.may = false := by decide +kernel

set_option maxRecDepth 100000 in
set_option maxHeartbeats 16000000 in
theorem live_any (w : World) (ht : Tab w) : Calls Tryd.prog 12 #[] w fun e w' => e = .returned (.bool true) ∧ Below w.heap.size w w' := by
  have HT : Hid (Tab w) := ht
  clear ht
  go_enter Tryd.func12, Tryd.ntmps12
  go_wp2_with fail
  refine (crossed_any w).mono ?_
  rintro e y1 ⟨⟨v1, rfl, him⟩, hb1⟩
  have HB1 : Hid (Below w.heap.size w y1) := hb1
  have hba : Below y1.heap.size y1 (y1.alloc (.cells #[.int .i64 0, .int .i64 0, .int .i64 0, .int .i64 2, .int .i64 2, .int .i64 2, .int .i64 0, .int .i64 0, .int .i64 0, .int .i64 2, .int .i64 2, .int .i64 2] 3)) := bl_one _ _
  have HR1 : Hid (Calls Tryd.prog 23 #[v1, .slice (some ⟨y1.heap.size, 0, none⟩) 12 12] (y1.alloc (.cells #[.int .i64 0, .int .i64 0, .int .i64 0, .int .i64 2, .int .i64 2, .int .i64 2, .int .i64 0, .int .i64 0, .int .i64 0, .int .i64 2, .int .i64 2, .int .i64 2] 3)) fun e w' => RunIs (y1.alloc (.cells #[.int .i64 0, .int .i64 0, .int .i64 0, .int .i64 2, .int .i64 2, .int .i64 2, .int .i64 0, .int .i64 0, .int .i64 0, .int .i64 2, .int .i64 2, .int .i64 2] 3)).heap.size e w' [(0, 1, 0), (1, 1, 0)] ∧ Below (y1.alloc (.cells #[.int .i64 0, .int .i64 0, .int .i64 0, .int .i64 2, .int .i64 2, .int .i64 2, .int .i64 0, .int .i64 0, .int .i64 0, .int .i64 2, .int .i64 2, .int .i64 2] 3)).heap.size (y1.alloc (.cells #[.int .i64 0, .int .i64 0, .int .i64 0, .int .i64 2, .int .i64 2, .int .i64 2, .int .i64 0, .int .i64 0, .int .i64 0, .int .i64 2, .int .i64 2, .int .i64 2] 3)) w') := by
    have := run_yes (him.below hba) (by decide) imX_may (ints_new y1 [0, 0, 0, 2, 2, 2, 0, 0, 0, 2, 2, 2] (by decide) (by decide) 3) (by decide) ((HT.out.below hb1).below hba)
    rw [imX_run1] at this
    exact this
  have HBA : Hid (Below w.heap.size w (y1.alloc (.cells #[.int .i64 0, .int .i64 0, .int .i64 0, .int .i64 2, .int .i64 2, .int .i64 2, .int .i64 0, .int .i64 0, .int .i64 0, .int .i64 2, .int .i64 2, .int .i64 2] 3))) := hb1.trans (hba.mono hb1.size)
  clear hb1 him hba
  go_wp2_with fail
  refine HR1.out.mono ?_
  rintro e y2 ⟨⟨va, rfl, hoa⟩, hb2⟩
  have HB2 : Hid (Below w.heap.size w y2) := HBA.out.trans (hb2.mono HBA.out.size)
  have HOA : Hid (y2.ownsRow w.heap.size 81 3 va 2 (([(0, 1, 0), (1, 1, 0)] : List T.Ev).flatMap eC)) := own_mono hoa HBA.out.size
  clear hb2 hoa
  go_wp2_with fail
  refine (crossed_any y2).mono ?_
  rintro e y3 ⟨⟨v3, rfl, him⟩, hb3⟩
  have HB3 : Hid (Below w.heap.size w y3) := HB2.out.trans (hb3.mono HB2.out.size)
  have HOA3 : Hid (y3.ownsRow w.heap.size 81 3 va 2 (([(0, 1, 0), (1, 1, 0)] : List T.Ev).flatMap eC)) := own_below HOA.out hb3
  have hba : Below y3.heap.size y3 (y3.alloc (.cells #[.int .i64 0, .int .i64 0, .int .i64 0, .int .i64 1, .int .i64 2, .int .i64 2, .int .i64 2, .int .i64 2, .int .i64 2, .int .i64 2] 3)) := bl_one _ _
  have HR3 : Hid (Calls Tryd.prog 23 #[v3, .slice (some ⟨y3.heap.size, 0, none⟩) 10 10] (y3.alloc (.cells #[.int .i64 0, .int .i64 0, .int .i64 0, .int .i64 1, .int .i64 2, .int .i64 2, .int .i64 2, .int .i64 2, .int .i64 2, .int .i64 2] 3)) fun e w' => RunIs (y3.alloc (.cells #[.int .i64 0, .int .i64 0, .int .i64 0, .int .i64 1, .int .i64 2, .int .i64 2, .int .i64 2, .int .i64 2, .int .i64 2, .int .i64 2] 3)).heap.size e w' [(1, 1, 1)] ∧ Below (y3.alloc (.cells #[.int .i64 0, .int .i64 0, .int .i64 0, .int .i64 1, .int .i64 2, .int .i64 2, .int .i64 2, .int .i64 2, .int .i64 2, .int .i64 2] 3)).heap.size (y3.alloc (.cells #[.int .i64 0, .int .i64 0, .int .i64 0, .int .i64 1, .int .i64 2, .int .i64 2, .int .i64 2, .int .i64 2, .int .i64 2, .int .i64 2] 3)) w') := by
    have := run_yes (him.below hba) (by decide) imX_may (ints_new y3 [0, 0, 0, 1, 2, 2, 2, 2, 2, 2] (by decide) (by decide) 3) (by decide) ((HT.out.below HB3.out).below hba)
    rw [imX_run2] at this
    exact this
  have HBC : Hid (Below w.heap.size w (y3.alloc (.cells #[.int .i64 0, .int .i64 0, .int .i64 0, .int .i64 1, .int .i64 2, .int .i64 2, .int .i64 2, .int .i64 2, .int .i64 2, .int .i64 2] 3))) := HB3.out.trans (hba.mono HB3.out.size)
  have HOC : Hid ((y3.alloc (.cells #[.int .i64 0, .int .i64 0, .int .i64 0, .int .i64 1, .int .i64 2, .int .i64 2, .int .i64 2, .int .i64 2, .int .i64 2, .int .i64 2] 3)).ownsRow w.heap.size 81 3 va 2 (([(0, 1, 0), (1, 1, 0)] : List T.Ev).flatMap eC)) := own_below HOA3.out hba
  clear hb3 him hba
  go_wp2_with fail
  refine HR3.out.mono ?_
  rintro e y4 ⟨⟨vb, rfl, hob⟩, hb4⟩
  have HB4 : Hid (Below w.heap.size w y4) := HBC.out.trans (hb4.mono HBC.out.size)
  have HOA4 : Hid (y4.ownsRow w.heap.size 81 3 va 2 (([(0, 1, 0), (1, 1, 0)] : List T.Ev).flatMap eC)) := own_below HOC.out hb4
  have HOB4 : Hid (y4.ownsRow w.heap.size 81 3 vb 1 (([(1, 1, 1)] : List T.Ev).flatMap eC)) := own_mono hob HBC.out.size
  have HRN : Hid (Calls Tryd.prog 23 #[.agg #[.string { data := #[] }, .slice none 0 0, .slice none 0 0], .slice none 0 0] y4 fun e w' => e = .returned (.tuple #[.slice none 0 0, .int .i64 1]) ∧ Below y4.heap.size y4 w') := run_no (noIm_v y4) (by decide) noIm_may
  clear hb4 hob
  go_wp2_with fail
  refine HRN.out.mono ?_
  rintro e y5 ⟨rfl, hb5⟩
  have HB5 : Hid (Below w.heap.size w y5) := HB4.out.trans (hb5.mono HB4.out.size)
  have HOA5 : Hid (y5.ownsRow w.heap.size 81 3 va 2 (([(0, 1, 0), (1, 1, 0)] : List T.Ev).flatMap eC)) := own_below HOA4.out hb5
  have HOB5 : Hid (y5.ownsRow w.heap.size 81 3 vb 1 (([(1, 1, 1)] : List T.Ev).flatMap eC)) := own_below HOB4.out hb5
  clear hb5
  have hba : Below y5.heap.size y5 (y5.alloc (.cells #[.int .i64 0, .int .i64 1, .int .i64 0, .int .i64 1, .int .i64 1, .int .i64 0] 81)) := bl_one _ _
  have HS1 : Hid (Calls Tryd.prog 21 #[va, .slice (some ⟨y5.heap.size, 0, none⟩) 2 2] (y5.alloc (.cells #[.int .i64 0, .int .i64 1, .int .i64 0, .int .i64 1, .int .i64 1, .int .i64 0] 81)) fun e w' => e = .returned (.bool true) ∧ Below (y5.alloc (.cells #[.int .i64 0, .int .i64 1, .int .i64 0, .int .i64 1, .int .i64 1, .int .i64 0] 81)).heap.size (y5.alloc (.cells #[.int .i64 0, .int .i64 1, .int .i64 0, .int .i64 1, .int .i64 1, .int .i64 0] 81)) w') :=
    sameE_any (es := [(0, 1, 0), (1, 1, 0)]) (own_below HOA5.out hba) (own_new y5 #[.int .i64 0, .int .i64 1, .int .i64 0, .int .i64 1, .int .i64 1, .int .i64 0] 81 2 3 rfl (by decide))
  have HBE : Hid (Below w.heap.size w (y5.alloc (.cells #[.int .i64 0, .int .i64 1, .int .i64 0, .int .i64 1, .int .i64 1, .int .i64 0] 81))) := HB5.out.trans (hba.mono HB5.out.size)
  have HOB6 : Hid ((y5.alloc (.cells #[.int .i64 0, .int .i64 1, .int .i64 0, .int .i64 1, .int .i64 1, .int .i64 0] 81)).ownsRow w.heap.size 81 3 vb 1 (([(1, 1, 1)] : List T.Ev).flatMap eC)) := own_below HOB5.out hba
  clear hba
  go_wp2_with fail
  refine HS1.out.mono ?_
  rintro e y6 ⟨rfl, hb6⟩
  have HB6 : Hid (Below w.heap.size w y6) := HBE.out.trans (hb6.mono HBE.out.size)
  have HOB7 : Hid (y6.ownsRow w.heap.size 81 3 vb 1 (([(1, 1, 1)] : List T.Ev).flatMap eC)) := own_below HOB6.out hb6
  have hba : Below y6.heap.size y6 (y6.alloc (.cells #[.int .i64 1, .int .i64 1, .int .i64 1] 81)) := bl_one _ _
  have HS2 : Hid (Calls Tryd.prog 21 #[vb, .slice (some ⟨y6.heap.size, 0, none⟩) 1 1] (y6.alloc (.cells #[.int .i64 1, .int .i64 1, .int .i64 1] 81)) fun e w' => e = .returned (.bool true) ∧ Below (y6.alloc (.cells #[.int .i64 1, .int .i64 1, .int .i64 1] 81)).heap.size (y6.alloc (.cells #[.int .i64 1, .int .i64 1, .int .i64 1] 81)) w') :=
    sameE_any (es := [(1, 1, 1)]) (own_below HOB7.out hba) (own_new y6 #[.int .i64 1, .int .i64 1, .int .i64 1] 81 1 3 rfl (by decide))
  have HBF : Hid (Below w.heap.size w (y6.alloc (.cells #[.int .i64 1, .int .i64 1, .int .i64 1] 81))) := HB6.out.trans (hba.mono HB6.out.size)
  clear hba hb6
  go_wp2_with fail
  refine HS2.out.mono ?_
  rintro e y7 ⟨rfl, hb7⟩
  have HB7 : Hid (Below w.heap.size w y7) := HBF.out.trans (hb7.mono HBF.out.size)
  clear hb7
  go_wp2
  go_ret
  exact ⟨rfl, HB7.out⟩

end Go.Proofs.YtneclfaamgfoeaaDoor

/- The arguments of layer 6's statements, opened: an object. (Written by gen_open.py.) -/
namespace Go.Proofs.YtneclfaamgfoeaaDoor
set_option maxRecDepth 100000
open Go.ChangeShapes Go.WideShapes Go.ChangeAt Go.RowKit Go.Joins

section
variable {H : Type} {enc : TypeId × Value → H} {w : World} {base : Nat} {spare : Nat → Bool} {held : Bool}

theorem cell_i64 : Tryd.prog.cellsOf 2 = 1 := by kernel_rfl
theorem cell_int : Tryd.prog.cellsOf 3 = 1 := by kernel_rfl
theorem cell_str : Tryd.prog.cellsOf 9 = 1 := by kernel_rfl
theorem open_I {fuel : Nat} {v : Value} {x : DataW H × List MemPlace} (hsp : ∀ b, spare b = true) (h : DataW.trod enc Tryd.prog w base spare held fuel 22 [v] = some x) : ∃ a l c zs, v = .slice a l c ∧ IntsV w a l c zs ∧ zs.length ≤ maxLen := by
  rcases open_ints Tryd.underlying22 Tryd.underlying2 cell_i64 h with ⟨hcs, -⟩ | ⟨a, l, c, zs, hcs, -, hl, hm, hz, -, hcell, hwz⟩
  · simp at hcs
    subst hcs
    exact ⟨none, 0, 0, [], rfl, ⟨rfl, by simp, fun _ => ⟨rfl, rfl⟩, ⟨Nat.le_refl _, Nat.zero_le _⟩, .inl rfl⟩, by decide⟩
  · simp at hcs
    subst hcs
    rw [hsp, if_pos rfl] at hz
    refine ⟨some a, l, c, zs.take l, rfl, ⟨by simp; omega, fun n hn => hwz n (List.mem_of_mem_take hn), fun e => (by cases e), ⟨by omega, by omega⟩, ?_⟩, by simp; omega⟩
    by_cases h0 : l = 0
    · exact .inl h0
    · obtain ⟨b, off, rfl, hc'⟩ := ints_at hcell (by omega)
      refine .inr ⟨b, off, rfl, fun i hi => ?_⟩
      rw [hc' i (by omega)]
      simp [List.getD, hi]

theorem open_N {fuel : Nat} {v : Value} {x : DataW H × List MemPlace} (hsp : ∀ b, spare b = true) (h : DataW.trod enc Tryd.prog w base spare held fuel 26 [v] = some x) : ∃ a l c zs, v = .slice a l c ∧ IntsV w a l c zs ∧ zs.length ≤ maxLen := by
  rcases open_ints Tryd.underlying26 Tryd.underlying3 cell_int h with ⟨hcs, -⟩ | ⟨a, l, c, zs, hcs, -, hl, hm, hz, -, hcell, hwz⟩
  · simp at hcs
    subst hcs
    exact ⟨none, 0, 0, [], rfl, ⟨rfl, by simp, fun _ => ⟨rfl, rfl⟩, ⟨Nat.le_refl _, Nat.zero_le _⟩, .inl rfl⟩, by decide⟩
  · simp at hcs
    subst hcs
    rw [hsp, if_pos rfl] at hz
    refine ⟨some a, l, c, zs.take l, rfl, ⟨by simp; omega, fun n hn => hwz n (List.mem_of_mem_take hn), fun e => (by cases e), ⟨by omega, by omega⟩, ?_⟩, by simp; omega⟩
    by_cases h0 : l = 0
    · exact .inl h0
    · obtain ⟨b, off, rfl, hc'⟩ := ints_at hcell (by omega)
      refine .inr ⟨b, off, rfl, fun i hi => ?_⟩
      rw [hc' i (by omega)]
      simp [List.getD, hi]

theorem cell_S : Tryd.prog.cellsOf 64 = 3 := by kernel_rfl
set_option maxRecDepth 100000 in
theorem trod_S {fuel : Nat} {cs : List Value} {x : DataW H × List MemPlace} (h : DataW.trod enc Tryd.prog w base spare held fuel 64 cs = some x) :
    ∃ r : Sym, cs = [.string r.name, .int .i64 r.kind, .int .i64 r.pos] ∧ (r.name.size ≤ maxLen ∧ (Lit.int .i64 r.kind).wf = true ∧ (Lit.int .i64 r.pos).wf = true) := by
  obtain ⟨y0, y1, y2, n, -, hl, h0, h1, h2⟩ := Deep.trod_struct3 Tryd.underlying64 h
  rw [cell_S] at hl
  match cs, hl with
  | [u0, u1, u2], _ =>
    simp only [cell_int, cell_str] at h0 h1 h2
    obtain ⟨z0, e0, -, w0⟩ := DataW.trod_string Tryd.underlying9 h0
    obtain ⟨z1, e1, -, w1⟩ := DataW.trod_int Tryd.underlying3 h1
    obtain ⟨z2, e2, -, w2⟩ := DataW.trod_int Tryd.underlying3 h2
    simp at e0 e1 e2
    subst e0 e1 e2
    exact ⟨⟨z0, z1, z2⟩, rfl, w0, w1, w2⟩
/-- A list, as it is read. -/
theorem open_S {fuel : Nat} {v : Value} {x : DataW H × List MemPlace} (hsp : ∀ b, spare b = true) (h : DataW.trod enc Tryd.prog w base spare held fuel 23 [v] = some x) :
    ∃ a len cap rs, v = .slice a len cap ∧ SymsV w a len cap rs ∧ rs.length ≤ maxLen := by
  rcases Deep.open_slice Tryd.underlying23 h with ⟨hcs, -⟩ | ⟨a, len, cap, m, n, D, Pl, hcs, -, hl, hm, hmm, -, hx⟩
  · simp at hcs
    subst hcs
    exact ⟨none, 0, 0, [], rfl, ⟨rfl, by simp, fun _ => ⟨rfl, rfl⟩, ⟨Nat.le_refl _, Nat.zero_le _⟩, .inl rfl⟩, by decide⟩
  · simp at hcs
    subst hcs
    rw [hsp, if_pos rfl] at hmm
    subst hmm
    have hel : ∀ i, i < len → ∃ (r : Sym), w.cells? base (a.add (i * 3)) 3 = some [.string r.name, .int .i64 r.kind, .int .i64 r.pos] ∧ (r.name.size ≤ maxLen ∧ (Lit.int .i64 r.kind).wf = true ∧ (Lit.int .i64 r.pos).wf = true) := by
      intro i hi
      obtain ⟨cs', h1, h2⟩ := hx i (by omega)
      rw [cell_S] at h1
      obtain ⟨r, rfl, hr⟩ := trod_S h2
      exact ⟨r, h1, hr⟩
    have hf : ∃ f : Nat → Sym, ∀ i, i < len → w.cells? base (a.add (i * 3)) 3 = some [.string (f i).name, .int .i64 (f i).kind, .int .i64 (f i).pos] ∧ ((f i).name.size ≤ maxLen ∧ (Lit.int .i64 (f i).kind).wf = true ∧ (Lit.int .i64 (f i).pos).wf = true) :=
      ⟨fun i => if h : i < len then Classical.choose (hel i h) else noSym, fun i hi => by
        have := Classical.choose_spec (hel i hi)
        simp only [dif_pos hi]
        exact this⟩
    obtain ⟨f, hf⟩ := hf
    have hget : ∀ i, i < len → ((List.range len).map f).getD i noSym = f i := fun i hi => by simp [List.getD, hi]
    refine ⟨some a, len, m, (List.range len).map f, rfl, ⟨by simp, ?_, fun e => (by cases e), ⟨by omega, by omega⟩, ?_⟩, by simp; omega⟩
    · intro r hr
      obtain ⟨i, hi, rfl⟩ := List.mem_map.1 hr
      exact (hf i (by simpa using hi)).2
    · by_cases h0 : len = 0
      · exact .inl h0
      · have c0 : ∀ i, i < len → ∀ j u, [.string (f i).name, .int .i64 (f i).kind, .int .i64 (f i).pos][j]? = some u → w.cell? ((a.add (i * 3)).add j) = some u := fun i hi j u hu => by
          obtain ⟨-, -, hx⟩ := World.cells?_some (hf i hi).1
          have hj : j < 3 := by have := (List.getElem?_eq_some_iff.1 hu).1; simpa using this
          rw [hx j hj]
          exact hu
        obtain ⟨b, off, spot⟩ := a
        have hspot : spot = none := by
          have := c0 0 (by omega) 0 _ rfl
          rw [Addr.add_add] at this
          simpa [Addr.add] using World.cell?_spot this
        subst hspot
        refine .inr ⟨b, off, rfl, fun i hi => ?_⟩
        rw [hget i hi]
        have k := c0 i hi
        simp only [Addr.add_lit] at k
        exact ⟨k 0 _ rfl, k 1 _ rfl, k 2 _ rfl⟩
set_option maxRecDepth 100000 in
theorem open_img {r : Reach} {b0 : Nat} {v : Value} {d : DataW H} {p : List MemPlace} (hsp : ∀ b, spare b = true) (hv : Value.okWide Tryd.prog w r b0 25 v) (h : DataW.Trod enc Tryd.prog w base spare held 25 v d p) :
    ∃ m, ImgV w v m := by
  obtain ⟨v0, v1, v2, y0, y1, y2, n, rfl, -, -, h0, h1, h2⟩ := open_agg3 Tryd.underlying25 (by kernel_rfl) (by kernel_rfl) hv h
  obtain ⟨s, e0, -, hs⟩ := DataW.trod_string Tryd.underlying9 h0
  obtain ⟨a1, l1, c1, z1, rfl, V1, k1⟩ := open_I hsp h1
  obtain ⟨a2, l2, c2, z2, rfl, V2, k2⟩ := open_S hsp h2
  simp at e0
  subst e0
  exact ⟨⟨s, z1, z2⟩, ⟨⟨_, _, _, _, _, _, rfl, hs, V1, V2⟩⟩⟩
end
/-- A block that holds these cells in the place of its own. -/
def setObj (cs : Array Value) : Obj → Obj
  | .cells _ t frozen => .cells cs t frozen
  | o => o
/-- A world for the witness: the settled one, the tables holding what their initialisers lay. -/
noncomputable def laidWorld (os : Os) : World :=
  { World.holding Tryd.prog os ⟨#[], #[], []⟩ with heap := ((World.holding Tryd.prog os ⟨#[], #[], []⟩).heap.modify 0 (setObj I.nums)).modify 1 (setObj I.forms) }

end Go.Proofs.YtneclfaamgfoeaaDoor

/- How long an image's words can be: the reach that the form gives. -/
namespace Go.Proofs.YtneclfaamgfoeaaDoor
set_option maxRecDepth 100000
open Go.ChangeShapes Go.WideShapes Go.ChangeAt Go.RowKit Go.Joins

theorem bytes32 : Tryd.prog.bytesOf 64 = 32 := by kernel_rfl
theorem bytes8 : Tryd.prog.bytesOf 2 = 8 := by kernel_rfl
section
variable {H : Type} {enc : TypeId × Value → H} {w : World} {base : Nat} {spare : Nat → Bool} {held : Bool}
theorem slice_weight {fuel : Nat} {t e : TypeId} (ht : Tryd.prog.underlying t = some (.slice e)) {a : Option Addr} {len cap : Nat} {x : DataW H × List MemPlace} {R : Nat} (h : DataW.trod enc Tryd.prog w base spare held fuel t [.slice a len cap] = some x) (hR : ∀ n ∈ x.1.weights Tryd.prog t, n ≤ R) : len * Tryd.prog.bytesOf e ≤ R := by
  rcases Deep.open_slice ht h with ⟨hcs, rfl⟩ | ⟨a', len', cap', m, n, D, Pl, hcs, -, -, -, -, rfl, -⟩
  · simp at hcs
    obtain ⟨-, rfl, -⟩ := hcs
    simp
  · simp at hcs
    obtain ⟨-, rfl, -⟩ := hcs
    have := hR ((((List.range len).map D).length + ((List.range (m - len)).map fun j => D (len + j)).length) * Tryd.prog.bytesOf e) (by simp [DataW.weights, ht])
    simp only [List.length_map, List.length_range] at this
    exact Nat.le_trans (Nat.mul_le_mul_right _ (Nat.le_add_right _ _)) this
theorem img_sized {r : Reach} {b0 : Nat} {v : Value} {d : DataW H} {p : List MemPlace} {R : Nat} (hv : Value.okWide Tryd.prog w r b0 25 v) (h : DataW.Trod enc Tryd.prog w base spare held 25 v d p) {m : ImgD} (V : ImgV w v m) (hR : ∀ n ∈ d.weights Tryd.prog 25, n ≤ R) :
    m.data.length * 8 ≤ R ∧ m.syms.length * 32 ≤ R := by
  obtain ⟨v0, v1, v2, y0, y1, y2, n, rfl, rfl, -, h0, h1, h2⟩ := open_agg3 Tryd.underlying25 (by kernel_rfl) (by kernel_rfl) hv h
  obtain ⟨a1, l1, c1, a2, l2, c2, e, -, V1, V2⟩ := V.form
  simp at e
  obtain ⟨rfl, rfl, rfl⟩ := e
  have n1 := V1.count
  have n2 := V2.count
  rw [n1, ← bytes8, n2, ← bytes32]
  refine ⟨slice_weight Tryd.underlying22 h1 (fun n hn => hR n ?_), slice_weight Tryd.underlying23 h2 (fun n hn => hR n ?_)⟩
  · simp only [DataW.weights, Tryd.underlying25]
    simp only [List.map_cons, List.map_nil, DataW.weightsEach, List.mem_append]
    exact Or.inr (Or.inl hn)
  · simp only [DataW.weights, Tryd.underlying25]
    simp only [List.map_cons, List.map_nil, DataW.weightsEach, List.mem_append]
    exact Or.inr (Or.inr (Or.inl hn))
end
end Go.Proofs.YtneclfaamgfoeaaDoor

/- The document's memory: the data, then all stacks. No walk. -/
namespace Go.Proofs.YtneclfaamgfoeaaDoor
open Go.RowKit
set_option linter.unusedVariables false

namespace T
def memoOf (D S : List Int) : Memo := fun x =>
  if x % 8 = 0 then
    (if 1048576 ≤ x ∧ x < 1048576 + 8 * (D.length : Int) then some (D.getD ((x - 1048576) / 8).toNat 0)
    else if 2097152 ≤ x ∧ x < 2097152 + 8 * (S.length : Int) then some (S.getD ((x - 2097152) / 8).toNat 0) else none)
  else none
theorem memoOf_new (D : List Int) (n : Nat) : mem0 D n = memoOf D (List.replicate (8192 * n) 0) := by
  funext x
  unfold mem0 memoOf
  rw [List.length_replicate]
  by_cases h8 : x % 8 = 0
  · rw [if_pos h8, if_pos h8]
    by_cases h1 : 1048576 ≤ x ∧ x < 1048576 + 8 * (D.length : Int)
    · rw [if_pos h1, if_pos h1]
    · rw [if_neg h1, if_neg h1]
      by_cases h2 : 2097152 ≤ x ∧ x < 2097152 + 65536 * (n : Int)
      · rw [if_pos h2, if_pos (by omega)]
        congr 1
        rw [List.getD_eq_getElem?_getD, List.getElem?_replicate]
        split <;> rfl
      · rw [if_neg h2, if_neg (by omega)]
  · rw [if_neg h8, if_neg h8]
theorem memoOf_D {D S : List Int} {i : Nat} (hi : i < D.length) : memoOf D S (1048576 + 8 * (i : Int)) = some (D.getD i 0) := by
  unfold memoOf
  rw [if_pos (by omega), if_pos (by omega), show ((1048576 + 8 * (i : Int) - 1048576) / 8).toNat = i by omega]
theorem memoOf_S {D S : List Int} {i : Nat} (hi : i < S.length) (hD : D.length ≤ 4096) : memoOf D S (2097152 + 8 * (i : Int)) = some (S.getD i 0) := by
  unfold memoOf
  rw [if_pos (by omega), if_neg (by omega), if_pos (by omega), show ((2097152 + 8 * (i : Int) - 2097152) / 8).toNat = i by omega]
theorem memoOf_no {D S : List Int} {a : Int} (h : ¬ a % 8 = 0 ∨ (¬ (1048576 ≤ a ∧ a < 1048576 + 8 * (D.length : Int)) ∧ ¬ (2097152 ≤ a ∧ a < 2097152 + 8 * (S.length : Int)))) : memoOf D S a = none := by
  unfold memoOf
  by_cases h8 : a % 8 = 0
  · rw [if_pos h8]
    rcases h with h | ⟨h1, h2⟩
    · exact absurd h8 h
    · rw [if_neg h1, if_neg h2]
  · rw [if_neg h8]
theorem memoOf_cases (D S : List Int) (a : Int) : (∃ i : Nat, i < D.length ∧ a = 1048576 + 8 * (i : Int)) ∨ (∃ i : Nat, i < S.length ∧ a = 2097152 + 8 * (i : Int)) ∨ (¬ a % 8 = 0 ∨ (¬ (1048576 ≤ a ∧ a < 1048576 + 8 * (D.length : Int)) ∧ ¬ (2097152 ≤ a ∧ a < 2097152 + 8 * (S.length : Int)))) := by
  by_cases h8 : a % 8 = 0
  · by_cases h1 : 1048576 ≤ a ∧ a < 1048576 + 8 * (D.length : Int)
    · exact .inl ⟨((a - 1048576) / 8).toNat, by omega, by omega⟩
    · by_cases h2 : 2097152 ≤ a ∧ a < 2097152 + 8 * (S.length : Int)
      · exact .inr (.inl ⟨((a - 2097152) / 8).toNat, by omega, by omega⟩)
      · exact .inr (.inr (.inr ⟨h1, h2⟩))
  · exact .inr (.inr (.inl h8))
theorem getD_set (l : List Int) (i j : Nat) (v : Int) (hi : i < l.length) : (l.set i v).getD j 0 = if i = j then v else l.getD j 0 := by
  rw [List.getD_eq_getElem?_getD, List.getElem?_set]
  by_cases e : i = j
  · rw [if_pos e, if_pos e, if_pos (by omega)]; rfl
  · rw [if_neg e, if_neg e, List.getD_eq_getElem?_getD]
theorem upd_D {D S : List Int} {i : Nat} (hi : i < D.length) (v : Int) : upd (memoOf D S) (1048576 + 8 * (i : Int)) v = memoOf (D.set i v) S := by
  funext y
  unfold upd
  rw [memoOf_D hi]
  by_cases e : y = 1048576 + 8 * (i : Int)
  · rw [if_pos e, if_pos (show (some (D.getD i 0)).isSome = true from rfl), e, memoOf_D (by simpa using hi), getD_set _ _ _ _ hi, if_pos rfl]
  · rw [if_neg e]
    unfold memoOf
    rw [List.length_set]
    by_cases h8 : y % 8 = 0
    · rw [if_pos h8, if_pos h8]
      by_cases h1 : 1048576 ≤ y ∧ y < 1048576 + 8 * (D.length : Int)
      · rw [if_pos h1, if_pos h1, getD_set _ _ _ _ hi, if_neg (by omega)]
      · rw [if_neg h1, if_neg h1]
    · rw [if_neg h8, if_neg h8]
theorem upd_S {D S : List Int} {i : Nat} (hi : i < S.length) (hD : D.length ≤ 4096) (v : Int) : upd (memoOf D S) (2097152 + 8 * (i : Int)) v = memoOf D (S.set i v) := by
  funext y
  unfold upd
  rw [memoOf_S hi hD]
  by_cases e : y = 2097152 + 8 * (i : Int)
  · rw [if_pos e, if_pos (show (some (S.getD i 0)).isSome = true from rfl), e, memoOf_S (by simpa using hi) hD, getD_set _ _ _ _ hi, if_pos rfl]
  · rw [if_neg e]
    unfold memoOf
    rw [List.length_set]
    by_cases h8 : y % 8 = 0
    · rw [if_pos h8, if_pos h8]
      by_cases h1 : 1048576 ≤ y ∧ y < 1048576 + 8 * (D.length : Int)
      · rw [if_pos h1, if_pos h1]
      · rw [if_neg h1, if_neg h1]
        by_cases h2 : 2097152 ≤ y ∧ y < 2097152 + 8 * (S.length : Int)
        · rw [if_pos h2, if_pos h2, getD_set _ _ _ _ hi, if_neg (by omega)]
        · rw [if_neg h2, if_neg h2]
    · rw [if_neg h8, if_neg h8]
theorem upd_nil {m : Memo} {a : Int} (h : m a = none) (v : Int) : upd m a v = m := by
  funext y
  unfold upd
  by_cases e : y = a
  · rw [if_pos e, h, e, h]; rfl
  · rw [if_neg e]

end T

theorem wf_bounds {x : Int} (h : (Lit.int .i64 x).wf = true) : -9223372036854775808 ≤ x ∧ x ≤ 9223372036854775807 := by
  have := h
  simp [Lit.wf, IntKind.min, IntKind.max, IntKind.signed, IntKind.bits] at this
  exact this

end Go.Proofs.YtneclfaamgfoeaaDoor

/- The document's machine, as it lies in memory. -/
namespace Go.Proofs.YtneclfaamgfoeaaDoor
open Go.RowKit Go.Maps
set_option linter.unusedVariables false
set_option linter.unusedSimpArgs false

def intR (l : List Int) : List Value := l.map (Value.int .i64)
theorem intR_len (l : List Int) : (intR l).length = l.length := by simp [intR]
theorem intR_at {l : List Int} {i : Nat} (h : i < l.length) : (intR l)[i]? = some (.int .i64 (l.getD i 0)) := by simp [intR, List.getD, h]
theorem intR_set (l : List Int) (i : Nat) (v : Int) : (intR l).set i (.int .i64 v) = intR (l.set i v) := by simp [intR, List.map_set]
def xC (h : T.Th) (u : Value) : List Value := [.int .i64 h.c.r0, .int .i64 h.c.r1, .int .i64 h.c.r2, .int .i64 h.c.r3, .int .i64 h.c.r4, .int .i64 h.c.r5, .int .i64 h.c.r6, .int .i64 h.c.r7, .int .i64 h.c.pc, .int .i64 h.c.st, .int .i64 h.c.tr, u]
theorem xC_len (h : T.Th) (u : Value) : (xC h u).length = 12 := rfl

/-- The document's machine. Marks: 1 the block, 2 the data, 3 the stacks, 4 the threads, 5 the events, 6 and on the stores that wait. -/
structure XV (B : Nat) (w : World) (b : Nat) (M : T.Mach) (t : Nat → Nat) (D S : List Int) (vd vs : Value) (g cap : Nat) (ev : Value) (us : List Value) : Prop where
  c0 : w.cell? ⟨b, 0, none⟩ = some (.string M.code)
  c1 : w.cell? ⟨b, 1, none⟩ = some vd
  c2 : w.cell? ⟨b, 2, none⟩ = some vs
  c3 : w.cell? ⟨b, 3, none⟩ = some (.slice (some ⟨g, 0, none⟩) M.ts.length cap)
  c4 : w.cell? ⟨b, 4, none⟩ = some ev
  fz : ∀ o, w.frozen? ⟨b, o, none⟩ = false
  tb : t b = 1
  room : M.ts.length ≤ cap ∧ cap ≤ maxLen ∧ 0 < M.ts.length ∧ M.ts.length ≤ 4
  mem : M.mem = T.memoOf D S
  dl : D.length ≤ 4096
  sl : S.length ≤ 32768
  dat : w.ownsRow B 2 1 vd D.length (intR D)
  td : ∀ x, vd.ownBlock = some x → t x = 2
  stk : w.ownsRow B 2 1 vs S.length (intR S)
  tst : ∀ x, vs.ownBlock = some x → t x = 3
  tg : t g = 4
  gz : ∀ o, w.frozen? ⟨g, o, none⟩ = false
  len : us.length = M.ts.length
  tc : ∀ (k : Nat) (h : T.Th) (u : Value), M.ts[k]? = some h → us[k]? = some u → ∀ (j : Nat) (x : Value), (xC h u)[j]? = some x → w.cell? ⟨g, k * 12 + j, none⟩ = some x
  ws : ∀ (k : Nat) (h : T.Th) (u : Value), M.ts[k]? = some h → us[k]? = some u → w.ownsRow B 52 2 u h.ws.length (h.ws.flatMap wC)
  tw : ∀ (k : Nat) (u : Value) (x : Nat), us[k]? = some u → u.ownBlock = some x → t x = 6 + k
  evs : w.ownsRow B 81 3 ev M.es.length (M.es.flatMap eC)
  te : ∀ x, ev.ownBlock = some x → t x = 5
  lt : ∀ k, t k ≠ 0 → B ≤ k ∧ k < w.heap.size

section
variable {B : Nat} {w w' : World} {b : Nat} {M : T.Mach} {t t' : Nat → Nat} {D S D' S' : List Int} {vd vs : Value} {g cap : Nat} {ev : Value} {us : List Value}
theorem XV.bl (h : XV B w b M t D S vd vs g cap ev us) : b < w.heap.size := World.block_lt_of_cell? w ⟨b, 0, none⟩ h.c0
theorem XV.gl (h : XV B w b M t D S vd vs g cap ev us) : g < w.heap.size := (h.lt g (by rw [h.tg]; decide)).2
theorem XV.hB (h : XV B w b M t D S vd vs g cap ev us) : B ≤ w.heap.size := by have := h.bl; have := (h.lt b (by rw [h.tb]; decide)).1; omega
/-- All marked blocks are as they were. -/
theorem XV.keep (h : XV B w b M t D S vd vs g cap ev us) (hb : ∀ k, k < w.heap.size → t k ≠ 0 → w'.heap[k]? = w.heap[k]?) (ht : ∀ k, k < w.heap.size → t k ≠ 0 → t' k = t k) (hlt : ∀ k, t' k ≠ 0 → B ≤ k ∧ k < w'.heap.size) : XV B w' b M t' D S vd vs g cap ev us := by
  have eb := hb b h.bl (by rw [h.tb]; decide)
  have eg := hb g h.gl (by rw [h.tg]; decide)
  refine { c0 := blk_cell eb h.c0, c1 := blk_cell eb h.c1, c2 := blk_cell eb h.c2, c3 := blk_cell eb h.c3, c4 := blk_cell eb h.c4, fz := fun o => blk_froz eb (h.fz o), tb := (ht b h.bl (by rw [h.tb]; decide)).trans h.tb, room := h.room, mem := h.mem, dl := h.dl, sl := h.sl, dat := row_cong h.dat (fun q hq => hb q (own_lt h.dat hq) (by rw [h.td q hq]; decide)), td := fun x h1 => (ht x (own_lt h.dat h1) (by rw [h.td x h1]; decide)).trans (h.td x h1), stk := row_cong h.stk (fun q hq => hb q (own_lt h.stk hq) (by rw [h.tst q hq]; decide)), tst := fun x h1 => (ht x (own_lt h.stk h1) (by rw [h.tst x h1]; decide)).trans (h.tst x h1), tg := (ht g h.gl (by rw [h.tg]; decide)).trans h.tg, gz := fun o => blk_froz eg (h.gz o), len := h.len, tc := fun k x u h1 h2 j v h3 => blk_cell eg (h.tc k x u h1 h2 j v h3), ws := fun k x u h1 h2 => row_cong (h.ws k x u h1 h2) (fun q hq => hb q (own_lt (h.ws k x u h1 h2) hq) (by rw [h.tw k u q h2 hq]; omega)), tw := fun k u x h1 h2 => ?_, evs := row_cong h.evs (fun q hq => hb q (own_lt h.evs hq) (by rw [h.te q hq]; decide)), te := fun x h1 => (ht x (own_lt h.evs h1) (by rw [h.te x h1]; decide)).trans (h.te x h1), lt := hlt }
  have hk : k < M.ts.length := by rw [← h.len]; exact (List.getElem?_eq_some_iff.1 h1).1
  exact (ht x (own_lt (h.ws k _ u (T.th_at hk) h1) h2) (by rw [h.tw k u x h1 h2]; omega)).trans (h.tw k u x h1 h2)
theorem XV.below (h : XV B w b M t D S vd vs g cap ev us) (hb : Below w.heap.size w w') : XV B w' b M t D S vd vs g cap ev us :=
  h.keep (fun k hk _ => hb.block k hk) (fun _ _ _ => rfl) (fun k hk => ⟨(h.lt k hk).1, Nat.lt_of_lt_of_le (h.lt k hk).2 hb.size⟩)
theorem XV.frame {p p' : Nat → Nat} (h : XV B w b M t D S vd vs g cap ev us) (hs : St p p' w w') (hd : ∀ k, t k ≠ 0 → p k = 0) : XV B w' b M t D S vd vs g cap ev us :=
  h.keep (fun k hk e => hs.block k hk (hd k e)) (fun _ _ _ => rfl) (fun k hk => ⟨(h.lt k hk).1, Nat.lt_of_lt_of_le (h.lt k hk).2 hs.size⟩)
/-- A word of memory is another one. -/
theorem XV.memop {m' : T.Memo} (h : XV B w b M t D S vd vs g cap ev us) (hb : ∀ q, q < w.heap.size → t q ≠ 2 → t q ≠ 3 → w'.heap[q]? = w.heap[q]?) (hs : w.heap.size ≤ w'.heap.size)
    (h1 : w'.ownsRow B 2 1 vd D'.length (intR D')) (h2 : w'.ownsRow B 2 1 vs S'.length (intR S')) (hl1 : D'.length ≤ 4096) (hl2 : S'.length ≤ 32768) (hm : m' = T.memoOf D' S') : XV B w' b { M with mem := m' } t D' S' vd vs g cap ev us := by
  have eb := hb b h.bl (by rw [h.tb]; decide) (by rw [h.tb]; decide)
  have eg := hb g h.gl (by rw [h.tg]; decide) (by rw [h.tg]; decide)
  exact { c0 := blk_cell eb h.c0, c1 := blk_cell eb h.c1, c2 := blk_cell eb h.c2, c3 := blk_cell eb h.c3, c4 := blk_cell eb h.c4, fz := fun o => blk_froz eb (h.fz o), tb := h.tb, room := h.room, mem := hm, dl := hl1, sl := hl2, dat := h1, td := h.td, stk := h2, tst := h.tst, tg := h.tg, gz := fun o => blk_froz eg (h.gz o), len := h.len, tc := fun k x u h1 h2 j v h3 => blk_cell eg (h.tc k x u h1 h2 j v h3), ws := fun k x u h1 h2 => row_cong (h.ws k x u h1 h2) (fun q hq => hb q (own_lt (h.ws k x u h1 h2) hq) (by rw [h.tw k u q h2 hq]; omega) (by rw [h.tw k u q h2 hq]; omega)), tw := h.tw, evs := row_cong h.evs (fun q hq => hb q (own_lt h.evs hq) (by rw [h.te q hq]; decide) (by rw [h.te q hq]; decide)), te := h.te, lt := fun k hk => ⟨(h.lt k hk).1, Nat.lt_of_lt_of_le (h.lt k hk).2 hs⟩ }
/-- A thread's cells were stored over. -/
theorem XV.thr {k : Nat} {h' : T.Th} {u' : Value} (h : XV B w b M t D S vd vs g cap ev us) (hk : k < M.ts.length)
    (hb : ∀ q, q < w.heap.size → t q ≠ 4 → t q ≠ 6 + k → w'.heap[q]? = w.heap[q]?) (hs : w.heap.size ≤ w'.heap.size)
    (hc : ∀ (j : Nat) (x : Value), (xC h' u')[j]? = some x → w'.cell? ⟨g, k * 12 + j, none⟩ = some x) (ho : ∀ o, o < k * 12 ∨ k * 12 + 12 ≤ o → w'.cell? ⟨g, o, none⟩ = w.cell? ⟨g, o, none⟩) (hz : ∀ o, w'.frozen? ⟨g, o, none⟩ = false)
    (hw : w'.ownsRow B 52 2 u' h'.ws.length (h'.ws.flatMap wC)) (hu : ∀ x, u'.ownBlock = some x → t' x = 6 + k)
    (ht : ∀ q, q < w.heap.size → t' q = t q) (hlt : ∀ q, t' q ≠ 0 → B ≤ q ∧ q < w'.heap.size) : XV B w' b (M.put k M.mem h') t' D S vd vs g cap ev (us.set k u') := by
  have eb := hb b h.bl (by rw [h.tb]; decide) (by rw [h.tb]; omega)
  have hkl : k < us.length := by rw [h.len]; exact hk
  have at' : ∀ i x, (M.ts.set k h')[i]? = some x → (i = k ∧ x = h') ∨ (i ≠ k ∧ M.ts[i]? = some x) := fun i x hx => by
    by_cases e : k = i
    · subst e
      rw [List.getElem?_set_self hk] at hx
      exact .inl ⟨rfl, by simpa using hx.symm⟩
    · rw [List.getElem?_set_ne e] at hx
      exact .inr ⟨fun q => e q.symm, hx⟩
  have au : ∀ i x, (us.set k u')[i]? = some x → (i = k ∧ x = u') ∨ (i ≠ k ∧ us[i]? = some x) := fun i x hx => by
    by_cases e : k = i
    · subst e
      rw [List.getElem?_set_self hkl] at hx
      exact .inl ⟨rfl, by simpa using hx.symm⟩
    · rw [List.getElem?_set_ne e] at hx
      exact .inr ⟨fun q => e q.symm, hx⟩
  have hrow : ∀ {ty : TypeId} {m n : Nat} {v : Value} {cs : List Value} (c : Nat), w.ownsRow B ty m v n cs → (∀ x, v.ownBlock = some x → t x = c) → c ≠ 4 → c ≠ 6 + k → w'.ownsRow B ty m v n cs := fun c o m1 n1 n2 => row_cong o (fun q hq => hb q (own_lt o hq) (by rw [m1 q hq]; exact n1) (by rw [m1 q hq]; exact n2))
  refine { c0 := blk_cell eb h.c0, c1 := blk_cell eb h.c1, c2 := blk_cell eb h.c2, c3 := ?_, c4 := blk_cell eb h.c4, fz := fun o => blk_froz eb (h.fz o), tb := (ht b h.bl).trans h.tb, room := by rw [T.len_put]; exact h.room, mem := h.mem, dl := h.dl, sl := h.sl, dat := hrow 2 h.dat h.td (by decide) (by omega), td := fun x h1 => (ht x (own_lt h.dat h1)).trans (h.td x h1), stk := hrow 3 h.stk h.tst (by decide) (by omega), tst := fun x h1 => (ht x (own_lt h.stk h1)).trans (h.tst x h1), tg := (ht g h.gl).trans h.tg, gz := hz, len := by rw [T.len_put, List.length_set]; exact h.len, tc := fun i x u h1 h2 j v h3 => ?_, ws := fun i x u h1 h2 => ?_, tw := fun i u x h1 h2 => ?_, evs := hrow 5 h.evs h.te (by decide) (by omega), te := fun x h1 => (ht x (own_lt h.evs h1)).trans (h.te x h1), lt := hlt }
  · rw [T.len_put]; exact blk_cell eb h.c3
  · rcases at' i x h1 with ⟨rfl, rfl⟩ | ⟨hne, h1'⟩
    · rcases au i u h2 with ⟨-, rfl⟩ | ⟨hne, h2'⟩
      · exact hc j v h3
      · exact absurd rfl hne
    · rcases au i u h2 with ⟨rfl, rfl⟩ | ⟨hne, h2'⟩
      · exact absurd rfl hne
      · have hj : j < 12 := (List.getElem?_eq_some_iff.1 h3).1
        rw [ho _ (by omega)]
        exact h.tc i x u h1' h2' j v h3
  · rcases at' i x h1 with ⟨rfl, rfl⟩ | ⟨hne, h1'⟩
    · rcases au i u h2 with ⟨-, rfl⟩ | ⟨hne, h2'⟩
      · exact hw
      · exact absurd rfl hne
    · rcases au i u h2 with ⟨rfl, rfl⟩ | ⟨hne, h2'⟩
      · exact absurd rfl hne
      · exact hrow (6 + i) (h.ws i x u h1' h2') (fun q hq => h.tw i u q h2' hq) (by omega) (by omega)
  · rcases au i u h1 with ⟨rfl, rfl⟩ | ⟨hne, h1'⟩
    · exact hu x h2
    · have hil : i < M.ts.length := by rw [← h.len]; exact (List.getElem?_eq_some_iff.1 h1').1
      exact (ht x (own_lt (h.ws i _ u (T.th_at hil) h1') h2)).trans (h.tw i u x h1' h2)
/-- An event more. -/
theorem XV.event {k : Nat} {a n : Int} {ev' : Value} (h : XV B w b M t D S vd vs g cap ev us)
    (hb : ∀ q, q < w.heap.size → t q ≠ 1 → t q ≠ 5 → w'.heap[q]? = w.heap[q]?) (hs : w.heap.size ≤ w'.heap.size)
    (h4 : w'.cell? ⟨b, 4, none⟩ = some ev') (ho : ∀ o, o ≠ 4 → w'.cell? ⟨b, o, none⟩ = w.cell? ⟨b, o, none⟩) (hz : ∀ o, w'.frozen? ⟨b, o, none⟩ = false)
    (hw : w'.ownsRow B 81 3 ev' (M.es.length + 1) (M.es.flatMap eC ++ eC ((k : Int), a, n))) (hu : ∀ x, ev'.ownBlock = some x → t' x = 5)
    (ht : ∀ q, q < w.heap.size → t' q = t q) (hlt : ∀ q, t' q ≠ 0 → B ≤ q ∧ q < w'.heap.size) : XV B w' b (M.see k a n) t' D S vd vs g cap ev' us := by
  have eg := hb g h.gl (by rw [h.tg]; decide) (by rw [h.tg]; decide)
  have hrow : ∀ {ty : TypeId} {m n : Nat} {v : Value} {cs : List Value} (c : Nat), w.ownsRow B ty m v n cs → (∀ x, v.ownBlock = some x → t x = c) → c ≠ 1 → c ≠ 5 → w'.ownsRow B ty m v n cs := fun c o m1 n1 n2 => row_cong o (fun q hq => hb q (own_lt o hq) (by rw [m1 q hq]; exact n1) (by rw [m1 q hq]; exact n2))
  refine { c0 := (ho 0 (by decide)).trans h.c0, c1 := (ho 1 (by decide)).trans h.c1, c2 := (ho 2 (by decide)).trans h.c2, c3 := (ho 3 (by decide)).trans h.c3, c4 := h4, fz := hz, tb := (ht b h.bl).trans h.tb, room := h.room, mem := h.mem, dl := h.dl, sl := h.sl, dat := hrow 2 h.dat h.td (by decide) (by decide), td := fun x h1 => (ht x (own_lt h.dat h1)).trans (h.td x h1), stk := hrow 3 h.stk h.tst (by decide) (by decide), tst := fun x h1 => (ht x (own_lt h.stk h1)).trans (h.tst x h1), tg := (ht g h.gl).trans h.tg, gz := fun o => blk_froz eg (h.gz o), len := h.len, tc := fun i x u h1 h2 j v h3 => blk_cell eg (h.tc i x u h1 h2 j v h3), ws := fun i x u h1 h2 => hrow (6 + i) (h.ws i x u h1 h2) (fun q hq => h.tw i u q h2 hq) (by omega) (by omega), tw := fun i u x h1 h2 => ?_, evs := ?_, te := hu, lt := hlt }
  · have hil : i < M.ts.length := by rw [← h.len]; exact (List.getElem?_eq_some_iff.1 h1).1
    exact (ht x (own_lt (h.ws i _ u (T.th_at hil) h1) h2)).trans (h.tw i u x h1 h2)
  · show w'.ownsRow B _ 3 ev' (M.es ++ [((k : Int), a, n)]).length ((M.es ++ [((k : Int), a, n)]).flatMap eC)
    rw [List.length_append, List.flatMap_append]
    simpa using hw
theorem XV.u {k : Nat} (h : XV B w b M t D S vd vs g cap ev us) (hk : k < M.ts.length) : ∃ u, us[k]? = some u := ⟨_, List.getElem?_eq_getElem (by rw [h.len]; exact hk)⟩
theorem XV.cell {k : Nat} {u : Value} (h : XV B w b M t D S vd vs g cap ev us) (hk : k < M.ts.length) (hu : us[k]? = some u) (j : Nat) (x : Value) (hj : (xC (M.th k) u)[j]? = some x) : w.cell? ⟨g, k * 12 + j, none⟩ = some x := h.tc k _ u (T.th_at hk) hu j x hj
end

/-- A word of the data, of the stacks, is stored over. -/
theorem XV.setD {B : Nat} {w : World} {b : Nat} {M : T.Mach} {t : Nat → Nat} {D S : List Int} {vd vs : Value} {g cap : Nat} {ev : Value} {us : List Value} (h : XV B w b M t D S vd vs g cap ev us) {x i n c : Nat} (hv : vd = .slice (some ⟨x, 0, none⟩) n c) (hi : i < D.length) (v : Int) :
    XV B (w.setCell ⟨x, i, none⟩ (.int .i64 v)) b { M with mem := T.upd M.mem (1048576 + 8 * (i : Int)) v } t (D.set i v) S vd vs g cap ev us ∧ St t t w (w.setCell ⟨x, i, none⟩ (.int .i64 v)) := by
  have hd := h.dat
  have hx := h.td
  have hn : n = D.length := by obtain ⟨a', c', e, -⟩ := own_sl hd; rw [hv] at e; cases e; rfl
  subst hn
  rw [hv] at hd hx
  have htx : t x = 2 := hx x rfl
  obtain ⟨s1, s2⟩ := hd.stored i (.int .i64 v)
  rw [intR_set] at s1
  have hb : ∀ q, q < w.heap.size → t q ≠ 2 → (w.setCell ⟨x, i, none⟩ (.int .i64 v)).heap[q]? = w.heap[q]? := fun q hq h2 => s2.block q hq (fun e => h2 (by cases e; exact htx))
  refine ⟨h.memop (fun q hq h2 _ => hb q hq h2) s2.size ?_ ?_ (by rw [List.length_set]; exact h.dl) h.sl (by rw [h.mem]; exact T.upd_D hi v), ⟨fun _ _ => rfl, fun q hq h0 => hb q hq (by rw [h0]; decide), s2.size, s2.os, s2.tape, s2.output⟩⟩
  · rw [hv, List.length_set]; exact s1
  · exact h.stk.kept s2 (.inr fun e => by have := h.tst x e; omega)
theorem XV.setS {B : Nat} {w : World} {b : Nat} {M : T.Mach} {t : Nat → Nat} {D S : List Int} {vd vs : Value} {g cap : Nat} {ev : Value} {us : List Value} (h : XV B w b M t D S vd vs g cap ev us) {x i n c : Nat} (hv : vs = .slice (some ⟨x, 0, none⟩) n c) (hi : i < S.length) (v : Int) :
    XV B (w.setCell ⟨x, i, none⟩ (.int .i64 v)) b { M with mem := T.upd M.mem (2097152 + 8 * (i : Int)) v } t D (S.set i v) vd vs g cap ev us ∧ St t t w (w.setCell ⟨x, i, none⟩ (.int .i64 v)) := by
  have hd := h.stk
  have hx := h.tst
  have hn : n = S.length := by obtain ⟨a', c', e, -⟩ := own_sl hd; rw [hv] at e; cases e; rfl
  subst hn
  rw [hv] at hd hx
  have htx : t x = 3 := hx x rfl
  obtain ⟨s1, s2⟩ := hd.stored i (.int .i64 v)
  rw [intR_set] at s1
  have hb : ∀ q, q < w.heap.size → t q ≠ 3 → (w.setCell ⟨x, i, none⟩ (.int .i64 v)).heap[q]? = w.heap[q]? := fun q hq h2 => s2.block q hq (fun e => h2 (by cases e; exact htx))
  refine ⟨h.memop (fun q hq _ h2 => hb q hq h2) s2.size ?_ ?_ h.dl (by rw [List.length_set]; exact h.sl) (by rw [h.mem]; exact T.upd_S hi h.dl v), ⟨fun _ _ => rfl, fun q hq h0 => hb q hq (by rw [h0]; decide), s2.size, s2.os, s2.tape, s2.output⟩⟩
  · exact h.dat.kept s2 (.inr fun e => by have := h.td x e; omega)
  · rw [hv, List.length_set]; exact s1

end Go.Proofs.YtneclfaamgfoeaaDoor

/- The document's machine: a word of its memory. -/
namespace Go.Proofs.YtneclfaamgfoeaaDoor
open Go.RowKit Go.Maps
set_option linter.unusedVariables false
set_option linter.unusedSimpArgs false

section
variable {B : Nat} {w : World} {b : Nat} {M : T.Mach} {t : Nat → Nat} {D Sk : List Int} {vd vs : Value} {g cap : Nat} {ev : Value} {us : List Value}

set_option maxRecDepth 100000 in
set_option maxHeartbeats 4000000 in
theorem place_D (h : XV B w b M t D Sk vd vs g cap ev us) {i : Nat} (hi : i < D.length) {a : Int} (ha : a = 1048576 + 8 * (i : Int)) :
    Calls Tryd.prog 38 #[.pointer (some ⟨b, 0, none⟩), .int .i64 a] w fun e w' => e = .returned (.tuple #[vd, .int .i64 i, .bool true]) ∧ w' = w := by
  have c1 := h.c1
  obtain ⟨ad, cd, hv, -⟩ := own_sl h.dat
  have hd := h.dl
  subst hv
  obtain ⟨n, hn⟩ : ∃ n, D.length = n := ⟨_, rfl⟩
  rw [hn] at c1 hi hd ⊢
  have h0 : (0 : Int) ≤ a := by omega
  have h8 : a % 8 = 0 := by omega
  have h1 : 1048576 ≤ a := by omega
  have h2 : a ≤ 1081344 := by omega
  have e4 : (a - 1048576) / 8 = (i : Int) := by omega
  have e3 : (a - 1048576).tdiv 8 = (i : Int) := by rw [Int.tdiv_eq_ediv_of_nonneg (by omega)]; omega
  have e5 : a - 1048576 < 8 * (n : Int) := by omega
  clear h hn ha
  go_enter Tryd.func38, Tryd.ntmps38
  go_wp2
  go_ret3
  exact ⟨rfl, rfl⟩

set_option maxRecDepth 100000 in
set_option maxHeartbeats 4000000 in
theorem place_S (h : XV B w b M t D Sk vd vs g cap ev us) {i : Nat} (hi : i < Sk.length) {a : Int} (ha : a = 2097152 + 8 * (i : Int)) :
    Calls Tryd.prog 38 #[.pointer (some ⟨b, 0, none⟩), .int .i64 a] w fun e w' => e = .returned (.tuple #[vs, .int .i64 i, .bool true]) ∧ w' = w := by
  have c1 := h.c1
  have c2 := h.c2
  obtain ⟨ad, cd, hv, -⟩ := own_sl h.dat
  obtain ⟨a2, c2', hv2, -⟩ := own_sl h.stk
  have hd := h.dl
  have hd2 := h.sl
  subst hv
  subst hv2
  obtain ⟨n, hn⟩ : ∃ n, D.length = n := ⟨_, rfl⟩
  obtain ⟨m, hm⟩ : ∃ m, Sk.length = m := ⟨_, rfl⟩
  rw [hn] at c1 hd
  rw [hm] at c2 hi hd2 ⊢
  have h0 : (0 : Int) ≤ a := by omega
  have h8 : a % 8 = 0 := by omega
  have h1 : 1048576 ≤ a := by omega
  have h1' : 2097152 ≤ a := by omega
  have h2 : a ≤ 2359296 := by omega
  have e4 : (a - 2097152) / 8 = (i : Int) := by omega
  have e3 : (a - 2097152).tdiv 8 = (i : Int) := by rw [Int.tdiv_eq_ediv_of_nonneg (by omega)]; omega
  have e5 : ¬ a - 1048576 < 8 * (n : Int) := by omega
  have e6 : a - 2097152 < 8 * (m : Int) := by omega
  clear h hn hm ha
  go_enter Tryd.func38, Tryd.ntmps38
  go_wp2
  go_ret3
  exact ⟨rfl, rfl⟩

set_option maxRecDepth 100000 in
set_option maxHeartbeats 4000000 in
theorem place_no (h : XV B w b M t D Sk vd vs g cap ev us) {a : Int} (haw : (Lit.int .i64 a).wf = true) (hno : ¬ a % 8 = 0 ∨ (¬ (1048576 ≤ a ∧ a < 1048576 + 8 * (D.length : Int)) ∧ ¬ (2097152 ≤ a ∧ a < 2097152 + 8 * (Sk.length : Int)))) :
    Calls Tryd.prog 38 #[.pointer (some ⟨b, 0, none⟩), .int .i64 a] w fun e w' => e = .returned (.tuple #[.slice none 0 0, .int .i64 0, .bool false]) ∧ w' = w := by
  have c1 := h.c1
  have c2 := h.c2
  obtain ⟨ad, cd, hv, -⟩ := own_sl h.dat
  obtain ⟨a2, c2', hv2, -⟩ := own_sl h.stk
  have hd := h.dl
  have hd2 := h.sl
  subst hv
  subst hv2
  obtain ⟨n, hn⟩ : ∃ n, D.length = n := ⟨_, rfl⟩
  obtain ⟨m, hm⟩ : ∃ m, Sk.length = m := ⟨_, rfl⟩
  rw [hn] at c1 hd hno
  rw [hm] at c2 hd2 hno
  obtain ⟨hlo, hhi⟩ := wf_bounds haw
  clear h hn hm
  by_cases h0 : a < 0
  · clear hno
    go_enter Tryd.func38, Tryd.ntmps38
    go_wp2
    go_ret3
    exact ⟨rfl, rfl⟩
  have h0' : (0 : Int) ≤ a := by omega
  by_cases h8 : a % 8 = 0
  · have hno2 : ¬ (1048576 ≤ a ∧ a < 1048576 + 8 * (n : Int)) ∧ ¬ (2097152 ≤ a ∧ a < 2097152 + 8 * (m : Int)) := by omega
    clear hno
    by_cases h1 : a < 1048576
    · have h2 : a < 2097152 := by omega
      clear hno2
      go_enter Tryd.func38, Tryd.ntmps38
      go_wp2
      go_ret3
      exact ⟨rfl, rfl⟩
    · have h1' : 1048576 ≤ a := by omega
      have e5 : ¬ a - 1048576 < 8 * (n : Int) := by omega
      by_cases h2 : a < 2097152
      · clear hno2
        go_enter Tryd.func38, Tryd.ntmps38
        go_wp2
        go_ret3
        exact ⟨rfl, rfl⟩
      · have h2' : 2097152 ≤ a := by omega
        have e6 : ¬ a - 2097152 < 8 * (m : Int) := by omega
        clear hno2
        go_enter Tryd.func38, Tryd.ntmps38
        go_wp2
        go_ret3
        exact ⟨rfl, rfl⟩
  · clear hno
    go_enter Tryd.func38, Tryd.ntmps38
    go_wp2
    go_ret3
    exact ⟨rfl, rfl⟩

/-- A word of a row. -/
theorem row_word {w : World} {B n : Nat} {v : Value} {l : List Int} (o : w.ownsRow B 2 1 v n (intR l)) (hn : n = l.length) {i : Nat} (hi : i < n) : ∃ x c, v = .slice (some ⟨x, 0, none⟩) n c ∧ n ≤ c ∧ c ≤ maxLen ∧ w.cell? ⟨x, i, none⟩ = some (.int .i64 (l.getD i 0)) ∧ w.frozen? ⟨x, i, none⟩ = false := by
  rcases o.2 with ⟨-, h0⟩ | ⟨x, c, cur, rfl, h1, h2, h3, h4, -⟩
  · omega
  · refine ⟨x, c, rfl, h3, h4, ?_, o.frozenAt i⟩
    rw [o.cellAt i (by omega)]
    exact intR_at (by omega)

set_option maxRecDepth 100000 in
set_option maxHeartbeats 4000000 in
theorem xword_any (h : XV B w b M t D Sk vd vs g cap ev us) {a : Int} (haw : (Lit.int .i64 a).wf = true) :
    Calls Tryd.prog 19 #[.pointer (some ⟨b, 0, none⟩), .int .i64 a] w fun e w' => e = .returned (.tuple #[.int .i64 ((M.mem a).getD 0), .int .i64 (T.er (M.mem a))]) ∧ w' = w := by
  rcases T.memoOf_cases D Sk a with ⟨i, hi, ha⟩ | ⟨i, hi, ha⟩ | hno
  · have hm : M.mem a = some (D.getD i 0) := by rw [h.mem, ha]; exact T.memoOf_D hi
    rw [hm]
    have HP : Hid _ := place_D h hi ha
    obtain ⟨x, c, rfl, hc1, hc2, d0, -⟩ := row_word h.dat rfl hi
    unfold maxLen at hc2
    have hdl := h.dl
    obtain ⟨n, hn⟩ : ∃ n, D.length = n := ⟨_, rfl⟩
    rw [hn] at hi hc1 HP hdl
    obtain ⟨z, hz⟩ : ∃ z, D.getD i 0 = z := ⟨_, rfl⟩
    rw [hz] at d0 ⊢
    have i1 : (i : Int) < (n : Int) := by omega
    have i0 : (0 : Int) ≤ (i : Int) := by omega
    clear h hm hn hz ha haw
    go_enter Tryd.func19, Tryd.ntmps19
    go_wp2_with fail
    refine Calls.mono HP.out ?_
    rintro e y ⟨rfl, rfl⟩
    go_wp2
    go_ret2
    exact ⟨rfl, rfl⟩
  · have hm : M.mem a = some (Sk.getD i 0) := by rw [h.mem, ha]; exact T.memoOf_S hi h.dl
    rw [hm]
    have HP : Hid _ := place_S h hi ha
    obtain ⟨x, c, rfl, hc1, hc2, d0, -⟩ := row_word h.stk rfl hi
    unfold maxLen at hc2
    have hdl := h.sl
    obtain ⟨n, hn⟩ : ∃ n, Sk.length = n := ⟨_, rfl⟩
    rw [hn] at hi hc1 HP hdl
    obtain ⟨z, hz⟩ : ∃ z, Sk.getD i 0 = z := ⟨_, rfl⟩
    rw [hz] at d0 ⊢
    have i1 : (i : Int) < (n : Int) := by omega
    have i0 : (0 : Int) ≤ (i : Int) := by omega
    clear h hm hn hz ha haw
    go_enter Tryd.func19, Tryd.ntmps19
    go_wp2_with fail
    refine Calls.mono HP.out ?_
    rintro e y ⟨rfl, rfl⟩
    go_wp2
    go_ret2
    exact ⟨rfl, rfl⟩
  · have hm : M.mem a = none := by rw [h.mem]; exact T.memoOf_no hno
    rw [hm]
    have HP : Hid _ := place_no h haw hno
    clear h hm hno haw
    go_enter Tryd.func19, Tryd.ntmps19
    go_wp2_with fail
    refine Calls.mono HP.out ?_
    rintro e y ⟨rfl, rfl⟩
    go_wp2
    go_ret2
    exact ⟨rfl, rfl⟩

/-- The document's machine has become this one. -/
def XGone (B : Nat) (w w' : World) (b : Nat) (M : T.Mach) (t : Nat → Nat) (vd vs : Value) (g cap : Nat) : Prop := ∃ t' D' S' ev' us', XV B w' b M t' D' S' vd vs g cap ev' us' ∧ St t t' w w'

set_option maxRecDepth 100000 in
set_option maxHeartbeats 4000000 in
theorem xset_any (h : XV B w b M t D Sk vd vs g cap ev us) {a : Int} (haw : (Lit.int .i64 a).wf = true) (v : Int) :
    Calls Tryd.prog 48 #[.pointer (some ⟨b, 0, none⟩), .int .i64 a, .int .i64 v] w fun e w' => e = .returned (.tuple #[]) ∧ ∃ D' S', XV B w' b { M with mem := T.upd M.mem a v } t D' S' vd vs g cap ev us ∧ St t t w w' := by
  rcases T.memoOf_cases D Sk a with ⟨i, hi, ha⟩ | ⟨i, hi, ha⟩ | hno
  · have HP : Hid _ := place_D h hi ha
    obtain ⟨x, c, hvd, hc1, hc2, d0, f0⟩ := row_word h.dat rfl hi
    have HX : Hid _ := h.setD hvd hi v
    rw [← ha] at HX
    subst hvd
    unfold maxLen at hc2
    have hdl := h.dl
    obtain ⟨n, hn⟩ : ∃ n, D.length = n := ⟨_, rfl⟩
    rw [hn] at hi hc1 HP hdl HX
    have i1 : (i : Int) < (n : Int) := by omega
    have i0 : (0 : Int) ≤ (i : Int) := by omega
    rw [hn]
    clear h hn ha haw
    go_enter Tryd.func48, Tryd.ntmps48
    go_wp2_with fail
    refine Calls.mono HP.out ?_
    rintro e y ⟨rfl, rfl⟩
    go_wp2
    go_end0
    exact ⟨rfl, _, _, HX.out.1, HX.out.2⟩
  · have HP : Hid _ := place_S h hi ha
    obtain ⟨x, c, hvd, hc1, hc2, d0, f0⟩ := row_word h.stk rfl hi
    have HX : Hid _ := h.setS hvd hi v
    rw [← ha] at HX
    subst hvd
    unfold maxLen at hc2
    have hdl := h.sl
    obtain ⟨n, hn⟩ : ∃ n, Sk.length = n := ⟨_, rfl⟩
    rw [hn] at hi hc1 HP hdl HX
    have i1 : (i : Int) < (n : Int) := by omega
    have i0 : (0 : Int) ≤ (i : Int) := by omega
    rw [hn]
    clear h hn ha haw
    go_enter Tryd.func48, Tryd.ntmps48
    go_wp2_with fail
    refine Calls.mono HP.out ?_
    rintro e y ⟨rfl, rfl⟩
    go_wp2
    go_end0
    exact ⟨rfl, _, _, HX.out.1, HX.out.2⟩
  · have hm : M.mem a = none := by rw [h.mem]; exact T.memoOf_no hno
    have HP : Hid _ := place_no h haw hno
    have HX : Hid (XV B w b { M with mem := T.upd M.mem a v } t D Sk vd vs g cap ev us) := by
      show XV _ _ _ _ _ _ _ _ _ _ _ _ _
      rw [T.upd_nil hm]
      exact h
    clear h hm hno haw
    go_enter Tryd.func48, Tryd.ntmps48
    go_wp2_with fail
    refine Calls.mono HP.out ?_
    rintro e y ⟨rfl, rfl⟩
    go_wp2
    go_end0
    exact ⟨rfl, _, _, HX.out, St.refl _ _⟩

end

end Go.Proofs.YtneclfaamgfoeaaDoor

/- The document's machine: a thread's registers, a row that waits, an event. (Written by gen_xregs.py.) -/
namespace Go.Proofs.YtneclfaamgfoeaaDoor
open Go.RowKit Go.Maps
set_option linter.unusedVariables false
set_option linter.unusedSimpArgs false

theorem tA {l : List Oper} {i : Nat} {y : Oper} (h : l[i]? = some y) : (List.toArray l)[i]? = some y := by simpa using h
/-- An operation that yields the same in every world that meets S is taken first. -/
theorem tk {P : Program} {ops : Array Oper} {Q : Exit → Act → World → Prop} {md : Region.Mode} {S : World → Prop} {i : Nat} {oi : Oper} {v : Value} {fuel : Nat} {listed : Array Bool} {a : Act} {w : World} (hi : ops[i]? = some oi) (hb : (Region.noSelect ops && (Region.free md ops listed i && (Region.ready md ops listed).contains i)) = true)
    (hQ : ∀ c a w, Q (.panic c) (a.put oi.dst v) w → Q (.panic c) a w) (hy : YieldsIf P ops S oi v a) (hS : S w) (h : wpAnyH P md ops Q S fuel (listed.setIfInBounds i true) (a.put oi.dst v) w) : wpAnyH P md ops Q S (fuel + 1) listed a w :=
  wpAnyH_take hi (Bool.and_eq_true_iff.1 hb).1 (Bool.and_eq_true_iff.1 (Bool.and_eq_true_iff.1 hb).2).1 (Bool.and_eq_true_iff.1 (Bool.and_eq_true_iff.1 hb).2).2 hQ hy hS h
section
variable {B : Nat} {w w' : World} {b : Nat} {M : T.Mach} {t t' : Nat → Nat} {D Sk : List Int} {vd vs : Value} {g cap : Nat} {ev : Value} {us : List Value}
/-- One of a thread's registers was stored over. -/
theorem XV.reg {k : Nat} {u : Value} {h' : T.Th} (h : XV B w b M t D Sk vd vs g cap ev us) (hk : k < M.ts.length) (hu : us[k]? = some u) (j : Nat) (v : Value) (hj : j < 12) (hw : h'.ws = (M.th k).ws) (hc : xC h' u = (xC (M.th k) u).set j v) :
    XV B (w.setCell ⟨g, k * 12 + j, none⟩ v) b (M.put k M.mem h') t D Sk vd vs g cap ev us ∧ St t t w (w.setCell ⟨g, k * 12 + j, none⟩ v) := by
  have hg := gb_set w ⟨g, k * 12 + j, none⟩ v
  have hne : ∀ q, q < w.heap.size → t q ≠ 4 → (w.setCell ⟨g, k * 12 + j, none⟩ v).heap[q]? = w.heap[q]? := fun q hq h3 => hg.block q hq (fun e => h3 (by cases e; exact h.tg))
  have H := h.thr (w' := w.setCell ⟨g, k * 12 + j, none⟩ v) (t' := t) (h' := h') (u' := u) hk (fun q hq h3 _ => hne q hq h3) hg.size ?_ ?_ ?_ ?_ (fun x hx => h.tw k u x hu hx) (fun _ _ => rfl) (fun q hq => ⟨(h.lt q hq).1, by rw [World.size_setCell]; exact (h.lt q hq).2⟩)
  · rw [set_same hu] at H
    exact ⟨H, St.ofGrown hg (by show t g ≠ 0; rw [h.tg]; decide) (fun _ _ => rfl)⟩
  · intro i x hx
    rw [hc] at hx
    by_cases e : j = i
    · subst e
      rw [List.getElem?_set_self (by rw [xC_len]; exact hj)] at hx
      cases hx
      refine World.cell?_setCell_same' _ _ _ ?_
      obtain ⟨y, hy⟩ : ∃ y, (xC (M.th k) u)[j]? = some y := ⟨_, List.getElem?_eq_getElem (by rw [xC_len]; exact hj)⟩
      rw [h.cell hk hu j y hy]
      rfl
    · rw [List.getElem?_set_ne e] at hx
      rw [World.cell?_setCell_other _ _ _ _ (off_ne (by omega))]
      exact h.cell hk hu i x hx
  · intro o ho
    exact World.cell?_setCell_other _ _ _ _ (off_ne (by omega))
  · intro o
    rw [World.frozen?_setCell]
    exact h.gz o
  · rw [hw]
    exact (h.ws k _ u (T.th_at hk) hu).kept hg (.inr fun e => by have h1 := h.tw k u _ hu e; have h2 := h.tg; simp only at h1; omega)
theorem XV.reg1 {k : Nat} {u : Value} {x x' : S.C} {ws : List T.Wait} (h : XV B w b (M.put k M.mem ⟨x, ws⟩) t D Sk vd vs g cap ev us) (hk : k < M.ts.length) (hu : us[k]? = some u) (j : Nat) (v : Value) (hj : j < 12) (hc : xC ⟨x', ws⟩ u = (xC ⟨x, ws⟩ u).set j v) :
    XV B (w.setCell ⟨g, k * 12 + j, none⟩ v) b (M.put k M.mem ⟨x', ws⟩) t D Sk vd vs g cap ev us ∧ St t t w (w.setCell ⟨g, k * 12 + j, none⟩ v) := by
  have f := T.th_put hk M.mem ⟨x, ws⟩
  obtain ⟨q, a⟩ := h.reg (h' := ⟨x', ws⟩) (by rw [T.len_put]; exact hk) hu j v hj (by rw [f]) (by rw [f]; exact hc)
  rw [T.put_put] at q
  exact ⟨q, a⟩
/-- All of a thread's registers were stored over. -/
theorem XV.regs {k p : Nat} (h : XV B w b M t D Sk vd vs g cap ev us) (hk : k < M.ts.length) (hp : p = k * 12) (d : S.C) :
    XV B (((((((((((w.setCell ⟨g, p, none⟩ (.int .i64 d.r0)).setCell ⟨g, p + 1, none⟩ (.int .i64 d.r1)).setCell ⟨g, p + 2, none⟩ (.int .i64 d.r2)).setCell ⟨g, p + 3, none⟩ (.int .i64 d.r3)).setCell ⟨g, p + 4, none⟩ (.int .i64 d.r4)).setCell ⟨g, p + 5, none⟩ (.int .i64 d.r5)).setCell ⟨g, p + 6, none⟩ (.int .i64 d.r6)).setCell ⟨g, p + 7, none⟩ (.int .i64 d.r7)).setCell ⟨g, p + 8, none⟩ (.int .i64 d.pc)).setCell ⟨g, p + 9, none⟩ (.int .i64 d.st)).setCell ⟨g, p + 10, none⟩ (.int .i64 d.tr)) b (T.setC M k d) t D Sk vd vs g cap ev us ∧ St t t w (((((((((((w.setCell ⟨g, p, none⟩ (.int .i64 d.r0)).setCell ⟨g, p + 1, none⟩ (.int .i64 d.r1)).setCell ⟨g, p + 2, none⟩ (.int .i64 d.r2)).setCell ⟨g, p + 3, none⟩ (.int .i64 d.r3)).setCell ⟨g, p + 4, none⟩ (.int .i64 d.r4)).setCell ⟨g, p + 5, none⟩ (.int .i64 d.r5)).setCell ⟨g, p + 6, none⟩ (.int .i64 d.r6)).setCell ⟨g, p + 7, none⟩ (.int .i64 d.r7)).setCell ⟨g, p + 8, none⟩ (.int .i64 d.pc)).setCell ⟨g, p + 9, none⟩ (.int .i64 d.st)).setCell ⟨g, p + 10, none⟩ (.int .i64 d.tr)) := by
  subst hp
  obtain ⟨u, hu⟩ := h.u hk
  have s0 : St t t w w := St.refl t w
  have e0 : M.th k = ⟨(M.th k).c, (M.th k).ws⟩ := rfl
  have q0 : XV B w b (M.put k M.mem ⟨(M.th k).c, (M.th k).ws⟩) t D Sk vd vs g cap ev us := by rw [← e0, T.put_same hk]; exact h
  obtain ⟨q1, a1⟩ := q0.reg1 (x' := ⟨d.r0, (M.th k).c.r1, (M.th k).c.r2, (M.th k).c.r3, (M.th k).c.r4, (M.th k).c.r5, (M.th k).c.r6, (M.th k).c.r7, (M.th k).c.pc, (M.th k).c.st, (M.th k).c.tr⟩) hk hu 0 (.int .i64 d.r0) (by decide) rfl
  have s1 := s0.trans a1
  obtain ⟨q2, a2⟩ := q1.reg1 (x' := ⟨d.r0, d.r1, (M.th k).c.r2, (M.th k).c.r3, (M.th k).c.r4, (M.th k).c.r5, (M.th k).c.r6, (M.th k).c.r7, (M.th k).c.pc, (M.th k).c.st, (M.th k).c.tr⟩) hk hu 1 (.int .i64 d.r1) (by decide) rfl
  have s2 := s1.trans a2
  obtain ⟨q3, a3⟩ := q2.reg1 (x' := ⟨d.r0, d.r1, d.r2, (M.th k).c.r3, (M.th k).c.r4, (M.th k).c.r5, (M.th k).c.r6, (M.th k).c.r7, (M.th k).c.pc, (M.th k).c.st, (M.th k).c.tr⟩) hk hu 2 (.int .i64 d.r2) (by decide) rfl
  have s3 := s2.trans a3
  obtain ⟨q4, a4⟩ := q3.reg1 (x' := ⟨d.r0, d.r1, d.r2, d.r3, (M.th k).c.r4, (M.th k).c.r5, (M.th k).c.r6, (M.th k).c.r7, (M.th k).c.pc, (M.th k).c.st, (M.th k).c.tr⟩) hk hu 3 (.int .i64 d.r3) (by decide) rfl
  have s4 := s3.trans a4
  obtain ⟨q5, a5⟩ := q4.reg1 (x' := ⟨d.r0, d.r1, d.r2, d.r3, d.r4, (M.th k).c.r5, (M.th k).c.r6, (M.th k).c.r7, (M.th k).c.pc, (M.th k).c.st, (M.th k).c.tr⟩) hk hu 4 (.int .i64 d.r4) (by decide) rfl
  have s5 := s4.trans a5
  obtain ⟨q6, a6⟩ := q5.reg1 (x' := ⟨d.r0, d.r1, d.r2, d.r3, d.r4, d.r5, (M.th k).c.r6, (M.th k).c.r7, (M.th k).c.pc, (M.th k).c.st, (M.th k).c.tr⟩) hk hu 5 (.int .i64 d.r5) (by decide) rfl
  have s6 := s5.trans a6
  obtain ⟨q7, a7⟩ := q6.reg1 (x' := ⟨d.r0, d.r1, d.r2, d.r3, d.r4, d.r5, d.r6, (M.th k).c.r7, (M.th k).c.pc, (M.th k).c.st, (M.th k).c.tr⟩) hk hu 6 (.int .i64 d.r6) (by decide) rfl
  have s7 := s6.trans a7
  obtain ⟨q8, a8⟩ := q7.reg1 (x' := ⟨d.r0, d.r1, d.r2, d.r3, d.r4, d.r5, d.r6, d.r7, (M.th k).c.pc, (M.th k).c.st, (M.th k).c.tr⟩) hk hu 7 (.int .i64 d.r7) (by decide) rfl
  have s8 := s7.trans a8
  obtain ⟨q9, a9⟩ := q8.reg1 (x' := ⟨d.r0, d.r1, d.r2, d.r3, d.r4, d.r5, d.r6, d.r7, d.pc, (M.th k).c.st, (M.th k).c.tr⟩) hk hu 8 (.int .i64 d.pc) (by decide) rfl
  have s9 := s8.trans a9
  obtain ⟨q10, a10⟩ := q9.reg1 (x' := ⟨d.r0, d.r1, d.r2, d.r3, d.r4, d.r5, d.r6, d.r7, d.pc, d.st, (M.th k).c.tr⟩) hk hu 9 (.int .i64 d.st) (by decide) rfl
  have s10 := s9.trans a10
  obtain ⟨q11, a11⟩ := q10.reg1 (x' := ⟨d.r0, d.r1, d.r2, d.r3, d.r4, d.r5, d.r6, d.r7, d.pc, d.st, d.tr⟩) hk hu 10 (.int .i64 d.tr) (by decide) rfl
  have s11 := s10.trans a11
  exact ⟨q11, s11⟩
/-- A thread's row of waiting stores is another one, or has others in it. -/
theorem XV.wait (h : XV B w b M t D Sk vd vs g cap ev us) {k : Nat} (hk : k < M.ts.length) {u u' : Value} (hu : us[k]? = some u) {X Y : World} (hb1 : Below w.heap.size w X) {ws' : List T.Wait} {r : Option Nat}
    (ho : Y.ownsRow B 52 2 u' ws'.length (ws'.flatMap wC)) (hg : X.grownBy Y r) (hr : r = none ∨ r = u.ownBlock) (hat : ∀ x, u'.ownBlock = some x → u.ownBlock = some x ∨ w.heap.size ≤ x) :
    XV B (Y.setCell ⟨g, k * 12 + 11, none⟩ u') b (M.put k M.mem ⟨(M.th k).c, ws'⟩) (markO t u' (6 + k)) D Sk vd vs g cap ev (us.set k u') ∧ St t (markO t u' (6 + k)) w (Y.setCell ⟨g, k * 12 + 11, none⟩ u') := by
  have hs : w.heap.size ≤ Y.heap.size := Nat.le_trans hb1.size hg.size
  have hgl := h.gl
  have hgr : ∀ q, some q = r → u.ownBlock = some q := fun q e => by
    rcases hr with rfl | rfl
    · cases e
    · exact e.symm
  have htag : ∀ q, q < w.heap.size → markO t u' (6 + k) q = t q := fun q hq => by
    unfold markO
    by_cases e : u'.ownBlock = some q
    · rw [if_pos e]
      rcases hat q e with h1 | h1
      · exact (h.tw k u q hu h1).symm
      · omega
    · rw [if_neg e]
  have evb : u.ownBlock ≠ some g := fun e => by have h1 := h.tw k u g hu e; have h2 := h.tg; omega
  have evb' : u'.ownBlock ≠ some g := fun e => by
    rcases hat g e with h1 | h1
    · exact evb h1
    · omega
  have hgs := gb_set Y ⟨g, k * 12 + 11, none⟩ u'
  have hold : ∀ q, q < w.heap.size → t q ≠ 4 → t q ≠ 6 + k → (Y.setCell ⟨g, k * 12 + 11, none⟩ u').heap[q]? = w.heap[q]? := fun q hq h1 h4 =>
    (hgs.block q (Nat.lt_of_lt_of_le hq hs) (fun e => h1 (by cases e; exact h.tg))).trans ((hg.block q (Nat.lt_of_lt_of_le hq hb1.size) (fun e => h4 (h.tw k u q hu (hgr q e)))).trans (hb1.block q hq))
  have hYb : Y.heap[g]? = w.heap[g]? := (hg.block g (Nat.lt_of_lt_of_le hgl hb1.size) (fun e => evb (hgr g e))).trans (hb1.block g hgl)
  have hcY : ∀ o, Y.cell? ⟨g, o, none⟩ = w.cell? ⟨g, o, none⟩ := fun o => World.cell?_of_block (a := ⟨g, o, none⟩) hYb
  refine ⟨h.thr hk hold (by rw [World.size_setCell]; exact hs) ?_ ?_ ?_ ?_ ?_ htag ?_, ⟨htag, fun q hq h0 => hold q hq (by rw [h0]; decide) (by rw [h0]; omega), by rw [World.size_setCell]; exact hs, hg.os.trans hb1.os, hg.tape.trans hb1.tape, hg.output.trans hb1.output⟩⟩
  · intro i x hx
    by_cases e : i = 11
    · subst e
      have : x = u' := by simpa [xC] using hx.symm
      subst this
      exact World.cell?_setCell_same' _ _ _ (by rw [hcY, h.cell hk hu 11 _ rfl]; rfl)
    · have hi : i < 12 := (List.getElem?_eq_some_iff.1 hx).1
      rw [World.cell?_setCell_other _ _ _ _ (off_ne (by omega)), hcY]
      refine h.cell hk hu i x ?_
      rw [← hx]
      match i, hi, e with
      | 0, _, _ => rfl
      | 1, _, _ => rfl
      | 2, _, _ => rfl
      | 3, _, _ => rfl
      | 4, _, _ => rfl
      | 5, _, _ => rfl
      | 6, _, _ => rfl
      | 7, _, _ => rfl
      | 8, _, _ => rfl
      | 9, _, _ => rfl
      | 10, _, _ => rfl
      | 11, _, e => exact absurd rfl e
  · intro o ho
    rw [World.cell?_setCell_other _ _ _ _ (off_ne (by omega))]
    exact hcY o
  · intro o
    rw [World.frozen?_setCell]
    exact blk_froz (p := ⟨g, o, none⟩) hYb (h.gz o)
  · exact ho.kept hgs (.inr evb')
  · intro y hy
    exact if_pos hy
  · intro q hq
    rw [World.size_setCell]
    unfold markO at hq
    by_cases e : u'.ownBlock = some q
    · exact ho.lt q e
    · rw [if_neg e] at hq
      exact ⟨(h.lt q hq).1, Nat.lt_of_lt_of_le (h.lt q hq).2 hs⟩
/-- An event is kept. -/
theorem XV.saw (h : XV B w b M t D Sk vd vs g cap ev us) {X Y : World} {k x cp : Nat} {a n : Int} (hb1 : Below w.heap.size w X)
    (ho : Y.ownsRow B 81 3 (.slice (some ⟨x, 0, none⟩) (M.es.length + 1) cp) (M.es.length + 1) (M.es.flatMap eC ++ eC ((k : Int), a, n))) (hg : X.grownBy Y ev.ownBlock) (hat : ev.ownBlock = some x ∨ w.heap.size ≤ x) :
    XV B (Y.setCell ⟨b, 4, none⟩ (.slice (some ⟨x, 0, none⟩) (M.es.length + 1) cp)) b (M.see k a n) (mark t x 5) D Sk vd vs g cap (.slice (some ⟨x, 0, none⟩) (M.es.length + 1) cp) us ∧ St t (mark t x 5) w (Y.setCell ⟨b, 4, none⟩ (.slice (some ⟨x, 0, none⟩) (M.es.length + 1) cp)) := by
  have hxl := ho.lt x rfl
  have hs : w.heap.size ≤ Y.heap.size := Nat.le_trans hb1.size hg.size
  have hbl := h.bl
  have htag : ∀ q, q < w.heap.size → mark t x 5 q = t q := fun q hq => by
    unfold mark
    by_cases e : q = x
    · subst e
      rw [if_pos rfl]
      rcases hat with h1 | h1
      · exact (h.te q h1).symm
      · omega
    · rw [if_neg e]
  have evb : ev.ownBlock ≠ some b := fun e => by have h1 := h.te b e; have h2 := h.tb; omega
  have hgs := gb_set Y ⟨b, 4, none⟩ (.slice (some ⟨x, 0, none⟩) (M.es.length + 1) cp)
  have hold : ∀ q, q < w.heap.size → t q ≠ 1 → t q ≠ 5 → (Y.setCell ⟨b, 4, none⟩ (.slice (some ⟨x, 0, none⟩) (M.es.length + 1) cp)).heap[q]? = w.heap[q]? := fun q hq h1 h4 =>
    (hgs.block q (Nat.lt_of_lt_of_le hq hs) (fun e => h1 (by cases e; exact h.tb))).trans ((hg.block q (Nat.lt_of_lt_of_le hq hb1.size) (fun e => h4 (h.te q e.symm))).trans (hb1.block q hq))
  have hYb : Y.heap[b]? = w.heap[b]? := (hg.block b (Nat.lt_of_lt_of_le hbl hb1.size) (fun e => evb e.symm)).trans (hb1.block b hbl)
  have hcY : ∀ o, Y.cell? ⟨b, o, none⟩ = w.cell? ⟨b, o, none⟩ := fun o => World.cell?_of_block (a := ⟨b, o, none⟩) hYb
  have hxb : x ≠ b := by
    rintro rfl
    rcases hat with h1 | h1
    · exact evb h1
    · omega
  refine ⟨h.event hold (by rw [World.size_setCell]; exact hs) ?_ ?_ ?_ ?_ ?_ htag ?_, ⟨htag, fun q hq h0 => hold q hq (by rw [h0]; decide) (by rw [h0]; decide), by rw [World.size_setCell]; exact hs, hg.os.trans hb1.os, hg.tape.trans hb1.tape, hg.output.trans hb1.output⟩⟩
  · exact World.cell?_setCell_same' _ _ _ (by rw [hcY, h.c4]; rfl)
  · intro o ho
    rw [World.cell?_setCell_other _ _ _ _ (off_ne (fun e => ho e.symm))]
    exact hcY o
  · intro o
    rw [World.frozen?_setCell]
    exact blk_froz (p := ⟨b, o, none⟩) hYb (h.fz o)
  · exact ho.kept hgs (.inr fun e => by cases e; exact hxb rfl)
  · intro y hy
    cases hy
    exact mark_at _ _ _
  · intro q hq
    rw [World.size_setCell]
    unfold mark at hq
    by_cases e : q = x
    · subst e; exact hxl
    · rw [if_neg e] at hq
      exact ⟨(h.lt q hq).1, Nat.lt_of_lt_of_le (h.lt q hq).2 hs⟩
end

end Go.Proofs.YtneclfaamgfoeaaDoor
