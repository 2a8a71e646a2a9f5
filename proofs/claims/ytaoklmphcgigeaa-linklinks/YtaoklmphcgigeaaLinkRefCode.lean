/- The document's code: all of it, filled at its places. -/
import Derived.Test.YtaoklmphcgigeaaLinkRefLay
import Derived.Test.YtaoklmphcgigeaaLinkRefNames
import Derived.Test.YtaoklmphcgigeaaLinkLandM
import Derived.Test.YtaoklmphcgigeaaWordRefBytes4
import Derived.Test.YtaoklmphcgigeaaObjRefMay
import Derived.Lib.ConvBytes
import Derived.Lib.LazyBuf
namespace Go.Proofs.Ytaoklmphcgigeaa
open Go.RowKit Go.Lib
set_option linter.unusedVariables false
set_option linter.unusedSimpArgs false

def catL (os : List ObjD) : List UInt8 := os.flatMap fun o => o.code.data.toList
theorem cat_list : ∀ (os : List ObjD) (c : ByteArray), (os.foldl (fun c o => c ++ o.code) c).data.toList = c.data.toList ++ catL os
  | [], c => by simp [catL]
  | o :: os, c => by
    simp only [List.foldl_cons]
    rw [cat_list os]
    simp [catL, ByteArray.data_append]
theorem cat_eq (os : List ObjD) : (cat os).data.toList = catL os := by
  unfold cat
  rw [cat_list]
  rfl
/-- All places filled, one after the other. -/
def docAll (ss : List Sym) : L.Sz → List UInt8 → List ObjD → Option (List UInt8)
  | _, l, [] => some l
  | z, l, o :: os => match fillRels ss z l o.rels with
    | none => none
    | some l' => docAll ss (L.grow z o) l' os
theorem docAll_codes {ss : List Sym} : ∀ (os : List ObjD) (z : L.Sz) (a : List UInt8), a.length = z.b → (∀ o ∈ os, o.may = true) → docAll ss z (a ++ catL os) os = (codes ss z os).map fun c => a ++ c
  | [], z, a, ha, hm => by simp [docAll, codes, catL]
  | o :: os, z, a, ha, hm => by
    have hg : (L.grow z o).b = z.b + o.code.size := rfl
    have e : o.code.data.toList.length = o.code.size := rfl
    have e2 : a ++ catL (o :: os) = a ++ o.code.data.toList ++ catL os := by simp [catL]
    unfold docAll codes
    rw [e2, fillRels_mid ha _ _ (may_in (hm o (List.mem_cons_self ..)))]
    cases hp : patchRels ss z o.code.data.toList o.rels with
    | none => rfl
    | some c =>
      have hc := patchRels_len _ _ _ (may_in (hm o (List.mem_cons_self ..))) hp
      simp only [Option.map_some, Option.bind_some]
      rw [docAll_codes os (L.grow z o) (a ++ c) (by rw [List.length_append]; omega) (fun p hp => hm p (List.mem_cons_of_mem _ hp))]
      simp [List.append_assoc, Function.comp_def]
theorem doc_filled {os : List ObjD} (hm : ∀ o ∈ os, o.may = true) : docAll (L.syms os) L.zero (cat os).data.toList os = filled os := by
  rw [filled_codes hm, cat_eq]
  have := docAll_codes (ss := L.syms os) os L.zero [] rfl hm
  simp only [List.nil_append] at this
  rw [this]
  simp
theorem docAll_drop {ss : List Sym} {z : L.Sz} {l : List UInt8} {os : List ObjD} {k : Nat} {d : ObjD} (hk : os[k]? = some d) : docAll ss z l (os.drop k) = match fillRels ss z l d.rels with | none => none | some l' => docAll ss (L.grow z d) l' (os.drop (k + 1)) := by
  obtain ⟨hlt, e⟩ := List.getElem?_eq_some_iff.1 hk
  rw [List.drop_eq_getElem_cons hlt, e]
  rfl
theorem thr_syms : ∀ (os : List ObjD) (z : L.Sz), L.thr (L.symsFrom z os) + z.t = (os.foldl L.grow z).t
  | [], z => by simp [L.symsFrom, L.thr]
  | o :: os, z => by
    have := thr_syms os (L.grow z o)
    have h1 : (L.grow z o).t = z.t + L.thr o.syms := rfl
    have h2 : L.thr (o.syms.map (L.moved z)) = L.thr o.syms := by
      unfold L.thr
      rw [List.filter_map, List.length_map]
      rfl
    have h3 : L.thr (L.symsFrom z (o :: os)) = L.thr (o.syms.map (L.moved z)) + L.thr (L.symsFrom (L.grow z o) os) := by
      simp only [L.symsFrom]
      unfold L.thr
      rw [List.filter_append, List.length_append]
    rw [h3, h2, List.foldl_cons]
    omega
/-- A block whose first bytes are these. -/
structure CBy (x : World) (g : Nat) (l : List UInt8) : Prop where
  at' : ∀ j c, l[j]? = some c → x.cell? ⟨g, j, none⟩ = some (.int .u8 c.toNat)
  fz : ∀ j, j < l.length → x.frozen? ⟨g, j, none⟩ = false
  lt : g < x.heap.size
theorem CBy.below {x y : World} {g : Nat} {l : List UInt8} (h : CBy x g l) (hb : Below x.heap.size x y) : CBy y g l := ⟨fun j c hc => cell_thru hb (h.at' j c hc), fun j hj => (hb.frozen (p := ⟨g, j, none⟩) h.lt).trans (h.fz j hj), Nat.lt_of_lt_of_le h.lt hb.size⟩
theorem cby_conv (w : World) (s : ByteArray) (hs : s.size ≤ 1048576) : ∃ cap w', (convert 9 58 (.string s)).run Try.prog w = .ok (.slice (some ⟨w.heap.size, 0, none⟩) s.size cap) w' ∧ CBy w' w.heap.size s.data.toList ∧ Below w.heap.size w w' ∧ s.size ≤ cap := by
  have hr := _root_.Go.Lib.run_convert_string_bytes (P := Try.prog) w 9 58 5 s Try.underlying9 Try.underlying58 Try.underlying5
  have hge := grownCap_ge w s.size 0 5
  have hsz : (bytesCells w 5 s).size = grownCap w s.size 0 5 := by
    unfold bytesCells
    simp
    omega
  have hnew := bytesWorld_at_new w 5 s
  have hl : s.data.toList.length = s.size := rfl
  refine ⟨_, _, hr, ⟨fun j c hc => ?_, fun j hj => ?_, by rw [bytesWorld_size]; omega⟩, ?_, hge⟩
  · have hj : j < s.size := by have := (List.getElem?_eq_some_iff.1 hc).1; omega
    rw [bytesWorld_cell w 5 s j hj]
    congr 3
    rw [List.getD, hc]
    rfl
  · unfold World.frozen?
    rw [hnew]
    simp
    omega
  · refine ⟨rfl, rfl, rfl, by rw [bytesWorld_size]; omega, fun k hk => bytesWorld_at_old w 5 s k hk⟩
theorem sizeU8 (w : World) : (Go.sizeOf 5).run Try.prog w = .ok 1 w := by kernel_rfl
theorem CBy.copy {x : World} {g : Nat} {l : List UInt8} (h : CBy x g l) (o n cap : Nat) (s : ByteArray) (hn : s.size ≤ n) (ho : o + s.size ≤ l.length) :
    ∃ y, (∀ ty, (Builtin.copy_ #[58, 9] ty #[.slice (some ⟨g, o, none⟩) n cap, .string s]).run Try.prog x = .ok (goInt s.size) y) ∧ CBy y g (patch l o s) ∧ ∀ B a, B ≤ g → Below B a x → Below B a y := by
  have hl : s.data.toList.length = s.size := rfl
  have hin : ∀ j, j < s.size → (x.cell? ⟨g, o + j, none⟩).isSome = true := fun j hj => by
    rw [h.at' (o + j) (l[o + j]'(by omega)) (by simp [show o + j < l.length by omega])]
    rfl
  have hr := fun ty => run_copy_string (P := Try.prog) x 58 9 ty 5 g o n cap s Try.underlying58 sizeU8 hn hin (fun j hj => h.fz _ (by omega))
  refine ⟨_, hr, ⟨fun j c hc => ?_, fun j hj => ?_, ?_⟩, fun B a hB hb => below_setCells hB _ _ _ hb⟩
  · by_cases hj : o ≤ j ∧ j < o + s.size
    · have h1 := World.cell?_setCells_in g (s.data.toList.map fun x => Value.int .u8 (x.toNat : Int)) o x (by simpa using hin) (j - o) (by simp; omega)
      rw [show o + (j - o) = j by omega] at h1
      rw [h1]
      have h2 := patch_in (l := l) (o := o) (s := s) ho (j - o) (by omega)
      rw [show o + (j - o) = j by omega, hc] at h2
      have h3 := (List.getElem?_eq_some_iff.1 h2.symm)
      obtain ⟨h4, h5⟩ := h3
      simp [h5]
    · rw [World.cell?_setCells_out g _ _ _ _ (fun _ _ => by simp; omega)]
      refine h.at' j c ?_
      rw [← hc]
      exact (patch_out ho j (by omega)).symm
  · rw [patch_len ho] at hj
    rw [World.frozen?_setCells]
    exact h.fz j hj
  · have : ∀ (vs : List Value) (o : Nat) (w : World), (w.setCells g o vs).heap.size = w.heap.size := by
      intro vs
      induction vs with
      | nil => intro o w; rfl
      | cons v r ih => intro o w; rw [World.setCells, ih, World.size_setCell]
    rw [this]
    exact h.lt
theorem CBy.back {w : World} {g cap : Nat} {l : List UInt8} (h : CBy w g l) : (convert 58 9 (.slice (some ⟨g, 0, none⟩) l.length cap)).run Try.prog w = .ok (.string ⟨l.toArray⟩) w := by
  have hr := run_convert_bytes_arg (P := Try.prog) w 58 5 Try.underlying58 Try.underlying5 g 0 l.length cap (l.map fun c => (c.toNat : Int)) (by simp) (fun i hi => by
    have hi' : i < l.length := by simpa using hi
    rw [Nat.zero_add, h.at' i l[i] (by simp [hi'])]
    simp [List.getD, hi']) 9 Try.underlying9
  rw [hr]
  congr 2
  unfold strOfNums
  have e : (List.map ((fun n : Int => UInt8.ofNat n.toNat) ∘ fun c : UInt8 => (c.toNat : Int)) l) = l := by
    apply List.ext_getElem (by simp)
    intro i h1 h2
    simp
  simpa using e
end Go.Proofs.Ytaoklmphcgigeaa
