/- Filling all code. -/
import Derived.Test.YtaoklmphcgigeaaLinkPlaces
import Derived.Laws.MakeOwn
namespace Go.Proofs.Ytaoklmphcgigeaa
open Go.RowKit Go.Lib
set_option linter.unusedVariables false
set_option linter.unusedSimpArgs false

theorem infoY : (Try.prog.info? 5).map (fun i => (i.zero, i.size, i.bytes)) = some (some (.int .u8 0), 1, 1) := by kernel_rfl
theorem made_bytes (N : Nat) : madeCells (Value.int .u8 0).cells (N * 1) = (byteCells (List.replicate N 0)).toArray := by
  unfold madeCells byteCells
  apply Array.ext
  · simp
  · intro i h1 h2
    simp [Value.cells, Nat.mod_one]
theorem makeB (w : World) (N : Nat) (hN : N ≤ 65536) :
    (Instr.makeSlice 58 (.int .i64 N) (.int .i64 N)).run Try.prog w = .ok (.slice (some ⟨w.heap.size, 0, none⟩) N N) (w.alloc (.cells (byteCells (List.replicate N 0)).toArray 5)) := by
  obtain ⟨i, hi, h0, h1, h2⟩ := info_partsL infoY
  have := run_make (P := Try.prog) w 58 5 i (.int .u8 0) Try.underlying58 hi h0 .i64 .i64 N N (by omega) (by omega) (by rw [h2]; omega) (by omega)
  rw [this, h1, Int.toNat_natCast, made_bytes]

theorem partC_len (z : L.Sz) (d : ObjD) (s : Sl) : (partC z d s).length = 8 := rfl
theorem partsC_at : ∀ (l : List (ObjD × Sl)) (z : L.Sz) (k : Nat) (p : ObjD × Sl), l[k]? = some p → ∀ j, j < 8 → (partsC z l)[k * 8 + j]? = (partC (((l.take k).map Prod.fst).foldl L.grow z) p.1 p.2)[j]?
  | [], z, k, p, h, j, hj => by simp at h
  | (d, s) :: l, z, 0, p, h, j, hj => by
    simp at h
    subst h
    show (partC z d s ++ partsC (L.grow z d) l)[0 * 8 + j]? = _
    rw [Nat.zero_mul, Nat.zero_add, List.getElem?_append_left (by rw [partC_len]; exact hj)]
    rfl
  | (d, s) :: l, z, k + 1, p, h, j, hj => by
    show (partC z d s ++ partsC (L.grow z d) l)[(k + 1) * 8 + j]? = _
    rw [List.getElem?_append_right (by rw [partC_len]; omega), partC_len, show (k + 1) * 8 + j - 8 = k * 8 + j by omega, partsC_at l (L.grow z d) k p (by simpa using h) j hj]
    rfl

/-- All code, filled. -/
def fillAll (ss : List Sym) : L.Sz → List UInt8 → List ObjD → Option (List UInt8)
  | _, l, [] => some l
  | z, l, o :: os => match fillRels ss z (patch l z.b o.code) o.rels with
    | none => none
    | some l' => fillAll ss (L.grow z o) l' os
theorem fillRels_len (ss : List Sym) (z : L.Sz) : ∀ (rs : List Rel) (l l' : List UInt8), (∀ r ∈ rs, z.b + r.pos.toNat + 4 ≤ l.length) → fillRels ss z l rs = some l' → l'.length = l.length
  | [], l, l', _, h => by simp [fillRels] at h; rw [h]
  | r :: rs, l, l', hr, h => by
    unfold fillRels at h
    split at h
    · have h1 := hr r (List.mem_cons_self ..)
      have h2 := fillS_size ss z r
      have e : (patch l (z.b + r.pos.toNat) (fillS ss z r)).length = l.length := patch_len (by omega)
      have := fillRels_len ss z rs _ l' (fun q hq => by rw [e]; exact hr q (List.mem_cons_of_mem _ hq)) h
      rw [this, e]
    · cases h
theorem fillAll_drop {ss : List Sym} {z : L.Sz} {l : List UInt8} {os : List ObjD} {k : Nat} {d : ObjD} (hk : os[k]? = some d) : fillAll ss z l (os.drop k) = match fillRels ss z (patch l z.b d.code) d.rels with | none => none | some l' => fillAll ss (L.grow z d) l' (os.drop (k + 1)) := by
  obtain ⟨hlt, e⟩ := List.getElem?_eq_some_iff.1 hk
  rw [List.drop_eq_getElem_cons hlt, e]
  rfl
theorem sizes_take {os : List ObjD} {k : Nat} {d : ObjD} (hk : os[k]? = some d) : L.sizes (os.take (k + 1)) = L.grow (L.sizes (os.take k)) d := by
  obtain ⟨hlt, e⟩ := List.getElem?_eq_some_iff.1 hk
  rw [List.take_succ_eq_append_getElem hlt, L.sizes_snoc, e]
theorem grow_mono : ∀ (l : List ObjD) (z : L.Sz), z.b ≤ (l.foldl L.grow z).b
  | [], z => Nat.le_refl _
  | o :: l, z => Nat.le_trans (Nat.le_add_right _ _) (grow_mono l (L.grow z o))
theorem sizes_ahead {os : List ObjD} {k : Nat} {d : ObjD} (hk : os[k]? = some d) : (L.sizes (os.take k)).b + d.code.size ≤ (L.sizes os).b := by
  have h1 : (L.sizes (os.take (k + 1))).b = (L.sizes (os.take k)).b + d.code.size := by rw [sizes_take hk]; rfl
  have h2 : (L.sizes os).b = ((os.drop (k + 1)).foldl L.grow (L.sizes (os.take (k + 1)))).b := by
    unfold L.sizes
    rw [← List.foldl_append, List.take_append_drop]
  have h3 := grow_mono (os.drop (k + 1)) (L.sizes (os.take (k + 1)))
  omega
theorem may_rels {o : ObjD} (h : o.may = true) : ∀ r ∈ o.rels, (-2147483648 ≤ r.add ∧ r.add ≤ 2147483647) ∧ 0 ≤ r.pos ∧ r.pos + 4 ≤ o.code.size := by
  unfold ObjD.may relsOk at h
  simp only [Bool.and_eq_true, decide_eq_true_eq, List.all_eq_true, List.mem_range] at h
  obtain ⟨-, -, -, h6⟩ := h
  have key : ∀ i, i < o.rels.length → 0 ≤ (o.rels.getD i noRel).pos := by
    intro i
    induction i with
    | zero =>
      intro hi
      have h7 := h6 0 hi
      unfold relOk freeAt at h7
      simp only [Bool.and_eq_true, decide_eq_true_eq, if_true] at h7
      exact h7.1.1
    | succ i ih =>
      intro hi
      have h7 := h6 (i + 1) hi
      have h8 := ih (by omega)
      unfold relOk freeAt at h7
      simp only [Bool.and_eq_true, decide_eq_true_eq, Nat.succ_ne_zero, if_false, Nat.add_sub_cancel] at h7
      have := h7.1.1
      omega
  intro r hr
  obtain ⟨i, hi, rfl⟩ := List.getElem_of_mem hr
  have h7 := h6 i hi
  have e : o.rels.getD i noRel = o.rels[i] := by simp [List.getD, hi]
  have h8 := key i hi
  rw [e] at h7 h8
  unfold relOk addOk at h7
  simp only [Bool.and_eq_true, decide_eq_true_eq] at h7
  obtain ⟨⟨h9, h10⟩, -, h11⟩ := h7
  refine ⟨?_, h8, by omega⟩
  split at h11
  · simp at h11; omega
  · split at h11
    · simp at h11; exact h11
    · cases h11
theorem LY.parts {w x : World} {b bm : Nat} {v : Value} {l : List (ObjD × Sl)} (h : LY w x b bm v l) : (v = .slice none 0 0 ∧ l.length = 0) ∨ ∃ g cap, v = .slice (some ⟨g, 0, none⟩) l.length cap ∧ v.ownBlock = some g := by
  rcases h.own.2 with ⟨h1, h2⟩ | ⟨g, cap, cur, h1, -⟩
  · exact .inl ⟨h1, h2⟩
  · exact .inr ⟨g, cap, h1, by rw [h1]; rfl⟩
end Go.Proofs.Ytaoklmphcgigeaa
