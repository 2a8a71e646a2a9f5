/- What stays of an object's code and data. -/
import Derived.Test.YtaoklmphcgigeaaLinkLandM
import Derived.Test.YtaoklmphcgigeaaLinkMoreW
import Derived.Test.YtaoklmphcgigeaaObjSame
namespace Go.Proofs.Ytaoklmphcgigeaa
open Go.RowKit Go.Lib
set_option linter.unusedVariables false
set_option linter.unusedSimpArgs false

theorem datas_at {os : List ObjD} {k : Nat} {d : ObjD} (hk : os[k]? = some d) : (datas (os.take k)).length = (L.sizes (os.take k)).d ∧ (datas os).drop (L.sizes (os.take k)).d = d.data ++ datas (os.drop (k + 1)) := by
  have h1 := datas_len (os.take k) L.zero
  have z2 : L.zero.d = 0 := rfl
  have e1 : ((os.take k).foldl L.grow L.zero) = L.sizes (os.take k) := rfl
  rw [e1] at h1
  have h2 : (datas (os.take k)).length = (L.sizes (os.take k)).d := by omega
  refine ⟨h2, ?_⟩
  have h3 : datas os = datas (os.take k) ++ (d.data ++ datas (os.drop (k + 1))) := by
    have e := congrArg datas (list_split hk)
    rw [e]
    simp [datas]
  rw [h3, ← h2, List.drop_left]
theorem sizes_aheadD {os : List ObjD} {k : Nat} {d : ObjD} (hk : os[k]? = some d) : (L.sizes (os.take k)).d + d.data.length ≤ (L.sizes os).d := by
  have h1 : (L.sizes (os.take (k + 1))).d = (L.sizes (os.take k)).d + d.data.length := by rw [sizes_take hk]; rfl
  have h2 : (L.sizes os).d = ((os.drop (k + 1)).foldl L.grow (L.sizes (os.take (k + 1)))).d := by
    unfold L.sizes
    rw [← List.foldl_append, List.take_append_drop]
  have h3 := grow_monoD (os.drop (k + 1)) (L.sizes (os.take (k + 1)))
  omega
theorem link_sizesD {os : List ObjD} (h : linkE os = 0) : (linkD os).length = (L.sizes os).d := by
  obtain ⟨a1, a2, a3, a4, a5, a6, a7⟩ := link_ok h
  have h2 := datas_len os L.zero
  have z2 : L.zero.d = 0 := rfl
  have e1 : (os.foldl L.grow L.zero) = L.sizes os := rfl
  rw [e1] at h2
  rw [a6]
  omega
/-- A byte that no relocation covers stands as it was. -/
theorem kept_byte {os : List ObjD} (h : linkE os = 0) {k : Nat} {d : ObjD} (hk : os[k]? = some d) {q : Nat} (hq : q < d.code.size) (hout : ∀ r ∈ d.rels, (q : Int) < r.pos ∨ r.pos + 4 ≤ q) : (linkC os)[(L.sizes (os.take k)).b + q]? = d.code.data.toList[q]? := by
  obtain ⟨a1, a2, a3, a4, a5, a6, a7⟩ := link_ok h
  have hmd : d.may = true := a1.2 d (List.mem_of_getElem? hk)
  obtain ⟨a, c, t, e1, e2, e3, e4⟩ := link_split h hk
  rw [e1, ← e2, List.append_assoc, List.getElem?_append_right (by omega), Nat.add_sub_cancel_left, List.getElem?_append_left (by omega)]
  exact patchRels_out _ _ _ (may_in hmd) e3 q hout
/-- A part of a row of numbers. -/
theorem IntsV.sub {w : World} {g l c lo n : Nat} {zs : List Int} (h : IntsV w (some ⟨g, 0, none⟩) l c zs) (hl : lo + n ≤ l) (hc : l ≤ c) : IntsV w (if c = lo then some ⟨g, 0, none⟩ else some ⟨g, lo, none⟩) n (c - lo) ((zs.drop lo).take n) := by
  refine ⟨by rw [List.length_take, List.length_drop, h.count]; omega, fun m hm => h.fits m (List.mem_of_mem_drop (List.mem_of_mem_take hm)), fun e => (by by_cases hx : c = lo <;> simp [hx] at e), ?_⟩
  by_cases h0 : n = 0
  · exact .inl h0
  · right
    rw [if_neg (by omega)]
    rcases h.cells with h1 | ⟨b, off, ha, hcc⟩
    · omega
    · cases ha
      refine ⟨g, lo, rfl, fun i hi => ?_⟩
      have := hcc (lo + i) (by omega)
      rw [Nat.zero_add] at this
      rw [this]
      simp [List.getD, hi]
/-- Two images that are the same. -/
theorem sameI_any {w : World} {CA : ByteArray} {a1 c1 a2 c2 b1 d1 b2 d2} {n m n' m' : Nat} {xs : List Int} {ys : List Sym} (h1 : IntsV w a1 n c1 xs) (h2 : SymsV w a2 m c2 ys) (h3 : IntsV w b1 n' d1 xs) (h4 : SymsV w b2 m' d2 ys) (hn : n ≤ 1048576) (hm : m ≤ 1048576) :
    Calls Try.prog 14 #[.agg #[.string CA, .slice a1 n c1, .slice a2 m c2], .agg #[.string CA, .slice b1 n' d1, .slice b2 m' d2]] w fun e w' => e = .returned (.bool true) ∧ Below w.heap.size w w' := by
  have hmx : maxLen = 9223372036854775807 := rfl
  have hn' : n ≤ maxLen := by omega
  have hm' : m ≤ maxLen := by omega
  obtain ⟨W1, hW1⟩ : ∃ W1, (w.alloc (.cells #[.string CA, .slice a1 n c1, .slice a2 m c2] 29)).alloc (.cells #[.string CA, .slice b1 n' d1, .slice b2 m' d2] 29) = W1 := ⟨_, rfl⟩
  have bl : Below w.heap.size w W1 := by subst hW1; exact ((Below.refl _ _).alloc (Nat.le_refl _) _).alloc (by simp) _
  have HC : Hid (∀ y : World, Below W1.heap.size W1 y → y.cell? ⟨w.heap.size, 2, none⟩ = some (.slice a2 m c2) ∧ y.cell? ⟨w.heap.size + 1, 2, none⟩ = some (.slice b2 m' d2)) := fun y hb => by
    refine ⟨cell_thru hb ?_, cell_thru hb ?_⟩
    · subst hW1; exact cell_thru (bl_one _ _) (cell_last rfl rfl)
    · subst hW1; exact cell_last (by simp) rfl
  have HC0 : Hid ((W1.cell? ⟨w.heap.size, 0, none⟩ = some (.string CA) ∧ W1.cell? ⟨w.heap.size, 1, none⟩ = some (.slice a1 n c1)) ∧ (W1.cell? ⟨w.heap.size + 1, 0, none⟩ = some (.string CA) ∧ W1.cell? ⟨w.heap.size + 1, 1, none⟩ = some (.slice b1 n' d1))) := by
    refine ⟨⟨?_, ?_⟩, ?_, ?_⟩
    · subst hW1; exact cell_thru (bl_one _ _) (cell_last rfl rfl)
    · subst hW1; exact cell_thru (bl_one _ _) (cell_last rfl rfl)
    · subst hW1; exact cell_last (by simp) rfl
    · subst hW1; exact cell_last (by simp) rfl
  have H1 : Hid _ := h1.below bl
  have H2 : Hid _ := h2.below bl
  have H3 : Hid _ := h3.below bl
  have H4 : Hid _ := h4.below bl
  have k0 := HC0.out.1.1
  have k1 := HC0.out.1.2
  have k2 := HC0.out.2.1
  have k3 := HC0.out.2.2
  clear h1 h2 h3 h4 hmx
  go_enter Try.func14, Try.ntmps14
  go_wp2_with (go_at_call 16; refine (samedata_any H1.out H3.out hn' true (by simp)).mono ?_; rintro e y1 ⟨rfl, hb1⟩; have j0 := (HC.out y1 hb1).1; have j1 := (HC.out y1 hb1).2)
  go_wp2_with (go_at_call 18; refine (samesyms_any (H2.out.below hb1) (H4.out.below hb1) hm' true (by simp)).mono ?_; rintro e y2 ⟨rfl, hb2⟩)
  go_ret
  have h5 : Below w.heap.size w y1 := bl.trans (hb1.mono bl.size)
  exact ⟨rfl, h5.trans (hb2.mono h5.size)⟩
end Go.Proofs.Ytaoklmphcgigeaa
