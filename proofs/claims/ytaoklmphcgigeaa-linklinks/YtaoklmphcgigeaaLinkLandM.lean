/- Where filled places come to stand, and what stands around them. -/
import Derived.Test.YtaoklmphcgigeaaLinkCodes
import Derived.Test.YtaoklmphcgigeaaLinkNum
namespace Go.Proofs.Ytaoklmphcgigeaa
open Go.RowKit Go.Lib
set_option linter.unusedVariables false
set_option linter.unusedSimpArgs false

theorem patch_out {l : List UInt8} {o : Nat} {s : ByteArray} (h : o + s.size ≤ l.length) (j : Nat) (hj : j < o ∨ o + s.size ≤ j) : (patch l o s)[j]? = l[j]? := by
  have e : s.data.toList.length = s.size := rfl
  have e1 : (l.take o).length = o := by rw [List.length_take]; omega
  unfold patch
  rcases hj with hj | hj
  · rw [List.append_assoc, List.getElem?_append_left (by omega), List.getElem?_take_of_lt hj]
  · rw [List.getElem?_append_right (by rw [List.length_append]; omega), List.getElem?_drop, List.length_append, e1, e]
    congr 1
    omega
theorem patch_in {l : List UInt8} {o : Nat} {s : ByteArray} (h : o + s.size ≤ l.length) (j : Nat) (hj : j < s.size) : (patch l o s)[o + j]? = s.data.toList[j]? := by
  have e : s.data.toList.length = s.size := rfl
  have e1 : (l.take o).length = o := by rw [List.length_take]; omega
  unfold patch
  rw [List.append_assoc, List.getElem?_append_right (by omega), e1, List.getElem?_append_left (by omega)]
  congr 1
  omega
theorem patchRels_out {ss : List Sym} {z : L.Sz} : ∀ (rs : List Rel) (c c' : List UInt8), inCode c.length rs → patchRels ss z c rs = some c' → ∀ j : Nat, (∀ r ∈ rs, (j : Int) < r.pos ∨ r.pos + 4 ≤ j) → c'[j]? = c[j]?
  | [], c, c', _, h, j, _ => by simp [patchRels] at h; rw [h]
  | r :: rs, c, c', hin, h, j, hj => by
    unfold patchRels at h
    split at h
    · have h1 := hin r (List.mem_cons_self ..)
      have h2 := fillS_le ss z r
      have h3 := hj r (List.mem_cons_self ..)
      have e : (patch c r.pos.toNat (fillS ss z r)).length = c.length := patch_len (by omega)
      rw [patchRels_out rs _ c' (fun q hq => by rw [e]; exact hin q (List.mem_cons_of_mem _ hq)) h j (fun q hq => hj q (List.mem_cons_of_mem _ hq))]
      exact patch_out (by omega) j (by omega)
    · cases h
/-- Relocations in their order, none over another. -/
def srt : Int → List Rel → Prop
  | _, [] => True
  | f, r :: rs => f ≤ r.pos ∧ srt (r.pos + 4) rs
theorem srt_ge : ∀ (rs : List Rel) (f : Int), srt f rs → ∀ r ∈ rs, f ≤ r.pos
  | [], f, _, r, hr => by cases hr
  | x :: rs, f, h, r, hr => by
    rcases List.mem_cons.1 hr with rfl | hr
    · exact h.1
    · have := srt_ge rs _ h.2 r hr
      have := h.1
      omega
theorem srt_of : ∀ (rs : List Rel) (f : Int), (∀ i, i < rs.length → (if i = 0 then f else (rs.getD (i - 1) noRel).pos + 4) ≤ (rs.getD i noRel).pos) → srt f rs
  | [], f, _ => trivial
  | r :: rs, f, h => by
    refine ⟨by simpa using h 0 (by simp), srt_of rs _ (fun i hi => ?_)⟩
    have := h (i + 1) (by simpa using hi)
    simp only [Nat.succ_ne_zero, if_false, Nat.add_sub_cancel] at this
    cases i with
    | zero => simpa using this
    | succ i => simpa using this
theorem may_srt {o : ObjD} (h : o.may = true) : srt 0 o.rels := by
  apply srt_of
  unfold ObjD.may relsOk at h
  simp only [Bool.and_eq_true, decide_eq_true_eq, List.all_eq_true, List.mem_range] at h
  obtain ⟨-, -, -, h6⟩ := h
  intro i hi
  have h7 := h6 i hi
  unfold relOk freeAt at h7
  simp only [Bool.and_eq_true, decide_eq_true_eq] at h7
  exact h7.1.1
theorem patchRels_in {ss : List Sym} {z : L.Sz} : ∀ (rs : List Rel) (f : Int) (c c' : List UInt8), inCode c.length rs → srt f rs → patchRels ss z c rs = some c' → ∀ r ∈ rs, L.valueOk ss z r = true ∧ ∀ j, j < (fillS ss z r).size → c'[r.pos.toNat + j]? = (fillS ss z r).data.toList[j]?
  | [], f, c, c', _, _, _, r, hr => by cases hr
  | x :: rs, f, c, c', hin, hs, h, r, hr => by
    unfold patchRels at h
    split at h
    · rename_i hok
      have h1 := hin x (List.mem_cons_self ..)
      have h2 := fillS_le ss z x
      have e : (patch c x.pos.toNat (fillS ss z x)).length = c.length := patch_len (by omega)
      have hin' : inCode (patch c x.pos.toNat (fillS ss z x)).length rs := fun q hq => by rw [e]; exact hin q (List.mem_cons_of_mem _ hq)
      rcases List.mem_cons.1 hr with rfl | hr
      · refine ⟨hok, fun j hj => ?_⟩
        rw [patchRels_out rs _ c' hin' h _ (fun q hq => .inl (by have := srt_ge rs _ hs.2 q hq; omega))]
        exact patch_in (by omega) j hj
      · exact patchRels_in rs _ _ c' hin' hs.2 h r hr
    · cases h
theorem list_split {α : Type} {l : List α} {k : Nat} {d : α} (hk : l[k]? = some d) : l = l.take k ++ d :: l.drop (k + 1) := by
  obtain ⟨hlt, e⟩ := List.getElem?_eq_some_iff.1 hk
  rw [← e, ← List.drop_eq_getElem_cons hlt, List.take_append_drop]
/-- All code is what stands ahead of an object, its own code, filled, and the rest. -/
theorem link_split {os : List ObjD} (h : linkE os = 0) {k : Nat} {d : ObjD} (hk : os[k]? = some d) : ∃ a c q, linkC os = a ++ c ++ q ∧ a.length = (L.sizes (os.take k)).b ∧ patchRels (L.syms os) (L.sizes (os.take k)) d.code.data.toList d.rels = some c ∧ c.length = d.code.size := by
  obtain ⟨a1, a2, a3, a4, a5, a6, a7⟩ := link_ok h
  have hmd : d.may = true := a1.2 d (List.mem_of_getElem? hk)
  have a5' := a5
  generalize L.syms os = ss at a5' ⊢
  rw [list_split hk, codes_append] at a5'
  cases e1 : codes ss L.zero (os.take k) with
  | none => rw [e1] at a5'; cases a5'
  | some a =>
    rw [e1] at a5'
    simp only [Option.bind_some, codes] at a5'
    have hz : (os.take k).foldl L.grow L.zero = L.sizes (os.take k) := rfl
    rw [hz] at a5'
    cases e2 : patchRels ss (L.sizes (os.take k)) d.code.data.toList d.rels with
    | none => rw [e2] at a5'; cases a5'
    | some c =>
      rw [e2] at a5'
      simp only [Option.bind_some] at a5'
      cases e3 : codes ss (L.grow (L.sizes (os.take k)) d) (os.drop (k + 1)) with
      | none => rw [e3] at a5'; cases a5'
      | some q =>
        rw [e3] at a5'
        simp only [Option.map_some, Option.some.injEq] at a5'
        rw [← list_split hk] at a5'
        refine ⟨a, c, q, by rw [← a5', List.append_assoc], ?_, rfl, patchRels_len _ _ _ (may_in hmd) e2⟩
        have h1 := codes_len _ _ _ (fun p hp => a1.2 p (List.mem_of_mem_take hp)) e1
        have z1 : L.zero.b = 0 := rfl
        rw [hz] at h1
        omega
theorem look_mem {ss : List Sym} {nm : ByteArray} {s : Sym} (h : L.look ss nm = some s) : s ∈ ss ∧ s.name = nm := by
  unfold L.look at h
  have := List.find?_some h
  exact ⟨List.mem_of_find?_eq_some h, by simpa using this⟩
/-- What a place is filled with is a number of four bytes. -/
theorem value_in {os : List ObjD} (h : linkE os = 0) {k : Nat} {d : ObjD} (hk : os[k]? = some d) {r : Rel} (hr : r ∈ d.rels) (hok : L.valueOk (L.syms os) (L.sizes (os.take k)) r = true) : -2147483648 ≤ L.value (L.syms os) (L.sizes (os.take k)) r ∧ L.value (L.syms os) (L.sizes (os.take k)) r ≤ 2147483647 := by
  obtain ⟨a1, a2, a3, a4, a5, a6, a7⟩ := link_ok h
  have hmd : d.may = true := a1.2 d (List.mem_of_getElem? hk)
  have hrm := may_rels hmd r hr
  have hah := sizes_ahead hk
  have hfit := a4
  unfold L.fit at hfit
  simp at hfit
  by_cases hk1 : r.kind = 1
  · unfold L.value
    rw [if_pos hk1]
    have hp := look_pos a1.2 a1.1 r.name
    have hp2 : ((L.look (L.syms os) r.name).getD noSym).pos ≤ 200000 := by
      cases e : L.look (L.syms os) r.name with
      | none => simp [noSym]
      | some s =>
        have h1 := syms_pos os L.zero a1.2 s (look_mem e).1
        have e1 : (os.foldl L.grow L.zero) = L.sizes os := rfl
        rw [e1] at h1
        simp only [Option.getD_some]
        omega
    omega
  · unfold L.valueOk at hok
    rw [if_neg hk1] at hok
    simp at hok
    omega
theorem landed {os : List ObjD} (h : linkE os = 0) {k : Nat} {d : ObjD} (hk : os[k]? = some d) {r : Rel} (hr : r ∈ d.rels) : ∃ p : Nat, (p : Int) = (L.sizes (os.take k)).b + r.pos ∧ p + 4 ≤ (linkC os).length ∧ (⟨(linkC os).toArray⟩ : ByteArray).extract p (p + 4) = strOfNums (W.bytesV (L.value (L.syms os) (L.sizes (os.take k)) r) 4) ∧ -2147483648 ≤ L.value (L.syms os) (L.sizes (os.take k)) r ∧ L.value (L.syms os) (L.sizes (os.take k)) r ≤ 2147483647 := by
  obtain ⟨a1, a2, a3, a4, a5, a6, a7⟩ := link_ok h
  have hmd : d.may = true := a1.2 d (List.mem_of_getElem? hk)
  obtain ⟨a, c, q, e1, e2, e3, e4⟩ := link_split h hk
  obtain ⟨hok, hat⟩ := patchRels_in _ 0 _ _ (may_in hmd) (may_srt hmd) e3 r hr
  have hv := value_in h hk hr hok
  have hrm := may_rels hmd r hr
  have hsz : (fillS (L.syms os) (L.sizes (os.take k)) r).size = 4 := by
    unfold fillS
    rw [bytesV4 hv.1 hv.2, strOfNums_size, W.bytesOf_length]
  rw [hsz] at hat
  have hlen : (linkC os).length = a.length + c.length + q.length := by rw [e1]; simp [List.length_append]; omega
  have hcl : d.code.data.toList.length = d.code.size := rfl
  refine ⟨(L.sizes (os.take k)).b + r.pos.toNat, by omega, by omega, ?_, hv.1, hv.2⟩
  show _ = fillS (L.syms os) (L.sizes (os.take k)) r
  apply bytes_ext
  have hfl : (fillS (L.syms os) (L.sizes (os.take k)) r).data.toList.length = 4 := hsz
  have hx : ((⟨(linkC os).toArray⟩ : ByteArray).extract ((L.sizes (os.take k)).b + r.pos.toNat) ((L.sizes (os.take k)).b + r.pos.toNat + 4)).data.toList = ((linkC os).drop ((L.sizes (os.take k)).b + r.pos.toNat)).take 4 := by
    simp [ByteArray.data_extract]
  rw [hx]
  apply List.ext_getElem?
  intro j
  by_cases hj : j < 4
  · rw [List.getElem?_take_of_lt hj, List.getElem?_drop, ← hat j hj, e1, ← e2, List.append_assoc, Nat.add_assoc, List.getElem?_append_right (by omega), Nat.add_sub_cancel_left, List.getElem?_append_left (by omega)]
  · rw [List.getElem?_eq_none (by rw [List.length_take]; omega), List.getElem?_eq_none (by omega)]
end Go.Proofs.Ytaoklmphcgigeaa
