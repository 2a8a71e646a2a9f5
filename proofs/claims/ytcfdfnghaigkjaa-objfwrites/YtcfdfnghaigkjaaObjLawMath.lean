/- Objects that may be, their forms: what the laws need. No program in sight. -/
import Derived.Test.YtcfdfnghaigkjaaObjSame
namespace Go.Proofs.Ytcfdfnghaigkjaa
open Go.RowKit Go.Maps Go.Lib
set_option linter.unusedVariables false

theorem sym_in {cl dl : Nat} {s : Sym} (h : symOk cl dl s = true) (h1 : cl ≤ 65536) (h2 : dl ≤ 4096) : SymIn s := by
  unfold symOk nameOk at h
  simp only [Bool.and_eq_true, decide_eq_true_eq] at h
  obtain ⟨⟨a1, a2⟩, a3, a4⟩ := h
  unfold roomOf at a4
  refine ⟨a2, ?_, a3, ?_⟩
  · split at a4
    · omega
    · split at a4
      · omega
      · omega
  · split at a4
    · omega
    · split at a4
      · omega
      · omega
theorem rel_in {cl : Nat} {fr : Int} {r : Rel} (h : relOk cl fr r = true) (h0 : 0 ≤ fr) (h1 : cl ≤ 65536) (hw : (Lit.int .i64 r.add).wf = true) : RelIn r ∧ 0 ≤ r.pos + 4 := by
  unfold relOk nameOk addOk at h
  simp only [Bool.and_eq_true, decide_eq_true_eq] at h
  obtain ⟨⟨a1, a2⟩, ⟨a3, a4⟩, a5⟩ := h
  refine ⟨⟨⟨by omega, by omega⟩, ?_, a4, hw⟩, by omega⟩
  split at a5
  · omega
  · split at a5
    · omega
    · cases a5
theorem may_in {o : ObjD} (hm : o.may = true) (hd : ∀ x ∈ o.data, (Lit.int .i64 x).wf = true) (hr : ∀ x ∈ o.rels, (Lit.int .i64 x.add).wf = true) : ObjIn o := by
  obtain ⟨m1, m2, m3, m4⟩ := may_parts hm
  unfold symsOk at m3
  unfold relsOk at m4
  simp only [Bool.and_eq_true, decide_eq_true_eq, List.all_eq_true, List.mem_range] at m3 m4
  refine ⟨m1, ⟨m2, hd⟩, ⟨m3.1, fun x hx => ?_⟩, ⟨m4.1, ?_⟩⟩
  · obtain ⟨i, hi, rfl⟩ := getD_of_mem hx noSym
    have := m3.2 i hi
    unfold symAt at this
    rw [Bool.and_eq_true] at this
    exact sym_in this.2 m1 m2
  · have key : ∀ i, i < o.rels.length → RelIn (o.rels.getD i noRel) ∧ 0 ≤ (o.rels.getD i noRel).pos + 4 := by
      intro i
      induction i with
      | zero => exact fun hi => rel_in (m4.2 0 hi) (by simp [freeAt]) m1 (hr _ (by simp [List.getD, hi]))
      | succ i ih =>
        intro hi
        have h0 := (ih (by omega)).2
        exact rel_in (m4.2 (i + 1) hi) (by simpa [freeAt] using h0) m1 (hr _ (by simp [List.getD, hi]))
    intro x hx
    obtain ⟨i, hi, rfl⟩ := getD_of_mem hx noRel
    exact (key i hi).1
theorem txt_bd {s : ByteArray} (h : s.size ≤ 65536) : ∀ n ∈ txt s, 0 ≤ n ∧ n ≤ 255 := fun n hn => by
  rcases List.mem_append.1 hn with h1 | h1
  · exact W.put_bd _ (by omega) (by omega) n h1
  · exact nums_bd s n h1
theorem form_bd {o : ObjD} (h : ObjIn o) : ∀ n ∈ formB o, 0 ≤ n ∧ n ≤ 255 := fun n hn => by
  obtain ⟨h1, ⟨h2, h3⟩, ⟨h4, h5⟩, ⟨h6, h7⟩⟩ := h
  simp only [formB, List.mem_append, List.mem_flatMap] at hn
  rcases hn with (((hn | hn) | (hn | ⟨x, hx, hn⟩)) | (hn | ⟨x, hx, hn⟩)) | (hn | ⟨x, hx, hn⟩)
  · simp at hn; omega
  · exact txt_bd h1 n hn
  · exact W.put_bd _ (by omega) (by omega) n hn
  · exact (long_len (h3 x hx)).2 n hn
  · exact W.put_bd _ (by omega) (by omega) n hn
  · obtain ⟨a1, a2, a3⟩ := h5 x hx
    simp only [symB, List.mem_append, List.mem_singleton] at hn
    rcases hn with hn | hn | hn
    · exact txt_bd (by omega) n hn
    · omega
    · exact W.put_bd _ (by omega) (by omega) n hn
  · exact W.put_bd _ (by omega) (by omega) n hn
  · obtain ⟨a1, a2, a3, a4⟩ := h7 x hx
    simp only [relB, List.mem_append, List.mem_singleton] at hn
    rcases hn with hn | hn | hn | hn
    · exact W.put_bd _ (by omega) (by omega) n hn
    · omega
    · exact txt_bd (by omega) n hn
    · exact (long_len a4).2 n hn
/-- The form of an object. -/
def wrB (o : ObjD) : ByteArray := strOfNums (formB o)
theorem nums_wr {o : ObjD} (h : ObjIn o) : nums (wrB o) = formB o := nums_of (form_bd h)
theorem rd_wr {o : ObjD} (h : ObjIn o) (hm : o.may = true) : rdObj (wrB o) = some o := obj_compl h hm (nums_wr h)
theorem wr_rd {s : ByteArray} {o : ObjD} (h : rdObj s = some o) : wrB o = s := by
  unfold wrB
  rw [← (obj_sound h).1, str_nums]
theorem wr_inj {o p : ObjD} (ho : ObjIn o) (hp : ObjIn p) (hm : o.may = true) (hn : p.may = true) (h : wrB o = wrB p) : o = p := by
  have h1 := rd_wr ho hm
  rw [h, rd_wr hp hn] at h1
  exact (Option.some.inj h1).symm
theorem wr_size {o : ObjD} (h : ObjIn o) : (wrB o).size ≤ 100000000 := by
  have h0 := nums_wr h
  rw [← nums_len, h0]
  obtain ⟨h1, ⟨h2, h3⟩, ⟨h4, h5⟩, ⟨h6, h7⟩⟩ := h
  have a1 := nums_len o.code
  have a2 := W.put_length (o.code.size : Int)
  have a3 := W.put_length (o.data.length : Int)
  have a4 := W.put_length (o.syms.length : Int)
  have a5 := W.put_length (o.rels.length : Int)
  have b1 := flat_len long 8 o.data (fun x hx => by have := (long_len (h3 x hx)).1; omega)
  have b2 := flat_len symB 1100 o.syms (fun x hx => symB_len (by have := (h5 x hx).1; omega))
  have b3 := flat_len relB 1100 o.rels (fun x hx => relB_len (by have := (h7 x hx).2.2.1; omega) (h7 x hx).2.2.2)
  simp only [formB, txt, List.length_append, List.length_cons, List.length_nil]
  omega
/-- Of a form a part, or a form with more behind it, is none's. -/
theorem rd_cut {o : ObjD} (h : ObjIn o) {k : Nat} (hk : k < (wrB o).size) : rdObj (sub (wrB o) 0 k) = none := by
  cases e : rdObj (sub (wrB o) 0 k) with
  | none => rfl
  | some p =>
    obtain ⟨h1, h2, h3⟩ := obj_sound e
    rw [nums_sub] at h1
    have h4 : formB o = formB p ++ (formB o).drop k := by
      rw [← h1, ← nums_wr h]
      exact (List.take_append_drop k _).symm
    have h5 := form_cut h h2 (form_bd h) h4
    have h6 := congrArg List.length h5
    have h7 := nums_len (wrB o)
    rw [nums_wr h] at h7
    rw [List.length_drop, List.length_nil] at h6
    omega
theorem rd_more {o : ObjD} (h : ObjIn o) (r : ByteArray) (hr : 0 < r.size) : rdObj (wrB o ++ r) = none := by
  cases e : rdObj (wrB o ++ r) with
  | none => rfl
  | some p =>
    obtain ⟨h1, h2, h3⟩ := obj_sound e
    have hn : nums (wrB o ++ r) = formB o ++ nums r := by
      rw [← nums_wr h]
      unfold nums W.tail
      simp
    rw [hn] at h1
    have h5 := form_cut h2 h (form_bd h2) h1.symm
    have h6 := congrArg List.length h5
    rw [nums_len, List.length_nil] at h6
    omega
theorem ObjV.isin {w : World} {v : Value} {o : ObjD} (h : ObjV w v o) (hm : o.may = true) : ObjIn o := by
  obtain ⟨a1, l1, c1, a2, l2, c2, a3, l3, c3, e, hs, h1, h2, h3⟩ := h.form
  exact may_in hm h1.fits (fun x hx => (h3.fits x hx).2.2.2)

end Go.Proofs.Ytcfdfnghaigkjaa
