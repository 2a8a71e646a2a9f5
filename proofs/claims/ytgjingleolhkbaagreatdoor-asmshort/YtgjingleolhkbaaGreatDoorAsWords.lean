/- A line's words. -/
import Derived.Test.YtgjingleolhkbaaGreatDoorAsSaid
namespace Go.Proofs.YtgjingleolhkbaaGreatDoor
open Go.RowKit
set_option linter.unusedVariables false
set_option linter.unusedSimpArgs false

theorem cut_spec (b : UInt8) : ∀ l : X.By, (∃ a r, Go.Lib.cut l [b] = (a, r, true) ∧ l = a ++ b :: r ∧ ∀ c ∈ a, c ≠ b) ∨ (Go.Lib.cut l [b] = (l, [], false) ∧ ∀ c ∈ l, c ≠ b)
  | [] => .inr ⟨by simp [Go.Lib.cut, Go.Lib.index, List.isPrefixOf], by simp⟩
  | c :: l => by
    have ih := cut_spec b l
    have hge := Go.Lib.index_ge l [b]
    unfold Go.Lib.cut at *
    by_cases h : c = b
    · subst h
      have hi : Go.Lib.index (c :: l) [c] = 0 := by
        conv => lhs; unfold Go.Lib.index
        rw [if_pos (by simp [List.isPrefixOf])]
      rw [hi]
      exact .inl ⟨[], l, by simp, by simp, by simp⟩
    · have hi : Go.Lib.index (c :: l) [b] = if Go.Lib.index l [b] == -1 then -1 else Go.Lib.index l [b] + 1 := by
        conv => lhs; unfold Go.Lib.index
        rw [if_neg]
        intro e
        simp [List.isPrefixOf] at e
        exact h e.symm
      rw [hi]
      by_cases hm : Go.Lib.index l [b] = -1
      · rw [hm] at ih ⊢
        rcases ih with ⟨a, r, h1, -⟩ | ⟨-, h2⟩
        · simp at h1
        · refine .inr ⟨by simp, fun d hd => ?_⟩
          rcases List.mem_cons.1 hd with rfl | hd
          · exact h
          · exact h2 d hd
      · have hm' : (Go.Lib.index l [b] == -1) = false := by simpa using hm
        rw [hm']
        rcases ih with ⟨a, r, h1, h2, h3⟩ | ⟨h1, -⟩
        · refine .inl ⟨c :: a, r, ?_, by rw [h2]; rfl, fun d hd => ?_⟩
          · rw [if_pos (by omega)] at h1
            simp only [Prod.mk.injEq, and_true] at h1
            simp only [Bool.false_eq_true, if_false]
            rw [if_pos (by omega), show (Go.Lib.index l [b] + 1).toNat = (Go.Lib.index l [b]).toNat + 1 by omega, List.take_succ_cons, h1.1]
            simp only [List.length_cons, List.length_nil, Nat.zero_add] at h1 ⊢
            rw [List.drop_succ_cons, h1.2]
          · rcases List.mem_cons.1 hd with rfl | hd
            · exact h
            · exact h3 d hd
        · rw [if_pos (by omega)] at h1
          simp at h1
theorem ahead_app {a r : X.By} (h : ∀ c ∈ a, c ≠ 35) : X.ahead (a ++ 35 :: r) = a := by
  induction a with
  | nil => simp [X.ahead]
  | cons c a ih =>
    have h1 := h c (by simp)
    have := ih (fun d hd => h d (by simp [hd]))
    unfold X.ahead at this ⊢
    rw [List.cons_append, List.takeWhile_cons]
    simp [h1, this]
theorem cut_ahead (l : X.By) : (Go.Lib.cut l [35]).1 = X.ahead l := by
  rcases cut_spec 35 l with ⟨a, r, h1, h2, h3⟩ | ⟨h1, h2⟩
  · rw [h1, h2, ahead_app h3]
  · rw [h1, X.ahead_all h2]
/-- A line, and what stands behind it. -/
theorem cut_line (l : X.By) : (∃ a r, Go.Lib.cut l [10] = (a, r, true) ∧ X.lines l = a :: X.lines r ∧ a.length + r.length + 1 = l.length) ∨ (Go.Lib.cut l [10] = (l, [], false) ∧ X.lines l = [l]) := by
  rcases cut_spec 10 l with ⟨a, r, h1, h2, h3⟩ | ⟨h1, h2⟩
  · refine .inl ⟨a, r, h1, by rw [h2, X.lines_app a r h3], by rw [h2]; simp; omega⟩
  · exact .inr ⟨h1, X.lines_one l h2⟩

/-! ### FieldsFunc cuts at the byte 32 -/
def spc (x : Nat) : Bool := decide (x = 32)
theorem get_eq (s : ByteArray) (k : Nat) (h : k < s.size) : s.get! k = s[k] := by
  simp [ByteArray.get!, ByteArray.getElem_eq_getElem_data, h, getElem!_pos]
theorem dec_facts (s : ByteArray) (pos : Nat) (h : pos < s.size) : ((Utf8.decode s pos).1 = 32 → (Utf8.decode s pos).2 = 1 ∧ (s.get! pos).toNat = 32) ∧ ((Utf8.decode s pos).1 ≠ 32 → ∀ j, j < (Utf8.decode s pos).2 → (s.get! (pos + j)).toNat ≠ 32) ∧ 1 ≤ (Utf8.decode s pos).2 ∧ pos + (Utf8.decode s pos).2 ≤ s.size := by
  unfold Utf8.decode
  simp only [Utf8.runeError, Nat.add_zero]
  have cont : ∀ k, (decide (pos + k < s.size) && ((s.get! (pos + k)).toNat / 64 == 2)) = true → pos + k < s.size ∧ 128 ≤ (s.get! (pos + k)).toNat := fun k hk => by
    simp only [Bool.and_eq_true, decide_eq_true_eq, beq_iff_eq] at hk
    omega
  have one : ∀ j, j < 1 → j = 0 := fun j hj => by omega
  split
  · refine ⟨fun e => ⟨rfl, e⟩, fun e j hj => ?_, Nat.le_refl _, h⟩
    obtain rfl := one j hj
    exact e
  · rename_i h0
    have single : ((65533, 1) : Nat × Nat).1 ≠ 32 ∧ ∀ j, j < 1 → (s.get! (pos + j)).toNat ≠ 32 := ⟨by decide, fun j hj => by obtain rfl := one j hj; simp only [Nat.add_zero]; omega⟩
    split
    · rename_i h1
      simp only [Bool.and_eq_true] at h1
      obtain ⟨c1, c2⟩ := cont 1 (by simpa using h1.2)
      split
      · refine ⟨fun e => by simp at e; omega, fun _ j hj => ?_, by simp, by simp; omega⟩
        have : j = 0 ∨ j = 1 := by simp at hj; omega
        rcases this with rfl | rfl
        · simp only [Nat.add_zero]; omega
        · omega
      · exact ⟨fun e => absurd e single.1, fun _ => single.2, Nat.le_refl _, h⟩
    · split
      · rename_i h1
        simp only [Bool.and_eq_true] at h1
        obtain ⟨c1, c2⟩ := cont 1 (by simpa using h1.1.2)
        obtain ⟨c3, c4⟩ := cont 2 (by simpa using h1.2)
        split
        · rename_i h2
          simp only [Bool.and_eq_true, decide_eq_true_eq] at h2
          refine ⟨fun e => by simp only at e; omega, fun _ j hj => ?_, by simp, by simp; omega⟩
          have : j = 0 ∨ j = 1 ∨ j = 2 := by simp at hj; omega
          rcases this with rfl | rfl | rfl
          · simp only [Nat.add_zero]; omega
          · omega
          · omega
        · exact ⟨fun e => absurd e single.1, fun _ => single.2, Nat.le_refl _, h⟩
      · split
        · rename_i h1
          simp only [Bool.and_eq_true] at h1
          obtain ⟨c1, c2⟩ := cont 1 (by simpa using h1.1.1.2)
          obtain ⟨c3, c4⟩ := cont 2 (by simpa using h1.1.2)
          obtain ⟨c5, c6⟩ := cont 3 (by simpa using h1.2)
          split
          · rename_i h2
            simp only [Bool.and_eq_true, decide_eq_true_eq] at h2
            refine ⟨fun e => by simp only at e; omega, fun _ j hj => ?_, by simp, by simp; omega⟩
            have : j = 0 ∨ j = 1 ∨ j = 2 ∨ j = 3 := by simp at hj; omega
            rcases this with rfl | rfl | rfl | rfl
            · simp only [Nat.add_zero]; omega
            · omega
            · omega
            · omega
          · exact ⟨fun e => absurd e single.1, fun _ => single.2, Nat.le_refl _, h⟩
        · exact ⟨fun e => absurd e single.1, fun _ => single.2, Nat.le_refl _, h⟩

def openP (l : X.By) (st : Option Nat) (pos : Nat) : X.By := match st with | none => [] | some a => (l.take pos).drop a
theorem piece_eq (s : ByteArray) (a b : Nat) : (s.extract a b).data.toList = (s.data.toList.take b).drop a := by
  rw [extract_eq, str_list]
theorem take_more (l : X.By) (a pos K : Nat) (h : a ≤ pos) (hp : pos ≤ l.length) : (l.take (pos + K)).drop a = (l.take pos).drop a ++ (l.drop pos).take K := by
  rw [List.take_add, List.drop_append_of_le_length (by rw [List.length_take]; omega)]
theorem bytes_no32 (s : ByteArray) (pos K : Nat) (hK : pos + K ≤ s.size) (h : ∀ j, j < K → (s.get! (pos + j)).toNat ≠ 32) : ∀ c ∈ (s.data.toList.drop pos).take K, c ≠ 32 := by
  intro c hc
  obtain ⟨j, hj⟩ := List.mem_iff_getElem?.1 hc
  rw [List.getElem?_take] at hj
  split at hj
  · rename_i hjK
    rw [List.getElem?_drop, get_list s (pos + j) (by omega)] at hj
    injection hj with hj
    rintro rfl
    have := h j hjK
    rw [get_eq s (pos + j) (by omega), hj] at this
    exact this rfl
  · cases hj
theorem spans_go (s : ByteArray) : ∀ (f pos : Nat) (st : Option Nat) (acc : List (Nat × Nat)), s.size ≤ pos + f → pos ≤ s.size → (∀ a, st = some a → a < pos) →
    (Lib.closeSpans s (Lib.spansFromP spc s f pos st acc)).map (fun x => (s.extract x.1 x.2).data.toList) = acc.map (fun x => (s.extract x.1 x.2).data.toList) ++ X.fieldsGo (openP s.data.toList st pos) (s.data.toList.drop pos)
  | f, pos, st, acc, hf, hp, hst => by
    by_cases hlt : pos < s.size
    rotate_left
    · obtain rfl : pos = s.size := by omega
      rw [Lib.spansFromP_end spc s f _ _ _ hlt, List.drop_eq_nil_of_le (by simp)]
      cases st with
      | none => simp [Lib.closeSpans, X.fieldsGo, openP]
      | some a =>
        have ha := hst a rfl
        have hne : (s.data.toList.take s.size).drop a ≠ [] := by
          intro e
          have := congrArg List.length e
          rw [List.length_drop, List.length_take, len_list] at this
          simp at this
          omega
        have hne' : openP s.data.toList (some a) s.size ≠ [] := hne
        rw [X.fieldsGo, if_neg hne']
        simp only [Lib.closeSpans, openP, List.map_append, List.map_cons, List.map_nil, piece_eq]
    · cases f with
      | zero => omega
      | succ f =>
        obtain ⟨d1, d2, d3, d4⟩ := dec_facts s pos hlt
        have hdc := drop_cons s pos hlt
        unfold Lib.spansFromP
        rw [if_pos hlt]
        obtain ⟨R, hR⟩ : ∃ R, (Utf8.decode s pos).1 = R := ⟨_, rfl⟩
        obtain ⟨K, hK⟩ : ∃ K, (Utf8.decode s pos).2 = K := ⟨_, rfl⟩
        rw [hR] at d1 d2 ⊢
        rw [hK] at d1 d2 d3 d4 ⊢
        by_cases h32 : R = 32
        · obtain ⟨e1, e2⟩ := d1 h32
          subst e1
          have hb : s[pos] = 32 := UInt8.toNat_inj.1 (by rw [← get_eq s pos hlt, e2]; rfl)
          have hs : spc R = true := by simp [spc, h32]
          rw [hs, if_pos rfl, hdc, hb]
          cases st with
          | none =>
            simp only
            rw [spans_go s f (pos + 1) none acc (by omega) (by omega) (fun a h => by cases h)]
            simp [X.fieldsGo, openP]
          | some a =>
            have ha := hst a rfl
            have hne : openP s.data.toList (some a) pos ≠ [] := by
              intro e
              have := congrArg List.length e
              unfold openP at this
              rw [List.length_drop, List.length_take, len_list] at this
              simp at this
              omega
            simp only
            rw [spans_go s f (pos + 1) none _ (by omega) (by omega) (fun a h => by cases h), X.fieldsGo, if_pos rfl, if_neg hne]
            simp only [openP, List.map_append, List.map_cons, List.map_nil, piece_eq, List.append_assoc, List.cons_append, List.nil_append]
        · have hs : spc R = false := by simp [spc, h32]
          rw [hs, if_neg (by simp)]
          have hbs := bytes_no32 s pos K d4 (d2 h32)
          have hsplit : s.data.toList.drop pos = (s.data.toList.drop pos).take K ++ s.data.toList.drop (pos + K) := by rw [← List.drop_drop, List.take_append_drop]
          have hlen : pos ≤ s.data.toList.length := by rw [len_list]; exact hp
          cases st with
          | none =>
            simp only
            rw [spans_go s f (pos + K) (some pos) acc (by omega) (by omega) (fun a h => by cases h; omega)]
            conv => rhs; rw [hsplit, X.fieldsGo_app _ _ _ hbs]
            simp only [openP]
            rw [take_more _ pos pos K (Nat.le_refl _) hlen, List.drop_eq_nil_of_le (by rw [List.length_take]; omega)]
          | some a =>
            have ha := hst a rfl
            simp only
            rw [spans_go s f (pos + K) (some a) acc (by omega) (by omega) (fun a' h => by cases h; omega)]
            conv => rhs; rw [hsplit, X.fieldsGo_app _ _ _ hbs]
            simp only [openP]
            rw [take_more _ a pos K (by omega) hlen]
theorem fields_eq (s : ByteArray) : Lib.goFieldsP spc s = (X.fields s.data.toList).map X.str := by
  have h := spans_go s s.size 0 none [] (by omega) (Nat.zero_le _) (fun a h => by cases h)
  simp only [List.map_nil, List.nil_append, List.drop_zero, openP] at h
  unfold X.fields Lib.goFieldsP Lib.spansOfP
  rw [← h, List.map_map]
  refine List.map_congr_left fun x _ => ?_
  exact (str_eq _).symm

set_option maxRecDepth 100000 in
set_option maxHeartbeats 4000000 in
theorem wordsOf_any (s : ByteArray) (hs : s.size ≤ 200000) (w : World) (ht : Tab w) :
    Calls Tryz.prog 84 #[.string s] w (SaidOut w (X.wordsOf s.data.toList)) := by
  obtain ⟨m, hm⟩ := ht.ml
  have HR : Hid (X.wordsOf s.data.toList = X.fields (X.str (X.ahead s.data.toList)).data.toList) := by show _ = _; rw [str_list]; rfl
  have hcut := fun w h => Tryz.strings_Cut s { data := #[35] } m w (by omega) h
  have h1 : (⟨(Go.Lib.cut s.data.toList [35]).1.toArray⟩ : ByteArray) = X.str (X.ahead s.data.toList) := by rw [cut_ahead]; rfl
  have hal : (X.str (X.ahead s.data.toList)).size ≤ 200000 := by
    rw [str_size]
    have : (X.ahead s.data.toList).length ≤ s.data.toList.length := List.Sublist.length_le (List.takeWhile_sublist _)
    rw [len_list] at this
    omega
  have hcut' : ∀ w, w.cell? ⟨3, 0, none⟩ = some (.int .i64 m) → Calls Tryz.prog 83 #[.string s, .string { data := #[35] }] w fun e w' => ∃ r f, e = .returned (.tuple #[.string (X.str (X.ahead s.data.toList)), .string r, .bool f]) ∧ Below w.heap.size w w' := fun w h => by
    refine (hcut w h).mono ?_
    rintro e w' ⟨rfl, n, rfl⟩
    refine ⟨⟨(Go.Lib.cut s.data.toList [35]).2.1.toArray⟩, (Go.Lib.cut s.data.toList [35]).2.2, ?_, below_drew' (Below.refl _ _) n⟩
    show Ending.returned (.tuple #[.string ⟨(Go.Lib.cut s.data.toList [35]).1.toArray⟩, _, _]) = _
    rw [h1]
  clear hcut h1
  generalize X.str (X.ahead s.data.toList) = A at *
  go_enter Tryz.func84, Tryz.ntmps84
  go_wp2_with fail
  refine (hcut' _ hm).mono ?_
  rintro e w1 ⟨r, f, rfl, hb⟩
  have HB : Hid _ := hb
  clear hb hcut' hm
  have hff := Tryz.strings_FieldsFunc_runes 103 #[] (enters_of Tryz.func103 (by kernel_rfl) rfl) spc A w1 (by omega) (fun W x hx hb => (isSpace_any (x : Int) W).mono (fun e w' ⟨h1, h2⟩ => ⟨by rw [h1]; exact ret_b (by unfold spc; rw [Bool.eq_iff_iff]; simp; omega), 0, by rw [h2]; rfl⟩))
  rw [fields_eq, List.length_map] at hff
  rw [List.map_map] at hff
  go_wp2_with fail
  refine hff.mono ?_
  rintro e w2 ⟨g, rfl, -, ho, hb⟩
  have HO : Hid _ := ho
  have HB2 : Hid _ := hb
  clear hff ho hb
  go_wp2_with fail
  go_ret
  unfold SaidOut
  rw [HR.out]
  exact ⟨_, _, rfl, own_baseB HO.out HB.out.size, HB.out.trans (HB2.out.mono HB.out.size)⟩

end Go.Proofs.YtgjingleolhkbaaGreatDoor
