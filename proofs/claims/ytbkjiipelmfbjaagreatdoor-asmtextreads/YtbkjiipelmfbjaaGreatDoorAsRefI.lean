/- A line's words, by the document. -/
import Derived.Test.YtbkjiipelmfbjaaGreatDoorAsRefH2
import Derived.Test.YtbkjiipelmfbjaaGreatDoorAsOwn
namespace Go.Proofs.YtbkjiipelmfbjaaGreatDoor
open Go.RowKit Go.Maps Go.Lib
set_option linter.unusedVariables false
set_option linter.unusedSimpArgs false

/-- The words so far, and those that stand open. -/
def WI (A : X.By) (out : List X.By) (fr k : Nat) : Prop := fr ≤ k ∧ X.fields A = out ++ X.fieldsGo ((A.take k).drop fr) (A.drop k)
theorem WI.start (A : X.By) : WI A [] 0 0 := ⟨Nat.le_refl _, by simp [X.fields]⟩
theorem drop_get {A : X.By} {k : Nat} {c : UInt8} (h : A[k]? = some c) : A.drop k = c :: A.drop (k + 1) := by
  obtain ⟨h1, h2⟩ := List.getElem?_eq_some_iff.1 h
  rw [List.drop_eq_getElem_cons h1, h2]
theorem take_get {A : X.By} {k fr : Nat} {c : UInt8} (h : A[k]? = some c) (hf : fr ≤ k) : (A.take (k + 1)).drop fr = (A.take k).drop fr ++ [c] := by
  have h1 := (List.getElem?_eq_some_iff.1 h).1
  rw [List.take_add_one, h]
  simp only [Option.toList_some]
  rw [List.drop_append_of_le_length (by rw [List.length_take]; omega)]
theorem WI.step {A : X.By} {out : List X.By} {fr k : Nat} {c : UInt8} (h : WI A out fr k) (hc : A[k]? = some c) (h32 : c ≠ 32) : WI A out fr (k + 1) := by
  refine ⟨by have := h.1; omega, ?_⟩
  rw [h.2, drop_get hc, X.fieldsGo_step h32, take_get hc h.1]
theorem cur_nil {A : X.By} {fr k : Nat} (hk : k ≤ A.length) : (A.take k).drop fr = [] ↔ ¬ fr < k := by
  rw [List.drop_eq_nil_iff, List.length_take]
  omega
theorem WI.space {A : X.By} {out : List X.By} {fr k : Nat} (h : WI A out fr k) (hc : A[k]? = some 32) : WI A (out ++ (if fr < k then [(A.take k).drop fr] else [])) (k + 1) (k + 1) := by
  refine ⟨Nat.le_refl _, ?_⟩
  have hk := (List.getElem?_eq_some_iff.1 hc).1
  have e : (A.take (k + 1)).drop (k + 1) = [] := (cur_nil (by omega)).2 (by omega)
  rw [h.2, drop_get hc, X.fieldsGo_sp, e, List.append_assoc]
  congr 2
  by_cases hf : fr < k
  · rw [if_neg (fun e2 => (cur_nil (by omega)).1 e2 hf), if_pos hf]
  · rw [if_pos ((cur_nil (by omega)).2 hf), if_neg hf]
theorem WI.fin {A : X.By} {out : List X.By} {fr : Nat} (h : WI A out fr A.length) : X.fields A = out ++ (if fr < A.length then [(A.take A.length).drop fr] else []) := by
  rw [h.2, List.drop_length, X.fieldsGo_end]
  congr 1
  by_cases hf : fr < A.length
  · rw [if_neg (fun e2 => (cur_nil (Nat.le_refl _)).1 e2 hf), if_pos hf]
  · rw [if_pos ((cur_nil (Nat.le_refl _)).2 hf), if_neg hf]
theorem ahead_split (l : X.By) : (X.ahead l = l) ∨ ∃ r, l = X.ahead l ++ 35 :: r := by
  induction l with
  | nil => exact .inl rfl
  | cons c l ih =>
    have e : X.ahead (c :: l) = if c = 35 then [] else c :: X.ahead l := by
      unfold X.ahead
      rw [List.takeWhile_cons]
      by_cases h : c = 35 <;> simp [h]
    rw [e]
    by_cases h : c = 35
    · rw [if_pos h]; exact .inr ⟨l, by rw [h]; rfl⟩
    · rw [if_neg h]
      rcases ih with ih | ⟨r, hr⟩
      · exact .inl (by rw [ih])
      · exact .inr ⟨r, by rw [List.cons_append, ← hr]⟩
theorem ahead_no (l : X.By) : ∀ c ∈ X.ahead l, c ≠ 35 := by
  induction l with
  | nil => intro c hc; simp [X.ahead] at hc
  | cons x l ih =>
    intro c hc
    unfold X.ahead at hc
    rw [List.takeWhile_cons] at hc
    by_cases h : x = 35
    · simp [h] at hc
    · simp only [h, decide_false, Bool.not_false, if_true, List.mem_cons] at hc
      rcases hc with rfl | hc
      · exact h
      · exact ih c hc
theorem sC_snoc (out : List X.By) (x : X.By) : sC (out ++ [x]) = sC out ++ [.string (X.str x)] := by unfold sC; simp
theorem own_end {w : World} {B : Nat} {v : Value} {n : Nat} {l : List X.By} (h : w.ownsRow B 9 1 v n (sC l)) : ∃ a c, v = .slice a l.length c := by
  obtain ⟨a, c, rfl⟩ := own_slice h
  have := h.1
  unfold sC at this
  rw [List.length_map, Nat.mul_one] at this
  exact ⟨a, c, by rw [this]⟩

/-- Words in a row of one's own. -/
def WOut (w : World) (ws : List X.By) (e : Ending) (w' : World) : Prop := ∃ a c, e = .returned (.slice a ws.length c) ∧ w'.ownsRow w.heap.size 9 1 (.slice a ws.length c) ws.length (sC ws) ∧ Below w.heap.size w w'
set_option maxRecDepth 100000 in
set_option maxHeartbeats 8000000 in
theorem rwords_any (s : ByteArray) (hs : s.size ≤ 200000) (w : World) :
    Calls Tryz.prog 11 #[.string s] w (WOut w (X.wordsOf s.data.toList)) := by
  obtain ⟨A, hA⟩ : ∃ A, X.ahead s.data.toList = A := ⟨_, rfl⟩
  have HSP : Hid _ := ahead_split s.data.toList
  have HNO : Hid _ := ahead_no s.data.toList
  have HR : Hid (X.wordsOf s.data.toList = X.fields A) := by show _ = _; rw [← hA]; rfl
  rw [hA] at HSP HNO
  have hAl : A.length ≤ s.size := by
    rw [← len_list]
    rcases HSP.out with e | ⟨r, e⟩
    · rw [← e]; exact Nat.le_refl _
    · rw [e, List.length_append]; omega
  have HGET : Hid (∀ k (hk : k < s.size), k < A.length → A[k]? = some s[k]) := fun k hk hk2 => by
    have := get_list s k hk
    rcases HSP.out with e | ⟨r, e⟩
    · rw [← e] at this; exact this
    · rw [e, List.getElem?_append_left hk2] at this; exact this
  have HTAKE : Hid (∀ k, k ≤ A.length → s.data.toList.take k = A.take k) := fun k hk => by
    rcases HSP.out with e | ⟨r, e⟩
    · rw [← e]
    · rw [e, List.take_append_of_le_length hk]
  have HEND : Hid (A.length < s.size → ∀ h : A.length < s.size, s[A.length].toNat = 35) := fun h1 h => by
    rcases HSP.out with e | ⟨r, e⟩
    · have := congrArg List.length e; rw [len_list] at this; omega
    · have h2 := get_list s A.length h
      rw [e, List.getElem?_append_right (Nat.le_refl _), Nat.sub_self] at h2
      have := Option.some.inj h2
      rw [← this]; rfl
  obtain ⟨is, his, hs0, hs1, hs2⟩ := info_parts infoS
  clear hA
  go_enter Tryz.func11, Tryz.ntmps11
  go_wp2_with fail
  go_loopg [0, 3, 4, 5] (A.length + 2) (fun rr sv lv fv iv wq => ∃ (k fr : Nat) (ss : ByteArray) (out : List X.By), sv = .string ss ∧ fv = .int .i64 fr ∧ iv = .int .i64 k ∧ A.length + 2 - k ≤ rr ∧ out.length ≤ k ∧ Hid ((k ≤ A.length ∧ ss = s ∧ WI A out fr k) ∨ (k = A.length + 1 ∧ ss.size = A.length ∧ out = X.fields A)) ∧ Hid (wq.ownsRow w.heap.size 9 1 lv out.length (sC out)) ∧ Hid (Below w.heap.size w wq))
  case atStart => exact ⟨0, 0, s, [], rfl, rfl, rfl, by omega, by simp, .inl ⟨Nat.zero_le _, rfl, WI.start A⟩, World.ownsRow_nil _ _ _ _, Below.refl _ _⟩
  case round =>
    obtain ⟨k, fr, ss, out, rfl, rfl, rfl, hr, hol, HI, HO, HB⟩ := hrel
    rcases HI.out with ⟨hkA, rfl, hWI⟩ | ⟨hkA, hsz, hout⟩
    rotate_left
    · have hii : ¬ (k : Int) ≤ ss.size := by omega
      have HR2 : Hid (X.wordsOf s.data.toList = out) := by show _ = _; rw [HR.out, hout]
      obtain ⟨ao, co, rfl⟩ := own_end HO.out
      clear hout HI
      go_wp2_with fail
      go_ret
      unfold WOut
      rw [HR2.out]
      exact ⟨_, _, rfl, HO.out, HB.out⟩
    have HWI : Hid (WI A out fr k) := hWI
    have hfk : fr ≤ k := hWI.1
    clear hWI HI
    have hii : (k : Int) ≤ ss.size := by omega
    have hin : 0 ≤ (k : Int) := by omega
    have hfn : 0 ≤ (fr : Int) := by omega
    have hfki : (fr : Int) ≤ k := by omega
    by_cases hlt : k < A.length
    · -- a byte of the words
      have hks : k < ss.size := by omega
      have hks' : (k : Int) < ss.size := by omega
      have hg := HGET.out k hks hlt
      have h35 : ((ss[k].toNat : Int) == 35) = false := by
        have := HNO.out ss[k] (List.mem_of_getElem? hg)
        have : ss[k].toNat ≠ 35 := fun e => this (UInt8.toNat_inj.1 (by rw [e]; rfl))
        simp; omega
      by_cases h32 : ss[k].toNat = 32
      rotate_left
      · have h32' : ((ss[k].toNat : Int) != 32) = true := by simp; omega
        have HN : Hid (WI A out fr (k + 1)) := HWI.out.step hg (fun e => h32 (by rw [e]; rfl))
        clear h32 hg
        go_wp2_with fail
        go_roundg (A.length + 2 - (k + 1))
        case measure => omega
        case rel => exact ⟨k + 1, fr, ss, out, rfl, rfl, by go_num, Nat.le_refl _, by omega, .inl ⟨by omega, rfl, HN.out⟩, HO.out, HB.out⟩
      have h32' : ((ss[k].toNat : Int) != 32) = false := by simp [h32]
      have HSPC : Hid _ := HWI.out.space (by rw [hg]; congr 1; exact UInt8.toNat_inj.1 (by rw [h32]; rfl))
      clear h32 hg
      by_cases hf : fr < k
      rotate_left
      · have hf' : ¬ (fr : Int) < k := by omega
        rw [if_neg hf, List.append_nil] at HSPC
        go_wp2_with fail
        go_roundg (A.length + 2 - (k + 1))
        case measure => omega
        case rel => exact ⟨k + 1, k + 1, ss, out, rfl, by go_num, by go_num, Nat.le_refl _, by omega, .inl ⟨by omega, rfl, HSPC.out⟩, HO.out, HB.out⟩
      have hf' : (fr : Int) < k := by omega
      rw [if_pos hf] at HSPC
      obtain ⟨D, hD⟩ : ∃ D, ss.extract fr k = D := ⟨_, rfl⟩
      have HD : Hid (D = X.str ((A.take k).drop fr)) := by show _ = _; rw [← hD, extract_eq, HTAKE.out k (by omega)]
      have HB2 : Hid (Below wr.heap.size wr (wr.alloc (.cells #[.string D] 9))) := bl1 _ _
      have HO2 : Hid ((wr.alloc (.cells #[.string D] 9)).ownsRow w.heap.size 9 1 u3 out.length (sC out)) := own_thru HO.out HB2.out
      have HNC : Hid (∀ j u, ([.string D] : List Value)[j]? = some u → (wr.alloc (.cells #[.string D] 9)).cell? ((⟨wr.heap.size, 0, none⟩ : Addr).add j) = some u) := fun j u hu => by rw [Addr.add_lit, Nat.zero_add]; exact row_cell (by simpa using hu)
      have HSZ : Hid (w.heap.size ≤ (wr.alloc (.cells #[.string D] 9)).heap.size) := by show _ ≤ _; have := HB.out.size; simp; omega
      go_wp2_with (first | (at_builtin; refine wpList_append_lies _ rfl _ _ 39 rfl w.heap.size 9 is _ 1 16 Tryz.underlying39 his hs0 hs1 hs2 rfl (by decide) u3 out.length _ rfl HO2.out ⟨wr.heap.size, 0, none⟩ 1 1 [.string D] rfl rfl HNC.out (by intro u hu; simp at hu; subst hu; rfl) (by decide) (by unfold maxLen; omega) (by omega) HSZ.out (wr.heap.size + 1) (by simp) ?_; intro x1 cp Y6 ho6 hg6 hat6 hlt6; have HO6 : Hid _ := ho6; have HG6 : Hid _ := hg6; clear ho6 hg6 hat6 hlt6) | go_in)
      go_roundg (A.length + 2 - (k + 1))
      case measure => omega
      case rel =>
        refine ⟨k + 1, k + 1, ss, out ++ [(A.take k).drop fr], rfl, by go_num, by go_num, Nat.le_refl _, by simp; omega, .inl ⟨by omega, rfl, HSPC.out⟩, ?_, below_own (HB.out.trans (HB2.out.mono HB.out.size)) HO2.out HG6.out HSZ.out⟩
        show World.ownsRow _ _ _ _ _ _ _
        rw [sC_snoc, ← HD.out, List.length_append]
        exact HO6.out
    · obtain rfl : k = A.length := by omega
      have HFIN : Hid _ := HWI.out.fin
      -- the end: the text is cut where a note stands
      have key : ∀ (s2 : ByteArray), s2.size = A.length → s2.extract fr A.length = X.str ((A.take A.length).drop fr) → True := fun _ _ _ => trivial
      by_cases hks : A.length < ss.size
      · have hks' : (A.length : Int) < ss.size := by omega
        have h35 : ((ss[A.length].toNat : Int) == 35) = true := by simp [HEND.out hks hks]
        obtain ⟨s2, hs2e⟩ : ∃ s2, ss.extract 0 A.length = s2 := ⟨_, rfl⟩
        have hz2 : s2.size = A.length := by rw [← hs2e, ByteArray.size_extract]; omega
        have HT2 : Hid (s2.data.toList = A) := by
          show _ = _
          rw [← hs2e, extract_eq, str_list, HTAKE.out _ (Nat.le_refl _), List.take_length, List.drop_zero]
        have hii2 : ¬ (A.length : Int) < A.length := by omega
        by_cases hf : fr < A.length
        rotate_left
        · have hf' : ¬ (fr : Int) < A.length := by omega
          rw [if_neg hf, List.append_nil] at HFIN
          go_wp2_with fail
          go_roundg (A.length + 2 - (A.length + 1))
          case measure => omega
          case rel => exact ⟨A.length + 1, A.length + 1, s2, out, rfl, by go_num, by go_num, Nat.le_refl _, by omega, .inr ⟨rfl, hz2, HFIN.out.symm⟩, HO.out, HB.out⟩
        have hf' : (fr : Int) < A.length := by omega
        rw [if_pos hf] at HFIN
        obtain ⟨D, hD⟩ : ∃ D, s2.extract fr A.length = D := ⟨_, rfl⟩
        have HD : Hid (D = X.str ((A.take A.length).drop fr)) := by show _ = _; rw [← hD, extract_eq, HT2.out]
        have HB2 : Hid (Below wr.heap.size wr (wr.alloc (.cells #[.string D] 9))) := bl1 _ _
        have HO2 : Hid ((wr.alloc (.cells #[.string D] 9)).ownsRow w.heap.size 9 1 u3 out.length (sC out)) := own_thru HO.out HB2.out
        have HNC : Hid (∀ j u, ([.string D] : List Value)[j]? = some u → (wr.alloc (.cells #[.string D] 9)).cell? ((⟨wr.heap.size, 0, none⟩ : Addr).add j) = some u) := fun j u hu => by rw [Addr.add_lit, Nat.zero_add]; exact row_cell (by simpa using hu)
        have HSZ : Hid (w.heap.size ≤ (wr.alloc (.cells #[.string D] 9)).heap.size) := by show _ ≤ _; have := HB.out.size; simp; omega
        go_wp2_with (first | (at_builtin; refine wpList_append_lies _ rfl _ _ 39 rfl w.heap.size 9 is _ 1 16 Tryz.underlying39 his hs0 hs1 hs2 rfl (by decide) u3 out.length _ rfl HO2.out ⟨wr.heap.size, 0, none⟩ 1 1 [.string D] rfl rfl HNC.out (by intro u hu; simp at hu; subst hu; rfl) (by decide) (by unfold maxLen; omega) (by omega) HSZ.out (wr.heap.size + 1) (by simp) ?_; intro x1 cp Y6 ho6 hg6 hat6 hlt6; have HO6 : Hid _ := ho6; have HG6 : Hid _ := hg6; clear ho6 hg6 hat6 hlt6) | go_in)
        go_roundg (A.length + 2 - (A.length + 1))
        case measure => omega
        case rel =>
          refine ⟨A.length + 1, A.length + 1, s2, out ++ [(A.take A.length).drop fr], rfl, by go_num, by go_num, Nat.le_refl _, by simp; omega, .inr ⟨rfl, hz2, HFIN.out.symm⟩, ?_, below_own (HB.out.trans (HB2.out.mono HB.out.size)) HO2.out HG6.out HSZ.out⟩
          show World.ownsRow _ _ _ _ _ _ _
          rw [sC_snoc, ← HD.out, List.length_append]
          exact HO6.out
      · have hks' : ¬ (A.length : Int) < ss.size := by omega
        have hz2 : ss.size = A.length := by omega
        by_cases hf : fr < A.length
        rotate_left
        · have hf' : ¬ (fr : Int) < A.length := by omega
          rw [if_neg hf, List.append_nil] at HFIN
          go_wp2_with fail
          go_roundg (A.length + 2 - (A.length + 1))
          case measure => omega
          case rel => exact ⟨A.length + 1, A.length + 1, ss, out, rfl, by go_num, by go_num, Nat.le_refl _, by omega, .inr ⟨rfl, hz2, HFIN.out.symm⟩, HO.out, HB.out⟩
        have hf' : (fr : Int) < A.length := by omega
        rw [if_pos hf] at HFIN
        obtain ⟨D, hD⟩ : ∃ D, ss.extract fr A.length = D := ⟨_, rfl⟩
        have HD : Hid (D = X.str ((A.take A.length).drop fr)) := by show _ = _; rw [← hD, extract_eq, HTAKE.out _ (Nat.le_refl _)]
        have HZ2 : Hid _ := hz2
        clear hz2
        have HB2 : Hid (Below wr.heap.size wr (wr.alloc (.cells #[.string D] 9))) := bl1 _ _
        have HO2 : Hid ((wr.alloc (.cells #[.string D] 9)).ownsRow w.heap.size 9 1 u3 out.length (sC out)) := own_thru HO.out HB2.out
        have HNC : Hid (∀ j u, ([.string D] : List Value)[j]? = some u → (wr.alloc (.cells #[.string D] 9)).cell? ((⟨wr.heap.size, 0, none⟩ : Addr).add j) = some u) := fun j u hu => by rw [Addr.add_lit, Nat.zero_add]; exact row_cell (by simpa using hu)
        have HSZ : Hid (w.heap.size ≤ (wr.alloc (.cells #[.string D] 9)).heap.size) := by show _ ≤ _; have := HB.out.size; simp; omega
        go_wp2_with (first | (at_builtin; refine wpList_append_lies _ rfl _ _ 39 rfl w.heap.size 9 is _ 1 16 Tryz.underlying39 his hs0 hs1 hs2 rfl (by decide) u3 out.length _ rfl HO2.out ⟨wr.heap.size, 0, none⟩ 1 1 [.string D] rfl rfl HNC.out (by intro u hu; simp at hu; subst hu; rfl) (by decide) (by unfold maxLen; omega) (by omega) HSZ.out (wr.heap.size + 1) (by simp) ?_; intro x1 cp Y6 ho6 hg6 hat6 hlt6; have HO6 : Hid _ := ho6; have HG6 : Hid _ := hg6; clear ho6 hg6 hat6 hlt6) | go_in)
        go_roundg (A.length + 2 - (A.length + 1))
        case measure => omega
        case rel =>
          refine ⟨A.length + 1, A.length + 1, ss, out ++ [(A.take A.length).drop fr], rfl, by go_num, by go_num, Nat.le_refl _, by simp; omega, .inr ⟨rfl, HZ2.out, HFIN.out.symm⟩, ?_, below_own (HB.out.trans (HB2.out.mono HB.out.size)) HO2.out HG6.out HSZ.out⟩
          show World.ownsRow _ _ _ _ _ _ _
          rw [sC_snoc, ← HD.out, List.length_append]
          exact HO6.out

end Go.Proofs.YtbkjiipelmfbjaaGreatDoor
