/- The parts: each object's acts, by their numbers. -/
import Derived.Test.YtafdjmccgijmnaaHiPartsV
import Derived.Deep.AppendLies
namespace Go.Proofs.Ytafdjmccgijmnaa
open Go.RowKit A Go.Maps
set_option linter.unusedVariables false
set_option linter.unusedSimpArgs false
namespace H
def key (os : List At) (ts : List Ac) (k : Nat) : Option Nat := obAt os (ts.getD k noAc)
def addTo (gs : List (Option Nat × List Nat)) (q : Option Nat) (k : Nat) : List (Option Nat × List Nat) := match gs.findIdx? (fun g => decide (g.1 = q)) with
  | some i => gs.set i (q, (gs.getD i (none, [])).2 ++ [k])
  | none => gs ++ [(q, [k])]
def parts (os : List At) (ts : List Ac) : Nat → List (Option Nat × List Nat)
  | 0 => []
  | k + 1 => addTo (parts os ts k) (key os ts k) k
def obK (os : List At) (q : Option Nat) : List At := match q with
  | none => []
  | some j => [os.getD j noAt]
theorem key_ok {os : List At} {ts : List Ac} {k j : Nat} (h : key os ts k = some j) : j < os.length := by
  unfold key obAt at h
  split at h
  · next hh => cases h; exact hh.1
  · cases h
theorem addTo_ks {gs : List (Option Nat × List Nat)} {q : Option Nat} {k : Nat} : ∀ x ∈ addTo gs q k, x.1 = q ∨ ∃ y ∈ gs, y.1 = x.1 := by
  intro x hx
  unfold addTo at hx
  split at hx
  · rcases List.mem_or_eq_of_mem_set hx with h | h
    · exact .inr ⟨x, h, rfl⟩
    · exact .inl (by rw [h])
  · rcases List.mem_append.1 hx with h | h
    · exact .inr ⟨x, h, rfl⟩
    · exact .inl (by rw [List.mem_singleton.1 h])
theorem parts_len (os : List At) (ts : List Ac) : ∀ k, (parts os ts k).length ≤ k
  | 0 => Nat.le_refl _
  | k + 1 => by
    have ih := parts_len os ts k
    rw [parts, addTo]
    split
    · rw [List.length_set]; omega
    · rw [List.length_append]; simp; omega
theorem parts_all (os : List At) (ts : List Ac) : ∀ k, ∀ x ∈ parts os ts k, x.2.length ≤ k
  | 0, x, hx => by cases hx
  | k + 1, x, hx => by
    have ih := parts_all os ts k
    rw [parts, addTo] at hx
    split at hx
    · next i hi =>
      rcases List.mem_or_eq_of_mem_set hx with h | h
      · have := ih x h; omega
      · rw [List.findIdx?_eq_some_iff_getElem] at hi
        obtain ⟨hl, -⟩ := hi
        have := ih ((parts os ts k).getD i (none, [])) (by simp [List.getD, hl])
        rw [h, List.length_append]
        simp only [List.length_cons, List.length_nil]
        omega
    · rcases List.mem_append.1 hx with h | h
      · have := ih x h; omega
      · rw [List.mem_singleton.1 h]; simp
theorem parts_ks {os : List At} {ts : List Ac} : ∀ (k : Nat), ∀ x ∈ parts os ts k, ∀ j, x.1 = some j → j < os.length
  | 0, x, hx, _, _ => by cases hx
  | k + 1, x, hx, j, hj => by
    rcases addTo_ks x hx with h | ⟨y, hy, h⟩
    · exact key_ok (k := k) (by rw [← h]; exact hj)
    · exact parts_ks k y hy j (by rw [h]; exact hj)
theorem names_key {os : List At} (hm : mayAll os = true) {p q : Option Nat} (hp : ∀ j, p = some j → j < os.length) (hq : ∀ j, q = some j → j < os.length) : decide ((obK os p).map At.name = (obK os q).map At.name) = decide (p = q) := by
  rw [decide_eq_decide]
  constructor
  · intro h
    match p, q, h, hp, hq with
    | none, none, _, _, _ => rfl
    | none, some j, h, _, _ => simp [obK] at h
    | some i, none, h, _, _ => simp [obK] at h
    | some i, some j, h, hp, hq =>
      have hi := hp i rfl
      have hj := hq j rfl
      have h1 : (os.getD i noAt).name = (os.getD j noAt).name := by simpa [obK] using h
      by_cases e : i = j
      · rw [e]
      · exfalso
        rcases Nat.lt_or_gt_of_ne e with hlt | hlt
        · have := may_at hm hj
          unfold atOk freeName at this
          rw [Bool.and_eq_true, List.all_eq_true] at this
          have := this.1 i (List.mem_range.2 hlt)
          simp only [decide_eq_true_eq] at this
          exact this h1
        · have := may_at hm hi
          unfold atOk freeName at this
          rw [Bool.and_eq_true, List.all_eq_true] at this
          have := this.1 j (List.mem_range.2 hlt)
          simp only [decide_eq_true_eq] at this
          exact this h1.symm
  · intro h; rw [h]
theorem fidx_find {gs : List (Option Nat × List Nat)} {q : Option Nat} {p : Nat → Bool} (hp : ∀ i, i < gs.length → p i = decide ((gs.getD i (none, [])).1 = q)) : fidx gs.length p = match gs.findIdx? (fun g => decide (g.1 = q)) with
    | some i => (i : Int)
    | none => -1 := by
  cases h : gs.findIdx? (fun g => decide (g.1 = q)) with
  | some i =>
    rw [List.findIdx?_eq_some_iff_getElem] at h
    obtain ⟨hi, h1, h2⟩ := h
    refine fidx_at hi (by rw [hp i hi]; simpa [List.getD, hi] using h1) (fun j hj => ?_)
    have := h2 j hj
    rw [hp j (by omega)]
    simpa [List.getD, show j < gs.length by omega] using this
  | none =>
    rw [List.findIdx?_eq_none_iff] at h
    refine fidx_no (fun i hi => ?_)
    rw [hp i hi]
    have := h gs[i] (List.getElem_mem _)
    simpa [List.getD, hi] using this
end H
theorem PW.act' {w W y : World} {a : Option Addr} {c : Nat} {ts : List H.Ac} {ks : List (Option Nat)} {al nl : Nat → List Nat} {R : Nat → Rw} {g cp m : Nat} (h : PW w W a c ts ks al nl (.slice (some ⟨g, 0, none⟩) m cp) R) (hm : ks.length = m) {i k : Nat} (hi : i < ks.length) {va : Value} (hg : W.grownBy y (R (2 * i + 1)).v.ownBlock) (ho : y.ownsRow w.heap.size 42 7 va ((al i).length + 1) (H.acl ts (al i) ++ (ts.getD k H.noAc).cs)) (hat : ∀ q, va.ownBlock = some q → (R (2 * i + 1)).v.ownBlock = some q ∨ W.heap.size ≤ q) :
    (y.cell? ⟨g, i * 3 + 1, none⟩ = some (R (2 * i + 1)).v ∧ y.frozen? ⟨g, i * 3 + 1, none⟩ = false) ∧ ∃ R', PW w (y.setCell ⟨g, i * 3 + 1, none⟩ va) a c ts ks (upd al i (al i ++ [k])) nl (.slice (some ⟨g, 0, none⟩) m cp) R' := by subst hm; exact h.act hi hg ho hat
theorem PW.num' {w W y : World} {a : Option Addr} {c : Nat} {ts : List H.Ac} {ks : List (Option Nat)} {al nl : Nat → List Nat} {R : Nat → Rw} {g cp m : Nat} (h : PW w W a c ts ks al nl (.slice (some ⟨g, 0, none⟩) m cp) R) (hm : ks.length = m) {i k : Nat} (hi : i < ks.length) {va : Value} (hg : W.grownBy y (R (2 * i + 2)).v.ownBlock) (ho : y.ownsRow w.heap.size 3 1 va ((nl i).length + 1) ((nl i).map nV ++ [nV k])) (hat : ∀ q, va.ownBlock = some q → (R (2 * i + 2)).v.ownBlock = some q ∨ W.heap.size ≤ q) :
    (y.cell? ⟨g, i * 3 + 2, none⟩ = some (R (2 * i + 2)).v ∧ y.frozen? ⟨g, i * 3 + 2, none⟩ = false) ∧ ∃ R', PW w (y.setCell ⟨g, i * 3 + 2, none⟩ va) a c ts ks al (upd nl i (nl i ++ [k])) (.slice (some ⟨g, 0, none⟩) m cp) R' := by subst hm; exact h.num hi hg ho hat
theorem PW.at' {w W : World} {a : Option Addr} {c : Nat} {ts : List H.Ac} {ks : List (Option Nat)} {al nl : Nat → List Nat} {R : Nat → Rw} {g cp m : Nat} (h : PW w W a c ts ks al nl (.slice (some ⟨g, 0, none⟩) m cp) R) (hm : ks.length = m) {i : Nat} (hi : i < m) : W.cell? ⟨g, i * 3, none⟩ = some (H.obSl a c (ks.getD i none)) ∧ W.cell? ⟨g, i * 3 + 1, none⟩ = some (R (2 * i + 1)).v ∧ W.cell? ⟨g, i * 3 + 2, none⟩ = some (R (2 * i + 2)).v ∧ ∀ j, W.frozen? ⟨g, j, none⟩ = false := by subst hm; exact h.at hi
/-- The parts of the first so many acts. -/
def PInv (w : World) (a : Option Addr) (c : Nat) (os : List At) (ts : List H.Ac) (k : Nat) (v : Value) (W : World) : Prop :=
  ∃ R al nl, PW w W a c ts ((H.parts os ts k).map (·.1)) al nl v R ∧ ∀ i, i < (H.parts os ts k).length → al i = ((H.parts os ts k).getD i (none, [])).2 ∧ nl i = ((H.parts os ts k).getD i (none, [])).2
theorem next_found {w W : World} {a : Option Addr} {c : Nat} {os : List At} {ts : List H.Ac} {k i : Nat} {al nl : Nat → List Nat} {v : Value} {R : Nat → Rw} (hin : ∀ j, j < (H.parts os ts k).length → al j = ((H.parts os ts k).getD j (none, [])).2 ∧ nl j = ((H.parts os ts k).getD j (none, [])).2) (hf : (H.parts os ts k).findIdx? (fun g => decide (g.1 = H.key os ts k)) = some i) (h : PW w W a c ts ((H.parts os ts k).map (·.1)) (upd al i (al i ++ [k])) (upd nl i (nl i ++ [k])) v R) : PInv w a c os ts (k + 1) v W := by
  have hg : H.parts os ts (k + 1) = (H.parts os ts k).set i (H.key os ts k, ((H.parts os ts k).getD i (none, [])).2 ++ [k]) := by rw [H.parts, H.addTo, hf]
  rw [List.findIdx?_eq_some_iff_getElem] at hf
  obtain ⟨hi, h1, -⟩ := hf
  have hk : ((H.parts os ts k).set i (H.key os ts k, ((H.parts os ts k).getD i (none, [])).2 ++ [k])).map (·.1) = (H.parts os ts k).map (·.1) := by
    rw [List.map_set]
    apply List.ext_getElem?
    intro j
    by_cases e : i = j
    · subst e
      rw [List.getElem?_set_self (by simpa using hi)]
      simp [hi]
      exact (of_decide_eq_true h1).symm
    · rw [List.getElem?_set_ne e]
  refine ⟨R, _, _, by rw [hg, hk]; exact h, fun j hj => ?_⟩
  rw [hg, List.length_set] at hj
  rw [hg]
  by_cases e : i = j
  · subst e
    rw [upd_self, upd_self, A.getD_set_eq _ _ _ hi, (hin i hi).1, (hin i hi).2]
    exact ⟨rfl, rfl⟩
  · rw [upd_ne _ _ (fun e' => e e'.symm), upd_ne _ _ (fun e' => e e'.symm), A.getD_set_ne _ _ _ e]
    exact hin j hj
theorem next_new {w W : World} {a : Option Addr} {c : Nat} {os : List At} {ts : List H.Ac} {k : Nat} {al nl : Nat → List Nat} {v : Value} {R : Nat → Rw} (hin : ∀ j, j < (H.parts os ts k).length → al j = ((H.parts os ts k).getD j (none, [])).2 ∧ nl j = ((H.parts os ts k).getD j (none, [])).2) (hf : (H.parts os ts k).findIdx? (fun g => decide (g.1 = H.key os ts k)) = none) (h : PW w W a c ts ((H.parts os ts k).map (·.1) ++ [H.key os ts k]) (upd (upd al ((H.parts os ts k).map (·.1)).length []) ((H.parts os ts k).map (·.1)).length (upd al ((H.parts os ts k).map (·.1)).length [] ((H.parts os ts k).map (·.1)).length ++ [k])) (upd (upd nl ((H.parts os ts k).map (·.1)).length []) ((H.parts os ts k).map (·.1)).length (upd nl ((H.parts os ts k).map (·.1)).length [] ((H.parts os ts k).map (·.1)).length ++ [k])) v R) : PInv w a c os ts (k + 1) v W := by
  have hg : H.parts os ts (k + 1) = H.parts os ts k ++ [(H.key os ts k, [k])] := by rw [H.parts, H.addTo, hf]
  refine ⟨R, _, _, by rw [hg, List.map_append]; exact h, fun j hj => ?_⟩
  rw [hg, List.length_append, List.length_cons, List.length_nil] at hj
  rw [hg, List.length_map]
  by_cases e : j = (H.parts os ts k).length
  · subst e
    rw [upd_self, upd_self, upd_self, upd_self]
    simp
  · rw [upd_ne _ _ e, upd_ne _ _ e, upd_ne _ _ e, upd_ne _ _ e, show (H.parts os ts k ++ [(H.key os ts k, [k])]).getD j (none, []) = (H.parts os ts k).getD j (none, []) by simp only [List.getD]; rw [List.getElem?_append_left (by omega)]]
    exact hin j (by omega)
theorem infoAct : (Try.prog.info? 42).map (fun i => (i.zero, i.size, i.bytes)) = some (some (.agg #[.int .i64 0, .int .i64 0, .string { data := #[] }, .int .i64 0, .int .i64 0, .int .i64 0, .int .i64 0]), 7, 64) := by kernel_rfl
theorem infoPart : (Try.prog.info? 56).map (fun i => (i.zero, i.size, i.bytes)) = some (some (.agg #[.slice none 0 0, .slice none 0 0, .slice none 0 0]), 3, 72) := by kernel_rfl
theorem ob_view {w : World} {a : Option Addr} {l c : Nat} {os : List At} (h : AtsV w a l c os) (q : Option Nat) (hq : ∀ j, q = some j → j < os.length) : ∃ a' l' c', H.obSl a c q = .slice a' l' c' ∧ AtsV w a' l' c' (H.obK os q) := by
  cases q with
  | none => exact ⟨none, 0, 0, rfl, rfl, by simp [H.obK], fun _ => ⟨rfl, rfl⟩, ⟨Nat.le_refl _, Nat.zero_le _⟩, .inl rfl⟩
  | some j => exact ⟨_, _, _, rfl, h.one (by rw [← h.count]; exact hq j rfl)⟩
set_option maxRecDepth 100000 in
set_option maxHeartbeats 16000000 in
theorem partsOf_any {w : World} {a aa : Option Addr} {lo c l cc : Nat} {os : List At} {ts : List H.Ac} (hO : AtsV w a lo c os) (hA : ActsV w aa l cc ts) (hmay : mayAll os = true) (hl60 : l ≤ 60) :
    Calls Try.prog 23 #[.slice a lo c, .slice aa l cc] w fun e W => ∃ v, e = .returned v ∧ PInv w a c os ts l v W := by
  have hmf : ∀ (fn : Fn) (first cap : Array Value) (w : World), (Instr.makeFunc fn first cap).run Try.prog w = .ok (.func fn first cap) w := fun _ _ _ _ => rfl
  have HO : Hid (AtsV w a lo c os) := hO
  have HA : Hid (ActsV w aa l cc ts) := hA
  have HM : Hid (mayAll os = true) := hmay
  have hmx := hA.room
  have hmax : maxLen = 9223372036854775807 := rfl
  obtain ⟨i7, hi7, hz70, hz71, hz72⟩ := hinfo infoAct
  obtain ⟨i3, hi3, hz30, hz31, hz32⟩ := hinfo infoPart
  obtain ⟨i1, hi1, hz10, hz11, hz12⟩ := hinfo infoInt
  clear hO hA hmay
  go_enter Try.func23, Try.ntmps23
  go_wp2_with fail
  go_loopg [5, 6, 7, 8, 9, 12] l (fun r v5 z6 z7 z8 z9 iv wq => ∃ (k : Nat), r = l - k ∧ iv = .int .i64 k ∧ k ≤ l ∧ Hid (PInv w a c os ts k v5 wq))
  case atStart => exact ⟨0, rfl, rfl, Nat.zero_le _, ⟨_, _, _, PW.start w a c ts, fun i hi => by simp [H.parts] at hi⟩⟩
  case round =>
    obtain ⟨k, rfl, rfl, hk, HPI⟩ := hrel
    by_cases hlt : k < l
    · have hii : (k : Int) < l := by omega
      have hin : 0 ≤ (k : Int) := by omega
      obtain ⟨R, al, nl, hPW, hin2⟩ := HPI.out
      have HIN : Hid _ := hin2
      obtain ⟨av, cv, hv⟩ := own_form hPW.prow
      have HGL : Hid (∀ i, i < (H.parts os ts k).length → ((H.parts os ts k).getD i (none, [])).2.length ≤ 60) := fun i hi => by
        have := H.parts_all os ts k ((H.parts os ts k).getD i (none, [])) (by simp [List.getD, hi])
        omega
      have HLK : Hid ((H.parts os ts k).length ≤ 60) := by have := H.parts_len os ts k; show _ ≤ _; omega
      have HKS : Hid (∀ i j, ((H.parts os ts k).map (·.1)).getD i none = some j → j < os.length) := fun i j hij => by
        by_cases hi : i < (H.parts os ts k).length
        · refine H.parts_ks (ts := ts) k ((H.parts os ts k).getD i (none, [])) (by simp [List.getD, hi]) j ?_
          simpa [List.getD, hi] using hij
        · simp [List.getD, hi] at hij
      have HKF : Hid (∀ j, H.key os ts k = some j → j < os.length) := fun j hj => H.key_ok hj
      have HNF : Hid (∀ i W R' v', (H.parts os ts k).findIdx? (fun g => decide (g.1 = H.key os ts k)) = some i → PW w W a c ts ((H.parts os ts k).map (·.1)) (upd al i (al i ++ [k])) (upd nl i (nl i ++ [k])) v' R' → PInv w a c os ts (k + 1) v' W) := fun i W R' v' h1 h2 => next_found hin2 h1 h2
      have HNN : Hid (∀ W R' v', (H.parts os ts k).findIdx? (fun g => decide (g.1 = H.key os ts k)) = none → PW w W a c ts ((H.parts os ts k).map (·.1) ++ [H.key os ts k]) (upd (upd al ((H.parts os ts k).map (·.1)).length []) ((H.parts os ts k).map (·.1)).length (upd al ((H.parts os ts k).map (·.1)).length [] ((H.parts os ts k).map (·.1)).length ++ [k])) (upd (upd nl ((H.parts os ts k).map (·.1)).length []) ((H.parts os ts k).map (·.1)).length (upd nl ((H.parts os ts k).map (·.1)).length [] ((H.parts os ts k).map (·.1)).length ++ [k])) v' R' → PInv w a c os ts (k + 1) v' W) := fun W R' v' h1 h2 => next_new hin2 h1 h2
      have HKL0 : Hid (((H.parts os ts k).map (·.1)).length = (H.parts os ts k).length) := List.length_map _
      have HFF : Hid (∀ p : Nat → Bool, (∀ i, i < (H.parts os ts k).length → p i = decide (((H.parts os ts k).map (·.1)).getD i none = H.key os ts k)) → H.fidx (H.parts os ts k).length p = match (H.parts os ts k).findIdx? (fun g => decide (g.1 = H.key os ts k)) with | some i => (i : Int) | none => -1) := fun p hp => H.fidx_find fun i hi => by
        rw [hp i hi]
        simp [List.getD, hi]
      have HAL : Hid (∀ i, i < (H.parts os ts k).length → (al i).length ≤ 60 ∧ (nl i).length ≤ 60) := fun i hi => by rw [(hin2 i hi).1, (hin2 i hi).2]; exact ⟨HGL.out i hi, HGL.out i hi⟩
      have HFI : Hid (∀ i, (H.parts os ts k).findIdx? (fun g => decide (g.1 = H.key os ts k)) = some i → i < (H.parts os ts k).length) := fun i hi => by
        rw [List.findIdx?_eq_some_iff_getElem] at hi
        exact hi.1
      have hKY : H.obAt os (ts.getD k H.noAc) = H.key os ts k := rfl
      generalize (H.parts os ts k).map (·.1) = ks at *
      generalize (H.parts os ts k).findIdx? (fun g => decide (g.1 = H.key os ts k)) = fi at *
      generalize (H.parts os ts k).length = mm at *
      have HPW : Hid (PW w wr a c ts ks al nl u5 R) := hPW
      have HKL : Hid (ks.length = mm) := HKL0.out
      rw [HKL.out] at hv
      subst hv
      obtain ⟨b, off, rfl, c0, c1, c2, c3, c4, c5, c6⟩ := (HA.out.below hPW.fw.low).at hlt
      have hcall := fun W (h : AtsV W a lo c os) => objectOf_any h (ts.getD k H.noAc)
      rw [hKY] at hcall
      obtain ⟨qk, hqk⟩ : ∃ q, H.key os ts k = q := ⟨_, rfl⟩
      rw [hqk] at hcall HKF HNN HFF
      obtain ⟨ap, lp, cp2, hob, -⟩ := ob_view HO.out qk HKF.out
      have HOB : Hid (∀ W, Below w.heap.size w W → AtsV W ap lp cp2 (H.obK os qk)) := fun W hW => by
        obtain ⟨x1, x2, x3, h1, h2⟩ := ob_view (HO.out.below hW) qk HKF.out
        rw [hob] at h1
        cases h1
        exact h2
      have HOBS : Hid (H.obSl a c qk = .slice ap lp cp2) := hob
      rw [hob] at hcall
      obtain ⟨x, hx⟩ : ∃ x, ts.getD k H.noAc = x := ⟨_, rfl⟩
      rw [hx] at c0 c1 c2 c3 c4 c5 c6 hcall
      obtain ⟨th, dd, nm, arg, call, back, ans⟩ := x
      have HX : Hid (ts.getD k H.noAc = ⟨th, dd, nm, arg, call, back, ans⟩) := hx
      unfold H.Ac.v at hcall
      simp only at c0 c1 c2 c3 c4 c5 c6 hcall
      obtain ⟨tb, htb⟩ : ∃ q, wr.heap.size = q := ⟨_, rfl⟩
      obtain ⟨Y1, hY1⟩ : ∃ Y, wr.alloc (.cells #[.int .i64 th, .int .i64 dd, .string nm, .int .i64 arg, .int .i64 call, .int .i64 back, .int .i64 ans] 42) = Y := ⟨_, rfl⟩
      have hbY : Below wr.heap.size wr Y1 := by rw [← hY1]; exact hbl1 _ _
      have HP1 : Hid (PW w Y1 a c ts ks al nl (.slice av mm cv) R) := HPW.out.below hbY
      have d0 : Y1.cell? ⟨tb, 0, none⟩ = some (.int .i64 th) := by rw [← hY1, ← htb]; simp
      have d1 : Y1.cell? ⟨tb, 1, none⟩ = some (.int .i64 dd) := by rw [← hY1, ← htb]; simp
      have d2 : Y1.cell? ⟨tb, 2, none⟩ = some (.string nm) := by rw [← hY1, ← htb]; simp
      have d3 : Y1.cell? ⟨tb, 3, none⟩ = some (.int .i64 arg) := by rw [← hY1, ← htb]; simp
      have d4 : Y1.cell? ⟨tb, 4, none⟩ = some (.int .i64 call) := by rw [← hY1, ← htb]; simp
      have d5 : Y1.cell? ⟨tb, 5, none⟩ = some (.int .i64 back) := by rw [← hY1, ← htb]; simp
      have d6 : Y1.cell? ⟨tb, 6, none⟩ = some (.int .i64 ans) := by rw [← hY1, ← htb]; simp
      have HS1 : Hid (Y1.cell? ⟨tb, 0, none⟩ = some (.int .i64 th) ∧ Y1.cell? ⟨tb, 1, none⟩ = some (.int .i64 dd) ∧ Y1.cell? ⟨tb, 2, none⟩ = some (.string nm) ∧ Y1.cell? ⟨tb, 3, none⟩ = some (.int .i64 arg) ∧ Y1.cell? ⟨tb, 4, none⟩ = some (.int .i64 call) ∧ Y1.cell? ⟨tb, 5, none⟩ = some (.int .i64 back) ∧ Y1.cell? ⟨tb, 6, none⟩ = some (.int .i64 ans)) := ⟨d0, d1, d2, d3, d4, d5, d6⟩
      have HTL : Hid (∀ j, j < 1 + 2 * mm → ∀ q, (R j).v.ownBlock = some q → q < tb) := fun j hj q hq => by
        rw [← htb]
        exact ((HPW.out.fw.own j (by rw [HKL.out]; exact hj)).lt q hq).2
      have HVL : Hid (∀ q, (Value.slice av mm cv).ownBlock = some q → q < tb) := fun q hq => by
        rw [← htb]
        exact (HPW.out.prow.lt q hq).2
      have HTY : Hid (tb < Y1.heap.size) := by show _ < _; rw [← hY1, ← htb]; simp
      have ho := hcall Y1 (HO.out.below HP1.out.fw.low)
      clear hcall hx hob hPW hin2 HPI hbY hKY HGL
      go_wp2_with fail
      refine ho.mono ?_
      rintro e y2 ⟨rfl, hy2⟩
      clear ho
      obtain ⟨Y3, hY3⟩ : ∃ Y, y2.alloc (.cells #[.slice ap lp cp2] 22) = Y := ⟨_, rfl⟩
      have hb3 : Below Y1.heap.size Y1 Y3 := by rw [← hY3]; exact hy2.trans ((hbl1 _ _).mono hy2.size)
      have HP3 : Hid (PW w Y3 a c ts ks al nl (.slice av mm cv) R) := HP1.out.below hb3
      have HB3 : Hid (Below Y1.heap.size Y1 Y3) := hb3
      have x8 : Y3.cell? ⟨y2.heap.size, 0, none⟩ = some (.slice ap lp cp2) := by rw [← hY3]; simp
      have hidx : Calls Try.prog 40 #[.slice av mm cv, .func (.func 41) #[] #[.pointer (some ⟨y2.heap.size, 0, none⟩)]] Y3 fun e w' => e = .returned (.int .i64 (H.fidx mm (fun i => decide ((H.obK os (ks.getD i none)).map At.name = (H.obK os qk).map At.name)))) ∧ Below Y3.heap.size Y3 w' := by
        have hrm := A.own_room (HKL.out ▸ HP3.out.prow : Y3.ownsRow w.heap.size 56 3 (.slice av mm cv) mm (H.pcl a c ks R))
        refine idxP_any (fun i => H.obSl a c (ks.getD i none)) (fun i => (R (2 * i + 1)).v) (fun i => (R (2 * i + 2)).v) _ hrm ?_ _ (fun i hi W hW => ?_)
        · by_cases hm0 : mm = 0
          · exact .inl hm0
          · right
            rcases HP3.out.prow.2 with ⟨e, -⟩ | ⟨g, cap, cur, e, -⟩
            · simp only [Value.slice.injEq] at e; omega
            · simp only [Value.slice.injEq] at e
              obtain ⟨rfl, -, rfl⟩ := e
              refine ⟨g, 0, rfl, fun i hi => ?_⟩
              obtain ⟨p1, p2, p3, -⟩ := HP3.out.at' HKL.out hi
              rw [Nat.zero_add]
              exact ⟨p1, p2, p3⟩
        · have hbw := HP3.out.fw.low.trans (hW.mono HP3.out.fw.low.size)
          obtain ⟨x1, x2, x3, h1, h2⟩ := ob_view (HO.out.below hbw) (ks.getD i none) (HKS.out i)
          rw [h1]
          exact parts1_any h2 (HOB.out W hbw) _ _ (hcell_thru hW x8)
      have hfx := HFF.out (fun i => decide ((H.obK os (ks.getD i none)).map At.name = (H.obK os qk).map At.name)) (fun i hi => H.names_key HM.out (HKS.out i) HKF.out)
      rw [hfx] at hidx
      clear hfx hb3 hy2
      go_wp2_with fail
      refine hidx.mono ?_
      rintro e Wc ⟨rfl, hyc⟩
      have hbc : Below Y1.heap.size Y1 Wc := HB3.out.trans (hyc.mono HB3.out.size)
      have HPC : Hid (PW w Wc a c ts ks al nl (.slice av mm cv) R) := HP1.out.below hbc
      have HSC : Hid (Wc.cell? ⟨tb, 0, none⟩ = some (.int .i64 th) ∧ Wc.cell? ⟨tb, 1, none⟩ = some (.int .i64 dd) ∧ Wc.cell? ⟨tb, 2, none⟩ = some (.string nm) ∧ Wc.cell? ⟨tb, 3, none⟩ = some (.int .i64 arg) ∧ Wc.cell? ⟨tb, 4, none⟩ = some (.int .i64 call) ∧ Wc.cell? ⟨tb, 5, none⟩ = some (.int .i64 back) ∧ Wc.cell? ⟨tb, 6, none⟩ = some (.int .i64 ans)) := by
        obtain ⟨x0, x1, x2, x3, x4, x5, x6⟩ := HS1.out
        exact ⟨hcell_thru hbc x0, hcell_thru hbc x1, hcell_thru hbc x2, hcell_thru hbc x3, hcell_thru hbc x4, hcell_thru hbc x5, hcell_thru hbc x6⟩
      have HTW : Hid (tb < Wc.heap.size) := Nat.lt_of_lt_of_le HTY.out hbc.size
      have x9 := hcell_thru hyc x8
      clear hidx hyc hbc x8 d0 d1 d2 d3 d4 d5 d6 c0 c1 c2 c3 c4 c5 c6 hY1 hY3
      cases fi with
      | some i =>
        have him : i < mm := HFI.out i rfl
        have hi0 : ¬ (i : Int) < 0 := by omega
        have hal60 := HAL.out i him
        obtain ⟨ks2, hks2⟩ : ∃ q, ks = q := ⟨_, rfl⟩
        obtain ⟨al2, hal2⟩ : ∃ q, al = q := ⟨_, rfl⟩
        obtain ⟨nl2, hnl2⟩ : ∃ q, nl = q := ⟨_, rfl⟩
        obtain ⟨R2, hR2⟩ : ∃ q, R = q := ⟨_, rfl⟩
        rw [hks2, hal2, hnl2, hR2] at HPC
        rw [hal2, hnl2] at hal60
        rw [hks2] at HKL
        obtain ⟨g, hg⟩ : ∃ g, av = some ⟨g, 0, none⟩ := by
          rcases HPC.out.prow.2 with ⟨e, -⟩ | ⟨g, cap, cur, e, -⟩
          · simp only [Value.slice.injEq] at e; omega
          · simp only [Value.slice.injEq] at e; exact ⟨g, e.1⟩
        subst hg
        have HTBN : Hid (g ≠ tb) := fun e => by have := HVL.out g rfl; omega
        have HTBR : Hid (∀ i, i < mm → (R2 (2 * i + 1)).v.ownBlock ≠ some tb) := fun j hj e => by
          rw [← hR2] at e
          have := HTL.out (2 * j + 1) (by omega) tb e
          omega
        have HNEXT : Hid (∀ W R', PW w W a c ts ks2 (upd al2 i (al2 i ++ [k])) (upd nl2 i (nl2 i ++ [k])) (.slice (some ⟨g, 0, none⟩) mm cv) R' → PInv w a c os ts (k + 1) (.slice (some ⟨g, 0, none⟩) mm cv) W) := fun W R' h => HNF.out i W R' _ rfl (by rw [hks2, hal2, hnl2]; exact h)
        obtain ⟨hal60a, hal60b⟩ := hal60
        clear hks2 hal2 hnl2 hR2 x9 HNN HFF
        clear HNF HKS HKF HOB HOBS HFI HAL
        have HPD : Hid (PW w Wc.drew a c ts ks2 al2 nl2 (.slice (some ⟨g, 0, none⟩) mm cv) R2) := HPC.out.below (Below.refl _ _).drew
        have HSD : Hid (Wc.drew.cell? ⟨tb, 0, none⟩ = some (.int .i64 th) ∧ Wc.drew.cell? ⟨tb, 1, none⟩ = some (.int .i64 dd) ∧ Wc.drew.cell? ⟨tb, 2, none⟩ = some (.string nm) ∧ Wc.drew.cell? ⟨tb, 3, none⟩ = some (.int .i64 arg) ∧ Wc.drew.cell? ⟨tb, 4, none⟩ = some (.int .i64 call) ∧ Wc.drew.cell? ⟨tb, 5, none⟩ = some (.int .i64 back) ∧ Wc.drew.cell? ⟨tb, 6, none⟩ = some (.int .i64 ans)) := by
          simp only [World.cell?_drew]
          exact HSC.out
        have HTBP : Hid (g ≠ tb) := HTBN.out
        have HIK : Hid (i < ks2.length) := by show _ < _; rw [HKL.out]; exact him
        have HIM : Hid (i < mm) := him
        have HSW : Hid _ := HSD.out
        obtain ⟨D0, hD0⟩ : ∃ Y, Wc.drew = Y := ⟨_, rfl⟩
        rw [hD0] at HPD HSD
        obtain ⟨E0, hE0⟩ : ∃ Y, D0.alloc (.cells #[.int .i64 th, .int .i64 dd, .string nm, .int .i64 arg, .int .i64 call, .int .i64 back, .int .i64 ans] 42) = Y := ⟨_, rfl⟩
        have hbE : Below D0.heap.size D0 E0 := by rw [← hE0]; exact hbl1 _ _
        have HPE : Hid (PW w E0 a c ts ks2 al2 nl2 (.slice (some ⟨g, 0, none⟩) mm cv) R2) := HPD.out.below hbE
        have HSE : Hid (E0.cell? ⟨tb, 0, none⟩ = some (.int .i64 th) ∧ E0.cell? ⟨tb, 1, none⟩ = some (.int .i64 dd) ∧ E0.cell? ⟨tb, 2, none⟩ = some (.string nm) ∧ E0.cell? ⟨tb, 3, none⟩ = some (.int .i64 arg) ∧ E0.cell? ⟨tb, 4, none⟩ = some (.int .i64 call) ∧ E0.cell? ⟨tb, 5, none⟩ = some (.int .i64 back) ∧ E0.cell? ⟨tb, 6, none⟩ = some (.int .i64 ans)) := by
          obtain ⟨x0, x1, x2, x3, x4, x5, x6⟩ := HSD.out
          exact ⟨hcell_thru hbE x0, hcell_thru hbE x1, hcell_thru hbE x2, hcell_thru hbE x3, hcell_thru hbE x4, hcell_thru hbE x5, hcell_thru hbE x6⟩
        have HNC : Hid (∀ j u, (ts.getD k H.noAc).cs[j]? = some u → E0.cell? ((⟨D0.heap.size, 0, none⟩ : Addr).add j) = some u) := by
          intro j u hu
          rw [HX.out] at hu
          rw [Addr.add_lit, Nat.zero_add, ← hE0]
          exact A.cell_last rfl (by simpa [H.Ac.cs] using hu)
        have HONE : Hid (∀ u ∈ (ts.getD k H.noAc).cs, u.oneCell' = true) := by
          intro u hu
          simp [H.Ac.cs] at hu
          rcases hu with rfl | rfl | rfl | rfl | rfl | rfl | rfl <;> rfl
        have HTBA : Hid ((R2 (2 * i + 1)).v.ownBlock ≠ some tb) := HTBR.out i him
        have hii2 : (i : Int) < mm := by omega
        have hin2 : 0 ≤ (i : Int) := by omega
        clear hbE
        go_wp2_with fail
        refine wp_region_held_drew (S := (fun w' : World => w'.cell? ⟨tb, 0, none⟩ = some (.int .i64 th) ∧ w'.cell? ⟨tb, 1, none⟩ = some (.int .i64 dd) ∧ w'.cell? ⟨tb, 2, none⟩ = some (.string nm) ∧ w'.cell? ⟨tb, 3, none⟩ = some (.int .i64 arg) ∧ w'.cell? ⟨tb, 4, none⟩ = some (.int .i64 call) ∧ w'.cell? ⟨tb, 5, none⟩ = some (.int .i64 back) ∧ w'.cell? ⟨tb, 6, none⟩ = some (.int .i64 ans))) (by kernel_rfl) HSW.out (fun hHeld => ?_)
        refine tk (i := 0) (v := ?_) (tA rfl) (by kernel_rfl) (fun _ _ _ h => h) (Or.inl ⟨by rfl, ?_⟩) (by assumption) ?_
        rotate_left
        · (intro w hSw; (try dsimp only at hSw); go_simp <;> with_reducible rfl)
        simp only [Act.put, List.setIfInBounds_toArray, List.set_cons_zero, List.set_cons_succ]
        refine tk (i := 1) (v := ?_) (tA rfl) (by kernel_rfl) (fun _ _ _ h => h) (Or.inl ⟨by rfl, ?_⟩) (by assumption) ?_
        rotate_left
        · (intro w hSw; (try dsimp only at hSw); go_simp <;> with_reducible rfl)
        simp only [Act.put, List.setIfInBounds_toArray, List.set_cons_zero, List.set_cons_succ]
        refine tk (i := 2) (v := ?_) (tA rfl) (by kernel_rfl) (fun _ _ _ h => h) (Or.inl ⟨by rfl, ?_⟩) (by assumption) ?_
        rotate_left
        · (intro w hSw; (try dsimp only at hSw); go_simp <;> with_reducible rfl)
        simp only [Act.put, List.setIfInBounds_toArray, List.set_cons_zero, List.set_cons_succ]
        refine tk (i := 3) (v := ?_) (tA rfl) (by kernel_rfl) (fun _ _ _ h => h) (Or.inl ⟨by rfl, ?_⟩) (by assumption) ?_
        rotate_left
        · (intro w hSw; (try dsimp only at hSw); go_simp <;> with_reducible rfl)
        simp only [Act.put, List.setIfInBounds_toArray, List.set_cons_zero, List.set_cons_succ]
        refine tk (i := 4) (v := ?_) (tA rfl) (by kernel_rfl) (fun _ _ _ h => h) (Or.inl ⟨by rfl, ?_⟩) (by assumption) ?_
        rotate_left
        · (intro w hSw; (try dsimp only at hSw); go_simp <;> with_reducible rfl)
        simp only [Act.put, List.setIfInBounds_toArray, List.set_cons_zero, List.set_cons_succ]
        refine tk (i := 5) (v := ?_) (tA rfl) (by kernel_rfl) (fun _ _ _ h => h) (Or.inl ⟨by rfl, ?_⟩) (by assumption) ?_
        rotate_left
        · (intro w hSw; (try dsimp only at hSw); go_simp <;> with_reducible rfl)
        simp only [Act.put, List.setIfInBounds_toArray, List.set_cons_zero, List.set_cons_succ]
        refine tk (i := 7) (v := ?_) (tA rfl) (by kernel_rfl) (fun _ _ _ h => h) (Or.inl ⟨by rfl, ?_⟩) (by assumption) ?_
        rotate_left
        · (intro w hSw; (try dsimp only at hSw); go_simp <;> with_reducible rfl)
        simp only [Act.put, List.setIfInBounds_toArray, List.set_cons_zero, List.set_cons_succ]
        try rw [hD0] at hHeld
        try rw [hD0]
        refine wpAnyH_ready (rs := [6, 8]) (by kernel_rfl) (by simp) ?_
        refine AllReadyH.cons (tA rfl) (fun K hK => ?_) (AllReadyH.cons (tA rfl) (fun K hK => ?_) AllReadyH.nil)
        · have m3 := (HPD.out.at' HKL.out HIM.out).2.1
          go_simp
          refine hK.out _ _ hHeld (fun hHeld => ?_)
          clear hK K m3
          try simp only [Act.put, List.setIfInBounds_toArray, List.set_cons_zero, List.set_cons_succ]
          refine wpAnyH_ready (rs := [8]) (by kernel_rfl) (by simp) ?_
          refine AllReadyH.cons (tA rfl) (fun K hK => ?_) AllReadyH.nil
          go_simp
          refine hK.out _ _ HSE.out (fun hHeld => ?_)
          clear hK K
          try simp only [Act.put, List.setIfInBounds_toArray, List.set_cons_zero, List.set_cons_succ]
          refine wpAnyH_ready (rs := [9]) (by kernel_rfl) (by simp) ?_
          refine AllReadyH.cons (tA rfl) (fun K hK => ?_) AllReadyH.nil
          refine step_append_lies _ (by rfl) _ _ 23 (by rfl) w.heap.size 42 i7 _ 7 64 Try.underlying23 hi7 hz70 hz71 hz72 (by rfl) (by decide) (R2 (2 * i + 1)).v (al2 i).length (H.acl ts (al2 i)) (by rfl) (HPE.out.arow HIK.out) ⟨D0.heap.size, 0, none⟩ 1 1 (ts.getD k H.noAc).cs (by rfl) (by rfl) HNC.out HONE.out (by decide) (by unfold maxLen; omega) (by omega) HPE.out.fw.low.size _ rfl ?_
          intro ga ca Y6 ho6 hg6 hat6 hlt6
          obtain ⟨⟨m6, z6⟩, R3, hP7⟩ := HPE.out.act' HKL.out HIK.out (k := k) hg6 ho6 (fun q hq => by
            simp [Value.ownBlock] at hq
            subst hq
            rcases hat6 with e | e
            · exact .inl e
            · exact .inr (by omega))
          have HP7 : Hid (PW w (Y6.setCell ⟨g, i * 3 + 1, none⟩ (.slice (some ⟨ga, 0, none⟩) ((al2 i).length + 1) ca)) a c ts ks2 (upd al2 i (al2 i ++ [k])) nl2 (.slice (some ⟨g, 0, none⟩) mm cv) R3) := hP7
          have HS6 : Hid (Y6.cell? ⟨tb, 0, none⟩ = some (.int .i64 th) ∧ Y6.cell? ⟨tb, 1, none⟩ = some (.int .i64 dd) ∧ Y6.cell? ⟨tb, 2, none⟩ = some (.string nm) ∧ Y6.cell? ⟨tb, 3, none⟩ = some (.int .i64 arg) ∧ Y6.cell? ⟨tb, 4, none⟩ = some (.int .i64 call) ∧ Y6.cell? ⟨tb, 5, none⟩ = some (.int .i64 back) ∧ Y6.cell? ⟨tb, 6, none⟩ = some (.int .i64 ans)) := by
            obtain ⟨x0, x1, x2, x3, x4, x5, x6⟩ := HSE.out
            have hf := fun o u (hc : E0.cell? ⟨tb, o, none⟩ = some u) => hg6.cell hc (fun e => HTBA.out e.symm)
            exact ⟨hf _ _ x0, hf _ _ x1, hf _ _ x2, hf _ _ x3, hf _ _ x4, hf _ _ x5, hf _ _ x6⟩
          have HS7 : Hid ((Y6.setCell ⟨g, i * 3 + 1, none⟩ (.slice (some ⟨ga, 0, none⟩) ((al2 i).length + 1) ca)).cell? ⟨tb, 0, none⟩ = some (.int .i64 th) ∧ (Y6.setCell ⟨g, i * 3 + 1, none⟩ (.slice (some ⟨ga, 0, none⟩) ((al2 i).length + 1) ca)).cell? ⟨tb, 1, none⟩ = some (.int .i64 dd) ∧ (Y6.setCell ⟨g, i * 3 + 1, none⟩ (.slice (some ⟨ga, 0, none⟩) ((al2 i).length + 1) ca)).cell? ⟨tb, 2, none⟩ = some (.string nm) ∧ (Y6.setCell ⟨g, i * 3 + 1, none⟩ (.slice (some ⟨ga, 0, none⟩) ((al2 i).length + 1) ca)).cell? ⟨tb, 3, none⟩ = some (.int .i64 arg) ∧ (Y6.setCell ⟨g, i * 3 + 1, none⟩ (.slice (some ⟨ga, 0, none⟩) ((al2 i).length + 1) ca)).cell? ⟨tb, 4, none⟩ = some (.int .i64 call) ∧ (Y6.setCell ⟨g, i * 3 + 1, none⟩ (.slice (some ⟨ga, 0, none⟩) ((al2 i).length + 1) ca)).cell? ⟨tb, 5, none⟩ = some (.int .i64 back) ∧ (Y6.setCell ⟨g, i * 3 + 1, none⟩ (.slice (some ⟨ga, 0, none⟩) ((al2 i).length + 1) ca)).cell? ⟨tb, 6, none⟩ = some (.int .i64 ans)) := by
            obtain ⟨x0, x1, x2, x3, x4, x5, x6⟩ := HS6.out
            have hf := fun o u (hc : Y6.cell? ⟨tb, o, none⟩ = some u) => (World.cell?_setCell_far Y6 ⟨g, i * 3 + 1, none⟩ ⟨tb, o, none⟩ (.slice (some ⟨ga, 0, none⟩) ((al2 i).length + 1) ca) HTBP.out).trans hc
            exact ⟨hf _ _ x0, hf _ _ x1, hf _ _ x2, hf _ _ x3, hf _ _ x4, hf _ _ x5, hf _ _ x6⟩
          refine hK.out _ _ HS6.out (fun hHeld => ?_)
          clear hK K ho6 hg6 hat6 hlt6 hP7
          try simp only [Act.put, List.setIfInBounds_toArray, List.set_cons_zero, List.set_cons_succ]
          refine tk (i := 10) (v := ?_) (tA rfl) (by kernel_rfl) (fun _ _ _ h => h) (Or.inl ⟨by rfl, ?_⟩) (by assumption) ?_
          rotate_left
          · (intro w hSw; (try dsimp only at hSw); go_simp <;> with_reducible rfl)
          simp only [Act.put, List.setIfInBounds_toArray, List.set_cons_zero, List.set_cons_succ]
          refine tk (i := 11) (v := ?_) (tA rfl) (by kernel_rfl) (fun _ _ _ h => h) (Or.inl ⟨by rfl, ?_⟩) (by assumption) ?_
          rotate_left
          · (intro w hSw; (try dsimp only at hSw); go_simp <;> with_reducible rfl)
          simp only [Act.put, List.setIfInBounds_toArray, List.set_cons_zero, List.set_cons_succ]
          refine wpAnyH_ready (rs := [12]) (by kernel_rfl) (by simp) ?_
          refine AllReadyH.cons (tA rfl) (fun K hK => ?_) AllReadyH.nil
          go_simp
          refine hK.out _ _ HS7.out (fun hHeld => ?_)
          clear hK K m6 z6
          try simp only [Act.put, List.setIfInBounds_toArray, List.set_cons_zero, List.set_cons_succ]
          refine wpAnyH_done (by kernel_rfl) ?_ _
          clear hHeld
          generalize Y6.setCell ⟨g, i * 3 + 1, none⟩ (.slice (some ⟨ga, 0, none⟩) ((al2 i).length + 1) ca) = F0 at HP7 ⊢
          clear HS6 HS7
          have r1 := (HP7.out.at' HKL.out HIM.out).2.2.1
          have r2 := (HP7.out.at' HKL.out HIM.out).2.2.2 (i * 3 + 2)
          obtain ⟨G0, hG0⟩ : ∃ Y, F0.alloc (.cells #[.int .i64 k] 3) = Y := ⟨_, rfl⟩
          have hbG : Below F0.heap.size F0 G0 := by rw [← hG0]; exact hbl1 _ _
          have HPG : Hid (PW w G0 a c ts ks2 (upd al2 i (al2 i ++ [k])) nl2 (.slice (some ⟨g, 0, none⟩) mm cv) R3) := HP7.out.below hbG
          have HNG : Hid (∀ j u, ([.int .i64 k] : List Value)[j]? = some u → G0.cell? ((⟨F0.heap.size, 0, none⟩ : Addr).add j) = some u) := by
            intro j u hu
            match j, hu with
            | 0, hu => simp at hu; subst hu; rw [← hG0]; exact A.cell_last (by simp) (by simp)
            | j + 1, hu => simp at hu
          have hlowG := HPG.out.fw.low.size
          clear hbG
          go_wp2_with (first | (at_builtin; go_loud (refine wpList_append_lies _ rfl _ _ 27 rfl w.heap.size 3 i1 _ 1 8 Try.underlying27 hi1 hz10 hz11 hz12 rfl (by decide) (R3 (2 * i + 2)).v (nl2 i).length ((nl2 i).map nV) rfl (HPG.out.nrow HIK.out) ⟨F0.heap.size, 0, none⟩ 1 1 [.int .i64 k] rfl rfl HNG.out (by intro u hu; simp at hu; subst hu; rfl) (by decide) (by unfold maxLen; omega) (by omega) hlowG G0.heap.size rfl ?_; intro gb cb w9 ho9 hg9 hat9 hlt9; obtain ⟨⟨m9, z9⟩, R4, hP9⟩ := HPG.out.num' HKL.out HIK.out (k := k) hg9 ho9 (fun q hq => by simp [Value.ownBlock] at hq; subst hq; rcases hat9 with e | e; exact .inl e; exact .inr (by omega)); have HP9 := hP9)) | fail)
          have HFIN := HNEXT.out _ _ HP9
          go_roundg (l - (k + 1))
          case measure => omega
          case rel => exact ⟨k + 1, rfl, by go_num, by omega, HFIN⟩
        · go_simp
          refine hK.out _ _ HSE.out (fun hHeld => ?_)
          clear hK K
          try simp only [Act.put, List.setIfInBounds_toArray, List.set_cons_zero, List.set_cons_succ]
          refine wpAnyH_ready (rs := [6]) (by kernel_rfl) (by simp) ?_
          refine AllReadyH.cons (tA rfl) (fun K hK => ?_) AllReadyH.nil
          have m3 := (HPE.out.at' HKL.out HIM.out).2.1
          go_simp
          refine hK.out _ _ hHeld (fun hHeld => ?_)
          clear hK K m3
          try simp only [Act.put, List.setIfInBounds_toArray, List.set_cons_zero, List.set_cons_succ]
          refine wpAnyH_ready (rs := [9]) (by kernel_rfl) (by simp) ?_
          refine AllReadyH.cons (tA rfl) (fun K hK => ?_) AllReadyH.nil
          refine step_append_lies _ (by rfl) _ _ 23 (by rfl) w.heap.size 42 i7 _ 7 64 Try.underlying23 hi7 hz70 hz71 hz72 (by rfl) (by decide) (R2 (2 * i + 1)).v (al2 i).length (H.acl ts (al2 i)) (by rfl) (HPE.out.arow HIK.out) ⟨D0.heap.size, 0, none⟩ 1 1 (ts.getD k H.noAc).cs (by rfl) (by rfl) HNC.out HONE.out (by decide) (by unfold maxLen; omega) (by omega) HPE.out.fw.low.size _ rfl ?_
          intro ga ca Y6 ho6 hg6 hat6 hlt6
          obtain ⟨⟨m6, z6⟩, R3, hP7⟩ := HPE.out.act' HKL.out HIK.out (k := k) hg6 ho6 (fun q hq => by
            simp [Value.ownBlock] at hq
            subst hq
            rcases hat6 with e | e
            · exact .inl e
            · exact .inr (by omega))
          have HP7 : Hid (PW w (Y6.setCell ⟨g, i * 3 + 1, none⟩ (.slice (some ⟨ga, 0, none⟩) ((al2 i).length + 1) ca)) a c ts ks2 (upd al2 i (al2 i ++ [k])) nl2 (.slice (some ⟨g, 0, none⟩) mm cv) R3) := hP7
          have HS6 : Hid (Y6.cell? ⟨tb, 0, none⟩ = some (.int .i64 th) ∧ Y6.cell? ⟨tb, 1, none⟩ = some (.int .i64 dd) ∧ Y6.cell? ⟨tb, 2, none⟩ = some (.string nm) ∧ Y6.cell? ⟨tb, 3, none⟩ = some (.int .i64 arg) ∧ Y6.cell? ⟨tb, 4, none⟩ = some (.int .i64 call) ∧ Y6.cell? ⟨tb, 5, none⟩ = some (.int .i64 back) ∧ Y6.cell? ⟨tb, 6, none⟩ = some (.int .i64 ans)) := by
            obtain ⟨x0, x1, x2, x3, x4, x5, x6⟩ := HSE.out
            have hf := fun o u (hc : E0.cell? ⟨tb, o, none⟩ = some u) => hg6.cell hc (fun e => HTBA.out e.symm)
            exact ⟨hf _ _ x0, hf _ _ x1, hf _ _ x2, hf _ _ x3, hf _ _ x4, hf _ _ x5, hf _ _ x6⟩
          have HS7 : Hid ((Y6.setCell ⟨g, i * 3 + 1, none⟩ (.slice (some ⟨ga, 0, none⟩) ((al2 i).length + 1) ca)).cell? ⟨tb, 0, none⟩ = some (.int .i64 th) ∧ (Y6.setCell ⟨g, i * 3 + 1, none⟩ (.slice (some ⟨ga, 0, none⟩) ((al2 i).length + 1) ca)).cell? ⟨tb, 1, none⟩ = some (.int .i64 dd) ∧ (Y6.setCell ⟨g, i * 3 + 1, none⟩ (.slice (some ⟨ga, 0, none⟩) ((al2 i).length + 1) ca)).cell? ⟨tb, 2, none⟩ = some (.string nm) ∧ (Y6.setCell ⟨g, i * 3 + 1, none⟩ (.slice (some ⟨ga, 0, none⟩) ((al2 i).length + 1) ca)).cell? ⟨tb, 3, none⟩ = some (.int .i64 arg) ∧ (Y6.setCell ⟨g, i * 3 + 1, none⟩ (.slice (some ⟨ga, 0, none⟩) ((al2 i).length + 1) ca)).cell? ⟨tb, 4, none⟩ = some (.int .i64 call) ∧ (Y6.setCell ⟨g, i * 3 + 1, none⟩ (.slice (some ⟨ga, 0, none⟩) ((al2 i).length + 1) ca)).cell? ⟨tb, 5, none⟩ = some (.int .i64 back) ∧ (Y6.setCell ⟨g, i * 3 + 1, none⟩ (.slice (some ⟨ga, 0, none⟩) ((al2 i).length + 1) ca)).cell? ⟨tb, 6, none⟩ = some (.int .i64 ans)) := by
            obtain ⟨x0, x1, x2, x3, x4, x5, x6⟩ := HS6.out
            have hf := fun o u (hc : Y6.cell? ⟨tb, o, none⟩ = some u) => (World.cell?_setCell_far Y6 ⟨g, i * 3 + 1, none⟩ ⟨tb, o, none⟩ (.slice (some ⟨ga, 0, none⟩) ((al2 i).length + 1) ca) HTBP.out).trans hc
            exact ⟨hf _ _ x0, hf _ _ x1, hf _ _ x2, hf _ _ x3, hf _ _ x4, hf _ _ x5, hf _ _ x6⟩
          refine hK.out _ _ HS6.out (fun hHeld => ?_)
          clear hK K ho6 hg6 hat6 hlt6 hP7
          try simp only [Act.put, List.setIfInBounds_toArray, List.set_cons_zero, List.set_cons_succ]
          refine tk (i := 10) (v := ?_) (tA rfl) (by kernel_rfl) (fun _ _ _ h => h) (Or.inl ⟨by rfl, ?_⟩) (by assumption) ?_
          rotate_left
          · (intro w hSw; (try dsimp only at hSw); go_simp <;> with_reducible rfl)
          simp only [Act.put, List.setIfInBounds_toArray, List.set_cons_zero, List.set_cons_succ]
          refine tk (i := 11) (v := ?_) (tA rfl) (by kernel_rfl) (fun _ _ _ h => h) (Or.inl ⟨by rfl, ?_⟩) (by assumption) ?_
          rotate_left
          · (intro w hSw; (try dsimp only at hSw); go_simp <;> with_reducible rfl)
          simp only [Act.put, List.setIfInBounds_toArray, List.set_cons_zero, List.set_cons_succ]
          refine wpAnyH_ready (rs := [12]) (by kernel_rfl) (by simp) ?_
          refine AllReadyH.cons (tA rfl) (fun K hK => ?_) AllReadyH.nil
          go_simp
          refine hK.out _ _ HS7.out (fun hHeld => ?_)
          clear hK K m6 z6
          try simp only [Act.put, List.setIfInBounds_toArray, List.set_cons_zero, List.set_cons_succ]
          refine wpAnyH_done (by kernel_rfl) ?_ _
          clear hHeld
          generalize Y6.setCell ⟨g, i * 3 + 1, none⟩ (.slice (some ⟨ga, 0, none⟩) ((al2 i).length + 1) ca) = F0 at HP7 ⊢
          clear HS6 HS7
          have r1 := (HP7.out.at' HKL.out HIM.out).2.2.1
          have r2 := (HP7.out.at' HKL.out HIM.out).2.2.2 (i * 3 + 2)
          obtain ⟨G0, hG0⟩ : ∃ Y, F0.alloc (.cells #[.int .i64 k] 3) = Y := ⟨_, rfl⟩
          have hbG : Below F0.heap.size F0 G0 := by rw [← hG0]; exact hbl1 _ _
          have HPG : Hid (PW w G0 a c ts ks2 (upd al2 i (al2 i ++ [k])) nl2 (.slice (some ⟨g, 0, none⟩) mm cv) R3) := HP7.out.below hbG
          have HNG : Hid (∀ j u, ([.int .i64 k] : List Value)[j]? = some u → G0.cell? ((⟨F0.heap.size, 0, none⟩ : Addr).add j) = some u) := by
            intro j u hu
            match j, hu with
            | 0, hu => simp at hu; subst hu; rw [← hG0]; exact A.cell_last (by simp) (by simp)
            | j + 1, hu => simp at hu
          have hlowG := HPG.out.fw.low.size
          clear hbG
          go_wp2_with (first | (at_builtin; go_loud (refine wpList_append_lies _ rfl _ _ 27 rfl w.heap.size 3 i1 _ 1 8 Try.underlying27 hi1 hz10 hz11 hz12 rfl (by decide) (R3 (2 * i + 2)).v (nl2 i).length ((nl2 i).map nV) rfl (HPG.out.nrow HIK.out) ⟨F0.heap.size, 0, none⟩ 1 1 [.int .i64 k] rfl rfl HNG.out (by intro u hu; simp at hu; subst hu; rfl) (by decide) (by unfold maxLen; omega) (by omega) hlowG G0.heap.size rfl ?_; intro gb cb w9 ho9 hg9 hat9 hlt9; obtain ⟨⟨m9, z9⟩, R4, hP9⟩ := HPG.out.num' HKL.out HIK.out (k := k) hg9 ho9 (fun q hq => by simp [Value.ownBlock] at hq; subst hq; rcases hat9 with e | e; exact .inl e; exact .inr (by omega)); have HP9 := hP9)) | fail)
          have HFIN := HNEXT.out _ _ HP9
          go_roundg (l - (k + 1))
          case measure => omega
          case rel => exact ⟨k + 1, rfl, by go_num, by omega, HFIN⟩
      | none =>
        have hneg : ((-1 : Int) < 0) := by decide
        obtain ⟨Z, hZ⟩ : ∃ Y, Wc.alloc (.cells #[.slice ap lp cp2, .slice none 0 0, .slice none 0 0] 56) = Y := ⟨_, rfl⟩
        have hbZ : Below Wc.heap.size Wc Z := by rw [← hZ]; exact hbl1 _ _
        have HPZ : Hid (PW w Z a c ts ks al nl (.slice av mm cv) R) := HPC.out.below hbZ
        have HNZ : Hid (∀ j u, ([.slice ap lp cp2, .slice none 0 0, .slice none 0 0] : List Value)[j]? = some u → Z.cell? ((⟨Wc.heap.size, 0, none⟩ : Addr).add j) = some u) := by
          intro j u hu
          rw [Addr.add_lit, Nat.zero_add, ← hZ]
          exact A.cell_last rfl (by simpa using hu)
        have HRZ : Hid (Z.ownsRow w.heap.size 56 3 (.slice av mm cv) mm (H.pcl a c ks R)) := by
          have := HPZ.out.prow
          rw [HKL.out] at this
          exact this
        have hlowZ := HPZ.out.fw.low.size
        have hmm60 := HLK.out
        have HSZ : Hid (Z.cell? ⟨tb, 0, none⟩ = some (.int .i64 th) ∧ Z.cell? ⟨tb, 1, none⟩ = some (.int .i64 dd) ∧ Z.cell? ⟨tb, 2, none⟩ = some (.string nm) ∧ Z.cell? ⟨tb, 3, none⟩ = some (.int .i64 arg) ∧ Z.cell? ⟨tb, 4, none⟩ = some (.int .i64 call) ∧ Z.cell? ⟨tb, 5, none⟩ = some (.int .i64 back) ∧ Z.cell? ⟨tb, 6, none⟩ = some (.int .i64 ans)) := by
          obtain ⟨x0, x1, x2, x3, x4, x5, x6⟩ := HSC.out
          exact ⟨hcell_thru hbZ x0, hcell_thru hbZ x1, hcell_thru hbZ x2, hcell_thru hbZ x3, hcell_thru hbZ x4, hcell_thru hbZ x5, hcell_thru hbZ x6⟩
        have HTZ : Hid (tb < Z.heap.size) := Nat.lt_of_lt_of_le HTW.out hbZ.size
        clear hbZ
        go_wp2_with (first | (at_builtin; go_loud (refine wpList_append_lies _ rfl _ _ 53 rfl w.heap.size 56 i3 _ 3 72 Try.underlying53 hi3 hz30 hz31 hz32 rfl (by decide) (.slice av mm cv) mm (H.pcl a c ks R) rfl HRZ.out ⟨Wc.heap.size, 0, none⟩ 1 1 [.slice ap lp cp2, .slice none 0 0, .slice none 0 0] rfl rfl HNZ.out (by intro u hu; simp at hu; rcases hu with rfl | rfl <;> rfl) (by decide) (by unfold maxLen; omega) (by omega) hlowZ Z.heap.size rfl ?_; intro g cq w5 ho5 hg5 hat5 hlt5; have HATH : Hid ((Value.slice av mm cv).ownBlock = some g ∨ g = Z.heap.size) := hat5; have hP5 := HPZ.out.new (q := qk) (v1 := .slice (some ⟨g, 0, none⟩) (mm + 1) cq) hg5 (by rw [HOBS.out, HKL.out]; exact ho5) (fun q hq => by (simp [Value.ownBlock] at hq; subst hq; rcases hat5 with e | e; exact .inl e; exact .inr (by omega))); have hS5 := fun o u (hc : Z.cell? ⟨tb, o, none⟩ = some u) => hg5.cell hc (fun e => by have := HVL.out tb e.symm; omega); clear ho5 hg5 hat5 hlt5)) | fail)
        obtain ⟨ks2, hks2⟩ : ∃ q, ks ++ [qk] = q := ⟨_, rfl⟩
        rw [HKL.out] at hP5
        obtain ⟨al2, hal2⟩ : ∃ q, upd al mm [] = q := ⟨_, rfl⟩
        obtain ⟨nl2, hnl2⟩ : ∃ q, upd nl mm [] = q := ⟨_, rfl⟩
        obtain ⟨R2, hR2⟩ : ∃ q, (upd (upd (upd R 0 ⟨56, 3, .slice (some ⟨g, 0, none⟩) (mm + 1) cq, mm + 1, H.pcl a c ks R ++ [H.obSl a c qk, .slice none 0 0, .slice none 0 0]⟩) (1 + 2 * mm) ⟨42, 7, .slice none 0 0, 0, []⟩) (1 + 2 * mm + 1) ⟨3, 1, .slice none 0 0, 0, []⟩) = q := ⟨_, rfl⟩
        rw [hks2, hal2, hnl2, hR2] at hP5
        have HPC5 : Hid (PW w w5 a c ts ks2 al2 nl2 (.slice (some ⟨g, 0, none⟩) (mm + 1) cq) R2) := hP5
        have HKL5 : Hid (ks2.length = mm + 1) := by show _ = _; rw [← hks2, List.length_append, HKL.out]; rfl
        have HSC5 : Hid (w5.cell? ⟨tb, 0, none⟩ = some (.int .i64 th) ∧ w5.cell? ⟨tb, 1, none⟩ = some (.int .i64 dd) ∧ w5.cell? ⟨tb, 2, none⟩ = some (.string nm) ∧ w5.cell? ⟨tb, 3, none⟩ = some (.int .i64 arg) ∧ w5.cell? ⟨tb, 4, none⟩ = some (.int .i64 call) ∧ w5.cell? ⟨tb, 5, none⟩ = some (.int .i64 back) ∧ w5.cell? ⟨tb, 6, none⟩ = some (.int .i64 ans)) := by
          obtain ⟨x0, x1, x2, x3, x4, x5, x6⟩ := HSZ.out
          exact ⟨hS5 _ _ x0, hS5 _ _ x1, hS5 _ _ x2, hS5 _ _ x3, hS5 _ _ x4, hS5 _ _ x5, hS5 _ _ x6⟩
        have HTBN : Hid (g ≠ tb) := fun e => by
          subst e
          rcases HATH.out with e2 | e2
          · have := HVL.out g e2; omega
          · have := HTZ.out; omega
        have HTBR : Hid (∀ j, j < mm + 1 → (R2 (2 * j + 1)).v.ownBlock ≠ some tb) := fun j hj e => by
          rw [← hR2] at e
          by_cases ej : j = mm
          · subst ej
            rw [upd_ne _ _ (by omega), show 2 * j + 1 = 1 + 2 * j by omega, upd_self] at e
            simp [Value.ownBlock] at e
          · rw [upd_ne _ _ (by omega), upd_ne _ _ (by omega), upd_ne _ _ (by omega)] at e
            have := HTL.out (2 * j + 1) (by omega) tb e
            omega
        have HNEXT : Hid (∀ W R', PW w W a c ts ks2 (upd al2 mm (al2 mm ++ [k])) (upd nl2 mm (nl2 mm ++ [k])) (.slice (some ⟨g, 0, none⟩) (mm + 1) cq) R' → PInv w a c os ts (k + 1) (.slice (some ⟨g, 0, none⟩) (mm + 1) cq) W) := fun W R' h => HNN.out W R' _ (by first | rfl | trivial) (by rw [HKL.out, hks2, hal2, hnl2]; exact h)
        have hal60a : (al2 mm).length ≤ 60 := by rw [← hal2, upd_self]; simp
        have hal60b : (nl2 mm).length ≤ 60 := by rw [← hnl2, upd_self]; simp
        have him : mm < mm + 1 := Nat.lt_succ_self _
        clear HKL HPC HSC hP5 hS5 hks2 hal2 hnl2 hR2 x9 HNN HNF HFF HKS HKF HOB HOBS HFI HAL HPZ HRZ HNZ HSZ hZ
        have HKL : Hid _ := HKL5.out
        have HPC : Hid (PW w w5 a c ts ks2 al2 nl2 (.slice (some ⟨g, 0, none⟩) (mm + 1) cq) R2) := HPC5.out
        have HSC : Hid _ := HSC5.out
        have HPD : Hid (PW w w5.drew a c ts ks2 al2 nl2 (.slice (some ⟨g, 0, none⟩) (mm + 1) cq) R2) := HPC.out.below (Below.refl _ _).drew
        have HSD : Hid (w5.drew.cell? ⟨tb, 0, none⟩ = some (.int .i64 th) ∧ w5.drew.cell? ⟨tb, 1, none⟩ = some (.int .i64 dd) ∧ w5.drew.cell? ⟨tb, 2, none⟩ = some (.string nm) ∧ w5.drew.cell? ⟨tb, 3, none⟩ = some (.int .i64 arg) ∧ w5.drew.cell? ⟨tb, 4, none⟩ = some (.int .i64 call) ∧ w5.drew.cell? ⟨tb, 5, none⟩ = some (.int .i64 back) ∧ w5.drew.cell? ⟨tb, 6, none⟩ = some (.int .i64 ans)) := by
          simp only [World.cell?_drew]
          exact HSC.out
        have HTBP : Hid (g ≠ tb) := HTBN.out
        have HIK : Hid (mm < ks2.length) := by show _ < _; rw [HKL.out]; exact him
        have HIM : Hid (mm < (mm + 1)) := him
        have HSW : Hid _ := HSD.out
        obtain ⟨D0, hD0⟩ : ∃ Y, w5.drew = Y := ⟨_, rfl⟩
        rw [hD0] at HPD HSD
        obtain ⟨E0, hE0⟩ : ∃ Y, D0.alloc (.cells #[.int .i64 th, .int .i64 dd, .string nm, .int .i64 arg, .int .i64 call, .int .i64 back, .int .i64 ans] 42) = Y := ⟨_, rfl⟩
        have hbE : Below D0.heap.size D0 E0 := by rw [← hE0]; exact hbl1 _ _
        have HPE : Hid (PW w E0 a c ts ks2 al2 nl2 (.slice (some ⟨g, 0, none⟩) (mm + 1) cq) R2) := HPD.out.below hbE
        have HSE : Hid (E0.cell? ⟨tb, 0, none⟩ = some (.int .i64 th) ∧ E0.cell? ⟨tb, 1, none⟩ = some (.int .i64 dd) ∧ E0.cell? ⟨tb, 2, none⟩ = some (.string nm) ∧ E0.cell? ⟨tb, 3, none⟩ = some (.int .i64 arg) ∧ E0.cell? ⟨tb, 4, none⟩ = some (.int .i64 call) ∧ E0.cell? ⟨tb, 5, none⟩ = some (.int .i64 back) ∧ E0.cell? ⟨tb, 6, none⟩ = some (.int .i64 ans)) := by
          obtain ⟨x0, x1, x2, x3, x4, x5, x6⟩ := HSD.out
          exact ⟨hcell_thru hbE x0, hcell_thru hbE x1, hcell_thru hbE x2, hcell_thru hbE x3, hcell_thru hbE x4, hcell_thru hbE x5, hcell_thru hbE x6⟩
        have HNC : Hid (∀ j u, (ts.getD k H.noAc).cs[j]? = some u → E0.cell? ((⟨D0.heap.size, 0, none⟩ : Addr).add j) = some u) := by
          intro j u hu
          rw [HX.out] at hu
          rw [Addr.add_lit, Nat.zero_add, ← hE0]
          exact A.cell_last rfl (by simpa [H.Ac.cs] using hu)
        have HONE : Hid (∀ u ∈ (ts.getD k H.noAc).cs, u.oneCell' = true) := by
          intro u hu
          simp [H.Ac.cs] at hu
          rcases hu with rfl | rfl | rfl | rfl | rfl | rfl | rfl <;> rfl
        have HTBA : Hid ((R2 (2 * mm + 1)).v.ownBlock ≠ some tb) := HTBR.out mm him
        have hii2 : (mm : Int) < (mm + 1) := by omega
        have hin2 : 0 ≤ (mm : Int) := by omega
        clear hbE
        go_wp2_with fail
        refine wp_region_held_drew (S := (fun w' : World => w'.cell? ⟨tb, 0, none⟩ = some (.int .i64 th) ∧ w'.cell? ⟨tb, 1, none⟩ = some (.int .i64 dd) ∧ w'.cell? ⟨tb, 2, none⟩ = some (.string nm) ∧ w'.cell? ⟨tb, 3, none⟩ = some (.int .i64 arg) ∧ w'.cell? ⟨tb, 4, none⟩ = some (.int .i64 call) ∧ w'.cell? ⟨tb, 5, none⟩ = some (.int .i64 back) ∧ w'.cell? ⟨tb, 6, none⟩ = some (.int .i64 ans))) (by kernel_rfl) HSW.out (fun hHeld => ?_)
        refine tk (i := 0) (v := ?_) (tA rfl) (by kernel_rfl) (fun _ _ _ h => h) (Or.inl ⟨by rfl, ?_⟩) (by assumption) ?_
        rotate_left
        · (intro w hSw; (try dsimp only at hSw); go_simp <;> with_reducible rfl)
        simp only [Act.put, List.setIfInBounds_toArray, List.set_cons_zero, List.set_cons_succ]
        refine tk (i := 1) (v := ?_) (tA rfl) (by kernel_rfl) (fun _ _ _ h => h) (Or.inl ⟨by rfl, ?_⟩) (by assumption) ?_
        rotate_left
        · (intro w hSw; (try dsimp only at hSw); go_simp <;> with_reducible rfl)
        simp only [Act.put, List.setIfInBounds_toArray, List.set_cons_zero, List.set_cons_succ]
        refine tk (i := 2) (v := ?_) (tA rfl) (by kernel_rfl) (fun _ _ _ h => h) (Or.inl ⟨by rfl, ?_⟩) (by assumption) ?_
        rotate_left
        · (intro w hSw; (try dsimp only at hSw); go_simp <;> with_reducible rfl)
        simp only [Act.put, List.setIfInBounds_toArray, List.set_cons_zero, List.set_cons_succ]
        refine tk (i := 3) (v := ?_) (tA rfl) (by kernel_rfl) (fun _ _ _ h => h) (Or.inl ⟨by rfl, ?_⟩) (by assumption) ?_
        rotate_left
        · (intro w hSw; (try dsimp only at hSw); go_simp <;> with_reducible rfl)
        simp only [Act.put, List.setIfInBounds_toArray, List.set_cons_zero, List.set_cons_succ]
        refine tk (i := 4) (v := ?_) (tA rfl) (by kernel_rfl) (fun _ _ _ h => h) (Or.inl ⟨by rfl, ?_⟩) (by assumption) ?_
        rotate_left
        · (intro w hSw; (try dsimp only at hSw); go_simp <;> with_reducible rfl)
        simp only [Act.put, List.setIfInBounds_toArray, List.set_cons_zero, List.set_cons_succ]
        refine tk (i := 5) (v := ?_) (tA rfl) (by kernel_rfl) (fun _ _ _ h => h) (Or.inl ⟨by rfl, ?_⟩) (by assumption) ?_
        rotate_left
        · (intro w hSw; (try dsimp only at hSw); go_simp <;> with_reducible rfl)
        simp only [Act.put, List.setIfInBounds_toArray, List.set_cons_zero, List.set_cons_succ]
        refine tk (i := 7) (v := ?_) (tA rfl) (by kernel_rfl) (fun _ _ _ h => h) (Or.inl ⟨by rfl, ?_⟩) (by assumption) ?_
        rotate_left
        · (intro w hSw; (try dsimp only at hSw); go_simp <;> with_reducible rfl)
        simp only [Act.put, List.setIfInBounds_toArray, List.set_cons_zero, List.set_cons_succ]
        try rw [hD0] at hHeld
        try rw [hD0]
        refine wpAnyH_ready (rs := [6, 8]) (by kernel_rfl) (by simp) ?_
        refine AllReadyH.cons (tA rfl) (fun K hK => ?_) (AllReadyH.cons (tA rfl) (fun K hK => ?_) AllReadyH.nil)
        · have m3 := (HPD.out.at' HKL.out HIM.out).2.1
          go_simp
          refine hK.out _ _ hHeld (fun hHeld => ?_)
          clear hK K m3
          try simp only [Act.put, List.setIfInBounds_toArray, List.set_cons_zero, List.set_cons_succ]
          refine wpAnyH_ready (rs := [8]) (by kernel_rfl) (by simp) ?_
          refine AllReadyH.cons (tA rfl) (fun K hK => ?_) AllReadyH.nil
          go_simp
          refine hK.out _ _ HSE.out (fun hHeld => ?_)
          clear hK K
          try simp only [Act.put, List.setIfInBounds_toArray, List.set_cons_zero, List.set_cons_succ]
          refine wpAnyH_ready (rs := [9]) (by kernel_rfl) (by simp) ?_
          refine AllReadyH.cons (tA rfl) (fun K hK => ?_) AllReadyH.nil
          refine step_append_lies _ (by rfl) _ _ 23 (by rfl) w.heap.size 42 i7 _ 7 64 Try.underlying23 hi7 hz70 hz71 hz72 (by rfl) (by decide) (R2 (2 * mm + 1)).v (al2 mm).length (H.acl ts (al2 mm)) (by rfl) (HPE.out.arow HIK.out) ⟨D0.heap.size, 0, none⟩ 1 1 (ts.getD k H.noAc).cs (by rfl) (by rfl) HNC.out HONE.out (by decide) (by unfold maxLen; omega) (by omega) HPE.out.fw.low.size _ rfl ?_
          intro ga ca Y6 ho6 hg6 hat6 hlt6
          obtain ⟨⟨m6, z6⟩, R3, hP7⟩ := HPE.out.act' HKL.out HIK.out (k := k) hg6 ho6 (fun q hq => by
            simp [Value.ownBlock] at hq
            subst hq
            rcases hat6 with e | e
            · exact .inl e
            · exact .inr (by omega))
          have HP7 : Hid (PW w (Y6.setCell ⟨g, mm * 3 + 1, none⟩ (.slice (some ⟨ga, 0, none⟩) ((al2 mm).length + 1) ca)) a c ts ks2 (upd al2 mm (al2 mm ++ [k])) nl2 (.slice (some ⟨g, 0, none⟩) (mm + 1) cq) R3) := hP7
          have HS6 : Hid (Y6.cell? ⟨tb, 0, none⟩ = some (.int .i64 th) ∧ Y6.cell? ⟨tb, 1, none⟩ = some (.int .i64 dd) ∧ Y6.cell? ⟨tb, 2, none⟩ = some (.string nm) ∧ Y6.cell? ⟨tb, 3, none⟩ = some (.int .i64 arg) ∧ Y6.cell? ⟨tb, 4, none⟩ = some (.int .i64 call) ∧ Y6.cell? ⟨tb, 5, none⟩ = some (.int .i64 back) ∧ Y6.cell? ⟨tb, 6, none⟩ = some (.int .i64 ans)) := by
            obtain ⟨x0, x1, x2, x3, x4, x5, x6⟩ := HSE.out
            have hf := fun o u (hc : E0.cell? ⟨tb, o, none⟩ = some u) => hg6.cell hc (fun e => HTBA.out e.symm)
            exact ⟨hf _ _ x0, hf _ _ x1, hf _ _ x2, hf _ _ x3, hf _ _ x4, hf _ _ x5, hf _ _ x6⟩
          have HS7 : Hid ((Y6.setCell ⟨g, mm * 3 + 1, none⟩ (.slice (some ⟨ga, 0, none⟩) ((al2 mm).length + 1) ca)).cell? ⟨tb, 0, none⟩ = some (.int .i64 th) ∧ (Y6.setCell ⟨g, mm * 3 + 1, none⟩ (.slice (some ⟨ga, 0, none⟩) ((al2 mm).length + 1) ca)).cell? ⟨tb, 1, none⟩ = some (.int .i64 dd) ∧ (Y6.setCell ⟨g, mm * 3 + 1, none⟩ (.slice (some ⟨ga, 0, none⟩) ((al2 mm).length + 1) ca)).cell? ⟨tb, 2, none⟩ = some (.string nm) ∧ (Y6.setCell ⟨g, mm * 3 + 1, none⟩ (.slice (some ⟨ga, 0, none⟩) ((al2 mm).length + 1) ca)).cell? ⟨tb, 3, none⟩ = some (.int .i64 arg) ∧ (Y6.setCell ⟨g, mm * 3 + 1, none⟩ (.slice (some ⟨ga, 0, none⟩) ((al2 mm).length + 1) ca)).cell? ⟨tb, 4, none⟩ = some (.int .i64 call) ∧ (Y6.setCell ⟨g, mm * 3 + 1, none⟩ (.slice (some ⟨ga, 0, none⟩) ((al2 mm).length + 1) ca)).cell? ⟨tb, 5, none⟩ = some (.int .i64 back) ∧ (Y6.setCell ⟨g, mm * 3 + 1, none⟩ (.slice (some ⟨ga, 0, none⟩) ((al2 mm).length + 1) ca)).cell? ⟨tb, 6, none⟩ = some (.int .i64 ans)) := by
            obtain ⟨x0, x1, x2, x3, x4, x5, x6⟩ := HS6.out
            have hf := fun o u (hc : Y6.cell? ⟨tb, o, none⟩ = some u) => (World.cell?_setCell_far Y6 ⟨g, mm * 3 + 1, none⟩ ⟨tb, o, none⟩ (.slice (some ⟨ga, 0, none⟩) ((al2 mm).length + 1) ca) HTBP.out).trans hc
            exact ⟨hf _ _ x0, hf _ _ x1, hf _ _ x2, hf _ _ x3, hf _ _ x4, hf _ _ x5, hf _ _ x6⟩
          refine hK.out _ _ HS6.out (fun hHeld => ?_)
          clear hK K ho6 hg6 hat6 hlt6 hP7
          try simp only [Act.put, List.setIfInBounds_toArray, List.set_cons_zero, List.set_cons_succ]
          refine tk (i := 10) (v := ?_) (tA rfl) (by kernel_rfl) (fun _ _ _ h => h) (Or.inl ⟨by rfl, ?_⟩) (by assumption) ?_
          rotate_left
          · (intro w hSw; (try dsimp only at hSw); go_simp <;> with_reducible rfl)
          simp only [Act.put, List.setIfInBounds_toArray, List.set_cons_zero, List.set_cons_succ]
          refine tk (i := 11) (v := ?_) (tA rfl) (by kernel_rfl) (fun _ _ _ h => h) (Or.inl ⟨by rfl, ?_⟩) (by assumption) ?_
          rotate_left
          · (intro w hSw; (try dsimp only at hSw); go_simp <;> with_reducible rfl)
          simp only [Act.put, List.setIfInBounds_toArray, List.set_cons_zero, List.set_cons_succ]
          refine wpAnyH_ready (rs := [12]) (by kernel_rfl) (by simp) ?_
          refine AllReadyH.cons (tA rfl) (fun K hK => ?_) AllReadyH.nil
          go_simp
          refine hK.out _ _ HS7.out (fun hHeld => ?_)
          clear hK K m6 z6
          try simp only [Act.put, List.setIfInBounds_toArray, List.set_cons_zero, List.set_cons_succ]
          refine wpAnyH_done (by kernel_rfl) ?_ _
          clear hHeld
          generalize Y6.setCell ⟨g, mm * 3 + 1, none⟩ (.slice (some ⟨ga, 0, none⟩) ((al2 mm).length + 1) ca) = F0 at HP7 ⊢
          clear HS6 HS7
          have r1 := (HP7.out.at' HKL.out HIM.out).2.2.1
          have r2 := (HP7.out.at' HKL.out HIM.out).2.2.2 (mm * 3 + 2)
          obtain ⟨G0, hG0⟩ : ∃ Y, F0.alloc (.cells #[.int .i64 k] 3) = Y := ⟨_, rfl⟩
          have hbG : Below F0.heap.size F0 G0 := by rw [← hG0]; exact hbl1 _ _
          have HPG : Hid (PW w G0 a c ts ks2 (upd al2 mm (al2 mm ++ [k])) nl2 (.slice (some ⟨g, 0, none⟩) (mm + 1) cq) R3) := HP7.out.below hbG
          have HNG : Hid (∀ j u, ([.int .i64 k] : List Value)[j]? = some u → G0.cell? ((⟨F0.heap.size, 0, none⟩ : Addr).add j) = some u) := by
            intro j u hu
            match j, hu with
            | 0, hu => simp at hu; subst hu; rw [← hG0]; exact A.cell_last (by simp) (by simp)
            | j + 1, hu => simp at hu
          have hlowG := HPG.out.fw.low.size
          clear hbG
          go_wp2_with (first | (at_builtin; go_loud (refine wpList_append_lies _ rfl _ _ 27 rfl w.heap.size 3 i1 _ 1 8 Try.underlying27 hi1 hz10 hz11 hz12 rfl (by decide) (R3 (2 * mm + 2)).v (nl2 mm).length ((nl2 mm).map nV) rfl (HPG.out.nrow HIK.out) ⟨F0.heap.size, 0, none⟩ 1 1 [.int .i64 k] rfl rfl HNG.out (by intro u hu; simp at hu; subst hu; rfl) (by decide) (by unfold maxLen; omega) (by omega) hlowG G0.heap.size rfl ?_; intro gb cb w9 ho9 hg9 hat9 hlt9; obtain ⟨⟨m9, z9⟩, R4, hP9⟩ := HPG.out.num' HKL.out HIK.out (k := k) hg9 ho9 (fun q hq => by simp [Value.ownBlock] at hq; subst hq; rcases hat9 with e | e; exact .inl e; exact .inr (by omega)); have HP9 := hP9)) | fail)
          have HFIN := HNEXT.out _ _ HP9
          go_roundg (l - (k + 1))
          case measure => omega
          case rel => exact ⟨k + 1, rfl, by go_num, by omega, HFIN⟩
        · go_simp
          refine hK.out _ _ HSE.out (fun hHeld => ?_)
          clear hK K
          try simp only [Act.put, List.setIfInBounds_toArray, List.set_cons_zero, List.set_cons_succ]
          refine wpAnyH_ready (rs := [6]) (by kernel_rfl) (by simp) ?_
          refine AllReadyH.cons (tA rfl) (fun K hK => ?_) AllReadyH.nil
          have m3 := (HPE.out.at' HKL.out HIM.out).2.1
          go_simp
          refine hK.out _ _ hHeld (fun hHeld => ?_)
          clear hK K m3
          try simp only [Act.put, List.setIfInBounds_toArray, List.set_cons_zero, List.set_cons_succ]
          refine wpAnyH_ready (rs := [9]) (by kernel_rfl) (by simp) ?_
          refine AllReadyH.cons (tA rfl) (fun K hK => ?_) AllReadyH.nil
          refine step_append_lies _ (by rfl) _ _ 23 (by rfl) w.heap.size 42 i7 _ 7 64 Try.underlying23 hi7 hz70 hz71 hz72 (by rfl) (by decide) (R2 (2 * mm + 1)).v (al2 mm).length (H.acl ts (al2 mm)) (by rfl) (HPE.out.arow HIK.out) ⟨D0.heap.size, 0, none⟩ 1 1 (ts.getD k H.noAc).cs (by rfl) (by rfl) HNC.out HONE.out (by decide) (by unfold maxLen; omega) (by omega) HPE.out.fw.low.size _ rfl ?_
          intro ga ca Y6 ho6 hg6 hat6 hlt6
          obtain ⟨⟨m6, z6⟩, R3, hP7⟩ := HPE.out.act' HKL.out HIK.out (k := k) hg6 ho6 (fun q hq => by
            simp [Value.ownBlock] at hq
            subst hq
            rcases hat6 with e | e
            · exact .inl e
            · exact .inr (by omega))
          have HP7 : Hid (PW w (Y6.setCell ⟨g, mm * 3 + 1, none⟩ (.slice (some ⟨ga, 0, none⟩) ((al2 mm).length + 1) ca)) a c ts ks2 (upd al2 mm (al2 mm ++ [k])) nl2 (.slice (some ⟨g, 0, none⟩) (mm + 1) cq) R3) := hP7
          have HS6 : Hid (Y6.cell? ⟨tb, 0, none⟩ = some (.int .i64 th) ∧ Y6.cell? ⟨tb, 1, none⟩ = some (.int .i64 dd) ∧ Y6.cell? ⟨tb, 2, none⟩ = some (.string nm) ∧ Y6.cell? ⟨tb, 3, none⟩ = some (.int .i64 arg) ∧ Y6.cell? ⟨tb, 4, none⟩ = some (.int .i64 call) ∧ Y6.cell? ⟨tb, 5, none⟩ = some (.int .i64 back) ∧ Y6.cell? ⟨tb, 6, none⟩ = some (.int .i64 ans)) := by
            obtain ⟨x0, x1, x2, x3, x4, x5, x6⟩ := HSE.out
            have hf := fun o u (hc : E0.cell? ⟨tb, o, none⟩ = some u) => hg6.cell hc (fun e => HTBA.out e.symm)
            exact ⟨hf _ _ x0, hf _ _ x1, hf _ _ x2, hf _ _ x3, hf _ _ x4, hf _ _ x5, hf _ _ x6⟩
          have HS7 : Hid ((Y6.setCell ⟨g, mm * 3 + 1, none⟩ (.slice (some ⟨ga, 0, none⟩) ((al2 mm).length + 1) ca)).cell? ⟨tb, 0, none⟩ = some (.int .i64 th) ∧ (Y6.setCell ⟨g, mm * 3 + 1, none⟩ (.slice (some ⟨ga, 0, none⟩) ((al2 mm).length + 1) ca)).cell? ⟨tb, 1, none⟩ = some (.int .i64 dd) ∧ (Y6.setCell ⟨g, mm * 3 + 1, none⟩ (.slice (some ⟨ga, 0, none⟩) ((al2 mm).length + 1) ca)).cell? ⟨tb, 2, none⟩ = some (.string nm) ∧ (Y6.setCell ⟨g, mm * 3 + 1, none⟩ (.slice (some ⟨ga, 0, none⟩) ((al2 mm).length + 1) ca)).cell? ⟨tb, 3, none⟩ = some (.int .i64 arg) ∧ (Y6.setCell ⟨g, mm * 3 + 1, none⟩ (.slice (some ⟨ga, 0, none⟩) ((al2 mm).length + 1) ca)).cell? ⟨tb, 4, none⟩ = some (.int .i64 call) ∧ (Y6.setCell ⟨g, mm * 3 + 1, none⟩ (.slice (some ⟨ga, 0, none⟩) ((al2 mm).length + 1) ca)).cell? ⟨tb, 5, none⟩ = some (.int .i64 back) ∧ (Y6.setCell ⟨g, mm * 3 + 1, none⟩ (.slice (some ⟨ga, 0, none⟩) ((al2 mm).length + 1) ca)).cell? ⟨tb, 6, none⟩ = some (.int .i64 ans)) := by
            obtain ⟨x0, x1, x2, x3, x4, x5, x6⟩ := HS6.out
            have hf := fun o u (hc : Y6.cell? ⟨tb, o, none⟩ = some u) => (World.cell?_setCell_far Y6 ⟨g, mm * 3 + 1, none⟩ ⟨tb, o, none⟩ (.slice (some ⟨ga, 0, none⟩) ((al2 mm).length + 1) ca) HTBP.out).trans hc
            exact ⟨hf _ _ x0, hf _ _ x1, hf _ _ x2, hf _ _ x3, hf _ _ x4, hf _ _ x5, hf _ _ x6⟩
          refine hK.out _ _ HS6.out (fun hHeld => ?_)
          clear hK K ho6 hg6 hat6 hlt6 hP7
          try simp only [Act.put, List.setIfInBounds_toArray, List.set_cons_zero, List.set_cons_succ]
          refine tk (i := 10) (v := ?_) (tA rfl) (by kernel_rfl) (fun _ _ _ h => h) (Or.inl ⟨by rfl, ?_⟩) (by assumption) ?_
          rotate_left
          · (intro w hSw; (try dsimp only at hSw); go_simp <;> with_reducible rfl)
          simp only [Act.put, List.setIfInBounds_toArray, List.set_cons_zero, List.set_cons_succ]
          refine tk (i := 11) (v := ?_) (tA rfl) (by kernel_rfl) (fun _ _ _ h => h) (Or.inl ⟨by rfl, ?_⟩) (by assumption) ?_
          rotate_left
          · (intro w hSw; (try dsimp only at hSw); go_simp <;> with_reducible rfl)
          simp only [Act.put, List.setIfInBounds_toArray, List.set_cons_zero, List.set_cons_succ]
          refine wpAnyH_ready (rs := [12]) (by kernel_rfl) (by simp) ?_
          refine AllReadyH.cons (tA rfl) (fun K hK => ?_) AllReadyH.nil
          go_simp
          refine hK.out _ _ HS7.out (fun hHeld => ?_)
          clear hK K m6 z6
          try simp only [Act.put, List.setIfInBounds_toArray, List.set_cons_zero, List.set_cons_succ]
          refine wpAnyH_done (by kernel_rfl) ?_ _
          clear hHeld
          generalize Y6.setCell ⟨g, mm * 3 + 1, none⟩ (.slice (some ⟨ga, 0, none⟩) ((al2 mm).length + 1) ca) = F0 at HP7 ⊢
          clear HS6 HS7
          have r1 := (HP7.out.at' HKL.out HIM.out).2.2.1
          have r2 := (HP7.out.at' HKL.out HIM.out).2.2.2 (mm * 3 + 2)
          obtain ⟨G0, hG0⟩ : ∃ Y, F0.alloc (.cells #[.int .i64 k] 3) = Y := ⟨_, rfl⟩
          have hbG : Below F0.heap.size F0 G0 := by rw [← hG0]; exact hbl1 _ _
          have HPG : Hid (PW w G0 a c ts ks2 (upd al2 mm (al2 mm ++ [k])) nl2 (.slice (some ⟨g, 0, none⟩) (mm + 1) cq) R3) := HP7.out.below hbG
          have HNG : Hid (∀ j u, ([.int .i64 k] : List Value)[j]? = some u → G0.cell? ((⟨F0.heap.size, 0, none⟩ : Addr).add j) = some u) := by
            intro j u hu
            match j, hu with
            | 0, hu => simp at hu; subst hu; rw [← hG0]; exact A.cell_last (by simp) (by simp)
            | j + 1, hu => simp at hu
          have hlowG := HPG.out.fw.low.size
          clear hbG
          go_wp2_with (first | (at_builtin; go_loud (refine wpList_append_lies _ rfl _ _ 27 rfl w.heap.size 3 i1 _ 1 8 Try.underlying27 hi1 hz10 hz11 hz12 rfl (by decide) (R3 (2 * mm + 2)).v (nl2 mm).length ((nl2 mm).map nV) rfl (HPG.out.nrow HIK.out) ⟨F0.heap.size, 0, none⟩ 1 1 [.int .i64 k] rfl rfl HNG.out (by intro u hu; simp at hu; subst hu; rfl) (by decide) (by unfold maxLen; omega) (by omega) hlowG G0.heap.size rfl ?_; intro gb cb w9 ho9 hg9 hat9 hlt9; obtain ⟨⟨m9, z9⟩, R4, hP9⟩ := HPG.out.num' HKL.out HIK.out (k := k) hg9 ho9 (fun q hq => by simp [Value.ownBlock] at hq; subst hq; rcases hat9 with e | e; exact .inl e; exact .inr (by omega)); have HP9 := hP9)) | fail)
          have HFIN := HNEXT.out _ _ HP9
          go_roundg (l - (k + 1))
          case measure => omega
          case rel => exact ⟨k + 1, rfl, by go_num, by omega, HFIN⟩
    · obtain rfl : k = l := by omega
      have hii : ¬ (k : Int) < k := by omega
      go_wp2_with fail
      go_ret
      exact ⟨_, rfl, HPI.out⟩
end Go.Proofs.Ytafdjmccgijmnaa
