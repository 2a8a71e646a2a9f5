/- A label that nobody names changes nothing: the mathematics. -/
import Derived.Test.YtdlepimdohhkaaaGreatDoorMGi
import Derived.Test.YtdlepimdohhkaaaGreatDoorMGg
import Derived.Test.YtdlepimdohhkaaaGreatDoorAsMay
import Derived.Test.YtdlepimdohhkaaaGreatDoorAsSaid
import Derived.Laws.BytesArg
namespace Go.Proofs.YtdlepimdohhkaaaGreatDoor
namespace Z
open Go.RowKit
set_option linter.unusedVariables false
set_option linter.unusedSimpArgs false

/-- Something between. -/
def put {α : Type} (m : Nat) (x : α) (l : List α) : List α := l.take m ++ x :: l.drop m
/-- Where a place goes. -/
def mv (m i : Nat) : Nat := if i < m then i else i + 1
theorem put_len {α : Type} {m : Nat} (x : α) {l : List α} (h : m ≤ l.length) : (put m x l).length = l.length + 1 := by
  unfold put
  rw [List.length_append, List.length_cons, List.length_take, List.length_drop]
  omega
theorem put_get {α : Type} {m : Nat} (x : α) {l : List α} (h : m ≤ l.length) (i : Nat) : (put m x l)[mv m i]? = l[i]? := by
  unfold put mv
  split
  · next hi =>
    rw [List.getElem?_append_left (by rw [List.length_take]; omega), List.getElem?_take, if_pos hi]
  · next hi =>
    rw [List.getElem?_append_right (by rw [List.length_take]; omega), List.length_take, Nat.min_eq_left h]
    obtain ⟨d, rfl⟩ : ∃ d, i = m + d := ⟨i - m, by omega⟩
    rw [show m + d + 1 - m = d + 1 from by omega, List.getElem?_cons_succ, List.getElem?_drop]
theorem put_getD {α : Type} {m : Nat} (x d : α) {l : List α} (h : m ≤ l.length) (i : Nat) : (put m x l).getD (mv m i) d = l.getD i d := by
  simp only [List.getD]
  rw [put_get x h]
theorem put_at {α : Type} {m : Nat} (x : α) {l : List α} (h : m ≤ l.length) : (put m x l)[m]? = some x := by
  unfold put
  rw [List.getElem?_append_right (by rw [List.length_take]; omega), List.length_take, Nat.min_eq_left h, Nat.sub_self]
  rfl
theorem put_map {α β : Type} (f : α → β) (m : Nat) (x : α) (l : List α) : (put m x l).map f = put m (f x) (l.map f) := by
  unfold put
  rw [List.map_append, List.map_cons, List.map_take, List.map_drop]
theorem put_set {α : Type} {m : Nat} (x : α) {l : List α} (h : m ≤ l.length) (i : Nat) (v : α) : (put m x l).set (mv m i) v = put m x (l.set i v) := by
  have hl : m ≤ (l.set i v).length := by rw [List.length_set]; exact h
  apply List.ext_getElem?
  intro j
  by_cases hj : j = m
  · subst hj
    rw [put_at x hl, List.getElem?_set_ne (by unfold mv; split <;> omega), put_at x h]
  · obtain ⟨k, rfl⟩ : ∃ k, j = mv m k := by
      by_cases h1 : j < m
      · exact ⟨j, by unfold mv; rw [if_pos h1]⟩
      · exact ⟨j - 1, by unfold mv; rw [if_neg (by omega)]; omega⟩
    rw [put_get x hl]
    by_cases e : i = k
    · subst e
      rw [List.getElem?_set, List.getElem?_set, if_pos rfl, if_pos rfl, put_len x h]
      have : mv m i < l.length + 1 ↔ i < l.length := by unfold mv; split <;> omega
      simp only [this]
    · rw [List.getElem?_set_ne (by unfold mv; split <;> split <;> omega), List.getElem?_set_ne e, put_get x h]
theorem sz_zero : sz 0 = 0 := by decide
theorem beg_put {m : Nat} {ops : List Int} (h : m ≤ ops.length) (i : Nat) : beg (put m 0 ops) (mv m i) = beg ops i := by
  unfold beg put mv
  split
  · next hi =>
    rw [List.take_append_of_le_length (by rw [List.length_take]; omega), List.take_take, Nat.min_eq_left (by omega)]
  · next hi =>
    obtain ⟨d, rfl⟩ : ∃ d, i = m + d := ⟨i - m, by omega⟩
    rw [List.take_append, List.take_take, List.length_take, Nat.min_eq_left h, show m + d + 1 - m = d + 1 from by omega, List.take_succ_cons, Nat.min_eq_right (by omega), List.map_append, List.map_cons, List.sum_append, List.sum_cons, sz_zero]
    conv => rhs; rw [show ops = ops.take m ++ ops.drop m from (List.take_append_drop m ops).symm]
    rw [List.take_append, List.take_take, List.length_take, Nat.min_eq_left h, Nat.min_eq_right (by omega), show m + d - m = d from by omega, List.map_append, List.sum_append]
    omega
theorem tot_put {m : Nat} {ops : List Int} (h : m ≤ ops.length) : tot (put m 0 ops) = tot ops := by
  unfold tot
  rw [put_len _ h]
  have := beg_put h ops.length
  unfold mv at this
  rwa [if_neg (by omega)] at this
theorem ats_put {m : Nat} {ops : List Int} (h : m ≤ ops.length) (i : Nat) : (ats (put m 0 ops)).getD (mv m i) 0 = (ats ops).getD i 0 := by
  by_cases hi : i < ops.length
  · rw [ats_at _ (by rw [put_len _ h]; unfold mv; split <;> omega), ats_at _ hi, beg_put h]
  · simp only [List.getD]
    rw [List.getElem?_eq_none (by rw [ats_len, put_len _ h]; unfold mv; split <;> omega), List.getElem?_eq_none (by rw [ats_len]; omega)]
def mv2 (m : Nat) (j : Nat × Nat) : Nat × Nat := (mv m j.1, mv m j.2)
theorem far_put {m : Nat} {o bs cs : List Int} (h : m ≤ o.length) (ha : ∀ i, cs.getD (mv m i) 0 = bs.getD i 0) (i k : Nat) : far (put m 0 o) cs (mv m i) (mv m k) = far o bs i k := by
  unfold far
  rw [ha, ha, put_getD _ _ h]
theorem tooFar_put {m : Nat} {L : X.It} {ts : List X.It} {o bs cs : List Int} (hm : m ≤ ts.length) (h : m ≤ o.length) (ha : ∀ i, cs.getD (mv m i) 0 = bs.getD i 0) (j : Nat × Nat) : tooFar (put m L ts) (put m 0 o) cs (mv2 m j) = tooFar ts o bs j := by
  unfold tooFar mv2
  simp only
  rw [far_put h ha, put_getD _ _ h, put_getD _ _ hm]
theorem lens_put {m : Nat} {L : X.It} {ts : List X.It} {bs cs : List Int} (hm : m ≤ ts.length) (ha : ∀ i, cs.getD (mv m i) 0 = bs.getD i 0) : ∀ (l : List (Nat × Nat)) (o : List Int), m ≤ o.length → lens (put m L ts) cs (l.map (mv2 m)) (put m 0 o) = put m 0 (lens ts bs l o)
  | [], o, _ => rfl
  | j :: r, o, h => by
    rw [List.map_cons, lens, lens, tooFar_put hm h ha]
    split
    · have e : (put m L ts).getD (mv2 m j).1 X.noIt = ts.getD j.1 X.noIt := put_getD _ _ hm _
      rw [e]
      have e2 : (put m 0 o).set (mv2 m j).1 (ts.getD j.1 X.noIt).op = put m 0 (o.set j.1 (ts.getD j.1 X.noIt).op) := put_set _ h _ _
      rw [e2]
      exact lens_put hm ha r _ (by rw [List.length_set]; exact h)
    · exact lens_put hm ha r _ h
theorem anyFar_put {m : Nat} {L : X.It} {ts : List X.It} {o : List Int} (hm : m ≤ ts.length) (hj : js (put m L ts) = (js ts).map (mv2 m)) (h : m ≤ o.length) : anyFar (put m L ts) (put m 0 o) = anyFar ts o := by
  unfold anyFar
  rw [hj, List.any_map]
  congr 1
  funext j
  exact tooFar_put hm h (ats_put h) j
theorem settle_put {m : Nat} {L : X.It} {ts : List X.It} (hm : m ≤ ts.length) (hj : js (put m L ts) = (js ts).map (mv2 m)) : ∀ (n : Nat) (o : List Int), m ≤ o.length → settle (put m L ts) n (put m 0 o) = put m 0 (settle ts n o)
  | 0, o, _ => rfl
  | n + 1, o, h => by
    rw [settle, settle, anyFar_put hm hj h, hj, lens_put hm (ats_put h) _ _ h]
    split
    · exact settle_put hm hj n _ (by rw [lens_len]; exact h)
    · rfl
theorem settle_more (ts : List X.It) : ∀ (n : Nat) (o : List Int), anyFar ts (settle ts n o) = false → settle ts (n + 1) o = settle ts n o
  | 0, o, h => by
    have h' : anyFar ts o = false := h
    show (if anyFar ts o = true then _ else o) = o
    rw [h']
    rfl
  | n + 1, o, h => by
    rw [settle] at h
    rw [settle]
    split
    · next ha =>
      rw [if_pos ha] at h
      rw [settle_more ts n _ h]
      conv => rhs; rw [settle, if_pos ha]
    · next ha =>
      rw [settle, if_neg ha]
/-- A label that nobody names. -/
structure Un (m : Nat) (L : X.It) (ts : List X.It) : Prop where
  m : m ≤ ts.length
  k : L.kind = 1
  op : L.op = 0
  ws : L.words = []
  n : ∀ t ∈ ts, t.name ≠ L.name
section
variable {m : Nat} {L : X.It} {ts : List X.It}
theorem lab_put (h : Un m L ts) {nm : X.By} (hn : nm ≠ L.name) : lab (put m L ts) nm = (lab ts nm).map (mv m) := by
  unfold lab put
  have hL : isLab nm L = false := by
    have : decide (L.name = nm) = false := decide_eq_false fun e => hn e.symm
    unfold isLab
    rw [this, Bool.and_false]
  have hl : (ts.take m).length = m := by rw [List.length_take]; exact Nat.min_eq_left h.m
  conv => rhs; rw [show ts = ts.take m ++ ts.drop m from (List.take_append_drop m ts).symm]
  rw [List.findIdx?_append, List.findIdx?_append, List.findIdx?_cons, hL, hl]
  cases h1 : (ts.take m).findIdx? (isLab nm) with
  | some i =>
    have hi := (List.findIdx?_eq_some_iff_getElem.1 h1).1
    simp [mv]
    omega
  | none =>
    cases h2 : (ts.drop m).findIdx? (isLab nm) with
    | none => simp
    | some j =>
      have : mv m (j + m) = j + 1 + m := by unfold mv; rw [if_neg (by omega)]; omega
      simp [this]
theorem labNone_put (h : Un m L ts) {nm : X.By} (hn : nm ≠ L.name) : (lab (put m L ts) nm).isNone = (lab ts nm).isNone := by
  rw [lab_put h hn]
  cases lab ts nm <;> rfl
theorem labN_put (h : Un m L ts) {nm : X.By} (hn : nm ≠ L.name) (hs : (lab ts nm).isNone = false) : labN (put m L ts) nm = mv m (labN ts nm) := by
  unfold labN
  rw [lab_put h hn]
  cases h1 : lab ts nm with
  | none => rw [h1] at hs; cases hs
  | some i => rfl
theorem Un.jump (h : Un m L ts) : jump L = false := by unfold Z.jump shortOf; rw [h.op]; rfl
theorem Un.shown (h : Un m L ts) : shown L = false := by unfold Z.shown; rw [h.k]; rfl
theorem Un.place (h : Un m L ts) : place L = true := by unfold Z.place; rw [h.k]; rfl
theorem mem_put {α : Type} {m : Nat} {x : α} {l : List α} {y : α} : y ∈ put m x l ↔ y = x ∨ y ∈ l := by
  unfold put
  rw [List.mem_append, List.mem_cons]
  constructor
  · rintro (e | e | e)
    · exact .inr (List.mem_of_mem_take e)
    · exact .inl e
    · exact .inr (List.mem_of_mem_drop e)
  · rintro (e | e)
    · exact .inr (.inl e)
    · rw [← List.take_append_drop m l, List.mem_append] at e
      rcases e with e | e
      · exact .inl e
      · exact .inr (.inr e)
theorem filter_put_no {α : Type} {m : Nat} {x : α} {l : List α} {p : α → Bool} (h : p x = false) : (put m x l).filter p = l.filter p := by
  unfold put
  rw [List.filter_append, List.filter_cons_of_neg (by simp [h]), ← List.filter_append, List.take_append_drop]
theorem unk_put (h : Un m L ts) : unk (put m L ts) = unk ts := by
  unfold unk
  rw [Bool.eq_iff_iff, List.any_eq_true, List.any_eq_true]
  constructor
  · rintro ⟨t, ht, e⟩
    rcases mem_put.1 ht with rfl | ht
    · rw [h.shown, h.jump] at e; simp at e
    · rw [labNone_put h (h.n t ht)] at e
      exact ⟨t, ht, e⟩
  · rintro ⟨t, ht, e⟩
    refine ⟨t, mem_put.2 (.inr ht), ?_⟩
    rw [labNone_put h (h.n t ht)]
    exact e
theorem unl_put (h : Un m L ts) : unl place (put m L ts) = unl place ts := by
  have hp : (nms place (put m L ts)).Perm (L.name :: nms place ts) := by
    have h1 : (put m L ts).Perm (L :: ts) := by
      unfold put
      refine List.perm_middle.trans ?_
      rw [List.take_append_drop]
    have h2 := (h1.filter place).map (·.name)
    rw [List.filter_cons_of_pos h.place, List.map_cons] at h2
    exact h2
  have hno : L.name ∉ nms place ts := by
    intro e
    obtain ⟨t, ht, e⟩ := List.mem_map.1 e
    exact h.n t (List.mem_filter.1 ht).1 e
  unfold unl
  rw [decide_eq_decide, hp.nodup_iff, List.nodup_cons]
  exact ⟨fun e => e.2, fun e => ⟨hno, e⟩⟩
theorem nameE_put (h : Un m L ts) : nameE (put m L ts) = nameE ts := by
  unfold nameE
  rw [unl_put h, unk_put h, show unl shown (put m L ts) = unl shown ts from by unfold unl nms; rw [filter_put_no h.shown]]
theorem itsOk_put (h : Un m L ts) (hL : X.itOk L = true) (hl : ts.length < 20000) : X.itsOk (put m L ts) = X.itsOk ts := by
  rw [Bool.eq_iff_iff, X.itsOk_iff, X.itsOk_iff, put_len _ h.m]
  constructor
  · rintro ⟨-, e⟩
    exact ⟨by omega, fun t ht => e t (mem_put.2 (.inr ht))⟩
  · rintro ⟨-, e⟩
    refine ⟨by omega, fun t ht => ?_⟩
    rcases mem_put.1 ht with rfl | ht
    · exact hL
    · exact e t ht
end
end Z
end Go.Proofs.YtdlepimdohhkaaaGreatDoor

/- A label that nobody names changes nothing: the object. -/
namespace Go.Proofs.YtdlepimdohhkaaaGreatDoor
namespace Z
open Go.RowKit
set_option linter.unusedVariables false
set_option linter.unusedSimpArgs false
section
variable {m : Nat} {L : X.It} {ts : List X.It}
theorem unk_some (hu : unk ts = false) {t : X.It} (ht : t ∈ ts) (h : shown t = true ∨ jump t = true) : (lab ts t.name).isNone = false := by
  unfold unk at hu
  rw [List.any_eq_false] at hu
  have := hu t ht
  cases h1 : (lab ts t.name).isNone with
  | false => rfl
  | true =>
    refine absurd ?_ this
    rw [h1]
    rcases h with e | e <;> simp [e]
theorem js_put (h : Un m L ts) (hu : unk ts = false) : js (put m L ts) = (js ts).map (mv2 m) := by
  have hl : (ts.take m).length = m := by rw [List.length_take]; exact Nat.min_eq_left h.m
  have hlab : ∀ t ∈ ts, jump t = true → labN (put m L ts) t.name = mv m (labN ts t.name) := fun t ht hj => labN_put h (h.n t ht) (unk_some hu ht (.inr hj))
  unfold js jumpsOf
  rw [List.map_map]
  have e1 : (put m L ts).zipIdx = (ts.take m).zipIdx ++ ((L, m) :: ((ts.drop m).zipIdx m).map fun p => (p.1, p.2 + 1)) := by
    unfold put
    rw [List.zipIdx_append, List.zipIdx_cons, hl, Nat.zero_add, List.zipIdx_succ]
  have e2 : ts.zipIdx = (ts.take m).zipIdx ++ (ts.drop m).zipIdx m := by
    conv => lhs; rw [show ts = ts.take m ++ ts.drop m from (List.take_append_drop m ts).symm]
    rw [List.zipIdx_append, hl, Nat.zero_add]
  rw [e1, e2, List.filter_append, List.filter_append, List.filter_cons_of_neg (by simp [h.jump]), List.map_append, List.map_append, List.filter_map, List.map_map]
  congr 1
  · refine List.map_congr_left fun p hp => ?_
    obtain ⟨hp1, hp2⟩ := List.mem_filter.1 hp
    have hm1 := List.mem_zipIdx hp1
    have ht : p.1 ∈ ts := by
      have := List.fst_mem_of_mem_zipIdx hp1
      exact List.mem_of_mem_take this
    have hi : p.2 < m := by
      have := hm1.2.1
      omega
    show (p.2, labN (put m L ts) p.1.name) = mv2 m (p.2, labN ts p.1.name)
    rw [hlab _ ht hp2]
    unfold mv2
    simp only
    rw [show mv m p.2 = p.2 from by unfold mv; rw [if_pos hi]]
  · refine List.map_congr_left fun p hp => ?_
    obtain ⟨hp1, hp2⟩ := List.mem_filter.1 hp
    have hm1 := List.mem_zipIdx hp1
    have ht : p.1 ∈ ts := by
      have := List.fst_mem_of_mem_zipIdx hp1
      exact List.mem_of_mem_drop this
    have hi : m ≤ p.2 := hm1.1
    show (p.2 + 1, labN (put m L ts) p.1.name) = mv2 m (p.2, labN ts p.1.name)
    rw [hlab _ ht hp2]
    unfold mv2
    simp only
    rw [show mv m p.2 = p.2 + 1 from by unfold mv; rw [if_neg (by omega)]]
theorem ops_put (h : Un m L ts) (hu : unk ts = false) : ops (put m L ts) = put m 0 (ops ts) := by
  have hj := js_put h hu
  have h0 : (put m L ts).map op0 = put m 0 (ts.map op0) := by
    rw [put_map]
    congr 1
    unfold op0
    rw [h.jump, h.op]
    rfl
  have hl : m ≤ (ts.map op0).length := by rw [List.length_map]; exact h.m
  unfold ops
  rw [put_len _ h.m, h0, settle_put h.m hj _ _ hl, settle_more ts _ _ (ops_far ts)]
theorem opsLen (h : Un m L ts) : m ≤ (ops ts).length := by rw [ops_len]; exact h.m
theorem isOpen_put (h : Un m L ts) {t : X.It} (ht : t ∈ ts) : isOpen (put m L ts) t = isOpen ts t := by
  unfold isOpen
  rw [labNone_put h (h.n t ht)]
theorem isOpen_own (h : Un m L ts) (us : List X.It) : isOpen us L = false := by
  unfold isOpen
  rw [h.op]
  rfl
theorem placeOf_put (h : Un m L ts) {o : List Int} (ho : m ≤ o.length) {nm : X.By} (hn : nm ≠ L.name) (hs : (lab ts nm).isNone = false) : placeOf (put m L ts) (put m 0 o) nm = placeOf ts o nm := by
  unfold placeOf
  rw [labN_put h hn hs, ats_put ho]
theorem fits_put (h : Un m L ts) (hu : unk ts = false) : fits (put m L ts) = fits ts := by
  have h1 : wordsN (put m L ts) = wordsN ts := by
    unfold wordsN
    rw [put_map, h.ws]
    unfold put
    rw [List.sum_append, List.sum_cons, List.length_nil, Nat.zero_add, ← List.sum_append, List.take_append_drop]
  have h2 : symsN (put m L ts) = symsN ts := by
    unfold symsN
    rw [filter_put_no (by unfold isSym; rw [h.shown, h.k]; rfl)]
  have h3 : opensN (put m L ts) (put m L ts) = opensN ts ts := by
    unfold opensN
    rw [filter_put_no (isOpen_own h _)]
    congr 1
    exact List.filter_congr fun t ht => isOpen_put h ht
  unfold fits
  rw [h1, h2, h3, ops_put h hu, tot_put (opsLen h)]
theorem symsOk_put (h : Un m L ts) (hu : unk ts = false) : symsOk (put m L ts) = symsOk ts := by
  have key : ∀ t ∈ ts, standAt (put m L ts) t = standAt ts t := fun t ht => by
    unfold standAt
    cases hs : shown t with
    | false => rfl
    | true => rw [ops_put h hu, placeOf_put h (opsLen h) (h.n t ht) (unk_some hu ht (.inl hs)), tot_put (opsLen h)]
  unfold symsOk
  rw [Bool.eq_iff_iff, List.all_eq_true, List.all_eq_true]
  constructor
  · intro e t ht
    rw [← key t ht]
    exact e t (mem_put.2 (.inr ht))
  · intro e t ht
    rcases mem_put.1 ht with rfl | ht
    · unfold standAt; rw [h.shown]; rfl
    · rw [key t ht]; exact e t ht
theorem far_any (h : Un m L ts) (hu : unk ts = false) (hok : ∀ t ∈ ts, X.itOk t = true) {k : Nat} (hk : k < ts.length) (hkd : (ts.getD k X.noIt).kind = 2) : codeN (put m L ts) (put m 0 (ops ts)) (mv m k) = codeN ts (ops ts) k := by
  have ht : ts.getD k X.noIt ∈ ts := by simp [List.getD, hk]
  unfold codeN
  rw [put_getD _ _ h.m, isOpen_put h ht]
  generalize ts.getD k X.noIt = t at *
  by_cases ho : isOpen ts t = true
  · rw [if_pos ho, if_pos ho]
  rw [if_neg ho, if_neg ho]
  by_cases hn : t.name = []
  · rw [if_neg (by simpa using hn), if_neg (by simpa using hn)]
  rw [if_pos hn, if_pos hn]
  have hs : (lab ts t.name).isNone = false := by
    rcases X.itOk_cases (hok t ht) with ⟨-, hins, -⟩ | ⟨e, -⟩ | ⟨e, -⟩
    · obtain ⟨o0, o1, hrow, hnm, hnm2, -, -, -, -, -, hno⟩ := X.insOk_split hins
      have hto : t.op = ((t.op.toNat : Nat) : Int) := by omega
      obtain ⟨f1, f2, f3, f4, f5, f6, f7⟩ := rowF (k := t.op.toNat) (by omega) hrow
      have hr : 19 ≤ t.op.toNat ∧ t.op.toNat ≤ 23 := f5.1 (by rw [hnm]; simpa using hn)
      unfold isOpen at ho
      simp only [Bool.or_eq_true, Bool.and_eq_true, decide_eq_true_eq, not_or, not_and] at ho
      by_cases e : t.op = 23
      · have := ho.2 e
        cases hh : (lab ts t.name).isNone with
        | false => rfl
        | true => exact absurd hh this
      · exact unk_some hu ht (.inr ((jump_iff t).2 (by omega)))
    · rw [hkd] at e; simp at e
    · rw [hkd] at e; simp at e
  rw [labN_put h (h.n t ht) hs, far_put (opsLen h) (ats_put (opsLen h))]
theorem stepO_put (h : Un m L ts) (hu : unk ts = false) (hok : ∀ t ∈ ts, X.itOk t = true) {k : Nat} (hk : k < ts.length) (s : O.ObjD) : stepO (put m L ts) (put m 0 (ops ts)) s (mv m k) = stepO ts (ops ts) s k := by
  have ht : ts.getD k X.noIt ∈ ts := by simp [List.getD, hk]
  have hc : (ts.getD k X.noIt).kind = 2 → codeV (put m L ts) (put m 0 (ops ts)) (mv m k) = codeV ts (ops ts) k := fun hkd => by
    unfold codeV
    rw [far_any h hu hok hk hkd, put_getD _ _ h.m, put_getD _ _ (opsLen h)]
  have hp : shown (ts.getD k X.noIt) = true → placeOf (put m L ts) (put m 0 (ops ts)) (ts.getD k X.noIt).name = placeOf ts (ops ts) (ts.getD k X.noIt).name := fun hs => placeOf_put h (opsLen h) (h.n _ ht) (unk_some hu ht (.inl hs))
  unfold stepO
  rw [put_getD _ _ h.m, isOpen_put h ht]
  generalize ts.getD k X.noIt = t at *
  by_cases h2 : t.kind = 2
  · rw [if_pos h2, if_pos h2, hc h2]
  rw [if_neg h2, if_neg h2]
  by_cases h3 : t.kind = 3
  · rw [if_pos h3, if_pos h3]
  rw [if_neg h3, if_neg h3]
  by_cases h4 : t.kind = 4
  · rw [if_pos h4, if_pos h4, hp (by unfold shown; rw [h4]; rfl)]
  rw [if_neg h4, if_neg h4]
  by_cases h5 : t.kind = 5
  · rw [if_pos h5, if_pos h5, hp (by unfold shown; rw [h5]; rfl)]
  rw [if_neg h5, if_neg h5]
theorem objTo_low (h : Un m L ts) (hu : unk ts = false) (hok : ∀ t ∈ ts, X.itOk t = true) : ∀ k, k ≤ m → objTo (put m L ts) (put m 0 (ops ts)) k = objTo ts (ops ts) k
  | 0, _ => rfl
  | k + 1, hk => by
    have hm := h.m
    rw [objTo_succ, objTo_succ, objTo_low h hu hok k (by omega)]
    have := stepO_put h hu hok (k := k) (by omega) (objTo ts (ops ts) k)
    unfold mv at this
    rwa [if_pos (by omega)] at this
theorem objTo_high (h : Un m L ts) (hu : unk ts = false) (hok : ∀ t ∈ ts, X.itOk t = true) : ∀ d, m + d ≤ ts.length → objTo (put m L ts) (put m 0 (ops ts)) (m + d + 1) = objTo ts (ops ts) (m + d)
  | 0, _ => by
    rw [Nat.add_zero, objTo_succ, objTo_low h hu hok m (Nat.le_refl m)]
    have e : (put m L ts).getD m X.noIt = L := by simp only [List.getD]; rw [put_at _ h.m]; rfl
    unfold stepO
    rw [e, h.k]
    rfl
  | d + 1, hd => by
    rw [objTo_succ, show m + (d + 1) = m + d + 1 from rfl, objTo_high h hu hok d (by omega), objTo_succ]
    have := stepO_put h hu hok (k := m + d) (by omega) (objTo ts (ops ts) (m + d))
    unfold mv at this
    rwa [if_neg (by omega)] at this
theorem obj_put (h : Un m L ts) (hu : unk ts = false) (hok : ∀ t ∈ ts, X.itOk t = true) : obj (put m L ts) = obj ts := by
  have hm := h.m
  unfold obj
  rw [ops_put h hu, put_len _ h.m]
  have := objTo_high h hu hok (ts.length - m) (by omega)
  rwa [show m + (ts.length - m) = ts.length from by omega] at this
/-- A label that nobody names changes nothing. -/
theorem asm_put (h : Un m L ts) (hL : X.itOk L = true) (hl : ts.length < 20000) : asm (put m L ts) = asm ts := by
  unfold asm
  rw [itsOk_put h hL hl, nameE_put h]
  by_cases h1 : X.itsOk ts = true
  · by_cases h2 : nameE ts = 0
    · have hu : unk ts = false := by
        unfold nameE at h2
        split at h2
        · split at h2
          · omega
          · next e => simpa using e
        · omega
      rw [fits_put h hu, symsOk_put h hu, obj_put h hu (X.itsOk_iff.1 h1).2]
    · rw [if_neg h2, if_neg h2]
  · rw [if_neg h1, if_neg h1]
end
end Z
end Go.Proofs.YtdlepimdohhkaaaGreatDoor

/- The document's small functions. -/
namespace Go.Proofs.YtdlepimdohhkaaaGreatDoor
open Go.RowKit Go.Lib
set_option linter.unusedVariables false
set_option linter.unusedSimpArgs false

set_option maxHeartbeats 4000000 in
theorem rdigit_any (n : Nat) (w : World) :
    Calls Tryz.prog 42 #[.int .u8 n] w fun e w' => e = .returned (.bool (X.dg n)) ∧ w' = w := by
  go_enter Tryz.func42, Tryz.ntmps42
  go_wp2
  all_goals
    go_ret
    exact ⟨ret_b (by rw [Bool.eq_iff_iff]; simp [X.dg]; try omega), rfl⟩
set_option maxHeartbeats 4000000 in
theorem rletter_any (n : Nat) (w : World) :
    Calls Tryz.prog 41 #[.int .u8 n] w fun e w' => e = .returned (.bool (X.lt n)) ∧ w' = w := by
  go_enter Tryz.func41, Tryz.ntmps41
  go_wp2
  all_goals
    go_ret
    exact ⟨ret_b (by rw [Bool.eq_iff_iff]; simp [X.lt]; try omega), rfl⟩
set_option maxHeartbeats 4000000 in
theorem rname_any (s : ByteArray) (hs : s.size ≤ maxLen) (w : World) :
    Calls Tryz.prog 20 #[.string s] w fun e w' => e = .returned (.bool (X.name s.data.toList)) ∧ w' = w := by
  unfold maxLen at hs
  by_cases h0 : s.size < 1
  · have HR : Hid _ := name_false (.inl h0)
    have h0' : (s.size : Int) < 1 := by omega
    go_enter Tryz.func20, Tryz.ntmps20
    go_wp2
    go_ret
    exact ⟨ret_b HR.out.symm, rfl⟩
  by_cases h1 : 28 < s.size
  · have HR : Hid _ := name_false (.inr h1)
    go_enter Tryz.func20, Tryz.ntmps20
    go_wp2
    go_ret
    exact ⟨ret_b HR.out.symm, rfl⟩
  have h0' : 0 < s.size := by omega
  cases hf : X.lt s[0].toNat
  · have HR : Hid _ := name_first h0' hf
    go_enter Tryz.func20, Tryz.ntmps20
    go_wp2_with (go_at_call 41; refine (rletter_any s[0].toNat _).mono ?_; rw [hf]; rintro e w' ⟨rfl, rfl⟩)
    go_ret
    exact ⟨ret_b HR.out.symm, rfl⟩
  have HF : Hid _ := hf
  go_enter Tryz.func20, Tryz.ntmps20
  go_wp2_with (go_at_call 41; refine (rletter_any s[0].toNat _).mono ?_; rw [hf]; rintro e w' ⟨rfl, rfl⟩)
  clear hf
  go_loop [3] (fun i => ∃ (k : Nat), i = .int .i64 k ∧ k ≤ s.size ∧ Hid (∀ j (hj : j < s.size), 1 ≤ j → j < k → X.inn s[j].toNat = true)) (fun i => s.size - (intOf i).toNat)
  case atStart => exact ⟨0, rfl, Nat.zero_le _, (fun j hj h1 h2 => by omega : ∀ j (hj : j < s.size), 1 ≤ j → j < 0 → X.inn s[j].toNat = true)⟩
  case round =>
    obtain ⟨k, rfl, hk, HA⟩ := hrel
    by_cases hlt : k < s.size
    · have HNO : Hid (X.inn s[k].toNat = false → X.name s.data.toList = false) := fun h => by
        by_cases e : k = 0
        · subst e
          have h2 := HF.out
          exact name_first h0' (by cases h3 : X.lt s[0].toNat with | false => rfl | true => simp [X.inn, h3] at h)
        · exact name_byte (by omega) hlt h
      have HYE : Hid (X.inn s[k].toNat = true → ∀ j (hj : j < s.size), 1 ≤ j → j < k + 1 → X.inn s[j].toNat = true) := fun h j hj h1 h2 => by
        by_cases e : j = k
        · subst e; exact h
        · exact HA.out j hj h1 (by omega)
      cases h2 : X.lt s[k].toNat
      · cases h3 : X.dg s[k].toNat
        · by_cases h4 : s[k].toNat = 46
          · have h4' : ((s[k].toNat : Int) != 46) = false := by simp; omega
            have HI : Hid (X.inn s[k].toNat = true) := by show _ = _; simp [X.inn, h4]
            clear h4
            go_wp2_with (first | (go_at_call 41; refine (rletter_any s[k].toNat _).mono ?_; rw [h2]; rintro e w' ⟨rfl, rfl⟩) | (go_at_call 42; refine (rdigit_any s[k].toNat _).mono ?_; rw [h3]; rintro e w' ⟨rfl, rfl⟩))
            go_round
            case rel => exact ⟨k + 1, by go_num, by omega, HYE.out HI.out⟩
            case measure => simp [intOf]; omega
          · have h4' : ((s[k].toNat : Int) != 46) = true := by simp; omega
            have HI : Hid (X.inn s[k].toNat = false) := by show _ = _; simp [X.inn, h2, h3, h4]
            clear h4
            go_wp2_with (first | (go_at_call 41; refine (rletter_any s[k].toNat _).mono ?_; rw [h2]; rintro e w' ⟨rfl, rfl⟩) | (go_at_call 42; refine (rdigit_any s[k].toNat _).mono ?_; rw [h3]; rintro e w' ⟨rfl, rfl⟩))
            go_ret
            exact ⟨ret_b (HNO.out HI.out).symm, rfl⟩
        · have HI : Hid (X.inn s[k].toNat = true) := by show _ = _; simp [X.inn, h3]
          go_wp2_with (first | (go_at_call 41; refine (rletter_any s[k].toNat _).mono ?_; rw [h2]; rintro e w' ⟨rfl, rfl⟩) | (go_at_call 42; refine (rdigit_any s[k].toNat _).mono ?_; rw [h3]; rintro e w' ⟨rfl, rfl⟩))
          go_round
          case rel => exact ⟨k + 1, by go_num, by omega, HYE.out HI.out⟩
          case measure => simp [intOf]; omega
      · have HI : Hid (X.inn s[k].toNat = true) := by show _ = _; simp [X.inn, h2]
        go_wp2_with (first | (go_at_call 41; refine (rletter_any s[k].toNat _).mono ?_; rw [h2]; rintro e w' ⟨rfl, rfl⟩) | (go_at_call 42; refine (rdigit_any s[k].toNat _).mono ?_; rintro e w' ⟨rfl, rfl⟩))
        go_round
        case rel => exact ⟨k + 1, by go_num, by omega, HYE.out HI.out⟩
        case measure => simp [intOf]; omega
    · go_wp2
      go_ret
      obtain rfl : k = s.size := by omega
      exact ⟨ret_b (name_yes (by omega) (by omega) HF.out (fun j hj h => HA.out j hj h hj)).symm, rfl⟩


set_option maxHeartbeats 4000000 in
theorem rfits_any (op n : Int) (w : World) :
    Calls Tryz.prog 99 #[.int .i64 op, .int .i64 n] w fun e w' => e = .returned (.bool (X.numOk op n)) ∧ w' = w := by
  by_cases h1 : op = 1
  · subst h1
    go_enter Tryz.func99, Tryz.ntmps99
    go_wp2
    all_goals
      go_ret
      exact ⟨ret_b (by simp [X.numOk]), rfl⟩
  · by_cases h2 : op = 33
    · subst h2
      go_enter Tryz.func99, Tryz.ntmps99
      go_wp2
      all_goals
        go_ret
        exact ⟨ret_b (by rw [Bool.eq_iff_iff]; simp [X.numOk]; try omega), rfl⟩
    · have h1' : (op == 1) = false := by simp [h1]
      have h2' : (op == 33) = false := by simp [h2]
      have HR : Hid (X.numOk op n = (decide (-2147483648 ≤ n) && decide (n ≤ 2147483647))) := by show _ = _; simp [X.numOk, h1, h2]
      go_enter Tryz.func99, Tryz.ntmps99
      go_wp2
      all_goals
        go_ret
        exact ⟨ret_b (by rw [HR.out, Bool.eq_iff_iff]; simp; try omega), rfl⟩

theorem has_at {s : ByteArray} {c : Nat} (hc : c < 256) {k : Nat} (hk : k < s.size) (h : s[k].toNat = c) : X.has s.data.toList (UInt8.ofNat c) = true := by
  unfold X.has
  rw [List.contains_iff_mem]
  have h2 := get_list s k hk
  have : s[k] = UInt8.ofNat c := UInt8.toNat_inj.1 (by rw [h, UInt8.toNat_ofNat']; omega)
  rw [← this]
  exact List.mem_of_getElem? h2
theorem has_not {s : ByteArray} {c : Nat} (hc : c < 256) (h : ∀ j (hj : j < s.size), s[j].toNat ≠ c) : X.has s.data.toList (UInt8.ofNat c) = false := by
  unfold X.has
  rw [Bool.eq_false_iff]
  intro h2
  rw [List.contains_iff_mem] at h2
  obtain ⟨j, hj, e⟩ := List.getElem_of_mem h2
  rw [len_list] at hj
  exact h j hj (by
    have e2 : s[j] = UInt8.ofNat c := e
    rw [e2, UInt8.toNat_ofNat']
    omega)
set_option maxHeartbeats 4000000 in
theorem rhas_any (s : ByteArray) (c : Nat) (hc : c < 256) (hs : s.size ≤ maxLen) (w : World) :
    Calls Tryz.prog 100 #[.string s, .int .u8 c] w fun e w' => e = .returned (.bool (X.has s.data.toList (UInt8.ofNat c))) ∧ w' = w := by
  unfold maxLen at hs
  go_enter Tryz.func100, Tryz.ntmps100
  go_wp2_with fail
  go_loop [5] (fun i => ∃ (k : Nat), i = .int .i64 k ∧ k ≤ s.size ∧ Hid (∀ j (hj : j < s.size), j < k → s[j].toNat ≠ c)) (fun i => s.size - (intOf i).toNat)
  case atStart => exact ⟨0, rfl, Nat.zero_le _, (fun j hj h => by omega : ∀ j (hj : j < s.size), j < 0 → s[j].toNat ≠ c)⟩
  case round =>
    obtain ⟨k, rfl, hk, HA⟩ := hrel
    by_cases hlt : k < s.size
    · by_cases he : s[k].toNat = c
      · have he' : ((s[k].toNat : Int) == c) = true := by simp [he]
        have HY : Hid _ := has_at hc hlt he
        clear he
        go_wp2_with fail
        go_ret
        exact ⟨ret_b HY.out.symm, rfl⟩
      · have he' : ((s[k].toNat : Int) == c) = false := by simp; omega
        have HY : Hid (∀ j (hj : j < s.size), j < k + 1 → s[j].toNat ≠ c) := fun j hj h1 => by
          by_cases e : j = k
          · subst e; exact he
          · exact HA.out j hj (by omega)
        clear he
        go_wp2_with fail
        go_round
        case rel => exact ⟨k + 1, by go_num, by omega, HY.out⟩
        case measure => simp [intOf]; omega
    · have hlt' : ¬ (k : Int) < s.size := by omega
      go_wp2_with fail
      go_ret
      exact ⟨ret_b (has_not hc (fun j hj => HA.out j hj (by omega))).symm, rfl⟩

/-- The document's letters for an instruction's operands. -/
def X.opsR (op : Int) : X.By := if 0 ≤ op ∧ op < 34 then (X.row op.toNat).2.map fun c => if c = 64 then 83 else c else []
set_option maxRecDepth 100000 in
set_option maxHeartbeats 4000000 in
theorem roperands_any (op : Int) (w : World) :
    Calls Tryz.prog 79 #[.int .i64 op] w fun e w' => e = .returned (.string (X.str (X.opsR op))) ∧ w' = w := by
  by_cases h0 : 0 ≤ op ∧ op < 34
  · obtain ⟨k, rfl⟩ : ∃ k : Nat, op = k := ⟨op.toNat, by omega⟩
    have hk : k < 34 := by omega
    clear h0
    rcases (show k = 0 ∨ k = 1 ∨ k = 2 ∨ k = 3 ∨ k = 4 ∨ k = 5 ∨ k = 6 ∨ k = 7 ∨ k = 8 ∨ k = 9 ∨ k = 10 ∨ k = 11 ∨ k = 12 ∨ k = 13 ∨ k = 14 ∨ k = 15 ∨ k = 16 ∨ k = 17 ∨ k = 18 ∨ k = 19 ∨ k = 20 ∨ k = 21 ∨ k = 22 ∨ k = 23 ∨ k = 24 ∨ k = 25 ∨ k = 26 ∨ k = 27 ∨ k = 28 ∨ k = 29 ∨ k = 30 ∨ k = 31 ∨ k = 32 ∨ k = 33 by omega) with rfl | rfl | rfl | rfl | rfl | rfl | rfl | rfl | rfl | rfl | rfl | rfl | rfl | rfl | rfl | rfl | rfl | rfl | rfl | rfl | rfl | rfl | rfl | rfl | rfl | rfl | rfl | rfl | rfl | rfl | rfl | rfl | rfl | rfl
    all_goals
      go_enter Tryz.func79, Tryz.ntmps79
      go_wp2_with fail
      go_ret
      exact ⟨rfl, rfl⟩
  · have HR : Hid (X.opsR op = []) := by show _ = _; unfold X.opsR; rw [if_neg h0]
    have e1 : (op == 1) = false := by simp; omega
    have e17 : (op == 17) = false := by simp; omega
    have e18 : (op == 18) = false := by simp; omega
    have e28 : (op == 28) = false := by simp; omega
    have e29 : (op == 29) = false := by simp; omega
    have e19 : (op == 19) = false := by simp; omega
    have e20 : (op == 20) = false := by simp; omega
    have e23 : (op == 23) = false := by simp; omega
    have e21 : (op == 21) = false := by simp; omega
    have e22 : (op == 22) = false := by simp; omega
    have e31 : (op == 31) = false := by simp; omega
    have e33 : (op == 33) = false := by simp; omega
    have h3' : 2 ≤ op → ¬ op ≤ 16 := by omega
    clear h0
    by_cases h2 : 2 ≤ op
    · have h3 := h3' h2
      clear h3'
      go_enter Tryz.func79, Tryz.ntmps79
      go_wp2_with fail
      go_ret
      exact ⟨by rw [HR.out]; rfl, rfl⟩
    · clear h3'
      go_enter Tryz.func79, Tryz.ntmps79
      go_wp2_with fail
      go_ret
      exact ⟨by rw [HR.out]; rfl, rfl⟩

end Go.Proofs.YtdlepimdohhkaaaGreatDoor

/- Items as they lie, cell by cell: for what copies a list of them. -/
namespace Go.Proofs.YtdlepimdohhkaaaGreatDoor
open Go.RowKit Go.Maps Go.Lib
set_option linter.unusedVariables false
set_option linter.unusedSimpArgs false

/-- An item and where its words lie. -/
structure Pw where
  t : X.It
  a : Option Addr
  l : Nat
  c : Nat
def noPw : Pw := ⟨X.noIt, none, 0, 0⟩
def pwC (p : Pw) : List Value := [.int .i64 p.t.kind, .string (X.str p.t.name), .int .i64 p.t.op, .int .i64 p.t.a, .int .i64 p.t.b, .int .i64 p.t.n, .slice p.a p.l p.c]
/-- The words lie where they do. -/
def PwOk (w : World) (p : Pw) : Prop := (p.t.name.length ≤ maxLen ∧ X.fitsIt p.t) ∧ IntsV w p.a p.l p.c p.t.words
theorem PwOk.below {w w1 : World} {p : Pw} (h : PwOk w p) (hb : Below w.heap.size w w1) : PwOk w1 p := ⟨h.1, h.2.below hb⟩
theorem pwC_len (p : Pw) : (pwC p).length = 7 := rfl
theorem pwC_one {p : Pw} {u : Value} (h : u ∈ pwC p) : u.oneCell' = true := by
  simp [pwC] at h
  rcases h with rfl | rfl | rfl | rfl | rfl | rfl | rfl <;> rfl
theorem its_one {ps : List Pw} {u : Value} (h : u ∈ ps.flatMap pwC) : u.oneCell' = true := by
  obtain ⟨p, -, h⟩ := List.mem_flatMap.1 h
  exact pwC_one h
theorem its_len (ps : List Pw) : (ps.flatMap pwC).length = ps.length * 7 := by
  induction ps with
  | nil => rfl
  | cons p ps ih => rw [List.flatMap_cons, List.length_append, ih, pwC_len, List.length_cons]; omega
/-- A list of items, as its cells lie. -/
theorem its_cells {w : World} {a : Option Addr} {l c : Nat} {ts : List X.It} (h : ItsV w a l c ts) : ∃ ps : List Pw, ps.map (·.t) = ts ∧ (∀ p ∈ ps, PwOk w p) ∧ (∀ ad, a = some ad → ∀ j u, (ps.flatMap pwC)[j]? = some u → w.cell? (ad.add j) = some u) := by
  have hel : ∀ i, i < l → ∃ p : Pw, p.t = ts.getD i X.noIt ∧ PwOk w p ∧ ∀ b off, a = some ⟨b, off, none⟩ → ∀ j u, (pwC p)[j]? = some u → w.cell? ⟨b, off + i * 7 + j, none⟩ = some u := by
    intro i hi
    obtain ⟨b, off, t, aw, lw, cw, e, ht, hm, c0, c1, c2, c3, c4, c5, c6, hi⟩ := h.at hi
    refine ⟨⟨t, aw, lw, cw⟩, ht.symm, ⟨h.fit t hm, hi⟩, fun b' off' e' j u hu => ?_⟩
    rw [e] at e'
    cases e'
    have hj : j < 7 := (List.getElem?_eq_some_iff.1 hu).1
    rcases (show j = 0 ∨ j = 1 ∨ j = 2 ∨ j = 3 ∨ j = 4 ∨ j = 5 ∨ j = 6 by omega) with rfl | rfl | rfl | rfl | rfl | rfl | rfl <;> simp [pwC] at hu <;> subst hu <;> assumption
  have hf : ∃ f : Nat → Pw, ∀ i, i < l → (f i).t = ts.getD i X.noIt ∧ PwOk w (f i) ∧ ∀ b off, a = some ⟨b, off, none⟩ → ∀ j u, (pwC (f i))[j]? = some u → w.cell? ⟨b, off + i * 7 + j, none⟩ = some u :=
    ⟨fun i => if h : i < l then Classical.choose (hel i h) else noPw, fun i hi => by
      have := Classical.choose_spec (hel i hi)
      simp only [dif_pos hi]
      exact this⟩
  obtain ⟨f, hf⟩ := hf
  refine ⟨(List.range l).map f, ?_, ?_, ?_⟩
  · apply List.ext_getElem?
    intro i
    by_cases hi : i < l
    · have hi2 : i < ts.length := by rw [h.count]; exact hi
      have := (hf i hi).1
      simp [List.getD, hi2] at this
      simp [hi, hi2, this]
    · have hi2 : ¬ i < ts.length := by rw [h.count]; exact hi
      simp [hi, hi2]
  · intro p hp
    obtain ⟨i, hi, rfl⟩ := List.mem_map.1 hp
    exact (hf i (by simpa using hi)).2.1
  · intro ad e j u hu
    have hj : j < l * 7 := by
      have := (List.getElem?_eq_some_iff.1 hu).1
      rw [its_len] at this
      simpa using this
    have hil : j / 7 < l := Nat.div_lt_of_lt_mul (by omega)
    rcases h.cells with h0 | ⟨b, off, e2, -⟩
    · omega
    rw [e] at e2
    cases e2
    have h1 := flat_at pwC 7 noPw pwC_len ((List.range l).map f) (j / 7) (j % 7) (by simpa using hil) (by omega)
    have e3 : j / 7 * 7 + j % 7 = j := by omega
    rw [e3] at h1
    rw [h1] at hu
    have h2 : ((List.range l).map f).getD (j / 7) noPw = f (j / 7) := by simp [List.getD, hil]
    rw [h2] at hu
    have := (hf _ hil).2.2 b off e _ u hu
    rw [Addr.add_lit]
    rw [show off + j / 7 * 7 + j % 7 = off + j by omega] at this
    exact this
/-- A row of one's own that holds items. -/
theorem its_row {w : World} {B : Nat} {v : Value} {n : Nat} {ps : List Pw} (h : w.ownsRow B 44 7 v n (ps.flatMap pwC)) (hn : ps.length = n) (hp : ∀ p ∈ ps, PwOk w p) : ∃ a c, v = .slice a n c ∧ ItsV w a n c (ps.map (·.t)) := by
  have hroom : ∃ a c, v = .slice a n c ∧ n ≤ c ∧ c ≤ maxLen := by
    rcases h.2 with ⟨rfl, rfl⟩ | ⟨g, cap, cur, rfl, hb, hh, h1, h2, h3, h4⟩
    · exact ⟨none, 0, rfl, Nat.le_refl _, by decide⟩
    · exact ⟨_, _, rfl, by omega, by omega⟩
  obtain ⟨a, c, rfl, n1, k1⟩ := O.row_at (f := pwC) (m := 7) noPw pwC_len h hn
  obtain ⟨a', c', e, r1, r2⟩ := hroom
  cases e
  refine ⟨a, c, rfl, ⟨by rw [List.length_map]; exact hn, ⟨r1, r2⟩, ?_, ?_⟩⟩
  · intro t ht
    obtain ⟨p, hp', rfl⟩ := List.mem_map.1 ht
    exact (hp p hp').1
  · rcases k1 with e | ⟨b, off, e, hc⟩
    · exact .inl e
    · refine .inr ⟨b, off, e, fun i hi => ?_⟩
      have hi2 : i < ps.length := by omega
      have hg : (ps.map (·.t)).getD i X.noIt = (ps.getD i noPw).t := by simp [List.getD, hi2]
      have hm : ps.getD i noPw ∈ ps := by simp [List.getD, hi2]
      rw [hg]
      exact ⟨_, _, _, by simpa using hc i hi 0 _ (by omega) rfl, by simpa using hc i hi 1 _ (by omega) rfl, by simpa using hc i hi 2 _ (by omega) rfl, by simpa using hc i hi 3 _ (by omega) rfl, by simpa using hc i hi 4 _ (by omega) rfl, by simpa using hc i hi 5 _ (by omega) rfl, by simpa using hc i hi 6 _ (by omega) rfl, (hp _ hm).2⟩

end Go.Proofs.YtdlepimdohhkaaaGreatDoor

/- AsmUnnamed walked. -/
namespace Go.Proofs.YtdlepimdohhkaaaGreatDoor
open Go.RowKit Go.Maps Go.Lib
set_option linter.unusedVariables false
set_option linter.unusedSimpArgs false

theorem un_low {wr Y1 Y2 : World} {x : Obj} {v : Value} {n k : Nat} {ty : TypeId} {cs : List Value} (h1 : Below wr.heap.size wr Y1) (o1 : Y1.ownsRow wr.heap.size ty k v n cs) (hg : (Y1.alloc x).grownBy Y2 v.ownBlock) : Below wr.heap.size wr Y2 :=
  (h1.trans ((bl1 Y1 x).mono h1.size)).grown hg (Nat.le_trans h1.size (bl1 Y1 x).size) (fun g e => (o1.lt g e).1)
theorem un_low2 {wr Y1 Y2 : World} {v : Value} {n k : Nat} {ty : TypeId} {cs : List Value} (h1 : Below wr.heap.size wr Y1) (o1 : Y1.ownsRow wr.heap.size ty k v n cs) (hg : Y1.grownBy Y2 v.ownBlock) : Below wr.heap.size wr Y2 :=
  h1.grown hg h1.size (fun g e => (o1.lt g e).1)
/-- The label. -/
def lbl (s : ByteArray) : X.It := ⟨1, s.data.toList, 0, 0, 0, 0, []⟩
def lblP (s : ByteArray) : Pw := ⟨lbl s, none, 0, 0⟩
theorem un_asm {m : Nat} {ts : List X.It} {s : ByteArray} (hn : X.name s.data.toList = true) (hu : ∀ t ∈ ts, t.name ≠ s.data.toList) (hm : m ≤ ts.length) (hl : ts.length < 20000) : Z.asm (Z.put m (lbl s) ts) = Z.asm ts :=
  Z.asm_put (L := lbl s) ⟨hm, rfl, rfl, rfl, hu⟩ (by unfold X.itOk; rw [if_pos (.inl rfl)]; show (X.name s.data.toList && _) = true; rw [hn]; simp [lbl, X.zeroIns]) hl
theorem un_its {wr Y : World} {m n : Nat} {ts : List X.It} {s : ByteArray} {ps : List Pw} {a : Option Addr} {c : Nat} (hY : Below wr.heap.size wr Y) (hp : ∀ p ∈ ps, PwOk wr p) (ht : ps.map (·.t) = ts) (hs : s.size ≤ maxLen) (hm : m ≤ ps.length) (hn : n = ps.length + 1) (ho : Y.ownsRow wr.heap.size 44 7 (.slice a n c) n (((ps.take m).flatMap pwC ++ pwC (lblP s)) ++ (ps.drop m).flatMap pwC)) : ItsV Y a n c (Z.put m (lbl s) ts) := by
  have e : ((ps.take m).flatMap pwC ++ pwC (lblP s)) ++ (ps.drop m).flatMap pwC = (Z.put m (lblP s) ps).flatMap pwC := by
    unfold Z.put
    rw [List.flatMap_append, List.flatMap_cons, List.append_assoc]
  rw [e] at ho
  obtain ⟨a', c', e', h⟩ := its_row ho (by rw [Z.put_len _ hm, hn]) (fun p hp' => by
    rcases Z.mem_put.1 hp' with rfl | hp'
    · exact ⟨⟨by show s.data.toList.length ≤ maxLen; rw [Array.length_toList]; exact hs, ⟨⟨by show (-9223372036854775808 : Int) ≤ 0; decide, by show (0 : Int) ≤ 9223372036854775807; decide⟩, by simp [lblP, lbl]⟩⟩, ⟨rfl, ⟨Nat.le_refl _, Nat.zero_le _⟩, .inl rfl⟩⟩
    · exact (hp p hp').below hY)
  cases e'
  rw [Z.put_map, ht] at h
  exact h
set_option maxRecDepth 100000 in
set_option maxHeartbeats 8000000 in
theorem unW_any {w : World} {a : Option Addr} {l c : Nat} {ts : List X.It} (h : ItsV w a l c ts) (hnil : a = none → l = 0 ∧ c = 0) (ht : Tab w) (hJ : J.Tab w) (z : Int) (hz1 : -9223372036854775808 ≤ z) (hz2 : z ≤ 9223372036854775807) (s : ByteArray) (hs : s.size ≤ maxLen) :
    Calls Tryz.prog 6 #[.slice a l c, .int .i64 z, .string s] w fun e w' => e = .returned (.bool true) ∧ Below w.heap.size w w' := by
  have HV : Hid _ := h
  have HT : Hid _ := ht
  have HJ : Hid (J.Tab w) := hJ
  have HCT : Hid (ts.length = l) := h.count
  have hrm := h.room
  have hsm := small_any a l c w
  have hnm := rname_any s hs w
  have hat : ∀ k, k < l → _ := fun k hk => h.at hk
  have HAT : Hid _ := hat
  clear h ht hJ hat
  unfold maxLen at hrm hs
  by_cases hl : l ≤ 400
  rotate_left
  · rw [decide_eq_false hl] at hsm
    go_enter Tryz.func6, Tryz.ntmps6
    go_wp2_with fail
    refine hsm.mono ?_
    rintro e y ⟨rfl, hy⟩
    rw [hy]
    clear hy
    go_wp2_with fail
    refine (live_any _ HT.out HJ.out).mono ?_
    rintro e y2 ⟨rfl, hb⟩
    have HB : Hid _ := hb
    clear hb
    go_wp2_with fail
    go_ret
    exact ⟨rfl, HB.out⟩
  rw [decide_eq_true hl] at hsm
  have hlt : ((l : Int) ≥ 20000) = False := by simp; omega
  have hlt2 : ¬ (20000 : Int) ≤ l := by omega
  cases hn : X.name s.data.toList with
  | false =>
    rw [hn] at hnm
    go_enter Tryz.func6, Tryz.ntmps6
    go_wp2_with fail
    refine hsm.mono ?_
    rintro e y ⟨rfl, hy⟩
    rw [hy]
    clear hy
    go_wp2_with fail
    refine hnm.mono ?_
    rintro e y ⟨rfl, hy⟩
    rw [hy]
    clear hy
    go_wp2_with fail
    refine (live_any _ HT.out HJ.out).mono ?_
    rintro e y2 ⟨rfl, hb⟩
    have HB : Hid _ := hb
    clear hb
    go_wp2_with fail
    go_ret
    exact ⟨rfl, HB.out⟩
  | true =>
  rw [hn] at hnm
  have HNM : Hid _ := hn
  clear hn
  go_enter Tryz.func6, Tryz.ntmps6
  go_wp2_with fail
  refine hsm.mono ?_
  rintro e y ⟨rfl, hy⟩
  rw [hy]
  clear hy
  go_wp2_with fail
  refine hnm.mono ?_
  rintro e y ⟨rfl, hy⟩
  rw [hy]
  clear hy hsm hnm
  go_wp2_with fail
  go_loopg [7] l (fun r i wr => ∃ (k : Nat), r = l - k ∧ i = .int .i64 k ∧ k ≤ l ∧ wr = w ∧ Hid (∀ j, j < k → (ts.getD j X.noIt).name ≠ s.data.toList))
  case atStart => exact ⟨0, rfl, rfl, Nat.zero_le _, rfl, (fun j hj => by omega : ∀ j, j < 0 → _)⟩
  case round =>
    obtain ⟨k, rfl, rfl, hk, rfl, HA⟩ := hrel
    by_cases hlk : k < l
    · obtain ⟨b, off, t, aw, lw, cw, rfl, hg, hmem, c0, c1, c2, c3, c4, c5, c6, -⟩ := HAT.out k hlk
      clear c0 c2 c3 c4 c5 c6
      by_cases he : t.name = s.data.toList
      · have he2 : ((X.str t.name).toList == s.toList) = true := toList_eq' (by rw [str_list]; exact he)
        clear he hg
        go_wp2_with fail
        refine (live_any _ HT.out HJ.out).mono ?_
        rintro e y2 ⟨rfl, hb⟩
        have HB : Hid _ := hb
        clear hb
        go_wp2_with fail
        go_ret
        exact ⟨rfl, HB.out⟩
      · have he2 : ((X.str t.name).toList == s.toList) = false := toList_ne' (by rw [str_list]; exact he)
        have HA2 : Hid (∀ j, j < k + 1 → (ts.getD j X.noIt).name ≠ s.data.toList) := fun j hj => by
          by_cases e : j = k
          · subst e; rw [hg]; exact he
          · exact HA.out j (by omega)
        clear he hg
        go_wp2_with fail
        go_roundg (l - (k + 1))
        case measure => omega
        case rel => exact ⟨k + 1, rfl, by go_num, by omega, rfl, HA2⟩
    · obtain rfl : k = l := by omega
      have HUN : Hid (∀ t ∈ ts, t.name ≠ s.data.toList) := fun t ht => by
        obtain ⟨j, hj, rfl⟩ := List.getElem_of_mem ht
        have := HA.out j (by have := HCT.out; omega)
        simpa [List.getD, hj] using this
      clear HA HAT hlk
      by_cases hneg : z < 0
      · obtain ⟨m, hm, hml⟩ : ∃ m : Nat, Int.tmod (-(z + 1)) (k + 1) = m ∧ m ≤ k := by
          have h1 : 0 ≤ Int.tmod (-(z + 1)) (k + 1) := Int.tmod_nonneg _ (by omega)
          have h2 : Int.tmod (-(z + 1)) (k + 1) < k + 1 := Int.tmod_lt_of_pos _ (by omega)
          exact ⟨(Int.tmod (-(z + 1)) (k + 1)).toNat, by omega, by omega⟩
        cases a with
        | none =>
          obtain ⟨rfl, rfl⟩ := hnil rfl
          obtain rfl : m = 0 := by omega
          obtain rfl : ts = [] := List.eq_nil_of_length_eq_zero HCT.out
          obtain ⟨ps, HPS⟩ : ∃ ps : List Pw, Hid (ps = []) := ⟨[], rfl⟩
          have HPO : Hid (∀ p ∈ ps, PwOk wr p) := fun p hp => by rw [HPS.out] at hp; cases hp
          have HPT : Hid (ps.map (·.t) = []) := by show _ = _; rw [HPS.out]; rfl
          have HPL : Hid (ps.length = 0) := by show _ = _; rw [HPS.out]; rfl
          have HL1 : Hid (((ps.take 0).flatMap pwC).length = 0 * 7) := by show _ = _; rw [HPS.out]; rfl
          have HL2 : Hid (((ps.drop 0).flatMap pwC).length = 0 * 7) := by show _ = _; rw [HPS.out]; rfl
          obtain ⟨it, hit, ht0, ht1, ht2⟩ := info_parts infoIt
          go_wp2_with (first | (at_builtin; refine O.wpList_append_more rfl _ _ 22 rfl wr.heap.size 44 it _ 7 80 Tryz.underlying22 hit ht0 ht1 ht2 rfl (by decide) (v := .slice none 0 0) (n := 0) (xs := []) rfl (World.ownsRow_nil _ _ _ _) (Nat.le_refl _) (a := none) (l := 0) (c := 0) (cs := (ps.take 0).flatMap pwC) rfl (fun _ => ⟨rfl, rfl⟩) HL1.out (fun ad' e => by cases e) (fun u hu => its_one hu) (show (0 + 0) * 80 ≤ 140737488355328 by omega) (show 0 + 0 ≤ 140737488355328 by omega) ?_; intro v1 Y1 ho1 hg1 hat1; simp only [List.nil_append, Nat.zero_add] at ho1; obtain ⟨a1, c1, rfl⟩ := own_slice ho1; have HY1 : Hid (Below wr.heap.size wr Y1) := (Below.refl _ _).grown hg1 (Nat.le_refl _) (by simp [Value.ownBlock]); have HO1 : Hid (Y1.ownsRow wr.heap.size 44 7 (.slice a1 0 c1) 0 ((ps.take 0).flatMap pwC)) := ho1; clear ho1 hg1 hat1) | (at_builtin; refine O.wpList_append_more rfl _ _ 22 rfl wr.heap.size 44 it _ 7 80 Tryz.underlying22 hit ht0 ht1 ht2 rfl (by decide) (n := 0) (xs := (ps.take 0).flatMap pwC) (v := .slice a1 0 c1) rfl (O.row_below HO1.out (bl1 _ _)) (Nat.le_trans HY1.out.size (bl1 _ _).size) (a := some ⟨Y1.heap.size, 0, none⟩) (l := 1) (c := 1) (cs := pwC (lblP s)) rfl (by intro e; cases e) rfl (fun ad' e j u hu => by cases e; rw [Addr.add_lit, Nat.zero_add]; exact cellA rfl (by simpa [pwC, lblP, lbl, str_eq] using hu)) (fun u hu => pwC_one hu) (show (0 + 1) * 80 ≤ 140737488355328 by omega) (show 0 + 1 ≤ 140737488355328 by omega) ?_; intro v2 Y2 ho2 hg2 hat2; simp only [Nat.zero_add] at ho2; obtain ⟨a2, c2, rfl⟩ := own_slice ho2; have HY2 : Hid (Below wr.heap.size wr Y2) := un_low HY1.out HO1.out hg2; have HO2 : Hid (Y2.ownsRow wr.heap.size 44 7 (.slice a2 (1) c2) (1) ((ps.take 0).flatMap pwC ++ pwC (lblP s))) := ho2; clear ho2 hg2 hat2) | (at_builtin; refine O.wpList_append_more rfl _ _ 22 rfl wr.heap.size 44 it _ 7 80 Tryz.underlying22 hit ht0 ht1 ht2 rfl (by decide) (v := .slice a2 (1) c2) (n := 1) (xs := (ps.take 0).flatMap pwC ++ pwC (lblP s)) rfl HO2.out HY2.out.size (a := none) (l := 0) (c := 0) (cs := (ps.drop 0).flatMap pwC) rfl (fun _ => ⟨rfl, rfl⟩) HL2.out (fun ad' e => by cases e) (fun u hu => its_one hu) (show (1 + (0)) * 80 ≤ 140737488355328 by omega) (show 1 + (0) ≤ 140737488355328 by omega) ?_; intro v3 Y3 ho3 hg3 hat3; simp only [Nat.add_zero] at ho3; obtain ⟨a3, c3, rfl⟩ := own_slice ho3; have HY3 : Hid (Below wr.heap.size wr Y3) := un_low2 HY2.out HO2.out hg3; have HO3 : Hid (Y3.ownsRow wr.heap.size 44 7 (.slice a3 (1) c3) (1) (((ps.take 0).flatMap pwC ++ pwC (lblP s)) ++ (ps.drop 0).flatMap pwC)) := ho3; clear ho3 hg3 hat3) | fail)
          clear hm hz1 hz2 hneg
          have HI3 : Hid (ItsV Y3 a3 (1) c3 (Z.put 0 (lbl s) [])) := un_its HY3.out HPO.out HPT.out (by unfold maxLen; omega) (by rw [HPL.out]; exact Nat.zero_le _) (by rw [HPL.out]) HO3.out
          have HAS : Hid (Z.asm (Z.put 0 (lbl s) []) = Z.asm []) := un_asm HNM.out HUN.out (by rw [HCT.out]; exact Nat.zero_le _) (by rw [HCT.out]; omega)
          have HF : Hid (OFit (Z.asm []).1) := (Z.asm_may (fun t hm => (HV.out.fit t hm).2)).1
          have hasm1 := asm_any (HV.out.below HY3.out) (HT.out.below HY3.out) (J.Tab.below HJ.out HY3.out)
          have HAS2 : Hid (∀ W, Below Y3.heap.size Y3 W → Calls Tryz.prog 12 #[.slice a3 (1) c3] W (AsmOut W (Z.asm []))) := fun W hb => by
            rw [← HAS.out]; exact asm_any (HI3.out.below hb) ((HT.out.below HY3.out).below hb) (J.Tab.below (J.Tab.below HJ.out HY3.out) hb)
          obtain ⟨⟨o, zz⟩, hr⟩ : ∃ r, Z.asm [] = r := ⟨_, rfl⟩
          rw [hr] at hasm1 HF HAS2
          simp only at HF
          clear hr HAS HI3 HO3 HO2 HO1 HPT HPO HPL HL1 HL2
          refine hasm1.mono ?_
          rintro e w1 ⟨vd, vs, vr, rfl, o1, o2, o3, hb1⟩
          simp only at o1 o2 o3 ⊢
          have HOV : Hid (O.ObjV w1 (.agg #[.string o.code, vd, vs, vr]) o) := objV_of HF.out o1 o2 o3
          have HN1 : Hid (o.data.length ≤ maxLen ∧ o.syms.length ≤ maxLen ∧ o.rels.length ≤ maxLen) := by
            have q : ∀ {ty k n B : Nat} {v : Value} {cs : List Value}, w1.ownsRow B ty k v n cs → n ≤ maxLen := fun h => by
              rcases h.2 with ⟨-, e⟩ | ⟨g, cap, cur, -, -, -, h1, h2, -⟩
              · omega
              · omega
            exact ⟨q o1, q o2, q o3⟩
          obtain ⟨ad5, cd5, rfl⟩ := own_slice o1
          obtain ⟨as5, cs5, rfl⟩ := own_slice o2
          obtain ⟨ar5, cr5, rfl⟩ := own_slice o3
          obtain ⟨Y5, hY5⟩ : ∃ Y5, w1.alloc (.cells #[.string o.code, .slice ad5 o.data.length cd5, .slice as5 o.syms.length cs5, .slice ar5 o.rels.length cr5] 30) = Y5 := ⟨_, rfl⟩
          have bY5 : Below w1.heap.size w1 Y5 := by subst hY5; exact bl1 _ _
          have m50 : Y5.cell? ⟨w1.heap.size, 0, none⟩ = some (.string o.code) := by subst hY5; exact cellA rfl rfl
          have m51 : Y5.cell? ⟨w1.heap.size, 1, none⟩ = some (.slice ad5 o.data.length cd5) := by subst hY5; exact cellA rfl rfl
          have m52 : Y5.cell? ⟨w1.heap.size, 2, none⟩ = some (.slice as5 o.syms.length cs5) := by subst hY5; exact cellA rfl rfl
          have m53 : Y5.cell? ⟨w1.heap.size, 3, none⟩ = some (.slice ar5 o.rels.length cr5) := by subst hY5; exact cellA rfl rfl
          have HB5 : Hid (Below Y3.heap.size Y3 Y5) := hb1.trans (bY5.mono hb1.size)
          have HO5 : Hid _ := HOV.out.below bY5
          have HS5 : Hid (w1.heap.size < Y5.heap.size) := by subst hY5; show _ < _; simp
          have hasm2 := HAS2.out Y5 HB5.out
          clear o1 o2 o3 hb1 hasm1 bY5 HOV
          generalize hld : o.data.length = ld at m50 m51 m52 m53 hY5 HO5 HN1 ⊢
          generalize hls : o.syms.length = ls at m50 m51 m52 m53 hY5 HO5 HN1 ⊢
          generalize hlr : o.rels.length = lr at m50 m51 m52 m53 hY5 HO5 HN1 ⊢
          generalize hoc : o.code = oc at m50 m51 m52 m53 hY5 HO5 HN1 ⊢
          have HLD : Hid (o.data.length = ld ∧ o.syms.length = ls ∧ o.rels.length = lr ∧ o.code = oc) := ⟨hld, hls, hlr, hoc⟩
          clear hld hls hlr hoc
          go_wp2_with fail
          refine hasm2.mono ?_
          rintro e w2 ⟨vd, vs, vr, rfl, o1, o2, o3, hb2⟩
          simp only at o1 o2 o3 ⊢
          have HOV6 : Hid (O.ObjV w2 (.agg #[.string o.code, vd, vs, vr]) o) := objV_of HF.out o1 o2 o3
          rw [HLD.out.1] at o1
          rw [HLD.out.2.1] at o2
          rw [HLD.out.2.2.1] at o3
          rw [HLD.out.2.2.2] at HOV6
          simp only [HLD.out.2.2.2]
          obtain ⟨ad6, cd6, rfl⟩ := own_slice o1
          obtain ⟨as6, cs6, rfl⟩ := own_slice o2
          obtain ⟨ar6, cr6, rfl⟩ := own_slice o3
          obtain ⟨Y6, hY6⟩ : ∃ Y6, w2.alloc (.cells #[.string oc, .slice ad6 ld cd6, .slice as6 ls cs6, .slice ar6 lr cr6] 30) = Y6 := ⟨_, rfl⟩
          have bY6 : Below w2.heap.size w2 Y6 := by subst hY6; exact bl1 _ _
          have m60 : Y6.cell? ⟨w2.heap.size, 0, none⟩ = some (.string oc) := by subst hY6; exact cellA rfl rfl
          have m61 : Y6.cell? ⟨w2.heap.size, 1, none⟩ = some (.slice ad6 ld cd6) := by subst hY6; exact cellA rfl rfl
          have m62 : Y6.cell? ⟨w2.heap.size, 2, none⟩ = some (.slice as6 ls cs6) := by subst hY6; exact cellA rfl rfl
          have m63 : Y6.cell? ⟨w2.heap.size, 3, none⟩ = some (.slice ar6 lr cr6) := by subst hY6; exact cellA rfl rfl
          have hb6 : Below Y5.heap.size Y5 Y6 := hb2.trans (bY6.mono hb2.size)
          have n50 := O.cell_thru hb6 m50
          have n51 := O.cell_thru hb6 m51
          have n52 := O.cell_thru hb6 m52
          have n53 := O.cell_thru hb6 m53
          have HOA : Hid _ := HO5.out.below hb6
          have HOB : Hid _ := HOV6.out.below bY6
          have hs6 := O.same_any HOA.out HOB.out (by rw [HLD.out.1]; exact HN1.out.1) (by rw [HLD.out.2.1]; exact HN1.out.2.1) (by rw [HLD.out.2.2.1]; exact HN1.out.2.2) true (by simp)
          have HB6 : Hid (Below wr.heap.size wr Y6) := HY3.out.trans ((HB5.out.trans (hb6.mono HB5.out.size)).mono HY3.out.size)
          clear o1 o2 o3 hb2 bY6 hb6 hasm2 HOV6 HOA HOB HO5 m50 m51 m52 m53
          go_wp2_with fail
          refine hs6.mono ?_
          rintro e w3 ⟨rfl, hb3⟩
          have HB7 : Hid (Below wr.heap.size wr w3) := HB6.out.trans (hb3.mono HB6.out.size)
          clear hb3 hs6
          go_wp2_with fail
          refine (live_any _ (HT.out.below HB7.out) (J.Tab.below HJ.out HB7.out)).mono ?_
          rintro e y9 ⟨rfl, hb9⟩
          have HB9 : Hid _ := hb9
          clear hb9
          go_wp2_with fail
          go_ret
          exact ⟨rfl, HB7.out.trans (HB9.out.mono HB7.out.size)⟩
        | some ad =>
          by_cases hcm : c = m
          · have hkm : k = m := by omega
            subst hkm
            subst hcm
            obtain ⟨ps, hps, hpo, hpc⟩ := its_cells HV.out
            have hpl : ps.length = c := by have := congrArg List.length hps; rw [List.length_map, HCT.out] at this; exact this
            have HC1 : Hid (∀ j u, ((ps.take c).flatMap pwC)[j]? = some u → wr.cell? (ad.add j) = some u) := fun j u hu => hpc ad rfl j u (by
              rw [← List.take_append_drop c ps, List.flatMap_append, List.getElem?_append_left (List.getElem?_eq_some_iff.1 hu).1]; exact hu)
            have HC2 : Hid (∀ j u, ((ps.drop c).flatMap pwC)[j]? = some u → wr.cell? (ad.add (c * 7 + j)) = some u) := fun j u hu => hpc ad rfl (c * 7 + j) u (by
              have e : ((ps.take c).flatMap pwC).length = c * 7 := by rw [its_len, List.length_take]; congr 1; omega
              rw [← List.take_append_drop c ps, List.flatMap_append, List.getElem?_append_right (by omega), e, show c * 7 + j - c * 7 = j by omega]; exact hu)
            have HL1 : Hid (((ps.take c).flatMap pwC).length = c * 7) := by show _ = _; rw [its_len, List.length_take]; congr 1; omega
            have HL2 : Hid (((ps.drop c).flatMap pwC).length = 0 * 7) := by show _ = _; rw [its_len, List.length_drop]; congr 1; omega
            have HPO : Hid (∀ p ∈ ps, PwOk wr p) := hpo
            have HPT : Hid (ps.map (·.t) = ts) := hps
            have HPL : Hid (ps.length = c) := hpl
            clear hps hpo hpc hpl
            obtain ⟨it, hit, ht0, ht1, ht2⟩ := info_parts infoIt
            have HA3 : Hid (∀ j u, ((ps.drop c).flatMap pwC)[j]? = some u → wr.cell? (ad.add j) = some u) := fun j u hu => by have h1 := (List.getElem?_eq_some_iff.1 hu).1; have h2 := HL2.out; omega
            go_wp2_with (first | (at_builtin; refine O.wpList_append_more rfl _ _ 22 rfl wr.heap.size 44 it _ 7 80 Tryz.underlying22 hit ht0 ht1 ht2 rfl (by decide) (v := .slice none 0 0) (n := 0) (xs := []) rfl (World.ownsRow_nil _ _ _ _) (Nat.le_refl _) (a := some ad) (l := c) (c := c) (cs := (ps.take c).flatMap pwC) rfl (by intro e; cases e) HL1.out (fun ad' e => by cases e; exact HC1.out) (fun u hu => its_one hu) (show (0 + c) * 80 ≤ 140737488355328 by omega) (show 0 + c ≤ 140737488355328 by omega) ?_; intro v1 Y1 ho1 hg1 hat1; simp only [List.nil_append, Nat.zero_add] at ho1; obtain ⟨a1, c1, rfl⟩ := own_slice ho1; have HY1 : Hid (Below wr.heap.size wr Y1) := (Below.refl _ _).grown hg1 (Nat.le_refl _) (by simp [Value.ownBlock]); have HO1 : Hid (Y1.ownsRow wr.heap.size 44 7 (.slice a1 c c1) c ((ps.take c).flatMap pwC)) := ho1; clear ho1 hg1 hat1) | (at_builtin; refine O.wpList_append_more rfl _ _ 22 rfl wr.heap.size 44 it _ 7 80 Tryz.underlying22 hit ht0 ht1 ht2 rfl (by decide) (n := c) (xs := (ps.take c).flatMap pwC) (v := .slice a1 c c1) rfl (O.row_below HO1.out (bl1 _ _)) (Nat.le_trans HY1.out.size (bl1 _ _).size) (a := some ⟨Y1.heap.size, 0, none⟩) (l := 1) (c := 1) (cs := pwC (lblP s)) rfl (by intro e; cases e) rfl (fun ad' e j u hu => by cases e; rw [Addr.add_lit, Nat.zero_add]; exact cellA rfl (by simpa [pwC, lblP, lbl, str_eq] using hu)) (fun u hu => pwC_one hu) (show (c + 1) * 80 ≤ 140737488355328 by omega) (show c + 1 ≤ 140737488355328 by omega) ?_; intro v2 Y2 ho2 hg2 hat2; obtain ⟨a2, c2, rfl⟩ := own_slice ho2; have HY2 : Hid (Below wr.heap.size wr Y2) := un_low HY1.out HO1.out hg2; have HO2 : Hid (Y2.ownsRow wr.heap.size 44 7 (.slice a2 (c + 1) c2) (c + 1) ((ps.take c).flatMap pwC ++ pwC (lblP s))) := ho2; clear ho2 hg2 hat2) | (at_builtin; refine O.wpList_append_more rfl _ _ 22 rfl wr.heap.size 44 it _ 7 80 Tryz.underlying22 hit ht0 ht1 ht2 rfl (by decide) (v := .slice a2 (c + 1) c2) (n := c + 1) (xs := (ps.take c).flatMap pwC ++ pwC (lblP s)) rfl HO2.out HY2.out.size (a := some ad) (l := 0) (c := 0) (cs := (ps.drop c).flatMap pwC) rfl (by intro e; cases e) HL2.out (fun ad' e j u hu => by cases e; exact O.cell_thru HY2.out (HA3.out j u hu)) (fun u hu => its_one hu) (show (c + 1 + (0)) * 80 ≤ 140737488355328 by omega) (show c + 1 + (0) ≤ 140737488355328 by omega) ?_; intro v3 Y3 ho3 hg3 hat3; simp only [Nat.add_zero] at ho3; obtain ⟨a3, c3, rfl⟩ := own_slice ho3; have HY3 : Hid (Below wr.heap.size wr Y3) := un_low2 HY2.out HO2.out hg3; have HO3 : Hid (Y3.ownsRow wr.heap.size 44 7 (.slice a3 (c + 1) c3) (c + 1) (((ps.take c).flatMap pwC ++ pwC (lblP s)) ++ (ps.drop c).flatMap pwC)) := ho3; clear ho3 hg3 hat3) | fail)
            clear hm hz1 hz2 hneg
            have HI3 : Hid (ItsV Y3 a3 (c + 1) c3 (Z.put c (lbl s) ts)) := un_its HY3.out HPO.out HPT.out (by unfold maxLen; omega) (by rw [HPL.out]; exact hml) (by rw [HPL.out]) HO3.out
            have HAS : Hid (Z.asm (Z.put c (lbl s) ts) = Z.asm ts) := un_asm HNM.out HUN.out (by rw [HCT.out]; exact hml) (by rw [HCT.out]; omega)
            have HF : Hid (OFit (Z.asm ts).1) := (Z.asm_may (fun t hm => (HV.out.fit t hm).2)).1
            have hasm1 := asm_any (HV.out.below HY3.out) (HT.out.below HY3.out) (J.Tab.below HJ.out HY3.out)
            have HAS2 : Hid (∀ W, Below Y3.heap.size Y3 W → Calls Tryz.prog 12 #[.slice a3 (c + 1) c3] W (AsmOut W (Z.asm ts))) := fun W hb => by
              rw [← HAS.out]; exact asm_any (HI3.out.below hb) ((HT.out.below HY3.out).below hb) (J.Tab.below (J.Tab.below HJ.out HY3.out) hb)
            obtain ⟨⟨o, zz⟩, hr⟩ : ∃ r, Z.asm ts = r := ⟨_, rfl⟩
            rw [hr] at hasm1 HF HAS2
            simp only at HF
            clear hr HAS HI3 HO3 HO2 HO1 HPT HPO HPL HL1 HL2
            refine hasm1.mono ?_
            rintro e w1 ⟨vd, vs, vr, rfl, o1, o2, o3, hb1⟩
            simp only at o1 o2 o3 ⊢
            have HOV : Hid (O.ObjV w1 (.agg #[.string o.code, vd, vs, vr]) o) := objV_of HF.out o1 o2 o3
            have HN1 : Hid (o.data.length ≤ maxLen ∧ o.syms.length ≤ maxLen ∧ o.rels.length ≤ maxLen) := by
              have q : ∀ {ty c n B : Nat} {v : Value} {cs : List Value}, w1.ownsRow B ty c v n cs → n ≤ maxLen := fun h => by
                rcases h.2 with ⟨-, e⟩ | ⟨g, cap, cur, -, -, -, h1, h2, -⟩
                · omega
                · omega
              exact ⟨q o1, q o2, q o3⟩
            obtain ⟨ad5, cd5, rfl⟩ := own_slice o1
            obtain ⟨as5, cs5, rfl⟩ := own_slice o2
            obtain ⟨ar5, cr5, rfl⟩ := own_slice o3
            obtain ⟨Y5, hY5⟩ : ∃ Y5, w1.alloc (.cells #[.string o.code, .slice ad5 o.data.length cd5, .slice as5 o.syms.length cs5, .slice ar5 o.rels.length cr5] 30) = Y5 := ⟨_, rfl⟩
            have bY5 : Below w1.heap.size w1 Y5 := by subst hY5; exact bl1 _ _
            have m50 : Y5.cell? ⟨w1.heap.size, 0, none⟩ = some (.string o.code) := by subst hY5; exact cellA rfl rfl
            have m51 : Y5.cell? ⟨w1.heap.size, 1, none⟩ = some (.slice ad5 o.data.length cd5) := by subst hY5; exact cellA rfl rfl
            have m52 : Y5.cell? ⟨w1.heap.size, 2, none⟩ = some (.slice as5 o.syms.length cs5) := by subst hY5; exact cellA rfl rfl
            have m53 : Y5.cell? ⟨w1.heap.size, 3, none⟩ = some (.slice ar5 o.rels.length cr5) := by subst hY5; exact cellA rfl rfl
            have HB5 : Hid (Below Y3.heap.size Y3 Y5) := hb1.trans (bY5.mono hb1.size)
            have HO5 : Hid _ := HOV.out.below bY5
            have HS5 : Hid (w1.heap.size < Y5.heap.size) := by subst hY5; show _ < _; simp
            have hasm2 := HAS2.out Y5 HB5.out
            clear o1 o2 o3 hb1 hasm1 bY5 HOV
            generalize hld : o.data.length = ld at m50 m51 m52 m53 hY5 HO5 HN1 ⊢
            generalize hls : o.syms.length = ls at m50 m51 m52 m53 hY5 HO5 HN1 ⊢
            generalize hlr : o.rels.length = lr at m50 m51 m52 m53 hY5 HO5 HN1 ⊢
            generalize hoc : o.code = oc at m50 m51 m52 m53 hY5 HO5 HN1 ⊢
            have HLD : Hid (o.data.length = ld ∧ o.syms.length = ls ∧ o.rels.length = lr ∧ o.code = oc) := ⟨hld, hls, hlr, hoc⟩
            clear hld hls hlr hoc
            go_wp2_with fail
            refine hasm2.mono ?_
            rintro e w2 ⟨vd, vs, vr, rfl, o1, o2, o3, hb2⟩
            simp only at o1 o2 o3 ⊢
            have HOV6 : Hid (O.ObjV w2 (.agg #[.string o.code, vd, vs, vr]) o) := objV_of HF.out o1 o2 o3
            rw [HLD.out.1] at o1
            rw [HLD.out.2.1] at o2
            rw [HLD.out.2.2.1] at o3
            rw [HLD.out.2.2.2] at HOV6
            simp only [HLD.out.2.2.2]
            obtain ⟨ad6, cd6, rfl⟩ := own_slice o1
            obtain ⟨as6, cs6, rfl⟩ := own_slice o2
            obtain ⟨ar6, cr6, rfl⟩ := own_slice o3
            obtain ⟨Y6, hY6⟩ : ∃ Y6, w2.alloc (.cells #[.string oc, .slice ad6 ld cd6, .slice as6 ls cs6, .slice ar6 lr cr6] 30) = Y6 := ⟨_, rfl⟩
            have bY6 : Below w2.heap.size w2 Y6 := by subst hY6; exact bl1 _ _
            have m60 : Y6.cell? ⟨w2.heap.size, 0, none⟩ = some (.string oc) := by subst hY6; exact cellA rfl rfl
            have m61 : Y6.cell? ⟨w2.heap.size, 1, none⟩ = some (.slice ad6 ld cd6) := by subst hY6; exact cellA rfl rfl
            have m62 : Y6.cell? ⟨w2.heap.size, 2, none⟩ = some (.slice as6 ls cs6) := by subst hY6; exact cellA rfl rfl
            have m63 : Y6.cell? ⟨w2.heap.size, 3, none⟩ = some (.slice ar6 lr cr6) := by subst hY6; exact cellA rfl rfl
            have hb6 : Below Y5.heap.size Y5 Y6 := hb2.trans (bY6.mono hb2.size)
            have n50 := O.cell_thru hb6 m50
            have n51 := O.cell_thru hb6 m51
            have n52 := O.cell_thru hb6 m52
            have n53 := O.cell_thru hb6 m53
            have HOA : Hid _ := HO5.out.below hb6
            have HOB : Hid _ := HOV6.out.below bY6
            have hs6 := O.same_any HOA.out HOB.out (by rw [HLD.out.1]; exact HN1.out.1) (by rw [HLD.out.2.1]; exact HN1.out.2.1) (by rw [HLD.out.2.2.1]; exact HN1.out.2.2) true (by simp)
            have HB6 : Hid (Below wr.heap.size wr Y6) := HY3.out.trans ((HB5.out.trans (hb6.mono HB5.out.size)).mono HY3.out.size)
            clear o1 o2 o3 hb2 bY6 hb6 hasm2 HOV6 HOA HOB HO5 m50 m51 m52 m53
            go_wp2_with fail
            refine hs6.mono ?_
            rintro e w3 ⟨rfl, hb3⟩
            have HB7 : Hid (Below wr.heap.size wr w3) := HB6.out.trans (hb3.mono HB6.out.size)
            clear hb3 hs6
            go_wp2_with fail
            refine (live_any _ (HT.out.below HB7.out) (J.Tab.below HJ.out HB7.out)).mono ?_
            rintro e y9 ⟨rfl, hb9⟩
            have HB9 : Hid _ := hb9
            clear hb9
            go_wp2_with fail
            go_ret
            exact ⟨rfl, HB7.out.trans (HB9.out.mono HB7.out.size)⟩
          · have hcm2 : ¬ m = c := fun e => hcm e.symm
            obtain ⟨ps, hps, hpo, hpc⟩ := its_cells HV.out
            have hpl : ps.length = k := by have := congrArg List.length hps; rw [List.length_map, HCT.out] at this; exact this
            have HC1 : Hid (∀ j u, ((ps.take m).flatMap pwC)[j]? = some u → wr.cell? (ad.add j) = some u) := fun j u hu => hpc ad rfl j u (by
              rw [← List.take_append_drop m ps, List.flatMap_append, List.getElem?_append_left (List.getElem?_eq_some_iff.1 hu).1]; exact hu)
            have HC2 : Hid (∀ j u, ((ps.drop m).flatMap pwC)[j]? = some u → wr.cell? (ad.add (m * 7 + j)) = some u) := fun j u hu => hpc ad rfl (m * 7 + j) u (by
              have e : ((ps.take m).flatMap pwC).length = m * 7 := by rw [its_len, List.length_take]; congr 1; omega
              rw [← List.take_append_drop m ps, List.flatMap_append, List.getElem?_append_right (by omega), e, show m * 7 + j - m * 7 = j by omega]; exact hu)
            have HL1 : Hid (((ps.take m).flatMap pwC).length = m * 7) := by show _ = _; rw [its_len, List.length_take]; congr 1; omega
            have HL2 : Hid (((ps.drop m).flatMap pwC).length = (k - m) * 7) := by show _ = _; rw [its_len, List.length_drop]; congr 1; omega
            have HPO : Hid (∀ p ∈ ps, PwOk wr p) := hpo
            have HPT : Hid (ps.map (·.t) = ts) := hps
            have HPL : Hid (ps.length = k) := hpl
            clear hps hpo hpc hpl
            obtain ⟨it, hit, ht0, ht1, ht2⟩ := info_parts infoIt
            have HA3 : Hid (∀ j u, ((ps.drop m).flatMap pwC)[j]? = some u → wr.cell? ((ad.add (m * 7)).add j) = some u) := fun j u hu => by have := HC2.out j u hu; rwa [show (ad.add (m * 7)).add j = ad.add (m * 7 + j) from Addr.add_add ..]
            go_wp2_with (first | (at_builtin; refine O.wpList_append_more rfl _ _ 22 rfl wr.heap.size 44 it _ 7 80 Tryz.underlying22 hit ht0 ht1 ht2 rfl (by decide) (v := .slice none 0 0) (n := 0) (xs := []) rfl (World.ownsRow_nil _ _ _ _) (Nat.le_refl _) (a := some ad) (l := m) (c := c) (cs := (ps.take m).flatMap pwC) rfl (by intro e; cases e) HL1.out (fun ad' e => by cases e; exact HC1.out) (fun u hu => its_one hu) (show (0 + m) * 80 ≤ 140737488355328 by omega) (show 0 + m ≤ 140737488355328 by omega) ?_; intro v1 Y1 ho1 hg1 hat1; simp only [List.nil_append, Nat.zero_add] at ho1; obtain ⟨a1, c1, rfl⟩ := own_slice ho1; have HY1 : Hid (Below wr.heap.size wr Y1) := (Below.refl _ _).grown hg1 (Nat.le_refl _) (by simp [Value.ownBlock]); have HO1 : Hid (Y1.ownsRow wr.heap.size 44 7 (.slice a1 m c1) m ((ps.take m).flatMap pwC)) := ho1; clear ho1 hg1 hat1) | (at_builtin; refine O.wpList_append_more rfl _ _ 22 rfl wr.heap.size 44 it _ 7 80 Tryz.underlying22 hit ht0 ht1 ht2 rfl (by decide) (n := m) (xs := (ps.take m).flatMap pwC) (v := .slice a1 m c1) rfl (O.row_below HO1.out (bl1 _ _)) (Nat.le_trans HY1.out.size (bl1 _ _).size) (a := some ⟨Y1.heap.size, 0, none⟩) (l := 1) (c := 1) (cs := pwC (lblP s)) rfl (by intro e; cases e) rfl (fun ad' e j u hu => by cases e; rw [Addr.add_lit, Nat.zero_add]; exact cellA rfl (by simpa [pwC, lblP, lbl, str_eq] using hu)) (fun u hu => pwC_one hu) (show (m + 1) * 80 ≤ 140737488355328 by omega) (show m + 1 ≤ 140737488355328 by omega) ?_; intro v2 Y2 ho2 hg2 hat2; obtain ⟨a2, c2, rfl⟩ := own_slice ho2; have HY2 : Hid (Below wr.heap.size wr Y2) := un_low HY1.out HO1.out hg2; have HO2 : Hid (Y2.ownsRow wr.heap.size 44 7 (.slice a2 (m + 1) c2) (m + 1) ((ps.take m).flatMap pwC ++ pwC (lblP s))) := ho2; clear ho2 hg2 hat2) | (at_builtin; refine O.wpList_append_more rfl _ _ 22 rfl wr.heap.size 44 it _ 7 80 Tryz.underlying22 hit ht0 ht1 ht2 rfl (by decide) (v := .slice a2 (m + 1) c2) (n := m + 1) (xs := (ps.take m).flatMap pwC ++ pwC (lblP s)) rfl HO2.out HY2.out.size (a := some (ad.add (m * 7))) (l := k - m) (c := c - m) (cs := (ps.drop m).flatMap pwC) rfl (by intro e; cases e) HL2.out (fun ad' e j u hu => by cases e; exact O.cell_thru HY2.out (HA3.out j u hu)) (fun u hu => its_one hu) (show (m + 1 + (k - m)) * 80 ≤ 140737488355328 by omega) (show m + 1 + (k - m) ≤ 140737488355328 by omega) ?_; intro v3 Y3 ho3 hg3 hat3; rw [show m + 1 + (k - m) = k + 1 from by omega] at ho3; obtain ⟨a3, c3, rfl⟩ := own_slice ho3; have HY3 : Hid (Below wr.heap.size wr Y3) := un_low2 HY2.out HO2.out hg3; have HO3 : Hid (Y3.ownsRow wr.heap.size 44 7 (.slice a3 (k + 1) c3) (k + 1) (((ps.take m).flatMap pwC ++ pwC (lblP s)) ++ (ps.drop m).flatMap pwC)) := ho3; clear ho3 hg3 hat3) | fail)
            clear hm hz1 hz2 hneg
            have HI3 : Hid (ItsV Y3 a3 (k + 1) c3 (Z.put m (lbl s) ts)) := un_its HY3.out HPO.out HPT.out (by unfold maxLen; omega) (by rw [HPL.out]; exact hml) (by rw [HPL.out]) HO3.out
            have HAS : Hid (Z.asm (Z.put m (lbl s) ts) = Z.asm ts) := un_asm HNM.out HUN.out (by rw [HCT.out]; exact hml) (by rw [HCT.out]; omega)
            have HF : Hid (OFit (Z.asm ts).1) := (Z.asm_may (fun t hm => (HV.out.fit t hm).2)).1
            have hasm1 := asm_any (HV.out.below HY3.out) (HT.out.below HY3.out) (J.Tab.below HJ.out HY3.out)
            have HAS2 : Hid (∀ W, Below Y3.heap.size Y3 W → Calls Tryz.prog 12 #[.slice a3 (k + 1) c3] W (AsmOut W (Z.asm ts))) := fun W hb => by
              rw [← HAS.out]; exact asm_any (HI3.out.below hb) ((HT.out.below HY3.out).below hb) (J.Tab.below (J.Tab.below HJ.out HY3.out) hb)
            obtain ⟨⟨o, zz⟩, hr⟩ : ∃ r, Z.asm ts = r := ⟨_, rfl⟩
            rw [hr] at hasm1 HF HAS2
            simp only at HF
            clear hr HAS HI3 HO3 HO2 HO1 HPT HPO HPL HL1 HL2
            refine hasm1.mono ?_
            rintro e w1 ⟨vd, vs, vr, rfl, o1, o2, o3, hb1⟩
            simp only at o1 o2 o3 ⊢
            have HOV : Hid (O.ObjV w1 (.agg #[.string o.code, vd, vs, vr]) o) := objV_of HF.out o1 o2 o3
            have HN1 : Hid (o.data.length ≤ maxLen ∧ o.syms.length ≤ maxLen ∧ o.rels.length ≤ maxLen) := by
              have q : ∀ {ty k n B : Nat} {v : Value} {cs : List Value}, w1.ownsRow B ty k v n cs → n ≤ maxLen := fun h => by
                rcases h.2 with ⟨-, e⟩ | ⟨g, cap, cur, -, -, -, h1, h2, -⟩
                · omega
                · omega
              exact ⟨q o1, q o2, q o3⟩
            obtain ⟨ad5, cd5, rfl⟩ := own_slice o1
            obtain ⟨as5, cs5, rfl⟩ := own_slice o2
            obtain ⟨ar5, cr5, rfl⟩ := own_slice o3
            obtain ⟨Y5, hY5⟩ : ∃ Y5, w1.alloc (.cells #[.string o.code, .slice ad5 o.data.length cd5, .slice as5 o.syms.length cs5, .slice ar5 o.rels.length cr5] 30) = Y5 := ⟨_, rfl⟩
            have bY5 : Below w1.heap.size w1 Y5 := by subst hY5; exact bl1 _ _
            have m50 : Y5.cell? ⟨w1.heap.size, 0, none⟩ = some (.string o.code) := by subst hY5; exact cellA rfl rfl
            have m51 : Y5.cell? ⟨w1.heap.size, 1, none⟩ = some (.slice ad5 o.data.length cd5) := by subst hY5; exact cellA rfl rfl
            have m52 : Y5.cell? ⟨w1.heap.size, 2, none⟩ = some (.slice as5 o.syms.length cs5) := by subst hY5; exact cellA rfl rfl
            have m53 : Y5.cell? ⟨w1.heap.size, 3, none⟩ = some (.slice ar5 o.rels.length cr5) := by subst hY5; exact cellA rfl rfl
            have HB5 : Hid (Below Y3.heap.size Y3 Y5) := hb1.trans (bY5.mono hb1.size)
            have HO5 : Hid _ := HOV.out.below bY5
            have HS5 : Hid (w1.heap.size < Y5.heap.size) := by subst hY5; show _ < _; simp
            have hasm2 := HAS2.out Y5 HB5.out
            clear o1 o2 o3 hb1 hasm1 bY5 HOV
            generalize hld : o.data.length = ld at m50 m51 m52 m53 hY5 HO5 HN1 ⊢
            generalize hls : o.syms.length = ls at m50 m51 m52 m53 hY5 HO5 HN1 ⊢
            generalize hlr : o.rels.length = lr at m50 m51 m52 m53 hY5 HO5 HN1 ⊢
            generalize hoc : o.code = oc at m50 m51 m52 m53 hY5 HO5 HN1 ⊢
            have HLD : Hid (o.data.length = ld ∧ o.syms.length = ls ∧ o.rels.length = lr ∧ o.code = oc) := ⟨hld, hls, hlr, hoc⟩
            clear hld hls hlr hoc
            go_wp2_with fail
            refine hasm2.mono ?_
            rintro e w2 ⟨vd, vs, vr, rfl, o1, o2, o3, hb2⟩
            simp only at o1 o2 o3 ⊢
            have HOV6 : Hid (O.ObjV w2 (.agg #[.string o.code, vd, vs, vr]) o) := objV_of HF.out o1 o2 o3
            rw [HLD.out.1] at o1
            rw [HLD.out.2.1] at o2
            rw [HLD.out.2.2.1] at o3
            rw [HLD.out.2.2.2] at HOV6
            simp only [HLD.out.2.2.2]
            obtain ⟨ad6, cd6, rfl⟩ := own_slice o1
            obtain ⟨as6, cs6, rfl⟩ := own_slice o2
            obtain ⟨ar6, cr6, rfl⟩ := own_slice o3
            obtain ⟨Y6, hY6⟩ : ∃ Y6, w2.alloc (.cells #[.string oc, .slice ad6 ld cd6, .slice as6 ls cs6, .slice ar6 lr cr6] 30) = Y6 := ⟨_, rfl⟩
            have bY6 : Below w2.heap.size w2 Y6 := by subst hY6; exact bl1 _ _
            have m60 : Y6.cell? ⟨w2.heap.size, 0, none⟩ = some (.string oc) := by subst hY6; exact cellA rfl rfl
            have m61 : Y6.cell? ⟨w2.heap.size, 1, none⟩ = some (.slice ad6 ld cd6) := by subst hY6; exact cellA rfl rfl
            have m62 : Y6.cell? ⟨w2.heap.size, 2, none⟩ = some (.slice as6 ls cs6) := by subst hY6; exact cellA rfl rfl
            have m63 : Y6.cell? ⟨w2.heap.size, 3, none⟩ = some (.slice ar6 lr cr6) := by subst hY6; exact cellA rfl rfl
            have hb6 : Below Y5.heap.size Y5 Y6 := hb2.trans (bY6.mono hb2.size)
            have n50 := O.cell_thru hb6 m50
            have n51 := O.cell_thru hb6 m51
            have n52 := O.cell_thru hb6 m52
            have n53 := O.cell_thru hb6 m53
            have HOA : Hid _ := HO5.out.below hb6
            have HOB : Hid _ := HOV6.out.below bY6
            have hs6 := O.same_any HOA.out HOB.out (by rw [HLD.out.1]; exact HN1.out.1) (by rw [HLD.out.2.1]; exact HN1.out.2.1) (by rw [HLD.out.2.2.1]; exact HN1.out.2.2) true (by simp)
            have HB6 : Hid (Below wr.heap.size wr Y6) := HY3.out.trans ((HB5.out.trans (hb6.mono HB5.out.size)).mono HY3.out.size)
            clear o1 o2 o3 hb2 bY6 hb6 hasm2 HOV6 HOA HOB HO5 m50 m51 m52 m53
            go_wp2_with fail
            refine hs6.mono ?_
            rintro e w3 ⟨rfl, hb3⟩
            have HB7 : Hid (Below wr.heap.size wr w3) := HB6.out.trans (hb3.mono HB6.out.size)
            clear hb3 hs6
            go_wp2_with fail
            refine (live_any _ (HT.out.below HB7.out) (J.Tab.below HJ.out HB7.out)).mono ?_
            rintro e y9 ⟨rfl, hb9⟩
            have HB9 : Hid _ := hb9
            clear hb9
            go_wp2_with fail
            go_ret
            exact ⟨rfl, HB7.out.trans (HB9.out.mono HB7.out.size)⟩
      · obtain ⟨m, hm, hml⟩ : ∃ m : Nat, Int.tmod (z) (k + 1) = m ∧ m ≤ k := by
          have h1 : 0 ≤ Int.tmod (z) (k + 1) := Int.tmod_nonneg _ (by omega)
          have h2 : Int.tmod (z) (k + 1) < k + 1 := Int.tmod_lt_of_pos _ (by omega)
          exact ⟨(Int.tmod (z) (k + 1)).toNat, by omega, by omega⟩
        cases a with
        | none =>
          obtain ⟨rfl, rfl⟩ := hnil rfl
          obtain rfl : m = 0 := by omega
          obtain rfl : ts = [] := List.eq_nil_of_length_eq_zero HCT.out
          obtain ⟨ps, HPS⟩ : ∃ ps : List Pw, Hid (ps = []) := ⟨[], rfl⟩
          have HPO : Hid (∀ p ∈ ps, PwOk wr p) := fun p hp => by rw [HPS.out] at hp; cases hp
          have HPT : Hid (ps.map (·.t) = []) := by show _ = _; rw [HPS.out]; rfl
          have HPL : Hid (ps.length = 0) := by show _ = _; rw [HPS.out]; rfl
          have HL1 : Hid (((ps.take 0).flatMap pwC).length = 0 * 7) := by show _ = _; rw [HPS.out]; rfl
          have HL2 : Hid (((ps.drop 0).flatMap pwC).length = 0 * 7) := by show _ = _; rw [HPS.out]; rfl
          obtain ⟨it, hit, ht0, ht1, ht2⟩ := info_parts infoIt
          go_wp2_with (first | (at_builtin; refine O.wpList_append_more rfl _ _ 22 rfl wr.heap.size 44 it _ 7 80 Tryz.underlying22 hit ht0 ht1 ht2 rfl (by decide) (v := .slice none 0 0) (n := 0) (xs := []) rfl (World.ownsRow_nil _ _ _ _) (Nat.le_refl _) (a := none) (l := 0) (c := 0) (cs := (ps.take 0).flatMap pwC) rfl (fun _ => ⟨rfl, rfl⟩) HL1.out (fun ad' e => by cases e) (fun u hu => its_one hu) (show (0 + 0) * 80 ≤ 140737488355328 by omega) (show 0 + 0 ≤ 140737488355328 by omega) ?_; intro v1 Y1 ho1 hg1 hat1; simp only [List.nil_append, Nat.zero_add] at ho1; obtain ⟨a1, c1, rfl⟩ := own_slice ho1; have HY1 : Hid (Below wr.heap.size wr Y1) := (Below.refl _ _).grown hg1 (Nat.le_refl _) (by simp [Value.ownBlock]); have HO1 : Hid (Y1.ownsRow wr.heap.size 44 7 (.slice a1 0 c1) 0 ((ps.take 0).flatMap pwC)) := ho1; clear ho1 hg1 hat1) | (at_builtin; refine O.wpList_append_more rfl _ _ 22 rfl wr.heap.size 44 it _ 7 80 Tryz.underlying22 hit ht0 ht1 ht2 rfl (by decide) (n := 0) (xs := (ps.take 0).flatMap pwC) (v := .slice a1 0 c1) rfl (O.row_below HO1.out (bl1 _ _)) (Nat.le_trans HY1.out.size (bl1 _ _).size) (a := some ⟨Y1.heap.size, 0, none⟩) (l := 1) (c := 1) (cs := pwC (lblP s)) rfl (by intro e; cases e) rfl (fun ad' e j u hu => by cases e; rw [Addr.add_lit, Nat.zero_add]; exact cellA rfl (by simpa [pwC, lblP, lbl, str_eq] using hu)) (fun u hu => pwC_one hu) (show (0 + 1) * 80 ≤ 140737488355328 by omega) (show 0 + 1 ≤ 140737488355328 by omega) ?_; intro v2 Y2 ho2 hg2 hat2; simp only [Nat.zero_add] at ho2; obtain ⟨a2, c2, rfl⟩ := own_slice ho2; have HY2 : Hid (Below wr.heap.size wr Y2) := un_low HY1.out HO1.out hg2; have HO2 : Hid (Y2.ownsRow wr.heap.size 44 7 (.slice a2 (1) c2) (1) ((ps.take 0).flatMap pwC ++ pwC (lblP s))) := ho2; clear ho2 hg2 hat2) | (at_builtin; refine O.wpList_append_more rfl _ _ 22 rfl wr.heap.size 44 it _ 7 80 Tryz.underlying22 hit ht0 ht1 ht2 rfl (by decide) (v := .slice a2 (1) c2) (n := 1) (xs := (ps.take 0).flatMap pwC ++ pwC (lblP s)) rfl HO2.out HY2.out.size (a := none) (l := 0) (c := 0) (cs := (ps.drop 0).flatMap pwC) rfl (fun _ => ⟨rfl, rfl⟩) HL2.out (fun ad' e => by cases e) (fun u hu => its_one hu) (show (1 + (0)) * 80 ≤ 140737488355328 by omega) (show 1 + (0) ≤ 140737488355328 by omega) ?_; intro v3 Y3 ho3 hg3 hat3; simp only [Nat.add_zero] at ho3; obtain ⟨a3, c3, rfl⟩ := own_slice ho3; have HY3 : Hid (Below wr.heap.size wr Y3) := un_low2 HY2.out HO2.out hg3; have HO3 : Hid (Y3.ownsRow wr.heap.size 44 7 (.slice a3 (1) c3) (1) (((ps.take 0).flatMap pwC ++ pwC (lblP s)) ++ (ps.drop 0).flatMap pwC)) := ho3; clear ho3 hg3 hat3) | fail)
          clear hm hz1 hz2 hneg
          have HI3 : Hid (ItsV Y3 a3 (1) c3 (Z.put 0 (lbl s) [])) := un_its HY3.out HPO.out HPT.out (by unfold maxLen; omega) (by rw [HPL.out]; exact Nat.zero_le _) (by rw [HPL.out]) HO3.out
          have HAS : Hid (Z.asm (Z.put 0 (lbl s) []) = Z.asm []) := un_asm HNM.out HUN.out (by rw [HCT.out]; exact Nat.zero_le _) (by rw [HCT.out]; omega)
          have HF : Hid (OFit (Z.asm []).1) := (Z.asm_may (fun t hm => (HV.out.fit t hm).2)).1
          have hasm1 := asm_any (HV.out.below HY3.out) (HT.out.below HY3.out) (J.Tab.below HJ.out HY3.out)
          have HAS2 : Hid (∀ W, Below Y3.heap.size Y3 W → Calls Tryz.prog 12 #[.slice a3 (1) c3] W (AsmOut W (Z.asm []))) := fun W hb => by
            rw [← HAS.out]; exact asm_any (HI3.out.below hb) ((HT.out.below HY3.out).below hb) (J.Tab.below (J.Tab.below HJ.out HY3.out) hb)
          obtain ⟨⟨o, zz⟩, hr⟩ : ∃ r, Z.asm [] = r := ⟨_, rfl⟩
          rw [hr] at hasm1 HF HAS2
          simp only at HF
          clear hr HAS HI3 HO3 HO2 HO1 HPT HPO HPL HL1 HL2
          refine hasm1.mono ?_
          rintro e w1 ⟨vd, vs, vr, rfl, o1, o2, o3, hb1⟩
          simp only at o1 o2 o3 ⊢
          have HOV : Hid (O.ObjV w1 (.agg #[.string o.code, vd, vs, vr]) o) := objV_of HF.out o1 o2 o3
          have HN1 : Hid (o.data.length ≤ maxLen ∧ o.syms.length ≤ maxLen ∧ o.rels.length ≤ maxLen) := by
            have q : ∀ {ty k n B : Nat} {v : Value} {cs : List Value}, w1.ownsRow B ty k v n cs → n ≤ maxLen := fun h => by
              rcases h.2 with ⟨-, e⟩ | ⟨g, cap, cur, -, -, -, h1, h2, -⟩
              · omega
              · omega
            exact ⟨q o1, q o2, q o3⟩
          obtain ⟨ad5, cd5, rfl⟩ := own_slice o1
          obtain ⟨as5, cs5, rfl⟩ := own_slice o2
          obtain ⟨ar5, cr5, rfl⟩ := own_slice o3
          obtain ⟨Y5, hY5⟩ : ∃ Y5, w1.alloc (.cells #[.string o.code, .slice ad5 o.data.length cd5, .slice as5 o.syms.length cs5, .slice ar5 o.rels.length cr5] 30) = Y5 := ⟨_, rfl⟩
          have bY5 : Below w1.heap.size w1 Y5 := by subst hY5; exact bl1 _ _
          have m50 : Y5.cell? ⟨w1.heap.size, 0, none⟩ = some (.string o.code) := by subst hY5; exact cellA rfl rfl
          have m51 : Y5.cell? ⟨w1.heap.size, 1, none⟩ = some (.slice ad5 o.data.length cd5) := by subst hY5; exact cellA rfl rfl
          have m52 : Y5.cell? ⟨w1.heap.size, 2, none⟩ = some (.slice as5 o.syms.length cs5) := by subst hY5; exact cellA rfl rfl
          have m53 : Y5.cell? ⟨w1.heap.size, 3, none⟩ = some (.slice ar5 o.rels.length cr5) := by subst hY5; exact cellA rfl rfl
          have HB5 : Hid (Below Y3.heap.size Y3 Y5) := hb1.trans (bY5.mono hb1.size)
          have HO5 : Hid _ := HOV.out.below bY5
          have HS5 : Hid (w1.heap.size < Y5.heap.size) := by subst hY5; show _ < _; simp
          have hasm2 := HAS2.out Y5 HB5.out
          clear o1 o2 o3 hb1 hasm1 bY5 HOV
          generalize hld : o.data.length = ld at m50 m51 m52 m53 hY5 HO5 HN1 ⊢
          generalize hls : o.syms.length = ls at m50 m51 m52 m53 hY5 HO5 HN1 ⊢
          generalize hlr : o.rels.length = lr at m50 m51 m52 m53 hY5 HO5 HN1 ⊢
          generalize hoc : o.code = oc at m50 m51 m52 m53 hY5 HO5 HN1 ⊢
          have HLD : Hid (o.data.length = ld ∧ o.syms.length = ls ∧ o.rels.length = lr ∧ o.code = oc) := ⟨hld, hls, hlr, hoc⟩
          clear hld hls hlr hoc
          go_wp2_with fail
          refine hasm2.mono ?_
          rintro e w2 ⟨vd, vs, vr, rfl, o1, o2, o3, hb2⟩
          simp only at o1 o2 o3 ⊢
          have HOV6 : Hid (O.ObjV w2 (.agg #[.string o.code, vd, vs, vr]) o) := objV_of HF.out o1 o2 o3
          rw [HLD.out.1] at o1
          rw [HLD.out.2.1] at o2
          rw [HLD.out.2.2.1] at o3
          rw [HLD.out.2.2.2] at HOV6
          simp only [HLD.out.2.2.2]
          obtain ⟨ad6, cd6, rfl⟩ := own_slice o1
          obtain ⟨as6, cs6, rfl⟩ := own_slice o2
          obtain ⟨ar6, cr6, rfl⟩ := own_slice o3
          obtain ⟨Y6, hY6⟩ : ∃ Y6, w2.alloc (.cells #[.string oc, .slice ad6 ld cd6, .slice as6 ls cs6, .slice ar6 lr cr6] 30) = Y6 := ⟨_, rfl⟩
          have bY6 : Below w2.heap.size w2 Y6 := by subst hY6; exact bl1 _ _
          have m60 : Y6.cell? ⟨w2.heap.size, 0, none⟩ = some (.string oc) := by subst hY6; exact cellA rfl rfl
          have m61 : Y6.cell? ⟨w2.heap.size, 1, none⟩ = some (.slice ad6 ld cd6) := by subst hY6; exact cellA rfl rfl
          have m62 : Y6.cell? ⟨w2.heap.size, 2, none⟩ = some (.slice as6 ls cs6) := by subst hY6; exact cellA rfl rfl
          have m63 : Y6.cell? ⟨w2.heap.size, 3, none⟩ = some (.slice ar6 lr cr6) := by subst hY6; exact cellA rfl rfl
          have hb6 : Below Y5.heap.size Y5 Y6 := hb2.trans (bY6.mono hb2.size)
          have n50 := O.cell_thru hb6 m50
          have n51 := O.cell_thru hb6 m51
          have n52 := O.cell_thru hb6 m52
          have n53 := O.cell_thru hb6 m53
          have HOA : Hid _ := HO5.out.below hb6
          have HOB : Hid _ := HOV6.out.below bY6
          have hs6 := O.same_any HOA.out HOB.out (by rw [HLD.out.1]; exact HN1.out.1) (by rw [HLD.out.2.1]; exact HN1.out.2.1) (by rw [HLD.out.2.2.1]; exact HN1.out.2.2) true (by simp)
          have HB6 : Hid (Below wr.heap.size wr Y6) := HY3.out.trans ((HB5.out.trans (hb6.mono HB5.out.size)).mono HY3.out.size)
          clear o1 o2 o3 hb2 bY6 hb6 hasm2 HOV6 HOA HOB HO5 m50 m51 m52 m53
          go_wp2_with fail
          refine hs6.mono ?_
          rintro e w3 ⟨rfl, hb3⟩
          have HB7 : Hid (Below wr.heap.size wr w3) := HB6.out.trans (hb3.mono HB6.out.size)
          clear hb3 hs6
          go_wp2_with fail
          refine (live_any _ (HT.out.below HB7.out) (J.Tab.below HJ.out HB7.out)).mono ?_
          rintro e y9 ⟨rfl, hb9⟩
          have HB9 : Hid _ := hb9
          clear hb9
          go_wp2_with fail
          go_ret
          exact ⟨rfl, HB7.out.trans (HB9.out.mono HB7.out.size)⟩
        | some ad =>
          by_cases hcm : c = m
          · have hkm : k = m := by omega
            subst hkm
            subst hcm
            obtain ⟨ps, hps, hpo, hpc⟩ := its_cells HV.out
            have hpl : ps.length = c := by have := congrArg List.length hps; rw [List.length_map, HCT.out] at this; exact this
            have HC1 : Hid (∀ j u, ((ps.take c).flatMap pwC)[j]? = some u → wr.cell? (ad.add j) = some u) := fun j u hu => hpc ad rfl j u (by
              rw [← List.take_append_drop c ps, List.flatMap_append, List.getElem?_append_left (List.getElem?_eq_some_iff.1 hu).1]; exact hu)
            have HC2 : Hid (∀ j u, ((ps.drop c).flatMap pwC)[j]? = some u → wr.cell? (ad.add (c * 7 + j)) = some u) := fun j u hu => hpc ad rfl (c * 7 + j) u (by
              have e : ((ps.take c).flatMap pwC).length = c * 7 := by rw [its_len, List.length_take]; congr 1; omega
              rw [← List.take_append_drop c ps, List.flatMap_append, List.getElem?_append_right (by omega), e, show c * 7 + j - c * 7 = j by omega]; exact hu)
            have HL1 : Hid (((ps.take c).flatMap pwC).length = c * 7) := by show _ = _; rw [its_len, List.length_take]; congr 1; omega
            have HL2 : Hid (((ps.drop c).flatMap pwC).length = 0 * 7) := by show _ = _; rw [its_len, List.length_drop]; congr 1; omega
            have HPO : Hid (∀ p ∈ ps, PwOk wr p) := hpo
            have HPT : Hid (ps.map (·.t) = ts) := hps
            have HPL : Hid (ps.length = c) := hpl
            clear hps hpo hpc hpl
            obtain ⟨it, hit, ht0, ht1, ht2⟩ := info_parts infoIt
            have HA3 : Hid (∀ j u, ((ps.drop c).flatMap pwC)[j]? = some u → wr.cell? (ad.add j) = some u) := fun j u hu => by have h1 := (List.getElem?_eq_some_iff.1 hu).1; have h2 := HL2.out; omega
            go_wp2_with (first | (at_builtin; refine O.wpList_append_more rfl _ _ 22 rfl wr.heap.size 44 it _ 7 80 Tryz.underlying22 hit ht0 ht1 ht2 rfl (by decide) (v := .slice none 0 0) (n := 0) (xs := []) rfl (World.ownsRow_nil _ _ _ _) (Nat.le_refl _) (a := some ad) (l := c) (c := c) (cs := (ps.take c).flatMap pwC) rfl (by intro e; cases e) HL1.out (fun ad' e => by cases e; exact HC1.out) (fun u hu => its_one hu) (show (0 + c) * 80 ≤ 140737488355328 by omega) (show 0 + c ≤ 140737488355328 by omega) ?_; intro v1 Y1 ho1 hg1 hat1; simp only [List.nil_append, Nat.zero_add] at ho1; obtain ⟨a1, c1, rfl⟩ := own_slice ho1; have HY1 : Hid (Below wr.heap.size wr Y1) := (Below.refl _ _).grown hg1 (Nat.le_refl _) (by simp [Value.ownBlock]); have HO1 : Hid (Y1.ownsRow wr.heap.size 44 7 (.slice a1 c c1) c ((ps.take c).flatMap pwC)) := ho1; clear ho1 hg1 hat1) | (at_builtin; refine O.wpList_append_more rfl _ _ 22 rfl wr.heap.size 44 it _ 7 80 Tryz.underlying22 hit ht0 ht1 ht2 rfl (by decide) (n := c) (xs := (ps.take c).flatMap pwC) (v := .slice a1 c c1) rfl (O.row_below HO1.out (bl1 _ _)) (Nat.le_trans HY1.out.size (bl1 _ _).size) (a := some ⟨Y1.heap.size, 0, none⟩) (l := 1) (c := 1) (cs := pwC (lblP s)) rfl (by intro e; cases e) rfl (fun ad' e j u hu => by cases e; rw [Addr.add_lit, Nat.zero_add]; exact cellA rfl (by simpa [pwC, lblP, lbl, str_eq] using hu)) (fun u hu => pwC_one hu) (show (c + 1) * 80 ≤ 140737488355328 by omega) (show c + 1 ≤ 140737488355328 by omega) ?_; intro v2 Y2 ho2 hg2 hat2; obtain ⟨a2, c2, rfl⟩ := own_slice ho2; have HY2 : Hid (Below wr.heap.size wr Y2) := un_low HY1.out HO1.out hg2; have HO2 : Hid (Y2.ownsRow wr.heap.size 44 7 (.slice a2 (c + 1) c2) (c + 1) ((ps.take c).flatMap pwC ++ pwC (lblP s))) := ho2; clear ho2 hg2 hat2) | (at_builtin; refine O.wpList_append_more rfl _ _ 22 rfl wr.heap.size 44 it _ 7 80 Tryz.underlying22 hit ht0 ht1 ht2 rfl (by decide) (v := .slice a2 (c + 1) c2) (n := c + 1) (xs := (ps.take c).flatMap pwC ++ pwC (lblP s)) rfl HO2.out HY2.out.size (a := some ad) (l := 0) (c := 0) (cs := (ps.drop c).flatMap pwC) rfl (by intro e; cases e) HL2.out (fun ad' e j u hu => by cases e; exact O.cell_thru HY2.out (HA3.out j u hu)) (fun u hu => its_one hu) (show (c + 1 + (0)) * 80 ≤ 140737488355328 by omega) (show c + 1 + (0) ≤ 140737488355328 by omega) ?_; intro v3 Y3 ho3 hg3 hat3; simp only [Nat.add_zero] at ho3; obtain ⟨a3, c3, rfl⟩ := own_slice ho3; have HY3 : Hid (Below wr.heap.size wr Y3) := un_low2 HY2.out HO2.out hg3; have HO3 : Hid (Y3.ownsRow wr.heap.size 44 7 (.slice a3 (c + 1) c3) (c + 1) (((ps.take c).flatMap pwC ++ pwC (lblP s)) ++ (ps.drop c).flatMap pwC)) := ho3; clear ho3 hg3 hat3) | fail)
            clear hm hz1 hz2 hneg
            have HI3 : Hid (ItsV Y3 a3 (c + 1) c3 (Z.put c (lbl s) ts)) := un_its HY3.out HPO.out HPT.out (by unfold maxLen; omega) (by rw [HPL.out]; exact hml) (by rw [HPL.out]) HO3.out
            have HAS : Hid (Z.asm (Z.put c (lbl s) ts) = Z.asm ts) := un_asm HNM.out HUN.out (by rw [HCT.out]; exact hml) (by rw [HCT.out]; omega)
            have HF : Hid (OFit (Z.asm ts).1) := (Z.asm_may (fun t hm => (HV.out.fit t hm).2)).1
            have hasm1 := asm_any (HV.out.below HY3.out) (HT.out.below HY3.out) (J.Tab.below HJ.out HY3.out)
            have HAS2 : Hid (∀ W, Below Y3.heap.size Y3 W → Calls Tryz.prog 12 #[.slice a3 (c + 1) c3] W (AsmOut W (Z.asm ts))) := fun W hb => by
              rw [← HAS.out]; exact asm_any (HI3.out.below hb) ((HT.out.below HY3.out).below hb) (J.Tab.below (J.Tab.below HJ.out HY3.out) hb)
            obtain ⟨⟨o, zz⟩, hr⟩ : ∃ r, Z.asm ts = r := ⟨_, rfl⟩
            rw [hr] at hasm1 HF HAS2
            simp only at HF
            clear hr HAS HI3 HO3 HO2 HO1 HPT HPO HPL HL1 HL2
            refine hasm1.mono ?_
            rintro e w1 ⟨vd, vs, vr, rfl, o1, o2, o3, hb1⟩
            simp only at o1 o2 o3 ⊢
            have HOV : Hid (O.ObjV w1 (.agg #[.string o.code, vd, vs, vr]) o) := objV_of HF.out o1 o2 o3
            have HN1 : Hid (o.data.length ≤ maxLen ∧ o.syms.length ≤ maxLen ∧ o.rels.length ≤ maxLen) := by
              have q : ∀ {ty c n B : Nat} {v : Value} {cs : List Value}, w1.ownsRow B ty c v n cs → n ≤ maxLen := fun h => by
                rcases h.2 with ⟨-, e⟩ | ⟨g, cap, cur, -, -, -, h1, h2, -⟩
                · omega
                · omega
              exact ⟨q o1, q o2, q o3⟩
            obtain ⟨ad5, cd5, rfl⟩ := own_slice o1
            obtain ⟨as5, cs5, rfl⟩ := own_slice o2
            obtain ⟨ar5, cr5, rfl⟩ := own_slice o3
            obtain ⟨Y5, hY5⟩ : ∃ Y5, w1.alloc (.cells #[.string o.code, .slice ad5 o.data.length cd5, .slice as5 o.syms.length cs5, .slice ar5 o.rels.length cr5] 30) = Y5 := ⟨_, rfl⟩
            have bY5 : Below w1.heap.size w1 Y5 := by subst hY5; exact bl1 _ _
            have m50 : Y5.cell? ⟨w1.heap.size, 0, none⟩ = some (.string o.code) := by subst hY5; exact cellA rfl rfl
            have m51 : Y5.cell? ⟨w1.heap.size, 1, none⟩ = some (.slice ad5 o.data.length cd5) := by subst hY5; exact cellA rfl rfl
            have m52 : Y5.cell? ⟨w1.heap.size, 2, none⟩ = some (.slice as5 o.syms.length cs5) := by subst hY5; exact cellA rfl rfl
            have m53 : Y5.cell? ⟨w1.heap.size, 3, none⟩ = some (.slice ar5 o.rels.length cr5) := by subst hY5; exact cellA rfl rfl
            have HB5 : Hid (Below Y3.heap.size Y3 Y5) := hb1.trans (bY5.mono hb1.size)
            have HO5 : Hid _ := HOV.out.below bY5
            have HS5 : Hid (w1.heap.size < Y5.heap.size) := by subst hY5; show _ < _; simp
            have hasm2 := HAS2.out Y5 HB5.out
            clear o1 o2 o3 hb1 hasm1 bY5 HOV
            generalize hld : o.data.length = ld at m50 m51 m52 m53 hY5 HO5 HN1 ⊢
            generalize hls : o.syms.length = ls at m50 m51 m52 m53 hY5 HO5 HN1 ⊢
            generalize hlr : o.rels.length = lr at m50 m51 m52 m53 hY5 HO5 HN1 ⊢
            generalize hoc : o.code = oc at m50 m51 m52 m53 hY5 HO5 HN1 ⊢
            have HLD : Hid (o.data.length = ld ∧ o.syms.length = ls ∧ o.rels.length = lr ∧ o.code = oc) := ⟨hld, hls, hlr, hoc⟩
            clear hld hls hlr hoc
            go_wp2_with fail
            refine hasm2.mono ?_
            rintro e w2 ⟨vd, vs, vr, rfl, o1, o2, o3, hb2⟩
            simp only at o1 o2 o3 ⊢
            have HOV6 : Hid (O.ObjV w2 (.agg #[.string o.code, vd, vs, vr]) o) := objV_of HF.out o1 o2 o3
            rw [HLD.out.1] at o1
            rw [HLD.out.2.1] at o2
            rw [HLD.out.2.2.1] at o3
            rw [HLD.out.2.2.2] at HOV6
            simp only [HLD.out.2.2.2]
            obtain ⟨ad6, cd6, rfl⟩ := own_slice o1
            obtain ⟨as6, cs6, rfl⟩ := own_slice o2
            obtain ⟨ar6, cr6, rfl⟩ := own_slice o3
            obtain ⟨Y6, hY6⟩ : ∃ Y6, w2.alloc (.cells #[.string oc, .slice ad6 ld cd6, .slice as6 ls cs6, .slice ar6 lr cr6] 30) = Y6 := ⟨_, rfl⟩
            have bY6 : Below w2.heap.size w2 Y6 := by subst hY6; exact bl1 _ _
            have m60 : Y6.cell? ⟨w2.heap.size, 0, none⟩ = some (.string oc) := by subst hY6; exact cellA rfl rfl
            have m61 : Y6.cell? ⟨w2.heap.size, 1, none⟩ = some (.slice ad6 ld cd6) := by subst hY6; exact cellA rfl rfl
            have m62 : Y6.cell? ⟨w2.heap.size, 2, none⟩ = some (.slice as6 ls cs6) := by subst hY6; exact cellA rfl rfl
            have m63 : Y6.cell? ⟨w2.heap.size, 3, none⟩ = some (.slice ar6 lr cr6) := by subst hY6; exact cellA rfl rfl
            have hb6 : Below Y5.heap.size Y5 Y6 := hb2.trans (bY6.mono hb2.size)
            have n50 := O.cell_thru hb6 m50
            have n51 := O.cell_thru hb6 m51
            have n52 := O.cell_thru hb6 m52
            have n53 := O.cell_thru hb6 m53
            have HOA : Hid _ := HO5.out.below hb6
            have HOB : Hid _ := HOV6.out.below bY6
            have hs6 := O.same_any HOA.out HOB.out (by rw [HLD.out.1]; exact HN1.out.1) (by rw [HLD.out.2.1]; exact HN1.out.2.1) (by rw [HLD.out.2.2.1]; exact HN1.out.2.2) true (by simp)
            have HB6 : Hid (Below wr.heap.size wr Y6) := HY3.out.trans ((HB5.out.trans (hb6.mono HB5.out.size)).mono HY3.out.size)
            clear o1 o2 o3 hb2 bY6 hb6 hasm2 HOV6 HOA HOB HO5 m50 m51 m52 m53
            go_wp2_with fail
            refine hs6.mono ?_
            rintro e w3 ⟨rfl, hb3⟩
            have HB7 : Hid (Below wr.heap.size wr w3) := HB6.out.trans (hb3.mono HB6.out.size)
            clear hb3 hs6
            go_wp2_with fail
            refine (live_any _ (HT.out.below HB7.out) (J.Tab.below HJ.out HB7.out)).mono ?_
            rintro e y9 ⟨rfl, hb9⟩
            have HB9 : Hid _ := hb9
            clear hb9
            go_wp2_with fail
            go_ret
            exact ⟨rfl, HB7.out.trans (HB9.out.mono HB7.out.size)⟩
          · have hcm2 : ¬ m = c := fun e => hcm e.symm
            obtain ⟨ps, hps, hpo, hpc⟩ := its_cells HV.out
            have hpl : ps.length = k := by have := congrArg List.length hps; rw [List.length_map, HCT.out] at this; exact this
            have HC1 : Hid (∀ j u, ((ps.take m).flatMap pwC)[j]? = some u → wr.cell? (ad.add j) = some u) := fun j u hu => hpc ad rfl j u (by
              rw [← List.take_append_drop m ps, List.flatMap_append, List.getElem?_append_left (List.getElem?_eq_some_iff.1 hu).1]; exact hu)
            have HC2 : Hid (∀ j u, ((ps.drop m).flatMap pwC)[j]? = some u → wr.cell? (ad.add (m * 7 + j)) = some u) := fun j u hu => hpc ad rfl (m * 7 + j) u (by
              have e : ((ps.take m).flatMap pwC).length = m * 7 := by rw [its_len, List.length_take]; congr 1; omega
              rw [← List.take_append_drop m ps, List.flatMap_append, List.getElem?_append_right (by omega), e, show m * 7 + j - m * 7 = j by omega]; exact hu)
            have HL1 : Hid (((ps.take m).flatMap pwC).length = m * 7) := by show _ = _; rw [its_len, List.length_take]; congr 1; omega
            have HL2 : Hid (((ps.drop m).flatMap pwC).length = (k - m) * 7) := by show _ = _; rw [its_len, List.length_drop]; congr 1; omega
            have HPO : Hid (∀ p ∈ ps, PwOk wr p) := hpo
            have HPT : Hid (ps.map (·.t) = ts) := hps
            have HPL : Hid (ps.length = k) := hpl
            clear hps hpo hpc hpl
            obtain ⟨it, hit, ht0, ht1, ht2⟩ := info_parts infoIt
            have HA3 : Hid (∀ j u, ((ps.drop m).flatMap pwC)[j]? = some u → wr.cell? ((ad.add (m * 7)).add j) = some u) := fun j u hu => by have := HC2.out j u hu; rwa [show (ad.add (m * 7)).add j = ad.add (m * 7 + j) from Addr.add_add ..]
            go_wp2_with (first | (at_builtin; refine O.wpList_append_more rfl _ _ 22 rfl wr.heap.size 44 it _ 7 80 Tryz.underlying22 hit ht0 ht1 ht2 rfl (by decide) (v := .slice none 0 0) (n := 0) (xs := []) rfl (World.ownsRow_nil _ _ _ _) (Nat.le_refl _) (a := some ad) (l := m) (c := c) (cs := (ps.take m).flatMap pwC) rfl (by intro e; cases e) HL1.out (fun ad' e => by cases e; exact HC1.out) (fun u hu => its_one hu) (show (0 + m) * 80 ≤ 140737488355328 by omega) (show 0 + m ≤ 140737488355328 by omega) ?_; intro v1 Y1 ho1 hg1 hat1; simp only [List.nil_append, Nat.zero_add] at ho1; obtain ⟨a1, c1, rfl⟩ := own_slice ho1; have HY1 : Hid (Below wr.heap.size wr Y1) := (Below.refl _ _).grown hg1 (Nat.le_refl _) (by simp [Value.ownBlock]); have HO1 : Hid (Y1.ownsRow wr.heap.size 44 7 (.slice a1 m c1) m ((ps.take m).flatMap pwC)) := ho1; clear ho1 hg1 hat1) | (at_builtin; refine O.wpList_append_more rfl _ _ 22 rfl wr.heap.size 44 it _ 7 80 Tryz.underlying22 hit ht0 ht1 ht2 rfl (by decide) (n := m) (xs := (ps.take m).flatMap pwC) (v := .slice a1 m c1) rfl (O.row_below HO1.out (bl1 _ _)) (Nat.le_trans HY1.out.size (bl1 _ _).size) (a := some ⟨Y1.heap.size, 0, none⟩) (l := 1) (c := 1) (cs := pwC (lblP s)) rfl (by intro e; cases e) rfl (fun ad' e j u hu => by cases e; rw [Addr.add_lit, Nat.zero_add]; exact cellA rfl (by simpa [pwC, lblP, lbl, str_eq] using hu)) (fun u hu => pwC_one hu) (show (m + 1) * 80 ≤ 140737488355328 by omega) (show m + 1 ≤ 140737488355328 by omega) ?_; intro v2 Y2 ho2 hg2 hat2; obtain ⟨a2, c2, rfl⟩ := own_slice ho2; have HY2 : Hid (Below wr.heap.size wr Y2) := un_low HY1.out HO1.out hg2; have HO2 : Hid (Y2.ownsRow wr.heap.size 44 7 (.slice a2 (m + 1) c2) (m + 1) ((ps.take m).flatMap pwC ++ pwC (lblP s))) := ho2; clear ho2 hg2 hat2) | (at_builtin; refine O.wpList_append_more rfl _ _ 22 rfl wr.heap.size 44 it _ 7 80 Tryz.underlying22 hit ht0 ht1 ht2 rfl (by decide) (v := .slice a2 (m + 1) c2) (n := m + 1) (xs := (ps.take m).flatMap pwC ++ pwC (lblP s)) rfl HO2.out HY2.out.size (a := some (ad.add (m * 7))) (l := k - m) (c := c - m) (cs := (ps.drop m).flatMap pwC) rfl (by intro e; cases e) HL2.out (fun ad' e j u hu => by cases e; exact O.cell_thru HY2.out (HA3.out j u hu)) (fun u hu => its_one hu) (show (m + 1 + (k - m)) * 80 ≤ 140737488355328 by omega) (show m + 1 + (k - m) ≤ 140737488355328 by omega) ?_; intro v3 Y3 ho3 hg3 hat3; rw [show m + 1 + (k - m) = k + 1 from by omega] at ho3; obtain ⟨a3, c3, rfl⟩ := own_slice ho3; have HY3 : Hid (Below wr.heap.size wr Y3) := un_low2 HY2.out HO2.out hg3; have HO3 : Hid (Y3.ownsRow wr.heap.size 44 7 (.slice a3 (k + 1) c3) (k + 1) (((ps.take m).flatMap pwC ++ pwC (lblP s)) ++ (ps.drop m).flatMap pwC)) := ho3; clear ho3 hg3 hat3) | fail)
            clear hm hz1 hz2 hneg
            have HI3 : Hid (ItsV Y3 a3 (k + 1) c3 (Z.put m (lbl s) ts)) := un_its HY3.out HPO.out HPT.out (by unfold maxLen; omega) (by rw [HPL.out]; exact hml) (by rw [HPL.out]) HO3.out
            have HAS : Hid (Z.asm (Z.put m (lbl s) ts) = Z.asm ts) := un_asm HNM.out HUN.out (by rw [HCT.out]; exact hml) (by rw [HCT.out]; omega)
            have HF : Hid (OFit (Z.asm ts).1) := (Z.asm_may (fun t hm => (HV.out.fit t hm).2)).1
            have hasm1 := asm_any (HV.out.below HY3.out) (HT.out.below HY3.out) (J.Tab.below HJ.out HY3.out)
            have HAS2 : Hid (∀ W, Below Y3.heap.size Y3 W → Calls Tryz.prog 12 #[.slice a3 (k + 1) c3] W (AsmOut W (Z.asm ts))) := fun W hb => by
              rw [← HAS.out]; exact asm_any (HI3.out.below hb) ((HT.out.below HY3.out).below hb) (J.Tab.below (J.Tab.below HJ.out HY3.out) hb)
            obtain ⟨⟨o, zz⟩, hr⟩ : ∃ r, Z.asm ts = r := ⟨_, rfl⟩
            rw [hr] at hasm1 HF HAS2
            simp only at HF
            clear hr HAS HI3 HO3 HO2 HO1 HPT HPO HPL HL1 HL2
            refine hasm1.mono ?_
            rintro e w1 ⟨vd, vs, vr, rfl, o1, o2, o3, hb1⟩
            simp only at o1 o2 o3 ⊢
            have HOV : Hid (O.ObjV w1 (.agg #[.string o.code, vd, vs, vr]) o) := objV_of HF.out o1 o2 o3
            have HN1 : Hid (o.data.length ≤ maxLen ∧ o.syms.length ≤ maxLen ∧ o.rels.length ≤ maxLen) := by
              have q : ∀ {ty k n B : Nat} {v : Value} {cs : List Value}, w1.ownsRow B ty k v n cs → n ≤ maxLen := fun h => by
                rcases h.2 with ⟨-, e⟩ | ⟨g, cap, cur, -, -, -, h1, h2, -⟩
                · omega
                · omega
              exact ⟨q o1, q o2, q o3⟩
            obtain ⟨ad5, cd5, rfl⟩ := own_slice o1
            obtain ⟨as5, cs5, rfl⟩ := own_slice o2
            obtain ⟨ar5, cr5, rfl⟩ := own_slice o3
            obtain ⟨Y5, hY5⟩ : ∃ Y5, w1.alloc (.cells #[.string o.code, .slice ad5 o.data.length cd5, .slice as5 o.syms.length cs5, .slice ar5 o.rels.length cr5] 30) = Y5 := ⟨_, rfl⟩
            have bY5 : Below w1.heap.size w1 Y5 := by subst hY5; exact bl1 _ _
            have m50 : Y5.cell? ⟨w1.heap.size, 0, none⟩ = some (.string o.code) := by subst hY5; exact cellA rfl rfl
            have m51 : Y5.cell? ⟨w1.heap.size, 1, none⟩ = some (.slice ad5 o.data.length cd5) := by subst hY5; exact cellA rfl rfl
            have m52 : Y5.cell? ⟨w1.heap.size, 2, none⟩ = some (.slice as5 o.syms.length cs5) := by subst hY5; exact cellA rfl rfl
            have m53 : Y5.cell? ⟨w1.heap.size, 3, none⟩ = some (.slice ar5 o.rels.length cr5) := by subst hY5; exact cellA rfl rfl
            have HB5 : Hid (Below Y3.heap.size Y3 Y5) := hb1.trans (bY5.mono hb1.size)
            have HO5 : Hid _ := HOV.out.below bY5
            have HS5 : Hid (w1.heap.size < Y5.heap.size) := by subst hY5; show _ < _; simp
            have hasm2 := HAS2.out Y5 HB5.out
            clear o1 o2 o3 hb1 hasm1 bY5 HOV
            generalize hld : o.data.length = ld at m50 m51 m52 m53 hY5 HO5 HN1 ⊢
            generalize hls : o.syms.length = ls at m50 m51 m52 m53 hY5 HO5 HN1 ⊢
            generalize hlr : o.rels.length = lr at m50 m51 m52 m53 hY5 HO5 HN1 ⊢
            generalize hoc : o.code = oc at m50 m51 m52 m53 hY5 HO5 HN1 ⊢
            have HLD : Hid (o.data.length = ld ∧ o.syms.length = ls ∧ o.rels.length = lr ∧ o.code = oc) := ⟨hld, hls, hlr, hoc⟩
            clear hld hls hlr hoc
            go_wp2_with fail
            refine hasm2.mono ?_
            rintro e w2 ⟨vd, vs, vr, rfl, o1, o2, o3, hb2⟩
            simp only at o1 o2 o3 ⊢
            have HOV6 : Hid (O.ObjV w2 (.agg #[.string o.code, vd, vs, vr]) o) := objV_of HF.out o1 o2 o3
            rw [HLD.out.1] at o1
            rw [HLD.out.2.1] at o2
            rw [HLD.out.2.2.1] at o3
            rw [HLD.out.2.2.2] at HOV6
            simp only [HLD.out.2.2.2]
            obtain ⟨ad6, cd6, rfl⟩ := own_slice o1
            obtain ⟨as6, cs6, rfl⟩ := own_slice o2
            obtain ⟨ar6, cr6, rfl⟩ := own_slice o3
            obtain ⟨Y6, hY6⟩ : ∃ Y6, w2.alloc (.cells #[.string oc, .slice ad6 ld cd6, .slice as6 ls cs6, .slice ar6 lr cr6] 30) = Y6 := ⟨_, rfl⟩
            have bY6 : Below w2.heap.size w2 Y6 := by subst hY6; exact bl1 _ _
            have m60 : Y6.cell? ⟨w2.heap.size, 0, none⟩ = some (.string oc) := by subst hY6; exact cellA rfl rfl
            have m61 : Y6.cell? ⟨w2.heap.size, 1, none⟩ = some (.slice ad6 ld cd6) := by subst hY6; exact cellA rfl rfl
            have m62 : Y6.cell? ⟨w2.heap.size, 2, none⟩ = some (.slice as6 ls cs6) := by subst hY6; exact cellA rfl rfl
            have m63 : Y6.cell? ⟨w2.heap.size, 3, none⟩ = some (.slice ar6 lr cr6) := by subst hY6; exact cellA rfl rfl
            have hb6 : Below Y5.heap.size Y5 Y6 := hb2.trans (bY6.mono hb2.size)
            have n50 := O.cell_thru hb6 m50
            have n51 := O.cell_thru hb6 m51
            have n52 := O.cell_thru hb6 m52
            have n53 := O.cell_thru hb6 m53
            have HOA : Hid _ := HO5.out.below hb6
            have HOB : Hid _ := HOV6.out.below bY6
            have hs6 := O.same_any HOA.out HOB.out (by rw [HLD.out.1]; exact HN1.out.1) (by rw [HLD.out.2.1]; exact HN1.out.2.1) (by rw [HLD.out.2.2.1]; exact HN1.out.2.2) true (by simp)
            have HB6 : Hid (Below wr.heap.size wr Y6) := HY3.out.trans ((HB5.out.trans (hb6.mono HB5.out.size)).mono HY3.out.size)
            clear o1 o2 o3 hb2 bY6 hb6 hasm2 HOV6 HOA HOB HO5 m50 m51 m52 m53
            go_wp2_with fail
            refine hs6.mono ?_
            rintro e w3 ⟨rfl, hb3⟩
            have HB7 : Hid (Below wr.heap.size wr w3) := HB6.out.trans (hb3.mono HB6.out.size)
            clear hb3 hs6
            go_wp2_with fail
            refine (live_any _ (HT.out.below HB7.out) (J.Tab.below HJ.out HB7.out)).mono ?_
            rintro e y9 ⟨rfl, hb9⟩
            have HB9 : Hid _ := hb9
            clear hb9
            go_wp2_with fail
            go_ret
            exact ⟨rfl, HB7.out.trans (HB9.out.mono HB7.out.size)⟩

end Go.Proofs.YtdlepimdohhkaaaGreatDoor
