/- A label that nobody names changes nothing: the mathematics. -/
import Derived.Test.YtgjingleolhkbaaGreatDoorMGi
import Derived.Test.YtgjingleolhkbaaGreatDoorMGg
import Derived.Test.YtgjingleolhkbaaGreatDoorAsMay
import Derived.Test.YtgjingleolhkbaaGreatDoorAsSaid
import Derived.Laws.BytesArg
import Derived.Deep.AppendSrc
namespace Go.Proofs.YtgjingleolhkbaaGreatDoor
namespace Z
open Go.RowKit
set_option linter.unusedVariables false
set_option linter.unusedSimpArgs false

/-- Something between. -/
def put {α : Type} (m : Nat) (x : α) (l : List α) : List α := l.take m ++ x :: l.drop m
/-- Where a place goes. -/
def mv (m i : Nat) : Nat := if i < m then i else i + 1
theorem put_len {α : Type} {m : Nat} (x : α) {l : List α} (h : m ≤ l.length) : (put m x l).length = l.length + 1 := by
  unfold put
  rw [List.length_append, List.length_cons, List.length_take, List.length_drop]
  omega
theorem put_get {α : Type} {m : Nat} (x : α) {l : List α} (h : m ≤ l.length) (i : Nat) : (put m x l)[mv m i]? = l[i]? := by
  unfold put mv
  split
  · next hi =>
    rw [List.getElem?_append_left (by rw [List.length_take]; omega), List.getElem?_take, if_pos hi]
  · next hi =>
    rw [List.getElem?_append_right (by rw [List.length_take]; omega), List.length_take, Nat.min_eq_left h]
    obtain ⟨d, rfl⟩ : ∃ d, i = m + d := ⟨i - m, by omega⟩
    rw [show m + d + 1 - m = d + 1 from by omega, List.getElem?_cons_succ, List.getElem?_drop]
theorem put_getD {α : Type} {m : Nat} (x d : α) {l : List α} (h : m ≤ l.length) (i : Nat) : (put m x l).getD (mv m i) d = l.getD i d := by
  simp only [List.getD]
  rw [put_get x h]
theorem put_at {α : Type} {m : Nat} (x : α) {l : List α} (h : m ≤ l.length) : (put m x l)[m]? = some x := by
  unfold put
  rw [List.getElem?_append_right (by rw [List.length_take]; omega), List.length_take, Nat.min_eq_left h, Nat.sub_self]
  rfl
theorem put_map {α β : Type} (f : α → β) (m : Nat) (x : α) (l : List α) : (put m x l).map f = put m (f x) (l.map f) := by
  unfold put
  rw [List.map_append, List.map_cons, List.map_take, List.map_drop]
theorem put_set {α : Type} {m : Nat} (x : α) {l : List α} (h : m ≤ l.length) (i : Nat) (v : α) : (put m x l).set (mv m i) v = put m x (l.set i v) := by
  have hl : m ≤ (l.set i v).length := by rw [List.length_set]; exact h
  apply List.ext_getElem?
  intro j
  by_cases hj : j = m
  · subst hj
    rw [put_at x hl, List.getElem?_set_ne (by unfold mv; split <;> omega), put_at x h]
  · obtain ⟨k, rfl⟩ : ∃ k, j = mv m k := by
      by_cases h1 : j < m
      · exact ⟨j, by unfold mv; rw [if_pos h1]⟩
      · exact ⟨j - 1, by unfold mv; rw [if_neg (by omega)]; omega⟩
    rw [put_get x hl]
    by_cases e : i = k
    · subst e
      rw [List.getElem?_set, List.getElem?_set, if_pos rfl, if_pos rfl, put_len x h]
      have : mv m i < l.length + 1 ↔ i < l.length := by unfold mv; split <;> omega
      simp only [this]
    · rw [List.getElem?_set_ne (by unfold mv; split <;> split <;> omega), List.getElem?_set_ne e, put_get x h]
theorem sz_zero : sz 0 = 0 := by decide
theorem beg_put {m : Nat} {ops : List Int} (h : m ≤ ops.length) (i : Nat) : beg (put m 0 ops) (mv m i) = beg ops i := by
  unfold beg put mv
  split
  · next hi =>
    rw [List.take_append_of_le_length (by rw [List.length_take]; omega), List.take_take, Nat.min_eq_left (by omega)]
  · next hi =>
    obtain ⟨d, rfl⟩ : ∃ d, i = m + d := ⟨i - m, by omega⟩
    rw [List.take_append, List.take_take, List.length_take, Nat.min_eq_left h, show m + d + 1 - m = d + 1 from by omega, List.take_succ_cons, Nat.min_eq_right (by omega), List.map_append, List.map_cons, List.sum_append, List.sum_cons, sz_zero]
    conv => rhs; rw [show ops = ops.take m ++ ops.drop m from (List.take_append_drop m ops).symm]
    rw [List.take_append, List.take_take, List.length_take, Nat.min_eq_left h, Nat.min_eq_right (by omega), show m + d - m = d from by omega, List.map_append, List.sum_append]
    omega
theorem tot_put {m : Nat} {ops : List Int} (h : m ≤ ops.length) : tot (put m 0 ops) = tot ops := by
  unfold tot
  rw [put_len _ h]
  have := beg_put h ops.length
  unfold mv at this
  rwa [if_neg (by omega)] at this
theorem ats_put {m : Nat} {ops : List Int} (h : m ≤ ops.length) (i : Nat) : (ats (put m 0 ops)).getD (mv m i) 0 = (ats ops).getD i 0 := by
  by_cases hi : i < ops.length
  · rw [ats_at _ (by rw [put_len _ h]; unfold mv; split <;> omega), ats_at _ hi, beg_put h]
  · simp only [List.getD]
    rw [List.getElem?_eq_none (by rw [ats_len, put_len _ h]; unfold mv; split <;> omega), List.getElem?_eq_none (by rw [ats_len]; omega)]
def mv2 (m : Nat) (j : Nat × Nat) : Nat × Nat := (mv m j.1, mv m j.2)
theorem far_put {m : Nat} {o bs cs : List Int} (h : m ≤ o.length) (ha : ∀ i, cs.getD (mv m i) 0 = bs.getD i 0) (i k : Nat) : far (put m 0 o) cs (mv m i) (mv m k) = far o bs i k := by
  unfold far
  rw [ha, ha, put_getD _ _ h]
theorem tooFar_put {m : Nat} {L : X.It} {ts : List X.It} {o bs cs : List Int} (hm : m ≤ ts.length) (h : m ≤ o.length) (ha : ∀ i, cs.getD (mv m i) 0 = bs.getD i 0) (j : Nat × Nat) : tooFar (put m L ts) (put m 0 o) cs (mv2 m j) = tooFar ts o bs j := by
  unfold tooFar mv2
  simp only
  rw [far_put h ha, put_getD _ _ h, put_getD _ _ hm]
theorem lens_put {m : Nat} {L : X.It} {ts : List X.It} {bs cs : List Int} (hm : m ≤ ts.length) (ha : ∀ i, cs.getD (mv m i) 0 = bs.getD i 0) : ∀ (l : List (Nat × Nat)) (o : List Int), m ≤ o.length → lens (put m L ts) cs (l.map (mv2 m)) (put m 0 o) = put m 0 (lens ts bs l o)
  | [], o, _ => rfl
  | j :: r, o, h => by
    rw [List.map_cons, lens, lens, tooFar_put hm h ha]
    split
    · have e : (put m L ts).getD (mv2 m j).1 X.noIt = ts.getD j.1 X.noIt := put_getD _ _ hm _
      rw [e]
      have e2 : (put m 0 o).set (mv2 m j).1 (ts.getD j.1 X.noIt).op = put m 0 (o.set j.1 (ts.getD j.1 X.noIt).op) := put_set _ h _ _
      rw [e2]
      exact lens_put hm ha r _ (by rw [List.length_set]; exact h)
    · exact lens_put hm ha r _ h
theorem anyFar_put {m : Nat} {L : X.It} {ts : List X.It} {o : List Int} (hm : m ≤ ts.length) (hj : js (put m L ts) = (js ts).map (mv2 m)) (h : m ≤ o.length) : anyFar (put m L ts) (put m 0 o) = anyFar ts o := by
  unfold anyFar
  rw [hj, List.any_map]
  congr 1
  funext j
  exact tooFar_put hm h (ats_put h) j
theorem settle_put {m : Nat} {L : X.It} {ts : List X.It} (hm : m ≤ ts.length) (hj : js (put m L ts) = (js ts).map (mv2 m)) : ∀ (n : Nat) (o : List Int), m ≤ o.length → settle (put m L ts) n (put m 0 o) = put m 0 (settle ts n o)
  | 0, o, _ => rfl
  | n + 1, o, h => by
    rw [settle, settle, anyFar_put hm hj h, hj, lens_put hm (ats_put h) _ _ h]
    split
    · exact settle_put hm hj n _ (by rw [lens_len]; exact h)
    · rfl
theorem settle_more (ts : List X.It) : ∀ (n : Nat) (o : List Int), anyFar ts (settle ts n o) = false → settle ts (n + 1) o = settle ts n o
  | 0, o, h => by
    have h' : anyFar ts o = false := h
    show (if anyFar ts o = true then _ else o) = o
    rw [h']
    rfl
  | n + 1, o, h => by
    rw [settle] at h
    rw [settle]
    split
    · next ha =>
      rw [if_pos ha] at h
      rw [settle_more ts n _ h]
      conv => rhs; rw [settle, if_pos ha]
    · next ha =>
      rw [settle, if_neg ha]
/-- A label that nobody names. -/
structure Un (m : Nat) (L : X.It) (ts : List X.It) : Prop where
  m : m ≤ ts.length
  k : L.kind = 1
  op : L.op = 0
  ws : L.words = []
  n : ∀ t ∈ ts, t.name ≠ L.name
section
variable {m : Nat} {L : X.It} {ts : List X.It}
theorem lab_put (h : Un m L ts) {nm : X.By} (hn : nm ≠ L.name) : lab (put m L ts) nm = (lab ts nm).map (mv m) := by
  unfold lab put
  have hL : isLab nm L = false := by
    have : decide (L.name = nm) = false := decide_eq_false fun e => hn e.symm
    unfold isLab
    rw [this, Bool.and_false]
  have hl : (ts.take m).length = m := by rw [List.length_take]; exact Nat.min_eq_left h.m
  conv => rhs; rw [show ts = ts.take m ++ ts.drop m from (List.take_append_drop m ts).symm]
  rw [List.findIdx?_append, List.findIdx?_append, List.findIdx?_cons, hL, hl]
  cases h1 : (ts.take m).findIdx? (isLab nm) with
  | some i =>
    have hi := (List.findIdx?_eq_some_iff_getElem.1 h1).1
    simp [mv]
    omega
  | none =>
    cases h2 : (ts.drop m).findIdx? (isLab nm) with
    | none => simp
    | some j =>
      have : mv m (j + m) = j + 1 + m := by unfold mv; rw [if_neg (by omega)]; omega
      simp [this]
theorem labNone_put (h : Un m L ts) {nm : X.By} (hn : nm ≠ L.name) : (lab (put m L ts) nm).isNone = (lab ts nm).isNone := by
  rw [lab_put h hn]
  cases lab ts nm <;> rfl
theorem labN_put (h : Un m L ts) {nm : X.By} (hn : nm ≠ L.name) (hs : (lab ts nm).isNone = false) : labN (put m L ts) nm = mv m (labN ts nm) := by
  unfold labN
  rw [lab_put h hn]
  cases h1 : lab ts nm with
  | none => rw [h1] at hs; cases hs
  | some i => rfl
theorem Un.jump (h : Un m L ts) : jump L = false := by unfold Z.jump shortOf; rw [h.op]; rfl
theorem Un.shown (h : Un m L ts) : shown L = false := by unfold Z.shown; rw [h.k]; rfl
theorem Un.place (h : Un m L ts) : place L = true := by unfold Z.place; rw [h.k]; rfl
theorem mem_put {α : Type} {m : Nat} {x : α} {l : List α} {y : α} : y ∈ put m x l ↔ y = x ∨ y ∈ l := by
  unfold put
  rw [List.mem_append, List.mem_cons]
  constructor
  · rintro (e | e | e)
    · exact .inr (List.mem_of_mem_take e)
    · exact .inl e
    · exact .inr (List.mem_of_mem_drop e)
  · rintro (e | e)
    · exact .inr (.inl e)
    · rw [← List.take_append_drop m l, List.mem_append] at e
      rcases e with e | e
      · exact .inl e
      · exact .inr (.inr e)
theorem filter_put_no {α : Type} {m : Nat} {x : α} {l : List α} {p : α → Bool} (h : p x = false) : (put m x l).filter p = l.filter p := by
  unfold put
  rw [List.filter_append, List.filter_cons_of_neg (by simp [h]), ← List.filter_append, List.take_append_drop]
theorem unk_put (h : Un m L ts) : unk (put m L ts) = unk ts := by
  unfold unk
  rw [Bool.eq_iff_iff, List.any_eq_true, List.any_eq_true]
  constructor
  · rintro ⟨t, ht, e⟩
    rcases mem_put.1 ht with rfl | ht
    · rw [h.shown, h.jump] at e; simp at e
    · rw [labNone_put h (h.n t ht)] at e
      exact ⟨t, ht, e⟩
  · rintro ⟨t, ht, e⟩
    refine ⟨t, mem_put.2 (.inr ht), ?_⟩
    rw [labNone_put h (h.n t ht)]
    exact e
theorem unl_put (h : Un m L ts) : unl place (put m L ts) = unl place ts := by
  have hp : (nms place (put m L ts)).Perm (L.name :: nms place ts) := by
    have h1 : (put m L ts).Perm (L :: ts) := by
      unfold put
      refine List.perm_middle.trans ?_
      rw [List.take_append_drop]
    have h2 := (h1.filter place).map (·.name)
    rw [List.filter_cons_of_pos h.place, List.map_cons] at h2
    exact h2
  have hno : L.name ∉ nms place ts := by
    intro e
    obtain ⟨t, ht, e⟩ := List.mem_map.1 e
    exact h.n t (List.mem_filter.1 ht).1 e
  unfold unl
  rw [decide_eq_decide, hp.nodup_iff, List.nodup_cons]
  exact ⟨fun e => e.2, fun e => ⟨hno, e⟩⟩
theorem nameE_put (h : Un m L ts) : nameE (put m L ts) = nameE ts := by
  unfold nameE
  rw [unl_put h, unk_put h, show unl shown (put m L ts) = unl shown ts from by unfold unl nms; rw [filter_put_no h.shown]]
theorem itsOk_put (h : Un m L ts) (hL : X.itOk L = true) (hl : ts.length < 20000) : X.itsOk (put m L ts) = X.itsOk ts := by
  rw [Bool.eq_iff_iff, X.itsOk_iff, X.itsOk_iff, put_len _ h.m]
  constructor
  · rintro ⟨-, e⟩
    exact ⟨by omega, fun t ht => e t (mem_put.2 (.inr ht))⟩
  · rintro ⟨-, e⟩
    refine ⟨by omega, fun t ht => ?_⟩
    rcases mem_put.1 ht with rfl | ht
    · exact hL
    · exact e t ht
end
end Z
end Go.Proofs.YtgjingleolhkbaaGreatDoor

/- A label that nobody names changes nothing: the object. -/
namespace Go.Proofs.YtgjingleolhkbaaGreatDoor
namespace Z
open Go.RowKit
set_option linter.unusedVariables false
set_option linter.unusedSimpArgs false
section
variable {m : Nat} {L : X.It} {ts : List X.It}
theorem unk_some (hu : unk ts = false) {t : X.It} (ht : t ∈ ts) (h : shown t = true ∨ jump t = true) : (lab ts t.name).isNone = false := by
  unfold unk at hu
  rw [List.any_eq_false] at hu
  have := hu t ht
  cases h1 : (lab ts t.name).isNone with
  | false => rfl
  | true =>
    refine absurd ?_ this
    rw [h1]
    rcases h with e | e <;> simp [e]
theorem js_put (h : Un m L ts) (hu : unk ts = false) : js (put m L ts) = (js ts).map (mv2 m) := by
  have hl : (ts.take m).length = m := by rw [List.length_take]; exact Nat.min_eq_left h.m
  have hlab : ∀ t ∈ ts, jump t = true → labN (put m L ts) t.name = mv m (labN ts t.name) := fun t ht hj => labN_put h (h.n t ht) (unk_some hu ht (.inr hj))
  unfold js jumpsOf
  rw [List.map_map]
  have e1 : (put m L ts).zipIdx = (ts.take m).zipIdx ++ ((L, m) :: ((ts.drop m).zipIdx m).map fun p => (p.1, p.2 + 1)) := by
    unfold put
    rw [List.zipIdx_append, List.zipIdx_cons, hl, Nat.zero_add, List.zipIdx_succ]
  have e2 : ts.zipIdx = (ts.take m).zipIdx ++ (ts.drop m).zipIdx m := by
    conv => lhs; rw [show ts = ts.take m ++ ts.drop m from (List.take_append_drop m ts).symm]
    rw [List.zipIdx_append, hl, Nat.zero_add]
  rw [e1, e2, List.filter_append, List.filter_append, List.filter_cons_of_neg (by simp [h.jump]), List.map_append, List.map_append, List.filter_map, List.map_map]
  congr 1
  · refine List.map_congr_left fun p hp => ?_
    obtain ⟨hp1, hp2⟩ := List.mem_filter.1 hp
    have hm1 := List.mem_zipIdx hp1
    have ht : p.1 ∈ ts := by
      have := List.fst_mem_of_mem_zipIdx hp1
      exact List.mem_of_mem_take this
    have hi : p.2 < m := by
      have := hm1.2.1
      omega
    show (p.2, labN (put m L ts) p.1.name) = mv2 m (p.2, labN ts p.1.name)
    rw [hlab _ ht hp2]
    unfold mv2
    simp only
    rw [show mv m p.2 = p.2 from by unfold mv; rw [if_pos hi]]
  · refine List.map_congr_left fun p hp => ?_
    obtain ⟨hp1, hp2⟩ := List.mem_filter.1 hp
    have hm1 := List.mem_zipIdx hp1
    have ht : p.1 ∈ ts := by
      have := List.fst_mem_of_mem_zipIdx hp1
      exact List.mem_of_mem_drop this
    have hi : m ≤ p.2 := hm1.1
    show (p.2 + 1, labN (put m L ts) p.1.name) = mv2 m (p.2, labN ts p.1.name)
    rw [hlab _ ht hp2]
    unfold mv2
    simp only
    rw [show mv m p.2 = p.2 + 1 from by unfold mv; rw [if_neg (by omega)]]
theorem ops_put (h : Un m L ts) (hu : unk ts = false) : ops (put m L ts) = put m 0 (ops ts) := by
  have hj := js_put h hu
  have h0 : (put m L ts).map op0 = put m 0 (ts.map op0) := by
    rw [put_map]
    congr 1
    unfold op0
    rw [h.jump, h.op]
    rfl
  have hl : m ≤ (ts.map op0).length := by rw [List.length_map]; exact h.m
  unfold ops
  rw [put_len _ h.m, h0, settle_put h.m hj _ _ hl, settle_more ts _ _ (ops_far ts)]
theorem opsLen (h : Un m L ts) : m ≤ (ops ts).length := by rw [ops_len]; exact h.m
theorem isOpen_put (h : Un m L ts) {t : X.It} (ht : t ∈ ts) : isOpen (put m L ts) t = isOpen ts t := by
  unfold isOpen
  rw [labNone_put h (h.n t ht)]
theorem isOpen_own (h : Un m L ts) (us : List X.It) : isOpen us L = false := by
  unfold isOpen
  rw [h.op]
  rfl
theorem placeOf_put (h : Un m L ts) {o : List Int} (ho : m ≤ o.length) {nm : X.By} (hn : nm ≠ L.name) (hs : (lab ts nm).isNone = false) : placeOf (put m L ts) (put m 0 o) nm = placeOf ts o nm := by
  unfold placeOf
  rw [labN_put h hn hs, ats_put ho]
theorem fits_put (h : Un m L ts) (hu : unk ts = false) : fits (put m L ts) = fits ts := by
  have h1 : wordsN (put m L ts) = wordsN ts := by
    unfold wordsN
    rw [put_map, h.ws]
    unfold put
    rw [List.sum_append, List.sum_cons, List.length_nil, Nat.zero_add, ← List.sum_append, List.take_append_drop]
  have h2 : symsN (put m L ts) = symsN ts := by
    unfold symsN
    rw [filter_put_no (by unfold isSym; rw [h.shown, h.k]; rfl)]
  have h3 : opensN (put m L ts) (put m L ts) = opensN ts ts := by
    unfold opensN
    rw [filter_put_no (isOpen_own h _)]
    congr 1
    exact List.filter_congr fun t ht => isOpen_put h ht
  unfold fits
  rw [h1, h2, h3, ops_put h hu, tot_put (opsLen h)]
theorem symsOk_put (h : Un m L ts) (hu : unk ts = false) : symsOk (put m L ts) = symsOk ts := by
  have key : ∀ t ∈ ts, standAt (put m L ts) t = standAt ts t := fun t ht => by
    unfold standAt
    cases hs : shown t with
    | false => rfl
    | true => rw [ops_put h hu, placeOf_put h (opsLen h) (h.n t ht) (unk_some hu ht (.inl hs)), tot_put (opsLen h)]
  unfold symsOk
  rw [Bool.eq_iff_iff, List.all_eq_true, List.all_eq_true]
  constructor
  · intro e t ht
    rw [← key t ht]
    exact e t (mem_put.2 (.inr ht))
  · intro e t ht
    rcases mem_put.1 ht with rfl | ht
    · unfold standAt; rw [h.shown]; rfl
    · rw [key t ht]; exact e t ht
theorem far_any (h : Un m L ts) (hu : unk ts = false) (hok : ∀ t ∈ ts, X.itOk t = true) {k : Nat} (hk : k < ts.length) (hkd : (ts.getD k X.noIt).kind = 2) : codeN (put m L ts) (put m 0 (ops ts)) (mv m k) = codeN ts (ops ts) k := by
  have ht : ts.getD k X.noIt ∈ ts := by simp [List.getD, hk]
  unfold codeN
  rw [put_getD _ _ h.m, isOpen_put h ht]
  generalize ts.getD k X.noIt = t at *
  by_cases ho : isOpen ts t = true
  · rw [if_pos ho, if_pos ho]
  rw [if_neg ho, if_neg ho]
  by_cases hn : t.name = []
  · rw [if_neg (by simpa using hn), if_neg (by simpa using hn)]
  rw [if_pos hn, if_pos hn]
  have hs : (lab ts t.name).isNone = false := by
    rcases X.itOk_cases (hok t ht) with ⟨-, hins, -⟩ | ⟨e, -⟩ | ⟨e, -⟩
    · obtain ⟨o0, o1, hrow, hnm, hnm2, -, -, -, -, -, hno⟩ := X.insOk_split hins
      have hto : t.op = ((t.op.toNat : Nat) : Int) := by omega
      obtain ⟨f1, f2, f3, f4, f5, f6, f7⟩ := rowF (k := t.op.toNat) (by omega) hrow
      have hr : 19 ≤ t.op.toNat ∧ t.op.toNat ≤ 23 := f5.1 (by rw [hnm]; simpa using hn)
      unfold isOpen at ho
      simp only [Bool.or_eq_true, Bool.and_eq_true, decide_eq_true_eq, not_or, not_and] at ho
      by_cases e : t.op = 23
      · have := ho.2 e
        cases hh : (lab ts t.name).isNone with
        | false => rfl
        | true => exact absurd hh this
      · exact unk_some hu ht (.inr ((jump_iff t).2 (by omega)))
    · rw [hkd] at e; simp at e
    · rw [hkd] at e; simp at e
  rw [labN_put h (h.n t ht) hs, far_put (opsLen h) (ats_put (opsLen h))]
theorem stepO_put (h : Un m L ts) (hu : unk ts = false) (hok : ∀ t ∈ ts, X.itOk t = true) {k : Nat} (hk : k < ts.length) (s : O.ObjD) : stepO (put m L ts) (put m 0 (ops ts)) s (mv m k) = stepO ts (ops ts) s k := by
  have ht : ts.getD k X.noIt ∈ ts := by simp [List.getD, hk]
  have hc : (ts.getD k X.noIt).kind = 2 → codeV (put m L ts) (put m 0 (ops ts)) (mv m k) = codeV ts (ops ts) k := fun hkd => by
    unfold codeV
    rw [far_any h hu hok hk hkd, put_getD _ _ h.m, put_getD _ _ (opsLen h)]
  have hp : shown (ts.getD k X.noIt) = true → placeOf (put m L ts) (put m 0 (ops ts)) (ts.getD k X.noIt).name = placeOf ts (ops ts) (ts.getD k X.noIt).name := fun hs => placeOf_put h (opsLen h) (h.n _ ht) (unk_some hu ht (.inl hs))
  unfold stepO
  rw [put_getD _ _ h.m, isOpen_put h ht]
  generalize ts.getD k X.noIt = t at *
  by_cases h2 : t.kind = 2
  · rw [if_pos h2, if_pos h2, hc h2]
  rw [if_neg h2, if_neg h2]
  by_cases h3 : t.kind = 3
  · rw [if_pos h3, if_pos h3]
  rw [if_neg h3, if_neg h3]
  by_cases h4 : t.kind = 4
  · rw [if_pos h4, if_pos h4, hp (by unfold shown; rw [h4]; rfl)]
  rw [if_neg h4, if_neg h4]
  by_cases h5 : t.kind = 5
  · rw [if_pos h5, if_pos h5, hp (by unfold shown; rw [h5]; rfl)]
  rw [if_neg h5, if_neg h5]
theorem objTo_low (h : Un m L ts) (hu : unk ts = false) (hok : ∀ t ∈ ts, X.itOk t = true) : ∀ k, k ≤ m → objTo (put m L ts) (put m 0 (ops ts)) k = objTo ts (ops ts) k
  | 0, _ => rfl
  | k + 1, hk => by
    have hm := h.m
    rw [objTo_succ, objTo_succ, objTo_low h hu hok k (by omega)]
    have := stepO_put h hu hok (k := k) (by omega) (objTo ts (ops ts) k)
    unfold mv at this
    rwa [if_pos (by omega)] at this
theorem objTo_high (h : Un m L ts) (hu : unk ts = false) (hok : ∀ t ∈ ts, X.itOk t = true) : ∀ d, m + d ≤ ts.length → objTo (put m L ts) (put m 0 (ops ts)) (m + d + 1) = objTo ts (ops ts) (m + d)
  | 0, _ => by
    rw [Nat.add_zero, objTo_succ, objTo_low h hu hok m (Nat.le_refl m)]
    have e : (put m L ts).getD m X.noIt = L := by simp only [List.getD]; rw [put_at _ h.m]; rfl
    unfold stepO
    rw [e, h.k]
    rfl
  | d + 1, hd => by
    rw [objTo_succ, show m + (d + 1) = m + d + 1 from rfl, objTo_high h hu hok d (by omega), objTo_succ]
    have := stepO_put h hu hok (k := m + d) (by omega) (objTo ts (ops ts) (m + d))
    unfold mv at this
    rwa [if_neg (by omega)] at this
theorem obj_put (h : Un m L ts) (hu : unk ts = false) (hok : ∀ t ∈ ts, X.itOk t = true) : obj (put m L ts) = obj ts := by
  have hm := h.m
  unfold obj
  rw [ops_put h hu, put_len _ h.m]
  have := objTo_high h hu hok (ts.length - m) (by omega)
  rwa [show m + (ts.length - m) = ts.length from by omega] at this
/-- A label that nobody names changes nothing. -/
theorem asm_put (h : Un m L ts) (hL : X.itOk L = true) (hl : ts.length < 20000) : asm (put m L ts) = asm ts := by
  unfold asm
  rw [itsOk_put h hL hl, nameE_put h]
  by_cases h1 : X.itsOk ts = true
  · by_cases h2 : nameE ts = 0
    · have hu : unk ts = false := by
        unfold nameE at h2
        split at h2
        · split at h2
          · omega
          · next e => simpa using e
        · omega
      rw [fits_put h hu, symsOk_put h hu, obj_put h hu (X.itsOk_iff.1 h1).2]
    · rw [if_neg h2, if_neg h2]
  · rw [if_neg h1, if_neg h1]
end
end Z
end Go.Proofs.YtgjingleolhkbaaGreatDoor

/- What labels are called makes no difference: the mathematics. -/
namespace Go.Proofs.YtgjingleolhkbaaGreatDoor
namespace Z
open Go.RowKit
set_option linter.unusedVariables false
set_option linter.unusedSimpArgs false

/-- A name in the place of another. -/
def rho (old new nm : X.By) : X.By := if nm = old then new else nm
def ren (old new : X.By) (t : X.It) : X.It := { t with name := rho old new t.name }
/-- A name that nobody has, for one that only labels, jumps and calls have. -/
structure Nm (old new : X.By) (ts : List X.It) : Prop where
  o : X.name old = true
  n : X.name new = true
  free : ∀ t ∈ ts, t.name ≠ new
  k : ∀ t ∈ ts, t.name = old → t.kind ≠ 3 ∧ t.kind ≠ 4 ∧ t.kind ≠ 5 ∧ t.op ≠ 19
  l : ∃ t ∈ ts, t.kind = 1 ∧ t.name = old
theorem name_ne {s : X.By} (h : X.name s = true) : s ≠ [] := by
  rintro rfl
  simp [X.name] at h
section
variable {old new : X.By} {ts : List X.It}
theorem rho_inj {a b : X.By} (ha : a ≠ new) (hb : b ≠ new) : rho old new a = rho old new b ↔ a = b := by
  unfold rho
  by_cases h1 : a = old <;> by_cases h2 : b = old
  · rw [if_pos h1, if_pos h2, h1, h2]; simp
  · rw [if_pos h1, if_neg h2]
    exact ⟨fun e => absurd e.symm hb, fun e => absurd (e ▸ h1) h2⟩
  · rw [if_neg h1, if_pos h2]
    exact ⟨fun e => absurd e ha, fun e => absurd (e.symm ▸ h2) h1⟩
  · rw [if_neg h1, if_neg h2]
theorem ren_no {t : X.It} (h : t.name ≠ old) : ren old new t = t := by
  unfold ren rho
  rw [if_neg h]
theorem Nm.len (h : Nm old new ts) : (ts.map (ren old new)).length = ts.length := List.length_map _
theorem Nm.noIt (h : Nm old new ts) : ren old new X.noIt = X.noIt := ren_no fun e => name_ne h.o e.symm
theorem Nm.getD (h : Nm old new ts) (i : Nat) : (ts.map (ren old new)).getD i X.noIt = ren old new (ts.getD i X.noIt) := by
  simp only [List.getD, List.getElem?_map]
  cases ts[i]? with
  | none => exact h.noIt.symm
  | some t => rfl
theorem mem_getD {k : Nat} (hk : k < ts.length) : ts.getD k X.noIt ∈ ts := by simp [List.getD, hk]
theorem lab_ren (h : Nm old new ts) {nm : X.By} (hn : nm ≠ new) : lab (ts.map (ren old new)) (rho old new nm) = lab ts nm := by
  have key : ∀ l : List X.It, (∀ t ∈ l, t.name ≠ new) → (l.map (ren old new)).findIdx? (isLab (rho old new nm)) = l.findIdx? (isLab nm) := by
    intro l
    induction l with
    | nil => intro _; rfl
    | cons t l ih =>
      intro hl
      have e : isLab (rho old new nm) (ren old new t) = isLab nm t := by
        unfold isLab ren
        simp only
        congr 1
        exact decide_eq_decide.2 (rho_inj (hl t (by simp)) hn)
      rw [List.map_cons, List.findIdx?_cons, List.findIdx?_cons, e, ih fun x hx => hl x (by simp [hx])]
  exact key ts h.free
theorem lab_ren_of (h : Nm old new ts) {t : X.It} (ht : t ∈ ts) : lab (ts.map (ren old new)) (ren old new t).name = lab ts t.name := lab_ren h (h.free t ht)
theorem labN_ren_of (h : Nm old new ts) {t : X.It} (ht : t ∈ ts) : labN (ts.map (ren old new)) (ren old new t).name = labN ts t.name := by
  unfold labN
  rw [lab_ren_of h ht]
theorem nms_ren (h : Nm old new ts) (p : X.It → Bool) (hp : ∀ t, p (ren old new t) = p t) : unl p (ts.map (ren old new)) = unl p ts := by
  have e : nms p (ts.map (ren old new)) = (nms p ts).map (rho old new) := by
    unfold nms
    rw [List.filter_map, List.map_map, List.map_map]
    have : (p ∘ ren old new) = p := funext fun t => hp t
    rw [this]
    rfl
  have key : ∀ l : List X.By, (∀ x ∈ l, x ≠ new) → ((l.map (rho old new)).Nodup ↔ l.Nodup) := by
    intro l
    induction l with
    | nil => intro _; simp
    | cons x l ih =>
      intro hl
      rw [List.map_cons, List.nodup_cons, List.nodup_cons, ih fun y hy => hl y (by simp [hy])]
      have : rho old new x ∈ l.map (rho old new) ↔ x ∈ l := by
        rw [List.mem_map]
        constructor
        · rintro ⟨y, hy, e⟩
          rw [← (rho_inj (hl y (by simp [hy])) (hl x (by simp))).1 e]
          exact hy
        · intro hx
          exact ⟨x, hx, rfl⟩
      rw [this]
  unfold unl
  rw [e, decide_eq_decide]
  refine key _ fun x hx => ?_
  obtain ⟨t, ht, rfl⟩ := List.mem_map.1 hx
  exact h.free t (List.mem_filter.1 ht).1
theorem unk_ren (h : Nm old new ts) : unk (ts.map (ren old new)) = unk ts := by
  unfold unk
  rw [Bool.eq_iff_iff, List.any_eq_true, List.any_eq_true]
  constructor
  · rintro ⟨t, ht, e⟩
    obtain ⟨u, hu, rfl⟩ := List.mem_map.1 ht
    rw [lab_ren_of h hu] at e
    exact ⟨u, hu, e⟩
  · rintro ⟨t, ht, e⟩
    refine ⟨_, List.mem_map_of_mem ht, ?_⟩
    rw [lab_ren_of h ht]
    exact e
theorem nameE_ren (h : Nm old new ts) : nameE (ts.map (ren old new)) = nameE ts := by
  unfold nameE
  rw [nms_ren h place fun _ => rfl, nms_ren h shown fun _ => rfl, unk_ren h]
theorem itOk_ren (h : Nm old new ts) (t : X.It) : X.itOk (ren old new t) = X.itOk t := by
  by_cases hn : t.name = old
  · have ho := name_ne h.o
    have hw := name_ne h.n
    have e : ren old new t = { t with name := new } := by
      unfold ren rho
      rw [if_pos hn]
    rw [e]
    have hi : X.insOk { t with name := new } = X.insOk t := by
      unfold X.insOk
      simp only
      cases X.rowOf t.op with
      | none => rfl
      | some r =>
        simp only
        rw [hn, h.o, h.n]
        simp [ho, hw]
    have hz : X.zeroIns { t with name := new } = X.zeroIns t := rfl
    unfold X.itOk
    simp only
    rw [hi, hz, hn, h.o, h.n]
  · rw [ren_no hn]
theorem itsOk_ren (h : Nm old new ts) : X.itsOk (ts.map (ren old new)) = X.itsOk ts := by
  unfold X.itsOk
  rw [List.length_map, List.all_map]
  congr 1
  congr 1
  exact funext fun t => itOk_ren h t
theorem js_ren (h : Nm old new ts) : js (ts.map (ren old new)) = js ts := by
  unfold js jumpsOf
  rw [List.zipIdx_map, List.filter_map, List.map_map]
  have : ((fun p : X.It × Nat => jump p.1) ∘ Prod.map (ren old new) id) = fun p : X.It × Nat => jump p.1 := funext fun p => rfl
  rw [this]
  refine List.map_congr_left fun p hp => ?_
  have hp1 := (List.mem_filter.1 hp).1
  have ht : p.1 ∈ ts := List.fst_mem_of_mem_zipIdx hp1
  show (p.2, labN (ts.map (ren old new)) (ren old new p.1).name) = (p.2, labN ts p.1.name)
  rw [labN_ren_of h ht]
theorem tooFar_ren (h : Nm old new ts) (o bs : List Int) (j : Nat × Nat) : tooFar (ts.map (ren old new)) o bs j = tooFar ts o bs j := by
  unfold tooFar
  rw [h.getD]
  rfl
theorem lens_ren (h : Nm old new ts) (bs : List Int) : ∀ (l : List (Nat × Nat)) (o : List Int), lens (ts.map (ren old new)) bs l o = lens ts bs l o
  | [], o => rfl
  | j :: r, o => by
    rw [lens, lens, tooFar_ren h, h.getD, lens_ren h bs r]
    rfl
theorem anyFar_ren (h : Nm old new ts) (o : List Int) : anyFar (ts.map (ren old new)) o = anyFar ts o := by
  unfold anyFar
  rw [js_ren h]
  congr 1
  exact funext fun j => tooFar_ren h _ _ j
theorem settle_ren (h : Nm old new ts) : ∀ (n : Nat) (o : List Int), settle (ts.map (ren old new)) n o = settle ts n o
  | 0, o => rfl
  | n + 1, o => by rw [settle, settle, anyFar_ren h, js_ren h, lens_ren h, settle_ren h n]
theorem ops_ren (h : Nm old new ts) : ops (ts.map (ren old new)) = ops ts := by
  unfold ops
  rw [List.length_map, List.map_map, settle_ren h]
  rfl
theorem isOpen_ren (h : Nm old new ts) {t : X.It} (ht : t ∈ ts) : isOpen (ts.map (ren old new)) (ren old new t) = isOpen ts t := by
  unfold isOpen
  rw [lab_ren_of h ht]
  rfl
theorem Nm.lab (h : Nm old new ts) : (lab ts old).isNone = false := by
  obtain ⟨t, ht, hk, hn⟩ := h.l
  cases e : Z.lab ts old with
  | some i => rfl
  | none =>
    obtain ⟨i, hi, rfl⟩ := List.getElem_of_mem ht
    have := lab_none e i hi
    simp [isLab, List.getD, hi, hk, hn] at this
/-- What is left open, and what is shown, is called as before. -/
theorem open_name (h : Nm old new ts) {t : X.It} (ht : t ∈ ts) (ho : isOpen ts t = true) : t.name ≠ old := by
  intro e
  unfold isOpen at ho
  rw [e, h.lab] at ho
  simp only [Bool.and_false, Bool.or_false, decide_eq_true_eq] at ho
  exact (h.k t ht e).2.2.2 ho
theorem wordsN_ren : wordsN (ts.map (ren old new)) = wordsN ts := by
  unfold wordsN
  rw [List.map_map]
  rfl
theorem symsN_ren : symsN (ts.map (ren old new)) = symsN ts := by
  unfold symsN
  rw [List.filter_map, List.length_map]
  rfl
theorem opensN_ren (h : Nm old new ts) : opensN (ts.map (ren old new)) (ts.map (ren old new)) = opensN ts ts := by
  unfold opensN
  rw [List.filter_map, List.length_map]
  congr 1
  exact List.filter_congr fun t ht => isOpen_ren h ht
theorem fits_ren (h : Nm old new ts) : fits (ts.map (ren old new)) = fits ts := by
  unfold fits
  rw [ops_ren h, wordsN_ren, symsN_ren, opensN_ren h]
theorem placeOf_ren (h : Nm old new ts) (o : List Int) {t : X.It} (ht : t ∈ ts) : placeOf (ts.map (ren old new)) o (ren old new t).name = placeOf ts o t.name := by
  unfold placeOf
  rw [labN_ren_of h ht]
theorem symsOk_ren (h : Nm old new ts) : symsOk (ts.map (ren old new)) = symsOk ts := by
  unfold symsOk
  rw [List.all_map, Bool.eq_iff_iff, List.all_eq_true, List.all_eq_true]
  have key : ∀ t ∈ ts, (standAt (ts.map (ren old new)) ∘ ren old new) t = standAt ts t := fun t ht => by
    show standAt (ts.map (ren old new)) (ren old new t) = standAt ts t
    unfold standAt
    rw [ops_ren h, placeOf_ren h _ ht]
    rfl
  constructor
  · intro e t ht
    rw [← key t ht]
    exact e t ht
  · intro e t ht
    rw [key t ht]
    exact e t ht
theorem codeN_ren (h : Nm old new ts) {k : Nat} (hk : k < ts.length) (o : List Int) : codeN (ts.map (ren old new)) o k = codeN ts o k := by
  have ht := mem_getD hk
  unfold codeN
  rw [h.getD, isOpen_ren h ht, labN_ren_of h ht]
  have e : (ren old new (ts.getD k X.noIt)).name = [] ↔ (ts.getD k X.noIt).name = [] := by
    unfold ren rho
    simp only
    split
    · next hh => rw [hh]; exact ⟨fun x => absurd x (name_ne h.n), fun x => absurd x (name_ne h.o)⟩
    · rfl
  simp only [ne_eq, e]
  rfl
theorem stepO_ren (h : Nm old new ts) {k : Nat} (hk : k < ts.length) (s : O.ObjD) (o : List Int) : stepO (ts.map (ren old new)) o s k = stepO ts o s k := by
  have ht := mem_getD hk
  have hc : codeV (ts.map (ren old new)) o k = codeV ts o k := by
    unfold codeV
    rw [codeN_ren h hk, h.getD]
    rfl
  have hp := placeOf_ren h o ht
  unfold stepO
  rw [h.getD, isOpen_ren h ht, hc]
  have ho := open_name h ht
  have hkk := h.k _ ht
  generalize ts.getD k X.noIt = t at *
  show (if t.kind = 2 then _ else if t.kind = 3 then _ else if t.kind = 4 then _ else if t.kind = 5 then _ else s) = _
  by_cases h2 : t.kind = 2
  · rw [if_pos h2, if_pos h2]
    by_cases hop : isOpen ts t = true
    · rw [if_pos hop, if_pos hop, ren_no (ho hop)]
    · rw [if_neg hop, if_neg hop]
  rw [if_neg h2, if_neg h2]
  by_cases hn : t.name = old
  · obtain ⟨k3, k4, k5, -⟩ := hkk hn
    rw [if_neg k3, if_neg k4, if_neg k5, if_neg k3, if_neg k4, if_neg k5]
  · rw [ren_no hn] at hp ⊢
    rw [hp]
theorem objTo_ren (h : Nm old new ts) (o : List Int) : ∀ k, k ≤ ts.length → objTo (ts.map (ren old new)) o k = objTo ts o k
  | 0, _ => rfl
  | k + 1, hk => by rw [objTo_succ, objTo_succ, objTo_ren h o k (by omega), stepO_ren h (by omega)]
theorem obj_ren (h : Nm old new ts) : obj (ts.map (ren old new)) = obj ts := by
  unfold obj
  rw [ops_ren h, List.length_map, objTo_ren h _ _ (Nat.le_refl _)]
/-- What labels are called makes no difference. -/
theorem asm_ren (h : Nm old new ts) : asm (ts.map (ren old new)) = asm ts := by
  unfold asm
  rw [itsOk_ren h, nameE_ren h, fits_ren h, symsOk_ren h, obj_ren h]
end
end Z
end Go.Proofs.YtgjingleolhkbaaGreatDoor

/- The document's small functions. -/
namespace Go.Proofs.YtgjingleolhkbaaGreatDoor
open Go.RowKit Go.Lib
set_option linter.unusedVariables false
set_option linter.unusedSimpArgs false

set_option maxHeartbeats 4000000 in
theorem rdigit_any (n : Nat) (w : World) :
    Calls Tryz.prog 42 #[.int .u8 n] w fun e w' => e = .returned (.bool (X.dg n)) ∧ w' = w := by
  go_enter Tryz.func42, Tryz.ntmps42
  go_wp2
  all_goals
    go_ret
    exact ⟨ret_b (by rw [Bool.eq_iff_iff]; simp [X.dg]; try omega), rfl⟩
set_option maxHeartbeats 4000000 in
theorem rletter_any (n : Nat) (w : World) :
    Calls Tryz.prog 41 #[.int .u8 n] w fun e w' => e = .returned (.bool (X.lt n)) ∧ w' = w := by
  go_enter Tryz.func41, Tryz.ntmps41
  go_wp2
  all_goals
    go_ret
    exact ⟨ret_b (by rw [Bool.eq_iff_iff]; simp [X.lt]; try omega), rfl⟩
set_option maxHeartbeats 4000000 in
theorem rname_any (s : ByteArray) (hs : s.size ≤ maxLen) (w : World) :
    Calls Tryz.prog 20 #[.string s] w fun e w' => e = .returned (.bool (X.name s.data.toList)) ∧ w' = w := by
  unfold maxLen at hs
  by_cases h0 : s.size < 1
  · have HR : Hid _ := name_false (.inl h0)
    have h0' : (s.size : Int) < 1 := by omega
    go_enter Tryz.func20, Tryz.ntmps20
    go_wp2
    go_ret
    exact ⟨ret_b HR.out.symm, rfl⟩
  by_cases h1 : 28 < s.size
  · have HR : Hid _ := name_false (.inr h1)
    go_enter Tryz.func20, Tryz.ntmps20
    go_wp2
    go_ret
    exact ⟨ret_b HR.out.symm, rfl⟩
  have h0' : 0 < s.size := by omega
  cases hf : X.lt s[0].toNat
  · have HR : Hid _ := name_first h0' hf
    go_enter Tryz.func20, Tryz.ntmps20
    go_wp2_with (go_at_call 41; refine (rletter_any s[0].toNat _).mono ?_; rw [hf]; rintro e w' ⟨rfl, rfl⟩)
    go_ret
    exact ⟨ret_b HR.out.symm, rfl⟩
  have HF : Hid _ := hf
  go_enter Tryz.func20, Tryz.ntmps20
  go_wp2_with (go_at_call 41; refine (rletter_any s[0].toNat _).mono ?_; rw [hf]; rintro e w' ⟨rfl, rfl⟩)
  clear hf
  go_loop [3] (fun i => ∃ (k : Nat), i = .int .i64 k ∧ k ≤ s.size ∧ Hid (∀ j (hj : j < s.size), 1 ≤ j → j < k → X.inn s[j].toNat = true)) (fun i => s.size - (intOf i).toNat)
  case atStart => exact ⟨0, rfl, Nat.zero_le _, (fun j hj h1 h2 => by omega : ∀ j (hj : j < s.size), 1 ≤ j → j < 0 → X.inn s[j].toNat = true)⟩
  case round =>
    obtain ⟨k, rfl, hk, HA⟩ := hrel
    by_cases hlt : k < s.size
    · have HNO : Hid (X.inn s[k].toNat = false → X.name s.data.toList = false) := fun h => by
        by_cases e : k = 0
        · subst e
          have h2 := HF.out
          exact name_first h0' (by cases h3 : X.lt s[0].toNat with | false => rfl | true => simp [X.inn, h3] at h)
        · exact name_byte (by omega) hlt h
      have HYE : Hid (X.inn s[k].toNat = true → ∀ j (hj : j < s.size), 1 ≤ j → j < k + 1 → X.inn s[j].toNat = true) := fun h j hj h1 h2 => by
        by_cases e : j = k
        · subst e; exact h
        · exact HA.out j hj h1 (by omega)
      cases h2 : X.lt s[k].toNat
      · cases h3 : X.dg s[k].toNat
        · by_cases h4 : s[k].toNat = 46
          · have h4' : ((s[k].toNat : Int) != 46) = false := by simp; omega
            have HI : Hid (X.inn s[k].toNat = true) := by show _ = _; simp [X.inn, h4]
            clear h4
            go_wp2_with (first | (go_at_call 41; refine (rletter_any s[k].toNat _).mono ?_; rw [h2]; rintro e w' ⟨rfl, rfl⟩) | (go_at_call 42; refine (rdigit_any s[k].toNat _).mono ?_; rw [h3]; rintro e w' ⟨rfl, rfl⟩))
            go_round
            case rel => exact ⟨k + 1, by go_num, by omega, HYE.out HI.out⟩
            case measure => simp [intOf]; omega
          · have h4' : ((s[k].toNat : Int) != 46) = true := by simp; omega
            have HI : Hid (X.inn s[k].toNat = false) := by show _ = _; simp [X.inn, h2, h3, h4]
            clear h4
            go_wp2_with (first | (go_at_call 41; refine (rletter_any s[k].toNat _).mono ?_; rw [h2]; rintro e w' ⟨rfl, rfl⟩) | (go_at_call 42; refine (rdigit_any s[k].toNat _).mono ?_; rw [h3]; rintro e w' ⟨rfl, rfl⟩))
            go_ret
            exact ⟨ret_b (HNO.out HI.out).symm, rfl⟩
        · have HI : Hid (X.inn s[k].toNat = true) := by show _ = _; simp [X.inn, h3]
          go_wp2_with (first | (go_at_call 41; refine (rletter_any s[k].toNat _).mono ?_; rw [h2]; rintro e w' ⟨rfl, rfl⟩) | (go_at_call 42; refine (rdigit_any s[k].toNat _).mono ?_; rw [h3]; rintro e w' ⟨rfl, rfl⟩))
          go_round
          case rel => exact ⟨k + 1, by go_num, by omega, HYE.out HI.out⟩
          case measure => simp [intOf]; omega
      · have HI : Hid (X.inn s[k].toNat = true) := by show _ = _; simp [X.inn, h2]
        go_wp2_with (first | (go_at_call 41; refine (rletter_any s[k].toNat _).mono ?_; rw [h2]; rintro e w' ⟨rfl, rfl⟩) | (go_at_call 42; refine (rdigit_any s[k].toNat _).mono ?_; rintro e w' ⟨rfl, rfl⟩))
        go_round
        case rel => exact ⟨k + 1, by go_num, by omega, HYE.out HI.out⟩
        case measure => simp [intOf]; omega
    · go_wp2
      go_ret
      obtain rfl : k = s.size := by omega
      exact ⟨ret_b (name_yes (by omega) (by omega) HF.out (fun j hj h => HA.out j hj h hj)).symm, rfl⟩


set_option maxHeartbeats 4000000 in
theorem rfits_any (op n : Int) (w : World) :
    Calls Tryz.prog 99 #[.int .i64 op, .int .i64 n] w fun e w' => e = .returned (.bool (X.numOk op n)) ∧ w' = w := by
  by_cases h1 : op = 1
  · subst h1
    go_enter Tryz.func99, Tryz.ntmps99
    go_wp2
    all_goals
      go_ret
      exact ⟨ret_b (by simp [X.numOk]), rfl⟩
  · by_cases h2 : op = 33
    · subst h2
      go_enter Tryz.func99, Tryz.ntmps99
      go_wp2
      all_goals
        go_ret
        exact ⟨ret_b (by rw [Bool.eq_iff_iff]; simp [X.numOk]; try omega), rfl⟩
    · have h1' : (op == 1) = false := by simp [h1]
      have h2' : (op == 33) = false := by simp [h2]
      have HR : Hid (X.numOk op n = (decide (-2147483648 ≤ n) && decide (n ≤ 2147483647))) := by show _ = _; simp [X.numOk, h1, h2]
      go_enter Tryz.func99, Tryz.ntmps99
      go_wp2
      all_goals
        go_ret
        exact ⟨ret_b (by rw [HR.out, Bool.eq_iff_iff]; simp; try omega), rfl⟩

theorem has_at {s : ByteArray} {c : Nat} (hc : c < 256) {k : Nat} (hk : k < s.size) (h : s[k].toNat = c) : X.has s.data.toList (UInt8.ofNat c) = true := by
  unfold X.has
  rw [List.contains_iff_mem]
  have h2 := get_list s k hk
  have : s[k] = UInt8.ofNat c := UInt8.toNat_inj.1 (by rw [h, UInt8.toNat_ofNat']; omega)
  rw [← this]
  exact List.mem_of_getElem? h2
theorem has_not {s : ByteArray} {c : Nat} (hc : c < 256) (h : ∀ j (hj : j < s.size), s[j].toNat ≠ c) : X.has s.data.toList (UInt8.ofNat c) = false := by
  unfold X.has
  rw [Bool.eq_false_iff]
  intro h2
  rw [List.contains_iff_mem] at h2
  obtain ⟨j, hj, e⟩ := List.getElem_of_mem h2
  rw [len_list] at hj
  exact h j hj (by
    have e2 : s[j] = UInt8.ofNat c := e
    rw [e2, UInt8.toNat_ofNat']
    omega)
set_option maxHeartbeats 4000000 in
theorem rhas_any (s : ByteArray) (c : Nat) (hc : c < 256) (hs : s.size ≤ maxLen) (w : World) :
    Calls Tryz.prog 100 #[.string s, .int .u8 c] w fun e w' => e = .returned (.bool (X.has s.data.toList (UInt8.ofNat c))) ∧ w' = w := by
  unfold maxLen at hs
  go_enter Tryz.func100, Tryz.ntmps100
  go_wp2_with fail
  go_loop [5] (fun i => ∃ (k : Nat), i = .int .i64 k ∧ k ≤ s.size ∧ Hid (∀ j (hj : j < s.size), j < k → s[j].toNat ≠ c)) (fun i => s.size - (intOf i).toNat)
  case atStart => exact ⟨0, rfl, Nat.zero_le _, (fun j hj h => by omega : ∀ j (hj : j < s.size), j < 0 → s[j].toNat ≠ c)⟩
  case round =>
    obtain ⟨k, rfl, hk, HA⟩ := hrel
    by_cases hlt : k < s.size
    · by_cases he : s[k].toNat = c
      · have he' : ((s[k].toNat : Int) == c) = true := by simp [he]
        have HY : Hid _ := has_at hc hlt he
        clear he
        go_wp2_with fail
        go_ret
        exact ⟨ret_b HY.out.symm, rfl⟩
      · have he' : ((s[k].toNat : Int) == c) = false := by simp; omega
        have HY : Hid (∀ j (hj : j < s.size), j < k + 1 → s[j].toNat ≠ c) := fun j hj h1 => by
          by_cases e : j = k
          · subst e; exact he
          · exact HA.out j hj (by omega)
        clear he
        go_wp2_with fail
        go_round
        case rel => exact ⟨k + 1, by go_num, by omega, HY.out⟩
        case measure => simp [intOf]; omega
    · have hlt' : ¬ (k : Int) < s.size := by omega
      go_wp2_with fail
      go_ret
      exact ⟨ret_b (has_not hc (fun j hj => HA.out j hj (by omega))).symm, rfl⟩

/-- The document's letters for an instruction's operands. -/
def X.opsR (op : Int) : X.By := if 0 ≤ op ∧ op < 34 then (X.row op.toNat).2.map fun c => if c = 64 then 83 else c else []
set_option maxRecDepth 100000 in
set_option maxHeartbeats 4000000 in
theorem roperands_any (op : Int) (w : World) :
    Calls Tryz.prog 79 #[.int .i64 op] w fun e w' => e = .returned (.string (X.str (X.opsR op))) ∧ w' = w := by
  by_cases h0 : 0 ≤ op ∧ op < 34
  · obtain ⟨k, rfl⟩ : ∃ k : Nat, op = k := ⟨op.toNat, by omega⟩
    have hk : k < 34 := by omega
    clear h0
    rcases (show k = 0 ∨ k = 1 ∨ k = 2 ∨ k = 3 ∨ k = 4 ∨ k = 5 ∨ k = 6 ∨ k = 7 ∨ k = 8 ∨ k = 9 ∨ k = 10 ∨ k = 11 ∨ k = 12 ∨ k = 13 ∨ k = 14 ∨ k = 15 ∨ k = 16 ∨ k = 17 ∨ k = 18 ∨ k = 19 ∨ k = 20 ∨ k = 21 ∨ k = 22 ∨ k = 23 ∨ k = 24 ∨ k = 25 ∨ k = 26 ∨ k = 27 ∨ k = 28 ∨ k = 29 ∨ k = 30 ∨ k = 31 ∨ k = 32 ∨ k = 33 by omega) with rfl | rfl | rfl | rfl | rfl | rfl | rfl | rfl | rfl | rfl | rfl | rfl | rfl | rfl | rfl | rfl | rfl | rfl | rfl | rfl | rfl | rfl | rfl | rfl | rfl | rfl | rfl | rfl | rfl | rfl | rfl | rfl | rfl | rfl
    all_goals
      go_enter Tryz.func79, Tryz.ntmps79
      go_wp2_with fail
      go_ret
      exact ⟨rfl, rfl⟩
  · have HR : Hid (X.opsR op = []) := by show _ = _; unfold X.opsR; rw [if_neg h0]
    have e1 : (op == 1) = false := by simp; omega
    have e17 : (op == 17) = false := by simp; omega
    have e18 : (op == 18) = false := by simp; omega
    have e28 : (op == 28) = false := by simp; omega
    have e29 : (op == 29) = false := by simp; omega
    have e19 : (op == 19) = false := by simp; omega
    have e20 : (op == 20) = false := by simp; omega
    have e23 : (op == 23) = false := by simp; omega
    have e21 : (op == 21) = false := by simp; omega
    have e22 : (op == 22) = false := by simp; omega
    have e31 : (op == 31) = false := by simp; omega
    have e33 : (op == 33) = false := by simp; omega
    have h3' : 2 ≤ op → ¬ op ≤ 16 := by omega
    clear h0
    by_cases h2 : 2 ≤ op
    · have h3 := h3' h2
      clear h3'
      go_enter Tryz.func79, Tryz.ntmps79
      go_wp2_with fail
      go_ret
      exact ⟨by rw [HR.out]; rfl, rfl⟩
    · clear h3'
      go_enter Tryz.func79, Tryz.ntmps79
      go_wp2_with fail
      go_ret
      exact ⟨by rw [HR.out]; rfl, rfl⟩

end Go.Proofs.YtgjingleolhkbaaGreatDoor

/- Items as they lie, cell by cell: for what copies a list of them. -/
namespace Go.Proofs.YtgjingleolhkbaaGreatDoor
open Go.RowKit Go.Maps Go.Lib
set_option linter.unusedVariables false
set_option linter.unusedSimpArgs false

/-- An item and where its words lie. -/
structure Pw where
  t : X.It
  a : Option Addr
  l : Nat
  c : Nat
def noPw : Pw := ⟨X.noIt, none, 0, 0⟩
def pwC (p : Pw) : List Value := [.int .i64 p.t.kind, .string (X.str p.t.name), .int .i64 p.t.op, .int .i64 p.t.a, .int .i64 p.t.b, .int .i64 p.t.n, .slice p.a p.l p.c]
/-- The words lie where they do. -/
def PwOk (w : World) (p : Pw) : Prop := (p.t.name.length ≤ maxLen ∧ X.fitsIt p.t) ∧ IntsV w p.a p.l p.c p.t.words
theorem PwOk.below {w w1 : World} {p : Pw} (h : PwOk w p) (hb : Below w.heap.size w w1) : PwOk w1 p := ⟨h.1, h.2.below hb⟩
theorem pwC_len (p : Pw) : (pwC p).length = 7 := rfl
theorem pwC_one {p : Pw} {u : Value} (h : u ∈ pwC p) : u.oneCell' = true := by
  simp [pwC] at h
  rcases h with rfl | rfl | rfl | rfl | rfl | rfl | rfl <;> rfl
theorem its_one {ps : List Pw} {u : Value} (h : u ∈ ps.flatMap pwC) : u.oneCell' = true := by
  obtain ⟨p, -, h⟩ := List.mem_flatMap.1 h
  exact pwC_one h
theorem its_len (ps : List Pw) : (ps.flatMap pwC).length = ps.length * 7 := by
  induction ps with
  | nil => rfl
  | cons p ps ih => rw [List.flatMap_cons, List.length_append, ih, pwC_len, List.length_cons]; omega
/-- A list of items, as its cells lie. -/
theorem its_cells {w : World} {a : Option Addr} {l c : Nat} {ts : List X.It} (h : ItsV w a l c ts) : ∃ ps : List Pw, ps.map (·.t) = ts ∧ (∀ p ∈ ps, PwOk w p) ∧ (∀ ad, a = some ad → ∀ j u, (ps.flatMap pwC)[j]? = some u → w.cell? (ad.add j) = some u) := by
  have hel : ∀ i, i < l → ∃ p : Pw, p.t = ts.getD i X.noIt ∧ PwOk w p ∧ ∀ b off, a = some ⟨b, off, none⟩ → ∀ j u, (pwC p)[j]? = some u → w.cell? ⟨b, off + i * 7 + j, none⟩ = some u := by
    intro i hi
    obtain ⟨b, off, t, aw, lw, cw, e, ht, hm, c0, c1, c2, c3, c4, c5, c6, hi⟩ := h.at hi
    refine ⟨⟨t, aw, lw, cw⟩, ht.symm, ⟨h.fit t hm, hi⟩, fun b' off' e' j u hu => ?_⟩
    rw [e] at e'
    cases e'
    have hj : j < 7 := (List.getElem?_eq_some_iff.1 hu).1
    rcases (show j = 0 ∨ j = 1 ∨ j = 2 ∨ j = 3 ∨ j = 4 ∨ j = 5 ∨ j = 6 by omega) with rfl | rfl | rfl | rfl | rfl | rfl | rfl <;> simp [pwC] at hu <;> subst hu <;> assumption
  have hf : ∃ f : Nat → Pw, ∀ i, i < l → (f i).t = ts.getD i X.noIt ∧ PwOk w (f i) ∧ ∀ b off, a = some ⟨b, off, none⟩ → ∀ j u, (pwC (f i))[j]? = some u → w.cell? ⟨b, off + i * 7 + j, none⟩ = some u :=
    ⟨fun i => if h : i < l then Classical.choose (hel i h) else noPw, fun i hi => by
      have := Classical.choose_spec (hel i hi)
      simp only [dif_pos hi]
      exact this⟩
  obtain ⟨f, hf⟩ := hf
  refine ⟨(List.range l).map f, ?_, ?_, ?_⟩
  · apply List.ext_getElem?
    intro i
    by_cases hi : i < l
    · have hi2 : i < ts.length := by rw [h.count]; exact hi
      have := (hf i hi).1
      simp [List.getD, hi2] at this
      simp [hi, hi2, this]
    · have hi2 : ¬ i < ts.length := by rw [h.count]; exact hi
      simp [hi, hi2]
  · intro p hp
    obtain ⟨i, hi, rfl⟩ := List.mem_map.1 hp
    exact (hf i (by simpa using hi)).2.1
  · intro ad e j u hu
    have hj : j < l * 7 := by
      have := (List.getElem?_eq_some_iff.1 hu).1
      rw [its_len] at this
      simpa using this
    have hil : j / 7 < l := Nat.div_lt_of_lt_mul (by omega)
    rcases h.cells with h0 | ⟨b, off, e2, -⟩
    · omega
    rw [e] at e2
    cases e2
    have h1 := flat_at pwC 7 noPw pwC_len ((List.range l).map f) (j / 7) (j % 7) (by simpa using hil) (by omega)
    have e3 : j / 7 * 7 + j % 7 = j := by omega
    rw [e3] at h1
    rw [h1] at hu
    have h2 : ((List.range l).map f).getD (j / 7) noPw = f (j / 7) := by simp [List.getD, hil]
    rw [h2] at hu
    have := (hf _ hil).2.2 b off e _ u hu
    rw [Addr.add_lit]
    rw [show off + j / 7 * 7 + j % 7 = off + j by omega] at this
    exact this
/-- A row of one's own that holds items. -/
theorem its_row {w : World} {B : Nat} {v : Value} {n : Nat} {ps : List Pw} (h : w.ownsRow B 44 7 v n (ps.flatMap pwC)) (hn : ps.length = n) (hp : ∀ p ∈ ps, PwOk w p) : ∃ a c, v = .slice a n c ∧ ItsV w a n c (ps.map (·.t)) := by
  have hroom : ∃ a c, v = .slice a n c ∧ n ≤ c ∧ c ≤ maxLen := by
    rcases h.2 with ⟨rfl, rfl⟩ | ⟨g, cap, cur, rfl, hb, hh, h1, h2, h3, h4⟩
    · exact ⟨none, 0, rfl, Nat.le_refl _, by decide⟩
    · exact ⟨_, _, rfl, by omega, by omega⟩
  obtain ⟨a, c, rfl, n1, k1⟩ := O.row_at (f := pwC) (m := 7) noPw pwC_len h hn
  obtain ⟨a', c', e, r1, r2⟩ := hroom
  cases e
  refine ⟨a, c, rfl, ⟨by rw [List.length_map]; exact hn, ⟨r1, r2⟩, ?_, ?_⟩⟩
  · intro t ht
    obtain ⟨p, hp', rfl⟩ := List.mem_map.1 ht
    exact (hp p hp').1
  · rcases k1 with e | ⟨b, off, e, hc⟩
    · exact .inl e
    · refine .inr ⟨b, off, e, fun i hi => ?_⟩
      have hi2 : i < ps.length := by omega
      have hg : (ps.map (·.t)).getD i X.noIt = (ps.getD i noPw).t := by simp [List.getD, hi2]
      have hm : ps.getD i noPw ∈ ps := by simp [List.getD, hi2]
      rw [hg]
      exact ⟨_, _, _, by simpa using hc i hi 0 _ (by omega) rfl, by simpa using hc i hi 1 _ (by omega) rfl, by simpa using hc i hi 2 _ (by omega) rfl, by simpa using hc i hi 3 _ (by omega) rfl, by simpa using hc i hi 4 _ (by omega) rfl, by simpa using hc i hi 5 _ (by omega) rfl, by simpa using hc i hi 6 _ (by omega) rfl, (hp _ hm).2⟩

end Go.Proofs.YtgjingleolhkbaaGreatDoor

/- Rows of a call's own: more. -/
namespace Go.Proofs.YtgjingleolhkbaaGreatDoor
open Go.RowKit Go.Maps Go.Lib
set_option linter.unusedVariables false
set_option linter.unusedSimpArgs false

theorem own_src {w : World} {B : Nat} {ty : TypeId} {k n c : Nat} {a : Option Addr} {cs : List Value} (h : w.ownsRow B ty k (.slice a n c) n cs) : (a = none → n = 0 ∧ c = 0) ∧ cs.length = n * k ∧ ∀ ad, a = some ad → ∀ j u, cs[j]? = some u → w.cell? (ad.add j) = some u := by
  refine ⟨?_, h.1, ?_⟩
  · rintro rfl
    rcases h.2 with ⟨e1, e2⟩ | ⟨g, cap, cur, e1, -⟩
    · cases e1; exact ⟨rfl, rfl⟩
    · cases e1
  · rintro ad rfl j u hu
    rcases h.2 with ⟨e1, -⟩ | ⟨g, cap, cur, e1, -⟩
    · cases e1
    · cases e1
      have := h.cellAt j (by rw [← h.1]; exact (List.getElem?_eq_some_iff.1 hu).1)
      rw [hu] at this
      unfold Addr.add
      split <;> simp_all
theorem own_mono {w : World} {B B' : Nat} {ty : TypeId} {k n : Nat} {v : Value} {cs : List Value} (h : w.ownsRow B ty k v n cs) (hB : B' ≤ B) : w.ownsRow B' ty k v n cs :=
  ⟨h.1, h.2.imp id (fun ⟨g, cap, cur, e, hb, r⟩ => ⟨g, cap, cur, e, Nat.le_trans hB hb, r⟩)⟩
theorem ItO.mono {B B' : Nat} {W : World} {tv : List (X.It × Value)} (h : ItO B W tv) (hB : B' ≤ B) : ItO B' W tv := fun p hp => by
  obtain ⟨hn, aw, lw, cw, e, ho⟩ := h p hp
  exact ⟨hn, aw, lw, cw, e, own_mono ho hB⟩
theorem ItO.below {B : Nat} {W W' : World} {tv : List (X.It × Value)} (h : ItO B W tv) (hb : Below W.heap.size W W') : ItO B W' tv := h.kept (gb_of_below hb none) (fun b o e => by cases e)
theorem below_own {w x y : World} {B : Nat} {ty : TypeId} {k n : Nat} {v : Value} {cs : List Value} (h : Below B w x) (ho : x.ownsRow B ty k v n cs) (hg : x.grownBy y v.ownBlock) (hw : B ≤ x.heap.size) : Below B w y := by
  rcases ho.2 with ⟨e1, -⟩ | ⟨g, cap, cur, e1, hb, -⟩
  · rw [e1] at hg
    exact ⟨hg.os.trans h.os, hg.tape.trans h.tape, hg.output.trans h.output, Nat.le_trans h.size hg.size, fun i hi => (hg.block i (by omega) (fun e => by cases e)).trans (h.block i hi)⟩
  · rw [e1] at hg
    exact below_gb h hg hb hw
theorem oneIt {t : X.It} {aw : Option Addr} {lw cw : Nat} : ∀ u ∈ itC t (.slice aw lw cw), u.oneCell' = true := by
  intro u hu
  simp [itC] at hu
  rcases hu with rfl | rfl | rfl | rfl | rfl | rfl | rfl <;> rfl
theorem oneIts {B : Nat} {W : World} {tv : List (X.It × Value)} (h : ItO B W tv) : ∀ u ∈ tv.flatMap itF, u.oneCell' = true := by
  intro u hu
  obtain ⟨p, hp, hu⟩ := List.mem_flatMap.1 hu
  obtain ⟨-, aw, lw, cw, e, -⟩ := h p hp
  unfold itF at hu
  rw [e] at hu
  exact oneIt u hu
/-- append of a whole list, nil or not, onto a row of one's own. -/
theorem run_append_more (w : World) (B : Nat) (t e : TypeId) (i0 : TypeInfo) (z : Value) (size bytes : Nat) (ht : Tryz.prog.underlying t = some (.slice e)) (hi : Tryz.prog.info? e = some i0) (hz : i0.zero = some z) (hsize : i0.size = size) (hby : i0.bytes = bytes) (hzs : z.cells.size = size) (hsz : 0 < size)
    {v : Value} {n : Nat} {xs : List Value} (hown : w.ownsRow B e size v n xs) (hB : B ≤ w.heap.size)
    {a : Option Addr} {l c : Nat} {cs : List Value} (hnil : a = none → l = 0 ∧ c = 0) (hlen : cs.length = l * size) (hcells : ∀ ad, a = some ad → ∀ j u, cs[j]? = some u → w.cell? (ad.add j) = some u) (h1 : ∀ u ∈ cs, u.oneCell' = true) (hb : (n + l) * bytes ≤ 140737488355328) (hm : n + l ≤ 140737488355328) (ty : TypeId) :
    ∃ v' w', (Builtin.append_ #[t, t] ty #[v, .slice a l c]).run Tryz.prog w = .ok v' w' ∧ w'.ownsRow B e size v' (n + l) (xs ++ cs) ∧ w.grownBy w' v.ownBlock ∧ ∀ g, v'.ownBlock = some g → v.ownBlock = some g ∨ w.heap.size ≤ g := by
  cases a with
  | none =>
    obtain ⟨rfl, rfl⟩ := hnil rfl
    obtain rfl : cs = [] := List.eq_nil_of_length_eq_zero (by simpa using hlen)
    exact ⟨_, _, run_append_owned_none (P := Tryz.prog) w B t ty e i0 size ht hi v n xs hown, by simpa using hown, gb_of_below (Below.refl _ _) _, fun g hg => .inl hg⟩
  | some ad =>
    obtain ⟨v', w', hr, ho, hg, -, h5⟩ := run_append_own_at (P := Tryz.prog) w B t ty e i0 z size bytes ht hi hz hsize hby hzs hsz v n xs hown ad l c cs hlen (hcells ad rfl) h1 (by unfold maxLen; omega) hb hB
    refine ⟨v', w', hr, ho, hg, fun g hg' => ?_⟩
    rcases h5 with h5 | h5
    · exact .inl (h5 ▸ hg')
    · rw [h5] at hg'
      cases hg'
      exact .inr (Nat.le_refl _)
theorem wpList_append_more {ops : Array Oper} {rest : List Oper} {o : Oper} {ac : Act} {w : World} {Q : Exit → Act → World → Prop} (hgd : o.guard = none) (s x : Operand) (t : TypeId)
    (ho : o.op = .call { callee := .builtin .append, args := #[s, x], argTypes := #[t, t] }) (B : Nat) (e : TypeId) (i0 : TypeInfo) (z : Value) (size bytes : Nat) (ht : Tryz.prog.underlying t = some (.slice e)) (hi : Tryz.prog.info? e = some i0) (hz : i0.zero = some z) (hsize : i0.size = size) (hby : i0.bytes = bytes) (hzs : z.cells.size = size) (hsz : 0 < size)
    {v : Value} {n : Nat} {xs : List Value} (hs : ac.eval s = v) (hown : w.ownsRow B e size v n xs) (hB : B ≤ w.heap.size)
    {a : Option Addr} {l c : Nat} {cs : List Value} (hx : ac.eval x = .slice a l c) (hnil : a = none → l = 0 ∧ c = 0) (hlen : cs.length = l * size) (hcells : ∀ ad, a = some ad → ∀ j u, cs[j]? = some u → w.cell? (ad.add j) = some u) (h1 : ∀ u ∈ cs, u.oneCell' = true) (hb : (n + l) * bytes ≤ 140737488355328) (hm : n + l ≤ 140737488355328)
    (hk : ∀ v' w', w'.ownsRow B e size v' (n + l) (xs ++ cs) → w.grownBy w' v.ownBlock → (∀ g, v'.ownBlock = some g → v.ownBlock = some g ∨ w.heap.size ≤ g) → wpList Tryz.prog ops Q rest (ac.put o.dst v') w') : wpList Tryz.prog ops Q (o :: rest) ac w := by
  refine wpList_plain hgd fun K hK => ?_
  obtain ⟨v', w', hr, h2, h3, h4⟩ := run_append_more w B t e i0 z size bytes ht hi hz hsize hby hzs hsz hown hB hnil hlen hcells h1 hb hm o.type
  unfold Oper.wp execOp
  simp only [ho, resolve, invoke, builtin, Sem.run_bind, Sem.run_pure, Result.andThen_ok, List.map_toArray, List.map_cons, List.map_nil, hs, hx, hr]
  exact hK _ _ (hk v' w' h2 h3 h4)

end Go.Proofs.YtgjingleolhkbaaGreatDoor

/- What the document's Copy comes to. (Written by gen_copy.py.) -/
namespace Go.Proofs.YtgjingleolhkbaaGreatDoor
open Go.RowKit Go.Maps Go.Lib
set_option linter.unusedVariables false
set_option linter.unusedSimpArgs false

theorem cell_last {w : World} {A : Array Value} {t g j : Nat} (hg : g = w.heap.size) {v : Value} (hv : A[j]? = some v) : (w.alloc (.cells A t)).cell? ⟨g, j, none⟩ = some v := by
  subst hg
  simp [hv]
/-- append of a whole list, nil or not, onto nil. -/
theorem run_append_copy (w : World) (t e : TypeId) (i0 : TypeInfo) (z : Value) (size bytes : Nat) (ht : Tryz.prog.underlying t = some (.slice e)) (hi : Tryz.prog.info? e = some i0) (hz : i0.zero = some z) (hsize : i0.size = size) (hby : i0.bytes = bytes) (hzs : z.cells.size = size) (hsz : 0 < size)
    {a : Option Addr} {l c : Nat} {cs : List Value} (hnil : a = none → l = 0) (hlen : cs.length = l * size) (hcells : ∀ ad, a = some ad → ∀ j u, cs[j]? = some u → w.cell? (ad.add j) = some u) (h1 : ∀ u ∈ cs, u.oneCell' = true) (hb : l * bytes ≤ 140737488355328) (hm : l ≤ 140737488355328) (ty : TypeId) :
    ∃ a' c' w', (Builtin.append_ #[t, t] ty #[.slice none 0 0, .slice a l c]).run Tryz.prog w = .ok (.slice a' l c') w' ∧ w'.ownsRow w.heap.size e size (.slice a' l c') l cs ∧ Below w.heap.size w w' := by
  have key : ∃ v' w', (Builtin.append_ #[t, t] ty #[.slice none 0 0, .slice a l c]).run Tryz.prog w = .ok v' w' ∧ w'.ownsRow w.heap.size e size v' l cs ∧ Below w.heap.size w w' := by
    cases a with
    | none =>
      obtain rfl := hnil rfl
      obtain rfl : cs = [] := List.eq_nil_of_length_eq_zero (by simpa using hlen)
      refine ⟨.slice none 0 0, w, ?_, World.ownsRow_nil _ _ _ _, Below.refl _ _⟩
      simp [Builtin.append_, run_underlying ht, sizeOf, typeInfo, hi, Builtin.lenOf, Builtin.firstCells]
    | some ad =>
      obtain ⟨v', w', hr, ho, hg, -, -⟩ := run_append_own_at (P := Tryz.prog) w w.heap.size t ty e i0 z size bytes ht hi hz hsize hby hzs hsz (.slice none 0 0) 0 [] (World.ownsRow_nil _ _ _ _) ad l c cs hlen (hcells ad rfl) h1 (by unfold maxLen; omega) (by simpa using hb) (Nat.le_refl _)
      exact ⟨v', w', hr, by simpa using ho, (Below.refl _ _).grown hg (Nat.le_refl _) (by intro k hk; cases hk)⟩
  obtain ⟨v', w', hr, ho, hbl⟩ := key
  obtain ⟨a', c', rfl⟩ := own_slice ho
  exact ⟨a', c', w', hr, ho, hbl⟩
set_option maxRecDepth 100000 in
theorem step_append_copy {ops : Array Oper} {o : Oper} {ac : Act} {K : Act → World → Prop} {Q : Exit → Act → World → Prop} {E : Prop} {w : World} (hgd : o.guard = none) (s x : Operand) (t : TypeId)
    (ho : o.op = .call { callee := .builtin .append, args := #[s, x], argTypes := #[t, t] }) (e : TypeId) (i0 : TypeInfo) (z : Value) (size bytes : Nat) (ht : Tryz.prog.underlying t = some (.slice e)) (hi : Tryz.prog.info? e = some i0) (hz : i0.zero = some z) (hsize : i0.size = size) (hby : i0.bytes = bytes) (hzs : z.cells.size = size) (hsz : 0 < size)
    {a : Option Addr} {l c : Nat} {cs : List Value} (hs : ac.eval s = .slice none 0 0) (hx : ac.eval x = .slice a l c) (hnil : a = none → l = 0) (hlen : cs.length = l * size) (hcells : ∀ ad, a = some ad → ∀ j u, cs[j]? = some u → w.cell? (ad.add j) = some u) (h1 : ∀ u ∈ cs, u.oneCell' = true) (hb : l * bytes ≤ 140737488355328) (hm : l ≤ 140737488355328)
    (hk : ∀ a' c' w', w'.ownsRow w.heap.size e size (.slice a' l c') l cs → Below w.heap.size w w' → K (ac.put o.dst (.slice a' l c')) w') :
    if Region.wanted o (yielded ops ac.tmps) = true then Oper.wp Tryz.prog o ac w K Q else E := by
  have hw : Region.wanted o (yielded ops ac.tmps) = true := by simp [Region.wanted, hgd]
  rw [if_pos hw]
  obtain ⟨a', c', w', hr, h2, h3⟩ := run_append_copy w t e i0 z size bytes ht hi hz hsize hby hzs hsz hnil hlen hcells h1 hb hm o.type
  unfold Oper.wp execOp
  simp only [ho, resolve, invoke, builtin, Sem.run_bind, Sem.run_pure, Result.andThen_ok, List.map_toArray, List.map_cons, List.map_nil, hs, hx]
  rw [hr]
  exact hk a' c' w' h2 h3
theorem IntsV.src {w : World} {a : Option Addr} {n c : Nat} {zs : List Int} (h : IntsV w a n c zs) : (a = none → n = 0) ∧ (iC zs).length = n * 1 ∧ (∀ ad, a = some ad → ∀ j u, (iC zs)[j]? = some u → w.cell? (ad.add j) = some u) ∧ ∀ u ∈ iC zs, u.oneCell' = true := by
  have hl : (iC zs).length = n * 1 := by unfold iC; rw [List.length_map, h.count, Nat.mul_one]
  refine ⟨fun e => ?_, hl, fun ad e j u hu => ?_, fun u hu => ?_⟩
  · rcases h.cells with h0 | ⟨b, off, e2, -⟩
    · exact h0
    · rw [e] at e2; cases e2
  · have hj : j < n := by have := (List.getElem?_eq_some_iff.1 hu).1; omega
    rcases h.cells with h0 | ⟨b, off, e2, hc⟩
    · omega
    · rw [e] at e2
      cases e2
      rw [Addr.add_lit, hc j hj, ← hu]
      have : j < zs.length := by rw [h.count]; exact hj
      simp [iC, List.getD, this]
  · unfold iC at hu
    obtain ⟨z, -, rfl⟩ := List.mem_map.1 hu
    rfl
/-- Items with rows of words of their own, whatever their names. -/
def ItC (B : Nat) (W : World) (tv : List (X.It × Value)) : Prop := ∀ p ∈ tv, ∃ aw lw cw, p.2 = .slice aw lw cw ∧ W.ownsRow B 2 1 (.slice aw lw cw) lw (iC p.1.words)
theorem ItC.kept {B : Nat} {W W' : World} {tv : List (X.It × Value)} {r : Option Nat} (h : ItC B W tv) (hg : W.grownBy W' r) (hr : ∀ b o, r = some b → W.heap[b]? = some o → ∀ cs fr, o ≠ .cells cs 2 fr) : ItC B W' tv := by
  intro p hp
  obtain ⟨aw, lw, cw, e, ho⟩ := h p hp
  refine ⟨aw, lw, cw, e, ?_⟩
  rcases ho.2 with ⟨e1, -⟩ | ⟨g, cap, cur, e1, hb, hh, -⟩
  · exact ho.kept hg (.inl (by rw [e1]; rfl))
  · refine ho.kept hg (.inr fun e2 => ?_)
    have e3 : (Value.slice aw lw cw).ownBlock = some g := by rw [e1]; rfl
    rw [e3] at e2
    exact hr g _ e2.symm hh _ _ rfl
theorem ItC.below {B : Nat} {W W' : World} {tv : List (X.It × Value)} (h : ItC B W tv) (hb : Below W.heap.size W W') : ItC B W' tv := h.kept (gb_of_below hb none) (fun b o e => by cases e)
theorem its_of_ownC {W : World} {B B' : Nat} {tv : List (X.It × Value)} {a : Option Addr} {c : Nat} (h : W.ownsRow B 44 7 (.slice a tv.length c) tv.length (tv.flatMap itF)) (ho : ItC B' W tv) (hf : ∀ t ∈ tv.map (·.1), t.name.length ≤ maxLen ∧ X.fitsIt t) : ItsV W a tv.length c (tv.map (·.1)) := by
  rcases h.2 with ⟨e1, e2⟩ | ⟨g, cap, cur, e1, -, -, h1, h2, -⟩
  · injection e1 with e1 _ e3
    subst e1 e3
    exact ⟨by simp, ⟨by omega, Nat.zero_le _⟩, hf, .inl e2⟩
  · injection e1 with e1 _ e3
    subst e1 e3
    refine ⟨by simp, ⟨h1, h2⟩, hf, .inr ⟨g, 0, rfl, fun i hi => ?_⟩⟩
    have hg : (tv.map (·.1)).getD i X.noIt = (tv.getD i (X.noIt, .slice none 0 0)).1 := by simp [List.getD, hi]
    have hm : tv.getD i (X.noIt, .slice none 0 0) ∈ tv := by simp [List.getD, hi]
    obtain ⟨aw, lw, cw, e, hw⟩ := ho _ hm
    have hc : ∀ j u, j < 7 → (itF (tv.getD i (X.noIt, .slice none 0 0)))[j]? = some u → W.cell? ⟨g, i * 7 + j, none⟩ = some u := fun j u hj hu => by
      rw [h.cellAt _ (by omega), flat_at itF 7 (X.noIt, .slice none 0 0) itF_len tv i j hi hj]
      exact hu
    rw [hg]
    refine ⟨aw, lw, cw, ?_, ?_, ?_, ?_, ?_, ?_, ?_, ints_of_own hw⟩
    · simpa using hc 0 _ (by omega) rfl
    · simpa using hc 1 _ (by omega) rfl
    · simpa using hc 2 _ (by omega) rfl
    · simpa using hc 3 _ (by omega) rfl
    · simpa using hc 4 _ (by omega) rfl
    · simpa using hc 5 _ (by omega) rfl
    · rw [← e]; simpa using hc 6 _ (by omega) rfl

/-- What Copy leaves. -/
def CopyOut (w : World) (ts : List X.It) (l : Nat) (e : Ending) (w' : World) : Prop := (∃ lv tv, e = .returned lv ∧ tv.map (·.1) = ts ∧ w'.ownsRow w.heap.size 44 7 lv l (tv.flatMap itF) ∧ ItC w.heap.size w' tv) ∧ Below w.heap.size w w'
set_option maxRecDepth 100000 in
set_option maxHeartbeats 8000000 in
theorem rcopy_any {w : World} {a : Option Addr} {l c : Nat} {ts : List X.It} (h : ItsV w a l c ts) (hl : l ≤ 1048576) (hi : ∀ x ∈ ts, x.words.length * 8 ≤ 140737488355328) :
    Calls Tryz.prog 11 #[.slice a l c] w (CopyOut w ts l) := by
  obtain ⟨i1, hi1, hz10, hz11, hz12⟩ := info_parts infoN
  obtain ⟨i2, hi2, hz20, hz21, hz22⟩ := info_parts infoIt
  have HV : Hid _ := h
  have HI : Hid _ := hi
  have HC : Hid (ts.length = l) := h.count
  have hm : l ≤ 9223372036854775807 := by omega
  clear h hi
  go_enter Tryz.func11, Tryz.ntmps11
  go_wp2_with fail
  go_loopg [3, 4] l (fun r lv iv wq => ∃ (k : Nat) (tv : List (X.It × Value)), iv = .int .i64 k ∧ k ≤ l ∧ l - k ≤ r ∧ Hid (tv.map (·.1) = ts.take k) ∧ Hid (wq.ownsRow w.heap.size 44 7 lv k (tv.flatMap itF)) ∧ Hid (ItC w.heap.size wq tv) ∧ Hid (Below w.heap.size w wq))
  case atStart => exact ⟨0, [], rfl, Nat.zero_le _, by omega, (by simp : (([] : List (X.It × Value)).map (·.1)) = ts.take 0), World.ownsRow_nil _ _ _ _, (fun p hp => by simp at hp : ItC w.heap.size w []), Below.refl _ _⟩
  case round =>
    obtain ⟨k, tv, rfl, hk, hr, HTV, HO, HIC, HBL⟩ := hrel
    by_cases hlt : k < l
    · obtain ⟨b, off, t, a1, l1, c1, rfl, hg, hmem, q0, q1, q2, q3, q4, q5, q6, V⟩ := HV.out.at hlt
      have hbw : b < w.heap.size := World.block_lt_of_cell? w ⟨b, off + k * 7, none⟩ q0
      have HVW : Hid _ := V
      have HQ6 : Hid _ := q6
      have q0 := cell_thru HBL.out q0
      have q1 := cell_thru HBL.out q1
      have q2 := cell_thru HBL.out q2
      have q3 := cell_thru HBL.out q3
      have q4 := cell_thru HBL.out q4
      have q5 := cell_thru HBL.out q5
      have q6 := cell_thru HBL.out q6
      have HL1 : Hid _ := HI.out t hmem
      have HTK : Hid (ts.take (k + 1) = ts.take k ++ [t]) := by
        show _ = _
        have hk2 : k < ts.length := by rw [HC.out]; exact hlt
        rw [List.take_add_one, List.getElem?_eq_getElem hk2]
        simp only [List.getD, List.getElem?_eq_getElem hk2, Option.getD_some] at hg
        rw [hg]
        rfl
      have hii : (k : Int) < l := by omega
      have hin : 0 ≤ (k : Int) := by omega
      have hww : w.heap.size ≤ wr.heap.size := HBL.out.size
      clear hg hmem V
      obtain ⟨Y0, hY0⟩ : ∃ Y0, wr.alloc (.cells #[.int .i64 t.kind, .string (X.str t.name), .int .i64 t.op, .int .i64 t.a, .int .i64 t.b, .int .i64 t.n, .slice a1 l1 c1] 44) = Y0 := ⟨_, rfl⟩
      have z6 : Y0.frozen? ⟨wr.heap.size, 6, none⟩ = false := by subst hY0; exact World.frozen?_alloc_at _ _ _ _ (by simp)
      have bY0 : Below wr.heap.size wr Y0 := by subst hY0; exact bl1 _ _
      have f0 : Y0.cell? ⟨wr.heap.size, 0, none⟩ = some (.int .i64 t.kind) := by subst hY0; exact cell_last rfl rfl
      have f1 : Y0.cell? ⟨wr.heap.size, 1, none⟩ = some (.string (X.str t.name)) := by subst hY0; exact cell_last rfl rfl
      have f2 : Y0.cell? ⟨wr.heap.size, 2, none⟩ = some (.int .i64 t.op) := by subst hY0; exact cell_last rfl rfl
      have f3 : Y0.cell? ⟨wr.heap.size, 3, none⟩ = some (.int .i64 t.a) := by subst hY0; exact cell_last rfl rfl
      have f4 : Y0.cell? ⟨wr.heap.size, 4, none⟩ = some (.int .i64 t.b) := by subst hY0; exact cell_last rfl rfl
      have f5 : Y0.cell? ⟨wr.heap.size, 5, none⟩ = some (.int .i64 t.n) := by subst hY0; exact cell_last rfl rfl
      have f6 : Y0.cell? ⟨wr.heap.size, 6, none⟩ = some (.slice a1 l1 c1) := by subst hY0; exact cell_last rfl rfl
      have SY0 : Hid (Y0.heap.size = wr.heap.size + 1) := by show _ = _; subst hY0; simp
      go_wp2_with fail
      obtain ⟨Y1, hY1⟩ : ∃ Y1, Y0.setCell ⟨wr.heap.size, 6, none⟩ (.slice none 0 0) = Y1 := ⟨_, rfl⟩
      rw [hY1]
      have bY : Below wr.heap.size wr Y1 := by subst hY1; exact bY0.setCell (Nat.le_refl _) _
      have SY : Hid (Y1.heap.size = wr.heap.size + 1) := by show _ = _; subst hY1; rw [World.size_setCell]; exact SY0.out
      have g0 : Y1.cell? ⟨wr.heap.size, 0, none⟩ = some (.int .i64 t.kind) := by subst hY1; rw [World.cell?_setCell_other _ _ _ _ (by simp)]; exact f0
      have g1 : Y1.cell? ⟨wr.heap.size, 1, none⟩ = some (.string (X.str t.name)) := by subst hY1; rw [World.cell?_setCell_other _ _ _ _ (by simp)]; exact f1
      have g2 : Y1.cell? ⟨wr.heap.size, 2, none⟩ = some (.int .i64 t.op) := by subst hY1; rw [World.cell?_setCell_other _ _ _ _ (by simp)]; exact f2
      have g3 : Y1.cell? ⟨wr.heap.size, 3, none⟩ = some (.int .i64 t.a) := by subst hY1; rw [World.cell?_setCell_other _ _ _ _ (by simp)]; exact f3
      have g4 : Y1.cell? ⟨wr.heap.size, 4, none⟩ = some (.int .i64 t.b) := by subst hY1; rw [World.cell?_setCell_other _ _ _ _ (by simp)]; exact f4
      have g5 : Y1.cell? ⟨wr.heap.size, 5, none⟩ = some (.int .i64 t.n) := by subst hY1; rw [World.cell?_setCell_other _ _ _ _ (by simp)]; exact f5
      have g6 : Y1.cell? ⟨wr.heap.size, 6, none⟩ = some (.slice none 0 0) := by subst hY1; exact World.cell?_setCell_same' _ _ _ (by rw [f6]; rfl)
      have zY1 : Y1.frozen? ⟨wr.heap.size, 6, none⟩ = false := by subst hY1; rw [World.frozen?_setCell]; exact z6
      have hbwY : Below w.heap.size w Y1 := HBL.out.trans (bY.mono hww)
      have HVD : Hid _ := HVW.out.below hbwY.drew
      have HSR : Hid _ := HVD.out.src
      have hl1 : l1 * 8 ≤ 140737488355328 := by have := HVW.out.count; have := HL1.out; omega
      have qs : Y1.drew.cell? ⟨b, off + k * 7 + 6, none⟩ = some (.slice a1 l1 c1) := cell_thru hbwY.drew HQ6.out
      have nb : wr.heap.size ≠ b := by omega
      clear f0 f1 f2 f3 f4 f5 f6 z6 q0 q1 q2 q3 q4 q5 q6
      refine wp_region_held_drew (S := (fun w' : World => w'.cell? ⟨b, off + k * 7 + 6, none⟩ = some (.slice a1 l1 c1))) (by kernel_rfl) qs (fun hHeld => ?_)
      refine tk (i := 0) (v := ?_) (tA rfl) (by kernel_rfl) (fun _ _ _ h => h) (Or.inl ⟨by rfl, ?_⟩) (by assumption) ?_
      rotate_left
      · (intro w hSw; (try dsimp only at hSw); go_simp <;> with_reducible rfl)
      simp only [Act.put, List.setIfInBounds_toArray, List.set_cons_zero, List.set_cons_succ]
      refine tk (i := 2) (v := ?_) (tA rfl) (by kernel_rfl) (fun _ _ _ h => h) (Or.inl ⟨by rfl, ?_⟩) (by assumption) ?_
      rotate_left
      · (intro w hSw; (try dsimp only at hSw); go_simp <;> with_reducible rfl)
      simp only [Act.put, List.setIfInBounds_toArray, List.set_cons_zero, List.set_cons_succ]
      refine tk (i := 3) (v := ?_) (tA rfl) (by kernel_rfl) (fun _ _ _ h => h) (Or.inl ⟨by rfl, ?_⟩) (by assumption) ?_
      rotate_left
      · (intro w hSw; (try dsimp only at hSw); go_simp <;> with_reducible rfl)
      simp only [Act.put, List.setIfInBounds_toArray, List.set_cons_zero, List.set_cons_succ]
      refine tk (i := 4) (v := ?_) (tA rfl) (by kernel_rfl) (fun _ _ _ h => h) (Or.inl ⟨by rfl, ?_⟩) (by assumption) ?_
      rotate_left
      · (intro w hSw; (try dsimp only at hSw); go_simp <;> with_reducible rfl)
      simp only [Act.put, List.setIfInBounds_toArray, List.set_cons_zero, List.set_cons_succ]
      refine tk (i := 5) (v := ?_) (tA rfl) (by kernel_rfl) (fun _ _ _ h => h) (Or.inl ⟨by rfl, ?_⟩) (by assumption) ?_
      rotate_left
      · (intro w hSw; (try dsimp only at hSw); go_simp <;> with_reducible rfl)
      simp only [Act.put, List.setIfInBounds_toArray, List.set_cons_zero, List.set_cons_succ]
      refine tk (i := 6) (v := ?_) (tA rfl) (by kernel_rfl) (fun _ _ _ h => h) (Or.inl ⟨by rfl, ?_⟩) (by assumption) ?_
      rotate_left
      · (intro w hSw; (try dsimp only at hSw); go_simp <;> with_reducible rfl)
      simp only [Act.put, List.setIfInBounds_toArray, List.set_cons_zero, List.set_cons_succ]
      refine wpAnyH_ready (rs := [1]) (by kernel_rfl) (by simp) ?_
      refine AllReadyH.cons (tA rfl) (fun K hK => ?_) AllReadyH.nil
      go_simp
      refine hK.out _ _ hHeld (fun hHeld => ?_)
      clear hK K
      try simp only [Act.put, List.setIfInBounds_toArray, List.set_cons_zero, List.set_cons_succ]
      refine wpAnyH_ready (rs := [7]) (by kernel_rfl) (by simp) ?_
      refine AllReadyH.cons (tA rfl) (fun K hK => ?_) AllReadyH.nil
      refine step_append_copy (by rfl) _ _ 26 (by rfl) 2 i1 _ 1 8 Tryz.underlying26 hi1 hz10 hz11 hz12 rfl (by decide) (a := a1) (l := l1) (c := c1) (cs := iC t.words) (by rfl) (by rfl) HSR.out.1 HSR.out.2.1 HSR.out.2.2.1 HSR.out.2.2.2 (by omega) (by omega) ?_
      intro e1 f1 Y2 hoY2 hbY2
      have HY2 : Hid _ := hoY2
      have HB2 : Hid (Below Y1.heap.size Y1 Y2) := ⟨hbY2.os, hbY2.tape, hbY2.output, hbY2.size, hbY2.block⟩
      have gY2 := cell_thru HB2.out g6
      have zY2 : Y2.frozen? ⟨wr.heap.size, 6, none⟩ = false := (HB2.out.frozen (p := ⟨wr.heap.size, 6, none⟩) (by show wr.heap.size < Y1.heap.size; rw [SY.out]; exact Nat.lt_succ_self _)).trans zY1
      have tY2 : Y2.cell? ⟨b, off + k * 7 + 6, none⟩ = some (.slice a1 l1 c1) := cell_thru hbY2 qs
      refine hK.out _ _ tY2 (fun hHeld => ?_)
      clear hK K
      try simp only [Act.put, List.setIfInBounds_toArray, List.set_cons_zero, List.set_cons_succ]
      refine tk (i := 8) (v := ?_) (tA rfl) (by kernel_rfl) (fun _ _ _ h => h) (Or.inl ⟨by rfl, ?_⟩) (by assumption) ?_
      rotate_left
      · (intro w hSw; (try dsimp only at hSw); go_simp <;> with_reducible rfl)
      simp only [Act.put, List.setIfInBounds_toArray, List.set_cons_zero, List.set_cons_succ]
      refine wpAnyH_ready (rs := [9]) (by kernel_rfl) (by simp) ?_
      refine AllReadyH.cons (tA rfl) (fun K hK => ?_) AllReadyH.nil
      go_simp
      refine hK.out _ _ ((World.cell?_setCell_far Y2 ⟨wr.heap.size, 6, none⟩ ⟨b, off + k * 7 + 6, none⟩ _ nb).trans tY2) (fun hHeld => ?_)
      clear hK K
      try simp only [Act.put, List.setIfInBounds_toArray, List.set_cons_zero, List.set_cons_succ]
      refine wpAnyH_done (by kernel_rfl) ?_ _
      clear hHeld
      obtain ⟨Y3, hY3⟩ : ∃ Y3, Y2.setCell ⟨wr.heap.size, 6, none⟩ (.slice e1 l1 f1) = Y3 := ⟨_, rfl⟩
      have p0 : Y3.cell? ⟨wr.heap.size, 0, none⟩ = some (.int .i64 t.kind) := by subst hY3; rw [World.cell?_setCell_other _ _ _ _ (by simp)]; exact cell_thru HB2.out g0
      have p1 : Y3.cell? ⟨wr.heap.size, 1, none⟩ = some (.string (X.str t.name)) := by subst hY3; rw [World.cell?_setCell_other _ _ _ _ (by simp)]; exact cell_thru HB2.out g1
      have p2 : Y3.cell? ⟨wr.heap.size, 2, none⟩ = some (.int .i64 t.op) := by subst hY3; rw [World.cell?_setCell_other _ _ _ _ (by simp)]; exact cell_thru HB2.out g2
      have p3 : Y3.cell? ⟨wr.heap.size, 3, none⟩ = some (.int .i64 t.a) := by subst hY3; rw [World.cell?_setCell_other _ _ _ _ (by simp)]; exact cell_thru HB2.out g3
      have p4 : Y3.cell? ⟨wr.heap.size, 4, none⟩ = some (.int .i64 t.b) := by subst hY3; rw [World.cell?_setCell_other _ _ _ _ (by simp)]; exact cell_thru HB2.out g4
      have p5 : Y3.cell? ⟨wr.heap.size, 5, none⟩ = some (.int .i64 t.n) := by subst hY3; rw [World.cell?_setCell_other _ _ _ _ (by simp)]; exact cell_thru HB2.out g5
      have p6 : Y3.cell? ⟨wr.heap.size, 6, none⟩ = some (.slice e1 l1 f1) := by subst hY3; exact World.cell?_setCell_same' _ _ _ (by rw [gY2]; rfl)
      have B3 : Hid (Below wr.heap.size wr Y3) := by
        show Below _ _ _
        subst hY3
        exact (bY.trans (HB2.out.mono (by rw [SY.out]; omega))).setCell (Nat.le_refl _) _
      have O3 : Hid (Y3.ownsRow (wr.heap.size + 1) 2 1 (.slice e1 l1 f1) l1 (iC t.words)) := by
        show World.ownsRow _ _ _ _ _ _ _
        have h1 : Y2.ownsRow (wr.heap.size + 1) 2 1 (.slice e1 l1 f1) l1 (iC t.words) := own_mono HY2.out (by simp only [World.size_drew]; rw [SY.out]; exact Nat.le_refl _)
        subst hY3
        exact h1.kept (gb_set _ _ _) (.inr fun e => by have := (h1.lt _ e).1; simp at this; omega)
      obtain ⟨Z, hZ⟩ : ∃ Z, Y3.alloc (.cells #[.int .i64 t.kind, .string (X.str t.name), .int .i64 t.op, .int .i64 t.a, .int .i64 t.b, .int .i64 t.n, .slice e1 l1 f1] 44) = Z := ⟨_, rfl⟩
      have bZ : Below Y3.heap.size Y3 Z := by subst hZ; exact bl1 _ _
      have hz3 : wr.heap.size + 1 ≤ Y3.heap.size := by subst hY3; rw [World.size_setCell]; have := HB2.out.size; rw [SY.out] at this; exact this
      have BZ : Hid (Below wr.heap.size wr Z) := B3.out.trans (bZ.mono (by omega))
      have NZ : Hid (Z.ownsRow w.heap.size 44 7 u3 k (tv.flatMap itF)) := own_thru HO.out BZ.out
      have IZ : Hid (ItC w.heap.size Z tv) := HIC.out.below BZ.out
      have OZ : Hid (Z.ownsRow w.heap.size 2 1 (.slice e1 l1 f1) l1 (iC t.words)) := own_mono (own_thru O3.out bZ) (by omega)
      have HWZ : Hid (w.heap.size ≤ Z.heap.size) := by show _ ≤ _; have := BZ.out.size; omega
      have HNC : Hid (∀ j u, (itC t (.slice e1 l1 f1))[j]? = some u → Z.cell? ((⟨Y3.heap.size, 0, none⟩ : Addr).add j) = some u) := by
        intro j u hu
        subst hZ
        rw [Addr.add_lit, Nat.zero_add]
        exact cell_last rfl (by simpa [itC] using hu)
      clear bZ g0 g1 g2 g3 g4 g5 g6 gY2 zY2 tY2 hoY2 hbY2 qs nb zY1
      rw [hY3]
      go_wp2_with (first | (at_builtin; refine wpList_append_lies _ rfl _ _ 22 rfl w.heap.size 44 i2 _ 7 80 Tryz.underlying22 hi2 hz20 hz21 hz22 rfl (by decide) u3 k (tv.flatMap itF) rfl NZ.out ⟨Y3.heap.size, 0, none⟩ 1 1 (itC t (.slice e1 l1 f1)) rfl rfl HNC.out oneIt (by decide) (by unfold maxLen; omega) (by omega) HWZ.out Z.heap.size rfl ?_; intro ga ca w1 ho1 hg1 hat1 hlt1; have HO1 : Hid _ := ho1; have HG1 : Hid _ := hg1; clear ho1 hg1 hat1) | fail)
      have hty : ∀ b o, u3.ownBlock = some b → Z.heap[b]? = some o → ∀ cs fr, o ≠ .cells cs 2 fr := fun b o hb ho cs fr e => by
        obtain ⟨-, cur, e2⟩ := own_cells NZ.out b o hb ho
        rw [e2] at e
        injection e with e3 e4
        exact absurd e4 (by decide)
      have HTY : Hid _ := hty
      have CX : Hid (w1.ownsRow w.heap.size 44 7 (.slice (some ⟨ga, 0, none⟩) (k + 1) ca) (k + 1) ((tv ++ [((t, Value.slice e1 l1 f1) : X.It × Value)]).flatMap itF)) := by
        show World.ownsRow _ _ _ _ _ _ _
        rw [List.flatMap_append]
        simp only [List.flatMap_cons, List.flatMap_nil, List.append_nil]
        exact HO1.out
      have IX : Hid (ItC w.heap.size w1 (tv ++ [((t, Value.slice e1 l1 f1) : X.It × Value)])) := by
        show ItC _ _ _
        have h2 : ItC w.heap.size Z (tv ++ [((t, Value.slice e1 l1 f1) : X.It × Value)]) := fun p hp => by
          rcases List.mem_append.1 hp with hp | hp
          · exact IZ.out p hp
          · simp at hp
            subst hp
            exact ⟨_, _, _, rfl, OZ.out⟩
        exact h2.kept HG1.out HTY.out
      have B4 : Hid (Below w.heap.size w w1) := by
        have hb := HBL.out.trans (BZ.out.mono HBL.out.size)
        exact below_own hb NZ.out HG1.out HWZ.out
      have HT2 : Hid ((tv ++ [((t, Value.slice e1 l1 f1) : X.It × Value)]).map (·.1) = ts.take (k + 1)) := by
        show _ = _
        rw [List.map_append, HTV.out, HTK.out]
        rfl
      clear hty
      go_roundg (l - (k + 1))
      case measure => omega
      case rel => exact ⟨k + 1, _, by first | rfl | (congr 1; omega), by omega, Nat.le_refl _, HT2.out, CX.out, IX.out, B4.out⟩
    · obtain rfl : k = l := by omega
      have hii : ¬ (k : Int) < k := by omega
      go_wp2_with fail
      go_ret
      exact ⟨⟨_, tv, rfl, HTV.out.trans (List.take_of_length_le (by rw [HC.out]; exact Nat.le_refl _)), HO.out, HIC.out⟩, HBL.out⟩
end Go.Proofs.YtgjingleolhkbaaGreatDoor

/- AsmNames walked. (Written by gen_nm.py.) -/
namespace Go.Proofs.YtgjingleolhkbaaGreatDoor
open Go.RowKit Go.Maps Go.Lib
set_option linter.unusedVariables false
set_option linter.unusedSimpArgs false

theorem flat_set {α : Type} (f : α → List Value) (m : Nat) (hm : ∀ x, (f x).length = m) : ∀ (l : List α) (i j : Nat) (x y : α) (u : Value), l[i]? = some x → f y = (f x).set j u → j < m → (l.flatMap f).set (i * m + j) u = (l.set i y).flatMap f
  | [], i, j, x, y, u, h, _, _ => by simp at h
  | z :: l, 0, j, x, y, u, h, hy, hj => by
    simp at h
    subst h
    rw [List.flatMap_cons, List.set_append, if_pos (by rw [hm]; omega), List.set_cons_zero, List.flatMap_cons, hy, Nat.zero_mul, Nat.zero_add]
  | z :: l, i + 1, j, x, y, u, h, hy, hj => by
    simp at h
    rw [List.flatMap_cons, List.set_append, if_neg (by rw [hm, Nat.succ_mul]; omega), hm, List.set_cons_succ, List.flatMap_cons, show (i + 1) * m + j - m = i * m + j by rw [Nat.succ_mul]; omega, flat_set f m hm l i j x y u h hy hj]
/-- The first so many items renamed. -/
def rnP (old new : X.By) (p : X.It × Value) : X.It × Value := (Z.ren old new p.1, p.2)
def tvk (old new : X.By) (k : Nat) (tv : List (X.It × Value)) : List (X.It × Value) := (tv.take k).map (rnP old new) ++ tv.drop k
section
variable {old new : X.By} {tv : List (X.It × Value)} {k : Nat}
theorem tvk_get (hk : k ≤ tv.length) (i : Nat) : (tvk old new k tv)[i]? = if i < k then tv[i]?.map (rnP old new) else tv[i]? := by
  unfold tvk
  by_cases h : i < k
  · rw [if_pos h, List.getElem?_append_left (by rw [List.length_map, List.length_take]; omega), List.getElem?_map, List.getElem?_take, if_pos h]
  · rw [if_neg h, List.getElem?_append_right (by rw [List.length_map, List.length_take]; omega), List.length_map, List.length_take, List.getElem?_drop, Nat.min_eq_left hk, show k + (i - k) = i by omega]
theorem tvk_len (hk : k ≤ tv.length) : (tvk old new k tv).length = tv.length := by
  unfold tvk
  rw [List.length_append, List.length_map, List.length_take, List.length_drop]
  omega
theorem tvk_zero : tvk old new 0 tv = tv := by simp [tvk]
theorem tvk_all : tvk old new tv.length tv = tv.map (rnP old new) := by simp [tvk]
theorem tvk_set (hk : k < tv.length) : tvk old new (k + 1) tv = (tvk old new k tv).set k (rnP old new (tv.getD k (X.noIt, .slice none 0 0))) := by
  apply List.ext_getElem?
  intro i
  rw [tvk_get (by omega)]
  by_cases h : i = k
  · subst h
    rw [if_pos (by omega), List.getElem?_set, if_pos rfl, tvk_len (by omega), if_pos hk]
    simp [List.getD, hk]
  · rw [List.getElem?_set_ne (fun e => h e.symm), tvk_get (by omega)]
    by_cases h2 : i < k
    · rw [if_pos (by omega), if_pos h2]
    · rw [if_neg (by omega), if_neg h2]
theorem tvk_same (hk : k < tv.length) (hn : (tv.getD k (X.noIt, .slice none 0 0)).1.name ≠ old) : tvk old new (k + 1) tv = tvk old new k tv := by
  rw [tvk_set hk]
  have e : rnP old new (tv.getD k (X.noIt, .slice none 0 0)) = tv.getD k (X.noIt, .slice none 0 0) := by unfold rnP; rw [Z.ren_no hn]
  rw [e]
  apply List.ext_getElem?
  intro i
  by_cases h : i = k
  · subst h
    rw [List.getElem?_set, if_pos rfl, tvk_len (by omega), if_pos hk, tvk_get (by omega), if_neg (by omega)]
    simp [List.getD, hk]
  · rw [List.getElem?_set_ne (fun e => h e.symm)]
theorem tvk_row (hk : k < tv.length) (hn : (tv.getD k (X.noIt, .slice none 0 0)).1.name = old) : ((tvk old new k tv).flatMap itF).set (k * 7 + 1) (.string (X.str new)) = (tvk old new (k + 1) tv).flatMap itF := by
  rw [tvk_set hk]
  refine flat_set itF 7 itF_len _ k 1 (tv.getD k (X.noIt, .slice none 0 0)) _ _ ?_ ?_ (by omega)
  · rw [tvk_get (by omega), if_neg (by omega)]
    simp [List.getD, hk]
  · unfold rnP itF itC Z.ren Z.rho
    simp only [hn, if_pos]
    rfl
end

def D0 : X.It × Value := (X.noIt, .slice none 0 0)
/-- What is known of the items that were seen. -/
def Seen (old new : X.By) (ts : List X.It) (k : Nat) : Prop := ∀ j, j < k → (ts.getD j X.noIt).name ≠ new ∧ ((ts.getD j X.noIt).name = old → (ts.getD j X.noIt).kind ≠ 3 ∧ (ts.getD j X.noIt).kind ≠ 4 ∧ (ts.getD j X.noIt).kind ≠ 5 ∧ (ts.getD j X.noIt).op ≠ 19)
def md (old : X.By) (ts : List X.It) (k : Nat) : Bool := (ts.take k).any (Z.isLab old)
theorem md_succ {old : X.By} {ts : List X.It} {k : Nat} (hk : k < ts.length) : md old ts (k + 1) = (md old ts k || Z.isLab old (ts.getD k X.noIt)) := by
  unfold md
  rw [List.take_add_one, List.getElem?_eq_getElem hk, List.any_append]
  simp [List.getD, hk]
theorem seen_succ {old new : X.By} {ts : List X.It} {k : Nat} (h : Seen old new ts k) (h1 : (ts.getD k X.noIt).name ≠ new) (h2 : (ts.getD k X.noIt).name = old → (ts.getD k X.noIt).kind ≠ 3 ∧ (ts.getD k X.noIt).kind ≠ 4 ∧ (ts.getD k X.noIt).kind ≠ 5 ∧ (ts.getD k X.noIt).op ≠ 19) : Seen old new ts (k + 1) := fun j hj => by
  by_cases e : j = k
  · subst e; exact ⟨h1, h2⟩
  · exact h j (by omega)
theorem seen_nm {old new : X.By} {ts : List X.It} (ho : X.name old = true) (hn : X.name new = true) (h : Seen old new ts ts.length) (hm : md old ts ts.length = true) : Z.Nm old new ts := by
  refine ⟨ho, hn, fun t ht => ?_, fun t ht => ?_, ?_⟩
  · obtain ⟨j, hj, rfl⟩ := List.getElem_of_mem ht
    have := (h j hj).1
    simpa [List.getD, hj] using this
  · obtain ⟨j, hj, rfl⟩ := List.getElem_of_mem ht
    have := (h j hj).2
    simpa [List.getD, hj] using this
  · unfold md at hm
    rw [List.take_length, List.any_eq_true] at hm
    obtain ⟨t, ht, e⟩ := hm
    unfold Z.isLab at e
    simp only [Bool.and_eq_true, decide_eq_true_eq] at e
    exact ⟨t, ht, e⟩
/-- The items' row, while it is renamed. -/
structure NR (w wr : World) (ao : Option Addr) (l co : Nat) (old new : X.By) (tv : List (X.It × Value)) (k : Nat) : Prop where
  row : wr.ownsRow w.heap.size 44 7 (.slice ao l co) l ((tvk old new k tv).flatMap itF)
  its : ItC w.heap.size wr tv
  len : tv.length = l
  low : Below w.heap.size w wr
theorem NR.at {w wr : World} {ao : Option Addr} {l co : Nat} {old new : X.By} {tv : List (X.It × Value)} {k : Nat} (h : NR w wr ao l co old new tv k) (hk : k < l) : ∃ g, ao = some ⟨g, 0, none⟩ ∧ w.heap.size ≤ g ∧ wr.frozen? ⟨g, k * 7 + 1, none⟩ = false ∧ (∃ cur, wr.heap[g]? = some (.cells cur 44)) ∧ ∀ j u, j < 7 → (itF (tv.getD k D0))[j]? = some u → wr.cell? ⟨g, k * 7 + j, none⟩ = some u := by
  have hr := h.row
  rcases hr.2 with ⟨e, e2⟩ | ⟨g, cap, cur, e, hb, hh, -⟩
  · omega
  · injection e with e1 _ e3
    subst e1 e3
    refine ⟨g, rfl, hb, hr.frozenAt _, ⟨cur, hh⟩, fun j u hj hu => ?_⟩
    rw [hr.cellAt _ (by omega), flat_at itF 7 D0 itF_len _ k j (by rw [tvk_len (by rw [h.len]; omega), h.len]; exact hk) hj, ← hu]
    congr 2
    simp only [List.getD]
    rw [tvk_get (by rw [h.len]; omega), if_neg (by omega)]
theorem NR.skip {w wr : World} {ao : Option Addr} {l co : Nat} {old new : X.By} {tv : List (X.It × Value)} {k : Nat} (h : NR w wr ao l co old new tv k) (hk : k < l) (hn : (tv.getD k D0).1.name ≠ old) : NR w wr ao l co old new tv (k + 1) :=
  ⟨by rw [tvk_same (by rw [h.len]; exact hk) hn]; exact h.row, h.its, h.len, h.low⟩
theorem NR.put {w wr : World} {g : Nat} {l co : Nat} {old : X.By} {s : ByteArray} {tv : List (X.It × Value)} {k : Nat} (h : NR w wr (some ⟨g, 0, none⟩) l co old s.data.toList tv k) (hk : k < l) (hn : (tv.getD k D0).1.name = old) (hg : w.heap.size ≤ g) (hc : ∃ cur, wr.heap[g]? = some (.cells cur 44)) : NR w (wr.setCell ⟨g, k * 7 + 1, none⟩ (.string s)) (some ⟨g, 0, none⟩) l co old s.data.toList tv (k + 1) := by
  obtain ⟨h1, h2⟩ := h.row.stored (k * 7 + 1) (.string s)
  refine ⟨?_, ?_, h.len, h.low.setCell hg _⟩
  · have e := tvk_row (new := s.data.toList) (by rw [h.len]; exact hk : k < tv.length) hn
    rw [str_eq] at e
    rw [← e]
    exact h1
  · refine h.its.kept h2 fun b o e ho cs fr e2 => ?_
    cases e
    obtain ⟨cur, hc⟩ := hc
    rw [hc] at ho
    cases ho
    revert e2
    simp
set_option maxRecDepth 100000 in
set_option maxHeartbeats 8000000 in
theorem nmW_any {w : World} {a : Option Addr} {l c : Nat} {ts : List X.It} (h : ItsV w a l c ts) (hit : ∀ x ∈ ts, x.words.length * 8 ≤ 140737488355328) (ht : Tab w) (hJ : J.Tab w) (so sn : ByteArray) (hso : so.size ≤ maxLen) (hsn : sn.size ≤ maxLen) :
    Calls Tryz.prog 7 #[.slice a l c, .string so, .string sn] w fun e w' => e = .returned (.bool true) ∧ Below w.heap.size w w' := by
  have HV : Hid _ := h
  have HT : Hid _ := ht
  have HJ : Hid (J.Tab w) := hJ
  have HCT : Hid (ts.length = l) := h.count
  have hrm := h.room
  have hsm := small_any a l c w
  have hnm := rname_any sn hsn w
  have HNO : Hid (∀ W, Calls Tryz.prog 20 #[.string so] W fun e w' => e = .returned (.bool (X.name so.data.toList)) ∧ w' = W) := fun W => rname_any so hso W
  have HSN : Hid (sn.size ≤ maxLen) := hsn
  have HIT : Hid (∀ x ∈ ts, x.words.length * 8 ≤ 140737488355328) := hit
  clear h ht hJ hit hso hsn
  unfold maxLen at hrm
  by_cases hl : l ≤ 400
  rotate_left
  · rw [decide_eq_false hl] at hsm
    go_enter Tryz.func7, Tryz.ntmps7
    go_wp2_with fail
    refine hsm.mono ?_
    rintro e y ⟨rfl, hy⟩
    rw [hy]
    clear hy
    go_wp2_with fail
    refine (live_any _ HT.out HJ.out).mono ?_
    rintro e y2 ⟨rfl, hb⟩
    have HB : Hid _ := hb
    clear hb
    go_wp2_with fail
    go_ret
    exact ⟨rfl, HB.out⟩
  rw [decide_eq_true hl] at hsm
  cases hn : X.name sn.data.toList with
  | false =>
    rw [hn] at hnm
    go_enter Tryz.func7, Tryz.ntmps7
    go_wp2_with fail
    refine hsm.mono ?_
    rintro e y ⟨rfl, hy⟩
    rw [hy]
    clear hy
    go_wp2_with fail
    refine hnm.mono ?_
    rintro e y ⟨rfl, hy⟩
    rw [hy]
    clear hy
    go_wp2_with fail
    refine (live_any _ HT.out HJ.out).mono ?_
    rintro e y2 ⟨rfl, hb⟩
    have HB : Hid _ := hb
    clear hb
    go_wp2_with fail
    go_ret
    exact ⟨rfl, HB.out⟩
  | true =>
  rw [hn] at hnm
  have HNM : Hid _ := hn
  clear hn
  go_enter Tryz.func7, Tryz.ntmps7
  go_wp2_with fail
  refine hsm.mono ?_
  rintro e y ⟨rfl, hy⟩
  rw [hy]
  clear hy
  go_wp2_with fail
  refine hnm.mono ?_
  rintro e y ⟨rfl, hy⟩
  rw [hy]
  clear hy hsm hnm
  go_wp2_with fail
  refine (rcopy_any HV.out (by omega) HIT.out).mono ?_
  rintro e yc ⟨⟨lv, tv, rfl, htv, hrow, hitc⟩, hbc⟩
  obtain ⟨ao, co, rfl⟩ := own_slice hrow
  have HTV : Hid (tv.map (·.1) = ts) := htv
  have hlen : tv.length = l := by rw [← HCT.out, ← htv, List.length_map]
  have HLEN : Hid (tv.length = l) := hlen
  have HNR0 : Hid (NR w yc ao l co so.data.toList sn.data.toList tv 0) := ⟨by rw [tvk_zero]; exact hrow, hitc, hlen, hbc⟩
  have HGET : Hid (∀ k, k < l → ts.getD k X.noIt = (tv.getD k D0).1) := fun k hk => by
    rw [← HTV.out]
    simp [List.getD, HLEN.out, hk]
  clear hrow hitc hbc htv hlen
  go_wp2_with fail
  go_loopg [8, 9] l (fun r mv iv wr => ∃ (k : Nat), r = l - k ∧ iv = .int .i64 k ∧ k ≤ l ∧ mv = .bool (md so.data.toList ts k) ∧ Hid (NR w wr ao l co so.data.toList sn.data.toList tv k) ∧ Hid (Seen so.data.toList sn.data.toList ts k))
  case atStart => exact ⟨0, rfl, rfl, Nat.zero_le _, rfl, HNR0, (fun j hj => by omega : Seen _ _ _ 0)⟩
  case round =>
    obtain ⟨k, rfl, rfl, hk, rfl, HNR, HSE⟩ := hrel
    by_cases hlk : k < l
    · obtain ⟨g, rfl, hg, hfr, hcu, hcell⟩ := HNR.out.at hlk
      have hge := HGET.out k hlk
      obtain ⟨⟨t, tvv⟩, htk⟩ : ∃ p, tv.getD k D0 = p := ⟨_, rfl⟩
      rw [htk] at hcell hge
      have c0 := hcell 0 (.int .i64 t.kind) (by omega) rfl
      have c1 := hcell 1 (.string (X.str t.name)) (by omega) rfl
      have c2 := hcell 2 (.int .i64 t.op) (by omega) rfl
      rw [Nat.add_zero] at c0
      have HTK : Hid (tv.getD k D0 = (t, tvv)) := htk
      have HGE : Hid (ts.getD k X.noIt = t) := hge
      have HG : Hid (w.heap.size ≤ g) := hg
      have HCU : Hid (∃ cur, wr.heap[g]? = some (.cells cur 44)) := hcu
      clear hcell htk hge hg hcu
      by_cases he : t.name = sn.data.toList
      · have he2 : ((X.str t.name).toList == sn.toList) = true := toList_eq' (by rw [str_list]; exact he)
        clear he
        go_wp2_with fail
        refine (live_any _ (HT.out.below HNR.out.low) (J.Tab.below HJ.out HNR.out.low)).mono ?_
        rintro e y2 ⟨rfl, hb⟩
        have HB2 : Hid _ := hb
        clear hb
        go_wp2_with fail
        go_ret
        exact ⟨rfl, HNR.out.low.trans (HB2.out.mono HNR.out.low.size)⟩
      · have he2 : ((X.str t.name).toList == sn.toList) = false := toList_ne' (by rw [str_list]; exact he)
        have HNE : Hid (t.name ≠ sn.data.toList) := he
        clear he
        by_cases hold : t.name = so.data.toList
        rotate_left
        · have ho2 : ((X.str t.name).toList == so.toList) = false := toList_ne' (by rw [str_list]; exact hold)
          have HNR2 : Hid (NR w wr (some ⟨g, 0, none⟩) l co so.data.toList sn.data.toList tv (k + 1)) := HNR.out.skip hlk (by rw [HTK.out]; exact hold)
          have HSE2 : Hid (Seen so.data.toList sn.data.toList ts (k + 1)) := seen_succ HSE.out (by rw [HGE.out]; exact HNE.out) (fun e => absurd (by rw [HGE.out] at e; exact e) hold)
          have HMD : Hid (md so.data.toList ts (k + 1) = md so.data.toList ts k) := by
            show _ = _
            rw [md_succ (by rw [HCT.out]; exact hlk), HGE.out]
            have : Z.isLab so.data.toList t = false := by unfold Z.isLab; rw [decide_eq_false hold, Bool.and_false]
            rw [this, Bool.or_false]
          clear hold
          go_wp2_with fail
          go_roundg (l - (k + 1))
          case measure => omega
          case rel => exact ⟨k + 1, rfl, by go_num, by omega, by rw [HMD.out], HNR2, HSE2⟩
        · have ho2 : ((X.str t.name).toList == so.toList) = true := toList_eq' (by rw [str_list]; exact hold)
          by_cases hbad : t.kind = 4 ∨ t.kind = 5 ∨ t.kind = 3 ∨ t.op = 19
          · clear hold
            have fin : ∀ kd op : Int, t.kind = kd → t.op = op → True := fun _ _ _ _ => trivial
            clear fin
            by_cases k4 : t.kind = 4
            · have e4 : (t.kind == 4) = true := by simpa using k4
              clear k4 hbad
              go_wp2_with fail
              refine (live_any _ (HT.out.below HNR.out.low) (J.Tab.below HJ.out HNR.out.low)).mono ?_
              rintro e y2 ⟨rfl, hb⟩
              have HB2 : Hid _ := hb
              clear hb
              go_wp2_with fail
              go_ret
              exact ⟨rfl, HNR.out.low.trans (HB2.out.mono HNR.out.low.size)⟩
            · have e4 : (t.kind == 4) = false := by simpa using k4
              by_cases k5 : t.kind = 5
              · have e5 : (t.kind == 5) = true := by simpa using k5
                clear k4 k5 hbad
                go_wp2_with fail
                refine (live_any _ (HT.out.below HNR.out.low) (J.Tab.below HJ.out HNR.out.low)).mono ?_
                rintro e y2 ⟨rfl, hb⟩
                have HB2 : Hid _ := hb
                clear hb
                go_wp2_with fail
                go_ret
                exact ⟨rfl, HNR.out.low.trans (HB2.out.mono HNR.out.low.size)⟩
              · have e5 : (t.kind == 5) = false := by simpa using k5
                by_cases k3 : t.kind = 3
                · have e3 : (t.kind == 3) = true := by simpa using k3
                  clear k4 k5 k3 hbad
                  go_wp2_with fail
                  refine (live_any _ (HT.out.below HNR.out.low) (J.Tab.below HJ.out HNR.out.low)).mono ?_
                  rintro e y2 ⟨rfl, hb⟩
                  have HB2 : Hid _ := hb
                  clear hb
                  go_wp2_with fail
                  go_ret
                  exact ⟨rfl, HNR.out.low.trans (HB2.out.mono HNR.out.low.size)⟩
                · have e3 : (t.kind == 3) = false := by simpa using k3
                  have e19 : (t.op == 19) = true := by simp; omega
                  clear k4 k5 k3 hbad
                  go_wp2_with fail
                  refine (live_any _ (HT.out.below HNR.out.low) (J.Tab.below HJ.out HNR.out.low)).mono ?_
                  rintro e y2 ⟨rfl, hb⟩
                  have HB2 : Hid _ := hb
                  clear hb
                  go_wp2_with fail
                  go_ret
                  exact ⟨rfl, HNR.out.low.trans (HB2.out.mono HNR.out.low.size)⟩
          · have k4 : ¬ t.kind = 4 := fun e => hbad (.inl e)
            have k5 : ¬ t.kind = 5 := fun e => hbad (.inr (.inl e))
            have k3 : ¬ t.kind = 3 := fun e => hbad (.inr (.inr (.inl e)))
            have k19 : ¬ t.op = 19 := fun e => hbad (.inr (.inr (.inr e)))
            have e4 : (t.kind == 4) = false := by simpa using k4
            have e5 : (t.kind == 5) = false := by simpa using k5
            have e3 : (t.kind == 3) = false := by simpa using k3
            have e19 : (t.op == 19) = false := by simpa using k19
            have HNR2 : Hid (NR w (wr.setCell ⟨g, k * 7 + 1, none⟩ (.string sn)) (some ⟨g, 0, none⟩) l co so.data.toList sn.data.toList tv (k + 1)) := HNR.out.put hlk (by rw [HTK.out]; exact hold) HG.out HCU.out
            have HSE2 : Hid (Seen so.data.toList sn.data.toList ts (k + 1)) := seen_succ HSE.out (by rw [HGE.out]; exact HNE.out) (fun _ => by rw [HGE.out]; exact ⟨k3, k4, k5, k19⟩)
            have HMD : Hid (md so.data.toList ts (k + 1) = (md so.data.toList ts k || (t.kind == 1))) := by
              show _ = _
              rw [md_succ (by rw [HCT.out]; exact hlk), HGE.out]
              unfold Z.isLab
              rw [decide_eq_true hold, Bool.and_true]
              rfl
            clear hold hbad k4 k5 k3 k19
            cases hmd : md so.data.toList ts k with
            | true =>
              rw [hmd] at HMD
              go_wp2_with fail
              go_roundg (l - (k + 1))
              case measure => omega
              case rel => exact ⟨k + 1, rfl, by go_num, by omega, by rw [HMD.out]; rfl, HNR2, HSE2⟩
            | false =>
              rw [hmd] at HMD
              go_wp2_with fail
              go_roundg (l - (k + 1))
              case measure => omega
              case rel => exact ⟨k + 1, rfl, by go_num, by omega, by rw [HMD.out]; rfl, HNR2, HSE2⟩
    · obtain rfl : k = l := by omega
      have HY3 : Hid (Below w.heap.size w wr) := HNR.out.low
      clear hlk
      cases hmd : md so.data.toList ts k with
      | false =>
        go_wp2_with fail
        refine (live_any _ (HT.out.below HY3.out) (J.Tab.below HJ.out HY3.out)).mono ?_
        rintro e y2 ⟨rfl, hb⟩
        have HB2 : Hid _ := hb
        clear hb
        go_wp2_with fail
        go_ret
        exact ⟨rfl, HY3.out.trans (HB2.out.mono HY3.out.size)⟩
      | true =>
        have HMD : Hid (md so.data.toList ts k = true) := hmd
        clear hmd
        cases hno : X.name so.data.toList with
        | false =>
          have hno2 := HNO.out wr
          rw [hno] at hno2
          go_wp2_with fail
          refine hno2.mono ?_
          rintro e y ⟨rfl, hy⟩
          rw [hy]
          clear hy hno2
          go_wp2_with fail
          refine (live_any _ (HT.out.below HY3.out) (J.Tab.below HJ.out HY3.out)).mono ?_
          rintro e y2 ⟨rfl, hb⟩
          have HB2 : Hid _ := hb
          clear hb
          go_wp2_with fail
          go_ret
          exact ⟨rfl, HY3.out.trans (HB2.out.mono HY3.out.size)⟩
        | true =>
          have hno2 := HNO.out wr
          rw [hno] at hno2
          have HNMM : Hid (Z.Nm so.data.toList sn.data.toList ts) := seen_nm hno HNM.out (by rw [HCT.out]; exact HSE.out) (by rw [HCT.out]; exact HMD.out)
          have HI3 : Hid (ItsV wr ao k co (ts.map (Z.ren so.data.toList sn.data.toList))) := by
            have hr := HNR.out.row
            have hln := HNR.out.len
            have e1 : tvk so.data.toList sn.data.toList k tv = tv.map (rnP so.data.toList sn.data.toList) := by rw [← hln]; exact tvk_all
            rw [e1] at hr
            have e2 : (tv.map (rnP so.data.toList sn.data.toList)).map (·.1) = ts.map (Z.ren so.data.toList sn.data.toList) := by
              rw [← HTV.out, List.map_map, List.map_map]
              rfl
            have e3 : (tv.map (rnP so.data.toList sn.data.toList)).length = k := by rw [List.length_map]; exact hln
            rw [← e3] at hr
            have hic : ItC w.heap.size wr (tv.map (rnP so.data.toList sn.data.toList)) := fun p hp => by
              obtain ⟨q, hq, rfl⟩ := List.mem_map.1 hp
              exact HNR.out.its q hq
            have := its_of_ownC hr hic (fun t ht => by
              rw [e2] at ht
              obtain ⟨u, hu, rfl⟩ := List.mem_map.1 ht
              have hf := HV.out.fit u hu
              refine ⟨?_, hf.2⟩
              unfold Z.ren Z.rho
              simp only
              split
              · rw [Array.length_toList]; exact HSN.out
              · exact hf.1)
            rw [e2, e3] at this
            exact this
          clear hno
          go_wp2_with fail
          refine hno2.mono ?_
          rintro e y ⟨rfl, hy⟩
          rw [hy]
          clear hy hno2
          go_wp2_with fail
          have HAS : Hid (Z.asm (ts.map (Z.ren so.data.toList sn.data.toList)) = Z.asm ts) := Z.asm_ren HNMM.out
          have HF : Hid (OFit (Z.asm ts).1) := (Z.asm_may (fun t hm => (HV.out.fit t hm).2)).1
          have hasm1 := asm_any (HV.out.below HY3.out) (HT.out.below HY3.out) (J.Tab.below HJ.out HY3.out)
          have HAS2 : Hid (∀ W, Below wr.heap.size wr W → Calls Tryz.prog 12 #[.slice ao k co] W (AsmOut W (Z.asm ts))) := fun W hb => by
            rw [← HAS.out]; exact asm_any (HI3.out.below hb) ((HT.out.below HY3.out).below hb) (J.Tab.below (J.Tab.below HJ.out HY3.out) hb)
          obtain ⟨⟨o, zz⟩, hr⟩ : ∃ r, Z.asm ts = r := ⟨_, rfl⟩
          rw [hr] at hasm1 HF HAS2
          simp only at HF
          clear hr HAS HI3 HNMM
          refine hasm1.mono ?_
          rintro e w1 ⟨vd, vs, vr, rfl, o1, o2, o3, hb1⟩
          simp only at o1 o2 o3 ⊢
          have HOV : Hid (O.ObjV w1 (.agg #[.string o.code, vd, vs, vr]) o) := objV_of HF.out o1 o2 o3
          have HN1 : Hid (o.data.length ≤ maxLen ∧ o.syms.length ≤ maxLen ∧ o.rels.length ≤ maxLen) := by
            have q : ∀ {ty k n B : Nat} {v : Value} {cs : List Value}, w1.ownsRow B ty k v n cs → n ≤ maxLen := fun h => by
              rcases h.2 with ⟨-, e⟩ | ⟨g, cap, cur, -, -, -, h1, h2, -⟩
              · omega
              · omega
            exact ⟨q o1, q o2, q o3⟩
          obtain ⟨ad5, cd5, rfl⟩ := own_slice o1
          obtain ⟨as5, cs5, rfl⟩ := own_slice o2
          obtain ⟨ar5, cr5, rfl⟩ := own_slice o3
          obtain ⟨Y5, hY5⟩ : ∃ Y5, w1.alloc (.cells #[.string o.code, .slice ad5 o.data.length cd5, .slice as5 o.syms.length cs5, .slice ar5 o.rels.length cr5] 30) = Y5 := ⟨_, rfl⟩
          have bY5 : Below w1.heap.size w1 Y5 := by subst hY5; exact bl1 _ _
          have m50 : Y5.cell? ⟨w1.heap.size, 0, none⟩ = some (.string o.code) := by subst hY5; exact cellA rfl rfl
          have m51 : Y5.cell? ⟨w1.heap.size, 1, none⟩ = some (.slice ad5 o.data.length cd5) := by subst hY5; exact cellA rfl rfl
          have m52 : Y5.cell? ⟨w1.heap.size, 2, none⟩ = some (.slice as5 o.syms.length cs5) := by subst hY5; exact cellA rfl rfl
          have m53 : Y5.cell? ⟨w1.heap.size, 3, none⟩ = some (.slice ar5 o.rels.length cr5) := by subst hY5; exact cellA rfl rfl
          have HB5 : Hid (Below wr.heap.size wr Y5) := hb1.trans (bY5.mono hb1.size)
          have HO5 : Hid _ := HOV.out.below bY5
          have HS5 : Hid (w1.heap.size < Y5.heap.size) := by subst hY5; show _ < _; simp
          have hasm2 := HAS2.out Y5 HB5.out
          clear o1 o2 o3 hb1 hasm1 bY5 HOV
          generalize hld : o.data.length = ld at m50 m51 m52 m53 hY5 HO5 HN1 ⊢
          generalize hls : o.syms.length = ls at m50 m51 m52 m53 hY5 HO5 HN1 ⊢
          generalize hlr : o.rels.length = lr at m50 m51 m52 m53 hY5 HO5 HN1 ⊢
          generalize hoc : o.code = oc at m50 m51 m52 m53 hY5 HO5 HN1 ⊢
          have HLD : Hid (o.data.length = ld ∧ o.syms.length = ls ∧ o.rels.length = lr ∧ o.code = oc) := ⟨hld, hls, hlr, hoc⟩
          clear hld hls hlr hoc
          go_wp2_with fail
          refine hasm2.mono ?_
          rintro e w2 ⟨vd, vs, vr, rfl, o1, o2, o3, hb2⟩
          simp only at o1 o2 o3 ⊢
          have HOV6 : Hid (O.ObjV w2 (.agg #[.string o.code, vd, vs, vr]) o) := objV_of HF.out o1 o2 o3
          rw [HLD.out.1] at o1
          rw [HLD.out.2.1] at o2
          rw [HLD.out.2.2.1] at o3
          rw [HLD.out.2.2.2] at HOV6
          simp only [HLD.out.2.2.2]
          obtain ⟨ad6, cd6, rfl⟩ := own_slice o1
          obtain ⟨as6, cs6, rfl⟩ := own_slice o2
          obtain ⟨ar6, cr6, rfl⟩ := own_slice o3
          obtain ⟨Y6, hY6⟩ : ∃ Y6, w2.alloc (.cells #[.string oc, .slice ad6 ld cd6, .slice as6 ls cs6, .slice ar6 lr cr6] 30) = Y6 := ⟨_, rfl⟩
          have bY6 : Below w2.heap.size w2 Y6 := by subst hY6; exact bl1 _ _
          have m60 : Y6.cell? ⟨w2.heap.size, 0, none⟩ = some (.string oc) := by subst hY6; exact cellA rfl rfl
          have m61 : Y6.cell? ⟨w2.heap.size, 1, none⟩ = some (.slice ad6 ld cd6) := by subst hY6; exact cellA rfl rfl
          have m62 : Y6.cell? ⟨w2.heap.size, 2, none⟩ = some (.slice as6 ls cs6) := by subst hY6; exact cellA rfl rfl
          have m63 : Y6.cell? ⟨w2.heap.size, 3, none⟩ = some (.slice ar6 lr cr6) := by subst hY6; exact cellA rfl rfl
          have hb6 : Below Y5.heap.size Y5 Y6 := hb2.trans (bY6.mono hb2.size)
          have n50 := O.cell_thru hb6 m50
          have n51 := O.cell_thru hb6 m51
          have n52 := O.cell_thru hb6 m52
          have n53 := O.cell_thru hb6 m53
          have HOA : Hid _ := HO5.out.below hb6
          have HOB : Hid _ := HOV6.out.below bY6
          have hs6 := O.same_any HOA.out HOB.out (by rw [HLD.out.1]; exact HN1.out.1) (by rw [HLD.out.2.1]; exact HN1.out.2.1) (by rw [HLD.out.2.2.1]; exact HN1.out.2.2) true (by simp)
          have HB6 : Hid (Below w.heap.size w Y6) := HY3.out.trans ((HB5.out.trans (hb6.mono HB5.out.size)).mono HY3.out.size)
          clear o1 o2 o3 hb2 bY6 hb6 hasm2 HOV6 HOA HOB HO5 m50 m51 m52 m53
          go_wp2_with fail
          refine hs6.mono ?_
          rintro e w3 ⟨rfl, hb3⟩
          have HB7 : Hid (Below w.heap.size w w3) := HB6.out.trans (hb3.mono HB6.out.size)
          clear hb3 hs6
          go_wp2_with fail
          refine (live_any _ (HT.out.below HB7.out) (J.Tab.below HJ.out HB7.out)).mono ?_
          rintro e y2 ⟨rfl, hb⟩
          have HB2 : Hid _ := hb
          clear hb
          go_wp2_with fail
          go_ret
          exact ⟨rfl, HB7.out.trans (HB2.out.mono HB7.out.size)⟩

end Go.Proofs.YtgjingleolhkbaaGreatDoor
