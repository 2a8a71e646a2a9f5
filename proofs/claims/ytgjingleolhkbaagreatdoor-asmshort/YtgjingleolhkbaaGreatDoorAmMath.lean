/- What an assembler makes of items, as plain functions: no walk. -/
import Derived.Test.YtgjingleolhkbaaGreatDoorAsMath
import Derived.Test.YtgjingleolhkbaaGreatDoorFormMath
namespace Go.Proofs.YtgjingleolhkbaaGreatDoor
namespace Z
set_option linter.unusedVariables false
set_option linter.unusedSimpArgs false

def place (t : X.It) : Bool := decide (t.kind = 1) || decide (t.kind = 3)
def shown (t : X.It) : Bool := decide (t.kind = 4) || decide (t.kind = 5)
def shortOf (op : Int) : Int := if op = 20 then 25 else if op = 21 then 26 else if op = 22 then 27 else 0
def jump (t : X.It) : Bool := decide (shortOf t.op ≠ 0)
def isLab (nm : X.By) (t : X.It) : Bool := decide (t.kind = 1) && decide (t.name = nm)
def lab (ts : List X.It) (nm : X.By) : Option Nat := ts.findIdx? (isLab nm)
def labN (ts : List X.It) (nm : X.By) : Nat := (lab ts nm).getD 0
def nms (p : X.It → Bool) (ts : List X.It) : List X.By := (ts.filter p).map (·.name)
def unl (p : X.It → Bool) (ts : List X.It) : Bool := decide (nms p ts).Nodup
def unk (ts : List X.It) : Bool := ts.any fun t => (shown t || jump t) && (lab ts t.name).isNone
/-- What is wrong with names. -/
def nameE (ts : List X.It) : Nat := if unl place ts = true ∧ unl shown ts = true then (if unk ts = true then 6 else 0) else 5

theorem nms_snoc_no {p : X.It → Bool} {ts : List X.It} {t : X.It} (h : p t = false) : nms p (ts ++ [t]) = nms p ts := by simp [nms, h]
theorem nms_snoc_yes {p : X.It → Bool} {ts : List X.It} {t : X.It} (h : p t = true) : nms p (ts ++ [t]) = nms p ts ++ [t.name] := by simp [nms, h]
theorem nms_len (p : X.It → Bool) (ts : List X.It) : (nms p ts).length ≤ ts.length := by unfold nms; rw [List.length_map]; exact List.length_filter_le _ _
theorem nms_sub {p : X.It → Bool} (ts : List X.It) (k : Nat) : List.Sublist (nms p (ts.take k)) (nms p ts) := (((List.take_sublist k ts).filter p).map _)
theorem take_snoc {ts : List X.It} {k : Nat} {t : X.It} (h : ts[k]? = some t) : ts.take (k + 1) = ts.take k ++ [t] := by rw [List.take_add_one, h]; rfl
theorem unl_no {p : X.It → Bool} {ts : List X.It} {k : Nat} {t : X.It} (h : ts[k]? = some t) (hp : p t = true) (hm : t.name ∈ nms p (ts.take k)) : unl p ts = false := by
  unfold unl
  refine decide_eq_false fun hn => ?_
  have h1 := (nms_sub (p := p) ts (k + 1)).nodup hn
  rw [take_snoc h, nms_snoc_yes hp] at h1
  rw [List.nodup_append] at h1
  exact h1.2.2 _ hm _ (by simp) rfl
/-- The labels are where they are, each once. -/
def Once (ts : List X.It) : Prop := ∀ i j nm, i < ts.length → j < ts.length → isLab nm (ts.getD i X.noIt) = true → isLab nm (ts.getD j X.noIt) = true → i = j
theorem nodup_once : ∀ (ts : List X.It), (nms place ts).Nodup → Once ts
  | [], _, i, j, nm, hi, _, _, _ => by simp at hi
  | t :: ts, h, i, j, nm, hi, hj, h1, h2 => by
    have hr : (nms place ts).Nodup := by
      by_cases hp : place t = true
      · unfold nms at h ⊢; rw [List.filter_cons_of_pos hp, List.map_cons] at h; exact (List.nodup_cons.1 h).2
      · unfold nms at h ⊢; rw [List.filter_cons_of_neg hp] at h; exact h
    have key : ∀ k, k < ts.length → isLab nm t = true → isLab nm (ts.getD k X.noIt) = true → False := fun k hk e1 e2 => by
      simp only [isLab, Bool.and_eq_true, decide_eq_true_eq] at e1 e2
      have hp : place t = true := by simp [place, e1.1]
      unfold nms at h
      rw [List.filter_cons_of_pos hp, List.map_cons] at h
      refine (List.nodup_cons.1 h).1 (List.mem_map.2 ⟨ts.getD k X.noIt, List.mem_filter.2 ⟨by simp [List.getD, hk], by unfold place; rw [e2.1]; rfl⟩, by rw [e2.2, e1.2]⟩)
    cases i with
    | zero =>
      cases j with
      | zero => rfl
      | succ j => exact (key j (by simpa using hj) (by simpa using h1) (by simpa using h2)).elim
    | succ i =>
      cases j with
      | zero => exact (key i (by simpa using hi) (by simpa using h2) (by simpa using h1)).elim
      | succ j =>
        have := nodup_once ts hr i j nm (by simpa using hi) (by simpa using hj) (by simpa using h1) (by simpa using h2)
        omega
theorem lab_some {ts : List X.It} {nm : X.By} {i : Nat} (h : lab ts nm = some i) : i < ts.length ∧ isLab nm (ts.getD i X.noIt) = true := by
  unfold lab at h
  obtain ⟨h1, h2, -⟩ := List.findIdx?_eq_some_iff_getElem.1 h
  exact ⟨h1, by simpa [List.getD, h1] using h2⟩
theorem lab_none {ts : List X.It} {nm : X.By} (h : lab ts nm = none) : ∀ i, i < ts.length → isLab nm (ts.getD i X.noIt) = false := by
  intro i hi
  unfold lab at h
  have := List.findIdx?_eq_none_iff.1 h ts[i] (List.getElem_mem hi)
  simpa [List.getD, hi] using this
theorem lab_of {ts : List X.It} {nm : X.By} {i : Nat} (ho : Once ts) (hi : i < ts.length) (h : isLab nm (ts.getD i X.noIt) = true) : lab ts nm = some i := by
  cases hl : lab ts nm with
  | none => rw [lab_none hl i hi] at h; cases h
  | some j => rw [ho j i nm (lab_some hl).1 hi (lab_some hl).2 h]

/-! ### Lengths of jumps -/
def sz (op : Int) : Int := J.I.size op
/-- Where each piece begins, and where all end. -/
def beg (ops : List Int) (k : Nat) : Int := ((ops.take k).map sz).sum
def ats (ops : List Int) : List Int := (List.range ops.length).map (beg ops)
def tot (ops : List Int) : Int := beg ops ops.length
def far (ops as : List Int) (i k : Nat) : Int := as.getD k 0 - (as.getD i 0 + sz (ops.getD i 0))
def tooFar (ts : List X.It) (ops as : List Int) (j : Nat × Nat) : Bool := decide (ops.getD j.1 0 ≠ (ts.getD j.1 X.noIt).op) && (decide (far ops as j.1 j.2 < -128) || decide (127 < far ops as j.1 j.2))
def jumpsOf (ts : List X.It) (l : List (X.It × Nat)) : List (Nat × Nat) := (l.filter fun p => jump p.1).map fun p => (p.2, labN ts p.1.name)
def js (ts : List X.It) : List (Nat × Nat) := jumpsOf ts ts.zipIdx
def op0 (t : X.It) : Int := if jump t = true then shortOf t.op else t.op
def lens (ts : List X.It) (as : List Int) : List (Nat × Nat) → List Int → List Int
  | [], ops => ops
  | j :: r, ops => lens ts as r (if tooFar ts ops as j = true then ops.set j.1 (ts.getD j.1 X.noIt).op else ops)
def anyFar (ts : List X.It) (ops : List Int) : Bool := (js ts).any (tooFar ts ops (ats ops))
def settle (ts : List X.It) : Nat → List Int → List Int
  | 0, ops => ops
  | n + 1, ops => if anyFar ts ops = true then settle ts n (lens ts (ats ops) (js ts) ops) else ops
/-- The instructions, each jump as long as it must be. -/
def ops (ts : List X.It) : List Int := settle ts ts.length (ts.map op0)

theorem beg_zero (ops : List Int) : beg ops 0 = 0 := by simp [beg]
theorem beg_succ (ops : List Int) {k : Nat} (h : k < ops.length) : beg ops (k + 1) = beg ops k + sz (ops.getD k 0) := by
  unfold beg
  rw [List.take_add_one, List.getElem?_eq_getElem h, List.map_append, List.sum_append]
  simp [List.getD, h]
theorem ats_len (ops : List Int) : (ats ops).length = ops.length := by simp [ats]
theorem ats_at (ops : List Int) {k : Nat} (h : k < ops.length) : (ats ops).getD k 0 = beg ops k := by simp [ats, List.getD, h]
theorem lens_len (ts : List X.It) (as : List Int) : ∀ (l : List (Nat × Nat)) (ops : List Int), (lens ts as l ops).length = ops.length
  | [], ops => rfl
  | j :: r, ops => by
    rw [lens, lens_len ts as r]
    split <;> simp
theorem settle_len (ts : List X.It) : ∀ (n : Nat) (ops : List Int), (settle ts n ops).length = ops.length
  | 0, ops => rfl
  | n + 1, ops => by
    rw [settle]
    split
    · rw [settle_len ts n, lens_len]
    · rfl
theorem ops_len (ts : List X.It) : (ops ts).length = ts.length := by unfold ops; rw [settle_len]; simp
theorem lens_skip {ts : List X.It} {as ops : List Int} : ∀ {a b : List (Nat × Nat)}, (∀ j ∈ a, tooFar ts ops as j = false) → lens ts as (a ++ b) ops = lens ts as b ops
  | [], b, _ => rfl
  | j :: a, b, h => by
    rw [List.cons_append, lens, h j (by simp)]
    simp only [Bool.false_eq_true, if_false]
    exact lens_skip (fun x hx => h x (by simp [hx]))
/-- How many jumps are short. -/
def shorts (ts : List X.It) (ops : List Int) : Nat := ((js ts).filter fun j => decide (ops.getD j.1 0 ≠ (ts.getD j.1 X.noIt).op)).length

end Z
end Go.Proofs.YtgjingleolhkbaaGreatDoor
