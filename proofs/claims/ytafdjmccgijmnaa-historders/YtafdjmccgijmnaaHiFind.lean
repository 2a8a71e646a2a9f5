/- A search for an order, with what was found to lead nowhere kept: it finds one if there is one. No walk. -/
import Derived.Below
namespace Go.Proofs.Ytafdjmccgijmnaa
namespace H
set_option linter.unusedVariables false
set_option linter.unusedSimpArgs false
/-- A set of acts, by the bits of a number. -/
def wth (d k : Nat) : Nat := d ||| 2 ^ k
theorem has_wth (d k j : Nat) : (wth d k).testBit j = (d.testBit j || decide (k = j)) := by
  unfold wth
  rw [Nat.testBit_or, Nat.testBit_two_pow]
/-- What a search goes over: how many acts, which must be, which are ahead of which, and what an act makes of an object. -/
structure Pb (σ : Type) where
  n : Nat
  must : Nat → Bool
  early : Nat → Nat → Bool
  step : σ → Nat → Option σ
section
variable {σ : Type} (p : Pb σ)
def Pb.all (d : Nat) : Bool := (List.range p.n).all fun k => !(p.must k) || d.testBit k
def Pb.free (d k : Nat) : Bool := !(d.testBit k) && (List.range p.n).all fun j => !(p.early j k) || d.testBit j
/-- The first order that a search finds. -/
def Pb.find : Nat → Nat → σ → Option (List Nat)
  | 0, d, s => if p.all d = true then some [] else none
  | f + 1, d, s => if p.all d = true then some [] else (List.range p.n).findSome? fun k => if p.free d k = true then (p.step s k).bind fun s' => (Pb.find f (wth d k) s').map (k :: ·) else none
/-- An order that does. -/
def Pb.Ok : Nat → σ → List Nat → Prop
  | d, s, [] => p.all d = true
  | d, s, k :: r => k < p.n ∧ p.free d k = true ∧ ∃ s', p.step s k = some s' ∧ Pb.Ok (wth d k) s' r
/-- How many acts are not done. -/
def Pb.left (d : Nat) : Nat := ((List.range p.n).filter fun k => !(d.testBit k)).length
end
section
variable {σ : Type} {p : Pb σ}
theorem filter_lt {α : Type} {l : List α} {f g : α → Bool} (h : ∀ x ∈ l, g x = true → f x = true) {x : α} (hx : x ∈ l) (hf : f x = true) (hg : g x = false) : (l.filter g).length < (l.filter f).length := by
  induction l with
  | nil => cases hx
  | cons y l ih =>
    have hle : (l.filter g).length ≤ (l.filter f).length := by
      clear ih hx
      induction l with
      | nil => simp
      | cons z l ih2 =>
        have h2 := ih2 (fun q hq => h q (by rcases List.mem_cons.1 hq with rfl | hq; exact List.mem_cons_self; exact List.mem_cons_of_mem _ (List.mem_cons_of_mem _ hq)))
        by_cases hz : g z = true
        · rw [List.filter_cons_of_pos hz, List.filter_cons_of_pos (h z (by simp) hz), List.length_cons, List.length_cons]; omega
        · rw [List.filter_cons_of_neg hz]
          by_cases hz2 : f z = true
          · rw [List.filter_cons_of_pos hz2, List.length_cons]; omega
          · rw [List.filter_cons_of_neg hz2]; exact h2
    rcases List.mem_cons.1 hx with rfl | hx
    · rw [List.filter_cons_of_neg (by rw [hg]; decide), List.filter_cons_of_pos hf, List.length_cons]
      omega
    · have h2 := ih (fun q hq => h q (List.mem_cons_of_mem _ hq)) hx
      by_cases hz : g y = true
      · rw [List.filter_cons_of_pos hz, List.filter_cons_of_pos (h y (by simp) hz), List.length_cons, List.length_cons]; omega
      · rw [List.filter_cons_of_neg hz]
        by_cases hz2 : f y = true
        · rw [List.filter_cons_of_pos hz2, List.length_cons]; omega
        · rw [List.filter_cons_of_neg hz2]; exact h2
theorem left_lt {d k : Nat} (hk : k < p.n) (hf : p.free d k = true) : p.left (wth d k) < p.left d := by
  unfold Pb.free at hf
  have h1 := (Bool.and_eq_true_iff.1 hf).1
  unfold Pb.left
  refine filter_lt (fun x _ hx => ?_) (List.mem_range.2 hk) h1 (by rw [has_wth]; simp)
  rw [has_wth] at hx
  simp at hx
  simp [hx.1]
/-- What is found does. -/
theorem find_sound : ∀ (f : Nat), (∀ d s r, p.find f d s = some r → p.Ok d s r)
  | 0, d, s, r, h => by
    rw [Pb.find] at h
    split at h
    · next ha => cases h; exact ha
    · cases h
  | f + 1, d, s, r, h => by
    rw [Pb.find] at h
    split at h
    · next ha => cases h; exact ha
    · obtain ⟨k, hk, e⟩ := List.exists_of_findSome?_eq_some h
      split at e
      · next hfr =>
        obtain ⟨s', hs, e⟩ := Option.bind_eq_some_iff.1 e
        obtain ⟨r', hr, rfl⟩ := Option.map_eq_some_iff.1 e
        exact ⟨List.mem_range.1 hk, hfr, s', hs, find_sound f _ _ _ hr⟩
      · cases e
/-- If there is an order, one is found. -/
theorem find_complete : ∀ (f : Nat) (d : Nat) (s : σ) (o : List Nat), p.left d ≤ f → p.Ok d s o → (p.find f d s).isSome = true
  | 0, d, s, o, hl, ho => by
    rw [Pb.find]
    cases o with
    | nil => rw [if_pos (show p.all d = true from ho)]; rfl
    | cons k r =>
      obtain ⟨hk, hfr, -⟩ := ho
      have := left_lt hk hfr
      omega
  | f + 1, d, s, o, hl, ho => by
    rw [Pb.find]
    split
    · rfl
    · next ha =>
      cases o with
      | nil => exact absurd ho ha
      | cons k r =>
        obtain ⟨hk, hfr, s', hs, hr⟩ := ho
        have hlt := left_lt hk hfr
        have hfind := find_complete f (wth d k) s' r (by omega) hr
        cases hq : p.find f (wth d k) s' with
        | none => rw [hq] at hfind; cases hfind
        | some q =>
          rw [List.findSome?_isSome_iff]
          exact ⟨k, List.mem_range.2 hk, by rw [if_pos hfr, hs]; simp [hq]⟩
end
end H
end Go.Proofs.Ytafdjmccgijmnaa
