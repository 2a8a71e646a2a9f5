/- The answers that live asks for. No walk. -/
import Derived.Test.YtafdjmccgijmnaaHiRen
namespace Go.Proofs.Ytafdjmccgijmnaa
open Go.RowKit A Go.Maps
set_option linter.unusedVariables false
set_option linter.unusedSimpArgs false
namespace H
def ts2 (n : Int) : List Ac := [⟨0, 3, { data := #[113] }, 5, 0, 3, 1⟩, ⟨1, 4, { data := #[113] }, 0, 1, 2, n⟩]
def os1 : List At := [⟨{ data := #[113] }, 1, 0, []⟩]
theorem os1_may : mayAll os1 = true := by kernel_rfl
theorem ts2_may (n : Int) : mayH (ts2 n) = true := by kernel_rfl
theorem two_form {n : Int} {o : List Nat} (h : (Pf (ts2 n)).Ok 0 os1 o) : o = [0, 1] ∨ o = [1, 0] := by
  have h0 := ok_must (p := Pf (ts2 n)) (k := 0) (by show 0 < 2; decide) (by rfl) o 0 os1 h (by decide)
  have h1 := ok_must (p := Pf (ts2 n)) (k := 1) (by show 1 < 2; decide) (by rfl) o 0 os1 h (by decide)
  match o, h, h0, h1 with
  | [], _, h0, _ => cases h0
  | [a], _, h0, h1 => simp at h0 h1; omega
  | a :: b :: r, h, h0, h1 =>
    have hn := ok_new _ _ _ h
    have ha : a < 2 := (hn a (by simp)).2
    have hb : b < 2 := (hn b (by simp)).2
    obtain ⟨-, -, s', -, h2⟩ := h
    have hn2 := ok_new _ _ _ h2
    have hab := (hn2 b (by simp)).1
    rw [has_wth, Bool.or_eq_false_iff, decide_eq_false_iff_not] at hab
    have hr : r = [] := by
      cases r with
      | nil => rfl
      | cons c r =>
        exfalso
        have hc : c < 2 := (hn2 c (by simp)).2
        have hca := (hn2 c (by simp)).1
        obtain ⟨-, -, s2, -, h3⟩ := h2
        have hcb := (ok_new _ _ _ h3 c (by simp)).1
        rw [has_wth, Bool.or_eq_false_iff, decide_eq_false_iff_not] at hca hcb
        have := hab.2
        have := hca.2
        have := hcb.2
        omega
    subst hr
    have := hab.2
    rcases (show a = 0 ∧ b = 1 ∨ a = 1 ∧ b = 0 by omega) with ⟨rfl, rfl⟩ | ⟨rfl, rfl⟩
    · exact .inl rfl
    · exact .inr rfl
def os5 : List At := [⟨{ data := #[113] }, 1, 0, [5]⟩]
theorem put_first (n : Int) : stp (ts2 n) os1 0 = some os5 := by kernel_rfl
theorem get5 : stp (ts2 5) os5 1 = some os1 := by kernel_rfl
theorem get5e : stp (ts2 5) os1 1 = none := by kernel_rfl
theorem getm : stp (ts2 (-1)) os1 1 = some os1 := by kernel_rfl
theorem getm5 : stp (ts2 (-1)) os5 1 = none := by kernel_rfl
theorem put_m (n : Int) : stp (ts2 n) os1 0 = some os5 := put_first n
theorem get6 : stp (ts2 6) os5 1 = none := by kernel_rfl
theorem get6e : stp (ts2 6) os1 1 = none := by kernel_rfl
theorem ok5 : (Pf (ts2 5)).Ok 0 os1 [0, 1] := ⟨by show 0 < 2; decide, by kernel_rfl, os5, put_first 5, by show 1 < 2; decide, by kernel_rfl, os1, get5, by show (Pf (ts2 5)).all _ = true; kernel_rfl⟩
theorem okm : (Pf (ts2 (-1))).Ok 0 os1 [1, 0] := ⟨by show 1 < 2; decide, by kernel_rfl, os1, getm, by show 0 < 2; decide, by kernel_rfl, os5, put_first _, by show (Pf (ts2 (-1))).all _ = true; kernel_rfl⟩
theorem only5 {o : List Nat} (h : (Pf (ts2 5)).Ok 0 os1 o) : o = [0, 1] := by
  rcases two_form h with rfl | rfl
  · rfl
  · obtain ⟨-, -, s', hs, -⟩ := h
    have : stp (ts2 5) os1 1 = some s' := hs
    rw [get5e] at this
    cases this
theorem onlym {o : List Nat} (h : (Pf (ts2 (-1))).Ok 0 os1 o) : o = [1, 0] := by
  rcases two_form h with rfl | rfl
  · obtain ⟨-, -, s', hs, -, -, s2, hs2, -⟩ := h
    have h1 : stp (ts2 (-1)) os1 0 = some s' := hs
    rw [put_first] at h1
    cases h1
    have h2 : stp (ts2 (-1)) os5 1 = some s2 := hs2
    rw [getm5] at h2
    cases h2
  · rfl
theorem bad6 : (Pf (ts2 6)).Bad 0 os1 := fun o h => by
  rcases two_form h with rfl | rfl
  · obtain ⟨-, -, s', hs, -, -, s2, hs2, -⟩ := h
    have h1 : stp (ts2 6) os1 0 = some s' := hs
    rw [put_first] at h1
    cases h1
    have h2 : stp (ts2 6) os5 1 = some s2 := hs2
    rw [get6] at h2
    cases h2
  · obtain ⟨-, -, s', hs, -⟩ := h
    have : stp (ts2 6) os1 1 = some s' := hs
    rw [get6e] at this
    cases this
end H
end Go.Proofs.Ytafdjmccgijmnaa
