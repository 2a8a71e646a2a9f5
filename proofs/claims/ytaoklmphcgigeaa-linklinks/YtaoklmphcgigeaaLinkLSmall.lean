/- What the statements' small comes to. -/
import Derived.Test.YtaoklmphcgigeaaLinkLive
namespace Go.Proofs.Ytaoklmphcgigeaa
open Go.RowKit Go.Lib
set_option linter.unusedVariables false
set_option linter.unusedSimpArgs false

def smallFrom : Nat → List ObjD → Bool
  | _, [] => true
  | n, o :: l => if 300 < n + o.syms.length + o.rels.length then false else smallFrom (n + o.syms.length + o.rels.length) l
def smallB (os : List ObjD) : Bool := decide (os.length ≤ 20) && smallFrom 0 os
theorem smallFrom_each : ∀ (l : List ObjD) (n : Nat), smallFrom n l = true → ∀ o ∈ l, o.syms.length ≤ 300 ∧ o.rels.length ≤ 300
  | [], n, h, o, ho => by cases ho
  | x :: l, n, h, o, ho => by
    unfold smallFrom at h
    split at h
    · cases h
    · rcases List.mem_cons.1 ho with rfl | ho
      · omega
      · exact smallFrom_each l _ h o ho
theorem smallB_each {os : List ObjD} (h : smallB os = true) : os.length ≤ 20 ∧ ∀ o ∈ os, o.syms.length ≤ 300 ∧ o.rels.length ≤ 300 := by
  unfold smallB at h
  simp only [Bool.and_eq_true, decide_eq_true_eq] at h
  exact ⟨h.1, smallFrom_each os 0 h.2⟩
theorem smallFrom_drop {os : List ObjD} {k n : Nat} {d : ObjD} (hk : os[k]? = some d) : smallFrom n (os.drop k) = if 300 < n + d.syms.length + d.rels.length then false else smallFrom (n + d.syms.length + d.rels.length) (os.drop (k + 1)) := by
  obtain ⟨hlt, e⟩ := List.getElem?_eq_some_iff.1 hk
  rw [List.drop_eq_getElem_cons hlt, e]
  rfl

set_option maxRecDepth 100000 in
set_option maxHeartbeats 8000000 in
theorem small_any {w : World} {a : Option Addr} {l c : Nat} {os : List ObjD} (h : ObjsV w a l c os) (hL : ∀ o ∈ os, Len 140737488355328 o) :
    Calls Try.prog 9 #[.slice a l c] w fun e w' => e = .returned (.bool (smallB os)) ∧ Below w.heap.size w w' := by
  have HV : Hid _ := h
  have HL : Hid _ := hL
  have hcnt := h.count
  clear h hL
  by_cases hbig : (20 : Int) < l
  · have HNO : Hid (smallB os = false) := by show _ = _; unfold smallB; rw [show decide (os.length ≤ 20) = false from decide_eq_false (by omega), Bool.false_and]
    go_enter Try.func9, Try.ntmps9
    go_wp2
    go_ret
    exact ⟨by rw [HNO.out]; rfl, Below.refl _ _⟩
  have HYES : Hid (smallB os = smallFrom 0 os) := by show _ = _; unfold smallB; rw [show decide (os.length ≤ 20) = true from decide_eq_true (by omega), Bool.true_and]
  go_enter Try.func9, Try.ntmps9
  go_wp2_with fail
  go_loopg [3, 4] l (fun r nv iv wq => ∃ (k n : Nat), iv = .int .i64 k ∧ nv = .int .i64 n ∧ k ≤ l ∧ l - k ≤ r ∧ n ≤ 300 ∧ Hid (smallB os = smallFrom n (os.drop k)) ∧ Hid (Below w.heap.size w wq))
  case atStart => exact ⟨0, 0, rfl, rfl, Nat.zero_le _, by omega, by omega, HYES.out, Below.refl _ _⟩
  case round =>
    obtain ⟨k, n, rfl, rfl, hk, hr, hn, HA, HB⟩ := hrel
    by_cases hlt : k < l
    · rcases HV.out.cells with h0 | ⟨b, off, hA, hc⟩
      · omega
      obtain ⟨s, hC, hO⟩ := hc k hlt
      have hC := hC.below HB.out
      obtain ⟨d, hd⟩ : ∃ d, os[k]? = some d := ⟨os[k]'(by omega), by simp⟩
      have hg : os.getD k noObj = d := by simp [List.getD, hd]
      rw [hg] at hC hO
      have HD : Hid _ := smallFrom_drop (n := n) hd
      obtain ⟨hl1, hl2, hl3⟩ := HL.out d (List.mem_of_getElem? hd)
      have h2c := hO.syms.count
      have h3c := hO.rels.count
      rw [h2c, h3c] at HD
      obtain ⟨k0, k1, k2, k3⟩ := hC
      obtain ⟨a1, l1, c1, a2, l2, c2, a3, l3, c3⟩ := s
      simp only at k1 k2 k3 h2c h3c HD
      have hs2 : l2 ≤ 140737488355328 := by omega
      have hs3 : l3 ≤ 140737488355328 := by omega
      subst hA
      have hin : 0 ≤ (k : Int) := by omega
      have hii : (k : Int) < l := by omega
      clear hc hO hg hd k0 k1 hl1 hl2 hl3 h2c h3c
      go_wp2_with fail
      go_region
      by_cases hbg : 300 < n + l2 + l3
      · have HE : Hid (smallB os = false) := by show _ = _; rw [HA.out, HD.out, if_pos hbg]
        have hbi : (300 : Int) < (n : Int) + l2 + l3 := by omega
        clear HA HD
        go_wp2
        go_ret
        exact ⟨by rw [HE.out]; rfl, HB.out.drew⟩
      · have HE : Hid (smallB os = smallFrom (n + l2 + l3) (os.drop (k + 1))) := by show _ = _; rw [HA.out, HD.out, if_neg hbg]
        have hbi : ¬ (300 : Int) < (n : Int) + l2 + l3 := by omega
        clear HA HD
        go_wp2_with fail
        go_roundg (l - (k + 1))
        case measure => omega
        case rel => exact ⟨k + 1, n + l2 + l3, by go_num, by go_num, by omega, Nat.le_refl _, by omega, HE.out, HB.out.drew⟩
    · obtain rfl : k = l := by omega
      have HF : Hid (smallB os = true) := by
        have := HA.out
        rw [show os.drop k = [] from by rw [← hcnt]; simp] at this
        exact this
      have hii : ¬ (k : Int) < k := by omega
      go_wp2
      go_ret
      exact ⟨by rw [HF.out]; rfl, HB.out⟩
end Go.Proofs.Ytaoklmphcgigeaa
