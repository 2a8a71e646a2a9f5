/- ins.Decode. -/
import Derived.Test.YtcllbbdkihmpgaaDoorInsReadB
namespace Go.Proofs.YtcllbbdkihmpgaaDoor
open Go.RowKit
set_option linter.unusedVariables false
attribute [local go_sem ↓] Go.wp_at_zero Go.wp_at_succ

abbrev decV (i : Value) (n e : Int) : Value := .tuple #[i, .int .i64 n, .int .i64 e]
/-- What Decode answers. -/
def I.cut (s : ByteArray) (at' : Int) : ByteArray := s.extract at'.toNat s.size
def I.decR (s : ByteArray) (at' : Int) : Value :=
  if at' < 0 ∨ (s.size : Int) < at' then decV (insW 0 0 0 0) 0 1
  else if I.dOk (I.cut s at') = true then decV (insW (I.hd (I.cut s at')) (I.dA (I.cut s at')) (I.dB (I.cut s at')) (I.dN (I.cut s at'))) (at' + I.psize (I.hd (I.cut s at'))) 0
  else decV (insW 0 0 0 0) 0 9

set_option maxRecDepth 100000 in
set_option maxHeartbeats 8000000 in
theorem dec_arg (s : ByteArray) (a : Int) (h : a < 0 ∨ (s.size : Int) < a) (w : World) :
    Calls Tryd.prog 14 #[.string s, .int .i64 a] w fun e w' => e = .returned (decV (insW 0 0 0 0) 0 1) ∧ Below w.heap.size w w' := by
  rcases (show a < 0 ∨ (0 ≤ a ∧ (s.size : Int) < a) by omega) with h | ⟨h, h'⟩
  all_goals
    go_enter Tryd.func14, Tryd.ntmps14
    go_wp2
    exact bodyPost_ret (v := decV (insW 0 0 0 0) 0 1) (by simp [results, Tryd.results14, go_sem]) rfl ⟨rfl, bl1 _ _⟩

set_option maxRecDepth 100000 in
set_option maxHeartbeats 8000000 in
theorem dec_in (s : ByteArray) (a : Int) (h0 : 0 ≤ a) (h1 : a ≤ (s.size : Int)) (hm : s.size ≤ 9223372036854775000) (w : World) (ht : Tab w) :
    Calls Tryd.prog 14 #[.string s, .int .i64 a] w fun e w' => e = .returned (if I.dOk (I.cut s a) = true then decV (insW (I.hd (I.cut s a)) (I.dA (I.cut s a)) (I.dB (I.cut s a)) (I.dN (I.cut s a))) (a + I.psize (I.hd (I.cut s a))) 0 else decV (insW 0 0 0 0) 0 9) ∧ Below w.heap.size w w' := by
  have HR : Hid (∀ w, Tab w → Calls Tryd.prog 27 #[.string (s.extract a.toNat s.size)] w fun e w' => e = .returned (rdV (I.cut s a)) ∧ Below w.heap.size w w') := fun w ht => read_any _ w ht
  unfold rdV at HR
  obtain ⟨op, hop⟩ : ∃ op, I.hd (I.cut s a) = op := ⟨_, rfl⟩
  have hz : I.dOk (I.cut s a) = true → 0 ≤ I.psize op ∧ I.psize op ≤ 10 := by
    intro h
    unfold I.dOk at h
    have h1 := of_decide_eq_true (Bool.and_eq_true_iff.1 h).1
    rw [hop] at h1
    have := I.psize_size op ⟨h1.2.1, h1.2.2.1⟩
    have := I.size_pos h1.2.1 h1.2.2.1
    omega
  rw [hop] at HR
  rw [hop]
  generalize I.dA (I.cut s a) = da at *
  generalize I.dB (I.cut s a) = db at *
  generalize I.dN (I.cut s a) = dn at *
  generalize I.psize op = z at *
  cases hx : I.dOk (I.cut s a) with
  | false =>
    rw [hx] at HR
    rw [if_neg (by decide)] at HR
    rw [if_neg (by decide)]
    clear hz hop hx
    go_enter Tryd.func14, Tryd.ntmps14
    go_wp2_with fail
    refine (HR.out _ (ht.alloc _)).mono ?_
    rintro e w1 ⟨rfl, hb1⟩
    obtain ⟨hc1, hf1⟩ := bcell hb1
    have hz1 := hb1.size
    simp at hz1
    have ki : ∀ o, w1.cell? ⟨w.heap.size, o, none⟩ = (#[.int .i64 0, .int .i64 0, .int .i64 0, .int .i64 0] : Array Value)[o]? := fun o => by rw [hc1 _ _ (by simp)]; simp
    have kz : ∀ o, w1.frozen? ⟨w.heap.size, o, none⟩ = false := fun o => (hf1 _ _ (by simp)).trans (World.frozen?_alloc_at _ _ _ _ rfl)
    have zi : w.heap.size < w1.heap.size := by omega
    have q1 : Below w.heap.size w w1 := (bl1 _ _).trans (hb1.mono (by simp))
    clear hc1 hf1 hb1
    go_wp2
    refine bodyPost_ret (v := decV (insW 0 0 0 0) 0 9) (by simp [results, Tryd.results14, go_sem, ki, zi]) rfl ⟨rfl, ?_⟩
    refine Below.alloc ?_ (by simp; omega) _
    repeat (refine Below.setCell ?_ (by simp) _)
    exact q1
  | true =>
    rw [hx] at HR
    rw [if_pos rfl] at HR
    rw [if_pos rfl]
    obtain ⟨z0, z1⟩ := hz hx
    clear hz hop hx
    have hw : IntKind.i64.wrap (a + z) = a + z := by rw [IntKind.wrap_i64]; omega
    go_enter Tryd.func14, Tryd.ntmps14
    go_wp2_with fail
    refine (HR.out _ (ht.alloc _)).mono ?_
    rintro e w1 ⟨rfl, hb1⟩
    obtain ⟨hc1, hf1⟩ := bcell hb1
    have hz1 := hb1.size
    simp at hz1
    have ki : ∀ o, w1.cell? ⟨w.heap.size, o, none⟩ = (#[.int .i64 0, .int .i64 0, .int .i64 0, .int .i64 0] : Array Value)[o]? := fun o => by rw [hc1 _ _ (by simp)]; simp
    have kz : ∀ o, w1.frozen? ⟨w.heap.size, o, none⟩ = false := fun o => (hf1 _ _ (by simp)).trans (World.frozen?_alloc_at _ _ _ _ rfl)
    have zi : w.heap.size < w1.heap.size := by omega
    have q1 : Below w.heap.size w w1 := (bl1 _ _).trans (hb1.mono (by simp))
    clear hc1 hf1 hb1
    go_wp2
    refine bodyPost_ret (v := decV (insW op da db dn) (a + z) 0) (by simp [results, Tryd.results14, go_sem, ki, zi]) rfl ⟨rfl, ?_⟩
    refine Below.alloc ?_ (by simp; omega) _
    repeat (refine Below.setCell ?_ (by simp) _)
    exact q1

theorem decode_any (s : ByteArray) (a : Int) (hm : s.size ≤ 9223372036854775000) (w : World) (ht : Tab w) :
    Calls Tryd.prog 14 #[.string s, .int .i64 a] w fun e w' => e = .returned (I.decR s a) ∧ Below w.heap.size w w' := by
  unfold I.decR
  by_cases h : a < 0 ∨ (s.size : Int) < a
  · rw [if_pos h]
    exact dec_arg s a h w
  · rw [if_neg h]
    exact dec_in s a (by omega) (by omega) hm w ht

end Go.Proofs.YtcllbbdkihmpgaaDoor
