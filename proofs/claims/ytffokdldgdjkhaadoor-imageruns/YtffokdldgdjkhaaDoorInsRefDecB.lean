/- The document's Decode, where the bytes reach, form by form. (Written by gen_rdec.py.) -/
import Derived.Test.YtffokdldgdjkhaaDoorInsRefAll
import Derived.Test.YtffokdldgdjkhaaDoorInsDecode
import Derived.Test.YtffokdldgdjkhaaDoorInsNumWf
namespace Go.Proofs.YtffokdldgdjkhaaDoor
set_option maxRecDepth 100000
open Go.RowKit
set_option linter.unusedVariables false
attribute [local go_sem ↓] Go.wp_at_zero Go.wp_at_succ

set_option maxRecDepth 100000 in
set_option maxHeartbeats 16000000 in
theorem rdec_6 (s : ByteArray) (k : Nat) (hk : k + 1 ≤ s.size) (hm : s.size ≤ 9223372036854775000) (op : Int) (ho : (s[k].toNat : Int) = op) (hf : I.form op = 6) (w : World) :
    Calls Tryd.prog 36 #[.string s, .int .i64 k] w fun e w' => e = .returned (if I.encE op 0 0 0 = 0 then decV (insW op 0 0 0) ((k : Int) + 1) 0 else decV (insW 0 0 0 0) 0 9) ∧ Below w.heap.size w w' := by
  have pA : I.hasA 6 = false := by decide
  have pB : I.hasB 6 = false := by decide
  have pN : I.numB 6 = 0 := by decide
  have HF : Hid (I.form op = 6) := hf
  have hsz : I.size op = 1 := by unfold I.size; rw [hf]; rfl
  have HZ : Hid (I.size op = 1) := hsz
  have ho2 : (s[k].toNat : Int) ≤ 255 := by have := s[k].toNat_lt; omega
  have wnn : (Lit.int .i64 0).wf = true := by decide
  have h0 : (0 : Int) ≤ (k : Int) := by omega
  have h1 : (k : Int) ≤ (s.size : Int) := by omega
  have h2 : ¬ (k : Int) = (s.size : Int) := by omega
  have h3 : ¬ (s.size : Int) < (k : Int) + 1 := by omega
  have hkk : k < s.size := by omega
  clear hf hsz
  obtain ⟨ee, hee⟩ : ∃ ee, I.encE op 0 0 0 = ee := ⟨_, rfl⟩
  have HEE : Hid (I.encE op 0 0 0 = ee) := hee
  rw [hee]
  clear hee
  obtain ⟨R, hR⟩ : ∃ R, (if ee = 0 then decV (insW op 0 0 0) ((k : Int) + 1) 0 else decV (insW 0 0 0 0) 0 9) = R := ⟨_, rfl⟩
  have HR : Hid ((if ee = 0 then decV (insW op 0 0 0) ((k : Int) + 1) 0 else decV (insW 0 0 0 0) 0 9) = R) := hR
  rw [hR]
  clear hR
  go_enter Tryd.func36, Tryd.ntmps36
  go_wp2_with (first | (go_at_call 17; refine (rsize_any _ _).mono ?_; rintro e w' ⟨rfl, rfl⟩; rw [HZ.out]) | (go_at_call 37; refine (form_any _ _).mono ?_; rintro e w' ⟨rfl, rfl⟩; rw [HF.out]) | (go_at_call 38; refine (parts_any _ ?_ ?_ _).mono ?_; omega; omega; rintro e w' ⟨rfl, rfl⟩; rw [pA, pB, pN]) | (go_at_call 53; refine (rnumber_any _ _).mono ?_; rintro e w' ⟨rfl, rfl⟩))
  refine (rencode_any op 0 0 0 wnn _).mono ?_
  rintro e w1 ⟨rfl, hb1⟩
  rw [HEE.out]
  obtain ⟨hc1, hf1⟩ := bcell hb1
  have hz1 := hb1.size
  simp at hz1
  have kr : ∀ o, w1.cell? ⟨w.heap.size, o, none⟩ = (#[.int .i64 0, .int .i64 0, .int .i64 0, .int .i64 0] : Array Value)[o]? := fun o => by
    rw [hc1 _ _ (by simp; omega)]; simp (disch := (first | ((try simp only [World.size_alloc]) <;> omega) | fail)) only [World.cell?_alloc_at, World.cell?_alloc_past]
  have ki : ∀ o, w1.cell? ⟨w.heap.size + 1, o, none⟩ = (#[.int .i64 op, .int .i64 0, .int .i64 0, .int .i64 0] : Array Value)[o]? := fun o => by
    rw [hc1 _ _ (by simp)]; simp (disch := (first | ((try simp only [World.size_alloc]) <;> omega) | fail)) only [World.cell?_alloc_at]
  have kz : ∀ o, w1.frozen? ⟨w.heap.size, o, none⟩ = false := fun o => by
    rw [hf1 _ _ (by simp; omega), frozen?_alloc_cells]
    exact World.frozen?_alloc_at _ _ _ _ rfl
  have zi : w.heap.size < w1.heap.size := by omega
  have zj : w.heap.size + 1 < w1.heap.size := by omega
  have q1 : Below w.heap.size w w1 := (bl2 _ _ _).trans (hb1.mono (by simp; omega))
  clear hc1 hf1 hb1
  by_cases h : ee = 0
  · subst h
    go_wp2
    refine bodyPost_ret (v := decV (insW op 0 0 0) ((k : Int) + 1) 0) (by simp [results, Tryd.results36, go_sem, kr]) rfl ⟨by rw [← HR.out]; simp, ?_⟩
    repeat (refine Below.setCell ?_ (by simp) _)
    exact q1
  · go_wp2
    refine bodyPost_ret (v := decV (insW 0 0 0 0) 0 9) (by simp [results, Tryd.results36, go_sem, kr]) rfl ⟨by rw [← HR.out, if_neg h], ?_⟩
    repeat (refine Below.setCell ?_ (by simp) _)
    exact q1

set_option maxRecDepth 100000 in
set_option maxHeartbeats 16000000 in
theorem rdec_7 (s : ByteArray) (k : Nat) (hk : k + 2 ≤ s.size) (hm : s.size ≤ 9223372036854775000) (op : Int) (ho : (s[k].toNat : Int) = op) (hf : I.form op = 7) (w : World) :
    Calls Tryd.prog 36 #[.string s, .int .i64 k] w fun e w' => e = .returned (if I.encE op 0 0 (W.numV (s.extract (k + 1) (k + 2))) = 0 then decV (insW op 0 0 (W.numV (s.extract (k + 1) (k + 2)))) ((k : Int) + 2) 0 else decV (insW 0 0 0 0) 0 9) ∧ Below w.heap.size w w' := by
  have pA : I.hasA 7 = false := by decide
  have pB : I.hasB 7 = false := by decide
  have pN : I.numB 7 = 1 := by decide
  have HF : Hid (I.form op = 7) := hf
  have hsz : I.size op = 2 := by unfold I.size; rw [hf]; rfl
  have HZ : Hid (I.size op = 2) := hsz
  have ho2 : (s[k].toNat : Int) ≤ 255 := by have := s[k].toNat_lt; omega
  obtain ⟨nn, hnn⟩ : ∃ nn, W.numV (s.extract (k + 1) (k + 2)) = nn := ⟨_, rfl⟩
  have HNN : Hid (W.numV (s.extract (k + 1) (k + 2)) = nn) := hnn
  have wnn : (Lit.int .i64 nn).wf = true := by rw [← hnn]; exact W.numV_wf _
  rw [hnn]
  clear hnn
  have h0 : (0 : Int) ≤ (k : Int) := by omega
  have h1 : (k : Int) ≤ (s.size : Int) := by omega
  have h2 : ¬ (k : Int) = (s.size : Int) := by omega
  have h3 : ¬ (s.size : Int) < (k : Int) + 2 := by omega
  have hkk : k < s.size := by omega
  clear hf hsz
  obtain ⟨ee, hee⟩ : ∃ ee, I.encE op 0 0 nn = ee := ⟨_, rfl⟩
  have HEE : Hid (I.encE op 0 0 nn = ee) := hee
  rw [hee]
  clear hee
  obtain ⟨R, hR⟩ : ∃ R, (if ee = 0 then decV (insW op 0 0 nn) ((k : Int) + 2) 0 else decV (insW 0 0 0 0) 0 9) = R := ⟨_, rfl⟩
  have HR : Hid ((if ee = 0 then decV (insW op 0 0 nn) ((k : Int) + 2) 0 else decV (insW 0 0 0 0) 0 9) = R) := hR
  rw [hR]
  clear hR
  go_enter Tryd.func36, Tryd.ntmps36
  go_wp2_with (first | (go_at_call 17; refine (rsize_any _ _).mono ?_; rintro e w' ⟨rfl, rfl⟩; rw [HZ.out]) | (go_at_call 37; refine (form_any _ _).mono ?_; rintro e w' ⟨rfl, rfl⟩; rw [HF.out]) | (go_at_call 38; refine (parts_any _ ?_ ?_ _).mono ?_; omega; omega; rintro e w' ⟨rfl, rfl⟩; rw [pA, pB, pN]) | (go_at_call 53; refine (rnumber_any _ _).mono ?_; rintro e w' ⟨rfl, rfl⟩))
  rw [HNN.out]
  refine (rencode_any op 0 0 nn wnn _).mono ?_
  rintro e w1 ⟨rfl, hb1⟩
  rw [HEE.out]
  obtain ⟨hc1, hf1⟩ := bcell hb1
  have hz1 := hb1.size
  simp at hz1
  have kr : ∀ o, w1.cell? ⟨w.heap.size, o, none⟩ = (#[.int .i64 0, .int .i64 0, .int .i64 0, .int .i64 0] : Array Value)[o]? := fun o => by
    rw [hc1 _ _ (by simp; omega)]; simp (disch := (first | ((try simp only [World.size_alloc]) <;> omega) | fail)) only [World.cell?_alloc_at, World.cell?_alloc_past]
  have ki : ∀ o, w1.cell? ⟨w.heap.size + 1, o, none⟩ = (#[.int .i64 op, .int .i64 0, .int .i64 0, .int .i64 nn] : Array Value)[o]? := fun o => by
    rw [hc1 _ _ (by simp)]; simp (disch := (first | ((try simp only [World.size_alloc]) <;> omega) | fail)) only [World.cell?_alloc_at]
  have kz : ∀ o, w1.frozen? ⟨w.heap.size, o, none⟩ = false := fun o => by
    rw [hf1 _ _ (by simp; omega), frozen?_alloc_cells]
    exact World.frozen?_alloc_at _ _ _ _ rfl
  have zi : w.heap.size < w1.heap.size := by omega
  have zj : w.heap.size + 1 < w1.heap.size := by omega
  have q1 : Below w.heap.size w w1 := (bl2 _ _ _).trans (hb1.mono (by simp; omega))
  clear hc1 hf1 hb1
  by_cases h : ee = 0
  · subst h
    go_wp2
    refine bodyPost_ret (v := decV (insW op 0 0 nn) ((k : Int) + 2) 0) (by simp [results, Tryd.results36, go_sem, kr]) rfl ⟨by rw [← HR.out]; simp, ?_⟩
    repeat (refine Below.setCell ?_ (by simp) _)
    exact q1
  · go_wp2
    refine bodyPost_ret (v := decV (insW 0 0 0 0) 0 9) (by simp [results, Tryd.results36, go_sem, kr]) rfl ⟨by rw [← HR.out, if_neg h], ?_⟩
    repeat (refine Below.setCell ?_ (by simp) _)
    exact q1

set_option maxRecDepth 100000 in
set_option maxHeartbeats 16000000 in
theorem rdec_8 (s : ByteArray) (k : Nat) (hk : k + 3 ≤ s.size) (hm : s.size ≤ 9223372036854775000) (op : Int) (ho : (s[k].toNat : Int) = op) (hf : I.form op = 8) (w : World) :
    Calls Tryd.prog 36 #[.string s, .int .i64 k] w fun e w' => e = .returned (if I.encE op (s[k + 1].toNat : Int) 0 (W.numV (s.extract (k + 2) (k + 3))) = 0 then decV (insW op (s[k + 1].toNat : Int) 0 (W.numV (s.extract (k + 2) (k + 3)))) ((k : Int) + 3) 0 else decV (insW 0 0 0 0) 0 9) ∧ Below w.heap.size w w' := by
  have pA : I.hasA 8 = true := by decide
  have pB : I.hasB 8 = false := by decide
  have pN : I.numB 8 = 1 := by decide
  have HF : Hid (I.form op = 8) := hf
  have hsz : I.size op = 3 := by unfold I.size; rw [hf]; rfl
  have HZ : Hid (I.size op = 3) := hsz
  have ho2 : (s[k].toNat : Int) ≤ 255 := by have := s[k].toNat_lt; omega
  have hy : (s[k + 1].toNat : Int) ≤ 255 := by have := s[k + 1].toNat_lt; omega
  have hy0 : (0 : Int) ≤ (s[k + 1].toNat : Int) := by omega
  have hk1 : k + 1 < s.size := by omega
  have hi1 : ((k : Int) + 1) < (s.size : Int) := by omega
  obtain ⟨nn, hnn⟩ : ∃ nn, W.numV (s.extract (k + 2) (k + 3)) = nn := ⟨_, rfl⟩
  have HNN : Hid (W.numV (s.extract (k + 2) (k + 3)) = nn) := hnn
  have wnn : (Lit.int .i64 nn).wf = true := by rw [← hnn]; exact W.numV_wf _
  rw [hnn]
  clear hnn
  have h0 : (0 : Int) ≤ (k : Int) := by omega
  have h1 : (k : Int) ≤ (s.size : Int) := by omega
  have h2 : ¬ (k : Int) = (s.size : Int) := by omega
  have h3 : ¬ (s.size : Int) < (k : Int) + 3 := by omega
  have hkk : k < s.size := by omega
  clear hf hsz
  obtain ⟨ee, hee⟩ : ∃ ee, I.encE op (s[k + 1].toNat : Int) 0 nn = ee := ⟨_, rfl⟩
  have HEE : Hid (I.encE op (s[k + 1].toNat : Int) 0 nn = ee) := hee
  rw [hee]
  clear hee
  obtain ⟨R, hR⟩ : ∃ R, (if ee = 0 then decV (insW op (s[k + 1].toNat : Int) 0 nn) ((k : Int) + 3) 0 else decV (insW 0 0 0 0) 0 9) = R := ⟨_, rfl⟩
  have HR : Hid ((if ee = 0 then decV (insW op (s[k + 1].toNat : Int) 0 nn) ((k : Int) + 3) 0 else decV (insW 0 0 0 0) 0 9) = R) := hR
  rw [hR]
  clear hR
  go_enter Tryd.func36, Tryd.ntmps36
  go_wp2_with (first | (go_at_call 17; refine (rsize_any _ _).mono ?_; rintro e w' ⟨rfl, rfl⟩; rw [HZ.out]) | (go_at_call 37; refine (form_any _ _).mono ?_; rintro e w' ⟨rfl, rfl⟩; rw [HF.out]) | (go_at_call 38; refine (parts_any _ ?_ ?_ _).mono ?_; omega; omega; rintro e w' ⟨rfl, rfl⟩; rw [pA, pB, pN]) | (go_at_call 53; refine (rnumber_any _ _).mono ?_; rintro e w' ⟨rfl, rfl⟩))
  rw [HNN.out]
  refine (rencode_any op (s[k + 1].toNat : Int) 0 nn wnn _).mono ?_
  rintro e w1 ⟨rfl, hb1⟩
  rw [HEE.out]
  obtain ⟨hc1, hf1⟩ := bcell hb1
  have hz1 := hb1.size
  simp at hz1
  have kr : ∀ o, w1.cell? ⟨w.heap.size, o, none⟩ = (#[.int .i64 0, .int .i64 0, .int .i64 0, .int .i64 0] : Array Value)[o]? := fun o => by
    rw [hc1 _ _ (by simp; omega)]; simp (disch := (first | ((try simp only [World.size_alloc]) <;> omega) | fail)) only [World.cell?_alloc_at, World.cell?_alloc_past]
  have ki : ∀ o, w1.cell? ⟨w.heap.size + 1, o, none⟩ = (#[.int .i64 op, .int .i64 (s[k + 1].toNat : Int), .int .i64 0, .int .i64 nn] : Array Value)[o]? := fun o => by
    rw [hc1 _ _ (by simp)]; simp (disch := (first | ((try simp only [World.size_alloc]) <;> omega) | fail)) only [World.cell?_alloc_at]
  have kz : ∀ o, w1.frozen? ⟨w.heap.size, o, none⟩ = false := fun o => by
    rw [hf1 _ _ (by simp; omega), frozen?_alloc_cells]
    exact World.frozen?_alloc_at _ _ _ _ rfl
  have zi : w.heap.size < w1.heap.size := by omega
  have zj : w.heap.size + 1 < w1.heap.size := by omega
  have q1 : Below w.heap.size w w1 := (bl2 _ _ _).trans (hb1.mono (by simp; omega))
  clear hc1 hf1 hb1
  by_cases h : ee = 0
  · subst h
    go_wp2
    refine bodyPost_ret (v := decV (insW op (s[k + 1].toNat : Int) 0 nn) ((k : Int) + 3) 0) (by simp [results, Tryd.results36, go_sem, kr]) rfl ⟨by rw [← HR.out]; simp, ?_⟩
    repeat (refine Below.setCell ?_ (by simp) _)
    exact q1
  · go_wp2
    refine bodyPost_ret (v := decV (insW 0 0 0 0) 0 9) (by simp [results, Tryd.results36, go_sem, kr]) rfl ⟨by rw [← HR.out, if_neg h], ?_⟩
    repeat (refine Below.setCell ?_ (by simp) _)
    exact q1

set_option maxRecDepth 100000 in
set_option maxHeartbeats 16000000 in
theorem rdec_9 (s : ByteArray) (k : Nat) (hk : k + 2 ≤ s.size) (hm : s.size ≤ 9223372036854775000) (op : Int) (ho : (s[k].toNat : Int) = op) (hf : I.form op = 9) (w : World) :
    Calls Tryd.prog 36 #[.string s, .int .i64 k] w fun e w' => e = .returned (if I.encE op (s[k + 1].toNat : Int) 0 0 = 0 then decV (insW op (s[k + 1].toNat : Int) 0 0) ((k : Int) + 2) 0 else decV (insW 0 0 0 0) 0 9) ∧ Below w.heap.size w w' := by
  have pA : I.hasA 9 = true := by decide
  have pB : I.hasB 9 = false := by decide
  have pN : I.numB 9 = 0 := by decide
  have HF : Hid (I.form op = 9) := hf
  have hsz : I.size op = 2 := by unfold I.size; rw [hf]; rfl
  have HZ : Hid (I.size op = 2) := hsz
  have ho2 : (s[k].toNat : Int) ≤ 255 := by have := s[k].toNat_lt; omega
  have hy : (s[k + 1].toNat : Int) ≤ 255 := by have := s[k + 1].toNat_lt; omega
  have hy0 : (0 : Int) ≤ (s[k + 1].toNat : Int) := by omega
  have hk1 : k + 1 < s.size := by omega
  have hi1 : ((k : Int) + 1) < (s.size : Int) := by omega
  have wnn : (Lit.int .i64 0).wf = true := by decide
  have h0 : (0 : Int) ≤ (k : Int) := by omega
  have h1 : (k : Int) ≤ (s.size : Int) := by omega
  have h2 : ¬ (k : Int) = (s.size : Int) := by omega
  have h3 : ¬ (s.size : Int) < (k : Int) + 2 := by omega
  have hkk : k < s.size := by omega
  clear hf hsz
  obtain ⟨ee, hee⟩ : ∃ ee, I.encE op (s[k + 1].toNat : Int) 0 0 = ee := ⟨_, rfl⟩
  have HEE : Hid (I.encE op (s[k + 1].toNat : Int) 0 0 = ee) := hee
  rw [hee]
  clear hee
  obtain ⟨R, hR⟩ : ∃ R, (if ee = 0 then decV (insW op (s[k + 1].toNat : Int) 0 0) ((k : Int) + 2) 0 else decV (insW 0 0 0 0) 0 9) = R := ⟨_, rfl⟩
  have HR : Hid ((if ee = 0 then decV (insW op (s[k + 1].toNat : Int) 0 0) ((k : Int) + 2) 0 else decV (insW 0 0 0 0) 0 9) = R) := hR
  rw [hR]
  clear hR
  go_enter Tryd.func36, Tryd.ntmps36
  go_wp2_with (first | (go_at_call 17; refine (rsize_any _ _).mono ?_; rintro e w' ⟨rfl, rfl⟩; rw [HZ.out]) | (go_at_call 37; refine (form_any _ _).mono ?_; rintro e w' ⟨rfl, rfl⟩; rw [HF.out]) | (go_at_call 38; refine (parts_any _ ?_ ?_ _).mono ?_; omega; omega; rintro e w' ⟨rfl, rfl⟩; rw [pA, pB, pN]) | (go_at_call 53; refine (rnumber_any _ _).mono ?_; rintro e w' ⟨rfl, rfl⟩))
  refine (rencode_any op (s[k + 1].toNat : Int) 0 0 wnn _).mono ?_
  rintro e w1 ⟨rfl, hb1⟩
  rw [HEE.out]
  obtain ⟨hc1, hf1⟩ := bcell hb1
  have hz1 := hb1.size
  simp at hz1
  have kr : ∀ o, w1.cell? ⟨w.heap.size, o, none⟩ = (#[.int .i64 0, .int .i64 0, .int .i64 0, .int .i64 0] : Array Value)[o]? := fun o => by
    rw [hc1 _ _ (by simp; omega)]; simp (disch := (first | ((try simp only [World.size_alloc]) <;> omega) | fail)) only [World.cell?_alloc_at, World.cell?_alloc_past]
  have ki : ∀ o, w1.cell? ⟨w.heap.size + 1, o, none⟩ = (#[.int .i64 op, .int .i64 (s[k + 1].toNat : Int), .int .i64 0, .int .i64 0] : Array Value)[o]? := fun o => by
    rw [hc1 _ _ (by simp)]; simp (disch := (first | ((try simp only [World.size_alloc]) <;> omega) | fail)) only [World.cell?_alloc_at]
  have kz : ∀ o, w1.frozen? ⟨w.heap.size, o, none⟩ = false := fun o => by
    rw [hf1 _ _ (by simp; omega), frozen?_alloc_cells]
    exact World.frozen?_alloc_at _ _ _ _ rfl
  have zi : w.heap.size < w1.heap.size := by omega
  have zj : w.heap.size + 1 < w1.heap.size := by omega
  have q1 : Below w.heap.size w w1 := (bl2 _ _ _).trans (hb1.mono (by simp; omega))
  clear hc1 hf1 hb1
  by_cases h : ee = 0
  · subst h
    go_wp2
    refine bodyPost_ret (v := decV (insW op (s[k + 1].toNat : Int) 0 0) ((k : Int) + 2) 0) (by simp [results, Tryd.results36, go_sem, kr]) rfl ⟨by rw [← HR.out]; simp, ?_⟩
    repeat (refine Below.setCell ?_ (by simp) _)
    exact q1
  · go_wp2
    refine bodyPost_ret (v := decV (insW 0 0 0 0) 0 9) (by simp [results, Tryd.results36, go_sem, kr]) rfl ⟨by rw [← HR.out, if_neg h], ?_⟩
    repeat (refine Below.setCell ?_ (by simp) _)
    exact q1

set_option maxRecDepth 100000 in
set_option maxHeartbeats 16000000 in
theorem rdec_10 (s : ByteArray) (k : Nat) (hk : k + 2 ≤ s.size) (hm : s.size ≤ 9223372036854775000) (op : Int) (ho : (s[k].toNat : Int) = op) (hf : I.form op = 10) (w : World) :
    Calls Tryd.prog 36 #[.string s, .int .i64 k] w fun e w' => e = .returned (if I.encE op 0 0 (W.numV (s.extract (k + 1) (k + 2))) = 0 then decV (insW op 0 0 (W.numV (s.extract (k + 1) (k + 2)))) ((k : Int) + 2) 0 else decV (insW 0 0 0 0) 0 9) ∧ Below w.heap.size w w' := by
  have pA : I.hasA 10 = false := by decide
  have pB : I.hasB 10 = false := by decide
  have pN : I.numB 10 = 1 := by decide
  have HF : Hid (I.form op = 10) := hf
  have hsz : I.size op = 2 := by unfold I.size; rw [hf]; rfl
  have HZ : Hid (I.size op = 2) := hsz
  have ho2 : (s[k].toNat : Int) ≤ 255 := by have := s[k].toNat_lt; omega
  obtain ⟨nn, hnn⟩ : ∃ nn, W.numV (s.extract (k + 1) (k + 2)) = nn := ⟨_, rfl⟩
  have HNN : Hid (W.numV (s.extract (k + 1) (k + 2)) = nn) := hnn
  have wnn : (Lit.int .i64 nn).wf = true := by rw [← hnn]; exact W.numV_wf _
  rw [hnn]
  clear hnn
  have h0 : (0 : Int) ≤ (k : Int) := by omega
  have h1 : (k : Int) ≤ (s.size : Int) := by omega
  have h2 : ¬ (k : Int) = (s.size : Int) := by omega
  have h3 : ¬ (s.size : Int) < (k : Int) + 2 := by omega
  have hkk : k < s.size := by omega
  clear hf hsz
  obtain ⟨ee, hee⟩ : ∃ ee, I.encE op 0 0 nn = ee := ⟨_, rfl⟩
  have HEE : Hid (I.encE op 0 0 nn = ee) := hee
  rw [hee]
  clear hee
  obtain ⟨R, hR⟩ : ∃ R, (if ee = 0 then decV (insW op 0 0 nn) ((k : Int) + 2) 0 else decV (insW 0 0 0 0) 0 9) = R := ⟨_, rfl⟩
  have HR : Hid ((if ee = 0 then decV (insW op 0 0 nn) ((k : Int) + 2) 0 else decV (insW 0 0 0 0) 0 9) = R) := hR
  rw [hR]
  clear hR
  go_enter Tryd.func36, Tryd.ntmps36
  go_wp2_with (first | (go_at_call 17; refine (rsize_any _ _).mono ?_; rintro e w' ⟨rfl, rfl⟩; rw [HZ.out]) | (go_at_call 37; refine (form_any _ _).mono ?_; rintro e w' ⟨rfl, rfl⟩; rw [HF.out]) | (go_at_call 38; refine (parts_any _ ?_ ?_ _).mono ?_; omega; omega; rintro e w' ⟨rfl, rfl⟩; rw [pA, pB, pN]) | (go_at_call 53; refine (rnumber_any _ _).mono ?_; rintro e w' ⟨rfl, rfl⟩))
  rw [HNN.out]
  refine (rencode_any op 0 0 nn wnn _).mono ?_
  rintro e w1 ⟨rfl, hb1⟩
  rw [HEE.out]
  obtain ⟨hc1, hf1⟩ := bcell hb1
  have hz1 := hb1.size
  simp at hz1
  have kr : ∀ o, w1.cell? ⟨w.heap.size, o, none⟩ = (#[.int .i64 0, .int .i64 0, .int .i64 0, .int .i64 0] : Array Value)[o]? := fun o => by
    rw [hc1 _ _ (by simp; omega)]; simp (disch := (first | ((try simp only [World.size_alloc]) <;> omega) | fail)) only [World.cell?_alloc_at, World.cell?_alloc_past]
  have ki : ∀ o, w1.cell? ⟨w.heap.size + 1, o, none⟩ = (#[.int .i64 op, .int .i64 0, .int .i64 0, .int .i64 nn] : Array Value)[o]? := fun o => by
    rw [hc1 _ _ (by simp)]; simp (disch := (first | ((try simp only [World.size_alloc]) <;> omega) | fail)) only [World.cell?_alloc_at]
  have kz : ∀ o, w1.frozen? ⟨w.heap.size, o, none⟩ = false := fun o => by
    rw [hf1 _ _ (by simp; omega), frozen?_alloc_cells]
    exact World.frozen?_alloc_at _ _ _ _ rfl
  have zi : w.heap.size < w1.heap.size := by omega
  have zj : w.heap.size + 1 < w1.heap.size := by omega
  have q1 : Below w.heap.size w w1 := (bl2 _ _ _).trans (hb1.mono (by simp; omega))
  clear hc1 hf1 hb1
  by_cases h : ee = 0
  · subst h
    go_wp2
    refine bodyPost_ret (v := decV (insW op 0 0 nn) ((k : Int) + 2) 0) (by simp [results, Tryd.results36, go_sem, kr]) rfl ⟨by rw [← HR.out]; simp, ?_⟩
    repeat (refine Below.setCell ?_ (by simp) _)
    exact q1
  · go_wp2
    refine bodyPost_ret (v := decV (insW 0 0 0 0) 0 9) (by simp [results, Tryd.results36, go_sem, kr]) rfl ⟨by rw [← HR.out, if_neg h], ?_⟩
    repeat (refine Below.setCell ?_ (by simp) _)
    exact q1

end Go.Proofs.YtffokdldgdjkhaaDoor
