/- The document's Decode, where the bytes reach, form by form. (Written by gen_rdec.py.) -/
import Derived.Test.YtffokdldgdjkhaaDoorInsRefAll
import Derived.Test.YtffokdldgdjkhaaDoorInsDecode
import Derived.Test.YtffokdldgdjkhaaDoorInsNumWf
namespace Go.Proofs.YtffokdldgdjkhaaDoor
set_option maxRecDepth 100000
open Go.RowKit
set_option linter.unusedVariables false
attribute [local go_sem ↓] Go.wp_at_zero Go.wp_at_succ

set_option maxRecDepth 100000 in
set_option maxHeartbeats 16000000 in
theorem rdec_1 (s : ByteArray) (k : Nat) (hk : k + 10 ≤ s.size) (hm : s.size ≤ 9223372036854775000) (op : Int) (ho : (s[k].toNat : Int) = op) (hf : I.form op = 1) (w : World) :
    Calls Tryd.prog 36 #[.string s, .int .i64 k] w fun e w' => e = .returned (if I.encE op (s[k + 1].toNat : Int) 0 (W.numV (s.extract (k + 2) (k + 10))) = 0 then decV (insW op (s[k + 1].toNat : Int) 0 (W.numV (s.extract (k + 2) (k + 10)))) ((k : Int) + 10) 0 else decV (insW 0 0 0 0) 0 9) ∧ Below w.heap.size w w' := by
  have pA : I.hasA 1 = true := by decide
  have pB : I.hasB 1 = false := by decide
  have pN : I.numB 1 = 8 := by decide
  have HF : Hid (I.form op = 1) := hf
  have hsz : I.size op = 10 := by unfold I.size; rw [hf]; rfl
  have HZ : Hid (I.size op = 10) := hsz
  have ho2 : (s[k].toNat : Int) ≤ 255 := by have := s[k].toNat_lt; omega
  have hy : (s[k + 1].toNat : Int) ≤ 255 := by have := s[k + 1].toNat_lt; omega
  have hy0 : (0 : Int) ≤ (s[k + 1].toNat : Int) := by omega
  have hk1 : k + 1 < s.size := by omega
  have hi1 : ((k : Int) + 1) < (s.size : Int) := by omega
  obtain ⟨nn, hnn⟩ : ∃ nn, W.numV (s.extract (k + 2) (k + 10)) = nn := ⟨_, rfl⟩
  have HNN : Hid (W.numV (s.extract (k + 2) (k + 10)) = nn) := hnn
  have wnn : (Lit.int .i64 nn).wf = true := by rw [← hnn]; exact W.numV_wf _
  rw [hnn]
  clear hnn
  have h0 : (0 : Int) ≤ (k : Int) := by omega
  have h1 : (k : Int) ≤ (s.size : Int) := by omega
  have h2 : ¬ (k : Int) = (s.size : Int) := by omega
  have h3 : ¬ (s.size : Int) < (k : Int) + 10 := by omega
  have hkk : k < s.size := by omega
  clear hf hsz
  obtain ⟨ee, hee⟩ : ∃ ee, I.encE op (s[k + 1].toNat : Int) 0 nn = ee := ⟨_, rfl⟩
  have HEE : Hid (I.encE op (s[k + 1].toNat : Int) 0 nn = ee) := hee
  rw [hee]
  clear hee
  obtain ⟨R, hR⟩ : ∃ R, (if ee = 0 then decV (insW op (s[k + 1].toNat : Int) 0 nn) ((k : Int) + 10) 0 else decV (insW 0 0 0 0) 0 9) = R := ⟨_, rfl⟩
  have HR : Hid ((if ee = 0 then decV (insW op (s[k + 1].toNat : Int) 0 nn) ((k : Int) + 10) 0 else decV (insW 0 0 0 0) 0 9) = R) := hR
  rw [hR]
  clear hR
  go_enter Tryd.func36, Tryd.ntmps36
  go_wp2_with (first | (go_at_call 17; refine (rsize_any _ _).mono ?_; rintro e w' ⟨rfl, rfl⟩; rw [HZ.out]) | (go_at_call 37; refine (form_any _ _).mono ?_; rintro e w' ⟨rfl, rfl⟩; rw [HF.out]) | (go_at_call 38; refine (parts_any _ ?_ ?_ _).mono ?_; omega; omega; rintro e w' ⟨rfl, rfl⟩; rw [pA, pB, pN]) | (go_at_call 53; refine (rnumber_any _ _).mono ?_; rintro e w' ⟨rfl, rfl⟩))
  rw [HNN.out]
  refine (rencode_any op (s[k + 1].toNat : Int) 0 nn wnn _).mono ?_
  rintro e w1 ⟨rfl, hb1⟩
  rw [HEE.out]
  obtain ⟨hc1, hf1⟩ := bcell hb1
  have hz1 := hb1.size
  simp at hz1
  have kr : ∀ o, w1.cell? ⟨w.heap.size, o, none⟩ = (#[.int .i64 0, .int .i64 0, .int .i64 0, .int .i64 0] : Array Value)[o]? := fun o => by
    rw [hc1 _ _ (by simp; omega)]; simp (disch := (first | ((try simp only [World.size_alloc]) <;> omega) | fail)) only [World.cell?_alloc_at, World.cell?_alloc_past]
  have ki : ∀ o, w1.cell? ⟨w.heap.size + 1, o, none⟩ = (#[.int .i64 op, .int .i64 (s[k + 1].toNat : Int), .int .i64 0, .int .i64 nn] : Array Value)[o]? := fun o => by
    rw [hc1 _ _ (by simp)]; simp (disch := (first | ((try simp only [World.size_alloc]) <;> omega) | fail)) only [World.cell?_alloc_at]
  have kz : ∀ o, w1.frozen? ⟨w.heap.size, o, none⟩ = false := fun o => by
    rw [hf1 _ _ (by simp; omega), frozen?_alloc_cells]
    exact World.frozen?_alloc_at _ _ _ _ rfl
  have zi : w.heap.size < w1.heap.size := by omega
  have zj : w.heap.size + 1 < w1.heap.size := by omega
  have q1 : Below w.heap.size w w1 := (bl2 _ _ _).trans (hb1.mono (by simp; omega))
  clear hc1 hf1 hb1
  by_cases h : ee = 0
  · subst h
    go_wp2
    refine bodyPost_ret (v := decV (insW op (s[k + 1].toNat : Int) 0 nn) ((k : Int) + 10) 0) (by simp [results, Tryd.results36, go_sem, kr]) rfl ⟨by rw [← HR.out]; simp, ?_⟩
    repeat (refine Below.setCell ?_ (by simp) _)
    exact q1
  · go_wp2
    refine bodyPost_ret (v := decV (insW 0 0 0 0) 0 9) (by simp [results, Tryd.results36, go_sem, kr]) rfl ⟨by rw [← HR.out, if_neg h], ?_⟩
    repeat (refine Below.setCell ?_ (by simp) _)
    exact q1

set_option maxRecDepth 100000 in
set_option maxHeartbeats 16000000 in
theorem rdec_2 (s : ByteArray) (k : Nat) (hk : k + 2 ≤ s.size) (hm : s.size ≤ 9223372036854775000) (op : Int) (ho : (s[k].toNat : Int) = op) (hf : I.form op = 2) (w : World) :
    Calls Tryd.prog 36 #[.string s, .int .i64 k] w fun e w' => e = .returned (if I.encE op ((s[k + 1].toNat : Int) / 16) ((s[k + 1].toNat : Int) % 16) 0 = 0 then decV (insW op ((s[k + 1].toNat : Int) / 16) ((s[k + 1].toNat : Int) % 16) 0) ((k : Int) + 2) 0 else decV (insW 0 0 0 0) 0 9) ∧ Below w.heap.size w w' := by
  have pA : I.hasA 2 = true := by decide
  have pB : I.hasB 2 = true := by decide
  have pN : I.numB 2 = 0 := by decide
  have HF : Hid (I.form op = 2) := hf
  have hsz : I.size op = 2 := by unfold I.size; rw [hf]; rfl
  have HZ : Hid (I.size op = 2) := hsz
  have ho2 : (s[k].toNat : Int) ≤ 255 := by have := s[k].toNat_lt; omega
  have hy : (s[k + 1].toNat : Int) ≤ 255 := by have := s[k + 1].toNat_lt; omega
  have hy0 : (0 : Int) ≤ (s[k + 1].toNat : Int) := by omega
  have hk1 : k + 1 < s.size := by omega
  have hi1 : ((k : Int) + 1) < (s.size : Int) := by omega
  have wnn : (Lit.int .i64 0).wf = true := by decide
  have h0 : (0 : Int) ≤ (k : Int) := by omega
  have h1 : (k : Int) ≤ (s.size : Int) := by omega
  have h2 : ¬ (k : Int) = (s.size : Int) := by omega
  have h3 : ¬ (s.size : Int) < (k : Int) + 2 := by omega
  have hkk : k < s.size := by omega
  clear hf hsz
  obtain ⟨ee, hee⟩ : ∃ ee, I.encE op ((s[k + 1].toNat : Int) / 16) ((s[k + 1].toNat : Int) % 16) 0 = ee := ⟨_, rfl⟩
  have HEE : Hid (I.encE op ((s[k + 1].toNat : Int) / 16) ((s[k + 1].toNat : Int) % 16) 0 = ee) := hee
  rw [hee]
  clear hee
  obtain ⟨R, hR⟩ : ∃ R, (if ee = 0 then decV (insW op ((s[k + 1].toNat : Int) / 16) ((s[k + 1].toNat : Int) % 16) 0) ((k : Int) + 2) 0 else decV (insW 0 0 0 0) 0 9) = R := ⟨_, rfl⟩
  have HR : Hid ((if ee = 0 then decV (insW op ((s[k + 1].toNat : Int) / 16) ((s[k + 1].toNat : Int) % 16) 0) ((k : Int) + 2) 0 else decV (insW 0 0 0 0) 0 9) = R) := hR
  rw [hR]
  clear hR
  go_enter Tryd.func36, Tryd.ntmps36
  go_wp2_with (first | (go_at_call 17; refine (rsize_any _ _).mono ?_; rintro e w' ⟨rfl, rfl⟩; rw [HZ.out]) | (go_at_call 37; refine (form_any _ _).mono ?_; rintro e w' ⟨rfl, rfl⟩; rw [HF.out]) | (go_at_call 38; refine (parts_any _ ?_ ?_ _).mono ?_; omega; omega; rintro e w' ⟨rfl, rfl⟩; rw [pA, pB, pN]) | (go_at_call 53; refine (rnumber_any _ _).mono ?_; rintro e w' ⟨rfl, rfl⟩))
  refine (rencode_any op ((s[k + 1].toNat : Int) / 16) ((s[k + 1].toNat : Int) % 16) 0 wnn _).mono ?_
  rintro e w1 ⟨rfl, hb1⟩
  rw [HEE.out]
  obtain ⟨hc1, hf1⟩ := bcell hb1
  have hz1 := hb1.size
  simp at hz1
  have kr : ∀ o, w1.cell? ⟨w.heap.size, o, none⟩ = (#[.int .i64 0, .int .i64 0, .int .i64 0, .int .i64 0] : Array Value)[o]? := fun o => by
    rw [hc1 _ _ (by simp; omega)]; simp (disch := (first | ((try simp only [World.size_alloc]) <;> omega) | fail)) only [World.cell?_alloc_at, World.cell?_alloc_past]
  have ki : ∀ o, w1.cell? ⟨w.heap.size + 1, o, none⟩ = (#[.int .i64 op, .int .i64 ((s[k + 1].toNat : Int) / 16), .int .i64 ((s[k + 1].toNat : Int) % 16), .int .i64 0] : Array Value)[o]? := fun o => by
    rw [hc1 _ _ (by simp)]; simp (disch := (first | ((try simp only [World.size_alloc]) <;> omega) | fail)) only [World.cell?_alloc_at]
  have kz : ∀ o, w1.frozen? ⟨w.heap.size, o, none⟩ = false := fun o => by
    rw [hf1 _ _ (by simp; omega), frozen?_alloc_cells]
    exact World.frozen?_alloc_at _ _ _ _ rfl
  have zi : w.heap.size < w1.heap.size := by omega
  have zj : w.heap.size + 1 < w1.heap.size := by omega
  have q1 : Below w.heap.size w w1 := (bl2 _ _ _).trans (hb1.mono (by simp; omega))
  clear hc1 hf1 hb1
  by_cases h : ee = 0
  · subst h
    go_wp2
    refine bodyPost_ret (v := decV (insW op ((s[k + 1].toNat : Int) / 16) ((s[k + 1].toNat : Int) % 16) 0) ((k : Int) + 2) 0) (by simp [results, Tryd.results36, go_sem, kr]) rfl ⟨by rw [← HR.out]; simp, ?_⟩
    repeat (refine Below.setCell ?_ (by simp) _)
    exact q1
  · go_wp2
    refine bodyPost_ret (v := decV (insW 0 0 0 0) 0 9) (by simp [results, Tryd.results36, go_sem, kr]) rfl ⟨by rw [← HR.out, if_neg h], ?_⟩
    repeat (refine Below.setCell ?_ (by simp) _)
    exact q1

set_option maxRecDepth 100000 in
set_option maxHeartbeats 16000000 in
theorem rdec_3 (s : ByteArray) (k : Nat) (hk : k + 6 ≤ s.size) (hm : s.size ≤ 9223372036854775000) (op : Int) (ho : (s[k].toNat : Int) = op) (hf : I.form op = 3) (w : World) :
    Calls Tryd.prog 36 #[.string s, .int .i64 k] w fun e w' => e = .returned (if I.encE op ((s[k + 1].toNat : Int) / 16) ((s[k + 1].toNat : Int) % 16) (W.numV (s.extract (k + 2) (k + 6))) = 0 then decV (insW op ((s[k + 1].toNat : Int) / 16) ((s[k + 1].toNat : Int) % 16) (W.numV (s.extract (k + 2) (k + 6)))) ((k : Int) + 6) 0 else decV (insW 0 0 0 0) 0 9) ∧ Below w.heap.size w w' := by
  have pA : I.hasA 3 = true := by decide
  have pB : I.hasB 3 = true := by decide
  have pN : I.numB 3 = 4 := by decide
  have HF : Hid (I.form op = 3) := hf
  have hsz : I.size op = 6 := by unfold I.size; rw [hf]; rfl
  have HZ : Hid (I.size op = 6) := hsz
  have ho2 : (s[k].toNat : Int) ≤ 255 := by have := s[k].toNat_lt; omega
  have hy : (s[k + 1].toNat : Int) ≤ 255 := by have := s[k + 1].toNat_lt; omega
  have hy0 : (0 : Int) ≤ (s[k + 1].toNat : Int) := by omega
  have hk1 : k + 1 < s.size := by omega
  have hi1 : ((k : Int) + 1) < (s.size : Int) := by omega
  obtain ⟨nn, hnn⟩ : ∃ nn, W.numV (s.extract (k + 2) (k + 6)) = nn := ⟨_, rfl⟩
  have HNN : Hid (W.numV (s.extract (k + 2) (k + 6)) = nn) := hnn
  have wnn : (Lit.int .i64 nn).wf = true := by rw [← hnn]; exact W.numV_wf _
  rw [hnn]
  clear hnn
  have h0 : (0 : Int) ≤ (k : Int) := by omega
  have h1 : (k : Int) ≤ (s.size : Int) := by omega
  have h2 : ¬ (k : Int) = (s.size : Int) := by omega
  have h3 : ¬ (s.size : Int) < (k : Int) + 6 := by omega
  have hkk : k < s.size := by omega
  clear hf hsz
  obtain ⟨ee, hee⟩ : ∃ ee, I.encE op ((s[k + 1].toNat : Int) / 16) ((s[k + 1].toNat : Int) % 16) nn = ee := ⟨_, rfl⟩
  have HEE : Hid (I.encE op ((s[k + 1].toNat : Int) / 16) ((s[k + 1].toNat : Int) % 16) nn = ee) := hee
  rw [hee]
  clear hee
  obtain ⟨R, hR⟩ : ∃ R, (if ee = 0 then decV (insW op ((s[k + 1].toNat : Int) / 16) ((s[k + 1].toNat : Int) % 16) nn) ((k : Int) + 6) 0 else decV (insW 0 0 0 0) 0 9) = R := ⟨_, rfl⟩
  have HR : Hid ((if ee = 0 then decV (insW op ((s[k + 1].toNat : Int) / 16) ((s[k + 1].toNat : Int) % 16) nn) ((k : Int) + 6) 0 else decV (insW 0 0 0 0) 0 9) = R) := hR
  rw [hR]
  clear hR
  go_enter Tryd.func36, Tryd.ntmps36
  go_wp2_with (first | (go_at_call 17; refine (rsize_any _ _).mono ?_; rintro e w' ⟨rfl, rfl⟩; rw [HZ.out]) | (go_at_call 37; refine (form_any _ _).mono ?_; rintro e w' ⟨rfl, rfl⟩; rw [HF.out]) | (go_at_call 38; refine (parts_any _ ?_ ?_ _).mono ?_; omega; omega; rintro e w' ⟨rfl, rfl⟩; rw [pA, pB, pN]) | (go_at_call 53; refine (rnumber_any _ _).mono ?_; rintro e w' ⟨rfl, rfl⟩))
  rw [HNN.out]
  refine (rencode_any op ((s[k + 1].toNat : Int) / 16) ((s[k + 1].toNat : Int) % 16) nn wnn _).mono ?_
  rintro e w1 ⟨rfl, hb1⟩
  rw [HEE.out]
  obtain ⟨hc1, hf1⟩ := bcell hb1
  have hz1 := hb1.size
  simp at hz1
  have kr : ∀ o, w1.cell? ⟨w.heap.size, o, none⟩ = (#[.int .i64 0, .int .i64 0, .int .i64 0, .int .i64 0] : Array Value)[o]? := fun o => by
    rw [hc1 _ _ (by simp; omega)]; simp (disch := (first | ((try simp only [World.size_alloc]) <;> omega) | fail)) only [World.cell?_alloc_at, World.cell?_alloc_past]
  have ki : ∀ o, w1.cell? ⟨w.heap.size + 1, o, none⟩ = (#[.int .i64 op, .int .i64 ((s[k + 1].toNat : Int) / 16), .int .i64 ((s[k + 1].toNat : Int) % 16), .int .i64 nn] : Array Value)[o]? := fun o => by
    rw [hc1 _ _ (by simp)]; simp (disch := (first | ((try simp only [World.size_alloc]) <;> omega) | fail)) only [World.cell?_alloc_at]
  have kz : ∀ o, w1.frozen? ⟨w.heap.size, o, none⟩ = false := fun o => by
    rw [hf1 _ _ (by simp; omega), frozen?_alloc_cells]
    exact World.frozen?_alloc_at _ _ _ _ rfl
  have zi : w.heap.size < w1.heap.size := by omega
  have zj : w.heap.size + 1 < w1.heap.size := by omega
  have q1 : Below w.heap.size w w1 := (bl2 _ _ _).trans (hb1.mono (by simp; omega))
  clear hc1 hf1 hb1
  by_cases h : ee = 0
  · subst h
    go_wp2
    refine bodyPost_ret (v := decV (insW op ((s[k + 1].toNat : Int) / 16) ((s[k + 1].toNat : Int) % 16) nn) ((k : Int) + 6) 0) (by simp [results, Tryd.results36, go_sem, kr]) rfl ⟨by rw [← HR.out]; simp, ?_⟩
    repeat (refine Below.setCell ?_ (by simp) _)
    exact q1
  · go_wp2
    refine bodyPost_ret (v := decV (insW 0 0 0 0) 0 9) (by simp [results, Tryd.results36, go_sem, kr]) rfl ⟨by rw [← HR.out, if_neg h], ?_⟩
    repeat (refine Below.setCell ?_ (by simp) _)
    exact q1

set_option maxRecDepth 100000 in
set_option maxHeartbeats 16000000 in
theorem rdec_4 (s : ByteArray) (k : Nat) (hk : k + 6 ≤ s.size) (hm : s.size ≤ 9223372036854775000) (op : Int) (ho : (s[k].toNat : Int) = op) (hf : I.form op = 4) (w : World) :
    Calls Tryd.prog 36 #[.string s, .int .i64 k] w fun e w' => e = .returned (if I.encE op (s[k + 1].toNat : Int) 0 (W.numV (s.extract (k + 2) (k + 6))) = 0 then decV (insW op (s[k + 1].toNat : Int) 0 (W.numV (s.extract (k + 2) (k + 6)))) ((k : Int) + 6) 0 else decV (insW 0 0 0 0) 0 9) ∧ Below w.heap.size w w' := by
  have pA : I.hasA 4 = true := by decide
  have pB : I.hasB 4 = false := by decide
  have pN : I.numB 4 = 4 := by decide
  have HF : Hid (I.form op = 4) := hf
  have hsz : I.size op = 6 := by unfold I.size; rw [hf]; rfl
  have HZ : Hid (I.size op = 6) := hsz
  have ho2 : (s[k].toNat : Int) ≤ 255 := by have := s[k].toNat_lt; omega
  have hy : (s[k + 1].toNat : Int) ≤ 255 := by have := s[k + 1].toNat_lt; omega
  have hy0 : (0 : Int) ≤ (s[k + 1].toNat : Int) := by omega
  have hk1 : k + 1 < s.size := by omega
  have hi1 : ((k : Int) + 1) < (s.size : Int) := by omega
  obtain ⟨nn, hnn⟩ : ∃ nn, W.numV (s.extract (k + 2) (k + 6)) = nn := ⟨_, rfl⟩
  have HNN : Hid (W.numV (s.extract (k + 2) (k + 6)) = nn) := hnn
  have wnn : (Lit.int .i64 nn).wf = true := by rw [← hnn]; exact W.numV_wf _
  rw [hnn]
  clear hnn
  have h0 : (0 : Int) ≤ (k : Int) := by omega
  have h1 : (k : Int) ≤ (s.size : Int) := by omega
  have h2 : ¬ (k : Int) = (s.size : Int) := by omega
  have h3 : ¬ (s.size : Int) < (k : Int) + 6 := by omega
  have hkk : k < s.size := by omega
  clear hf hsz
  obtain ⟨ee, hee⟩ : ∃ ee, I.encE op (s[k + 1].toNat : Int) 0 nn = ee := ⟨_, rfl⟩
  have HEE : Hid (I.encE op (s[k + 1].toNat : Int) 0 nn = ee) := hee
  rw [hee]
  clear hee
  obtain ⟨R, hR⟩ : ∃ R, (if ee = 0 then decV (insW op (s[k + 1].toNat : Int) 0 nn) ((k : Int) + 6) 0 else decV (insW 0 0 0 0) 0 9) = R := ⟨_, rfl⟩
  have HR : Hid ((if ee = 0 then decV (insW op (s[k + 1].toNat : Int) 0 nn) ((k : Int) + 6) 0 else decV (insW 0 0 0 0) 0 9) = R) := hR
  rw [hR]
  clear hR
  go_enter Tryd.func36, Tryd.ntmps36
  go_wp2_with (first | (go_at_call 17; refine (rsize_any _ _).mono ?_; rintro e w' ⟨rfl, rfl⟩; rw [HZ.out]) | (go_at_call 37; refine (form_any _ _).mono ?_; rintro e w' ⟨rfl, rfl⟩; rw [HF.out]) | (go_at_call 38; refine (parts_any _ ?_ ?_ _).mono ?_; omega; omega; rintro e w' ⟨rfl, rfl⟩; rw [pA, pB, pN]) | (go_at_call 53; refine (rnumber_any _ _).mono ?_; rintro e w' ⟨rfl, rfl⟩))
  rw [HNN.out]
  refine (rencode_any op (s[k + 1].toNat : Int) 0 nn wnn _).mono ?_
  rintro e w1 ⟨rfl, hb1⟩
  rw [HEE.out]
  obtain ⟨hc1, hf1⟩ := bcell hb1
  have hz1 := hb1.size
  simp at hz1
  have kr : ∀ o, w1.cell? ⟨w.heap.size, o, none⟩ = (#[.int .i64 0, .int .i64 0, .int .i64 0, .int .i64 0] : Array Value)[o]? := fun o => by
    rw [hc1 _ _ (by simp; omega)]; simp (disch := (first | ((try simp only [World.size_alloc]) <;> omega) | fail)) only [World.cell?_alloc_at, World.cell?_alloc_past]
  have ki : ∀ o, w1.cell? ⟨w.heap.size + 1, o, none⟩ = (#[.int .i64 op, .int .i64 (s[k + 1].toNat : Int), .int .i64 0, .int .i64 nn] : Array Value)[o]? := fun o => by
    rw [hc1 _ _ (by simp)]; simp (disch := (first | ((try simp only [World.size_alloc]) <;> omega) | fail)) only [World.cell?_alloc_at]
  have kz : ∀ o, w1.frozen? ⟨w.heap.size, o, none⟩ = false := fun o => by
    rw [hf1 _ _ (by simp; omega), frozen?_alloc_cells]
    exact World.frozen?_alloc_at _ _ _ _ rfl
  have zi : w.heap.size < w1.heap.size := by omega
  have zj : w.heap.size + 1 < w1.heap.size := by omega
  have q1 : Below w.heap.size w w1 := (bl2 _ _ _).trans (hb1.mono (by simp; omega))
  clear hc1 hf1 hb1
  by_cases h : ee = 0
  · subst h
    go_wp2
    refine bodyPost_ret (v := decV (insW op (s[k + 1].toNat : Int) 0 nn) ((k : Int) + 6) 0) (by simp [results, Tryd.results36, go_sem, kr]) rfl ⟨by rw [← HR.out]; simp, ?_⟩
    repeat (refine Below.setCell ?_ (by simp) _)
    exact q1
  · go_wp2
    refine bodyPost_ret (v := decV (insW 0 0 0 0) 0 9) (by simp [results, Tryd.results36, go_sem, kr]) rfl ⟨by rw [← HR.out, if_neg h], ?_⟩
    repeat (refine Below.setCell ?_ (by simp) _)
    exact q1

set_option maxRecDepth 100000 in
set_option maxHeartbeats 16000000 in
theorem rdec_5 (s : ByteArray) (k : Nat) (hk : k + 5 ≤ s.size) (hm : s.size ≤ 9223372036854775000) (op : Int) (ho : (s[k].toNat : Int) = op) (hf : I.form op = 5) (w : World) :
    Calls Tryd.prog 36 #[.string s, .int .i64 k] w fun e w' => e = .returned (if I.encE op 0 0 (W.numV (s.extract (k + 1) (k + 5))) = 0 then decV (insW op 0 0 (W.numV (s.extract (k + 1) (k + 5)))) ((k : Int) + 5) 0 else decV (insW 0 0 0 0) 0 9) ∧ Below w.heap.size w w' := by
  have pA : I.hasA 5 = false := by decide
  have pB : I.hasB 5 = false := by decide
  have pN : I.numB 5 = 4 := by decide
  have HF : Hid (I.form op = 5) := hf
  have hsz : I.size op = 5 := by unfold I.size; rw [hf]; rfl
  have HZ : Hid (I.size op = 5) := hsz
  have ho2 : (s[k].toNat : Int) ≤ 255 := by have := s[k].toNat_lt; omega
  obtain ⟨nn, hnn⟩ : ∃ nn, W.numV (s.extract (k + 1) (k + 5)) = nn := ⟨_, rfl⟩
  have HNN : Hid (W.numV (s.extract (k + 1) (k + 5)) = nn) := hnn
  have wnn : (Lit.int .i64 nn).wf = true := by rw [← hnn]; exact W.numV_wf _
  rw [hnn]
  clear hnn
  have h0 : (0 : Int) ≤ (k : Int) := by omega
  have h1 : (k : Int) ≤ (s.size : Int) := by omega
  have h2 : ¬ (k : Int) = (s.size : Int) := by omega
  have h3 : ¬ (s.size : Int) < (k : Int) + 5 := by omega
  have hkk : k < s.size := by omega
  clear hf hsz
  obtain ⟨ee, hee⟩ : ∃ ee, I.encE op 0 0 nn = ee := ⟨_, rfl⟩
  have HEE : Hid (I.encE op 0 0 nn = ee) := hee
  rw [hee]
  clear hee
  obtain ⟨R, hR⟩ : ∃ R, (if ee = 0 then decV (insW op 0 0 nn) ((k : Int) + 5) 0 else decV (insW 0 0 0 0) 0 9) = R := ⟨_, rfl⟩
  have HR : Hid ((if ee = 0 then decV (insW op 0 0 nn) ((k : Int) + 5) 0 else decV (insW 0 0 0 0) 0 9) = R) := hR
  rw [hR]
  clear hR
  go_enter Tryd.func36, Tryd.ntmps36
  go_wp2_with (first | (go_at_call 17; refine (rsize_any _ _).mono ?_; rintro e w' ⟨rfl, rfl⟩; rw [HZ.out]) | (go_at_call 37; refine (form_any _ _).mono ?_; rintro e w' ⟨rfl, rfl⟩; rw [HF.out]) | (go_at_call 38; refine (parts_any _ ?_ ?_ _).mono ?_; omega; omega; rintro e w' ⟨rfl, rfl⟩; rw [pA, pB, pN]) | (go_at_call 53; refine (rnumber_any _ _).mono ?_; rintro e w' ⟨rfl, rfl⟩))
  rw [HNN.out]
  refine (rencode_any op 0 0 nn wnn _).mono ?_
  rintro e w1 ⟨rfl, hb1⟩
  rw [HEE.out]
  obtain ⟨hc1, hf1⟩ := bcell hb1
  have hz1 := hb1.size
  simp at hz1
  have kr : ∀ o, w1.cell? ⟨w.heap.size, o, none⟩ = (#[.int .i64 0, .int .i64 0, .int .i64 0, .int .i64 0] : Array Value)[o]? := fun o => by
    rw [hc1 _ _ (by simp; omega)]; simp (disch := (first | ((try simp only [World.size_alloc]) <;> omega) | fail)) only [World.cell?_alloc_at, World.cell?_alloc_past]
  have ki : ∀ o, w1.cell? ⟨w.heap.size + 1, o, none⟩ = (#[.int .i64 op, .int .i64 0, .int .i64 0, .int .i64 nn] : Array Value)[o]? := fun o => by
    rw [hc1 _ _ (by simp)]; simp (disch := (first | ((try simp only [World.size_alloc]) <;> omega) | fail)) only [World.cell?_alloc_at]
  have kz : ∀ o, w1.frozen? ⟨w.heap.size, o, none⟩ = false := fun o => by
    rw [hf1 _ _ (by simp; omega), frozen?_alloc_cells]
    exact World.frozen?_alloc_at _ _ _ _ rfl
  have zi : w.heap.size < w1.heap.size := by omega
  have zj : w.heap.size + 1 < w1.heap.size := by omega
  have q1 : Below w.heap.size w w1 := (bl2 _ _ _).trans (hb1.mono (by simp; omega))
  clear hc1 hf1 hb1
  by_cases h : ee = 0
  · subst h
    go_wp2
    refine bodyPost_ret (v := decV (insW op 0 0 nn) ((k : Int) + 5) 0) (by simp [results, Tryd.results36, go_sem, kr]) rfl ⟨by rw [← HR.out]; simp, ?_⟩
    repeat (refine Below.setCell ?_ (by simp) _)
    exact q1
  · go_wp2
    refine bodyPost_ret (v := decV (insW 0 0 0 0) 0 9) (by simp [results, Tryd.results36, go_sem, kr]) rfl ⟨by rw [← HR.out, if_neg h], ?_⟩
    repeat (refine Below.setCell ?_ (by simp) _)
    exact q1

end Go.Proofs.YtffokdldgdjkhaaDoor
