/- The document's Decode, where the bytes reach, form by form. (Written by gen_rdec.py.) -/
import Derived.Test.YtmplnkfjaeegdaaDoorPRefC
import Derived.Test.YtmplnkfjaeegdaaDoorPInsB
import Derived.Test.YtmplnkfjaeegdaaDoorPRefD
import Derived.Deep.LoopGhost
namespace Go.Proofs.YtmplnkfjaeegdaaDoor
set_option maxRecDepth 100000
open Go.RowKit
set_option linter.unusedVariables false
attribute [local go_sem ↓] Go.wp_at_zero Go.wp_at_succ

set_option maxRecDepth 100000 in
set_option maxHeartbeats 16000000 in
theorem rdec_6 (s : ByteArray) (k : Nat) (hk : k + 1 ≤ s.size) (hm : s.size ≤ 9223372036854775000) (op : Int) (ho : (s[k].toNat : Int) = op) (hf : I.form op = 6) (w : World) :
    Calls Tryd.prog 62 #[.string s, .int .i64 k] w fun e w' => e = .returned (if I.encE op 0 0 0 = 0 then decV (insW op 0 0 0) ((k : Int) + 1) 0 else decV (insW 0 0 0 0) 0 9) ∧ Below w.heap.size w w' := by
  have pA : I.hasA 6 = false := by decide
  have pB : I.hasB 6 = false := by decide
  have pN : I.numB 6 = 0 := by decide
  have HF : Hid (I.form op = 6) := hf
  have hsz : I.size op = 1 := by unfold I.size; rw [hf]; rfl
  have HZ : Hid (I.size op = 1) := hsz
  have ho2 : (s[k].toNat : Int) ≤ 255 := by have := s[k].toNat_lt; omega
  have wnn : (Lit.int .i64 0).wf = true := by decide
  have h0 : (0 : Int) ≤ (k : Int) := by omega
  have h1 : (k : Int) ≤ (s.size : Int) := by omega
  have h2 : ¬ (k : Int) = (s.size : Int) := by omega
  have h3 : ¬ (s.size : Int) < (k : Int) + 1 := by omega
  have hkk : k < s.size := by omega
  clear hf hsz
  obtain ⟨ee, hee⟩ : ∃ ee, I.encE op 0 0 0 = ee := ⟨_, rfl⟩
  have HEE : Hid (I.encE op 0 0 0 = ee) := hee
  rw [hee]
  clear hee
  obtain ⟨R, hR⟩ : ∃ R, (if ee = 0 then decV (insW op 0 0 0) ((k : Int) + 1) 0 else decV (insW 0 0 0 0) 0 9) = R := ⟨_, rfl⟩
  have HR : Hid ((if ee = 0 then decV (insW op 0 0 0) ((k : Int) + 1) 0 else decV (insW 0 0 0 0) 0 9) = R) := hR
  rw [hR]
  clear hR
  go_enter Tryd.func62, Tryd.ntmps62
  go_wp2_with (first | (go_at_call 37; refine (rsize_any _ _).mono ?_; rintro e w' ⟨rfl, rfl⟩; rw [HZ.out]) | (go_at_call 63; refine (form_any _ _).mono ?_; rintro e w' ⟨rfl, rfl⟩; rw [HF.out]) | (go_at_call 64; refine (parts_any _ ?_ ?_ _).mono ?_; omega; omega; rintro e w' ⟨rfl, rfl⟩; rw [pA, pB, pN]) | (go_at_call 84; refine (rnumber_any _ _).mono ?_; rintro e w' ⟨rfl, rfl⟩))
  refine (rencode_any op 0 0 0 wnn _).mono ?_
  rintro e w1 ⟨rfl, hb1⟩
  rw [HEE.out]
  obtain ⟨hc1, hf1⟩ := bcell hb1
  have hz1 := hb1.size
  simp at hz1
  have kr : ∀ o, w1.cell? ⟨w.heap.size, o, none⟩ = (#[.int .i64 0, .int .i64 0, .int .i64 0, .int .i64 0] : Array Value)[o]? := fun o => by
    rw [hc1 _ _ (by simp; omega)]; simp (disch := (first | ((try simp only [World.size_alloc]) <;> omega) | fail)) only [World.cell?_alloc_at, World.cell?_alloc_past]
  have ki : ∀ o, w1.cell? ⟨w.heap.size + 1, o, none⟩ = (#[.int .i64 op, .int .i64 0, .int .i64 0, .int .i64 0] : Array Value)[o]? := fun o => by
    rw [hc1 _ _ (by simp)]; simp (disch := (first | ((try simp only [World.size_alloc]) <;> omega) | fail)) only [World.cell?_alloc_at]
  have kz : ∀ o, w1.frozen? ⟨w.heap.size, o, none⟩ = false := fun o => by
    rw [hf1 _ _ (by simp; omega), frozen?_alloc_cells]
    exact World.frozen?_alloc_at _ _ _ _ rfl
  have zi : w.heap.size < w1.heap.size := by omega
  have zj : w.heap.size + 1 < w1.heap.size := by omega
  have q1 : Below w.heap.size w w1 := (bl2 _ _ _).trans (hb1.mono (by simp; omega))
  clear hc1 hf1 hb1
  by_cases h : ee = 0
  · subst h
    go_wp2
    refine bodyPost_ret (v := decV (insW op 0 0 0) ((k : Int) + 1) 0) (by simp [results, Tryd.results62, go_sem, kr]) rfl ⟨by rw [← HR.out]; simp, ?_⟩
    repeat (refine Below.setCell ?_ (by simp) _)
    exact q1
  · go_wp2
    refine bodyPost_ret (v := decV (insW 0 0 0 0) 0 9) (by simp [results, Tryd.results62, go_sem, kr]) rfl ⟨by rw [← HR.out, if_neg h], ?_⟩
    repeat (refine Below.setCell ?_ (by simp) _)
    exact q1

set_option maxRecDepth 100000 in
set_option maxHeartbeats 16000000 in
theorem rdec_7 (s : ByteArray) (k : Nat) (hk : k + 2 ≤ s.size) (hm : s.size ≤ 9223372036854775000) (op : Int) (ho : (s[k].toNat : Int) = op) (hf : I.form op = 7) (w : World) :
    Calls Tryd.prog 62 #[.string s, .int .i64 k] w fun e w' => e = .returned (if I.encE op 0 0 (W.numV (s.extract (k + 1) (k + 2))) = 0 then decV (insW op 0 0 (W.numV (s.extract (k + 1) (k + 2)))) ((k : Int) + 2) 0 else decV (insW 0 0 0 0) 0 9) ∧ Below w.heap.size w w' := by
  have pA : I.hasA 7 = false := by decide
  have pB : I.hasB 7 = false := by decide
  have pN : I.numB 7 = 1 := by decide
  have HF : Hid (I.form op = 7) := hf
  have hsz : I.size op = 2 := by unfold I.size; rw [hf]; rfl
  have HZ : Hid (I.size op = 2) := hsz
  have ho2 : (s[k].toNat : Int) ≤ 255 := by have := s[k].toNat_lt; omega
  obtain ⟨nn, hnn⟩ : ∃ nn, W.numV (s.extract (k + 1) (k + 2)) = nn := ⟨_, rfl⟩
  have HNN : Hid (W.numV (s.extract (k + 1) (k + 2)) = nn) := hnn
  have wnn : (Lit.int .i64 nn).wf = true := by rw [← hnn]; exact W.numV_wf _
  rw [hnn]
  clear hnn
  have h0 : (0 : Int) ≤ (k : Int) := by omega
  have h1 : (k : Int) ≤ (s.size : Int) := by omega
  have h2 : ¬ (k : Int) = (s.size : Int) := by omega
  have h3 : ¬ (s.size : Int) < (k : Int) + 2 := by omega
  have hkk : k < s.size := by omega
  clear hf hsz
  obtain ⟨ee, hee⟩ : ∃ ee, I.encE op 0 0 nn = ee := ⟨_, rfl⟩
  have HEE : Hid (I.encE op 0 0 nn = ee) := hee
  rw [hee]
  clear hee
  obtain ⟨R, hR⟩ : ∃ R, (if ee = 0 then decV (insW op 0 0 nn) ((k : Int) + 2) 0 else decV (insW 0 0 0 0) 0 9) = R := ⟨_, rfl⟩
  have HR : Hid ((if ee = 0 then decV (insW op 0 0 nn) ((k : Int) + 2) 0 else decV (insW 0 0 0 0) 0 9) = R) := hR
  rw [hR]
  clear hR
  go_enter Tryd.func62, Tryd.ntmps62
  go_wp2_with (first | (go_at_call 37; refine (rsize_any _ _).mono ?_; rintro e w' ⟨rfl, rfl⟩; rw [HZ.out]) | (go_at_call 63; refine (form_any _ _).mono ?_; rintro e w' ⟨rfl, rfl⟩; rw [HF.out]) | (go_at_call 64; refine (parts_any _ ?_ ?_ _).mono ?_; omega; omega; rintro e w' ⟨rfl, rfl⟩; rw [pA, pB, pN]) | (go_at_call 84; refine (rnumber_any _ _).mono ?_; rintro e w' ⟨rfl, rfl⟩))
  rw [HNN.out]
  refine (rencode_any op 0 0 nn wnn _).mono ?_
  rintro e w1 ⟨rfl, hb1⟩
  rw [HEE.out]
  obtain ⟨hc1, hf1⟩ := bcell hb1
  have hz1 := hb1.size
  simp at hz1
  have kr : ∀ o, w1.cell? ⟨w.heap.size, o, none⟩ = (#[.int .i64 0, .int .i64 0, .int .i64 0, .int .i64 0] : Array Value)[o]? := fun o => by
    rw [hc1 _ _ (by simp; omega)]; simp (disch := (first | ((try simp only [World.size_alloc]) <;> omega) | fail)) only [World.cell?_alloc_at, World.cell?_alloc_past]
  have ki : ∀ o, w1.cell? ⟨w.heap.size + 1, o, none⟩ = (#[.int .i64 op, .int .i64 0, .int .i64 0, .int .i64 nn] : Array Value)[o]? := fun o => by
    rw [hc1 _ _ (by simp)]; simp (disch := (first | ((try simp only [World.size_alloc]) <;> omega) | fail)) only [World.cell?_alloc_at]
  have kz : ∀ o, w1.frozen? ⟨w.heap.size, o, none⟩ = false := fun o => by
    rw [hf1 _ _ (by simp; omega), frozen?_alloc_cells]
    exact World.frozen?_alloc_at _ _ _ _ rfl
  have zi : w.heap.size < w1.heap.size := by omega
  have zj : w.heap.size + 1 < w1.heap.size := by omega
  have q1 : Below w.heap.size w w1 := (bl2 _ _ _).trans (hb1.mono (by simp; omega))
  clear hc1 hf1 hb1
  by_cases h : ee = 0
  · subst h
    go_wp2
    refine bodyPost_ret (v := decV (insW op 0 0 nn) ((k : Int) + 2) 0) (by simp [results, Tryd.results62, go_sem, kr]) rfl ⟨by rw [← HR.out]; simp, ?_⟩
    repeat (refine Below.setCell ?_ (by simp) _)
    exact q1
  · go_wp2
    refine bodyPost_ret (v := decV (insW 0 0 0 0) 0 9) (by simp [results, Tryd.results62, go_sem, kr]) rfl ⟨by rw [← HR.out, if_neg h], ?_⟩
    repeat (refine Below.setCell ?_ (by simp) _)
    exact q1

set_option maxRecDepth 100000 in
set_option maxHeartbeats 16000000 in
theorem rdec_8 (s : ByteArray) (k : Nat) (hk : k + 3 ≤ s.size) (hm : s.size ≤ 9223372036854775000) (op : Int) (ho : (s[k].toNat : Int) = op) (hf : I.form op = 8) (w : World) :
    Calls Tryd.prog 62 #[.string s, .int .i64 k] w fun e w' => e = .returned (if I.encE op (s[k + 1].toNat : Int) 0 (W.numV (s.extract (k + 2) (k + 3))) = 0 then decV (insW op (s[k + 1].toNat : Int) 0 (W.numV (s.extract (k + 2) (k + 3)))) ((k : Int) + 3) 0 else decV (insW 0 0 0 0) 0 9) ∧ Below w.heap.size w w' := by
  have pA : I.hasA 8 = true := by decide
  have pB : I.hasB 8 = false := by decide
  have pN : I.numB 8 = 1 := by decide
  have HF : Hid (I.form op = 8) := hf
  have hsz : I.size op = 3 := by unfold I.size; rw [hf]; rfl
  have HZ : Hid (I.size op = 3) := hsz
  have ho2 : (s[k].toNat : Int) ≤ 255 := by have := s[k].toNat_lt; omega
  have hy : (s[k + 1].toNat : Int) ≤ 255 := by have := s[k + 1].toNat_lt; omega
  have hy0 : (0 : Int) ≤ (s[k + 1].toNat : Int) := by omega
  have hk1 : k + 1 < s.size := by omega
  have hi1 : ((k : Int) + 1) < (s.size : Int) := by omega
  obtain ⟨nn, hnn⟩ : ∃ nn, W.numV (s.extract (k + 2) (k + 3)) = nn := ⟨_, rfl⟩
  have HNN : Hid (W.numV (s.extract (k + 2) (k + 3)) = nn) := hnn
  have wnn : (Lit.int .i64 nn).wf = true := by rw [← hnn]; exact W.numV_wf _
  rw [hnn]
  clear hnn
  have h0 : (0 : Int) ≤ (k : Int) := by omega
  have h1 : (k : Int) ≤ (s.size : Int) := by omega
  have h2 : ¬ (k : Int) = (s.size : Int) := by omega
  have h3 : ¬ (s.size : Int) < (k : Int) + 3 := by omega
  have hkk : k < s.size := by omega
  clear hf hsz
  obtain ⟨ee, hee⟩ : ∃ ee, I.encE op (s[k + 1].toNat : Int) 0 nn = ee := ⟨_, rfl⟩
  have HEE : Hid (I.encE op (s[k + 1].toNat : Int) 0 nn = ee) := hee
  rw [hee]
  clear hee
  obtain ⟨R, hR⟩ : ∃ R, (if ee = 0 then decV (insW op (s[k + 1].toNat : Int) 0 nn) ((k : Int) + 3) 0 else decV (insW 0 0 0 0) 0 9) = R := ⟨_, rfl⟩
  have HR : Hid ((if ee = 0 then decV (insW op (s[k + 1].toNat : Int) 0 nn) ((k : Int) + 3) 0 else decV (insW 0 0 0 0) 0 9) = R) := hR
  rw [hR]
  clear hR
  go_enter Tryd.func62, Tryd.ntmps62
  go_wp2_with (first | (go_at_call 37; refine (rsize_any _ _).mono ?_; rintro e w' ⟨rfl, rfl⟩; rw [HZ.out]) | (go_at_call 63; refine (form_any _ _).mono ?_; rintro e w' ⟨rfl, rfl⟩; rw [HF.out]) | (go_at_call 64; refine (parts_any _ ?_ ?_ _).mono ?_; omega; omega; rintro e w' ⟨rfl, rfl⟩; rw [pA, pB, pN]) | (go_at_call 84; refine (rnumber_any _ _).mono ?_; rintro e w' ⟨rfl, rfl⟩))
  rw [HNN.out]
  refine (rencode_any op (s[k + 1].toNat : Int) 0 nn wnn _).mono ?_
  rintro e w1 ⟨rfl, hb1⟩
  rw [HEE.out]
  obtain ⟨hc1, hf1⟩ := bcell hb1
  have hz1 := hb1.size
  simp at hz1
  have kr : ∀ o, w1.cell? ⟨w.heap.size, o, none⟩ = (#[.int .i64 0, .int .i64 0, .int .i64 0, .int .i64 0] : Array Value)[o]? := fun o => by
    rw [hc1 _ _ (by simp; omega)]; simp (disch := (first | ((try simp only [World.size_alloc]) <;> omega) | fail)) only [World.cell?_alloc_at, World.cell?_alloc_past]
  have ki : ∀ o, w1.cell? ⟨w.heap.size + 1, o, none⟩ = (#[.int .i64 op, .int .i64 (s[k + 1].toNat : Int), .int .i64 0, .int .i64 nn] : Array Value)[o]? := fun o => by
    rw [hc1 _ _ (by simp)]; simp (disch := (first | ((try simp only [World.size_alloc]) <;> omega) | fail)) only [World.cell?_alloc_at]
  have kz : ∀ o, w1.frozen? ⟨w.heap.size, o, none⟩ = false := fun o => by
    rw [hf1 _ _ (by simp; omega), frozen?_alloc_cells]
    exact World.frozen?_alloc_at _ _ _ _ rfl
  have zi : w.heap.size < w1.heap.size := by omega
  have zj : w.heap.size + 1 < w1.heap.size := by omega
  have q1 : Below w.heap.size w w1 := (bl2 _ _ _).trans (hb1.mono (by simp; omega))
  clear hc1 hf1 hb1
  by_cases h : ee = 0
  · subst h
    go_wp2
    refine bodyPost_ret (v := decV (insW op (s[k + 1].toNat : Int) 0 nn) ((k : Int) + 3) 0) (by simp [results, Tryd.results62, go_sem, kr]) rfl ⟨by rw [← HR.out]; simp, ?_⟩
    repeat (refine Below.setCell ?_ (by simp) _)
    exact q1
  · go_wp2
    refine bodyPost_ret (v := decV (insW 0 0 0 0) 0 9) (by simp [results, Tryd.results62, go_sem, kr]) rfl ⟨by rw [← HR.out, if_neg h], ?_⟩
    repeat (refine Below.setCell ?_ (by simp) _)
    exact q1

set_option maxRecDepth 100000 in
set_option maxHeartbeats 16000000 in
theorem rdec_9 (s : ByteArray) (k : Nat) (hk : k + 2 ≤ s.size) (hm : s.size ≤ 9223372036854775000) (op : Int) (ho : (s[k].toNat : Int) = op) (hf : I.form op = 9) (w : World) :
    Calls Tryd.prog 62 #[.string s, .int .i64 k] w fun e w' => e = .returned (if I.encE op (s[k + 1].toNat : Int) 0 0 = 0 then decV (insW op (s[k + 1].toNat : Int) 0 0) ((k : Int) + 2) 0 else decV (insW 0 0 0 0) 0 9) ∧ Below w.heap.size w w' := by
  have pA : I.hasA 9 = true := by decide
  have pB : I.hasB 9 = false := by decide
  have pN : I.numB 9 = 0 := by decide
  have HF : Hid (I.form op = 9) := hf
  have hsz : I.size op = 2 := by unfold I.size; rw [hf]; rfl
  have HZ : Hid (I.size op = 2) := hsz
  have ho2 : (s[k].toNat : Int) ≤ 255 := by have := s[k].toNat_lt; omega
  have hy : (s[k + 1].toNat : Int) ≤ 255 := by have := s[k + 1].toNat_lt; omega
  have hy0 : (0 : Int) ≤ (s[k + 1].toNat : Int) := by omega
  have hk1 : k + 1 < s.size := by omega
  have hi1 : ((k : Int) + 1) < (s.size : Int) := by omega
  have wnn : (Lit.int .i64 0).wf = true := by decide
  have h0 : (0 : Int) ≤ (k : Int) := by omega
  have h1 : (k : Int) ≤ (s.size : Int) := by omega
  have h2 : ¬ (k : Int) = (s.size : Int) := by omega
  have h3 : ¬ (s.size : Int) < (k : Int) + 2 := by omega
  have hkk : k < s.size := by omega
  clear hf hsz
  obtain ⟨ee, hee⟩ : ∃ ee, I.encE op (s[k + 1].toNat : Int) 0 0 = ee := ⟨_, rfl⟩
  have HEE : Hid (I.encE op (s[k + 1].toNat : Int) 0 0 = ee) := hee
  rw [hee]
  clear hee
  obtain ⟨R, hR⟩ : ∃ R, (if ee = 0 then decV (insW op (s[k + 1].toNat : Int) 0 0) ((k : Int) + 2) 0 else decV (insW 0 0 0 0) 0 9) = R := ⟨_, rfl⟩
  have HR : Hid ((if ee = 0 then decV (insW op (s[k + 1].toNat : Int) 0 0) ((k : Int) + 2) 0 else decV (insW 0 0 0 0) 0 9) = R) := hR
  rw [hR]
  clear hR
  go_enter Tryd.func62, Tryd.ntmps62
  go_wp2_with (first | (go_at_call 37; refine (rsize_any _ _).mono ?_; rintro e w' ⟨rfl, rfl⟩; rw [HZ.out]) | (go_at_call 63; refine (form_any _ _).mono ?_; rintro e w' ⟨rfl, rfl⟩; rw [HF.out]) | (go_at_call 64; refine (parts_any _ ?_ ?_ _).mono ?_; omega; omega; rintro e w' ⟨rfl, rfl⟩; rw [pA, pB, pN]) | (go_at_call 84; refine (rnumber_any _ _).mono ?_; rintro e w' ⟨rfl, rfl⟩))
  refine (rencode_any op (s[k + 1].toNat : Int) 0 0 wnn _).mono ?_
  rintro e w1 ⟨rfl, hb1⟩
  rw [HEE.out]
  obtain ⟨hc1, hf1⟩ := bcell hb1
  have hz1 := hb1.size
  simp at hz1
  have kr : ∀ o, w1.cell? ⟨w.heap.size, o, none⟩ = (#[.int .i64 0, .int .i64 0, .int .i64 0, .int .i64 0] : Array Value)[o]? := fun o => by
    rw [hc1 _ _ (by simp; omega)]; simp (disch := (first | ((try simp only [World.size_alloc]) <;> omega) | fail)) only [World.cell?_alloc_at, World.cell?_alloc_past]
  have ki : ∀ o, w1.cell? ⟨w.heap.size + 1, o, none⟩ = (#[.int .i64 op, .int .i64 (s[k + 1].toNat : Int), .int .i64 0, .int .i64 0] : Array Value)[o]? := fun o => by
    rw [hc1 _ _ (by simp)]; simp (disch := (first | ((try simp only [World.size_alloc]) <;> omega) | fail)) only [World.cell?_alloc_at]
  have kz : ∀ o, w1.frozen? ⟨w.heap.size, o, none⟩ = false := fun o => by
    rw [hf1 _ _ (by simp; omega), frozen?_alloc_cells]
    exact World.frozen?_alloc_at _ _ _ _ rfl
  have zi : w.heap.size < w1.heap.size := by omega
  have zj : w.heap.size + 1 < w1.heap.size := by omega
  have q1 : Below w.heap.size w w1 := (bl2 _ _ _).trans (hb1.mono (by simp; omega))
  clear hc1 hf1 hb1
  by_cases h : ee = 0
  · subst h
    go_wp2
    refine bodyPost_ret (v := decV (insW op (s[k + 1].toNat : Int) 0 0) ((k : Int) + 2) 0) (by simp [results, Tryd.results62, go_sem, kr]) rfl ⟨by rw [← HR.out]; simp, ?_⟩
    repeat (refine Below.setCell ?_ (by simp) _)
    exact q1
  · go_wp2
    refine bodyPost_ret (v := decV (insW 0 0 0 0) 0 9) (by simp [results, Tryd.results62, go_sem, kr]) rfl ⟨by rw [← HR.out, if_neg h], ?_⟩
    repeat (refine Below.setCell ?_ (by simp) _)
    exact q1

set_option maxRecDepth 100000 in
set_option maxHeartbeats 16000000 in
theorem rdec_10 (s : ByteArray) (k : Nat) (hk : k + 2 ≤ s.size) (hm : s.size ≤ 9223372036854775000) (op : Int) (ho : (s[k].toNat : Int) = op) (hf : I.form op = 10) (w : World) :
    Calls Tryd.prog 62 #[.string s, .int .i64 k] w fun e w' => e = .returned (if I.encE op 0 0 (W.numV (s.extract (k + 1) (k + 2))) = 0 then decV (insW op 0 0 (W.numV (s.extract (k + 1) (k + 2)))) ((k : Int) + 2) 0 else decV (insW 0 0 0 0) 0 9) ∧ Below w.heap.size w w' := by
  have pA : I.hasA 10 = false := by decide
  have pB : I.hasB 10 = false := by decide
  have pN : I.numB 10 = 1 := by decide
  have HF : Hid (I.form op = 10) := hf
  have hsz : I.size op = 2 := by unfold I.size; rw [hf]; rfl
  have HZ : Hid (I.size op = 2) := hsz
  have ho2 : (s[k].toNat : Int) ≤ 255 := by have := s[k].toNat_lt; omega
  obtain ⟨nn, hnn⟩ : ∃ nn, W.numV (s.extract (k + 1) (k + 2)) = nn := ⟨_, rfl⟩
  have HNN : Hid (W.numV (s.extract (k + 1) (k + 2)) = nn) := hnn
  have wnn : (Lit.int .i64 nn).wf = true := by rw [← hnn]; exact W.numV_wf _
  rw [hnn]
  clear hnn
  have h0 : (0 : Int) ≤ (k : Int) := by omega
  have h1 : (k : Int) ≤ (s.size : Int) := by omega
  have h2 : ¬ (k : Int) = (s.size : Int) := by omega
  have h3 : ¬ (s.size : Int) < (k : Int) + 2 := by omega
  have hkk : k < s.size := by omega
  clear hf hsz
  obtain ⟨ee, hee⟩ : ∃ ee, I.encE op 0 0 nn = ee := ⟨_, rfl⟩
  have HEE : Hid (I.encE op 0 0 nn = ee) := hee
  rw [hee]
  clear hee
  obtain ⟨R, hR⟩ : ∃ R, (if ee = 0 then decV (insW op 0 0 nn) ((k : Int) + 2) 0 else decV (insW 0 0 0 0) 0 9) = R := ⟨_, rfl⟩
  have HR : Hid ((if ee = 0 then decV (insW op 0 0 nn) ((k : Int) + 2) 0 else decV (insW 0 0 0 0) 0 9) = R) := hR
  rw [hR]
  clear hR
  go_enter Tryd.func62, Tryd.ntmps62
  go_wp2_with (first | (go_at_call 37; refine (rsize_any _ _).mono ?_; rintro e w' ⟨rfl, rfl⟩; rw [HZ.out]) | (go_at_call 63; refine (form_any _ _).mono ?_; rintro e w' ⟨rfl, rfl⟩; rw [HF.out]) | (go_at_call 64; refine (parts_any _ ?_ ?_ _).mono ?_; omega; omega; rintro e w' ⟨rfl, rfl⟩; rw [pA, pB, pN]) | (go_at_call 84; refine (rnumber_any _ _).mono ?_; rintro e w' ⟨rfl, rfl⟩))
  rw [HNN.out]
  refine (rencode_any op 0 0 nn wnn _).mono ?_
  rintro e w1 ⟨rfl, hb1⟩
  rw [HEE.out]
  obtain ⟨hc1, hf1⟩ := bcell hb1
  have hz1 := hb1.size
  simp at hz1
  have kr : ∀ o, w1.cell? ⟨w.heap.size, o, none⟩ = (#[.int .i64 0, .int .i64 0, .int .i64 0, .int .i64 0] : Array Value)[o]? := fun o => by
    rw [hc1 _ _ (by simp; omega)]; simp (disch := (first | ((try simp only [World.size_alloc]) <;> omega) | fail)) only [World.cell?_alloc_at, World.cell?_alloc_past]
  have ki : ∀ o, w1.cell? ⟨w.heap.size + 1, o, none⟩ = (#[.int .i64 op, .int .i64 0, .int .i64 0, .int .i64 nn] : Array Value)[o]? := fun o => by
    rw [hc1 _ _ (by simp)]; simp (disch := (first | ((try simp only [World.size_alloc]) <;> omega) | fail)) only [World.cell?_alloc_at]
  have kz : ∀ o, w1.frozen? ⟨w.heap.size, o, none⟩ = false := fun o => by
    rw [hf1 _ _ (by simp; omega), frozen?_alloc_cells]
    exact World.frozen?_alloc_at _ _ _ _ rfl
  have zi : w.heap.size < w1.heap.size := by omega
  have zj : w.heap.size + 1 < w1.heap.size := by omega
  have q1 : Below w.heap.size w w1 := (bl2 _ _ _).trans (hb1.mono (by simp; omega))
  clear hc1 hf1 hb1
  by_cases h : ee = 0
  · subst h
    go_wp2
    refine bodyPost_ret (v := decV (insW op 0 0 nn) ((k : Int) + 2) 0) (by simp [results, Tryd.results62, go_sem, kr]) rfl ⟨by rw [← HR.out]; simp, ?_⟩
    repeat (refine Below.setCell ?_ (by simp) _)
    exact q1
  · go_wp2
    refine bodyPost_ret (v := decV (insW 0 0 0 0) 0 9) (by simp [results, Tryd.results62, go_sem, kr]) rfl ⟨by rw [← HR.out, if_neg h], ?_⟩
    repeat (refine Below.setCell ?_ (by simp) _)
    exact q1

end Go.Proofs.YtmplnkfjaeegdaaDoor

/- The document's Decode and All, whatever the bytes. -/
namespace Go.Proofs.YtmplnkfjaeegdaaDoor
set_option maxRecDepth 100000
open Go.RowKit
set_option linter.unusedVariables false
attribute [local go_sem ↓] Go.wp_at_zero Go.wp_at_succ

set_option maxRecDepth 100000 in
set_option maxHeartbeats 8000000 in
theorem rdec_arg (s : ByteArray) (a : Int) (h : a < 0 ∨ (s.size : Int) < a) (w : World) :
    Calls Tryd.prog 62 #[.string s, .int .i64 a] w fun e w' => e = .returned (decV (insW 0 0 0 0) 0 1) ∧ Below w.heap.size w w' := by
  rcases (show a < 0 ∨ (0 ≤ a ∧ (s.size : Int) < a) by omega) with h | ⟨h, h'⟩
  all_goals
    go_enter Tryd.func62, Tryd.ntmps62
    go_wp2
    exact bodyPost_ret (v := decV (insW 0 0 0 0) 0 1) (by simp [results, Tryd.results62, go_sem]) rfl ⟨rfl, bl1 _ _⟩

set_option maxRecDepth 100000 in
set_option maxHeartbeats 8000000 in
theorem rdec_end (s : ByteArray) (k : Nat) (h : k = s.size) (w : World) :
    Calls Tryd.prog 62 #[.string s, .int .i64 k] w fun e w' => e = .returned (decV (insW 0 0 0 0) 0 9) ∧ Below w.heap.size w w' := by
  have h1 : (k : Int) = (s.size : Int) := by omega
  clear h
  go_enter Tryd.func62, Tryd.ntmps62
  go_wp2
  exact bodyPost_ret (v := decV (insW 0 0 0 0) 0 9) (by simp [results, Tryd.results62, go_sem]) rfl ⟨rfl, bl1 _ _⟩

set_option maxRecDepth 100000 in
set_option maxHeartbeats 8000000 in
theorem rdec_short (s : ByteArray) (k : Nat) (hk : k < s.size) (hm : s.size ≤ 9223372036854775000) (op z : Int) (ho : (s[k].toNat : Int) = op) (hz : I.size op = z) (h : z = 0 ∨ (¬ z = 0 ∧ 0 ≤ z ∧ z ≤ 10 ∧ (s.size : Int) < k + z)) (w : World) :
    Calls Tryd.prog 62 #[.string s, .int .i64 k] w fun e w' => e = .returned (decV (insW 0 0 0 0) 0 9) ∧ Below w.heap.size w w' := by
  have HZ : Hid (I.size op = z) := hz
  have ho2 : (s[k].toNat : Int) ≤ 255 := by have := s[k].toNat_lt; omega
  have h0 : (0 : Int) ≤ (k : Int) := by omega
  have h1 : (k : Int) ≤ (s.size : Int) := by omega
  have h2 : ¬ (k : Int) = (s.size : Int) := by omega
  clear hz
  rcases h with h | ⟨h, h3, h4, h5⟩
  · subst h
    go_enter Tryd.func62, Tryd.ntmps62
    go_wp2_with (go_at_call 37; refine (rsize_any _ _).mono ?_; rintro e w' ⟨rfl, rfl⟩; rw [HZ.out])
    refine bodyPost_ret (v := decV (insW 0 0 0 0) 0 9) (by simp [results, Tryd.results62, go_sem]) rfl ⟨rfl, ?_⟩
    exact bl2 _ _ _
  · go_enter Tryd.func62, Tryd.ntmps62
    go_wp2_with (go_at_call 37; refine (rsize_any _ _).mono ?_; rintro e w' ⟨rfl, rfl⟩; rw [HZ.out])
    refine bodyPost_ret (v := decV (insW 0 0 0 0) 0 9) (by simp [results, Tryd.results62, go_sem]) rfl ⟨rfl, ?_⟩
    exact bl2 _ _ _

/-- What the two ways of telling come to: the instruction is one, just if it has a form. -/
theorem I.dOk_enc {c : ByteArray} (h0 : 0 < c.size) (h1 : 1 ≤ I.hd c ∧ I.hd c ≤ 33) (h2 : I.psize (I.hd c) ≤ (c.size : Int)) : I.dOk c = true ↔ I.encE (I.hd c) (I.dA c) (I.dB c) (I.dN c) = 0 := by
  constructor
  · intro h; exact (I.enc_dec h).1
  · intro h
    obtain ⟨ho, hb, hn, hv⟩ := I.enc_parts h
    have hr := I.bears_regs hb
    unfold I.dOk
    rw [decide_eq_true ⟨h0, h1.1, h1.2, h2⟩, I.isr_yes hr.1, I.isr_yes hr.2]
    unfold I.numOk at hn
    unfold I.rdOk
    by_cases e : I.num (I.hd c) = 0
    · rw [if_pos e]; rfl
    · rw [if_neg e] at hn
      rw [if_neg e]
      have hN : W.numV (I.dS c) = I.dN c := by unfold I.dN I.rdN; rw [if_neg e]
      have hs : ((I.dS c).size : Int) = I.num (I.hd c) := by
        have hm := I.num_cases e
        have hp := I.psize_nat (I.hd c)
        rw [← byts_len]
        unfold I.dS
        rw [byts_extract, List.length_take, List.length_drop, byts_len, hp]
        omega
      rw [hN, (W.numV_at (I.num_cases e) hs).2]
      have := (Bool.and_eq_true_iff.1 hn).2
      simpa using this

theorem cut_hd (s : ByteArray) (k : Nat) (hk : k < s.size) : I.hd (I.cut s k) = (s[k].toNat : Int) := by
  unfold I.hd I.cut
  show (byts (s.extract (k : Int).toNat s.size)).headD 0 = _
  rw [byts_extract]
  have : (k : Int).toNat = k := by omega
  rw [this]
  have h1 : (byts s).drop k = (s[k].toNat : Int) :: (byts s).drop (k + 1) := by
    have := W.tail_cons s k hk
    simpa [W.tail, List.map_drop] using this
  rw [h1]
  obtain ⟨n, hn⟩ : ∃ n, s.size - k = n + 1 := ⟨s.size - k - 1, by omega⟩
  rw [hn]
  rfl
theorem cut_size (s : ByteArray) (k : Nat) (hk : k ≤ s.size) : (I.cut s k).size = s.size - k := by
  unfold I.cut
  simp
theorem cut_cut (s : ByteArray) (k i j : Nat) (hj : k + j ≤ s.size) : (I.cut s k).extract i j = s.extract (k + i) (k + j) := by
  apply byts_inj
  rw [byts_extract, byts_extract]
  unfold I.cut
  rw [byts_extract]
  have : (k : Int).toNat = k := by omega
  rw [this, List.drop_take, List.take_take, List.drop_drop]
  congr 1
  omega
theorem ext_hd (s : ByteArray) (k j : Nat) (hk : k < s.size) (hj : k < j) : I.hd (s.extract k j) = (s[k].toNat : Int) := by
  unfold I.hd
  show (byts (s.extract k j)).headD 0 = _
  rw [byts_extract]
  have h1 : (byts s).drop k = (s[k].toNat : Int) :: (byts s).drop (k + 1) := by
    have := W.tail_cons s k hk
    simpa [W.tail, List.map_drop] using this
  rw [h1]
  obtain ⟨n, hn⟩ : ∃ n, j - k = n + 1 := ⟨j - k - 1, by omega⟩
  rw [hn]
  rfl

theorem rdec_fin {s : ByteArray} {k : Nat} {op a b n z : Int} (hk : k < s.size) (hm : s.size ≤ 9223372036854775000) (h1 : 1 ≤ op ∧ op ≤ 33) (hz : I.psize op = z) (hs : (k : Int) + z ≤ (s.size : Int))
    (ho : I.hd (I.cut s k) = op) (ha : I.dA (I.cut s k) = a) (hb : I.dB (I.cut s k) = b) (hn : I.dN (I.cut s k) = n) :
    (if I.encE op a b n = 0 then decV (insW op a b n) ((k : Int) + z) 0 else decV (insW 0 0 0 0) 0 9) = I.decR s k := by
  have hcs := cut_size s k (by omega)
  have hd := I.dOk_enc (c := I.cut s k) (by omega) (by rw [ho]; exact h1) (by rw [ho, hz]; omega)
  unfold I.decR
  rw [ho, ha, hb, hn] at hd
  rw [if_neg (show ¬ ((k : Int) < 0 ∨ (s.size : Int) < (k : Int)) by omega), ho, ha, hb, hn, hz]
  by_cases h : I.encE op a b n = 0
  · rw [if_pos h, if_pos (hd.2 h)]
  · rw [if_neg h, if_neg (fun x => h (hd.1 x))]

theorem rdecj_1 (s : ByteArray) (k : Nat) (hk : k + 10 ≤ s.size) (hm : s.size ≤ 9223372036854775000) (op : Int) (h1 : 1 ≤ op ∧ op ≤ 33) (ho : (s[k].toNat : Int) = op) (hf : I.form op = 1) (w : World) :
    Calls Tryd.prog 62 #[.string s, .int .i64 k] w fun e w' => e = .returned (I.decR s k) ∧ Below w.heap.size w w' := by
  have hr : I.regs op = 1 := by unfold I.regs; rw [hf]; rfl
  have hn : I.num op = 8 := by unfold I.num; rw [hf]; rfl
  have hp : I.psize op = 10 := by unfold I.psize; rw [hr, hn]; rfl
  have hka : I.kAt op = 2 := by unfold I.kAt; rw [hp, hn]; rfl
  have hd : I.hd (I.cut s k) = op := (cut_hd s k (by omega)).trans ho
  refine (rdec_1 s k hk hm op ho hf w).mono ?_
  rintro e w' ⟨rfl, hb⟩
  refine ⟨?_, hb⟩
  congr 1
  refine rdec_fin (by omega) hm h1 hp (by omega) hd ?_ ?_ ?_
  · unfold I.dA I.rA
    rw [hd, hr]
    rw [if_neg (by decide), if_pos rfl, hka, cut_cut s k 1 2 (by omega), ext_hd s (k + 1) (k + 2) (by omega) (by omega)]
  · unfold I.dB I.rB
    rw [hd, hr]
    rfl
  · unfold I.dN I.rdN
    rw [hd, hn]
    rw [if_neg (by decide)]
    unfold I.dS
    rw [hd, hka, hp, show ((10 : Int)).toNat = 10 from rfl, cut_cut s k 2 10 (by omega)]

theorem rdecj_2 (s : ByteArray) (k : Nat) (hk : k + 2 ≤ s.size) (hm : s.size ≤ 9223372036854775000) (op : Int) (h1 : 1 ≤ op ∧ op ≤ 33) (ho : (s[k].toNat : Int) = op) (hf : I.form op = 2) (w : World) :
    Calls Tryd.prog 62 #[.string s, .int .i64 k] w fun e w' => e = .returned (I.decR s k) ∧ Below w.heap.size w w' := by
  have hr : I.regs op = 2 := by unfold I.regs; rw [hf]; rfl
  have hn : I.num op = 0 := by unfold I.num; rw [hf]; rfl
  have hp : I.psize op = 2 := by unfold I.psize; rw [hr, hn]; rfl
  have hka : I.kAt op = 2 := by unfold I.kAt; rw [hp, hn]; rfl
  have hd : I.hd (I.cut s k) = op := (cut_hd s k (by omega)).trans ho
  refine (rdec_2 s k hk hm op ho hf w).mono ?_
  rintro e w' ⟨rfl, hb⟩
  refine ⟨?_, hb⟩
  congr 1
  refine rdec_fin (by omega) hm h1 hp (by omega) hd ?_ ?_ ?_
  · unfold I.dA I.rA
    rw [hd, hr]
    rw [if_neg (by decide), if_neg (by decide), hka, cut_cut s k 1 2 (by omega), ext_hd s (k + 1) (k + 2) (by omega) (by omega)]
  · unfold I.dB I.rB
    rw [hd, hr]
    rw [if_pos rfl, hka, cut_cut s k 1 2 (by omega), ext_hd s (k + 1) (k + 2) (by omega) (by omega)]
  · unfold I.dN I.rdN
    rw [hd, hn]
    rfl

theorem rdecj_3 (s : ByteArray) (k : Nat) (hk : k + 6 ≤ s.size) (hm : s.size ≤ 9223372036854775000) (op : Int) (h1 : 1 ≤ op ∧ op ≤ 33) (ho : (s[k].toNat : Int) = op) (hf : I.form op = 3) (w : World) :
    Calls Tryd.prog 62 #[.string s, .int .i64 k] w fun e w' => e = .returned (I.decR s k) ∧ Below w.heap.size w w' := by
  have hr : I.regs op = 2 := by unfold I.regs; rw [hf]; rfl
  have hn : I.num op = 4 := by unfold I.num; rw [hf]; rfl
  have hp : I.psize op = 6 := by unfold I.psize; rw [hr, hn]; rfl
  have hka : I.kAt op = 2 := by unfold I.kAt; rw [hp, hn]; rfl
  have hd : I.hd (I.cut s k) = op := (cut_hd s k (by omega)).trans ho
  refine (rdec_3 s k hk hm op ho hf w).mono ?_
  rintro e w' ⟨rfl, hb⟩
  refine ⟨?_, hb⟩
  congr 1
  refine rdec_fin (by omega) hm h1 hp (by omega) hd ?_ ?_ ?_
  · unfold I.dA I.rA
    rw [hd, hr]
    rw [if_neg (by decide), if_neg (by decide), hka, cut_cut s k 1 2 (by omega), ext_hd s (k + 1) (k + 2) (by omega) (by omega)]
  · unfold I.dB I.rB
    rw [hd, hr]
    rw [if_pos rfl, hka, cut_cut s k 1 2 (by omega), ext_hd s (k + 1) (k + 2) (by omega) (by omega)]
  · unfold I.dN I.rdN
    rw [hd, hn]
    rw [if_neg (by decide)]
    unfold I.dS
    rw [hd, hka, hp, show ((6 : Int)).toNat = 6 from rfl, cut_cut s k 2 6 (by omega)]

theorem rdecj_4 (s : ByteArray) (k : Nat) (hk : k + 6 ≤ s.size) (hm : s.size ≤ 9223372036854775000) (op : Int) (h1 : 1 ≤ op ∧ op ≤ 33) (ho : (s[k].toNat : Int) = op) (hf : I.form op = 4) (w : World) :
    Calls Tryd.prog 62 #[.string s, .int .i64 k] w fun e w' => e = .returned (I.decR s k) ∧ Below w.heap.size w w' := by
  have hr : I.regs op = 1 := by unfold I.regs; rw [hf]; rfl
  have hn : I.num op = 4 := by unfold I.num; rw [hf]; rfl
  have hp : I.psize op = 6 := by unfold I.psize; rw [hr, hn]; rfl
  have hka : I.kAt op = 2 := by unfold I.kAt; rw [hp, hn]; rfl
  have hd : I.hd (I.cut s k) = op := (cut_hd s k (by omega)).trans ho
  refine (rdec_4 s k hk hm op ho hf w).mono ?_
  rintro e w' ⟨rfl, hb⟩
  refine ⟨?_, hb⟩
  congr 1
  refine rdec_fin (by omega) hm h1 hp (by omega) hd ?_ ?_ ?_
  · unfold I.dA I.rA
    rw [hd, hr]
    rw [if_neg (by decide), if_pos rfl, hka, cut_cut s k 1 2 (by omega), ext_hd s (k + 1) (k + 2) (by omega) (by omega)]
  · unfold I.dB I.rB
    rw [hd, hr]
    rfl
  · unfold I.dN I.rdN
    rw [hd, hn]
    rw [if_neg (by decide)]
    unfold I.dS
    rw [hd, hka, hp, show ((6 : Int)).toNat = 6 from rfl, cut_cut s k 2 6 (by omega)]

theorem rdecj_5 (s : ByteArray) (k : Nat) (hk : k + 5 ≤ s.size) (hm : s.size ≤ 9223372036854775000) (op : Int) (h1 : 1 ≤ op ∧ op ≤ 33) (ho : (s[k].toNat : Int) = op) (hf : I.form op = 5) (w : World) :
    Calls Tryd.prog 62 #[.string s, .int .i64 k] w fun e w' => e = .returned (I.decR s k) ∧ Below w.heap.size w w' := by
  have hr : I.regs op = 0 := by unfold I.regs; rw [hf]; rfl
  have hn : I.num op = 4 := by unfold I.num; rw [hf]; rfl
  have hp : I.psize op = 5 := by unfold I.psize; rw [hr, hn]; rfl
  have hka : I.kAt op = 1 := by unfold I.kAt; rw [hp, hn]; rfl
  have hd : I.hd (I.cut s k) = op := (cut_hd s k (by omega)).trans ho
  refine (rdec_5 s k hk hm op ho hf w).mono ?_
  rintro e w' ⟨rfl, hb⟩
  refine ⟨?_, hb⟩
  congr 1
  refine rdec_fin (by omega) hm h1 hp (by omega) hd ?_ ?_ ?_
  · unfold I.dA I.rA
    rw [hd, hr]
    rfl
  · unfold I.dB I.rB
    rw [hd, hr]
    rfl
  · unfold I.dN I.rdN
    rw [hd, hn]
    rw [if_neg (by decide)]
    unfold I.dS
    rw [hd, hka, hp, show ((5 : Int)).toNat = 5 from rfl, cut_cut s k 1 5 (by omega)]

theorem rdecj_6 (s : ByteArray) (k : Nat) (hk : k + 1 ≤ s.size) (hm : s.size ≤ 9223372036854775000) (op : Int) (h1 : 1 ≤ op ∧ op ≤ 33) (ho : (s[k].toNat : Int) = op) (hf : I.form op = 6) (w : World) :
    Calls Tryd.prog 62 #[.string s, .int .i64 k] w fun e w' => e = .returned (I.decR s k) ∧ Below w.heap.size w w' := by
  have hr : I.regs op = 0 := by unfold I.regs; rw [hf]; rfl
  have hn : I.num op = 0 := by unfold I.num; rw [hf]; rfl
  have hp : I.psize op = 1 := by unfold I.psize; rw [hr, hn]; rfl
  have hka : I.kAt op = 1 := by unfold I.kAt; rw [hp, hn]; rfl
  have hd : I.hd (I.cut s k) = op := (cut_hd s k (by omega)).trans ho
  refine (rdec_6 s k hk hm op ho hf w).mono ?_
  rintro e w' ⟨rfl, hb⟩
  refine ⟨?_, hb⟩
  congr 1
  refine rdec_fin (by omega) hm h1 hp (by omega) hd ?_ ?_ ?_
  · unfold I.dA I.rA
    rw [hd, hr]
    rfl
  · unfold I.dB I.rB
    rw [hd, hr]
    rfl
  · unfold I.dN I.rdN
    rw [hd, hn]
    rfl

theorem rdecj_7 (s : ByteArray) (k : Nat) (hk : k + 2 ≤ s.size) (hm : s.size ≤ 9223372036854775000) (op : Int) (h1 : 1 ≤ op ∧ op ≤ 33) (ho : (s[k].toNat : Int) = op) (hf : I.form op = 7) (w : World) :
    Calls Tryd.prog 62 #[.string s, .int .i64 k] w fun e w' => e = .returned (I.decR s k) ∧ Below w.heap.size w w' := by
  have hr : I.regs op = 0 := by unfold I.regs; rw [hf]; rfl
  have hn : I.num op = 1 := by unfold I.num; rw [hf]; rfl
  have hp : I.psize op = 2 := by unfold I.psize; rw [hr, hn]; rfl
  have hka : I.kAt op = 1 := by unfold I.kAt; rw [hp, hn]; rfl
  have hd : I.hd (I.cut s k) = op := (cut_hd s k (by omega)).trans ho
  refine (rdec_7 s k hk hm op ho hf w).mono ?_
  rintro e w' ⟨rfl, hb⟩
  refine ⟨?_, hb⟩
  congr 1
  refine rdec_fin (by omega) hm h1 hp (by omega) hd ?_ ?_ ?_
  · unfold I.dA I.rA
    rw [hd, hr]
    rfl
  · unfold I.dB I.rB
    rw [hd, hr]
    rfl
  · unfold I.dN I.rdN
    rw [hd, hn]
    rw [if_neg (by decide)]
    unfold I.dS
    rw [hd, hka, hp, show ((2 : Int)).toNat = 2 from rfl, cut_cut s k 1 2 (by omega)]

theorem rdecj_8 (s : ByteArray) (k : Nat) (hk : k + 3 ≤ s.size) (hm : s.size ≤ 9223372036854775000) (op : Int) (h1 : 1 ≤ op ∧ op ≤ 33) (ho : (s[k].toNat : Int) = op) (hf : I.form op = 8) (w : World) :
    Calls Tryd.prog 62 #[.string s, .int .i64 k] w fun e w' => e = .returned (I.decR s k) ∧ Below w.heap.size w w' := by
  have hr : I.regs op = 1 := by unfold I.regs; rw [hf]; rfl
  have hn : I.num op = 1 := by unfold I.num; rw [hf]; rfl
  have hp : I.psize op = 3 := by unfold I.psize; rw [hr, hn]; rfl
  have hka : I.kAt op = 2 := by unfold I.kAt; rw [hp, hn]; rfl
  have hd : I.hd (I.cut s k) = op := (cut_hd s k (by omega)).trans ho
  refine (rdec_8 s k hk hm op ho hf w).mono ?_
  rintro e w' ⟨rfl, hb⟩
  refine ⟨?_, hb⟩
  congr 1
  refine rdec_fin (by omega) hm h1 hp (by omega) hd ?_ ?_ ?_
  · unfold I.dA I.rA
    rw [hd, hr]
    rw [if_neg (by decide), if_pos rfl, hka, cut_cut s k 1 2 (by omega), ext_hd s (k + 1) (k + 2) (by omega) (by omega)]
  · unfold I.dB I.rB
    rw [hd, hr]
    rfl
  · unfold I.dN I.rdN
    rw [hd, hn]
    rw [if_neg (by decide)]
    unfold I.dS
    rw [hd, hka, hp, show ((3 : Int)).toNat = 3 from rfl, cut_cut s k 2 3 (by omega)]

theorem rdecj_9 (s : ByteArray) (k : Nat) (hk : k + 2 ≤ s.size) (hm : s.size ≤ 9223372036854775000) (op : Int) (h1 : 1 ≤ op ∧ op ≤ 33) (ho : (s[k].toNat : Int) = op) (hf : I.form op = 9) (w : World) :
    Calls Tryd.prog 62 #[.string s, .int .i64 k] w fun e w' => e = .returned (I.decR s k) ∧ Below w.heap.size w w' := by
  have hr : I.regs op = 1 := by unfold I.regs; rw [hf]; rfl
  have hn : I.num op = 0 := by unfold I.num; rw [hf]; rfl
  have hp : I.psize op = 2 := by unfold I.psize; rw [hr, hn]; rfl
  have hka : I.kAt op = 2 := by unfold I.kAt; rw [hp, hn]; rfl
  have hd : I.hd (I.cut s k) = op := (cut_hd s k (by omega)).trans ho
  refine (rdec_9 s k hk hm op ho hf w).mono ?_
  rintro e w' ⟨rfl, hb⟩
  refine ⟨?_, hb⟩
  congr 1
  refine rdec_fin (by omega) hm h1 hp (by omega) hd ?_ ?_ ?_
  · unfold I.dA I.rA
    rw [hd, hr]
    rw [if_neg (by decide), if_pos rfl, hka, cut_cut s k 1 2 (by omega), ext_hd s (k + 1) (k + 2) (by omega) (by omega)]
  · unfold I.dB I.rB
    rw [hd, hr]
    rfl
  · unfold I.dN I.rdN
    rw [hd, hn]
    rfl

theorem rdecj_10 (s : ByteArray) (k : Nat) (hk : k + 2 ≤ s.size) (hm : s.size ≤ 9223372036854775000) (op : Int) (h1 : 1 ≤ op ∧ op ≤ 33) (ho : (s[k].toNat : Int) = op) (hf : I.form op = 10) (w : World) :
    Calls Tryd.prog 62 #[.string s, .int .i64 k] w fun e w' => e = .returned (I.decR s k) ∧ Below w.heap.size w w' := by
  have hr : I.regs op = 0 := by unfold I.regs; rw [hf]; rfl
  have hn : I.num op = 1 := by unfold I.num; rw [hf]; rfl
  have hp : I.psize op = 2 := by unfold I.psize; rw [hr, hn]; rfl
  have hka : I.kAt op = 1 := by unfold I.kAt; rw [hp, hn]; rfl
  have hd : I.hd (I.cut s k) = op := (cut_hd s k (by omega)).trans ho
  refine (rdec_10 s k hk hm op ho hf w).mono ?_
  rintro e w' ⟨rfl, hb⟩
  refine ⟨?_, hb⟩
  congr 1
  refine rdec_fin (by omega) hm h1 hp (by omega) hd ?_ ?_ ?_
  · unfold I.dA I.rA
    rw [hd, hr]
    rfl
  · unfold I.dB I.rB
    rw [hd, hr]
    rfl
  · unfold I.dN I.rdN
    rw [hd, hn]
    rw [if_neg (by decide)]
    unfold I.dS
    rw [hd, hka, hp, show ((2 : Int)).toNat = 2 from rfl, cut_cut s k 1 2 (by omega)]

theorem rdecode_any (s : ByteArray) (a : Int) (hm : s.size ≤ 9223372036854775000) (w : World) :
    Calls Tryd.prog 62 #[.string s, .int .i64 a] w fun e w' => e = .returned (I.decR s a) ∧ Below w.heap.size w w' := by
  by_cases h : a < 0 ∨ (s.size : Int) < a
  · unfold I.decR
    rw [if_pos h]
    exact rdec_arg s a h w
  · obtain ⟨k, rfl⟩ : ∃ k : Nat, a = k := ⟨a.toNat, by omega⟩
    by_cases he : k = s.size
    · have hc := cut_size s k (by omega)
      have hd : I.dOk (I.cut s k) = false := by
        unfold I.dOk
        rw [decide_eq_false (by rintro ⟨h1, -⟩; omega)]
        rfl
      unfold I.decR
      rw [if_neg h, if_neg (by rw [hd]; decide)]
      exact rdec_end s k he w
    · have hk : k < s.size := by omega
      have ho : I.hd (I.cut s k) = (s[k].toNat : Int) := cut_hd s k hk
      have hc := cut_size s k (by omega)
      generalize hop : (s[k].toNat : Int) = op at *
      have hno : (1 ≤ op ∧ op ≤ 33 → (s.size : Int) < (k : Int) + I.psize op) → Calls Tryd.prog 62 #[.string s, .int .i64 k] w fun e w' => e = .returned (I.decR s k) ∧ Below w.heap.size w w' := by
        intro hsh
        have hd : I.dOk (I.cut s k) = false := by
          unfold I.dOk
          rw [ho, decide_eq_false (by rintro ⟨h1, h2, h3, h4⟩; have := hsh ⟨h2, h3⟩; omega)]
          rfl
        unfold I.decR
        rw [if_neg h, if_neg (by rw [hd]; decide)]
        refine rdec_short s k hk hm op (I.size op) hop rfl ?_ w
        by_cases h2 : 1 ≤ op ∧ op ≤ 33
        · have := I.size_pos h2.1 h2.2
          have h3 := hsh h2
          rw [I.psize_size op h2] at h3
          exact .inr ⟨by omega, by omega, by omega, h3⟩
        · exact .inl (I.size_none (by omega))
      by_cases h2 : 1 ≤ op ∧ op ≤ 33
      · by_cases h3 : (s.size : Int) < (k : Int) + I.psize op
        · exact hno (fun _ => h3)
        · have h4 := I.form_some h2.1 h2.2
          have h5 := I.form_range op
          have hps := I.psize_size op h2
          have hsz : I.size op = if I.form op = 0 then 0 else if I.hasA (I.form op) = true then 1 + (I.numB (I.form op) + 1) else 1 + I.numB (I.form op) := rfl
          rcases (show I.form op = 1 ∨ I.form op = 2 ∨ I.form op = 3 ∨ I.form op = 4 ∨ I.form op = 5 ∨ I.form op = 6 ∨ I.form op = 7 ∨ I.form op = 8 ∨ I.form op = 9 ∨ I.form op = 10 by omega) with e | e | e | e | e | e | e | e | e | e
          · have hz : I.size op = 10 := by rw [hsz, e]; rfl
            exact rdecj_1 s k (by omega) hm op h2 hop e w
          · have hz : I.size op = 2 := by rw [hsz, e]; rfl
            exact rdecj_2 s k (by omega) hm op h2 hop e w
          · have hz : I.size op = 6 := by rw [hsz, e]; rfl
            exact rdecj_3 s k (by omega) hm op h2 hop e w
          · have hz : I.size op = 6 := by rw [hsz, e]; rfl
            exact rdecj_4 s k (by omega) hm op h2 hop e w
          · have hz : I.size op = 5 := by rw [hsz, e]; rfl
            exact rdecj_5 s k (by omega) hm op h2 hop e w
          · have hz : I.size op = 1 := by rw [hsz, e]; rfl
            exact rdecj_6 s k (by omega) hm op h2 hop e w
          · have hz : I.size op = 2 := by rw [hsz, e]; rfl
            exact rdecj_7 s k (by omega) hm op h2 hop e w
          · have hz : I.size op = 3 := by rw [hsz, e]; rfl
            exact rdecj_8 s k (by omega) hm op h2 hop e w
          · have hz : I.size op = 2 := by rw [hsz, e]; rfl
            exact rdecj_9 s k (by omega) hm op h2 hop e w
          · have hz : I.size op = 2 := by rw [hsz, e]; rfl
            exact rdecj_10 s k (by omega) hm op h2 hop e w
      · exact hno (fun x => absurd x h2)

end Go.Proofs.YtmplnkfjaeegdaaDoor

/- The document's All, whatever the bytes. -/
namespace Go.Proofs.YtmplnkfjaeegdaaDoor
set_option maxRecDepth 100000
open Go.RowKit
set_option linter.unusedVariables false
attribute [local go_sem ↓] Go.wp_at_zero Go.wp_at_succ

theorem cut_rest (s : ByteArray) (k : Nat) (h : I.dOk (I.cut s k) = true) : I.rest (I.cut s k) = I.cut s ((k + (I.psize (I.hd (I.cut s k))).toNat : Nat) : Int) ∧ k < s.size ∧ k + (I.psize (I.hd (I.cut s k))).toNat ≤ s.size ∧ 1 ≤ (I.psize (I.hd (I.cut s k))).toNat := by
  have hr := I.rest_size _ h
  have hp := I.dOk_pos h
  have hk : k < s.size := by
    unfold I.cut at hp
    simp at hp
    omega
  have hc := cut_size s k (by omega)
  refine ⟨?_, hk, by omega, hr.2⟩
  unfold I.rest
  rw [hc, cut_cut s k _ (s.size - k) (by omega)]
  unfold I.cut
  congr 1
  · omega

set_option maxRecDepth 100000 in
set_option maxHeartbeats 8000000 in
theorem rall_any (s : ByteArray) (hm : s.size ≤ 4398046511104) (w : World) :
    Calls Tryd.prog 36 #[.string s] w fun e w' => I.allPost s w.heap.size e w' ∧ Below w.heap.size w w' := by
  obtain ⟨i0, hi, hz0, hz1, hz2⟩ := info_parts infoIns
  go_enter Tryd.func36, Tryd.ntmps36
  go_wp2
  go_loopg [4, 5] s.size (fun r lv av wr => ∃ (k : Nat) (done : List I.Q), av = .int .i64 k ∧ k ≤ s.size ∧ s.size - k ≤ r ∧ done.length ≤ k ∧ wr.ownsRow w.heap.size 85 4 lv done.length (I.rows done) ∧ Below w.heap.size w wr ∧ Hid (I.allI s = (I.allI (I.cut s k)).map (done ++ ·)))
  case atStart => exact ⟨0, [], rfl, Nat.zero_le _, by omega, by simp, World.ownsRow_nil _ _ _ _, Below.refl _ _, by show _ = _; rw [show ((0 : Nat) : Int) = 0 from rfl, I.cut_zero]; simp⟩
  case round =>
    obtain ⟨k, done, rfl, hk, hr, hdn, ho, hb, HA⟩ := hrel
    by_cases h0 : k = s.size
    · have hlt : ¬ (k : Int) < (s.size : Int) := by omega
      have HK : Hid (k = s.size) := h0
      clear h0
      go_wp2
      go_ret2
      refine ⟨?_, hb⟩
      unfold I.allPost
      rw [HA.out, I.allI_zero (by rw [cut_size s k hk, HK.out]; omega)]
      simp only [Option.map_some, List.append_nil]
      exact ⟨_, rfl, ho⟩
    · have hlt : (k : Int) < (s.size : Int) := by omega
      have HR : Hid (∀ w, Calls Tryd.prog 62 #[.string s, .int .i64 k] w fun e w' => e = .returned (I.decR s k) ∧ Below w.heap.size w w') := fun w => rdecode_any s k (by omega) w
      unfold I.decR at HR
      rw [if_neg (show ¬ ((k : Int) < 0 ∨ (s.size : Int) < (k : Int)) by omega)] at HR
      have hcs := cut_size s k hk
      cases hx : I.dOk (I.cut s k) with
      | false =>
        rw [hx, if_neg (by decide)] at HR
        have HX : Hid (I.dOk (I.cut s k) = false) := hx
        have HCS : Hid ((I.cut s k).size = s.size - k) := hcs
        clear hx hcs
        go_wp2_with (go_at_call 62; refine (HR.out _).mono ?_; rintro e w1 ⟨rfl, hb1⟩)
        go_ret2
        refine ⟨?_, (hb.trans (hb1.mono hb.size)).alloc (by have := hb.size; have := hb1.size; omega) _⟩
        unfold I.allPost
        rw [HA.out, I.allI_no (by rw [HCS.out]; omega) HX.out]
        rfl
      | true =>
        rw [hx, if_pos rfl] at HR
        obtain ⟨hrest, -, hp1, hp2⟩ := cut_rest s k hx
        have HQ : Hid (I.dQ (I.cut s k) = ⟨I.hd (I.cut s k), I.dA (I.cut s k), I.dB (I.cut s k), I.dN (I.cut s k)⟩) := rfl
        have HT : Hid (I.rest (I.cut s k) = I.cut s ((k + (I.psize (I.hd (I.cut s k))).toNat : Nat) : Int)) := hrest
        generalize hq : I.dQ (I.cut s k) = q at *
        have hqe := HQ.out
        have q1 : I.hd (I.cut s k) = q.op := by rw [hqe]
        have q2 : I.dA (I.cut s k) = q.a := by rw [hqe]
        have q3 : I.dB (I.cut s k) = q.b := by rw [hqe]
        have q4 : I.dN (I.cut s k) = q.n := by rw [hqe]
        rw [q1, q2, q3, q4] at HR
        rw [q1] at HT hp1 hp2
        have HX : Hid (I.dOk (I.cut s k) = true) := hx
        have HQQ : Hid (I.dQ (I.cut s k) = q) := hq
        clear q1 q2 q3 q4 hqe HQ hq hx hrest hcs
        obtain ⟨z, hz⟩ : ∃ z : Nat, I.psize q.op = z := ⟨(I.psize q.op).toNat, by omega⟩
        rw [hz] at HR HT hp1 hp2
        rw [show ((z : Int)).toNat = z by omega] at HT hp1 hp2
        clear hz
        go_wp2_with fail
        refine (HR.out _).mono ?_
        rintro e w1 ⟨rfl, hb1⟩
        have ho1 := own_kept ho hb1
        have hs1 := hb1.size
        have hs0 := hb.size
        have hbb : Below w.heap.size w w1 := hb.trans (hb1.mono hs0)
        clear ho hb hb1
        go_wp2_with (first | (at_builtin; refine wpList_append_own _ rfl _ _ 80 rfl w.heap.size 85 i0 _ 4 32 Tryd.underlying80 hi hz0 hz1 hz2 rfl (by decide) _ _ _ rfl ((ho1.alloc _).alloc _) ⟨w1.heap.size + 1, 0, none⟩ 1 1 q.cs rfl rfl (ins_cells _ q _ (by simp)) (cs_one q) (by unfold maxLen; omega) (by omega) (by simp; omega) ?_) | go_in)
        intro v2 w2 ho2 hg2 _
        have hb2 : Below w.heap.size w w2 := below_own ((hbb.alloc (by omega) _).alloc (by simp; omega) _) ((ho1.alloc _).alloc _) hg2 (by simp; omega)
        rw [← I.rows_snoc] at ho2
        have ho3 : w2.ownsRow w.heap.size 85 4 v2 (done ++ [q]).length (I.rows (done ++ [q])) := by simpa using ho2
        clear ho2 hg2 ho1 hbb
        go_wp2
        go_roundg (s.size - (k + z))
        case measure => omega
        case rel =>
          refine ⟨k + z, done ++ [q], by first | rfl | (congr 1; omega), hp1, Nat.le_refl _, by simp; omega, ho3, hb2, ?_⟩
          show I.allI s = _
          rw [HA.out, I.allI_yes (I.dOk_pos HX.out) HX.out, HQQ.out, Option.map_map, HT.out]
          congr 1
          funext l
          simp

end Go.Proofs.YtmplnkfjaeegdaaDoor
