/- ins.Encode, where the form has room for all. -/
import Derived.Test.YtgjingleolhkbaaGreatDoorTAn
import Derived.Deep.RegionWith
namespace Go.Proofs.YtgjingleolhkbaaGreatDoor.J
open Go.RowKit
set_option linter.unusedVariables false
attribute [local go_sem ↓] Go.wp_at_zero Go.wp_at_succ

theorem strOfNums_app (a b : List Int) : strOfNums a ++ strOfNums b = strOfNums (a ++ b) := by
 apply ByteArray.ext
 simp [strOfNums]

theorem conv_at (w : World) (b : Nat) (x : Int) (h : w.cell? ⟨b, 0, none⟩ = some (.int .u8 x)) : (convert 65 9 (.slice (some ⟨b, 0, none⟩) 1 1)).run Tryz.prog w = .ok (.string (strOfNums [x])) w := by
 refine run_convert_bytes_arg (P := Tryz.prog) _ 65 5 Tryz.underlying65 Tryz.underlying5 b 0 1 1 [x] rfl ?_ 9 Tryz.underlying9
 intro i hi
 obtain rfl : i = 0 := by simp at hi; omega
 simpa using h
theorem conv_drew (W : World) (b : Nat) (x : Int) (hb : b = W.heap.size) : (convert 65 9 (.slice (some ⟨b, 0, none⟩) 1 1)).run Tryz.prog (W.alloc (.cells #[.int .u8 x] 5)).drew = .ok (.string (strOfNums [x])) (W.alloc (.cells #[.int .u8 x] 5)).drew := by
 subst hb
 exact conv_at _ _ _ (by simp)
theorem conv_below {W w3 : World} (hb : Below W.heap.size W w3) (b : Nat) (x : Int) (h1 : b < W.heap.size) (h2 : W.cell? ⟨b, 0, none⟩ = some (.int .u8 x)) : (convert 65 9 (.slice (some ⟨b, 0, none⟩) 1 1)).run Tryz.prog w3 = .ok (.string (strOfNums [x])) w3 :=
 conv_at _ _ _ ((hb.cell (p := ⟨b, 0, none⟩) h1).trans h2)

theorem cell_thru {W w3 : World} (hb : Below W.heap.size W w3) {b o : Nat} {v : Value} (h : W.cell? ⟨b, o, none⟩ = some v) : w3.cell? ⟨b, o, none⟩ = some v :=
 (hb.cell (p := ⟨b, o, none⟩) (World.block_lt_of_cell? W ⟨b, o, none⟩ h)).trans h

theorem wregs_any (r m : Int) (hr : r = 0 ∨ r = 1 ∨ r = 2) (t : Bool) (op a b n : Int) (h0 : 0 ≤ a) (h8 : a < 8) (g0 : 0 ≤ b) (g8 : b < 8) (w : World) :
  Calls Tryz.prog 98 #[formW r m t, insW op a b n] w fun e w' => e = .returned (.string (strOfNums (I.regB r a b))) ∧ Below w.heap.size w w' := by
 rcases hr with rfl | rfl | rfl
 ·exact wregs_0 m t op a b n w
 ·exact wregs_1 m t op a b n h0 h8 w
 ·exact wregs_2 m t op a b n h0 h8 g0 g8 w

theorem wnum_any (r m : Int) (t : Bool) (n : Int) (w : World) :
  Calls Tryz.prog 97 #[formW r m t, .int .i64 n] w fun e w' => e = .returned (.tuple #[.string (strOfNums (I.numW m n)), .bool (I.numOk m t n)]) ∧ Below w.heap.size w w' := by
 unfold I.numW I.numOk
 by_cases h : m = 0
 ·subst h
  rw [if_pos rfl, if_pos rfl]
  exact wnum_0 r t n w
 ·rw [if_neg h, if_neg h]
  exact wnum_m r m t n h w

set_option maxRecDepth 100000 in
set_option maxHeartbeats 8000000 in
theorem enc_ok (op a b n : Int) (h : 1 ≤ op ∧ op ≤ 33) (h0 : 0 ≤ a) (h8 : a < 8) (g0 : 0 ≤ b) (g8 : b < 8) (hb : I.bears (I.regs op) (I.num op) a b n = true) (w : World) (ht : Tab w) :
  Calls Tryz.prog 76 #[insV op a b n] w fun e w' => e = .returned (.tuple #[.string (strOfNums (if I.numOk (I.num op) (I.nat op) n = true then [op] ++ I.regB (I.regs op) a b ++ I.numW (I.num op) n else [])), .int .i64 (if I.numOk (I.num op) (I.nat op) n = true then 0 else 7)]) ∧ Below w.heap.size w w' := by
 obtain ⟨r, hr⟩ : ∃ r, I.regs op = r := ⟨_, rfl⟩
 obtain ⟨m, hm⟩ : ∃ m, I.num op = m := ⟨_, rfl⟩
 obtain ⟨t, htt⟩ : ∃ t, I.nat op = t := ⟨_, rfl⟩
 have HF : Hid (∀ w, Tab w → Calls Tryz.prog 93 #[.int .i64 op] w fun e w' => e = .returned (.tuple #[.agg #[.int .i64 (I.regs op), .int .i64 (I.num op), .bool (I.nat op)], .bool true]) ∧ w' = w.alloc (.cells #[.int .i64 (I.regs op), .int .i64 (I.num op), .bool (I.nat op)] 130)) := formOf_yes op h
 have hrr := I.regs_range op
 rw [hr, hm, htt] at HF
 rw [hr, hm] at hb
 rw [hr] at hrr
 rw [hr, hm, htt]
 clear hr hm htt
 obtain ⟨x, hx⟩ : ∃ x, I.numOk m t n = x := ⟨_, rfl⟩
 have HX : Hid (I.numOk m t n = x) := hx
 rw [hx]
 clear hx
 have hw : IntKind.u8.wrap op = op := by rw [IntKind.wrap_u8]; omega
 have hcv := conv1
 have hcvd := conv_drew
 go_enter Tryz.func76, Tryz.ntmps76
 go_wp2_with (go_at_call 93; refine (HF.out _ (ht.alloc _)).mono ?_; rintro e w' ⟨rfl, rfl⟩)
 go_wp2_with fail
 refine (bears_any r m hrr t op a b n _).mono ?_
 rintro e w1 ⟨rfl, hb1⟩
 rw [hb]
 obtain ⟨hc1, hf1⟩ := bcell hb1
 have hs1 := hb1.size
 simp at hs1
 have ki1 : ∀ o, w1.cell? ⟨w.heap.size, o, none⟩ = (#[.int .i64 op, .int .i64 a, .int .i64 b, .int .i64 n] : Array Value)[o]? := fun o => by rw [hc1 _ _ (by simp; omega)]; simp (disch := (first | ((try simp only [World.size_alloc]) <;> omega) | fail)) only [World.cell?_alloc_at, World.cell?_alloc_past]
 have kf1 : ∀ o, w1.cell? ⟨w.heap.size + 1 + 1, o, none⟩ = (#[.int .i64 r, .int .i64 m, .bool t] : Array Value)[o]? := fun o => by rw [hc1 _ _ (by simp)]; simp (disch := (first | ((try simp only [World.size_alloc]) <;> omega) | fail)) only [World.cell?_alloc_at]
 have q1 : Below w.heap.size w w1 := (bl3 _ _ _ _).trans (hb1.mono (by simp; omega))
 clear hc1 hf1 hb1
 go_wp2_with fail
 refine (wnum_any r m t n _).mono ?_
 rintro e w2 ⟨rfl, hb2⟩
 rw [HX.out]
 have hs2 := hb2.size
 have ki2 : ∀ o, w2.cell? ⟨w.heap.size, o, none⟩ = (#[.int .i64 op, .int .i64 a, .int .i64 b, .int .i64 n] : Array Value)[o]? := fun o => (hb2.cell (p := ⟨w.heap.size, o, none⟩) (by simp; omega)).trans (ki1 o)
 have kf2 : ∀ o, w2.cell? ⟨w.heap.size + 1 + 1, o, none⟩ = (#[.int .i64 r, .int .i64 m, .bool t] : Array Value)[o]? := fun o => (hb2.cell (p := ⟨w.heap.size + 1 + 1, o, none⟩) (by simp; omega)).trans (kf1 o)
 have q2 : Below w.heap.size w w2 := q1.trans (hb2.mono (by omega))
 clear ki1 kf1 hb2 q1
 cases x with
 | false =>
  go_wp2
  go_ret2
  exact ⟨rfl, q2⟩
 | true =>
  have i0 : w2.cell? ⟨w.heap.size, 0, none⟩ = some (.int .i64 op) := ki2 0
  have i1 : w2.cell? ⟨w.heap.size, 1, none⟩ = some (.int .i64 a) := ki2 1
  have i2 : w2.cell? ⟨w.heap.size, 2, none⟩ = some (.int .i64 b) := ki2 2
  have i3 : w2.cell? ⟨w.heap.size, 3, none⟩ = some (.int .i64 n) := ki2 3
  have f0 : w2.cell? ⟨w.heap.size + 1 + 1, 0, none⟩ = some (.int .i64 r) := kf2 0
  have f1 : w2.cell? ⟨w.heap.size + 1 + 1, 1, none⟩ = some (.int .i64 m) := kf2 1
  have f2 : w2.cell? ⟨w.heap.size + 1 + 1, 2, none⟩ = some (.bool t) := kf2 2
  have zi : w.heap.size < w2.heap.size := by omega
  have zf : w.heap.size + 1 + 1 < w2.heap.size := by omega
  have z0 : w.heap.size ≤ w2.heap.size := by omega
  clear ki2 kf2
  generalize w.heap.size + 1 + 1 = bf at *
  have lr := I.regB_len r a b
  have lm := I.numW_len m n
  have s1 : (strOfNums [op]).size + (strOfNums (I.regB r a b)).size ≤ 9223372036854775807 := by rw [strOfNums_size, strOfNums_size]; simp; omega
  have s2 : (strOfNums [op]).size + (strOfNums (I.regB r a b)).size + (strOfNums (I.numW m n)).size ≤ 9223372036854775807 := by rw [strOfNums_size, strOfNums_size, strOfNums_size]; simp; omega
  clear lr lm
  go_wp2_with fail
  go_region_with (first | (go_at_call 98; refine (wregs_any _ _ ?_ _ _ _ _ _ ?_ ?_ ?_ ?_ _).mono ?_; assumption; assumption; assumption; assumption; assumption; rintro e w3 ⟨rfl, hb3⟩; obtain ⟨hc3, hf3⟩ := bcell hb3; have hz3 := hb3.size; simp at hz3; have cv3 := conv_below hb3 w2.heap.size op; first | (have i03 := cell_thru hb3 i0) | skip))
  all_goals
   go_wp2
   go_ret2
   refine ⟨retSE (by first | (rw [strOfNums_app, strOfNums_app, if_pos rfl]; done) | (rw [strOfNums_app, strOfNums_app]; rfl) | (simp [strOfNums_app]; done)) rfl, ?_⟩
   first | exact (q2.alloc z0 _).drew.trans (hb3.mono (by simp; omega)) | exact (q2.alloc z0 _).trans (hb3.mono (by simp; omega)) | exact (q2.drew.trans (hb3.mono (by simp; omega))).alloc (by omega) _ | exact (q2.trans (hb3.mono (by simp; omega))).alloc (by omega) _ | exact ((q2.drew.trans (hb3.mono (by first | omega | (simp; omega)))).alloc (by first | omega | (simp; omega)) _)

end Go.Proofs.YtgjingleolhkbaaGreatDoor.J
