/- ins.read. -/
import Derived.Test.YtffokdldgdjkhaaDoorInsRead
import Derived.Test.YtffokdldgdjkhaaDoorInsReadMath
import Derived.Test.YtffokdldgdjkhaaDoorInsPsize
import Derived.Deep.RegionHeld3
import Derived.Deep.DrawnRows
namespace Go.Proofs.YtffokdldgdjkhaaDoor
set_option maxRecDepth 100000
open Go.RowKit
set_option linter.unusedVariables false
attribute [local go_sem ↓] Go.wp_at_zero Go.wp_at_succ

theorem rregs_any (r m : Int) (hr : r = 0 ∨ r = 1 ∨ r = 2) (t : Bool) (s : ByteArray) (hs : ¬ r = 0 → 0 < s.size) (w : World) :
    Calls Tryd.prog 67 #[formW r m t, .string s] w fun e w' => e = .returned (.tuple #[.int .i64 (I.rA r s), .int .i64 (I.rB r s), .bool (I.isr (I.rA r s) && I.isr (I.rB r s))]) ∧ Below w.heap.size w w' := by
  rcases hr with rfl | rfl | rfl
  · exact rregs_0 m t s w
  · have h := rregs_1 m t s (hs (by decide)) w
    rw [← I.hd_eq s (hs (by decide))] at h
    refine h.mono ?_
    rintro e w' ⟨rfl, hb⟩
    have h0 : I.isr 0 = true := by decide
    exact ⟨retIIB rfl rfl (by simp [I.rA, I.rB, h0]), hb⟩
  · have h := rregs_2 m t s (hs (by decide)) w
    rw [← I.hd_eq s (hs (by decide))] at h
    exact h

theorem rnum_any (r m : Int) (t : Bool) (s : ByteArray) (w : World) :
    Calls Tryd.prog 68 #[formW r m t, .string s] w fun e w' => e = .returned (.tuple #[.int .i64 (I.rdN m s), .bool (I.rdOk m t s)]) ∧ Below w.heap.size w w' := by
  unfold I.rdN I.rdOk
  by_cases h : m = 0
  · subst h
    rw [if_pos rfl, if_pos rfl]
    refine (rnum_0 r t s w).mono ?_
    rintro e w' ⟨rfl, rfl⟩
    exact ⟨rfl, bl1 _ _⟩
  · rw [if_neg h, if_neg h]
    exact rnum_m r m t s h w

theorem bl5d (w : World) (a b c d e : Obj) : Below w.heap.size w (((((w.alloc a).alloc b).alloc c).alloc d).alloc e).drew.drew :=
  (((bl3 w a b c).alloc (by simp; omega) d).alloc (by simp; omega) e).drew.drew
theorem sz5d (w : World) (a b c d e : Obj) : w.heap.size ≤ ((((((w.alloc a).alloc b).alloc c).alloc d).alloc e).drew.drew).heap.size := by
  show w.heap.size ≤ (((((w.alloc a).alloc b).alloc c).alloc d).alloc e).heap.size
  simp; omega
theorem fz5d (w : World) (a b c d e : Array Value) (t u v x y : TypeId) (o : Nat) : ((((((w.alloc (.cells a t)).alloc (.cells b u)).alloc (.cells c v)).alloc (.cells d x)).alloc (.cells e y)).drew.drew).frozen? ⟨w.heap.size, o, none⟩ = false := by
  show (((((w.alloc (.cells a t)).alloc (.cells b u)).alloc (.cells c v)).alloc (.cells d x)).alloc (.cells e y)).frozen? ⟨w.heap.size, o, none⟩ = false
  rw [frozen?_alloc_cells, frozen?_alloc_cells, frozen?_alloc_cells, frozen?_alloc_cells]
  exact World.frozen?_alloc_at a t _ _ rfl

/-- Such bounds cut a string. -/
def SlOk (s : ByteArray) (i j : Int) : Prop := 0 ≤ i ∧ i ≤ j ∧ j ≤ (s.size : Int)
theorem run_slice_ok (s : ByteArray) (i j : Int) (w' : World) (h : SlOk s i j) : (Instr.slice 9 (.string s) (some (.int .i64 i)) (some (.int .i64 j)) none).run Tryd.prog w' = .ok (.string (s.extract i.toNat j.toNat)) w' := by
  rw [run_slice_string_if w' 9 s .i64 .i64 i j Tryd.underlying9, if_pos ⟨by have := h.1; have := h.2.1; omega, h.2.2⟩, if_pos ⟨h.1, h.2.1⟩]
attribute [local go_sem high] run_slice_ok

/-- What read answers. -/
abbrev rdNo : Value := .tuple #[insW 0 0 0 0, .int .i64 0, .bool false]
def rdRes (op z a b n : Int) (y : Bool) : Value := if (I.isr a && I.isr b) = true then (if y = true then .tuple #[insW op a b n, .int .i64 z, .bool true] else rdNo) else rdNo


set_option maxRecDepth 100000 in
set_option maxHeartbeats 8000000 in
theorem read_empty (s : ByteArray) (hs : s.size = 0) (w : World) :
    Calls Tryd.prog 44 #[.string s] w fun e w' => e = .returned rdNo ∧ Below w.heap.size w w' := by
  obtain rfl : s = { data := #[] } := by
    obtain ⟨d⟩ := s
    simp [ByteArray.size] at hs
    subst hs; rfl
  go_enter Tryd.func44, Tryd.ntmps44
  go_wp2
  exact bodyPost_ret (v := rdNo) (by simp [results, Tryd.results44, go_sem]) rfl ⟨rfl, bl1 _ _⟩

theorem ne_empty {s : ByteArray} (hs : 0 < s.size) : s.toList.isEmpty = false := by
  rw [ByteArray.toList_eq]
  cases hl : s.data.toList with
  | nil => have := congrArg List.length hl; simp at this; simp [this] at hs
  | cons _ _ => rfl

set_option maxRecDepth 100000 in
set_option maxHeartbeats 8000000 in
theorem read_none (s : ByteArray) (hs : 0 < s.size) (h : I.hd s < 1 ∨ 33 < I.hd s) (w : World) (ht : Tab w) :
    Calls Tryd.prog 44 #[.string s] w fun e w' => e = .returned rdNo ∧ Below w.heap.size w w' := by
  have hne := ne_empty hs
  rw [I.hd_eq s hs] at h
  have hb : (s[0].toNat : Int) ≤ 255 := by have := s[0].toNat_lt; omega
  go_enter Tryd.func44, Tryd.ntmps44
  go_wp2_with (go_at_call 65; refine (formOf_no _ h _ (ht.alloc _)).mono ?_; rintro e w' ⟨rfl, rfl⟩)
  exact bodyPost_ret (v := rdNo) (by simp [results, Tryd.results44, go_sem]) rfl ⟨rfl, bl3 _ _ _ _⟩


set_option maxRecDepth 100000 in
set_option maxHeartbeats 8000000 in
theorem read_short (op : Int) (s : ByteArray) (hs : 0 < s.size) (ho : (s[0].toNat : Int) = op) (h : 1 ≤ op ∧ op ≤ 33) (hz : (s.size : Int) < I.psize op) (w : World) (ht : Tab w) :
    Calls Tryd.prog 44 #[.string s] w fun e w' => e = .returned rdNo ∧ Below w.heap.size w w' := by
  have hne := ne_empty hs
  have HF : Hid (∀ w, Tab w → Calls Tryd.prog 65 #[.int .i64 op] w fun e w' => e = .returned (.tuple #[.agg #[.int .i64 (I.regs op), .int .i64 (I.num op), .bool (I.nat op)], .bool true]) ∧ w' = w.alloc (.cells #[.int .i64 (I.regs op), .int .i64 (I.num op), .bool (I.nat op)] 133)) := formOf_yes op h
  have hrr := I.regs_range op
  have hmr := I.num_range op
  unfold I.psize at hz
  generalize I.regs op = r at *
  generalize I.num op = m at *
  generalize I.nat op = t at *
  obtain ⟨z, hzz⟩ : ∃ z, (if r = 0 then 1 + m else 2 + m) = z := ⟨_, rfl⟩
  have HZ : Hid ((if r = 0 then 1 + m else 2 + m) = z) := hzz
  rw [hzz] at hz
  clear hzz
  go_enter Tryd.func44, Tryd.ntmps44
  go_wp2_with (first | (go_at_call 65; refine (HF.out _ (ht.alloc _)).mono ?_; rintro e w' ⟨rfl, rfl⟩) | (go_at_call 66; refine (fsize_any _ _ _ hrr hmr _).mono ?_; rintro e w' ⟨rfl, rfl⟩; rw [HZ.out]))
  exact bodyPost_ret (v := rdNo) (by simp [results, Tryd.results44, go_sem]) rfl ⟨rfl, (bl3 _ _ _ _).alloc (by simp; omega) _⟩

set_option maxRecDepth 100000 in
set_option maxHeartbeats 8000000 in
theorem read_go (op : Int) (s : ByteArray) (hs : 0 < s.size) (ho : (s[0].toNat : Int) = op) (h : 1 ≤ op ∧ op ≤ 33) (hz : I.psize op ≤ (s.size : Int)) (w : World) (ht : Tab w) :
    Calls Tryd.prog 44 #[.string s] w fun e w' => e = .returned (rdRes op (I.psize op) (I.rA (I.regs op) (s.extract 1 (I.psize op - I.num op).toNat)) (I.rB (I.regs op) (s.extract 1 (I.psize op - I.num op).toNat)) (I.rdN (I.num op) (s.extract (I.psize op - I.num op).toNat (I.psize op).toNat)) (I.rdOk (I.num op) (I.nat op) (s.extract (I.psize op - I.num op).toNat (I.psize op).toNat))) ∧ Below w.heap.size w w' := by
  have hne := ne_empty hs
  have HF : Hid (∀ w, Tab w → Calls Tryd.prog 65 #[.int .i64 op] w fun e w' => e = .returned (.tuple #[.agg #[.int .i64 (I.regs op), .int .i64 (I.num op), .bool (I.nat op)], .bool true]) ∧ w' = w.alloc (.cells #[.int .i64 (I.regs op), .int .i64 (I.num op), .bool (I.nat op)] 133)) := formOf_yes op h
  have hrr := I.regs_range op
  have hmr := I.num_range op
  unfold I.psize at hz
  unfold I.psize
  generalize I.regs op = r at *
  generalize I.num op = m at *
  generalize I.nat op = t at *
  obtain ⟨z, hzz⟩ : ∃ z : Int, (if r = 0 then 1 + m else 2 + m) = z := ⟨_, rfl⟩
  have HZ : Hid ((if r = 0 then 1 + m else 2 + m) = z) := hzz
  rw [hzz] at hz
  rw [hzz]
  obtain ⟨k, hkk⟩ : ∃ k : Int, k = z - m := ⟨_, rfl⟩
  have hk0 : 0 ≤ k := by rw [hkk, ← hzz]; split <;> omega
  have hk1 : 1 ≤ k := by rw [hkk, ← hzz]; split <;> omega
  have hkz : k ≤ z := by rw [hkk]; omega
  have hks : k ≤ (s.size : Int) := by omega
  have hz0 : 0 ≤ z := by omega
  have hz10 : z ≤ 10 := by rw [← hzz]; split <;> omega
  have hwk : IntKind.i64.wrap k = k := by rw [IntKind.wrap_i64]; omega
  have hrs : ¬ r = 0 → 0 < (s.extract 1 k.toNat).size := by
    intro h0
    rw [if_neg h0] at hzz
    simp
    omega
  have hsz : ¬ (s.size : Int) < z := by omega
  rw [← hkk]
  obtain ⟨a, ha⟩ : ∃ a, I.rA r (s.extract 1 k.toNat) = a := ⟨_, rfl⟩
  obtain ⟨b, hb⟩ : ∃ b, I.rB r (s.extract 1 k.toNat) = b := ⟨_, rfl⟩
  obtain ⟨n, hn⟩ : ∃ n, I.rdN m (s.extract k.toNat z.toNat) = n := ⟨_, rfl⟩
  obtain ⟨y, hy⟩ : ∃ y, I.rdOk m t (s.extract k.toNat z.toNat) = y := ⟨_, rfl⟩
  obtain ⟨x, hx⟩ : ∃ x, (I.isr a && I.isr b) = x := ⟨_, rfl⟩
  have HA : Hid (I.rA r (s.extract 1 k.toNat) = a) := ha
  have HB : Hid (I.rB r (s.extract 1 k.toNat) = b) := hb
  have HN : Hid (I.rdN m (s.extract k.toNat z.toNat) = n) := hn
  have HY : Hid (I.rdOk m t (s.extract k.toNat z.toNat) = y) := hy
  have HX : Hid ((I.isr a && I.isr b) = x) := hx
  rw [ha, hb, hn, hy]
  unfold rdRes
  rw [hx]
  clear ha hb hn hy hx
  have hsl1 : SlOk s 1 k := ⟨by omega, hk1, hks⟩
  have hsl2 : SlOk s k z := ⟨by omega, hkz, hz⟩
  clear hzz
  go_enter Tryd.func44, Tryd.ntmps44
  go_wp2_with (first | (go_at_call 65; refine (HF.out _ (ht.alloc _)).mono ?_; rintro e w' ⟨rfl, rfl⟩) | (go_at_call 66; refine (fsize_any _ _ _ hrr hmr _).mono ?_; rintro e w' ⟨rfl, rfl⟩; rw [HZ.out]))
  go_region_held3 (fun w' => w'.cell? ⟨w.heap.size + 1 + 1, 0, none⟩ = some (.int .i64 r) ∧ w'.cell? ⟨w.heap.size + 1 + 1, 1, none⟩ = some (.int .i64 m) ∧ w'.cell? ⟨w.heap.size + 1 + 1, 2, none⟩ = some (.bool t)) (first | (refine ⟨?_, ?_, ?_⟩ <;> (simp (disch := (first | ((try simp only [World.size_alloc]) <;> omega) | fail)) only [World.cell?_drew, World.cell?_alloc_at, World.cell?_alloc_past] <;> rfl))) (first | (go_at_call 66; refine (fsize_any _ _ _ hrr hmr _).mono ?_; rintro e w' ⟨rfl, rfl⟩; rw [HZ.out]))
  go_wp2_with fail
  rw [← hkk, hwk]
  have HK : Hid (k = z - m) := hkk
  clear hkk
  go_region_held3 (fun w' => w'.cell? ⟨w.heap.size + 1 + 1, 0, none⟩ = some (.int .i64 r) ∧ w'.cell? ⟨w.heap.size + 1 + 1, 1, none⟩ = some (.int .i64 m) ∧ w'.cell? ⟨w.heap.size + 1 + 1, 2, none⟩ = some (.bool t)) (first | (refine ⟨?_, ?_, ?_⟩ <;> (simp (disch := (first | ((try simp only [World.size_alloc, World.size_drew]) <;> omega) | fail)) only [World.cell?_drew, World.cell?_alloc_at, World.cell?_alloc_past] <;> rfl)) | (refine ⟨?_, ?_, ?_⟩ <;> (simp (disch := (first | ((try simp only [World.size_alloc, World.size_drew]) <;> omega) | fail)) only [hc1, World.cell?_drew, World.cell?_alloc_at, World.cell?_alloc_past] <;> rfl))) (first | (go_at_call 67; refine (rregs_any _ _ hrr _ _ ?_ _).mono ?_; exact hrs; rintro e w1 ⟨rfl, hb1⟩; rw [HA.out, HB.out, HX.out]; obtain ⟨hc1, hf1⟩ := bcell hb1; have hz1 := hb1.size; simp at hz1))
  have kf0 : w1.cell? ⟨w.heap.size + 1 + 1, 0, none⟩ = some (.int .i64 r) := by
    simp (disch := (first | ((try simp only [World.size_alloc, World.size_drew]) <;> omega) | fail)) only [hc1, World.cell?_drew, World.cell?_alloc_at, World.cell?_alloc_past] <;> rfl
  have kf1 : w1.cell? ⟨w.heap.size + 1 + 1, 1, none⟩ = some (.int .i64 m) := by
    simp (disch := (first | ((try simp only [World.size_alloc, World.size_drew]) <;> omega) | fail)) only [hc1, World.cell?_drew, World.cell?_alloc_at, World.cell?_alloc_past] <;> rfl
  have kf2 : w1.cell? ⟨w.heap.size + 1 + 1, 2, none⟩ = some (.bool t) := by
    simp (disch := (first | ((try simp only [World.size_alloc, World.size_drew]) <;> omega) | fail)) only [hc1, World.cell?_drew, World.cell?_alloc_at, World.cell?_alloc_past] <;> rfl
  have ki : ∀ o, w1.cell? ⟨w.heap.size, o, none⟩ = (#[.int .i64 0, .int .i64 0, .int .i64 0, .int .i64 0] : Array Value)[o]? := fun o => by
    simp (disch := (first | ((try simp only [World.size_alloc, World.size_drew]) <;> omega) | fail)) only [hc1, World.cell?_drew, World.cell?_alloc_at, World.cell?_alloc_past]
  have kz : ∀ o, w1.frozen? ⟨w.heap.size, o, none⟩ = false := fun o => (hf1 _ _ (by simp; omega)).trans (fz5d _ _ _ _ _ _ _ _ _ _ _ _)
  have q1 : Below w.heap.size w w1 := (bl5d _ _ _ _ _ _).trans (hb1.mono (sz5d _ _ _ _ _ _))
  clear hc1 hf1 hb1
  cases x with
  | false =>
    go_wp2
    refine bodyPost_ret (v := rdNo) (by simp [results, Tryd.results44, go_sem, ki]) rfl ⟨rfl, ?_⟩
    repeat (refine Below.setCell ?_ (by simp) _)
    exact q1
  | true =>
    have zf : w.heap.size + 1 + 1 < w1.heap.size := by omega
    have zi : w.heap.size < w1.heap.size := by omega
    generalize w.heap.size + 1 + 1 = bf at *
    go_wp2_with fail
    go_region_held3 (fun w' => w'.cell? ⟨bf, 0, none⟩ = some (.int .i64 r) ∧ w'.cell? ⟨bf, 1, none⟩ = some (.int .i64 m) ∧ w'.cell? ⟨bf, 2, none⟩ = some (.bool t)) (first | (exact ⟨kf0, kf1, kf2⟩) | (refine ⟨?_, ?_, ?_⟩ <;> (simp (disch := (first | ((try simp only [World.size_alloc, World.size_drew]) <;> omega) | fail)) only [World.cell?_drew, World.cell?_alloc_past] <;> assumption)) | (refine ⟨?_, ?_, ?_⟩ <;> (simp (disch := (first | ((try simp only [World.size_alloc, World.size_drew]) <;> omega) | fail)) only [hc2, World.cell?_drew, World.cell?_alloc_past] <;> assumption))) (first | (go_at_call 66; refine (fsize_any _ _ _ hrr hmr _).mono ?_; rintro e w' ⟨rfl, rfl⟩; rw [HZ.out]) | (go_at_call 68; refine (rnum_any _ _ _ _ _).mono ?_; rintro e w2 ⟨rfl, hb2⟩; rw [HN.out, HY.out]; obtain ⟨hc2, hf2⟩ := bcell hb2; have hz2 := hb2.size; simp at hz2))
    have ki2 : ∀ o, w2.cell? ⟨w.heap.size, o, none⟩ = (#[.int .i64 0, .int .i64 0, .int .i64 0, .int .i64 0] : Array Value)[o]? := fun o => by
      rw [← ki o]
      simp (disch := (first | ((try simp only [World.size_alloc, World.size_drew]) <;> omega) | fail)) only [hc2, World.cell?_drew, World.cell?_alloc_past]
    have kz2 : ∀ o, w2.frozen? ⟨w.heap.size, o, none⟩ = false := fun o => by
      rw [hf2 _ _ (by simp; omega)]
      exact (World.frozen?_alloc_past (w := w1) _ _ _ zi).trans (kz o)
    have kg0 : w2.cell? ⟨bf, 0, none⟩ = some (.int .i64 r) := by
      simp (disch := (first | ((try simp only [World.size_alloc, World.size_drew]) <;> omega) | fail)) only [hc2, World.cell?_drew, World.cell?_alloc_past] <;> assumption
    have kg1 : w2.cell? ⟨bf, 1, none⟩ = some (.int .i64 m) := by
      simp (disch := (first | ((try simp only [World.size_alloc, World.size_drew]) <;> omega) | fail)) only [hc2, World.cell?_drew, World.cell?_alloc_past] <;> assumption
    have kg2 : w2.cell? ⟨bf, 2, none⟩ = some (.bool t) := by
      simp (disch := (first | ((try simp only [World.size_alloc, World.size_drew]) <;> omega) | fail)) only [hc2, World.cell?_drew, World.cell?_alloc_past] <;> assumption
    have q2 : Below w.heap.size w w2 := (q1.drew.alloc (by show w.heap.size ≤ w1.heap.size; omega) _).trans (hb2.mono (by simp; omega))
    clear hc2 hf2 hb2 ki kz kf0 kf1 kf2
    have zf2 : bf < w2.heap.size := by omega
    have zi2 : w.heap.size < w2.heap.size := by omega
    cases y with
    | false =>
      go_wp2
      refine bodyPost_ret (v := rdNo) (by simp [results, Tryd.results44, go_sem, ki2]) rfl ⟨rfl, ?_⟩
      repeat (refine Below.setCell ?_ (by simp) _)
      exact q2
    | true =>
      go_wp2_with (go_at_call 66; refine (fsize_any _ _ _ hrr hmr _).mono ?_; rintro e w' ⟨rfl, rfl⟩; rw [HZ.out])
      refine bodyPost_ret (v := .tuple #[insW op a b n, .int .i64 z, .bool true]) (by simp [results, Tryd.results44, go_sem, ki2, zi2]) rfl ⟨rfl, ?_⟩
      refine Below.alloc ?_ (by simp; omega) _
      repeat (refine Below.setCell ?_ (by simp) _)
      exact q2

/-- The instruction with whose form bytes begin. -/
def I.kAt (op : Int) : Nat := (I.psize op - I.num op).toNat
def I.dA (s : ByteArray) : Int := I.rA (I.regs (I.hd s)) (s.extract 1 (I.kAt (I.hd s)))
def I.dB (s : ByteArray) : Int := I.rB (I.regs (I.hd s)) (s.extract 1 (I.kAt (I.hd s)))
def I.dS (s : ByteArray) : ByteArray := s.extract (I.kAt (I.hd s)) (I.psize (I.hd s)).toNat
def I.dN (s : ByteArray) : Int := I.rdN (I.num (I.hd s)) (I.dS s)
def I.dOk (s : ByteArray) : Bool := decide (0 < s.size ∧ 1 ≤ I.hd s ∧ I.hd s ≤ 33 ∧ I.psize (I.hd s) ≤ (s.size : Int)) && ((I.isr (I.dA s) && I.isr (I.dB s)) && I.rdOk (I.num (I.hd s)) (I.nat (I.hd s)) (I.dS s))
def rdV (s : ByteArray) : Value := if I.dOk s = true then .tuple #[insW (I.hd s) (I.dA s) (I.dB s) (I.dN s), .int .i64 (I.psize (I.hd s)), .bool true] else rdNo

theorem iread_any (s : ByteArray) (w : World) (ht : Tab w) :
    Calls Tryd.prog 44 #[.string s] w fun e w' => e = .returned (rdV s) ∧ Below w.heap.size w w' := by
  by_cases hs : 0 < s.size
  · by_cases h : 1 ≤ I.hd s ∧ I.hd s ≤ 33
    · by_cases hz : I.psize (I.hd s) ≤ (s.size : Int)
      · refine (read_go (I.hd s) s hs (I.hd_eq s hs).symm h hz w ht).mono ?_
        rintro e w' ⟨rfl, hb⟩
        refine ⟨?_, hb⟩
        have e1 : decide (0 < s.size ∧ 1 ≤ I.hd s ∧ I.hd s ≤ 33 ∧ I.psize (I.hd s) ≤ (s.size : Int)) = true := decide_eq_true ⟨hs, h.1, h.2, hz⟩
        have e2 : I.dOk s = ((I.isr (I.dA s) && I.isr (I.dB s)) && I.rdOk (I.num (I.hd s)) (I.nat (I.hd s)) (I.dS s)) := by unfold I.dOk; rw [e1]; rfl
        congr 1
        unfold rdV
        rw [e2]
        show rdRes (I.hd s) (I.psize (I.hd s)) (I.dA s) (I.dB s) (I.dN s) (I.rdOk (I.num (I.hd s)) (I.nat (I.hd s)) (I.dS s)) = _
        unfold rdRes
        cases (I.isr (I.dA s) && I.isr (I.dB s)) <;> cases I.rdOk (I.num (I.hd s)) (I.nat (I.hd s)) (I.dS s) <;> rfl
      · have e1 : I.dOk s = false := by
          unfold I.dOk
          rw [decide_eq_false (by rintro ⟨-, -, -, h4⟩; exact hz h4)]
          rfl
        unfold rdV
        rw [if_neg (by rw [e1]; decide)]
        exact read_short (I.hd s) s hs (I.hd_eq s hs).symm h (by omega) w ht
    · have e1 : I.dOk s = false := by
        unfold I.dOk
        rw [decide_eq_false (by rintro ⟨-, h2, h3, -⟩; exact h ⟨h2, h3⟩)]
        rfl
      unfold rdV
      rw [if_neg (by rw [e1]; decide)]
      exact read_none s hs (by omega) w ht
  · have e1 : I.dOk s = false := by
      unfold I.dOk
      rw [decide_eq_false (by rintro ⟨h1, -⟩; exact hs h1)]
      rfl
    unfold rdV
    rw [if_neg (by rw [e1]; decide)]
    exact read_empty s (by omega) w

end Go.Proofs.YtffokdldgdjkhaaDoor
