/- ins.read. -/
import Derived.Test.YtneclfaamgfoeaaDoorEAa
import Derived.Deep.RegionHeld3
import Derived.Deep.DrawnRows
import Derived.WalkKit
import Derived.Maps.OwnSet
import Derived.Lib.SlKeysI
import Derived.Test.YtneclfaamgfoeaaDoorProg
import Derived.WalkSpells
import Derived.WalkLawsBesides
import Derived.OpenShut
namespace Go.Proofs.YtneclfaamgfoeaaDoor
set_option maxRecDepth 100000
open Go.RowKit
set_option linter.unusedVariables false
attribute [local go_sem ↓] Go.wp_at_zero Go.wp_at_succ

theorem rregs_any (r m : Int) (hr : r = 0 ∨ r = 1 ∨ r = 2) (t : Bool) (s : ByteArray) (hs : ¬ r = 0 → 0 < s.size) (w : World) :
    Calls Tryd.prog 91 #[formW r m t, .string s] w fun e w' => e = .returned (.tuple #[.int .i64 (I.rA r s), .int .i64 (I.rB r s), .bool (I.isr (I.rA r s) && I.isr (I.rB r s))]) ∧ Below w.heap.size w w' := by
  rcases hr with rfl | rfl | rfl
  · exact rregs_0 m t s w
  · have h := rregs_1 m t s (hs (by decide)) w
    rw [← I.hd_eq s (hs (by decide))] at h
    refine h.mono ?_
    rintro e w' ⟨rfl, hb⟩
    have h0 : I.isr 0 = true := by decide
    exact ⟨retIIB rfl rfl (by simp [I.rA, I.rB, h0]), hb⟩
  · have h := rregs_2 m t s (hs (by decide)) w
    rw [← I.hd_eq s (hs (by decide))] at h
    exact h

theorem rnum_any (r m : Int) (t : Bool) (s : ByteArray) (w : World) :
    Calls Tryd.prog 92 #[formW r m t, .string s] w fun e w' => e = .returned (.tuple #[.int .i64 (I.rdN m s), .bool (I.rdOk m t s)]) ∧ Below w.heap.size w w' := by
  unfold I.rdN I.rdOk
  by_cases h : m = 0
  · subst h
    rw [if_pos rfl, if_pos rfl]
    refine (rnum_0 r t s w).mono ?_
    rintro e w' ⟨rfl, rfl⟩
    exact ⟨rfl, bl1 _ _⟩
  · rw [if_neg h, if_neg h]
    exact rnum_m r m t s h w

theorem bl5d (w : World) (a b c d e : Obj) : Below w.heap.size w (((((w.alloc a).alloc b).alloc c).alloc d).alloc e).drew.drew :=
  (((bl3 w a b c).alloc (by simp; omega) d).alloc (by simp; omega) e).drew.drew
theorem sz5d (w : World) (a b c d e : Obj) : w.heap.size ≤ ((((((w.alloc a).alloc b).alloc c).alloc d).alloc e).drew.drew).heap.size := by
  show w.heap.size ≤ (((((w.alloc a).alloc b).alloc c).alloc d).alloc e).heap.size
  simp; omega
theorem fz5d (w : World) (a b c d e : Array Value) (t u v x y : TypeId) (o : Nat) : ((((((w.alloc (.cells a t)).alloc (.cells b u)).alloc (.cells c v)).alloc (.cells d x)).alloc (.cells e y)).drew.drew).frozen? ⟨w.heap.size, o, none⟩ = false := by
  show (((((w.alloc (.cells a t)).alloc (.cells b u)).alloc (.cells c v)).alloc (.cells d x)).alloc (.cells e y)).frozen? ⟨w.heap.size, o, none⟩ = false
  rw [frozen?_alloc_cells, frozen?_alloc_cells, frozen?_alloc_cells, frozen?_alloc_cells]
  exact World.frozen?_alloc_at a t _ _ rfl

/-- Such bounds cut a string. -/
def SlOk (s : ByteArray) (i j : Int) : Prop := 0 ≤ i ∧ i ≤ j ∧ j ≤ (s.size : Int)
theorem run_slice_ok (s : ByteArray) (i j : Int) (w' : World) (h : SlOk s i j) : (Instr.slice 9 (.string s) (some (.int .i64 i)) (some (.int .i64 j)) none).run Tryd.prog w' = .ok (.string (s.extract i.toNat j.toNat)) w' := by
  rw [run_slice_string_if w' 9 s .i64 .i64 i j Tryd.underlying9, if_pos ⟨by have := h.1; have := h.2.1; omega, h.2.2⟩, if_pos ⟨h.1, h.2.1⟩]
attribute [local go_sem high] run_slice_ok

/-- What read answers. -/
abbrev rdNo : Value := .tuple #[insW 0 0 0 0, .int .i64 0, .bool false]
def rdRes (op z a b n : Int) (y : Bool) : Value := if (I.isr a && I.isr b) = true then (if y = true then .tuple #[insW op a b n, .int .i64 z, .bool true] else rdNo) else rdNo

set_option maxRecDepth 100000 in
set_option maxHeartbeats 8000000 in
theorem read_empty (s : ByteArray) (hs : s.size = 0) (w : World) :
    Calls Tryd.prog 73 #[.string s] w fun e w' => e = .returned rdNo ∧ Below w.heap.size w w' := by
  obtain rfl : s = { data := #[] } := by
    obtain ⟨d⟩ := s
    simp [ByteArray.size] at hs
    subst hs; rfl
  go_enter Tryd.func73, Tryd.ntmps73
  go_wp2
  exact bodyPost_ret (v := rdNo) (by simp [results, Tryd.results73, go_sem]) rfl ⟨rfl, bl1 _ _⟩

theorem ne_empty {s : ByteArray} (hs : 0 < s.size) : s.toList.isEmpty = false := by
  rw [ByteArray.toList_eq]
  cases hl : s.data.toList with
  | nil => have := congrArg List.length hl; simp at this; simp [this] at hs
  | cons _ _ => rfl

set_option maxRecDepth 100000 in
set_option maxHeartbeats 8000000 in
theorem read_none (s : ByteArray) (hs : 0 < s.size) (h : I.hd s < 1 ∨ 33 < I.hd s) (w : World) (ht : Tab w) :
    Calls Tryd.prog 73 #[.string s] w fun e w' => e = .returned rdNo ∧ Below w.heap.size w w' := by
  have hne := ne_empty hs
  rw [I.hd_eq s hs] at h
  have hb : (s[0].toNat : Int) ≤ 255 := by have := s[0].toNat_lt; omega
  go_enter Tryd.func73, Tryd.ntmps73
  go_wp2_with (go_at_call 89; refine (formOf_no _ h _ (ht.alloc _)).mono ?_; rintro e w' ⟨rfl, rfl⟩)
  exact bodyPost_ret (v := rdNo) (by simp [results, Tryd.results73, go_sem]) rfl ⟨rfl, bl3 _ _ _ _⟩

set_option maxRecDepth 100000 in
set_option maxHeartbeats 8000000 in
theorem read_short (op : Int) (s : ByteArray) (hs : 0 < s.size) (ho : (s[0].toNat : Int) = op) (h : 1 ≤ op ∧ op ≤ 33) (hz : (s.size : Int) < I.psize op) (w : World) (ht : Tab w) :
    Calls Tryd.prog 73 #[.string s] w fun e w' => e = .returned rdNo ∧ Below w.heap.size w w' := by
  have hne := ne_empty hs
  have HF : Hid (∀ w, Tab w → Calls Tryd.prog 89 #[.int .i64 op] w fun e w' => e = .returned (.tuple #[.agg #[.int .i64 (I.regs op), .int .i64 (I.num op), .bool (I.nat op)], .bool true]) ∧ w' = w.alloc (.cells #[.int .i64 (I.regs op), .int .i64 (I.num op), .bool (I.nat op)] 151)) := formOf_yes op h
  have hrr := I.regs_range op
  have hmr := I.num_range op
  unfold I.psize at hz
  generalize I.regs op = r at *
  generalize I.num op = m at *
  generalize I.nat op = t at *
  obtain ⟨z, hzz⟩ : ∃ z, (if r = 0 then 1 + m else 2 + m) = z := ⟨_, rfl⟩
  have HZ : Hid ((if r = 0 then 1 + m else 2 + m) = z) := hzz
  rw [hzz] at hz
  clear hzz
  go_enter Tryd.func73, Tryd.ntmps73
  go_wp2_with (first | (go_at_call 89; refine (HF.out _ (ht.alloc _)).mono ?_; rintro e w' ⟨rfl, rfl⟩) | (go_at_call 90; refine (fsize_any _ _ _ hrr hmr _).mono ?_; rintro e w' ⟨rfl, rfl⟩; rw [HZ.out]))
  exact bodyPost_ret (v := rdNo) (by simp [results, Tryd.results73, go_sem]) rfl ⟨rfl, (bl3 _ _ _ _).alloc (by simp; omega) _⟩

set_option maxRecDepth 100000 in
set_option maxHeartbeats 8000000 in
theorem read_go (op : Int) (s : ByteArray) (hs : 0 < s.size) (ho : (s[0].toNat : Int) = op) (h : 1 ≤ op ∧ op ≤ 33) (hz : I.psize op ≤ (s.size : Int)) (w : World) (ht : Tab w) :
    Calls Tryd.prog 73 #[.string s] w fun e w' => e = .returned (rdRes op (I.psize op) (I.rA (I.regs op) (s.extract 1 (I.psize op - I.num op).toNat)) (I.rB (I.regs op) (s.extract 1 (I.psize op - I.num op).toNat)) (I.rdN (I.num op) (s.extract (I.psize op - I.num op).toNat (I.psize op).toNat)) (I.rdOk (I.num op) (I.nat op) (s.extract (I.psize op - I.num op).toNat (I.psize op).toNat))) ∧ Below w.heap.size w w' := by
  have hne := ne_empty hs
  have HF : Hid (∀ w, Tab w → Calls Tryd.prog 89 #[.int .i64 op] w fun e w' => e = .returned (.tuple #[.agg #[.int .i64 (I.regs op), .int .i64 (I.num op), .bool (I.nat op)], .bool true]) ∧ w' = w.alloc (.cells #[.int .i64 (I.regs op), .int .i64 (I.num op), .bool (I.nat op)] 151)) := formOf_yes op h
  have hrr := I.regs_range op
  have hmr := I.num_range op
  unfold I.psize at hz
  unfold I.psize
  generalize I.regs op = r at *
  generalize I.num op = m at *
  generalize I.nat op = t at *
  obtain ⟨z, hzz⟩ : ∃ z : Int, (if r = 0 then 1 + m else 2 + m) = z := ⟨_, rfl⟩
  have HZ : Hid ((if r = 0 then 1 + m else 2 + m) = z) := hzz
  rw [hzz] at hz
  rw [hzz]
  obtain ⟨k, hkk⟩ : ∃ k : Int, k = z - m := ⟨_, rfl⟩
  have hk0 : 0 ≤ k := by rw [hkk, ← hzz]; split <;> omega
  have hk1 : 1 ≤ k := by rw [hkk, ← hzz]; split <;> omega
  have hkz : k ≤ z := by rw [hkk]; omega
  have hks : k ≤ (s.size : Int) := by omega
  have hz0 : 0 ≤ z := by omega
  have hz10 : z ≤ 10 := by rw [← hzz]; split <;> omega
  have hwk : IntKind.i64.wrap k = k := by rw [IntKind.wrap_i64]; omega
  have hrs : ¬ r = 0 → 0 < (s.extract 1 k.toNat).size := by
    intro h0
    rw [if_neg h0] at hzz
    simp
    omega
  have hsz : ¬ (s.size : Int) < z := by omega
  rw [← hkk]
  obtain ⟨a, ha⟩ : ∃ a, I.rA r (s.extract 1 k.toNat) = a := ⟨_, rfl⟩
  obtain ⟨b, hb⟩ : ∃ b, I.rB r (s.extract 1 k.toNat) = b := ⟨_, rfl⟩
  obtain ⟨n, hn⟩ : ∃ n, I.rdN m (s.extract k.toNat z.toNat) = n := ⟨_, rfl⟩
  obtain ⟨y, hy⟩ : ∃ y, I.rdOk m t (s.extract k.toNat z.toNat) = y := ⟨_, rfl⟩
  obtain ⟨x, hx⟩ : ∃ x, (I.isr a && I.isr b) = x := ⟨_, rfl⟩
  have HA : Hid (I.rA r (s.extract 1 k.toNat) = a) := ha
  have HB : Hid (I.rB r (s.extract 1 k.toNat) = b) := hb
  have HN : Hid (I.rdN m (s.extract k.toNat z.toNat) = n) := hn
  have HY : Hid (I.rdOk m t (s.extract k.toNat z.toNat) = y) := hy
  have HX : Hid ((I.isr a && I.isr b) = x) := hx
  rw [ha, hb, hn, hy]
  unfold rdRes
  rw [hx]
  clear ha hb hn hy hx
  have hsl1 : SlOk s 1 k := ⟨by omega, hk1, hks⟩
  have hsl2 : SlOk s k z := ⟨by omega, hkz, hz⟩
  clear hzz
  go_enter Tryd.func73, Tryd.ntmps73
  go_wp2_with (first | (go_at_call 89; refine (HF.out _ (ht.alloc _)).mono ?_; rintro e w' ⟨rfl, rfl⟩) | (go_at_call 90; refine (fsize_any _ _ _ hrr hmr _).mono ?_; rintro e w' ⟨rfl, rfl⟩; rw [HZ.out]))
  go_region_held3 (fun w' => w'.cell? ⟨w.heap.size + 1 + 1, 0, none⟩ = some (.int .i64 r) ∧ w'.cell? ⟨w.heap.size + 1 + 1, 1, none⟩ = some (.int .i64 m) ∧ w'.cell? ⟨w.heap.size + 1 + 1, 2, none⟩ = some (.bool t)) (first | (refine ⟨?_, ?_, ?_⟩ <;> (simp (disch := (first | ((try simp only [World.size_alloc]) <;> omega) | fail)) only [World.cell?_drew, World.cell?_alloc_at, World.cell?_alloc_past] <;> rfl))) (first | (go_at_call 90; refine (fsize_any _ _ _ hrr hmr _).mono ?_; rintro e w' ⟨rfl, rfl⟩; rw [HZ.out]))
  go_wp2_with fail
  rw [← hkk, hwk]
  have HK : Hid (k = z - m) := hkk
  clear hkk
  go_region_held3 (fun w' => w'.cell? ⟨w.heap.size + 1 + 1, 0, none⟩ = some (.int .i64 r) ∧ w'.cell? ⟨w.heap.size + 1 + 1, 1, none⟩ = some (.int .i64 m) ∧ w'.cell? ⟨w.heap.size + 1 + 1, 2, none⟩ = some (.bool t)) (first | (refine ⟨?_, ?_, ?_⟩ <;> (simp (disch := (first | ((try simp only [World.size_alloc, World.size_drew]) <;> omega) | fail)) only [World.cell?_drew, World.cell?_alloc_at, World.cell?_alloc_past] <;> rfl)) | (refine ⟨?_, ?_, ?_⟩ <;> (simp (disch := (first | ((try simp only [World.size_alloc, World.size_drew]) <;> omega) | fail)) only [hc1, World.cell?_drew, World.cell?_alloc_at, World.cell?_alloc_past] <;> rfl))) (first | (go_at_call 91; refine (rregs_any _ _ hrr _ _ ?_ _).mono ?_; exact hrs; rintro e w1 ⟨rfl, hb1⟩; rw [HA.out, HB.out, HX.out]; obtain ⟨hc1, hf1⟩ := bcell hb1; have hz1 := hb1.size; simp at hz1))
  have kf0 : w1.cell? ⟨w.heap.size + 1 + 1, 0, none⟩ = some (.int .i64 r) := by
    simp (disch := (first | ((try simp only [World.size_alloc, World.size_drew]) <;> omega) | fail)) only [hc1, World.cell?_drew, World.cell?_alloc_at, World.cell?_alloc_past] <;> rfl
  have kf1 : w1.cell? ⟨w.heap.size + 1 + 1, 1, none⟩ = some (.int .i64 m) := by
    simp (disch := (first | ((try simp only [World.size_alloc, World.size_drew]) <;> omega) | fail)) only [hc1, World.cell?_drew, World.cell?_alloc_at, World.cell?_alloc_past] <;> rfl
  have kf2 : w1.cell? ⟨w.heap.size + 1 + 1, 2, none⟩ = some (.bool t) := by
    simp (disch := (first | ((try simp only [World.size_alloc, World.size_drew]) <;> omega) | fail)) only [hc1, World.cell?_drew, World.cell?_alloc_at, World.cell?_alloc_past] <;> rfl
  have ki : ∀ o, w1.cell? ⟨w.heap.size, o, none⟩ = (#[.int .i64 0, .int .i64 0, .int .i64 0, .int .i64 0] : Array Value)[o]? := fun o => by
    simp (disch := (first | ((try simp only [World.size_alloc, World.size_drew]) <;> omega) | fail)) only [hc1, World.cell?_drew, World.cell?_alloc_at, World.cell?_alloc_past]
  have kz : ∀ o, w1.frozen? ⟨w.heap.size, o, none⟩ = false := fun o => (hf1 _ _ (by simp; omega)).trans (fz5d _ _ _ _ _ _ _ _ _ _ _ _)
  have q1 : Below w.heap.size w w1 := (bl5d _ _ _ _ _ _).trans (hb1.mono (sz5d _ _ _ _ _ _))
  clear hc1 hf1 hb1
  cases x with
  | false =>
    go_wp2
    refine bodyPost_ret (v := rdNo) (by simp [results, Tryd.results73, go_sem, ki]) rfl ⟨rfl, ?_⟩
    repeat (refine Below.setCell ?_ (by simp) _)
    exact q1
  | true =>
    have zf : w.heap.size + 1 + 1 < w1.heap.size := by omega
    have zi : w.heap.size < w1.heap.size := by omega
    generalize w.heap.size + 1 + 1 = bf at *
    go_wp2_with fail
    go_region_held3 (fun w' => w'.cell? ⟨bf, 0, none⟩ = some (.int .i64 r) ∧ w'.cell? ⟨bf, 1, none⟩ = some (.int .i64 m) ∧ w'.cell? ⟨bf, 2, none⟩ = some (.bool t)) (first | (exact ⟨kf0, kf1, kf2⟩) | (refine ⟨?_, ?_, ?_⟩ <;> (simp (disch := (first | ((try simp only [World.size_alloc, World.size_drew]) <;> omega) | fail)) only [World.cell?_drew, World.cell?_alloc_past] <;> assumption)) | (refine ⟨?_, ?_, ?_⟩ <;> (simp (disch := (first | ((try simp only [World.size_alloc, World.size_drew]) <;> omega) | fail)) only [hc2, World.cell?_drew, World.cell?_alloc_past] <;> assumption))) (first | (go_at_call 90; refine (fsize_any _ _ _ hrr hmr _).mono ?_; rintro e w' ⟨rfl, rfl⟩; rw [HZ.out]) | (go_at_call 92; refine (rnum_any _ _ _ _ _).mono ?_; rintro e w2 ⟨rfl, hb2⟩; rw [HN.out, HY.out]; obtain ⟨hc2, hf2⟩ := bcell hb2; have hz2 := hb2.size; simp at hz2))
    have ki2 : ∀ o, w2.cell? ⟨w.heap.size, o, none⟩ = (#[.int .i64 0, .int .i64 0, .int .i64 0, .int .i64 0] : Array Value)[o]? := fun o => by
      rw [← ki o]
      simp (disch := (first | ((try simp only [World.size_alloc, World.size_drew]) <;> omega) | fail)) only [hc2, World.cell?_drew, World.cell?_alloc_past]
    have kz2 : ∀ o, w2.frozen? ⟨w.heap.size, o, none⟩ = false := fun o => by
      rw [hf2 _ _ (by simp; omega)]
      exact (World.frozen?_alloc_past (w := w1) _ _ _ zi).trans (kz o)
    have kg0 : w2.cell? ⟨bf, 0, none⟩ = some (.int .i64 r) := by
      simp (disch := (first | ((try simp only [World.size_alloc, World.size_drew]) <;> omega) | fail)) only [hc2, World.cell?_drew, World.cell?_alloc_past] <;> assumption
    have kg1 : w2.cell? ⟨bf, 1, none⟩ = some (.int .i64 m) := by
      simp (disch := (first | ((try simp only [World.size_alloc, World.size_drew]) <;> omega) | fail)) only [hc2, World.cell?_drew, World.cell?_alloc_past] <;> assumption
    have kg2 : w2.cell? ⟨bf, 2, none⟩ = some (.bool t) := by
      simp (disch := (first | ((try simp only [World.size_alloc, World.size_drew]) <;> omega) | fail)) only [hc2, World.cell?_drew, World.cell?_alloc_past] <;> assumption
    have q2 : Below w.heap.size w w2 := (q1.drew.alloc (by show w.heap.size ≤ w1.heap.size; omega) _).trans (hb2.mono (by simp; omega))
    clear hc2 hf2 hb2 ki kz kf0 kf1 kf2
    have zf2 : bf < w2.heap.size := by omega
    have zi2 : w.heap.size < w2.heap.size := by omega
    cases y with
    | false =>
      go_wp2
      refine bodyPost_ret (v := rdNo) (by simp [results, Tryd.results73, go_sem, ki2]) rfl ⟨rfl, ?_⟩
      repeat (refine Below.setCell ?_ (by simp) _)
      exact q2
    | true =>
      go_wp2_with (go_at_call 90; refine (fsize_any _ _ _ hrr hmr _).mono ?_; rintro e w' ⟨rfl, rfl⟩; rw [HZ.out])
      refine bodyPost_ret (v := .tuple #[insW op a b n, .int .i64 z, .bool true]) (by simp [results, Tryd.results73, go_sem, ki2, zi2]) rfl ⟨rfl, ?_⟩
      refine Below.alloc ?_ (by simp; omega) _
      repeat (refine Below.setCell ?_ (by simp) _)
      exact q2

/-- The instruction with whose form bytes begin. -/
def I.kAt (op : Int) : Nat := (I.psize op - I.num op).toNat
def I.dA (s : ByteArray) : Int := I.rA (I.regs (I.hd s)) (s.extract 1 (I.kAt (I.hd s)))
def I.dB (s : ByteArray) : Int := I.rB (I.regs (I.hd s)) (s.extract 1 (I.kAt (I.hd s)))
def I.dS (s : ByteArray) : ByteArray := s.extract (I.kAt (I.hd s)) (I.psize (I.hd s)).toNat
def I.dN (s : ByteArray) : Int := I.rdN (I.num (I.hd s)) (I.dS s)
def I.dOk (s : ByteArray) : Bool := decide (0 < s.size ∧ 1 ≤ I.hd s ∧ I.hd s ≤ 33 ∧ I.psize (I.hd s) ≤ (s.size : Int)) && ((I.isr (I.dA s) && I.isr (I.dB s)) && I.rdOk (I.num (I.hd s)) (I.nat (I.hd s)) (I.dS s))
def rdV (s : ByteArray) : Value := if I.dOk s = true then .tuple #[insW (I.hd s) (I.dA s) (I.dB s) (I.dN s), .int .i64 (I.psize (I.hd s)), .bool true] else rdNo

theorem iread_any (s : ByteArray) (w : World) (ht : Tab w) :
    Calls Tryd.prog 73 #[.string s] w fun e w' => e = .returned (rdV s) ∧ Below w.heap.size w w' := by
  by_cases hs : 0 < s.size
  · by_cases h : 1 ≤ I.hd s ∧ I.hd s ≤ 33
    · by_cases hz : I.psize (I.hd s) ≤ (s.size : Int)
      · refine (read_go (I.hd s) s hs (I.hd_eq s hs).symm h hz w ht).mono ?_
        rintro e w' ⟨rfl, hb⟩
        refine ⟨?_, hb⟩
        have e1 : decide (0 < s.size ∧ 1 ≤ I.hd s ∧ I.hd s ≤ 33 ∧ I.psize (I.hd s) ≤ (s.size : Int)) = true := decide_eq_true ⟨hs, h.1, h.2, hz⟩
        have e2 : I.dOk s = ((I.isr (I.dA s) && I.isr (I.dB s)) && I.rdOk (I.num (I.hd s)) (I.nat (I.hd s)) (I.dS s)) := by unfold I.dOk; rw [e1]; rfl
        congr 1
        unfold rdV
        rw [e2]
        show rdRes (I.hd s) (I.psize (I.hd s)) (I.dA s) (I.dB s) (I.dN s) (I.rdOk (I.num (I.hd s)) (I.nat (I.hd s)) (I.dS s)) = _
        unfold rdRes
        cases (I.isr (I.dA s) && I.isr (I.dB s)) <;> cases I.rdOk (I.num (I.hd s)) (I.nat (I.hd s)) (I.dS s) <;> rfl
      · have e1 : I.dOk s = false := by
          unfold I.dOk
          rw [decide_eq_false (by rintro ⟨-, -, -, h4⟩; exact hz h4)]
          rfl
        unfold rdV
        rw [if_neg (by rw [e1]; decide)]
        exact read_short (I.hd s) s hs (I.hd_eq s hs).symm h (by omega) w ht
    · have e1 : I.dOk s = false := by
        unfold I.dOk
        rw [decide_eq_false (by rintro ⟨-, h2, h3, -⟩; exact h ⟨h2, h3⟩)]
        rfl
      unfold rdV
      rw [if_neg (by rw [e1]; decide)]
      exact read_none s hs (by omega) w ht
  · have e1 : I.dOk s = false := by
      unfold I.dOk
      rw [decide_eq_false (by rintro ⟨h1, -⟩; exact hs h1)]
      rfl
    unfold rdV
    rw [if_neg (by rw [e1]; decide)]
    exact read_empty s (by omega) w

end Go.Proofs.YtneclfaamgfoeaaDoor

/- ins.Decode. -/
namespace Go.Proofs.YtneclfaamgfoeaaDoor
set_option maxRecDepth 100000
open Go.RowKit
set_option linter.unusedVariables false
attribute [local go_sem ↓] Go.wp_at_zero Go.wp_at_succ

abbrev decV (i : Value) (n e : Int) : Value := .tuple #[i, .int .i64 n, .int .i64 e]
/-- What Decode answers. -/
def I.cut (s : ByteArray) (at' : Int) : ByteArray := s.extract at'.toNat s.size
def I.decR (s : ByteArray) (at' : Int) : Value :=
  if at' < 0 ∨ (s.size : Int) < at' then decV (insW 0 0 0 0) 0 1
  else if I.dOk (I.cut s at') = true then decV (insW (I.hd (I.cut s at')) (I.dA (I.cut s at')) (I.dB (I.cut s at')) (I.dN (I.cut s at'))) (at' + I.psize (I.hd (I.cut s at'))) 0
  else decV (insW 0 0 0 0) 0 9

set_option maxRecDepth 100000 in
set_option maxHeartbeats 8000000 in
theorem dec_arg (s : ByteArray) (a : Int) (h : a < 0 ∨ (s.size : Int) < a) (w : World) :
    Calls Tryd.prog 56 #[.string s, .int .i64 a] w fun e w' => e = .returned (decV (insW 0 0 0 0) 0 1) ∧ Below w.heap.size w w' := by
  rcases (show a < 0 ∨ (0 ≤ a ∧ (s.size : Int) < a) by omega) with h | ⟨h, h'⟩
  all_goals
    go_enter Tryd.func56, Tryd.ntmps56
    go_wp2
    exact bodyPost_ret (v := decV (insW 0 0 0 0) 0 1) (by simp [results, Tryd.results56, go_sem]) rfl ⟨rfl, bl1 _ _⟩

set_option maxRecDepth 100000 in
set_option maxHeartbeats 8000000 in
theorem dec_in (s : ByteArray) (a : Int) (h0 : 0 ≤ a) (h1 : a ≤ (s.size : Int)) (hm : s.size ≤ 9223372036854775000) (w : World) (ht : Tab w) :
    Calls Tryd.prog 56 #[.string s, .int .i64 a] w fun e w' => e = .returned (if I.dOk (I.cut s a) = true then decV (insW (I.hd (I.cut s a)) (I.dA (I.cut s a)) (I.dB (I.cut s a)) (I.dN (I.cut s a))) (a + I.psize (I.hd (I.cut s a))) 0 else decV (insW 0 0 0 0) 0 9) ∧ Below w.heap.size w w' := by
  have HR : Hid (∀ w, Tab w → Calls Tryd.prog 73 #[.string (s.extract a.toNat s.size)] w fun e w' => e = .returned (rdV (I.cut s a)) ∧ Below w.heap.size w w') := fun w ht => iread_any _ w ht
  unfold rdV at HR
  obtain ⟨op, hop⟩ : ∃ op, I.hd (I.cut s a) = op := ⟨_, rfl⟩
  have hz : I.dOk (I.cut s a) = true → 0 ≤ I.psize op ∧ I.psize op ≤ 10 := by
    intro h
    unfold I.dOk at h
    have h1 := of_decide_eq_true (Bool.and_eq_true_iff.1 h).1
    rw [hop] at h1
    have := I.psize_size op ⟨h1.2.1, h1.2.2.1⟩
    have := I.size_pos h1.2.1 h1.2.2.1
    omega
  rw [hop] at HR
  rw [hop]
  generalize I.dA (I.cut s a) = da at *
  generalize I.dB (I.cut s a) = db at *
  generalize I.dN (I.cut s a) = dn at *
  generalize I.psize op = z at *
  cases hx : I.dOk (I.cut s a) with
  | false =>
    rw [hx] at HR
    rw [if_neg (by decide)] at HR
    rw [if_neg (by decide)]
    clear hz hop hx
    go_enter Tryd.func56, Tryd.ntmps56
    go_wp2_with fail
    refine (HR.out _ (ht.alloc _)).mono ?_
    rintro e w1 ⟨rfl, hb1⟩
    obtain ⟨hc1, hf1⟩ := bcell hb1
    have hz1 := hb1.size
    simp at hz1
    have ki : ∀ o, w1.cell? ⟨w.heap.size, o, none⟩ = (#[.int .i64 0, .int .i64 0, .int .i64 0, .int .i64 0] : Array Value)[o]? := fun o => by rw [hc1 _ _ (by simp)]; simp
    have kz : ∀ o, w1.frozen? ⟨w.heap.size, o, none⟩ = false := fun o => (hf1 _ _ (by simp)).trans (World.frozen?_alloc_at _ _ _ _ rfl)
    have zi : w.heap.size < w1.heap.size := by omega
    have q1 : Below w.heap.size w w1 := (bl1 _ _).trans (hb1.mono (by simp))
    clear hc1 hf1 hb1
    go_wp2
    refine bodyPost_ret (v := decV (insW 0 0 0 0) 0 9) (by simp [results, Tryd.results56, go_sem, ki, zi]) rfl ⟨rfl, ?_⟩
    refine Below.alloc ?_ (by simp; omega) _
    repeat (refine Below.setCell ?_ (by simp) _)
    exact q1
  | true =>
    rw [hx] at HR
    rw [if_pos rfl] at HR
    rw [if_pos rfl]
    obtain ⟨z0, z1⟩ := hz hx
    clear hz hop hx
    have hw : IntKind.i64.wrap (a + z) = a + z := by rw [IntKind.wrap_i64]; omega
    go_enter Tryd.func56, Tryd.ntmps56
    go_wp2_with fail
    refine (HR.out _ (ht.alloc _)).mono ?_
    rintro e w1 ⟨rfl, hb1⟩
    obtain ⟨hc1, hf1⟩ := bcell hb1
    have hz1 := hb1.size
    simp at hz1
    have ki : ∀ o, w1.cell? ⟨w.heap.size, o, none⟩ = (#[.int .i64 0, .int .i64 0, .int .i64 0, .int .i64 0] : Array Value)[o]? := fun o => by rw [hc1 _ _ (by simp)]; simp
    have kz : ∀ o, w1.frozen? ⟨w.heap.size, o, none⟩ = false := fun o => (hf1 _ _ (by simp)).trans (World.frozen?_alloc_at _ _ _ _ rfl)
    have zi : w.heap.size < w1.heap.size := by omega
    have q1 : Below w.heap.size w w1 := (bl1 _ _).trans (hb1.mono (by simp))
    clear hc1 hf1 hb1
    go_wp2
    refine bodyPost_ret (v := decV (insW op da db dn) (a + z) 0) (by simp [results, Tryd.results56, go_sem, ki, zi]) rfl ⟨rfl, ?_⟩
    refine Below.alloc ?_ (by simp; omega) _
    repeat (refine Below.setCell ?_ (by simp) _)
    exact q1

theorem decode_any (s : ByteArray) (a : Int) (hm : s.size ≤ 9223372036854775000) (w : World) (ht : Tab w) :
    Calls Tryd.prog 56 #[.string s, .int .i64 a] w fun e w' => e = .returned (I.decR s a) ∧ Below w.heap.size w w' := by
  unfold I.decR
  by_cases h : a < 0 ∨ (s.size : Int) < a
  · rw [if_pos h]
    exact dec_arg s a h w
  · rw [if_neg h]
    exact dec_in s a (by omega) (by omega) hm w ht

end Go.Proofs.YtneclfaamgfoeaaDoor

/- The machine: threads over one memory, each with stores that wait. No walk. -/
namespace Go.Proofs.YtneclfaamgfoeaaDoor.T
open Go.RowKit
set_option linter.unusedVariables false

abbrev Memo := Int → Option Int
/-- A word that is there is turned. -/
def upd (m : Memo) (x n : Int) : Memo := fun y => if y = x then (if (m x).isSome = true then some n else none) else m y
abbrev Wait := Int × Int
structure Th where
  c : S.C
  ws : List Wait
abbrev Ev := Int × Int × Int
structure Mach where
  code : ByteArray
  mem : Memo
  ts : List Th
  es : List Ev

def noC : S.C := ⟨0, 0, 0, 0, 0, 0, 0, 0, 0, 0, 0⟩
def noTh : Th := ⟨noC, []⟩
def Mach.th (M : Mach) (k : Nat) : Th := M.ts.getD k noTh
def Mach.put (M : Mach) (k : Nat) (m : Memo) (h : Th) : Mach := { M with mem := m, ts := M.ts.set k h }
def Mach.see (M : Mach) (k : Nat) (kind n : Int) : Mach := { M with es := M.es ++ [((k : Int), kind, n)] }
def upds (m : Memo) (ws : List Wait) : Memo := ws.foldl (fun m p => upd m p.1 p.2) m
def newest (ws : List Wait) (x : Int) : Option Int := (ws.reverse.find? fun p => p.1 == x).map (·.2)
/-- The oldest store leaves. -/
def leave (M : Mach) (k : Nat) : Mach :=
  match (M.th k).ws with
  | [] => M
  | p :: r => M.put k (upd M.mem p.1 p.2) ⟨(M.th k).c, r⟩
def leaves (M : Mach) (k : Nat) : Bool := !(M.th k).ws.isEmpty
def drain (M : Mach) (k : Nat) : Mach := M.put k (upds M.mem (M.th k).ws) ⟨(M.th k).c, []⟩
/-- A store that waits from now on. -/
def push (M : Mach) (k : Nat) (a v : Int) : Mach := M.put k M.mem ⟨(M.th k).c, (M.th k).ws ++ [(a, v)]⟩
def full (M : Mach) (k : Nat) : Mach := if (M.th k).ws.length = 8 then leave M k else M
def setC (M : Mach) (k : Nat) (c : S.C) : Mach := M.put k M.mem ⟨c, (M.th k).ws⟩
def swap (M : Mach) (k : Nat) (a v : Int) : Mach := { drain M k with mem := upd (drain M k).mem a v }
/-- Whether there is such a word. -/
def er (o : Option Int) : Int :=
  match o with
  | some _ => 0
  | none => 11
def has {α : Type} (o : Option Int) (x y : α) : α :=
  match o with
  | some _ => x
  | none => y
/-- What memory does of a request, what it answers, and whether it can. -/
def ansM (M : Mach) (k : Nat) (q : S.Q) : Mach :=
  if q.k = 2 then has (M.mem q.a) (push (full M k) k q.a q.v) M
  else if q.k = 3 then has (M.mem q.a) (swap M k q.a q.v) M
  else if q.k = 4 then has (M.mem q.a) (swap M k q.a (wrap64 (((drain M k).mem q.a).getD 0 + q.v))) M
  else if q.k = 5 then drain M k
  else if q.k = 6 then M.see k 1 q.v
  else M
def ld (M : Mach) (k : Nat) (a : Int) : Option Int := (newest (M.th k).ws a).or (M.mem a)
def ansN (M : Mach) (k : Nat) (q : S.Q) : Int :=
  if q.k = 1 then (ld M k q.a).getD 0
  else if q.k = 3 ∨ q.k = 4 then has (M.mem q.a) (((drain M k).mem q.a).getD 0) 0
  else 0
def ansE (M : Mach) (k : Nat) (q : S.Q) : Int :=
  if q.k = 1 then er (ld M k q.a)
  else if q.k = 2 ∨ q.k = 3 ∨ q.k = 4 then er (M.mem q.a)
  else 0
/-- The instruction at a place of the code. -/
def decOk (s : ByteArray) (at' : Int) : Bool := decide (0 ≤ at' ∧ at' ≤ (s.size : Int)) && I.dOk (I.cut s at')
def iC (c : S.C) (s : ByteArray) : S.C := S.startC c (I.hd s) (I.dA s) (I.dB s) (I.dN s) (I.psize (I.hd s))
def iQ (c : S.C) (s : ByteArray) : S.Q := S.startQ c (I.hd s) (I.dA s) (I.dB s) (I.dN s) (I.psize (I.hd s))
def trapC (c : S.C) (n : Int) : S.C := { c with st := 2, tr := n }
def plc (M : Mach) (k : Nat) : Int := wrap64 ((M.th k).c.pc - 4096)
def doIns (M : Mach) (k : Nat) : Mach :=
  if decOk M.code (plc M k) = true then
    (if ansE M k (iQ (M.th k).c (I.cut M.code (plc M k))) = 0 then
      setC (ansM M k (iQ (M.th k).c (I.cut M.code (plc M k)))) k (S.finish (iC (M.th k).c (I.cut M.code (plc M k))) (iQ (M.th k).c (I.cut M.code (plc M k))).k (iQ (M.th k).c (I.cut M.code (plc M k))).r (ansN M k (iQ (M.th k).c (I.cut M.code (plc M k)))))
    else setC M k (trapC (M.th k).c 2))
  else setC M k (trapC (M.th k).c 3)
def seen (M : Mach) (k : Nat) : Mach :=
  if (M.th k).c.st = 1 then M.see k 2 0 else if (M.th k).c.st = 2 then M.see k 3 (M.th k).c.tr else M
def goOn (M : Mach) (k : Nat) : Mach := if (M.th k).c.st = 0 then seen (doIns M k) k else M
def went (M : Mach) (k : Nat) : Bool := decide ((M.th k).c.st = 0)
/-- A pick. -/
def pk (pick : Int) : Int := if pick < 0 then -1 - pick else pick
def who (M : Mach) (pick : Int) : Nat := (pk pick / 2 % (M.ts.length : Int)).toNat
def act (M : Mach) (pick : Int) : Mach := if pk pick % 2 = 0 then goOn M (who M pick) else leave M (who M pick)
def did (M : Mach) (pick : Int) : Bool := if pk pick % 2 = 0 then went M (who M pick) else leaves M (who M pick)
def runs (M : Mach) (l : List Int) : Mach := l.foldl act M
/-- A new machine. -/
def mem0 (data : List Int) (n : Nat) : Memo := fun x =>
  if x % 8 = 0 then
    (if 1048576 ≤ x ∧ x < 1048576 + 8 * (data.length : Int) then some (data.getD ((x - 1048576) / 8).toNat 0)
    else if 2097152 ≤ x ∧ x < 2097152 + 65536 * (n : Int) then some 0 else none)
  else none
def th0 (i : Nat) (at' : Int) : Th := ⟨{ noC with pc := wrap64 (4096 + at'), r7 := 2097152 + 65536 * ((i : Int) + 1) }, []⟩
def ths0 : Nat → List Int → List Th
  | _, [] => []
  | i, a :: l => th0 i a :: ths0 (i + 1) l
def mach0 (code : ByteArray) (data : List Int) (starts : List Int) : Mach := ⟨code, mem0 data starts.length, ths0 0 starts, []⟩
def mayRun (code : ByteArray) (dlen : Nat) (starts : List Int) : Bool :=
  decide (1 ≤ starts.length ∧ starts.length ≤ 4 ∧ code.size ≤ 65536 ∧ dlen ≤ 4096) && starts.all fun a => decide (0 ≤ a ∧ a < (code.size : Int))

theorem th_put {M : Mach} {k : Nat} (h : k < M.ts.length) (m : Memo) (x : Th) : (M.put k m x).th k = x := by
  unfold Mach.th Mach.put
  simp [List.getD, h]
theorem len_put (M : Mach) (k : Nat) (m : Memo) (x : Th) : (M.put k m x).ts.length = M.ts.length := by simp [Mach.put]
theorem put_put (M : Mach) (k : Nat) (m n : Memo) (x y : Th) : (M.put k m x).put k n y = M.put k n y := by simp [Mach.put]
theorem put_same {M : Mach} {k : Nat} (h : k < M.ts.length) : M.put k M.mem (M.th k) = M := by
  unfold Mach.th Mach.put
  simp [List.getD, h]
theorem th_at {M : Mach} {k : Nat} (h : k < M.ts.length) : M.ts[k]? = some (M.th k) := by
  unfold Mach.th
  simp [List.getD, h]
theorem upds_snoc (m : Memo) (ws : List Wait) (p : Wait) : upds m (ws ++ [p]) = upd (upds m ws) p.1 p.2 := by simp [upds]
theorem upd_some (m : Memo) (x n y : Int) : (upd m x n y).isSome = (m y).isSome := by
  unfold upd
  by_cases e : y = x
  · subst e
    rw [if_pos rfl]
    cases h : (m y).isSome <;> simp
  · rw [if_neg e]
theorem upds_some (ws : List Wait) : ∀ (m : Memo) (y : Int), (upds m ws y).isSome = (m y).isSome := by
  induction ws with
  | nil => intro m y; rfl
  | cons p r ih => intro m y; exact (ih (upd m p.1 p.2) y).trans (upd_some m p.1 p.2 y)

end Go.Proofs.YtneclfaamgfoeaaDoor.T

/- Sets of numbers, lists that rise, footprints: no program in sight. -/
namespace Go.Proofs.YtneclfaamgfoeaaDoor.M
open Go.RowKit Go.Maps

/-- A set of numbers, as a map reads. -/
def set (l : List Int) : DataW Unit := setOf (.agg []) (l.map (Lit.int .i64))

theorem set_snoc (l : List Int) (x : Int) : set (l ++ [x]) = (set l).put (.int .i64 x) (.agg []) := by
  unfold set
  rw [List.map_append, List.map_cons, List.map_nil, setOf_snoc]

/-- Is a number in both lists? -/
def meets (a b : List Int) : Bool := b.any fun x => a.contains x

end Go.Proofs.YtneclfaamgfoeaaDoor.M

/- What mem.meet, mem.Clash and few come to. -/
namespace Go.Proofs.YtneclfaamgfoeaaDoor
open Go.RowKit Go.Maps

/-- A list of numbers that lies somewhere. -/
structure View (w : World) (a : Option Addr) (len cap : Nat) (zs : List Int) : Prop where
  count : zs.length = len
  fits : ∀ n ∈ zs, (Lit.int .i64 n).wf = true
  nilOf : a = none → len = 0 ∧ cap = 0
  cells : len = 0 ∨ ∃ b off, a = some ⟨b, off, none⟩ ∧ ∀ i, i < len → w.cell? ⟨b, off + i, none⟩ = some (.int .i64 (zs.getD i 0))

theorem View.below {w w1 : World} {a : Option Addr} {len cap : Nat} {zs : List Int} (h : View w a len cap zs) (hb : Below w.heap.size w w1) : View w1 a len cap zs := by
  refine ⟨h.count, h.fits, h.nilOf, ?_⟩
  rcases h.cells with h0 | ⟨b, off, ha, hc⟩
  · exact .inl h0
  · refine .inr ⟨b, off, ha, fun i hi => ?_⟩
    have hi' := hc i hi
    exact (hb.cell (p := ⟨b, off + i, none⟩) (World.block_lt_of_cell? w ⟨b, off + i, none⟩ hi')).trans hi'

theorem lawK : Keyed Tryd.prog 2 := int_keyed Tryd.underlying2

/-- A footprint as it is handed over. -/
structure FootV (w : World) (v : Value) (rs ws : List Int) : Prop where
  form : ∃ a l c a' l' c', v = .agg #[.slice a l c, .slice a' l' c'] ∧ View w a l c rs ∧ View w a' l' c' ws

theorem FootV.below {w w1 : World} {v : Value} {rs ws : List Int} (h : FootV w v rs ws) (hb : Below w.heap.size w w1) : FootV w1 v rs ws := by
  obtain ⟨a, l, c, a', l', c', hv, h1, h2⟩ := h.form
  exact ⟨a, l, c, a', l', c', hv, h1.below hb, h2.below hb⟩

theorem cell_last (w : World) (A : Array Value) (t g j : Nat) (hg : g = w.heap.size) {v : Value} (hv : A[j]? = some v) : (w.alloc (.cells A t)).cell? ⟨g, j, none⟩ = some v := by
  subst hg
  rw [← hv]
  simp

end Go.Proofs.YtneclfaamgfoeaaDoor
