/- The registers' byte, read. -/
import Derived.Test.YtmplnkfjaeegdaaDoorPInsA
import Derived.Deep.QuietTactic
import Derived.BigQuiet
import Derived.Test.YtmplnkfjaeegdaaDoorPWord
import Derived.Deep.RegionHeld3
import Derived.Deep.DrawnRows
import Derived.Laws.StructEq
import Derived.Deep.LoopGhost
import Derived.Deep.AppendLies
namespace Go.Proofs.YtmplnkfjaeegdaaDoor
set_option maxRecDepth 100000
open Go.RowKit
set_option linter.unusedVariables false

theorem retIIB {k l : IntKind} {a b c d : Int} {x y : Bool} (h : a = c) (h' : b = d) (h2 : x = y) : Ending.returned (.tuple #[.int k a, .int l b, .bool x]) = .returned (.tuple #[.int k c, .int l d, .bool y]) := by rw [h, h', h2]

theorem bl_drewNI {B : Nat} {x y : World} (h : Below B x y) (m : Nat) : Below B x (y.drewN m) := ⟨h.os, h.tape, h.output, h.size, h.block⟩

set_option maxHeartbeats 8000000 in
theorem rregs_0 (m : Int) (t : Bool) (s : ByteArray) (w : World) :
    Calls Tryd.prog 98 #[formW 0 m t, .string s] w fun e w' => e = .returned (.tuple #[.int .i64 0, .int .i64 0, .bool true]) ∧ Below w.heap.size w w' := by
  have h0 : I.isr 0 = true := by decide
  go_enter Tryd.func98, Tryd.ntmps98
  go_wp2_with (go_at_call 108; refine (isregI_any _ _).mono ?_; rintro e w' ⟨rfl, rfl⟩)
  go_ret3
  exact ⟨retIIB rfl rfl h0, bl1 _ _⟩

set_option maxHeartbeats 8000000 in
theorem rregs_1 (m : Int) (t : Bool) (s : ByteArray) (hs : 0 < s.size) (w : World) :
    Calls Tryd.prog 98 #[formW 1 m t, .string s] w fun e w' => e = .returned (.tuple #[.int .i64 (s[0].toNat : Int), .int .i64 0, .bool (I.isr (s[0].toNat : Int))]) ∧ Below w.heap.size w w' := by
  have h0 : I.isr 0 = true := by decide
  have hb : (s[0].toNat : Int) ≤ 255 := by have := s[0].toNat_lt; omega
  cases hi : I.isr (s[0].toNat : Int)
  all_goals
    go_enter Tryd.func98, Tryd.ntmps98
    go_wp2_with (go_at_call 108; refine (isregI_any _ _).mono ?_; rintro e w' ⟨rfl, rfl⟩)
    go_ret3
    exact ⟨retIIB rfl rfl (by first | rfl | exact h0), bl1 _ _⟩

set_option maxHeartbeats 8000000 in
theorem rregs_2 (m : Int) (t : Bool) (s : ByteArray) (hs : 0 < s.size) (w : World) :
    Calls Tryd.prog 98 #[formW 2 m t, .string s] w fun e w' => e = .returned (.tuple #[.int .i64 ((s[0].toNat : Int) / 16), .int .i64 ((s[0].toNat : Int) % 16), .bool (I.isr ((s[0].toNat : Int) / 16) && I.isr ((s[0].toNat : Int) % 16))]) ∧ Below w.heap.size w w' := by
  have hb : (s[0].toNat : Int) ≤ 255 := by have := s[0].toNat_lt; omega
  cases hi : I.isr ((s[0].toNat : Int) / 16)
  all_goals
    go_enter Tryd.func98, Tryd.ntmps98
    go_wp2_with fail
    go_quiet (fail)
    go_wp2_with (go_at_call 108; refine (isregI_any _ _).mono ?_; rintro e w' ⟨rfl, rfl⟩)
    go_ret3
    exact ⟨retIIB rfl rfl (by first | rfl | (simp; done)), bl_drewNI (bl1 _ _) _⟩

end Go.Proofs.YtmplnkfjaeegdaaDoor

/- The instruction with whose form bytes begin: no walk. -/
namespace Go.Proofs.YtmplnkfjaeegdaaDoor.I
set_option maxRecDepth 100000
open Go.RowKit

/-- The first byte, as a number. -/
def hd (s : ByteArray) : Int := (W.tail s 0).headD 0
theorem hd_eq (s : ByteArray) (h : 0 < s.size) : hd s = (s[0].toNat : Int) := by
  unfold hd; rw [W.tail_cons s 0 h]; rfl
/-- What the registers' byte says, and the number's bytes. -/
def rA (r : Int) (s : ByteArray) : Int := if r = 0 then 0 else if r = 1 then hd s else hd s / 16
def rB (r : Int) (s : ByteArray) : Int := if r = 2 then hd s % 16 else 0
def rdN (m : Int) (s : ByteArray) : Int := if m = 0 then 0 else W.numV s
def rdOk (m : Int) (t : Bool) (s : ByteArray) : Bool := if m = 0 then true else W.numE s == 0 && (decide (0 ≤ W.numV s) || !t)

end Go.Proofs.YtmplnkfjaeegdaaDoor.I

/- ins.read. -/
namespace Go.Proofs.YtmplnkfjaeegdaaDoor
set_option maxRecDepth 100000
open Go.RowKit
set_option linter.unusedVariables false
attribute [local go_sem ↓] Go.wp_at_zero Go.wp_at_succ

theorem rregs_any (r m : Int) (hr : r = 0 ∨ r = 1 ∨ r = 2) (t : Bool) (s : ByteArray) (hs : ¬ r = 0 → 0 < s.size) (w : World) :
    Calls Tryd.prog 98 #[formW r m t, .string s] w fun e w' => e = .returned (.tuple #[.int .i64 (I.rA r s), .int .i64 (I.rB r s), .bool (I.isr (I.rA r s) && I.isr (I.rB r s))]) ∧ Below w.heap.size w w' := by
  rcases hr with rfl | rfl | rfl
  · exact rregs_0 m t s w
  · have h := rregs_1 m t s (hs (by decide)) w
    rw [← I.hd_eq s (hs (by decide))] at h
    refine h.mono ?_
    rintro e w' ⟨rfl, hb⟩
    have h0 : I.isr 0 = true := by decide
    exact ⟨retIIB rfl rfl (by simp [I.rA, I.rB, h0]), hb⟩
  · have h := rregs_2 m t s (hs (by decide)) w
    rw [← I.hd_eq s (hs (by decide))] at h
    exact h

theorem rnum_any (r m : Int) (t : Bool) (s : ByteArray) (w : World) :
    Calls Tryd.prog 99 #[formW r m t, .string s] w fun e w' => e = .returned (.tuple #[.int .i64 (I.rdN m s), .bool (I.rdOk m t s)]) ∧ Below w.heap.size w w' := by
  unfold I.rdN I.rdOk
  by_cases h : m = 0
  · subst h
    rw [if_pos rfl, if_pos rfl]
    refine (rnum_0 r t s w).mono ?_
    rintro e w' ⟨rfl, rfl⟩
    exact ⟨rfl, bl1 _ _⟩
  · rw [if_neg h, if_neg h]
    exact rnum_m r m t s h w

theorem bl5d (w : World) (a b c d e : Obj) : Below w.heap.size w (((((w.alloc a).alloc b).alloc c).alloc d).alloc e).drew.drew :=
  (((bl3 w a b c).alloc (by simp; omega) d).alloc (by simp; omega) e).drew.drew
theorem sz5d (w : World) (a b c d e : Obj) : w.heap.size ≤ ((((((w.alloc a).alloc b).alloc c).alloc d).alloc e).drew.drew).heap.size := by
  show w.heap.size ≤ (((((w.alloc a).alloc b).alloc c).alloc d).alloc e).heap.size
  simp; omega
theorem fz5d (w : World) (a b c d e : Array Value) (t u v x y : TypeId) (o : Nat) : ((((((w.alloc (.cells a t)).alloc (.cells b u)).alloc (.cells c v)).alloc (.cells d x)).alloc (.cells e y)).drew.drew).frozen? ⟨w.heap.size, o, none⟩ = false := by
  show (((((w.alloc (.cells a t)).alloc (.cells b u)).alloc (.cells c v)).alloc (.cells d x)).alloc (.cells e y)).frozen? ⟨w.heap.size, o, none⟩ = false
  rw [frozen?_alloc_cells, frozen?_alloc_cells, frozen?_alloc_cells, frozen?_alloc_cells]
  exact World.frozen?_alloc_at a t _ _ rfl

/-- Such bounds cut a string. -/
def SlOk (s : ByteArray) (i j : Int) : Prop := 0 ≤ i ∧ i ≤ j ∧ j ≤ (s.size : Int)
theorem run_slice_ok (s : ByteArray) (i j : Int) (w' : World) (h : SlOk s i j) : (Instr.slice 9 (.string s) (some (.int .i64 i)) (some (.int .i64 j)) none).run Tryd.prog w' = .ok (.string (s.extract i.toNat j.toNat)) w' := by
  rw [run_slice_string_if w' 9 s .i64 .i64 i j Tryd.underlying9, if_pos ⟨by have := h.1; have := h.2.1; omega, h.2.2⟩, if_pos ⟨h.1, h.2.1⟩]
attribute [local go_sem high] run_slice_ok

/-- What read answers. -/
abbrev rdNo : Value := .tuple #[insW 0 0 0 0, .int .i64 0, .bool false]
def rdRes (op z a b n : Int) (y : Bool) : Value := if (I.isr a && I.isr b) = true then (if y = true then .tuple #[insW op a b n, .int .i64 z, .bool true] else rdNo) else rdNo


set_option maxRecDepth 100000 in
set_option maxHeartbeats 8000000 in
theorem read_empty (s : ByteArray) (hs : s.size = 0) (w : World) :
    Calls Tryd.prog 70 #[.string s] w fun e w' => e = .returned rdNo ∧ Below w.heap.size w w' := by
  obtain rfl : s = { data := #[] } := by
    obtain ⟨d⟩ := s
    simp [ByteArray.size] at hs
    subst hs; rfl
  go_enter Tryd.func70, Tryd.ntmps70
  go_wp2
  exact bodyPost_ret (v := rdNo) (by simp [results, Tryd.results70, go_sem]) rfl ⟨rfl, bl1 _ _⟩

theorem ne_empty {s : ByteArray} (hs : 0 < s.size) : s.toList.isEmpty = false := by
  rw [ByteArray.toList_eq]
  cases hl : s.data.toList with
  | nil => have := congrArg List.length hl; simp at this; simp [this] at hs
  | cons _ _ => rfl

set_option maxRecDepth 100000 in
set_option maxHeartbeats 8000000 in
theorem read_none (s : ByteArray) (hs : 0 < s.size) (h : I.hd s < 1 ∨ 33 < I.hd s) (w : World) (ht : Tab w) :
    Calls Tryd.prog 70 #[.string s] w fun e w' => e = .returned rdNo ∧ Below w.heap.size w w' := by
  have hne := ne_empty hs
  rw [I.hd_eq s hs] at h
  have hb : (s[0].toNat : Int) ≤ 255 := by have := s[0].toNat_lt; omega
  go_enter Tryd.func70, Tryd.ntmps70
  go_wp2_with (go_at_call 96; refine (formOf_no _ h _ (ht.alloc _)).mono ?_; rintro e w' ⟨rfl, rfl⟩)
  exact bodyPost_ret (v := rdNo) (by simp [results, Tryd.results70, go_sem]) rfl ⟨rfl, bl3 _ _ _ _⟩


set_option maxRecDepth 100000 in
set_option maxHeartbeats 8000000 in
theorem read_short (op : Int) (s : ByteArray) (hs : 0 < s.size) (ho : (s[0].toNat : Int) = op) (h : 1 ≤ op ∧ op ≤ 33) (hz : (s.size : Int) < I.psize op) (w : World) (ht : Tab w) :
    Calls Tryd.prog 70 #[.string s] w fun e w' => e = .returned rdNo ∧ Below w.heap.size w w' := by
  have hne := ne_empty hs
  have HF : Hid (∀ w, Tab w → Calls Tryd.prog 96 #[.int .i64 op] w fun e w' => e = .returned (.tuple #[.agg #[.int .i64 (I.regs op), .int .i64 (I.num op), .bool (I.nat op)], .bool true]) ∧ w' = w.alloc (.cells #[.int .i64 (I.regs op), .int .i64 (I.num op), .bool (I.nat op)] 159)) := formOf_yes op h
  have hrr := I.regs_range op
  have hmr := I.num_range op
  unfold I.psize at hz
  generalize I.regs op = r at *
  generalize I.num op = m at *
  generalize I.nat op = t at *
  obtain ⟨z, hzz⟩ : ∃ z, (if r = 0 then 1 + m else 2 + m) = z := ⟨_, rfl⟩
  have HZ : Hid ((if r = 0 then 1 + m else 2 + m) = z) := hzz
  rw [hzz] at hz
  clear hzz
  go_enter Tryd.func70, Tryd.ntmps70
  go_wp2_with (first | (go_at_call 96; refine (HF.out _ (ht.alloc _)).mono ?_; rintro e w' ⟨rfl, rfl⟩) | (go_at_call 97; refine (fsize_any _ _ _ hrr hmr _).mono ?_; rintro e w' ⟨rfl, rfl⟩; rw [HZ.out]))
  exact bodyPost_ret (v := rdNo) (by simp [results, Tryd.results70, go_sem]) rfl ⟨rfl, (bl3 _ _ _ _).alloc (by simp; omega) _⟩

set_option maxRecDepth 100000 in
set_option maxHeartbeats 8000000 in
theorem read_go (op : Int) (s : ByteArray) (hs : 0 < s.size) (ho : (s[0].toNat : Int) = op) (h : 1 ≤ op ∧ op ≤ 33) (hz : I.psize op ≤ (s.size : Int)) (w : World) (ht : Tab w) :
    Calls Tryd.prog 70 #[.string s] w fun e w' => e = .returned (rdRes op (I.psize op) (I.rA (I.regs op) (s.extract 1 (I.psize op - I.num op).toNat)) (I.rB (I.regs op) (s.extract 1 (I.psize op - I.num op).toNat)) (I.rdN (I.num op) (s.extract (I.psize op - I.num op).toNat (I.psize op).toNat)) (I.rdOk (I.num op) (I.nat op) (s.extract (I.psize op - I.num op).toNat (I.psize op).toNat))) ∧ Below w.heap.size w w' := by
  have hne := ne_empty hs
  have HF : Hid (∀ w, Tab w → Calls Tryd.prog 96 #[.int .i64 op] w fun e w' => e = .returned (.tuple #[.agg #[.int .i64 (I.regs op), .int .i64 (I.num op), .bool (I.nat op)], .bool true]) ∧ w' = w.alloc (.cells #[.int .i64 (I.regs op), .int .i64 (I.num op), .bool (I.nat op)] 159)) := formOf_yes op h
  have hrr := I.regs_range op
  have hmr := I.num_range op
  unfold I.psize at hz
  unfold I.psize
  generalize I.regs op = r at *
  generalize I.num op = m at *
  generalize I.nat op = t at *
  obtain ⟨z, hzz⟩ : ∃ z : Int, (if r = 0 then 1 + m else 2 + m) = z := ⟨_, rfl⟩
  have HZ : Hid ((if r = 0 then 1 + m else 2 + m) = z) := hzz
  rw [hzz] at hz
  rw [hzz]
  obtain ⟨k, hkk⟩ : ∃ k : Int, k = z - m := ⟨_, rfl⟩
  have hk0 : 0 ≤ k := by rw [hkk, ← hzz]; split <;> omega
  have hk1 : 1 ≤ k := by rw [hkk, ← hzz]; split <;> omega
  have hkz : k ≤ z := by rw [hkk]; omega
  have hks : k ≤ (s.size : Int) := by omega
  have hz0 : 0 ≤ z := by omega
  have hz10 : z ≤ 10 := by rw [← hzz]; split <;> omega
  have hwk : IntKind.i64.wrap k = k := by rw [IntKind.wrap_i64]; omega
  have hrs : ¬ r = 0 → 0 < (s.extract 1 k.toNat).size := by
    intro h0
    rw [if_neg h0] at hzz
    simp
    omega
  have hsz : ¬ (s.size : Int) < z := by omega
  rw [← hkk]
  obtain ⟨a, ha⟩ : ∃ a, I.rA r (s.extract 1 k.toNat) = a := ⟨_, rfl⟩
  obtain ⟨b, hb⟩ : ∃ b, I.rB r (s.extract 1 k.toNat) = b := ⟨_, rfl⟩
  obtain ⟨n, hn⟩ : ∃ n, I.rdN m (s.extract k.toNat z.toNat) = n := ⟨_, rfl⟩
  obtain ⟨y, hy⟩ : ∃ y, I.rdOk m t (s.extract k.toNat z.toNat) = y := ⟨_, rfl⟩
  obtain ⟨x, hx⟩ : ∃ x, (I.isr a && I.isr b) = x := ⟨_, rfl⟩
  have HA : Hid (I.rA r (s.extract 1 k.toNat) = a) := ha
  have HB : Hid (I.rB r (s.extract 1 k.toNat) = b) := hb
  have HN : Hid (I.rdN m (s.extract k.toNat z.toNat) = n) := hn
  have HY : Hid (I.rdOk m t (s.extract k.toNat z.toNat) = y) := hy
  have HX : Hid ((I.isr a && I.isr b) = x) := hx
  rw [ha, hb, hn, hy]
  unfold rdRes
  rw [hx]
  clear ha hb hn hy hx
  have hsl1 : SlOk s 1 k := ⟨by omega, hk1, hks⟩
  have hsl2 : SlOk s k z := ⟨by omega, hkz, hz⟩
  clear hzz
  go_enter Tryd.func70, Tryd.ntmps70
  go_wp2_with (first | (go_at_call 96; refine (HF.out _ (ht.alloc _)).mono ?_; rintro e w' ⟨rfl, rfl⟩) | (go_at_call 97; refine (fsize_any _ _ _ hrr hmr _).mono ?_; rintro e w' ⟨rfl, rfl⟩; rw [HZ.out]))
  go_region_held3 (fun w' => w'.cell? ⟨w.heap.size + 1 + 1, 0, none⟩ = some (.int .i64 r) ∧ w'.cell? ⟨w.heap.size + 1 + 1, 1, none⟩ = some (.int .i64 m) ∧ w'.cell? ⟨w.heap.size + 1 + 1, 2, none⟩ = some (.bool t)) (first | (refine ⟨?_, ?_, ?_⟩ <;> (simp (disch := (first | ((try simp only [World.size_alloc]) <;> omega) | fail)) only [World.cell?_drew, World.cell?_alloc_at, World.cell?_alloc_past] <;> rfl))) (first | (go_at_call 97; refine (fsize_any _ _ _ hrr hmr _).mono ?_; rintro e w' ⟨rfl, rfl⟩; rw [HZ.out]))
  go_wp2_with fail
  rw [← hkk, hwk]
  have HK : Hid (k = z - m) := hkk
  clear hkk
  go_region_held3 (fun w' => w'.cell? ⟨w.heap.size + 1 + 1, 0, none⟩ = some (.int .i64 r) ∧ w'.cell? ⟨w.heap.size + 1 + 1, 1, none⟩ = some (.int .i64 m) ∧ w'.cell? ⟨w.heap.size + 1 + 1, 2, none⟩ = some (.bool t)) (first | (refine ⟨?_, ?_, ?_⟩ <;> (simp (disch := (first | ((try simp only [World.size_alloc, World.size_drew]) <;> omega) | fail)) only [World.cell?_drew, World.cell?_alloc_at, World.cell?_alloc_past] <;> rfl)) | (refine ⟨?_, ?_, ?_⟩ <;> (simp (disch := (first | ((try simp only [World.size_alloc, World.size_drew]) <;> omega) | fail)) only [hc1, World.cell?_drew, World.cell?_alloc_at, World.cell?_alloc_past] <;> rfl))) (first | (go_at_call 98; refine (rregs_any _ _ hrr _ _ ?_ _).mono ?_; exact hrs; rintro e w1 ⟨rfl, hb1⟩; rw [HA.out, HB.out, HX.out]; obtain ⟨hc1, hf1⟩ := bcell hb1; have hz1 := hb1.size; simp at hz1))
  have kf0 : w1.cell? ⟨w.heap.size + 1 + 1, 0, none⟩ = some (.int .i64 r) := by
    simp (disch := (first | ((try simp only [World.size_alloc, World.size_drew]) <;> omega) | fail)) only [hc1, World.cell?_drew, World.cell?_alloc_at, World.cell?_alloc_past] <;> rfl
  have kf1 : w1.cell? ⟨w.heap.size + 1 + 1, 1, none⟩ = some (.int .i64 m) := by
    simp (disch := (first | ((try simp only [World.size_alloc, World.size_drew]) <;> omega) | fail)) only [hc1, World.cell?_drew, World.cell?_alloc_at, World.cell?_alloc_past] <;> rfl
  have kf2 : w1.cell? ⟨w.heap.size + 1 + 1, 2, none⟩ = some (.bool t) := by
    simp (disch := (first | ((try simp only [World.size_alloc, World.size_drew]) <;> omega) | fail)) only [hc1, World.cell?_drew, World.cell?_alloc_at, World.cell?_alloc_past] <;> rfl
  have ki : ∀ o, w1.cell? ⟨w.heap.size, o, none⟩ = (#[.int .i64 0, .int .i64 0, .int .i64 0, .int .i64 0] : Array Value)[o]? := fun o => by
    simp (disch := (first | ((try simp only [World.size_alloc, World.size_drew]) <;> omega) | fail)) only [hc1, World.cell?_drew, World.cell?_alloc_at, World.cell?_alloc_past]
  have kz : ∀ o, w1.frozen? ⟨w.heap.size, o, none⟩ = false := fun o => (hf1 _ _ (by simp; omega)).trans (fz5d _ _ _ _ _ _ _ _ _ _ _ _)
  have q1 : Below w.heap.size w w1 := (bl5d _ _ _ _ _ _).trans (hb1.mono (sz5d _ _ _ _ _ _))
  clear hc1 hf1 hb1
  cases x with
  | false =>
    go_wp2
    refine bodyPost_ret (v := rdNo) (by simp [results, Tryd.results70, go_sem, ki]) rfl ⟨rfl, ?_⟩
    repeat (refine Below.setCell ?_ (by simp) _)
    exact q1
  | true =>
    have zf : w.heap.size + 1 + 1 < w1.heap.size := by omega
    have zi : w.heap.size < w1.heap.size := by omega
    generalize w.heap.size + 1 + 1 = bf at *
    go_wp2_with fail
    go_region_held3 (fun w' => w'.cell? ⟨bf, 0, none⟩ = some (.int .i64 r) ∧ w'.cell? ⟨bf, 1, none⟩ = some (.int .i64 m) ∧ w'.cell? ⟨bf, 2, none⟩ = some (.bool t)) (first | (exact ⟨kf0, kf1, kf2⟩) | (refine ⟨?_, ?_, ?_⟩ <;> (simp (disch := (first | ((try simp only [World.size_alloc, World.size_drew]) <;> omega) | fail)) only [World.cell?_drew, World.cell?_alloc_past] <;> assumption)) | (refine ⟨?_, ?_, ?_⟩ <;> (simp (disch := (first | ((try simp only [World.size_alloc, World.size_drew]) <;> omega) | fail)) only [hc2, World.cell?_drew, World.cell?_alloc_past] <;> assumption))) (first | (go_at_call 97; refine (fsize_any _ _ _ hrr hmr _).mono ?_; rintro e w' ⟨rfl, rfl⟩; rw [HZ.out]) | (go_at_call 99; refine (rnum_any _ _ _ _ _).mono ?_; rintro e w2 ⟨rfl, hb2⟩; rw [HN.out, HY.out]; obtain ⟨hc2, hf2⟩ := bcell hb2; have hz2 := hb2.size; simp at hz2))
    have ki2 : ∀ o, w2.cell? ⟨w.heap.size, o, none⟩ = (#[.int .i64 0, .int .i64 0, .int .i64 0, .int .i64 0] : Array Value)[o]? := fun o => by
      rw [← ki o]
      simp (disch := (first | ((try simp only [World.size_alloc, World.size_drew]) <;> omega) | fail)) only [hc2, World.cell?_drew, World.cell?_alloc_past]
    have kz2 : ∀ o, w2.frozen? ⟨w.heap.size, o, none⟩ = false := fun o => by
      rw [hf2 _ _ (by simp; omega)]
      exact (World.frozen?_alloc_past (w := w1) _ _ _ zi).trans (kz o)
    have kg0 : w2.cell? ⟨bf, 0, none⟩ = some (.int .i64 r) := by
      simp (disch := (first | ((try simp only [World.size_alloc, World.size_drew]) <;> omega) | fail)) only [hc2, World.cell?_drew, World.cell?_alloc_past] <;> assumption
    have kg1 : w2.cell? ⟨bf, 1, none⟩ = some (.int .i64 m) := by
      simp (disch := (first | ((try simp only [World.size_alloc, World.size_drew]) <;> omega) | fail)) only [hc2, World.cell?_drew, World.cell?_alloc_past] <;> assumption
    have kg2 : w2.cell? ⟨bf, 2, none⟩ = some (.bool t) := by
      simp (disch := (first | ((try simp only [World.size_alloc, World.size_drew]) <;> omega) | fail)) only [hc2, World.cell?_drew, World.cell?_alloc_past] <;> assumption
    have q2 : Below w.heap.size w w2 := (q1.drew.alloc (by show w.heap.size ≤ w1.heap.size; omega) _).trans (hb2.mono (by simp; omega))
    clear hc2 hf2 hb2 ki kz kf0 kf1 kf2
    have zf2 : bf < w2.heap.size := by omega
    have zi2 : w.heap.size < w2.heap.size := by omega
    cases y with
    | false =>
      go_wp2
      refine bodyPost_ret (v := rdNo) (by simp [results, Tryd.results70, go_sem, ki2]) rfl ⟨rfl, ?_⟩
      repeat (refine Below.setCell ?_ (by simp) _)
      exact q2
    | true =>
      go_wp2_with (go_at_call 97; refine (fsize_any _ _ _ hrr hmr _).mono ?_; rintro e w' ⟨rfl, rfl⟩; rw [HZ.out])
      refine bodyPost_ret (v := .tuple #[insW op a b n, .int .i64 z, .bool true]) (by simp [results, Tryd.results70, go_sem, ki2, zi2]) rfl ⟨rfl, ?_⟩
      refine Below.alloc ?_ (by simp; omega) _
      repeat (refine Below.setCell ?_ (by simp) _)
      exact q2

/-- The instruction with whose form bytes begin. -/
def I.kAt (op : Int) : Nat := (I.psize op - I.num op).toNat
def I.dA (s : ByteArray) : Int := I.rA (I.regs (I.hd s)) (s.extract 1 (I.kAt (I.hd s)))
def I.dB (s : ByteArray) : Int := I.rB (I.regs (I.hd s)) (s.extract 1 (I.kAt (I.hd s)))
def I.dS (s : ByteArray) : ByteArray := s.extract (I.kAt (I.hd s)) (I.psize (I.hd s)).toNat
def I.dN (s : ByteArray) : Int := I.rdN (I.num (I.hd s)) (I.dS s)
def I.dOk (s : ByteArray) : Bool := decide (0 < s.size ∧ 1 ≤ I.hd s ∧ I.hd s ≤ 33 ∧ I.psize (I.hd s) ≤ (s.size : Int)) && ((I.isr (I.dA s) && I.isr (I.dB s)) && I.rdOk (I.num (I.hd s)) (I.nat (I.hd s)) (I.dS s))
def rdV (s : ByteArray) : Value := if I.dOk s = true then .tuple #[insW (I.hd s) (I.dA s) (I.dB s) (I.dN s), .int .i64 (I.psize (I.hd s)), .bool true] else rdNo

theorem iread_any (s : ByteArray) (w : World) (ht : Tab w) :
    Calls Tryd.prog 70 #[.string s] w fun e w' => e = .returned (rdV s) ∧ Below w.heap.size w w' := by
  by_cases hs : 0 < s.size
  · by_cases h : 1 ≤ I.hd s ∧ I.hd s ≤ 33
    · by_cases hz : I.psize (I.hd s) ≤ (s.size : Int)
      · refine (read_go (I.hd s) s hs (I.hd_eq s hs).symm h hz w ht).mono ?_
        rintro e w' ⟨rfl, hb⟩
        refine ⟨?_, hb⟩
        have e1 : decide (0 < s.size ∧ 1 ≤ I.hd s ∧ I.hd s ≤ 33 ∧ I.psize (I.hd s) ≤ (s.size : Int)) = true := decide_eq_true ⟨hs, h.1, h.2, hz⟩
        have e2 : I.dOk s = ((I.isr (I.dA s) && I.isr (I.dB s)) && I.rdOk (I.num (I.hd s)) (I.nat (I.hd s)) (I.dS s)) := by unfold I.dOk; rw [e1]; rfl
        congr 1
        unfold rdV
        rw [e2]
        show rdRes (I.hd s) (I.psize (I.hd s)) (I.dA s) (I.dB s) (I.dN s) (I.rdOk (I.num (I.hd s)) (I.nat (I.hd s)) (I.dS s)) = _
        unfold rdRes
        cases (I.isr (I.dA s) && I.isr (I.dB s)) <;> cases I.rdOk (I.num (I.hd s)) (I.nat (I.hd s)) (I.dS s) <;> rfl
      · have e1 : I.dOk s = false := by
          unfold I.dOk
          rw [decide_eq_false (by rintro ⟨-, -, -, h4⟩; exact hz h4)]
          rfl
        unfold rdV
        rw [if_neg (by rw [e1]; decide)]
        exact read_short (I.hd s) s hs (I.hd_eq s hs).symm h (by omega) w ht
    · have e1 : I.dOk s = false := by
        unfold I.dOk
        rw [decide_eq_false (by rintro ⟨-, h2, h3, -⟩; exact h ⟨h2, h3⟩)]
        rfl
      unfold rdV
      rw [if_neg (by rw [e1]; decide)]
      exact read_none s hs (by omega) w ht
  · have e1 : I.dOk s = false := by
      unfold I.dOk
      rw [decide_eq_false (by rintro ⟨h1, -⟩; exact hs h1)]
      rfl
    unfold rdV
    rw [if_neg (by rw [e1]; decide)]
    exact read_empty s (by omega) w

end Go.Proofs.YtmplnkfjaeegdaaDoor

/- ins.Decode. -/
namespace Go.Proofs.YtmplnkfjaeegdaaDoor
set_option maxRecDepth 100000
open Go.RowKit
set_option linter.unusedVariables false
attribute [local go_sem ↓] Go.wp_at_zero Go.wp_at_succ

abbrev decV (i : Value) (n e : Int) : Value := .tuple #[i, .int .i64 n, .int .i64 e]
/-- What Decode answers. -/
def I.cut (s : ByteArray) (at' : Int) : ByteArray := s.extract at'.toNat s.size
def I.decR (s : ByteArray) (at' : Int) : Value :=
  if at' < 0 ∨ (s.size : Int) < at' then decV (insW 0 0 0 0) 0 1
  else if I.dOk (I.cut s at') = true then decV (insW (I.hd (I.cut s at')) (I.dA (I.cut s at')) (I.dB (I.cut s at')) (I.dN (I.cut s at'))) (at' + I.psize (I.hd (I.cut s at'))) 0
  else decV (insW 0 0 0 0) 0 9

end Go.Proofs.YtmplnkfjaeegdaaDoor

/- What is written is read as it was, and what is read is written as it stood: no walk. -/
namespace Go.Proofs.YtmplnkfjaeegdaaDoor
set_option maxRecDepth 100000
open Go.RowKit

/-- The bytes, as numbers. -/
abbrev byts (s : ByteArray) : List Int := W.tail s 0
theorem byts_len (s : ByteArray) : (byts s).length = s.size := by rw [W.tail_length]; rfl
theorem byts_extract (s : ByteArray) (i j : Nat) : byts (s.extract i j) = ((byts s).drop i).take (j - i) := by
  simp [W.tail, List.map_drop, List.map_take]
theorem byts_str (l : List Int) (h : ∀ n ∈ l, 0 ≤ n ∧ n ≤ 255) : byts (strOfNums l) = l := W.tail_nums l h 0
theorem byts_bd (s : ByteArray) : ∀ n ∈ byts s, 0 ≤ n ∧ n ≤ 255 := by
  intro n hn
  have := W.tail_bd s 0 n hn
  omega
/-- Bytes that are the same numbers are the same. -/
theorem byts_inj {s t : ByteArray} (h : byts s = byts t) : s = t := by
  apply ByteArray.ext
  apply Array.ext'
  simp only [W.tail, List.drop_zero] at h
  have hi : Function.Injective (fun b : UInt8 => ((b.toNat : Nat) : Int)) := by
    intro a b hab
    have hab' : ((a.toNat : Nat) : Int) = (b.toNat : Nat) := hab
    have : a.toNat = b.toNat := by omega
    exact UInt8.toNat.inj this
  exact List.map_inj_right (fun a b hab => hi hab) |>.1 h

namespace W
theorem sx_num {m n : Int} (hm : m = 1 ∨ m = 4 ∨ m = 8) (h : sx m n = n) : sx m (num (bytesOf n m.toNat)) = n := by
  rw [num_bytesOf]
  rcases hm with rfl | rfl | rfl
  · simp [sx] at *; omega
  · simp [sx, wrap32] at *; omega
  · simp [sx, wrap64] at *; omega
theorem sx_sx {m u : Int} (hm : m = 1 ∨ m = 4 ∨ m = 8) : sx m (sx m u) = sx m u := by
  rcases hm with rfl | rfl | rfl
  · simp [sx]
  · simp [sx, wrap32]
  · simp [sx, wrap64]
theorem num_lt (l : List Int) (h : ∀ n ∈ l, 0 ≤ n ∧ n ≤ 255) : 0 ≤ num l ∧ num l < 256 ^ l.length := num_bd l (fun n hn => by have := h n hn; omega)
theorem ibytesOf_num : ∀ (l : List Int), (∀ n ∈ l, 0 ≤ n ∧ n ≤ 255) → bytesOf (num l) l.length = l
  | [], _ => by simp [bytesOf]
  | c :: r, h => by
    have hc := h c List.mem_cons_self
    rw [List.length_cons, bytesOf_cons, num]
    rw [show (num r * 256 + c) % 256 = c by omega, show (num r * 256 + c) / 256 = num r by omega, ibytesOf_num r (fun n hn => h n (List.mem_cons_of_mem _ hn))]
theorem bytesOf_mod : ∀ (s : Nat) (n k : Int), bytesOf (n + 256 ^ s * k) s = bytesOf n s
  | 0, n, k => by simp [bytesOf]
  | s + 1, n, k => by
    rw [bytesOf_cons, bytesOf_cons]
    have e : (256 : Int) ^ (s + 1) * k = 256 * (256 ^ s * k) := by rw [Int.pow_succ]; rw [Int.mul_comm (256 ^ s) 256, Int.mul_assoc]
    rw [e, show (n + 256 * (256 ^ s * k)) % 256 = n % 256 by omega, show (n + 256 * (256 ^ s * k)) / 256 = n / 256 + 256 ^ s * k by omega, bytesOf_mod s]
theorem bytesOf_sx {m u : Int} (hm : m = 1 ∨ m = 4 ∨ m = 8) : bytesOf (sx m u) m.toNat = bytesOf u m.toNat := by
  have key : ∃ k, sx m u = u + 256 ^ m.toNat * k := by
    rcases hm with rfl | rfl | rfl
    · exact ⟨-((u + 128) / 256), by simp [sx]; omega⟩
    · exact ⟨-((u + 2147483648) / 4294967296), by simp [sx, wrap32]; omega⟩
    · exact ⟨-((u + 9223372036854775808) / 18446744073709551616), by simp [sx, wrap64]; omega⟩
  obtain ⟨k, hk⟩ := key
  rw [hk, bytesOf_mod]
theorem isSz_of {m : Int} (hm : m = 1 ∨ m = 4 ∨ m = 8) : isSz m = true := by rcases hm with rfl | rfl | rfl <;> decide
theorem numV_at {s : ByteArray} {m : Int} (hm : m = 1 ∨ m = 4 ∨ m = 8) (h : (s.size : Int) = m) : numV s = sx m (num (tail s 0)) ∧ numE s = 0 := by
  unfold numV numE
  rw [h, if_pos (isSz_of hm), if_pos (isSz_of hm)]
  exact ⟨rfl, rfl⟩
end W

namespace I
theorem num_cases {op : Int} (h : ¬ num op = 0) : num op = 1 ∨ num op = 4 ∨ num op = 8 := by
  have := num_range op; omega
theorem kAt_eq (op : Int) : kAt op = if regs op = 0 then 1 else 2 := by
  unfold kAt psize
  split <;> omega
theorem psize_nat (op : Int) : (psize op).toNat = kAt op + (num op).toNat := by
  rw [kAt_eq]; unfold psize
  have := num_range op
  split <;> omega
/-- The bytes of a form that bears all. -/
theorem enc_len {op a b n : Int} (h : I.encE op a b n = 0) : ((I.encV op a b n).length : Int) = psize op := by
  unfold I.encE at h
  split at h
  · rename_i hf
    split at h
    · rename_i hn
      unfold I.encV
      rw [if_pos hf, if_pos hn]
      have hr := regs_range op
      have lr : ((regB (regs op) a b).length : Int) = if regs op = 0 then 0 else 1 := by
        unfold regB
        rcases hr with e | e | e <;> simp [e]
      have ln : ((numW (num op) n).length : Int) = num op := by
        unfold numW
        split
        · rename_i e; simp [e]
        · rename_i e
          have hm := num_cases e
          unfold numOk at hn
          rw [if_neg e] at hn
          have hE : W.bytesE n (num op) = 0 := by simpa using (Bool.and_eq_true_iff.1 hn).1
          unfold W.bytesE at hE
          rw [if_pos (W.isSz_of hm)] at hE
          split at hE
          · rename_i hs
            unfold W.bytesV
            rw [if_pos (W.isSz_of hm), if_pos hs, W.bytesOf_length]
            omega
          · omega
      simp only [List.length_append, List.length_cons, List.length_nil]
      unfold psize
      split at lr <;> rename_i e
      · rw [if_pos e]; omega
      · rw [if_neg e]; omega
    · omega
  · omega
theorem enc_bd {op a b n : Int} : ∀ x ∈ I.encV op a b n, 0 ≤ x ∧ x ≤ 255 := by
  intro x hx
  unfold I.encV at hx
  split at hx
  · rename_i hf
    split at hx
    · have hf' := Bool.and_eq_true_iff.1 hf
      have ho := of_decide_eq_true hf'.1
      have hr := I.bears_regs hf'.2
      simp only [List.mem_append, List.mem_singleton] at hx
      rcases hx with (rfl | hx) | hx
      · omega
      · unfold regB at hx
        split at hx
        · simp at hx
        · split at hx <;> (simp at hx; omega)
      · unfold numW at hx
        split at hx
        · simp at hx
        · unfold W.bytesV at hx
          split at hx
          · split at hx
            · exact W.bytesOf_bd _ _ x hx
            · simp at hx
          · simp at hx
    · simp at hx
  · simp at hx
theorem enc_parts {op a b n : Int} (h : I.encE op a b n = 0) :
    (1 ≤ op ∧ op ≤ 33) ∧ I.bears (regs op) (num op) a b n = true ∧ numOk (num op) (nat op) n = true ∧ I.encV op a b n = [op] ++ regB (regs op) a b ++ numW (num op) n := by
  unfold I.encE at h
  split at h
  · rename_i hf
    split at h
    · rename_i hn
      have hf' := Bool.and_eq_true_iff.1 hf
      refine ⟨of_decide_eq_true hf'.1, hf'.2, hn, ?_⟩
      unfold I.encV
      rw [if_pos hf, if_pos hn]
    · omega
  · omega
theorem bears_zero {r m a b n : Int} (h : I.bears r m a b n = true) : (r < 1 → a = 0) ∧ (r < 2 → b = 0) ∧ (m = 0 → n = 0) := by
  unfold I.bears I.bad at h
  have h1 := (Bool.and_eq_true_iff.1 h).1
  simp at h1
  refine ⟨fun hr => ?_, fun hr => ?_, fun hm => ?_⟩
  · have := h1.1.1; omega
  · have := h1.1.2; omega
  · rcases h1.2 with e | e
    · exact e
    · exact absurd hm e

/-- What is written is read as it was, whatever stands behind it. -/
theorem dec_enc {op a b n : Int} (h : I.encE op a b n = 0) (s : ByteArray) (r : List Int) (hs : byts s = I.encV op a b n ++ r) :
    I.dOk s = true ∧ hd s = op ∧ I.dA s = a ∧ I.dB s = b ∧ I.dN s = n := by
  have hlen := enc_len h
  obtain ⟨ho, hbe, hno, hv⟩ := enc_parts h
  have hz := bears_zero hbe
  have hrg := I.bears_regs hbe
  rw [hv] at hs
  have hop : hd s = op := by unfold hd; show (byts s).headD 0 = op; rw [hs]; rfl
  have hsz : ((byts s).length : Int) = psize op + r.length := by rw [hs, ← hv, List.length_append]; omega
  rw [byts_len] at hsz
  have hrr := regs_range op
  have hk := kAt_eq op
  -- the registers' byte
  have hA : I.dA s = a := by
    unfold I.dA
    rw [hop]
    unfold rA
    rcases hrr with e | e | e
    · rw [if_pos e]; exact (hz.1 (by omega)).symm
    · rw [if_neg (by omega), if_pos e]
      unfold hd
      show (byts (s.extract 1 (kAt op))).headD 0 = a
      rw [byts_extract, hk, if_neg (by omega), hs]
      simp [regB, e]
    · rw [if_neg (by omega), if_neg (by omega)]
      unfold hd
      show (byts (s.extract 1 (kAt op))).headD 0 / 16 = a
      rw [byts_extract, hk, if_neg (by omega), hs]
      simp [regB, e]
      omega
  have hB : I.dB s = b := by
    unfold I.dB
    rw [hop]
    unfold rB
    rcases hrr with e | e | e
    · rw [if_neg (by omega)]; exact (hz.2.1 (by omega)).symm
    · rw [if_neg (by omega)]; exact (hz.2.1 (by omega)).symm
    · rw [if_pos e]
      unfold hd
      show (byts (s.extract 1 (kAt op))).headD 0 % 16 = b
      rw [byts_extract, hk, if_neg (by omega), hs]
      simp [regB, e]
      omega
  -- the number's bytes
  have hN : I.dN s = n ∧ rdOk (num op) (nat op) (I.dS s) = true := by
    unfold I.dN
    rw [hop]
    unfold rdN rdOk
    by_cases e : num op = 0
    · rw [if_pos e, if_pos e]; exact ⟨(hz.2.2 e).symm, rfl⟩
    · have hm := num_cases e
      unfold numOk at hno
      rw [if_neg e] at hno
      obtain ⟨hno1, hno2⟩ := Bool.and_eq_true_iff.1 hno
      have hE : W.bytesE n (num op) = 0 := by simpa using hno1
      have hsx : W.sx (num op) n = n := by
        unfold W.bytesE at hE
        rw [if_pos (W.isSz_of hm)] at hE
        split at hE
        · assumption
        · omega
      have hw : numW (num op) n = W.bytesOf n (num op).toNat := by
        unfold numW W.bytesV
        rw [if_neg e, if_pos (W.isSz_of hm), if_pos hsx]
      have hd1 : byts (I.dS s) = W.bytesOf n (num op).toNat := by
        unfold I.dS
        rw [hop, byts_extract, psize_nat, hs, hw, hk]
        have l1 : (regB (regs op) a b).length = if regs op = 0 then 0 else 1 := by
          unfold regB
          rcases hrr with e | e | e <;> simp [e]
        have l2 := W.bytesOf_length n (num op).toNat
        rw [show (if regs op = 0 then 1 else 2) = ([op] ++ regB (regs op) a b).length by simp [l1]; split <;> rfl, List.append_assoc, List.drop_left, Nat.add_sub_cancel_left]
        generalize W.bytesOf n (num op).toNat = l at *
        rw [← l2, List.take_left]
      have hs1 : ((I.dS s).size : Int) = num op := by
        rw [← byts_len, hd1, W.bytesOf_length]; omega
      have hv1 := W.numV_at hm hs1
      have hn1 : W.numV (I.dS s) = n := by
        rw [hv1.1]
        show W.sx (num op) (W.num (byts (I.dS s))) = n
        rw [hd1]
        exact W.sx_num hm hsx
      rw [if_neg e, if_neg e, hn1, hv1.2]
      exact ⟨rfl, by simpa using hno2⟩
  refine ⟨?_, hop, hA, hB, hN.1⟩
  unfold I.dOk
  rw [hA, hB, hop, hN.2, isr_yes hrg.1, isr_yes hrg.2, decide_eq_true]
  · rfl
  · refine ⟨?_, ho.1, ho.2, ?_⟩
    · have : 1 ≤ psize op := by unfold psize; have := num_range op; split <;> omega
      omega
    · omega

/-- What is read is written as it stood. -/
theorem enc_dec {s : ByteArray} (h : I.dOk s = true) :
    I.encE (hd s) (I.dA s) (I.dB s) (I.dN s) = 0 ∧ I.encV (hd s) (I.dA s) (I.dB s) (I.dN s) = (byts s).take (psize (hd s)).toNat ∧ 1 ≤ psize (hd s) ∧ psize (hd s) ≤ (s.size : Int) := by
  unfold I.dOk at h
  obtain ⟨h1, h2⟩ := Bool.and_eq_true_iff.1 h
  obtain ⟨h2, h3⟩ := Bool.and_eq_true_iff.1 h2
  obtain ⟨ha, hb⟩ := Bool.and_eq_true_iff.1 h2
  obtain ⟨g0, g1, g2, g3⟩ := of_decide_eq_true h1
  have hrr := regs_range (hd s)
  have hk := kAt_eq (hd s)
  have hp1 : 1 ≤ psize (hd s) := by unfold psize; have := num_range (hd s); split <;> omega
  have hpn := psize_nat (hd s)
  have hln := byts_len s
  -- the bytes, one by one
  have hL : byts s = hd s :: (byts s).drop 1 := by
    cases e : byts s with
    | nil => rw [e] at hln; simp at hln; omega
    | cons x r =>
      have : hd s = x := by unfold hd; show (byts s).headD 0 = x; rw [e]; rfl
      rw [this]; rfl
  have hreg : regB (regs (hd s)) (I.dA s) (I.dB s) = ((byts s).drop 1).take (kAt (hd s) - 1) := by
    unfold I.dA I.dB regB rA rB
    rcases hrr with e | e | e
    · rw [if_pos e, hk, if_pos e]; simp
    all_goals
      have hx : hd (s.extract 1 (kAt (hd s))) = (((byts s).drop 1).take 1).headD 0 := by
        show (byts (s.extract 1 (kAt (hd s)))).headD 0 = _
        rw [byts_extract, hk, if_neg (by omega)]
      have hlen2 : 2 ≤ (byts s).length := by
        unfold psize at g3
        have := num_range (hd s)
        rw [if_neg (by omega)] at g3
        omega
      obtain ⟨x, hx1⟩ : ∃ x, ((byts s).drop 1).take 1 = [x] := by
        cases e2 : (byts s).drop 1 with
        | nil => have := congrArg List.length e2; simp at this; omega
        | cons x r => exact ⟨x, by simp⟩
      rw [hx, hx1]
      have hk2 : kAt (hd s) - 1 = 1 := by rw [hk, if_neg (by omega)]
      rw [hk2, hx1]
      simp [e]
      try omega
  have hz : (regs (hd s) < 1 → I.dA s = 0) ∧ (regs (hd s) < 2 → I.dB s = 0) ∧ (num (hd s) = 0 → I.dN s = 0) := by
    refine ⟨fun e => ?_, fun e => ?_, fun e => ?_⟩
    · unfold I.dA rA; rw [if_pos (by omega)]
    · unfold I.dB rB; rw [if_neg (by omega)]
    · unfold I.dN rdN; rw [if_pos e]
  have hbe : I.bears (regs (hd s)) (num (hd s)) (I.dA s) (I.dB s) (I.dN s) = true := by
    unfold I.bears I.bad
    rw [ha, hb]
    simp
    refine ⟨⟨?_, ?_⟩, ?_⟩
    · by_cases c : regs (hd s) < 1
      · exact .inl (hz.1 c)
      · exact .inr (by omega)
    · by_cases c : regs (hd s) < 2
      · exact .inl (hz.2.1 c)
      · exact .inr (by omega)
    · by_cases c : num (hd s) = 0
      · exact .inl (hz.2.2 c)
      · exact .inr c
  have hnum : numOk (num (hd s)) (nat (hd s)) (I.dN s) = true ∧ numW (num (hd s)) (I.dN s) = ((byts s).drop (kAt (hd s))).take (num (hd s)).toNat := by
    unfold numOk numW
    by_cases e : num (hd s) = 0
    · rw [if_pos e, if_pos e, e]; simp
    · have hm := num_cases e
      have hd1 : byts (I.dS s) = ((byts s).drop (kAt (hd s))).take (num (hd s)).toNat := by
        unfold I.dS
        rw [byts_extract, hpn, Nat.add_sub_cancel_left]
      have hl : (byts (I.dS s)).length = (num (hd s)).toNat := by
        rw [hd1, List.length_take, List.length_drop, hln]
        omega
      have hs1 : ((I.dS s).size : Int) = num (hd s) := by rw [← byts_len, hl]; omega
      have hv1 := W.numV_at hm hs1
      have hN : I.dN s = W.sx (num (hd s)) (W.num (byts (I.dS s))) := by unfold I.dN rdN; rw [if_neg e]; exact hv1.1
      have hsx : W.sx (num (hd s)) (I.dN s) = I.dN s := by rw [hN, W.sx_sx hm]
      unfold rdOk at h3
      rw [if_neg e] at h3
      have h4 := (Bool.and_eq_true_iff.1 h3).2
      have hN' : W.numV (I.dS s) = I.dN s := by unfold I.dN rdN; rw [if_neg e]
      rw [hN'] at h4
      rw [if_neg e, if_neg e]
      refine ⟨?_, ?_⟩
      · unfold W.bytesE
        rw [if_pos (W.isSz_of hm), if_pos hsx, h4]; rfl
      · unfold W.bytesV
        rw [if_pos (W.isSz_of hm), if_pos hsx, hN, W.bytesOf_sx hm, ← hd1, ← hl]
        exact W.ibytesOf_num _ (byts_bd _)
  have hf : I.fits (hd s) (I.dA s) (I.dB s) (I.dN s) = true := by unfold I.fits; rw [hbe, decide_eq_true ⟨g1, g2⟩]; rfl
  refine ⟨?_, ?_, hp1, g3⟩
  · unfold I.encE; rw [if_pos hf, if_pos hnum.1]
  · unfold I.encV
    rw [if_pos hf, if_pos hnum.1, hreg, hnum.2, hpn]
    conv => rhs; rw [hL]
    have hk1 : kAt (hd s) = (kAt (hd s) - 1) + 1 := by rw [hk]; split <;> rfl
    rw [show kAt (hd s) + (num (hd s)).toNat = ((kAt (hd s) - 1) + (num (hd s)).toNat) + 1 by omega, List.take_succ_cons, List.take_add, List.drop_drop, show 1 + (kAt (hd s) - 1) = kAt (hd s) by omega]
    simp

end I
end Go.Proofs.YtmplnkfjaeegdaaDoor

/- Two instructions, held against each other. -/
namespace Go.Proofs.YtmplnkfjaeegdaaDoor
set_option maxRecDepth 100000
open Go.RowKit

/-- Are two instructions the same? -/
def I.same (op a b n op' a' b' n' : Int) : Bool := decide (op = op' ∧ a = a' ∧ b = b' ∧ n = n')
theorem I.same_self (op a b n : Int) : I.same op a b n op a b n = true := by simp [I.same]

theorem eqIns (op a b n op' a' b' n' : Int) (w : World) : (Op.equalIn 10000 85 (.agg #[.int .i64 op, .int .i64 a, .int .i64 b, .int .i64 n]) (.agg #[.int .i64 op', .int .i64 a', .int .i64 b', .int .i64 n'])).run Tryd.prog w = .ok (I.same op a b n op' a' b' n') w := by
  unfold I.same
  by_cases h1 : op = op'
  · subst h1
    by_cases h2 : a = a'
    · subst h2
      by_cases h3 : b = b'
      · subst h3
        by_cases h4 : n = n'
        · subst h4
          go_simp
        · go_simp
      · go_simp
    · go_simp
  · go_simp

end Go.Proofs.YtmplnkfjaeegdaaDoor

/- ins.All. -/
namespace Go.Proofs.YtmplnkfjaeegdaaDoor
set_option maxRecDepth 100000
open Go.RowKit
set_option linter.unusedVariables false
attribute [local go_sem ↓] Go.wp_at_zero Go.wp_at_succ

theorem infoIns : (Tryd.prog.info? 85).map (fun i => (i.zero, i.size, i.bytes)) = some (some (.agg #[.int .i64 0, .int .i64 0, .int .i64 0, .int .i64 0]), 4, 32) := by kernel_rfl

/-- An instruction. -/
structure I.Q where
  op : Int
  a : Int
  b : Int
  n : Int
abbrev I.Q.v (q : I.Q) : Value := .agg #[.int .i64 q.op, .int .i64 q.a, .int .i64 q.b, .int .i64 q.n]
def I.Q.cs (q : I.Q) : List Value := [.int .i64 q.op, .int .i64 q.a, .int .i64 q.b, .int .i64 q.n]
def I.rows (l : List I.Q) : List Value := l.flatMap I.Q.cs
theorem I.rows_len (l : List I.Q) : (I.rows l).length = l.length * 4 := by
  induction l with
  | nil => rfl
  | cons q r ih => simp only [I.rows, List.flatMap_cons, List.length_append, List.length_cons] at *; rw [ih]; simp [I.Q.cs]; omega
theorem I.rows_snoc (l : List I.Q) (q : I.Q) : I.rows (l ++ [q]) = I.rows l ++ q.cs := by simp [I.rows]
theorem cs_one (q : I.Q) : ∀ u ∈ q.cs, u.oneCell' = true := by
  intro u hu
  simp [I.Q.cs] at hu
  rcases hu with rfl | rfl | rfl | rfl <;> rfl

/-- The instruction with whose form bytes begin, and what stands behind it. -/
def I.dQ (s : ByteArray) : I.Q := ⟨I.hd s, I.dA s, I.dB s, I.dN s⟩
def I.rest (s : ByteArray) : ByteArray := s.extract (I.psize (I.hd s)).toNat s.size
theorem I.rest_size (s : ByteArray) (h : I.dOk s = true) : (I.rest s).size + (I.psize (I.hd s)).toNat = s.size ∧ 1 ≤ (I.psize (I.hd s)).toNat := by
  have := (I.enc_dec h).2.2
  unfold I.rest
  simp
  omega
/-- All instructions of bytes; none: they are none's. -/
def I.allF : Nat → ByteArray → Option (List I.Q)
  | 0, s => if s.size = 0 then some [] else none
  | f + 1, s => if s.size = 0 then some [] else if I.dOk s = true then (I.allF f (I.rest s)).map (I.dQ s :: ·) else none
def I.allI (s : ByteArray) : Option (List I.Q) := I.allF s.size s
theorem I.allF_fuel : ∀ (f g : Nat) (s : ByteArray), s.size ≤ f → s.size ≤ g → I.allF f s = I.allF g s
  | 0, 0, s, _, _ => rfl
  | 0, g + 1, s, h, _ => by
    have : s.size = 0 := by omega
    simp [I.allF, this]
  | f + 1, 0, s, _, h => by
    have : s.size = 0 := by omega
    simp [I.allF, this]
  | f + 1, g + 1, s, h1, h2 => by
    simp only [I.allF]
    split
    · rfl
    · split
      · rename_i hd
        have := I.rest_size s hd
        rw [I.allF_fuel f g (I.rest s) (by omega) (by omega)]
      · rfl
theorem I.allI_zero {s : ByteArray} (h : s.size = 0) : I.allI s = some [] := by unfold I.allI; rw [h]; simp [I.allF, h]
theorem I.allI_no {s : ByteArray} (h : 0 < s.size) (hd : I.dOk s = false) : I.allI s = none := by
  unfold I.allI
  obtain ⟨k, hk⟩ : ∃ k, s.size = k + 1 := ⟨s.size - 1, by omega⟩
  rw [hk]
  simp only [I.allF]
  rw [if_neg (by omega), if_neg (by rw [hd]; decide)]
theorem I.allI_yes {s : ByteArray} (h : 0 < s.size) (hd : I.dOk s = true) : I.allI s = (I.allI (I.rest s)).map (I.dQ s :: ·) := by
  unfold I.allI
  have hr := I.rest_size s hd
  obtain ⟨k, hk⟩ : ∃ k, s.size = k + 1 := ⟨s.size - 1, by omega⟩
  rw [hk]
  simp only [I.allF]
  rw [if_neg (by omega), if_pos hd, I.allF_fuel k (I.rest s).size (I.rest s) (by omega) (Nat.le_refl _)]
theorem I.dOk_pos {s : ByteArray} (h : I.dOk s = true) : 0 < s.size := by
  have := (I.enc_dec h).2.2; omega

/-- What All answers: a list of its own, or nothing and 9. -/
def I.allPost (s : ByteArray) (B : Nat) (e : Ending) (w' : World) : Prop :=
  match I.allI s with
  | some l => ∃ v, e = .returned (.tuple #[v, .int .i64 0]) ∧ w'.ownsRow B 85 4 v l.length (I.rows l)
  | none => e = .returned (.tuple #[.slice none 0 0, .int .i64 9])

theorem ins_cells (w : World) (q : I.Q) (o : Nat) (ho : o = w.heap.size) : ∀ j u, q.cs[j]? = some u → (w.alloc (.cells #[.int .i64 q.op, .int .i64 q.a, .int .i64 q.b, .int .i64 q.n] 85)).cell? ((⟨o, 0, none⟩ : Addr).add j) = some u := by
  subst ho
  intro j u hu
  rw [Addr.add_lit]
  simp
  exact hu

set_option maxRecDepth 100000 in
set_option maxHeartbeats 8000000 in
theorem all_any (s : ByteArray) (hm : s.size ≤ 4398046511104) (w : World) (ht : Tab w) :
    Calls Tryd.prog 42 #[.string s] w fun e w' => I.allPost s w.heap.size e w' ∧ Below w.heap.size w w' := by
  obtain ⟨i0, hi, hz0, hz1, hz2⟩ := info_parts infoIns
  have ht0 := ht
  go_enter Tryd.func42, Tryd.ntmps42
  go_wp2
  go_loopg [0, 4] s.size (fun k sv lv wr => ∃ (t : ByteArray) (done : List I.Q), sv = .string t ∧ t.size ≤ k ∧ done.length + t.size ≤ s.size ∧ wr.ownsRow w.heap.size 85 4 lv done.length (I.rows done) ∧ Below w.heap.size w wr ∧ Hid (I.allI s = (I.allI t).map (done ++ ·)))
  case atStart => exact ⟨s, [], rfl, Nat.le_refl _, by simp, World.ownsRow_nil _ _ _ _, Below.refl _ _, by show _ = _; simp⟩
  case round =>
    obtain ⟨t, done, rfl, htk, hdn, ho, hb, HA⟩ := hrel
    have ht1 := ht0.below hb
    by_cases h0 : t.size = 0
    · obtain rfl : t = { data := #[] } := by
        obtain ⟨d⟩ := t
        simp [ByteArray.size] at h0
        subst h0; rfl
      go_wp2
      go_ret2
      refine ⟨?_, hb⟩
      unfold I.allPost
      rw [HA.out, I.allI_zero rfl]
      simp only [Option.map_some, List.append_nil]
      exact ⟨_, rfl, ho⟩
    · have hne := ne_empty (s := t) (by omega)
      have HR : Hid (∀ w, Tab w → Calls Tryd.prog 70 #[.string t] w fun e w' => e = .returned (rdV t) ∧ Below w.heap.size w w') := fun w ht => iread_any _ w ht
      unfold rdV at HR
      cases hx : I.dOk t with
      | false =>
        rw [hx, if_neg (by decide)] at HR
        go_wp2_with (go_at_call 70; refine (HR.out _ ht1).mono ?_; rintro e w1 ⟨rfl, hb1⟩)
        go_ret2
        refine ⟨?_, (hb.trans (hb1.mono hb.size)).alloc (by have := hb.size; have := hb1.size; omega) _⟩
        unfold I.allPost
        rw [HA.out, I.allI_no (by omega) hx]
        rfl
      | true =>
        rw [hx, if_pos rfl] at HR
        have hrs := I.rest_size t hx
        have hpz : (0 : Int) ≤ I.psize (I.hd t) ∧ I.psize (I.hd t) ≤ (t.size : Int) := by omega
        obtain ⟨hp0, hp1⟩ := hpz
        have HQ : Hid (I.dQ t = ⟨I.hd t, I.dA t, I.dB t, I.dN t⟩) := rfl
        have HT : Hid (I.rest t = t.extract (I.psize (I.hd t)).toNat t.size) := rfl
        generalize hq : I.dQ t = q at *
        have hqe := HQ.out
        have q1 : I.hd t = q.op := by rw [hqe]
        have q2 : I.dA t = q.a := by rw [hqe]
        have q3 : I.dB t = q.b := by rw [hqe]
        have q4 : I.dN t = q.n := by rw [hqe]
        rw [q1, q2, q3, q4] at HR
        rw [q1] at HT hp0 hp1 hrs
        have HX : Hid (I.dOk t = true) := hx
        have HQQ : Hid (I.dQ t = q) := hq
        clear q1 q2 q3 q4 hqe HQ hq hx
        generalize I.psize q.op = z at *
        go_wp2_with fail
        refine (HR.out _ ht1).mono ?_
        rintro e w1 ⟨rfl, hb1⟩
        have ho1 := own_kept ho hb1
        have hs1 := hb1.size
        have hs0 := hb.size
        have hbb : Below w.heap.size w w1 := hb.trans (hb1.mono hs0)
        clear ho hb hb1
        go_wp2_with (first | (at_builtin; refine wpList_append_own _ rfl _ _ 80 rfl w.heap.size 85 i0 _ 4 32 Tryd.underlying80 hi hz0 hz1 hz2 rfl (by decide) _ _ _ rfl ((ho1.alloc _).alloc _) ⟨w1.heap.size + 1, 0, none⟩ 1 1 q.cs rfl rfl (ins_cells _ q _ (by simp)) (cs_one q) (by unfold maxLen; omega) (by omega) (by simp; omega) ?_) | go_in)
        intro v2 w2 ho2 hg2 _
        have hb2 : Below w.heap.size w w2 := below_own ((hbb.alloc (by omega) _).alloc (by simp; omega) _) ((ho1.alloc _).alloc _) hg2 (by simp; omega)
        rw [← I.rows_snoc] at ho2
        have ho3 : w2.ownsRow w.heap.size 85 4 v2 (done ++ [q]).length (I.rows (done ++ [q])) := by simpa using ho2
        clear ho2 hg2 ho1 hbb
        go_wp2
        go_roundg (I.rest t).size
        case measure => omega
        case rel =>
          refine ⟨I.rest t, done ++ [q], by rw [HT.out], Nat.le_refl _, by simp; omega, ho3, hb2, ?_⟩
          show I.allI s = _
          rw [HA.out, I.allI_yes (I.dOk_pos HX.out) HX.out, HQQ.out, Option.map_map]
          congr 1
          funext l
          simp

end Go.Proofs.YtmplnkfjaeegdaaDoor

/- All instructions of bytes that were put together: no walk. -/
namespace Go.Proofs.YtmplnkfjaeegdaaDoor
set_option maxRecDepth 100000
open Go.RowKit

theorem byts_append (s t : ByteArray) : byts (s ++ t) = byts s ++ byts t := by simp [W.tail]
theorem byts_rest (s : ByteArray) : byts (I.rest s) = (byts s).drop (I.psize (I.hd s)).toNat := by
  unfold I.rest
  rw [byts_extract, List.take_of_length_le]
  rw [List.length_drop, byts_len]
  exact Nat.le_refl _
/-- An instruction's form, and whatever stands behind it. -/
theorem I.allI_enc {op a b n : Int} (h : I.encE op a b n = 0) (s t : ByteArray) (hs : byts s = I.encV op a b n ++ byts t) : I.allI s = (I.allI t).map (⟨op, a, b, n⟩ :: ·) := by
  obtain ⟨d1, d2, d3, d4, d5⟩ := I.dec_enc h s _ hs
  rw [I.allI_yes (I.dOk_pos d1) d1]
  have e1 : I.dQ s = ⟨op, a, b, n⟩ := by unfold I.dQ; rw [d2, d3, d4, d5]
  have e2 : I.rest s = t := by
    apply byts_inj
    rw [byts_rest, hs, d2]
    have hl := I.enc_len h
    rw [List.drop_append_of_le_length (by omega), List.drop_eq_nil_of_le (by omega), List.nil_append]
  rw [e1, e2]
theorem arr_thru {W w3 : World} (hb : Below W.heap.size W w3) {b : Nat} {cs : Array Value} (h : ∀ o, W.cell? ⟨b, o, none⟩ = cs[o]?) (h0 : 0 < cs.size := by simp) : ∀ o, w3.cell? ⟨b, o, none⟩ = cs[o]? := fun o => by
  have h1 : W.cell? ⟨b, 0, none⟩ = some cs[0] := (h 0).trans (Array.getElem?_eq_getElem h0)
  exact (hb.cell (p := ⟨b, o, none⟩) (World.block_lt_of_cell? W ⟨b, 0, none⟩ h1)).trans (h o)
theorem I.allI_nil : I.allI (strOfNums []) = some [] := I.allI_zero rfl
/-- What was read is written as it stood, one instruction behind the other. -/
def I.Q.E (q : I.Q) : Int := I.encE q.op q.a q.b q.n
def I.Q.V (q : I.Q) : List Int := I.encV q.op q.a q.b q.n
theorem I.allF_some : ∀ (f : Nat) (s : ByteArray) (l : List I.Q), I.allF f s = some l → (∀ q ∈ l, q.E = 0) ∧ byts s = l.flatMap I.Q.V
  | 0, s, l, h => by
    simp only [I.allF] at h
    split at h
    · rename_i h0
      obtain rfl := Option.some.inj h
      refine ⟨by simp, ?_⟩
      have := byts_len s
      simp only [List.flatMap_nil]
      exact List.eq_nil_of_length_eq_zero (this.trans h0)
    · cases h
  | f + 1, s, l, h => by
    simp only [I.allF] at h
    split at h
    · rename_i h0
      obtain rfl := Option.some.inj h
      refine ⟨by simp, ?_⟩
      have := byts_len s
      simp only [List.flatMap_nil]
      exact List.eq_nil_of_length_eq_zero (this.trans h0)
    · split at h
      · rename_i hd
        obtain ⟨r, hr, rfl⟩ := Option.map_eq_some_iff.1 h
        obtain ⟨h1, h2⟩ := I.allF_some f (I.rest s) r hr
        obtain ⟨e1, e2, -, -⟩ := I.enc_dec hd
        refine ⟨?_, ?_⟩
        · intro q hq
          rcases List.mem_cons.1 hq with rfl | hq
          · exact e1
          · exact h1 q hq
        · rw [List.flatMap_cons, ← h2, byts_rest]
          show _ = I.encV (I.hd s) (I.dA s) (I.dB s) (I.dN s) ++ _
          rw [e2, List.take_append_drop]
      · cases h
theorem I.allI_some {s : ByteArray} {l : List I.Q} (h : I.allI s = some l) : (∀ q ∈ l, q.E = 0) ∧ byts s = l.flatMap I.Q.V := I.allF_some _ s l h
theorem I.enc_ne {q : I.Q} (h : q.E = 0) : 1 ≤ q.V.length := by
  have := I.enc_len h
  have h2 : 1 ≤ I.psize q.op := by unfold I.psize; have := I.num_range q.op; split <;> omega
  unfold I.Q.V
  omega
theorem I.flat_len (l : List I.Q) (h : ∀ q ∈ l, q.E = 0) : l.length ≤ (l.flatMap I.Q.V).length := by
  induction l with
  | nil => simp
  | cons q r ih =>
    have := I.enc_ne (h q List.mem_cons_self)
    have := ih (fun x hx => h x (List.mem_cons_of_mem _ hx))
    simp only [List.flatMap_cons, List.length_append, List.length_cons]
    omega
theorem I.rows_at (l : List I.Q) (k : Nat) (hk : k < l.length) (j : Nat) (hj : j < 4) : (I.rows l)[k * 4 + j]? = (l[k]).cs[j]? := by
  induction l generalizing k with
  | nil => simp at hk
  | cons q r ih =>
    simp only [I.rows, List.flatMap_cons]
    cases k with
    | zero => rw [List.getElem?_append_left (by simp [I.Q.cs]; omega)]; simp
    | succ k =>
      rw [List.getElem?_append_right (by simp [I.Q.cs]; omega)]
      have e : (k + 1) * 4 + j - q.cs.length = k * 4 + j := by simp [I.Q.cs]; omega
      rw [e]
      simpa [I.rows] using ih k (by simpa using hk)
theorem I.rows_cut (l : List I.Q) (k : Nat) (hk : k < l.length) : l.flatMap I.Q.V = (l.take k).flatMap I.Q.V ++ (l[k]).V ++ (l.drop (k + 1)).flatMap I.Q.V := by
  conv => lhs; rw [← List.take_append_drop k l]
  rw [List.flatMap_append, List.drop_eq_getElem_cons hk, List.flatMap_cons, List.append_assoc]
theorem I.take_snoc (l : List I.Q) (k : Nat) (hk : k < l.length) : (l.take (k + 1)).flatMap I.Q.V = (l.take k).flatMap I.Q.V ++ (l[k]).V := by
  rw [List.take_succ_eq_append_getElem hk, List.flatMap_append]
  simp
theorem I.cut_zero (s : ByteArray) : I.cut s 0 = s := by
  unfold I.cut
  apply byts_inj
  rw [byts_extract]
  simp
  rw [List.take_of_length_le (by rw [byts_len]; exact Nat.le_refl _)]
/-- Decode turns Encode back. -/
theorem I.dec_back {op a b n : Int} (h : I.encE op a b n = 0) : I.decR (strOfNums (I.encV op a b n)) 0 = decV (insW op a b n) ((strOfNums (I.encV op a b n)).size : Int) 0 := by
  have hb := byts_str _ (I.enc_bd (op := op) (a := a) (b := b) (n := n))
  obtain ⟨d1, d2, d3, d4, d5⟩ := I.dec_enc h (strOfNums (I.encV op a b n)) [] (by rw [hb]; simp)
  unfold I.decR
  rw [if_neg (by omega), I.cut_zero, if_pos d1, d2, d3, d4, d5, ← I.enc_len h, strOfNums_size]
  simp
theorem enc_size {op a b n : Int} : (strOfNums (I.encV op a b n)).size ≤ 10 := by
  rw [strOfNums_size]
  unfold I.encV
  split
  · split
    · have := I.regB_len (I.regs op) a b
      have := I.numW_len (I.num op) n
      simp; omega
    · simp
  · simp
end Go.Proofs.YtmplnkfjaeegdaaDoor
