import Derived.Test.YtgjingleolhkbaaGreatDoorTAw
import Derived.Test.YtgjingleolhkbaaGreatDoorTAu
import Derived.Test.YtgjingleolhkbaaGreatDoorTAx
import Derived.Test.YtgjingleolhkbaaGreatDoorTAy
import Derived.Deep.CutRange
namespace Go.Proofs.YtgjingleolhkbaaGreatDoor
namespace Z
open Go.RowKit
set_option linter.unusedVariables false
set_option linter.unusedSimpArgs false

def put {α : Type} (m : Nat) (x : α) (l : List α) : List α := l.take m ++ x :: l.drop m
def mv (m i : Nat) : Nat := if i < m then i else i + 1
structure Un (m : Nat) (L : X.It) (ts : List X.It) : Prop where
 m : m ≤ ts.length
 k : L.kind = 1
 op : L.op = 0
 ws : L.words = []
 n : ∀ t ∈ ts, t.name ≠ L.name
section
variable {m : Nat} {L : X.It} {ts : List X.It}
theorem Un.jump (h : Un m L ts) : jump L = false := by unfold Z.jump shortOf; rw [h.op]; rfl
theorem Un.shown (h : Un m L ts) : shown L = false := by unfold Z.shown; rw [h.k]; rfl
theorem Un.place (h : Un m L ts) : place L = true := by unfold Z.place; rw [h.k]; rfl
end
end Z
end Go.Proofs.YtgjingleolhkbaaGreatDoor

namespace Go.Proofs.YtgjingleolhkbaaGreatDoor
namespace Z
open Go.RowKit
set_option linter.unusedVariables false
set_option linter.unusedSimpArgs false
section
variable {m : Nat} {L : X.It} {ts : List X.It}
end
end Z
end Go.Proofs.YtgjingleolhkbaaGreatDoor

namespace Go.Proofs.YtgjingleolhkbaaGreatDoor
open Go.RowKit Go.Maps
set_option linter.unusedVariables false
set_option linter.unusedSimpArgs false
namespace Z
def opL (t : X.It) (b : Bool) : Int := if (jump t && !b) = true then shortOf t.op else t.op
def opsL (ts : List X.It) (bs : List Bool) : List Int := List.zipWith opL ts bs
def szD (t : X.It) (b : Bool) : Int := if t.kind = 2 then (if (jumpD t && !b) = true then sz (t.op + 5) else sz t.op) else 0
theorem szD_ok {t : X.It} (h : X.itOk t = true) (b : Bool) : szD t b = sz (opL t b) := by
 unfold szD opL
 rw [jump_ok h]
 rcases X.itOk_cases h with ⟨hk, -⟩ | ⟨hk, -, -, -, hz⟩ | ⟨hk, -, -, hz⟩
 ·rw [if_pos hk]
  by_cases hj : (jump t && !b) = true
  ·rw [if_pos hj, if_pos hj]
   have := (jump_iff t).1 (Bool.and_eq_true_iff.1 hj).1
   rcases this with e | e | e <;> rw [e] <;> rfl
  ·rw [if_neg hj, if_neg hj]
 ·unfold X.zeroIns at hz
  simp only [decide_eq_true_eq] at hz
  have hj : jump t = false := by unfold jump shortOf; rw [hz.1]; rfl
  rw [if_neg (by omega), hj, hz.1]
  rfl
 ·unfold X.zeroIns at hz
  simp only [decide_eq_true_eq] at hz
  have hj : jump t = false := by unfold jump shortOf; rw [hz.1]; rfl
  rw [if_neg (by omega), hj, hz.1]
  rfl
theorem opsL_len {ts : List X.It} {bs : List Bool} (h : bs.length = ts.length) : (opsL ts bs).length = ts.length := by
 unfold opsL
 rw [List.length_zipWith, h, Nat.min_self]
theorem opsL_at {ts : List X.It} {bs : List Bool} (h : bs.length = ts.length) {i : Nat} (hi : i < ts.length) : (opsL ts bs).getD i 0 = opL (ts.getD i X.noIt) (bs.getD i false) := by
 unfold opsL
 have hb : i < bs.length := by omega
 have hz : i < (List.zipWith opL ts bs).length := by rw [List.length_zipWith]; omega
 simp only [List.getD, List.getElem?_eq_getElem hz, List.getElem?_eq_getElem hi, List.getElem?_eq_getElem hb, Option.getD_some, List.getElem_zipWith]
end Z
theorem infoI : (Tryz.prog.info? 3).map (fun i => (i.zero, i.size, i.bytes)) = some (some (.int .i64 0), 1, 8) := by kernel_rfl
def iV (x : Int) : Value := .int .i64 x
def bV (b : Bool) : Value := .bool b
set_option maxRecDepth 100000 in
set_option maxHeartbeats 8000000 in
theorem dsize_any (t : X.It) (aw : Option Addr) (lw cw : Nat) (bb : Bool) (w : World) : Calls Tryz.prog 58 #[itV t (.slice aw lw cw), .bool bb] w fun e w' => e = .returned (.int .i64 (Z.szD t bb)) ∧ Below w.heap.size w w' := by
 have HJ : Hid (∀ W, Calls Tryz.prog 57 #[itV t (.slice aw lw cw)] W fun e w' => e = .returned (.bool (Z.jumpD t)) ∧ Below W.heap.size W w') := fun W => rjump_any t aw lw cw W
 have hsp : Z.jumpD t = true → t.op = 20 ∨ t.op = 21 ∨ t.op = 22 := fun e => (Z.jump_iff t).1 (Bool.and_eq_true_iff.1 e).2
 have HR : Hid (Z.szD t bb = if t.kind = 2 then (if (Z.jumpD t && !bb) = true then Z.sz (t.op + 5) else Z.sz t.op) else 0) := rfl
 obtain ⟨kd, nm, op, a, b, n, ws⟩ := t
 generalize Z.jumpD _ = jd at HJ HR hsp
 simp only at hsp HR
 by_cases hk : kd = 2
 rotate_left
 ·have e1 : (kd == 2) = false := by simpa using hk
  have e2 : (kd != 2) = true := by simpa using hk
  have HZ : Hid (Z.szD ⟨kd, nm, op, a, b, n, ws⟩ bb = 0) := by show _ = _; rw [HR.out, if_neg hk]
  clear hsp HJ
  go_enter Tryz.func58, Tryz.ntmps58
  go_wp2_with fail
  go_ret
  exact ⟨by rw [HZ.out]; rfl, bl1 _ _⟩
 subst hk
 have hjc := fun W => HJ.out W
 cases hjd : (jd && !bb) with
 | true =>
  obtain ⟨rfl, hb'⟩ := Bool.and_eq_true_iff.1 hjd
  obtain rfl : bb = false := by simpa using hb'
  have HO : Hid (op = 20 ∨ op = 21 ∨ op = 22) := hsp rfl
  have h20 : 20 ≤ op ∧ op ≤ 22 := by have := HO.out; omega
  have HZ : Hid (Z.szD ⟨2, nm, op, a, b, n, ws⟩ false = Z.sz (op + 5)) := by show _ = _; rw [HR.out, if_pos rfl]; rfl
  have HSZ : Hid (∀ W, Calls Tryz.prog 64 #[.int .i64 (op + 5)] W fun e w' => e = .returned (.int .i64 (Z.sz (op + 5))) ∧ w' = W) := fun W => J.rsize_any (op + 5) W
  have hwr : IntKind.i64.wrap (op + 5) = op + 5 := by rw [IntKind.wrap_i64]; omega
  clear hsp hjd hb' hjc
  go_enter Tryz.func58, Tryz.ntmps58
  go_wp2_with fail
  refine (HJ.out _).mono ?_
  rintro e y ⟨rfl, hy⟩
  have HY : Hid _ := hy
  have k0 := cell_thru hy (cellA rfl rfl : (w.alloc (.cells #[.int .i64 2, .string (X.str nm), .int .i64 op, .int .i64 a, .int .i64 b, .int .i64 n, .slice aw lw cw] 44)).cell? ⟨w.heap.size, 2, none⟩ = some (.int .i64 op))
  clear hy
  go_wp2_with fail
  refine (HSZ.out _).mono ?_
  rintro e y2 ⟨rfl, hy2⟩
  rw [hy2]
  clear hy2
  go_wp2_with fail
  go_ret
  exact ⟨by rw [HZ.out]; rfl, (bl1 _ _).trans (HY.out.mono (bl1 _ _).size)⟩
 | false =>
  have HZ : Hid (Z.szD ⟨2, nm, op, a, b, n, ws⟩ bb = Z.sz op) := by show _ = _; rw [HR.out, if_pos rfl, hjd]; rfl
  have HSZ : Hid (∀ W, Calls Tryz.prog 64 #[.int .i64 op] W fun e w' => e = .returned (.int .i64 (Z.sz op)) ∧ w' = W) := fun W => J.rsize_any op W
  clear hsp hjc
  cases jd
  ·clear hjd
   go_enter Tryz.func58, Tryz.ntmps58
   go_wp2_with fail
   refine (HJ.out _).mono ?_
   rintro e y ⟨rfl, hy⟩
   have HY : Hid _ := hy
   have k0 := cell_thru hy (cellA rfl rfl : (w.alloc (.cells #[.int .i64 2, .string (X.str nm), .int .i64 op, .int .i64 a, .int .i64 b, .int .i64 n, .slice aw lw cw] 44)).cell? ⟨w.heap.size, 2, none⟩ = some (.int .i64 op))
   clear hy
   go_wp2_with fail
   refine (HSZ.out _).mono ?_
   rintro e y2 ⟨rfl, hy2⟩
   rw [hy2]
   clear hy2
   go_wp2_with fail
   go_ret
   exact ⟨by rw [HZ.out]; rfl, (bl1 _ _).trans (HY.out.mono (bl1 _ _).size)⟩
  ·obtain rfl : bb = true := by simpa using hjd
   clear hjd
   go_enter Tryz.func58, Tryz.ntmps58
   go_wp2_with fail
   refine (HJ.out _).mono ?_
   rintro e y ⟨rfl, hy⟩
   have HY : Hid _ := hy
   have k0 := cell_thru hy (cellA rfl rfl : (w.alloc (.cells #[.int .i64 2, .string (X.str nm), .int .i64 op, .int .i64 a, .int .i64 b, .int .i64 n, .slice aw lw cw] 44)).cell? ⟨w.heap.size, 2, none⟩ = some (.int .i64 op))
   clear hy
   go_wp2_with fail
   refine (HSZ.out _).mono ?_
   rintro e y2 ⟨rfl, hy2⟩
   rw [hy2]
   clear hy2
   go_wp2_with fail
   go_ret
   exact ⟨by rw [HZ.out]; rfl, (bl1 _ _).trans (HY.out.mono (bl1 _ _).size)⟩

theorem d_low {wr Y1 Y2 w0 : World} {x : Obj} {v : Value} {n k : Nat} {ty : TypeId} {cs : List Value} (h1 : Below w0.heap.size w0 Y1) (o1 : Y1.ownsRow w0.heap.size ty k v n cs) (hg : (Y1.alloc x).grownBy Y2 v.ownBlock) : Below w0.heap.size w0 Y2 :=
 (h1.trans ((bl1 Y1 x).mono h1.size)).grown hg (Nat.le_trans h1.size (bl1 Y1 x).size) (fun g e => (o1.lt g e).1)
theorem row_int {w : World} {B g n c : Nat} {zs : List Int} (h : w.ownsRow B 3 1 (.slice (some ⟨g, 0, none⟩) n c) n (zs.map iV)) {k : Nat} (hk : k < n) : w.cell? ⟨g, k, none⟩ = some (.int .i64 (zs.getD k 0)) := by
 have hl := h.1
 rw [List.length_map] at hl
 rw [h.cellAt k (by omega), List.getElem?_map]
 have : k < zs.length := by omega
 simp [List.getD, this, iV]
theorem row_bool {w : World} {B g n c : Nat} {zs : List Bool} (h : w.ownsRow B 4 1 (.slice (some ⟨g, 0, none⟩) n c) n (zs.map bV)) {k : Nat} (hk : k < n) : w.cell? ⟨g, k, none⟩ = some (.bool (zs.getD k false)) := by
 have hl := h.1
 rw [List.length_map] at hl
 rw [h.cellAt k (by omega), List.getElem?_map]
 have : k < zs.length := by omega
 simp [List.getD, this, bV]
theorem row_some {w : World} {B n c ty : Nat} {a : Option Addr} {cs : List Value} (h : w.ownsRow B ty 1 (.slice a n c) n cs) (hn : 0 < n) : ∃ g, a = some ⟨g, 0, none⟩ ∧ B ≤ g ∧ g < w.heap.size ∧ (∃ cur, w.heap[g]? = some (.cells cur ty)) ∧ ∀ k, w.frozen? ⟨g, k, none⟩ = false := by
 rcases h.2 with ⟨-, e⟩ | ⟨g, cap, cur, e, hb, hh, -⟩
 ·omega
 ·cases e
  exact ⟨g, rfl, hb, (Array.getElem?_eq_some_iff.1 hh).1, ⟨cur, hh⟩, fun k => h.frozenAt k⟩
theorem map_take_snoc {zs : List Int} {k : Nat} (hk : k < zs.length) : (zs.take k).map iV ++ [iV (zs.getD k 0)] = (zs.take (k + 1)).map iV := by
 rw [List.take_add_one, List.getElem?_eq_getElem hk, List.map_append]
 simp [List.getD, hk]
set_option maxRecDepth 100000 in
set_option maxHeartbeats 8000000 in
theorem rplaces_any {w : World} {a : Option Addr} {l c : Nat} {ts : List X.It} (h : ItsV w a l c ts) (hok : ∀ t ∈ ts, X.itOk t = true) (hl : l ≤ 20000) {B cl : Nat} {al : Option Addr} {bs : List Bool} (hbs : w.ownsRow B 4 1 (.slice al l cl) l (bs.map bV)) (hlen : bs.length = l) :
  Calls Tryz.prog 31 #[.slice a l c, .slice al l cl] w fun e w' => ∃ ao co, e = .returned (.tuple #[.slice ao l co, .int .i64 (Z.tot (Z.opsL ts bs))]) ∧ w'.ownsRow w.heap.size 3 1 (.slice ao l co) l ((Z.ats (Z.opsL ts bs)).map iV) ∧ Below w.heap.size w w' := by
 obtain ⟨it, hit, ht0, ht1, ht2⟩ := info_parts infoI
 have HV : Hid _ := h
 have HC : Hid (ts.length = l) := h.count
 have HOK : Hid (∀ t ∈ ts, X.itOk t = true) := hok
 have HBS : Hid (w.ownsRow B 4 1 (.slice al l cl) l (bs.map bV)) := hbs
 have HLEN : Hid (bs.length = l) := hlen
 have HOL : Hid ((Z.opsL ts bs).length = l) := by show _ = _; rw [Z.opsL_len (by rw [hlen, h.count])]; exact h.count
 have HAT : Hid (∀ k, k < l → (Z.opsL ts bs).getD k 0 = Z.opL (ts.getD k X.noIt) (bs.getD k false)) := fun k hk => Z.opsL_at (by rw [HLEN.out, HC.out]) (by rw [HC.out]; exact hk)
 obtain ⟨os, hos⟩ : ∃ os, Z.opsL ts bs = os := ⟨_, rfl⟩
 rw [hos] at HOL HAT ⊢
 clear h hok hbs hlen hos
 go_enter Tryz.func31, Tryz.ntmps31
 go_wp2_with fail
 go_loopg [6, 7, 8] l (fun r ov pv iv wq => ∃ (k : Nat) (ao : Option Addr) (co : Nat), r = l - k ∧ iv = .int .i64 k ∧ k ≤ l ∧ pv = .int .i64 (Z.beg os k) ∧ ov = .slice ao k co ∧ Hid (wq.ownsRow w.heap.size 3 1 (.slice ao k co) k (((Z.ats os).take k).map iV)) ∧ Hid (Below w.heap.size w wq))
 case atStart => exact ⟨0, none, 0, rfl, rfl, Nat.zero_le _, by rw [Z.beg_zero], rfl, (by simpa using World.ownsRow_nil w w.heap.size 3 1 : w.ownsRow _ _ _ _ _ _), Below.refl _ _⟩
 case round =>
  obtain ⟨k, ao, co, rfl, rfl, hk, rfl, rfl, HO, HB⟩ := hrel
  by_cases hlt : k < l
  ·have hii : (k : Int) < l := by omega
   have hin : 0 ≤ (k : Int) := by omega
   have hbg := beg_range os k
   obtain ⟨p, hp⟩ : ∃ p, Z.beg os k = p := ⟨_, rfl⟩
   have HP : Hid (Z.beg os k = p) := hp
   rw [hp] at hbg ⊢
   have HAK : Hid ((Z.ats os).getD k 0 = p) := by show _ = _; rw [Z.ats_at os (by rw [HOL.out]; exact hlt)]; exact hp
   clear hp
   go_upto_region 6 with fail
   go_wp2_with (first | (at_builtin; refine O.wpList_append_more rfl _ _ 62 rfl w.heap.size 3 it _ 1 8 Tryz.underlying62 hit ht0 ht1 ht2 rfl (by decide) (n := k) (xs := ((Z.ats os).take k).map iV) (v := .slice ao k co) rfl (O.row_below HO.out (bl1 _ _)) (Nat.le_trans HB.out.size (bl1 _ _).size) (a := some ⟨wr.heap.size, 0, none⟩) (l := 1) (c := 1) (cs := [iV p]) rfl (by intro e; cases e) rfl (fun ad' e j u hu => by cases e; rw [Addr.add_lit, Nat.zero_add]; exact cellA rfl (by simpa [iV] using hu)) (fun u hu => by simp [iV] at hu; subst hu; rfl) (show (k + 1) * 8 ≤ 140737488355328 by omega) (show k + 1 ≤ 140737488355328 by omega) ?_; intro v2 Y2 ho2 hg2 hat2; obtain ⟨a2, c2, rfl⟩ := own_slice ho2; have HY2 : Hid (Below w.heap.size w Y2) := d_low (wr := wr) HB.out HO.out hg2; have HO2 : Hid (Y2.ownsRow w.heap.size 3 1 (.slice a2 (k + 1) c2) (k + 1) (((Z.ats os).take (k + 1)).map iV)) := (by show World.ownsRow _ _ _ _ _ _ _; rw [← map_take_snoc (by rw [Z.ats_len, HOL.out]; exact hlt), HAK.out]; exact ho2); clear ho2 hg2 hat2) | fail)
   obtain ⟨b, off, t, aw, lw, cw, rfl, hg, hmem, c0, c1, c2', c3, c4, c5, c6, hi⟩ := (HV.out.below HY2.out).at hlt
   have hok := HOK.out t hmem
   have HSD : Hid (Z.szD t (bs.getD k false) = Z.sz (os.getD k 0)) := by show _ = _; rw [HAT.out k hlt, hg]; exact Z.szD_ok hok _
   have hbs2 := own_thru HBS.out HY2.out
   obtain ⟨gl, rfl, -, -, -, -⟩ := row_some hbs2 (by omega : 0 < l)
   have cb := row_bool hbs2 hlt
   generalize bs.getD k false = bb at cb HSD
   have HBE : Hid (Z.beg os (k + 1) = p + Z.sz (os.getD k 0)) := by show _ = _; rw [Z.beg_succ os (by rw [HOL.out]; exact hlt), HP.out]
   have hszr := sz_range (os.getD k 0)
   have HSZ : Hid (∀ W, Calls Tryz.prog 58 #[itV t (.slice aw lw cw), .bool bb] W fun e w' => e = .returned (.int .i64 (Z.sz (os.getD k 0))) ∧ Below W.heap.size W w') := fun W => by rw [← HSD.out]; exact dsize_any t aw lw cw bb W
   generalize Z.sz (os.getD k 0) = z at HSZ HBE hszr
   have HK : Hid (∀ w', Below Y2.heap.size Y2 w' → w'.cell? ⟨b, off + k * 7, none⟩ = some (.int .i64 t.kind) ∧ w'.cell? ⟨b, off + k * 7 + 1, none⟩ = some (.string (X.str t.name)) ∧ w'.cell? ⟨b, off + k * 7 + 2, none⟩ = some (.int .i64 t.op) ∧ w'.cell? ⟨b, off + k * 7 + 3, none⟩ = some (.int .i64 t.a) ∧ w'.cell? ⟨b, off + k * 7 + 4, none⟩ = some (.int .i64 t.b) ∧ w'.cell? ⟨b, off + k * 7 + 5, none⟩ = some (.int .i64 t.n) ∧ w'.cell? ⟨b, off + k * 7 + 6, none⟩ = some (.slice aw lw cw) ∧ w'.cell? ⟨gl, k, none⟩ = some (.bool bb)) := fun W' hb => ⟨cell_thru hb c0, cell_thru hb c1, cell_thru hb c2', cell_thru hb c3, cell_thru hb c4, cell_thru hb c5, cell_thru hb c6, cell_thru hb cb⟩
   have hwr : IntKind.i64.wrap (p + z) = p + z := by rw [IntKind.wrap_i64]; omega
   clear hbs2 hg hmem hi hok HSD
   go_wp2_with fail
   go_region_held3 (fun w' : World => w'.cell? ⟨b, off + k * 7, none⟩ = some (.int .i64 t.kind) ∧ w'.cell? ⟨b, off + k * 7 + 1, none⟩ = some (.string (X.str t.name)) ∧ w'.cell? ⟨b, off + k * 7 + 2, none⟩ = some (.int .i64 t.op) ∧ w'.cell? ⟨b, off + k * 7 + 3, none⟩ = some (.int .i64 t.a) ∧ w'.cell? ⟨b, off + k * 7 + 4, none⟩ = some (.int .i64 t.b) ∧ w'.cell? ⟨b, off + k * 7 + 5, none⟩ = some (.int .i64 t.n) ∧ w'.cell? ⟨b, off + k * 7 + 6, none⟩ = some (.slice aw lw cw) ∧ w'.cell? ⟨gl, k, none⟩ = some (.bool bb)) (first | (exact HK.out _ hB1) | go_keep) ((go_at_call 58; refine (HSZ.out _).mono ?_; rintro e y1 ⟨rfl, hb1⟩; have hB1 := (bl_drewN (Below.refl Y2.heap.size Y2) _).trans hb1))
   have HB1 : Hid (Below Y2.heap.size Y2 y1) := hB1
   clear hB1 hb1
   go_wp2_with fail
   go_roundg (l - (k + 1))
   case measure => omega
   case rel => exact ⟨k + 1, a2, c2, rfl, by go_num, by omega, by rw [HBE.out], rfl, own_thru HO2.out HB1.out, HY2.out.trans (HB1.out.mono HY2.out.size)⟩
  ·obtain rfl : k = l := by omega
   have hii : ¬ (k : Int) < k := by omega
   go_wp2_with fail
   go_ret2
   refine ⟨ao, co, ?_, ?_, HB.out⟩
   ·unfold Z.tot
    rw [HOL.out]
    rfl
   ·have e : (Z.ats os).take k = Z.ats os := List.take_of_length_le (by rw [Z.ats_len, HOL.out]; exact Nat.le_refl _)
    have := HO.out
    rwa [e] at this

end Go.Proofs.YtgjingleolhkbaaGreatDoor

namespace Go.Proofs.YtgjingleolhkbaaGreatDoor
namespace Z
open Go.RowKit
set_option linter.unusedVariables false
set_option linter.unusedSimpArgs false

def dist (ts : List X.It) (bs : List Bool) (i : Nat) : Int := (ats (opsL ts bs)).getD (labN ts (ts.getD i X.noIt).name) 0 - ((ats (opsL ts bs)).getD i 0 + szD (ts.getD i X.noIt) false)
def farD (d : Int) : Bool := decide (d < -128) || decide (127 < d)
def farB (ts : List X.It) (bs : List Bool) (i : Nat) : Bool := jumpD (ts.getD i X.noIt) && (!(bs.getD i false) && farD (dist ts bs i))
def newB (ts : List X.It) (bs : List Bool) (i : Nat) : Bool := bs.getD i false || farB ts bs i
def nextL (ts : List X.It) (bs : List Bool) : List Bool := (List.range ts.length).map (newB ts bs)
def moreTo (ts : List X.It) (bs : List Bool) (k : Nat) : Bool := (List.range k).any (farB ts bs)
theorem moreTo_succ (ts : List X.It) (bs : List Bool) (k : Nat) : moreTo ts bs (k + 1) = (moreTo ts bs k || farB ts bs k) := by
 unfold moreTo
 rw [List.range_succ, List.any_append]
 simp
theorem nextL_len (ts : List X.It) (bs : List Bool) : (nextL ts bs).length = ts.length := by unfold nextL; simp
theorem nextL_at (ts : List X.It) (bs : List Bool) {i : Nat} (hi : i < ts.length) : (nextL ts bs).getD i false = newB ts bs i := by
 unfold nextL
 simp [List.getD, hi]
theorem js_nodup (ts : List X.It) : ((js ts).map (·.1)).Nodup := by
 unfold js jumpsOf
 rw [List.map_map]
 have h1 : ((ts.zipIdx.filter fun p => jump p.1).map ((·.1) ∘ fun p : X.It × Nat => (p.2, labN ts p.1.name))) = (ts.zipIdx.filter fun p => jump p.1).map (·.2) := rfl
 rw [h1]
 refine List.Nodup.sublist (List.Sublist.map _ List.filter_sublist) ?_
 rw [List.zipIdx_map_snd]
 exact List.nodup_range'
theorem js_key {ts : List X.It} {y : Nat × Nat} (hy : y ∈ js ts) : y.2 = labN ts (ts.getD y.1 X.noIt).name := by
 unfold js jumpsOf at hy
 obtain ⟨p, hp, rfl⟩ := List.mem_map.1 hy
 obtain ⟨hp, hj⟩ := List.mem_filter.1 hp
 have := List.mem_zipIdx_iff_getElem?.1 hp
 simp only [List.getD, this]
 rfl
theorem js_jmp {ts : List X.It} {y : Nat × Nat} (hy : y ∈ js ts) : jump (ts.getD y.1 X.noIt) = true := by
 unfold js jumpsOf at hy
 obtain ⟨p, hp, rfl⟩ := List.mem_map.1 hy
 obtain ⟨hp, hj⟩ := List.mem_filter.1 hp
 have := List.mem_zipIdx_iff_getElem?.1 hp
 simp only [List.getD, this]
 exact hj
theorem tooFar_set {ts : List X.It} {o ads : List Int} {i : Nat} {v : Int} {x : Nat × Nat} (h : x.1 ≠ i) : tooFar ts (o.set i v) ads x = tooFar ts o ads x := by
 unfold tooFar far
 rw [getD_set_ne' _ _ _ _ h]
theorem lens_at {ts : List X.It} {ads : List Int} (i : Nat) : ∀ (l : List (Nat × Nat)) (o : List Int), (l.map (·.1)).Nodup → (∀ j ∈ l, j.1 < o.length) → (lens ts ads l o).getD i 0 = if (l.any fun j => decide (j.1 = i) && tooFar ts o ads j) = true then (ts.getD i X.noIt).op else o.getD i 0
 | [], o, _, _ => rfl
 | j :: r, o, hn, hj => by
  rw [List.map_cons, List.nodup_cons] at hn
  have hne : ∀ x ∈ r, x.1 ≠ j.1 := fun x hx e => hn.1 (by rw [← e]; exact List.mem_map_of_mem hx)
  have hjl := hj j (by simp)
  rw [lens, List.any_cons]
  by_cases hf : tooFar ts o ads j = true
  ·rw [if_pos hf, lens_at i r _ hn.2 (by intro x hx; rw [List.length_set]; exact hj x (by simp [hx]))]
   have e1 : (r.any fun x => decide (x.1 = i) && tooFar ts (o.set j.1 (ts.getD j.1 X.noIt).op) ads x) = r.any fun x => decide (x.1 = i) && tooFar ts o ads x := by
    rw [Bool.eq_iff_iff, List.any_eq_true, List.any_eq_true]
    constructor
    ·rintro ⟨x, hx, e⟩; rw [tooFar_set (hne x hx)] at e; exact ⟨x, hx, e⟩
    ·rintro ⟨x, hx, e⟩; rw [← tooFar_set (v := (ts.getD j.1 X.noIt).op) (hne x hx)] at e; exact ⟨x, hx, e⟩
   rw [e1, hf, Bool.and_true]
   by_cases hi : j.1 = i
   ·subst hi
    rw [decide_eq_true rfl, Bool.true_or, if_pos rfl]
    split
    ·rfl
    ·exact getD_set_eq' _ _ _ hjl
   ·rw [decide_eq_false hi, Bool.false_or, getD_set_ne' _ _ _ _ (fun e => hi e.symm)]
  ·have hf' : tooFar ts o ads j = false := by simpa using hf
   rw [if_neg hf, lens_at i r _ hn.2 (fun x hx => hj x (by simp [hx])), hf', Bool.and_false, Bool.false_or]
theorem js_any {ts : List X.It} {f : Nat × Nat → Bool} {i : Nat} (hi : i < ts.length) : ((js ts).any fun j => decide (j.1 = i) && f j) = (jump (ts.getD i X.noIt) && f (i, labN ts (ts.getD i X.noIt).name)) := by
 rw [Bool.eq_iff_iff, List.any_eq_true, Bool.and_eq_true]
 constructor
 ·rintro ⟨x, hx, e⟩
  simp only [Bool.and_eq_true, decide_eq_true_eq] at e
  obtain ⟨rfl, e⟩ := e
  refine ⟨js_jmp hx, ?_⟩
  rw [← js_key hx]
  exact e
 ·rintro ⟨h1, h2⟩
  exact ⟨_, js_mem hi h1, by show (decide (i = i) && _) = true; rw [decide_eq_true rfl, Bool.true_and]; exact h2⟩
section
variable {ts : List X.It} {bs : List Bool}
theorem far_is (hok : ∀ t ∈ ts, X.itOk t = true) (hl : bs.length = ts.length) {i : Nat} (hi : i < ts.length) : farB ts bs i = (jump (ts.getD i X.noIt) && tooFar ts (opsL ts bs) (ats (opsL ts bs)) (i, labN ts (ts.getD i X.noIt).name)) := by
 have hm : ts.getD i X.noIt ∈ ts := by simp [List.getD, hi]
 unfold farB
 rw [jump_ok (hok _ hm)]
 cases hj : jump (ts.getD i X.noIt) with
 | false => rfl
 | true =>
  rw [Bool.true_and, Bool.true_and]
  unfold tooFar
  simp only
  rw [opsL_at hl hi]
  cases hb : bs.getD i false with
  | true =>
   have : opL (ts.getD i X.noIt) true = (ts.getD i X.noIt).op := by unfold opL; simp
   rw [this]
   simp
  | false =>
   have e1 : opL (ts.getD i X.noIt) false = shortOf (ts.getD i X.noIt).op := by unfold opL; rw [hj]; rfl
   have e2 : shortOf (ts.getD i X.noIt).op ≠ (ts.getD i X.noIt).op := by
    rcases (jump_iff _).1 hj with e | e | e <;> rw [e] <;> decide
   rw [e1, decide_eq_true e2]
   unfold farD dist far
   rw [opsL_at hl hi, hb, szD_ok (hok _ hm)]
   rfl
theorem more_any (hok : ∀ t ∈ ts, X.itOk t = true) (hl : bs.length = ts.length) : moreTo ts bs ts.length = anyFar ts (opsL ts bs) := by
 unfold moreTo anyFar
 rw [Bool.eq_iff_iff, List.any_eq_true, List.any_eq_true]
 constructor
 ·rintro ⟨i, hi, e⟩
  have hi' := List.mem_range.1 hi
  rw [far_is hok hl hi', Bool.and_eq_true] at e
  exact ⟨_, js_mem hi' e.1, e.2⟩
 ·rintro ⟨j, hj, e⟩
  have hi := (js_in ts j hj).1
  refine ⟨j.1, List.mem_range.2 hi, ?_⟩
  rw [far_is hok hl hi, js_jmp hj, ← js_key hj]
  exact e
theorem next_ops (hok : ∀ t ∈ ts, X.itOk t = true) (hl : bs.length = ts.length) : opsL ts (nextL ts bs) = lens ts (ats (opsL ts bs)) (js ts) (opsL ts bs) := by
 have hn := nextL_len ts bs
 have ho := opsL_len hl
 apply List.ext_getElem?
 intro i
 by_cases hi : i < ts.length
 ·have h1 := opsL_at hn hi
  have h2 := lens_at (ts := ts) (ads := ats (opsL ts bs)) i (js ts) (opsL ts bs) (js_nodup ts) (fun j hj => by rw [ho]; exact (js_in ts j hj).1)
  rw [js_any hi, ← far_is hok hl hi, opsL_at hl hi] at h2
  have h3 : opL (ts.getD i X.noIt) ((nextL ts bs).getD i false) = if farB ts bs i = true then (ts.getD i X.noIt).op else opL (ts.getD i X.noIt) (bs.getD i false) := by
   rw [nextL_at ts bs hi]
   unfold newB
   cases hf : farB ts bs i with
   | true => unfold opL; simp
   | false => simp
  have l1 : i < (opsL ts (nextL ts bs)).length := by rw [opsL_len hn]; exact hi
  have l2 : i < (lens ts (ats (opsL ts bs)) (js ts) (opsL ts bs)).length := by rw [lens_len, ho]; exact hi
  have h4 := h1.trans (h3.trans h2.symm)
  simp only [List.getD, List.getElem?_eq_getElem l1, List.getElem?_eq_getElem l2, Option.getD_some] at h4
  rw [List.getElem?_eq_getElem l1, List.getElem?_eq_getElem l2, h4]
 ·rw [List.getElem?_eq_none (by rw [opsL_len hn]; omega), List.getElem?_eq_none (by rw [lens_len, ho]; omega)]
theorem shorts_lt {o : List Int} (hj : ∀ x ∈ js ts, x.1 < o.length) (ha : anyFar ts o = true) : shorts ts (lens ts (ats o) (js ts) o) < shorts ts o := by
 unfold anyFar at ha
 obtain ⟨a, x, b, e, h1, h2⟩ := first_far ha
 have h3 := lens_lt e h1 h2 hj
 have h4 : lens ts (ats o) (js ts) o = lens ts (ats o) (x :: b) o := by
  conv => lhs; rw [e]
  exact lens_skip h1
 rw [h4]
 omega
def OnWay (ts : List X.It) (bs : List Bool) : Prop := bs.length = ts.length ∧ ∃ n, shorts ts (opsL ts bs) ≤ n ∧ ops ts = settle ts n (opsL ts bs)
theorem OnWay.start (ts : List X.It) : OnWay ts (List.replicate ts.length false) := by
 have h0 : opsL ts (List.replicate ts.length false) = ts.map op0 := by
  unfold opsL
  apply List.ext_getElem?
  intro i
  by_cases hi : i < ts.length
  ·simp [hi, opL, op0]
  ·simp [hi]
 refine ⟨by simp, ts.length, ?_, ?_⟩
 ·exact shorts_le ts _
 ·rw [h0]; rfl
theorem OnWay.next (hok : ∀ t ∈ ts, X.itOk t = true) (h : OnWay ts bs) (hm : moreTo ts bs ts.length = true) : OnWay ts (nextL ts bs) ∧ shorts ts (opsL ts (nextL ts bs)) < shorts ts (opsL ts bs) := by
 obtain ⟨hl, n, hn, hs⟩ := h
 rw [more_any hok hl] at hm
 have hlt := shorts_lt (ts := ts) (o := opsL ts bs) (fun x hx => by rw [opsL_len hl]; exact (js_in ts x hx).1) hm
 rw [← next_ops hok hl] at hlt
 refine ⟨⟨nextL_len ts bs, n - 1, by omega, ?_⟩, hlt⟩
 obtain ⟨m, rfl⟩ : ∃ m, n = m + 1 := ⟨n - 1, by omega⟩
 rw [hs, settle, if_pos hm, next_ops hok hl]
 rfl
theorem OnWay.stop (hok : ∀ t ∈ ts, X.itOk t = true) (h : OnWay ts bs) (hm : moreTo ts bs ts.length = false) : nextL ts bs = bs ∧ ops ts = opsL ts bs := by
 obtain ⟨hl, n, hn, hs⟩ := h
 refine ⟨?_, ?_⟩
 ·apply List.ext_getElem?
  intro i
  by_cases hi : i < ts.length
  ·have h1 := nextL_at ts bs hi
   have h2 : farB ts bs i = false := by
    unfold moreTo at hm
    rw [List.any_eq_false] at hm
    simpa using hm i (List.mem_range.2 hi)
   unfold newB at h1
   rw [h2, Bool.or_false] at h1
   have l1 : i < (nextL ts bs).length := by rw [nextL_len]; exact hi
   have l2 : i < bs.length := by omega
   simp only [List.getD, List.getElem?_eq_getElem l1, List.getElem?_eq_getElem l2, Option.getD_some] at h1
   rw [List.getElem?_eq_getElem l1, List.getElem?_eq_getElem l2, h1]
  ·rw [List.getElem?_eq_none (by rw [nextL_len]; omega), List.getElem?_eq_none (by omega)]
 ·rw [more_any hok hl] at hm
  rw [hs]
  cases n with
  | zero => rfl
  | succ n => rw [settle, if_neg (by rw [hm]; decide)]
end
end Z
end Go.Proofs.YtgjingleolhkbaaGreatDoor

namespace Go.Proofs.YtgjingleolhkbaaGreatDoor
open Go.RowKit Go.Maps Go.Lib
set_option linter.unusedVariables false
set_option linter.unusedSimpArgs false

theorem infoBo : (Tryz.prog.info? 4).map (fun i => (i.zero, i.size, i.bytes)) = some (some (.bool false), 1, 1) := by kernel_rfl
set_option maxRecDepth 100000 in
theorem makeBool (w : World) (N : Nat) (hN : N ≤ 65536) :
  (Instr.makeSlice 60 (.int .i64 N) (.int .i64 N)).run Tryz.prog w = .ok (.slice (some ⟨w.heap.size, 0, none⟩) N N) (w.alloc (.cells (List.replicate N (Value.bool false)).toArray 4)) := by
 obtain ⟨i, hi, h0, h1, h2⟩ := info_parts infoBo
 have := run_make (P := Tryz.prog) w 60 4 i (.bool false) Tryz.underlying60 hi h0 .i64 .i64 N N (by omega) (by omega) (by rw [h2]; omega) (by omega)
 rw [this, h1, Int.toNat_natCast]
 congr 3
 unfold madeCells
 apply Array.ext
 ·simp
 ·intro i h1 h2
  simp [Value.cells, Nat.mod_one]
theorem d_mono {w : World} {B B' : Nat} {ty : TypeId} {k n : Nat} {v : Value} {cs : List Value} (h : w.ownsRow B ty k v n cs) (hB : B' ≤ B) : w.ownsRow B' ty k v n cs :=
 ⟨h.1, h.2.imp id (fun ⟨g, cap, cur, e, hb, r⟩ => ⟨g, cap, cur, e, Nat.le_trans hB hb, r⟩)⟩
theorem made_row (w : World) (N B : Nat) (hN : N ≤ 65536) (hB : B ≤ w.heap.size) : (w.alloc (.cells (List.replicate N (Value.bool false)).toArray 4)).ownsRow B 4 1 (.slice (some ⟨w.heap.size, 0, none⟩) N N) N ((List.replicate N false).map bV) := by
 have := World.ownsRow_lit (base := B) (e := 4) (size := 1) w (List.replicate N (Value.bool false)).toArray N hB (by unfold maxLen; omega) (by simp)
 simpa [bV] using this
structure NX (w W : World) (l : Nat) (al : Option Addr) (cl : Nat) (bs : List Bool) (aa : Option Addr) (ca : Nat) (zs : List Int) (gn : Nat) (ns : List Bool) : Prop where
 low : Below w.heap.size w W
 rl : W.ownsRow w.heap.size 4 1 (.slice al l cl) l (bs.map bV)
 ra : W.ownsRow w.heap.size 3 1 (.slice aa l ca) l (zs.map iV)
 rn : W.ownsRow gn 4 1 (.slice (some ⟨gn, 0, none⟩) l l) l (ns.map bV)
 fl : ∀ g, (Value.slice al l cl).ownBlock = some g → g < gn
 fa : ∀ g, (Value.slice aa l ca).ownBlock = some g → g < gn
 hg : w.heap.size ≤ gn
 ln : ns.length = l
section
variable {w W W' : World} {l : Nat} {al : Option Addr} {cl : Nat} {bs : List Bool} {aa : Option Addr} {ca : Nat} {zs : List Int} {gn : Nat} {ns : List Bool}
theorem NX.below (h : NX w W l al cl bs aa ca zs gn ns) (hb : Below W.heap.size W W') : NX w W' l al cl bs aa ca zs gn ns :=
 ⟨h.low.trans (hb.mono h.low.size), own_thru h.rl hb, own_thru h.ra hb, own_thru h.rn hb, h.fl, h.fa, h.hg, h.ln⟩
theorem NX.store (h : NX w W l al cl bs aa ca zs gn ns) (k : Nat) (b : Bool) : NX w (W.setCell ⟨gn, k, none⟩ (.bool b)) l al cl bs aa ca zs gn (ns.set k b) := by
 obtain ⟨h1, h2⟩ := h.rn.stored k (.bool b)
 refine ⟨h.low.setCell h.hg _, h.rl.kept h2 (.inr fun e => ?_), h.ra.kept h2 (.inr fun e => ?_), ?_, h.fl, h.fa, h.hg, by rw [List.length_set]; exact h.ln⟩
 ·have := h.fl gn e; omega
 ·have := h.fa gn e; omega
 ·rw [List.map_set]
  exact h1
theorem NX.at (h : NX w W l al cl bs aa ca zs gn ns) {k : Nat} (hk : k < l) : ∃ gl ga, al = some ⟨gl, 0, none⟩ ∧ aa = some ⟨ga, 0, none⟩ ∧ W.cell? ⟨gl, k, none⟩ = some (.bool (bs.getD k false)) ∧ (∀ q, q < l → W.cell? ⟨ga, q, none⟩ = some (.int .i64 (zs.getD q 0))) ∧ W.frozen? ⟨gn, k, none⟩ = false ∧ W.cell? ⟨gn, k, none⟩ = some (.bool (ns.getD k false)) := by
 obtain ⟨gl, rfl, -, -, -, -⟩ := row_some h.rl (by omega)
 obtain ⟨ga, rfl, -, -, -, -⟩ := row_some h.ra (by omega)
 exact ⟨gl, ga, rfl, rfl, row_bool h.rl hk, fun q hq => row_int h.ra hq, h.rn.frozenAt k, row_bool h.rn hk⟩
end
namespace Z
def part (ts : List X.It) (bs : List Bool) (l i : Nat) : List Bool := (List.range i).map (newB ts bs) ++ List.replicate (l - i) false
theorem part_zero (ts : List X.It) (bs : List Bool) (l : Nat) : part ts bs l 0 = List.replicate l false := by simp [part]
theorem part_all (ts : List X.It) (bs : List Bool) {l : Nat} (h : ts.length = l) : part ts bs l l = nextL ts bs := by simp [part, nextL, h]
theorem part_set (ts : List X.It) (bs : List Bool) {l i : Nat} (hi : i < l) : (part ts bs l i).set i (newB ts bs i) = part ts bs l (i + 1) := by
 unfold part
 rw [List.set_append_right _ _ (by simp), List.range_succ, List.map_append, List.append_assoc]
 congr 1
 rw [List.length_map, List.length_range, Nat.sub_self, show l - i = (l - (i + 1)) + 1 by omega, List.replicate_succ, List.set_cons_zero]
 rfl
theorem skip_yes {jd bi : Bool} (h : (!jd || bi) = true) (x : Bool) : (jd && (!bi && x)) = false := by cases jd <;> cases bi <;> simp_all
theorem skip_no {jd bi : Bool} (h : (!jd || bi) = false) : jd = true ∧ bi = false := by cases jd <;> cases bi <;> simp_all
theorem labN_lt {ts : List X.It} (nm : X.By) (h : 0 < ts.length) : labN ts nm < ts.length := by
 unfold labN
 cases e : lab ts nm with
 | none => exact h
 | some i => exact (lab_some e).1
end Z
set_option maxRecDepth 100000 in
set_option maxHeartbeats 20000000 in
theorem rlengths_any {w : World} {a : Option Addr} {l c : Nat} {ts : List X.It} (h : ItsV w a l c ts) (hok : ∀ t ∈ ts, X.itOk t = true) (hl : l ≤ 20000) :
  Calls Tryz.prog 30 #[.slice a l c] w fun e w' => ∃ al cl bs, e = .returned (.slice al l cl) ∧ w'.ownsRow w.heap.size 4 1 (.slice al l cl) l (bs.map bV) ∧ bs.length = l ∧ Z.ops ts = Z.opsL ts bs ∧ Below w.heap.size w w' := by
 have HV : Hid _ := h
 have HC : Hid (ts.length = l) := h.count
 have HOK : Hid (∀ t ∈ ts, X.itOk t = true) := hok
 have hmk := makeBool w l (by omega)
 obtain ⟨W0, hW0⟩ : ∃ W0, w.alloc (.cells (List.replicate l (Value.bool false)).toArray 4) = W0 := ⟨_, rfl⟩
 rw [hW0] at hmk
 have HR0 : Hid (W0.ownsRow w.heap.size 4 1 (.slice (some ⟨w.heap.size, 0, none⟩) l l) l ((List.replicate l false).map bV)) := by subst hW0; exact made_row w l _ (by omega) (Nat.le_refl _)
 have HB00 : Hid (Below w.heap.size w W0) := by subst hW0; exact bl1 _ _
 have HS0 : Hid (Z.OnWay ts (List.replicate l false)) := by rw [← HC.out]; exact Z.OnWay.start ts
 clear h hok hW0
 go_enter Tryz.func30, Tryz.ntmps30
 go_wp2_with fail
 clear hmk
 go_loopg [3, 4, 5, 6, 7, 8, 9, 10, 11] (Z.shorts ts (Z.opsL ts (List.replicate l false))) (fun r lv v4 v5 v6 v7 v8 v9 v10 v11 wq => ∃ (al : Option Addr) (cl : Nat) (bs : List Bool), lv = .slice al l cl ∧ r = Z.shorts ts (Z.opsL ts bs) ∧ Hid (wq.ownsRow w.heap.size 4 1 (.slice al l cl) l (bs.map bV)) ∧ Hid (Z.OnWay ts bs) ∧ Hid (Below w.heap.size w wq))
 case atStart => exact ⟨_, _, _, rfl, rfl, HR0, HS0, HB00⟩
 case round =>
  obtain ⟨al, cl, bs, rfl, rfl, HR, HW, HB⟩ := hrel
  have HBL : Hid (bs.length = l) := by rw [← HC.out]; exact HW.out.1
  go_wp2_with fail
  refine (rplaces_any (HV.out.below HB.out) HOK.out hl HR.out HBL.out).mono ?_
  rintro e y ⟨aa, ca, rfl, hra, hby⟩
  obtain ⟨zs, hzs⟩ : ∃ zs, Z.ats (Z.opsL ts bs) = zs := ⟨_, rfl⟩
  rw [hzs] at hra
  have HZS : Hid (Z.ats (Z.opsL ts bs) = zs) := hzs
  generalize Z.tot (Z.opsL ts bs) = tt
  have hmk := makeBool y l (by omega)
  obtain ⟨W1, hW1⟩ : ∃ W1, y.alloc (.cells (List.replicate l (Value.bool false)).toArray 4) = W1 := ⟨_, rfl⟩
  rw [hW1] at hmk
  obtain ⟨gn, hgn⟩ : ∃ gn, y.heap.size = gn := ⟨_, rfl⟩
  have HN0 : Hid (NX w W1 l al cl bs aa ca zs gn (Z.part ts bs l 0)) := by
   have hb1 : Below y.heap.size y W1 := by subst hW1; exact bl1 _ _
   have hyl : Below w.heap.size w y := HB.out.trans (hby.mono HB.out.size)
   have hrl := own_thru HR.out hby
   have hra' := d_mono hra HB.out.size
   refine ⟨hyl.trans (hb1.mono hyl.size), own_thru hrl hb1, own_thru hra' hb1, ?_, fun g e => ?_, fun g e => ?_, ?_, ?_⟩
   ·subst hgn hW1; rw [Z.part_zero]; exact made_row y l _ (by omega) (Nat.le_refl _)
   ·have := (hrl.lt g e).2; omega
   ·have := (hra'.lt g e).2; omega
   ·have := hyl.size; omega
   ·rw [Z.part_zero]; simp
  clear hra hby hzs HR HB hW1
  go_wp2_with fail
  try rw [hgn]
  clear hmk hgn
  go_loopg [6, 8, 9, 10, 11] l (fun r mv iv v9 v10 v11 wq => ∃ (i : Nat), r = l - i ∧ iv = .int .i64 i ∧ i ≤ l ∧ mv = .bool (Z.moreTo ts bs i) ∧ Hid (NX w wq l al cl bs aa ca zs gn (Z.part ts bs l i)))
  case atStart => exact ⟨0, rfl, rfl, Nat.zero_le _, rfl, HN0⟩
  case round =>
   obtain ⟨i, rfl, rfl, hi, rfl, HN⟩ := hrel
   by_cases hlt : i < l
   ·have hii : (i : Int) < l := by omega
    have hin : 0 ≤ (i : Int) := by omega
    obtain ⟨gl, ga, rfl, rfl, cb, cz, fz, cn⟩ := HN.out.at hlt
    obtain ⟨bi, hbi⟩ : ∃ bi, bs.getD i false = bi := ⟨_, rfl⟩
    rw [hbi] at cb
    have HBI : Hid (bs.getD i false = bi) := hbi
    obtain ⟨W2, hW2⟩ : ∃ W2, wr.setCell ⟨gn, i, none⟩ (.bool bi) = W2 := ⟨_, rfl⟩
    have HN2 : Hid (NX w W2 l (some ⟨gl, 0, none⟩) cl bs (some ⟨ga, 0, none⟩) ca zs gn ((Z.part ts bs l i).set i bi)) := by subst hW2; exact HN.out.store i bi
    clear cz hbi
    go_upto_region 9 with fail
    try rw [hW2]
    clear cb fz cn hW2
    obtain ⟨b, off, t, aw, lw, cw, rfl, hg, hmem, c0, c1, c2, c3, c4, c5, c6, hit⟩ := (HV.out.below HN2.out.low).at hlt
    have HGD : Hid (ts.getD i X.noIt = t) := hg
    have HCE : Hid (∀ y, Below W2.heap.size W2 y → (y.cell? ⟨b, off + i * 7, none⟩ = some (.int .i64 t.kind) ∧ y.cell? ⟨b, off + i * 7 + 1, none⟩ = some (.string (X.str t.name)) ∧ y.cell? ⟨b, off + i * 7 + 2, none⟩ = some (.int .i64 t.op) ∧ y.cell? ⟨b, off + i * 7 + 3, none⟩ = some (.int .i64 t.a) ∧ y.cell? ⟨b, off + i * 7 + 4, none⟩ = some (.int .i64 t.b) ∧ y.cell? ⟨b, off + i * 7 + 5, none⟩ = some (.int .i64 t.n) ∧ y.cell? ⟨b, off + i * 7 + 6, none⟩ = some (.slice aw lw cw))) := fun y hy => ⟨cell_thru hy c0, cell_thru hy c1, cell_thru hy c2, cell_thru hy c3, cell_thru hy c4, cell_thru hy c5, cell_thru hy c6⟩
    have HCL : Hid (∀ y, Below W2.heap.size W2 y → y.cell? ⟨gl, i, none⟩ = some (.bool bi)) := fun y hy => by
     obtain ⟨gl', ga', e1, -, cb, -⟩ := (HN2.out.below hy).at hlt
     cases e1
     rw [← HBI.out]
     exact cb
    have hjm := rjump_any t aw lw cw W2
    have HFB : Hid (Z.farB ts bs i = (Z.jumpD t && (!bi && Z.farD (Z.dist ts bs i)))) := by show _ = _; unfold Z.farB; rw [HGD.out, HBI.out]
    have HLB : Hid (∀ y, Below W2.heap.size W2 y → Calls Tryz.prog 33 #[.slice (some ⟨b, off, none⟩) l c, .string (X.str t.name)] y fun e w' => e = .returned (.tuple #[.int .i64 (Z.labN ts t.name), .bool (Z.lab ts t.name).isSome]) ∧ Below y.heap.size y w') := fun y hy => rlabel_any ((HV.out.below HN2.out.low).below hy) t.name
    have HMS : Hid (Z.moreTo ts bs (i + 1) = (Z.moreTo ts bs i || Z.farB ts bs i)) := Z.moreTo_succ ts bs i
    clear hg hmem hit
    obtain ⟨jd, hjd⟩ : ∃ jd, Z.jumpD t = jd := ⟨_, rfl⟩
    rw [hjd] at hjm HFB
    clear hjd
    go_cut [48] from 24 to 82 (fun v wc => v = .bool (!jd || bi) ∧ Hid (Below W2.heap.size W2 wc))
    case first =>
     cases jd
     ·go_wp2_with fail
      refine hjm.mono ?_
      rintro e y ⟨rfl, hy⟩
      have HY : Hid (Below W2.heap.size W2 y) := hy
      clear hy hjm
      go_wp2_with fail
      go_meet
      case rel => exact ⟨rfl, HY.out⟩
     ·go_wp2_with fail
      refine hjm.mono ?_
      rintro e y ⟨rfl, hy⟩
      have HY : Hid (Below W2.heap.size W2 y) := hy
      have cl1 := HCL.out y hy
      clear hy hjm c0 c1 c2 c3 c4 c5 c6
      go_wp2_with fail
      go_meet
      case rel => exact ⟨rfl, HY.out⟩
    case rest =>
    obtain ⟨rfl, HW2⟩ := hcut
    clear hjm c0 c1 c2 c3 c4 c5 c6
    by_cases hskip : (!jd || bi) = true
    ·have HNE : Hid (Z.farB ts bs i = false) := by
      show _ = _
      rw [HFB.out]
      exact Z.skip_yes hskip _
     have HN3 : Hid (NX w wc l (some ⟨gl, 0, none⟩) cl bs (some ⟨ga, 0, none⟩) ca zs gn (Z.part ts bs l (i + 1))) := by
      show NX _ _ _ _ _ _ _ _ _ _ _
      rw [← Z.part_set ts bs hlt]
      unfold Z.newB
      rw [HNE.out, Bool.or_false, HBI.out]
      exact HN2.out.below HW2.out
     rw [hskip]
     clear hskip
     go_wp2_with fail
     go_roundg (l - (i + 1))
     case measure => omega
     case rel => exact ⟨i + 1, rfl, by go_num, by omega, by rw [HMS.out, HNE.out, Bool.or_false], HN3⟩
    ·have hs2 : (!jd || bi) = false := by simpa using hskip
     rw [hs2]
     obtain ⟨rfl, rfl⟩ : jd = true ∧ bi = false := Z.skip_no hs2
     clear hskip hs2
     rw [Bool.true_and, Bool.not_false, Bool.true_and] at HFB
     have hlb := HLB.out wc HW2.out
     obtain ⟨d0, d1, -⟩ := HCE.out wc HW2.out
     have hq := Z.labN_lt (ts := ts) t.name (by rw [HC.out]; omega)
     rw [HC.out] at hq
     have HQ : Hid (Z.labN ts t.name = Z.labN ts (ts.getD i X.noIt).name) := by show _ = _; rw [HGD.out]
     obtain ⟨q, hqq⟩ : ∃ q, Z.labN ts t.name = q := ⟨_, rfl⟩
     rw [hqq] at hlb hq HQ
     generalize (Z.lab ts t.name).isSome = isq at hlb
     clear hqq
     have hqi : (q : Int) < l := by omega
     have hq0 : 0 ≤ (q : Int) := by omega
     obtain ⟨zi, hzi⟩ : ∃ zi, zs.getD i 0 = zi := ⟨_, rfl⟩
     obtain ⟨zq, hzq⟩ : ∃ zq, zs.getD q 0 = zq := ⟨_, rfl⟩
     obtain ⟨z, hz⟩ : ∃ z, Z.szD t false = z := ⟨_, rfl⟩
     have HDI : Hid (Z.dist ts bs i = zq - (zi + z)) := by
      show _ = _
      unfold Z.dist
      rw [HZS.out, ← HQ.out, HGD.out, hzi, hzq, hz]
     have hnear := near_ats (ops := Z.opsL ts bs) (by rw [Z.opsL_len (by rw [HBL.out, HC.out]), HC.out]; exact hl)
     have hri := hnear i
     have hrq := hnear q
     rw [HZS.out, hzi] at hri
     rw [HZS.out, hzq] at hrq
     have hrz : 0 ≤ z ∧ z ≤ 10 := by
      rw [← hz]
      unfold Z.szD
      split
      ·split
       ·exact sz_range _
       ·exact sz_range _
      ·exact ⟨by decide, by decide⟩
     have HCA : Hid (∀ y, Below W2.heap.size W2 y → y.cell? ⟨ga, i, none⟩ = some (.int .i64 zi) ∧ y.cell? ⟨ga, q, none⟩ = some (.int .i64 zq)) := fun y hy => by
      obtain ⟨gl', ga', e1, e2, -, cz, -⟩ := (HN2.out.below hy).at hlt
      cases e2
      rw [← hzi, ← hzq]
      exact ⟨cz i hlt, cz q hq⟩
     have HSZ : Hid (∀ W, Calls Tryz.prog 58 #[itV t (.slice aw lw cw), .bool false] W fun e w' => e = .returned (.int .i64 z) ∧ Below W.heap.size W w') := fun W => by rw [← hz]; exact dsize_any t aw lw cw false W
     have hw1 : IntKind.i64.wrap (zi + z) = zi + z := by rw [IntKind.wrap_i64]; omega
     have hw2 : IntKind.i64.wrap (zq - (zi + z)) = zq - (zi + z) := by rw [IntKind.wrap_i64]; omega
     clear hzi hzq hz hnear
     go_wp2_with fail
     refine hlb.mono ?_
     rintro e y ⟨rfl, hy⟩
     have HY : Hid (Below W2.heap.size W2 y) := HW2.out.trans (hy.mono HW2.out.size)
     have HKY : Hid (∀ w', Below y.heap.size y w' → (w'.cell? ⟨b, off + i * 7, none⟩ = some (.int .i64 t.kind) ∧ w'.cell? ⟨b, off + i * 7 + 1, none⟩ = some (.string (X.str t.name)) ∧ w'.cell? ⟨b, off + i * 7 + 2, none⟩ = some (.int .i64 t.op) ∧ w'.cell? ⟨b, off + i * 7 + 3, none⟩ = some (.int .i64 t.a) ∧ w'.cell? ⟨b, off + i * 7 + 4, none⟩ = some (.int .i64 t.b) ∧ w'.cell? ⟨b, off + i * 7 + 5, none⟩ = some (.int .i64 t.n) ∧ w'.cell? ⟨b, off + i * 7 + 6, none⟩ = some (.slice aw lw cw)) ∧ w'.cell? ⟨ga, i, none⟩ = some (.int .i64 zi) ∧ w'.cell? ⟨ga, q, none⟩ = some (.int .i64 zq)) := fun w' hb => ⟨HCE.out w' (HY.out.trans (hb.mono HY.out.size)), HCA.out w' (HY.out.trans (hb.mono HY.out.size))⟩
     obtain ⟨⟨e0, e1, e2, e3, e4, e5, e6⟩, e7, e8⟩ := HKY.out y (Below.refl _ _)
     clear hy hlb d0 d1
     go_wp2_with fail
     go_region_held3 (fun w' : World => w'.cell? ⟨b, off + i * 7, none⟩ = some (.int .i64 t.kind) ∧ w'.cell? ⟨b, off + i * 7 + 1, none⟩ = some (.string (X.str t.name)) ∧ w'.cell? ⟨b, off + i * 7 + 2, none⟩ = some (.int .i64 t.op) ∧ w'.cell? ⟨b, off + i * 7 + 3, none⟩ = some (.int .i64 t.a) ∧ w'.cell? ⟨b, off + i * 7 + 4, none⟩ = some (.int .i64 t.b) ∧ w'.cell? ⟨b, off + i * 7 + 5, none⟩ = some (.int .i64 t.n) ∧ w'.cell? ⟨b, off + i * 7 + 6, none⟩ = some (.slice aw lw cw) ∧ w'.cell? ⟨ga, i, none⟩ = some (.int .i64 zi) ∧ w'.cell? ⟨ga, q, none⟩ = some (.int .i64 zq)) (first | (exact (fun h => ⟨h.1.1, h.1.2.1, h.1.2.2.1, h.1.2.2.2.1, h.1.2.2.2.2.1, h.1.2.2.2.2.2.1, h.1.2.2.2.2.2.2, h.2.1, h.2.2⟩) (HKY.out _ hB1)) | go_keep) ((go_at_call 58; refine (HSZ.out _).mono ?_; rintro e y1 ⟨rfl, hb1⟩; have hB1 := (bl_drewN (Below.refl y.heap.size y) _).trans hb1))
     have HB1 : Hid (Below W2.heap.size W2 y1) := HY.out.trans (hB1.mono HY.out.size)
     clear hB1 hb1 e0 e1 e2 e3 e4 e5 e6 e7 e8
     obtain ⟨d, hd⟩ : ∃ d, zq - (zi + z) = d := ⟨_, rfl⟩
     rw [hd] at HDI hw2
     try rw [hd]
     have hN4 := HN2.out.below HB1.out
     obtain ⟨gl', ga', eq1, eq2, -, -, fz, cn⟩ := hN4.at hlt
     clear eq1 eq2
     have HN4 : Hid _ := hN4
     have hdr : -2000000 ≤ d ∧ d ≤ 2000000 := by omega
     clear hd hN4 hri hrq hrz hw1
     by_cases hfar : d < -128 ∨ 127 < d
     ·have HFT : Hid (Z.farB ts bs i = true) := by
       show _ = _
       rw [HFB.out, HDI.out]
       unfold Z.farD
       simpa using hfar
      have HN5 : Hid (NX w (y1.setCell ⟨gn, i, none⟩ (.bool true)) l (some ⟨gl, 0, none⟩) cl bs (some ⟨ga, 0, none⟩) ca zs gn (Z.part ts bs l (i + 1))) := by
       have h1 := HN4.out.store i true
       rw [List.set_set] at h1
       show NX _ _ _ _ _ _ _ _ _ _ _
       rw [← Z.part_set ts bs hlt]
       unfold Z.newB
       rw [HFT.out, Bool.or_true]
       exact h1
      by_cases hd1 : d < -128
      ·clear hfar
       go_wp2_with fail
       go_roundg (l - (i + 1))
       case measure => omega
       case rel => exact ⟨i + 1, rfl, by go_num, by omega, by rw [HMS.out, HFT.out, Bool.or_true], HN5⟩
      ·have hd2 : 127 < d := by omega
       clear hfar
       go_wp2_with fail
       go_roundg (l - (i + 1))
       case measure => omega
       case rel => exact ⟨i + 1, rfl, by go_num, by omega, by rw [HMS.out, HFT.out, Bool.or_true], HN5⟩
     ·have HFF : Hid (Z.farB ts bs i = false) := by
       show _ = _
       rw [HFB.out, HDI.out]
       unfold Z.farD
       rw [decide_eq_false (fun e => hfar (.inl e)), decide_eq_false (fun e => hfar (.inr e))]
       rfl
      have HN5 : Hid (NX w y1 l (some ⟨gl, 0, none⟩) cl bs (some ⟨ga, 0, none⟩) ca zs gn (Z.part ts bs l (i + 1))) := by
       show NX _ _ _ _ _ _ _ _ _ _ _
       rw [← Z.part_set ts bs hlt]
       unfold Z.newB
       rw [HFF.out, Bool.or_false, HBI.out]
       exact HN4.out
      have hd1 : ¬ d < -128 := fun e => hfar (.inl e)
      have hd2 : ¬ 127 < d := fun e => hfar (.inr e)
      clear hfar
      go_wp2_with fail
      go_roundg (l - (i + 1))
      case measure => omega
      case rel => exact ⟨i + 1, rfl, by go_num, by omega, by rw [HMS.out, HFF.out, Bool.or_false], HN5⟩
   ·obtain rfl : i = l := by omega
    have hii : ¬ (i : Int) < i := by omega
    have HRN : Hid (wr.ownsRow w.heap.size 4 1 (.slice (some ⟨gn, 0, none⟩) i i) i ((Z.nextL ts bs).map bV)) := by
     have h1 := HN.out.rn
     rw [Z.part_all ts bs HC.out] at h1
     exact d_mono h1 HN.out.hg
    cases hmo : Z.moreTo ts bs i with
    | false =>
     have HST : Hid (Z.nextL ts bs = bs ∧ Z.ops ts = Z.opsL ts bs) := HW.out.stop HOK.out (by rw [HC.out]; exact hmo)
     clear hmo
     go_wp2_with fail
     go_ret
     have hfin : wr.ownsRow w.heap.size 4 1 (.slice (some ⟨gn, 0, none⟩) i i) i (bs.map bV) := by
      have h1 := HRN.out
      rwa [HST.out.1] at h1
     exact ⟨some ⟨gn, 0, none⟩, i, rfl, bs, hfin, HBL.out, HST.out.2, HN.out.low⟩
    | true =>
     have HNX : Hid (Z.OnWay ts (Z.nextL ts bs) ∧ Z.shorts ts (Z.opsL ts (Z.nextL ts bs)) < Z.shorts ts (Z.opsL ts bs)) := HW.out.next HOK.out (by rw [HC.out]; exact hmo)
     clear hmo
     go_wp2_with fail
     go_roundg (Z.shorts ts (Z.opsL ts (Z.nextL ts bs)))
     case measure => exact HNX.out.2
     case rel => exact ⟨_, _, Z.nextL ts bs, rfl, rfl, HRN, HNX.out.1, HN.out.low⟩

end Go.Proofs.YtgjingleolhkbaaGreatDoor
