/- A world for the witness. -/
import Derived.Test.YtikknlkdbjaonaaGreatDoorCards
import Derived.Test.YtikknlkdbjaonaaGreatDoorTie
import Derived.Test.YtikknlkdbjaonaaGreatDoorPBAv
import Derived.WalkKit
import Derived.ProofKit
import Derived.OpenShut
import Derived.ShutString
import Derived.ChangeOld
import Derived.Below
import Derived.Carry
import Derived.Deep.DeepHandedRow
import Derived.Lib.SmallJoins
import Derived.LaidMore
namespace Go.Proofs.YtikknlkdbjaonaaGreatDoor
open Go.ChangeShapes Go.WideShapes Go.ChangeAt Go.RowKit Go.Joins

/-- A block that holds these cells in the place of its own. -/
def setObj (cs : Array Value) : Obj → Obj
  | .cells _ t frozen => .cells cs t frozen
  | o => o
def pow10V : Array Value := #[.int .u64 1, .int .u64 10, .int .u64 100, .int .u64 1000, .int .u64 10000, .int .u64 100000, .int .u64 1000000, .int .u64 10000000, .int .u64 100000000, .int .u64 1000000000, .int .u64 10000000000, .int .u64 100000000000, .int .u64 1000000000000, .int .u64 10000000000000, .int .u64 100000000000000, .int .u64 1000000000000000, .int .u64 10000000000000000, .int .u64 100000000000000000, .int .u64 1000000000000000000, .int .u64 10000000000000000000]
def tab32V : Array Value := #[.int .u8 0, .int .u8 1, .int .u8 28, .int .u8 2, .int .u8 29, .int .u8 14, .int .u8 24, .int .u8 3, .int .u8 30, .int .u8 22, .int .u8 20, .int .u8 15, .int .u8 25, .int .u8 17, .int .u8 4, .int .u8 8, .int .u8 31, .int .u8 27, .int .u8 13, .int .u8 23, .int .u8 21, .int .u8 19, .int .u8 16, .int .u8 7, .int .u8 26, .int .u8 12, .int .u8 18, .int .u8 6, .int .u8 11, .int .u8 5, .int .u8 10, .int .u8 9]
def tab64V : Array Value := #[.int .u8 0, .int .u8 1, .int .u8 56, .int .u8 2, .int .u8 57, .int .u8 49, .int .u8 28, .int .u8 3, .int .u8 61, .int .u8 58, .int .u8 42, .int .u8 50, .int .u8 38, .int .u8 29, .int .u8 17, .int .u8 4, .int .u8 62, .int .u8 47, .int .u8 59, .int .u8 36, .int .u8 45, .int .u8 43, .int .u8 51, .int .u8 22, .int .u8 53, .int .u8 39, .int .u8 33, .int .u8 30, .int .u8 24, .int .u8 18, .int .u8 12, .int .u8 5, .int .u8 63, .int .u8 55, .int .u8 48, .int .u8 27, .int .u8 60, .int .u8 41, .int .u8 37, .int .u8 16, .int .u8 46, .int .u8 35, .int .u8 44, .int .u8 21, .int .u8 52, .int .u8 32, .int .u8 23, .int .u8 11, .int .u8 54, .int .u8 26, .int .u8 40, .int .u8 15, .int .u8 34, .int .u8 20, .int .u8 31, .int .u8 10, .int .u8 25, .int .u8 14, .int .u8 19, .int .u8 9, .int .u8 13, .int .u8 8, .int .u8 7, .int .u8 6]
/-- So many blocks has the settled world. -/
noncomputable def low : Nat := (World.holding Tryz.prog default ⟨#[], #[], []⟩).heap.size
/-- A world for the witness: the settled one, the tables holding what their initialisers lay, and two errors behind all. -/
noncomputable def laidWorld (os : Os) : World :=
  let w0 := World.holding Tryz.prog os ⟨#[.cells #[.string { data := #[118, 97, 108, 117, 101, 32, 111, 117, 116, 32, 111, 102, 32, 114, 97, 110, 103, 101] }] 153, .cells #[.string { data := #[105, 110, 118, 97, 108, 105, 100, 32, 115, 121, 110, 116, 97, 120] }] 153], #[], []⟩
  { w0 with heap := ((((((w0.heap.modify 0 (setObj X.wordsV)).modify 2 (setObj #[.iface 151 (.pointer (some ⟨low + 1, 0, none⟩))])).modify 3 (setObj #[.iface 151 (.pointer (some ⟨low, 0, none⟩))])).modify 4 (setObj pow10V)).modify 5 (setObj Y.opsC)).modify 6 (setObj tab32V)).modify 7 (setObj tab64V) }

end Go.Proofs.YtikknlkdbjaonaaGreatDoor

/- What the law's own examples ask for. -/
namespace Go.Proofs.YtikknlkdbjaonaaGreatDoor.Y
open Go.RowKit Go.Maps Go.Lib
set_option linter.unusedVariables false
set_option linter.unusedSimpArgs false
def m0 : Mod := ⟨[⟨6, [116], false, 0, [], [], 0, 0, [0]⟩], [⟨10, [], [], 4, 0, [], [], []⟩], [⟨1, [], [], 1, 0, 0⟩, ⟨1, [], [], 2, 0, 0⟩, ⟨1, [], [], 3, 0, 0⟩, ⟨5, [42], [], 0, 1, 2⟩, ⟨5, [43], [], 0, 0, 3⟩]⟩
theorem par1 : parse [116, 104, 114, 101, 97, 100, 32, 116, 32, 123, 32, 112, 114, 105, 110, 116, 32, 49, 32, 43, 32, 50, 32, 42, 32, 51, 59, 32, 125] = (some m0, 0) := by decide +kernel
theorem par2 : parse [116, 104, 114, 101, 97, 100, 32, 116, 32, 123, 32, 112, 114, 105, 110, 116, 32, 49, 32, 43, 32, 59, 32, 125] = (none, 2) := by decide +kernel
theorem par3 : parse [116, 104, 114, 101, 97, 100, 32, 116, 32, 123, 32, 112, 114, 105, 110, 116, 32, 49, 32, 43, 32, 50, 32, 42, 32, 51, 32, 59, 32, 125] = (some m0, 0) := by decide +kernel
theorem ito {n : Nat} (h : n < 10) : Go.Lib.itoa (n : Int) = [UInt8.ofNat (48 + n)] := by unfold Go.Lib.itoa; rw [if_neg (by omega), show ((n : Int)).toNat = n by omega, Go.Lib.decDigits, dif_pos h]
theorem wal0 : wall m0 [] = some [116, 104, 114, 101, 97, 100, 32, 116, 32, 123, 32, 112, 114, 105, 110, 116, 32, 49, 32, 43, 32, 50, 32, 42, 32, 51, 32, 59, 32, 125] := by
  have i1 : Go.Lib.itoa 1 = [49] := ito (n := 1) (by decide)
  have i2 : Go.Lib.itoa 2 = [50] := ito (n := 2) (by decide)
  have i3 : Go.Lib.itoa 3 = [51] := ito (n := 3) (by decide)
  have l1 : lev [43] = 9 := by decide
  have l2 : lev [42] = 10 := by decide
  simp [l1, l2, wall, m0, wdecls, wdecl, wdK, wblk, wlist, wstmt, wvalue, wexp, wpart, wopen, puts, put1, noS, noE, clo, i1, i2, i3]
theorem prt0 : prt m0 = some [116, 104, 114, 101, 97, 100, 32, 116, 32, 123, 32, 112, 114, 105, 110, 116, 32, 49, 32, 43, 32, 50, 32, 42, 32, 51, 32, 59, 32, 125] := by
  unfold prt
  rw [wal0, Option.bind_some, par3, if_pos rfl]
theorem szb (a : Array UInt8) (h : a.size ≤ 100) : (ByteArray.mk a).size ≤ maxLen := by unfold maxLen; show a.size ≤ _; omega
theorem px1 (w : World) (he : Env w) : Calls Tryz.prog 7 #[.string { data := #[116, 104, 114, 101, 97, 100, 32, 116, 32, 123, 32, 112, 114, 105, 110, 116, 32, 49, 32, 43, 32, 50, 32, 42, 32, 51, 59, 32, 125] }] w (PSOut w (some m0, 0)) := by
  have h := parse_any { data := #[116, 104, 114, 101, 97, 100, 32, 116, 32, 123, 32, 112, 114, 105, 110, 116, 32, 49, 32, 43, 32, 50, 32, 42, 32, 51, 59, 32, 125] } (szb _ (by decide)) w he
  rw [show (ByteArray.data { data := #[116, 104, 114, 101, 97, 100, 32, 116, 32, 123, 32, 112, 114, 105, 110, 116, 32, 49, 32, 43, 32, 50, 32, 42, 32, 51, 59, 32, 125] }).toList = [116, 104, 114, 101, 97, 100, 32, 116, 32, 123, 32, 112, 114, 105, 110, 116, 32, 49, 32, 43, 32, 50, 32, 42, 32, 51, 59, 32, 125] from rfl, par1] at h
  exact h
theorem px2 (w : World) (he : Env w) : Calls Tryz.prog 7 #[.string { data := #[116, 104, 114, 101, 97, 100, 32, 116, 32, 123, 32, 112, 114, 105, 110, 116, 32, 49, 32, 43, 32, 59, 32, 125] }] w (PSOut w (none, 2)) := by
  have h := parse_any { data := #[116, 104, 114, 101, 97, 100, 32, 116, 32, 123, 32, 112, 114, 105, 110, 116, 32, 49, 32, 43, 32, 59, 32, 125] } (szb _ (by decide)) w he
  rw [show (ByteArray.data { data := #[116, 104, 114, 101, 97, 100, 32, 116, 32, 123, 32, 112, 114, 105, 110, 116, 32, 49, 32, 43, 32, 59, 32, 125] }).toList = [116, 104, 114, 101, 97, 100, 32, 116, 32, 123, 32, 112, 114, 105, 110, 116, 32, 49, 32, 43, 32, 59, 32, 125] from rfl, par2] at h
  exact h
theorem MD.mv {B : Nat} {w : World} {vd vs ve : Value} {M : Mod} {DX : List Dx} {XS : List Sx} (h : MD B w vd vs ve M DX XS) : MV B w vd vs ve DX XS M.exps := ⟨⟨h.rd, h.dr⟩, ⟨h.rs, h.sr⟩, h.re⟩
theorem eok0 : EOk m0.exps := by
  refine ⟨by decide, fun x hx => ?_, fun x hx => ?_, fun x hx => ?_⟩ <;> (simp only [m0, List.mem_cons, List.not_mem_nil, or_false] at hx; rcases hx with rfl | rfl | rfl | rfl | rfl <;> simp)
theorem sok0 {XS : List Sx} (h : XS.map (·.s) = m0.stmts) : SOk XS := by
  have key : ∀ p ∈ XS, p.s = ⟨10, [], [], 4, 0, [], [], []⟩ := fun p hp => by
    have : p.s ∈ m0.stmts := by rw [← h]; exact List.mem_map.2 ⟨p, hp, rfl⟩
    simpa [m0] using this
  exact ⟨fun p hp => by rw [key p hp]; simp, fun p hp => by rw [key p hp]; simp⟩
theorem d10 {DX : List Dx} (h : DX.map (·.d) = m0.decls) : ∀ p ∈ DX, D1 p.d := fun p hp => by
  have key : p.d = ⟨6, [116], false, 0, [], [], 0, 0, [0]⟩ := by
    have : p.d ∈ m0.decls := by rw [← h]; exact List.mem_map.2 ⟨p, hp, rfl⟩
    simpa [m0] using this
  rw [key]
  exact ⟨by simp, by simp, by simp, by simp, by simp, by simp, by simp, by simp, by simp⟩
set_option maxRecDepth 100000 in
set_option maxHeartbeats 2000000 in
theorem live_any (w : World) (hT : WT w) : Calls Tryz.prog 10 #[] w fun e w' => e = .returned (.bool true) ∧ Below w.heap.size w w' := by
  have HE0 : Hid (Env w) := hT.1
  have HPW : Hid (Lib.TabIs Tryz.prog w "internal/strconv.uint64pow10" .u64 Lib.pow10Tab) := hT.2
  have c1 := px1
  have c2 := px2
  clear hT
  go_enter Tryz.func10, Tryz.ntmps10
  go_wp2_with fail
  refine (c1 _ HE0.out).mono ?_
  rintro e y1 ⟨hb1, vd, vs, ve, DX, XS, rfl, hmd⟩
  have h8 := HE0.out.hz
  have HB1 : Hid (Below w.heap.size w y1) := hb1
  have HE1 : Hid (Env y1) := HE0.out.below (hb1.mono h8)
  obtain ⟨ad, cd, hv⟩ := row_form hmd.rd
  subst hv
  obtain ⟨as', cs, hv⟩ := row_form hmd.rs
  subst hv
  obtain ⟨ae, ce, hv⟩ := row_form hmd.re
  subst hv
  have HMD : Hid (MD w.heap.size y1 (.slice ad DX.length cd) (.slice as' XS.length cs) (.slice ae m0.exps.length ce) m0 DX XS) := hmd
  obtain ⟨z1, hZ1⟩ : ∃ Y, y1.alloc (.cells #[.slice ad DX.length cd, .slice as' XS.length cs, .slice ae m0.exps.length ce] 26) = Y := ⟨_, rfl⟩
  have HZ1 : Hid (Below y1.heap.size y1 z1) := by show Below _ _ _; rw [← hZ1]; exact bl1 _ _
  have HP1 : Hid (z1.heap[y1.heap.size]? = some (.cells #[.slice ad DX.length cd, .slice as' XS.length cs, .slice ae m0.exps.length ce] 26)) := by show _ = _; rw [← hZ1]; exact heap_new _ _
  have hds0 := And.intro hmd.hd hmd.hs
  clear hb1 hmd
  have HYY : Hid (y1.alloc (.cells #[.slice ad DX.length cd, .slice as' XS.length cs, .slice ae m0.exps.length ce] 26) = z1) := hZ1
  clear hZ1
  go_wp2_with fail
  try rw [HYY.out]
  have HBz : Hid (Below w.heap.size w z1) := HB1.out.trans (HZ1.out.mono HB1.out.size)
  refine (c2 _ (HE0.out.below (HBz.out.mono h8))).mono ?_
  rintro e y2 ⟨hb2, rfl⟩
  have HB2 : Hid (Below w.heap.size w y2) := HBz.out.trans (hb2.mono HBz.out.size)
  have HP2 : Hid _ := blk_thru hb2 HP1.out
  have HMD2 : Hid _ := (HMD.out.mv.bel HZ1.out).bel hb2
  clear hb2 HMD HP1 c1 c2 HYY HE1
  unfold noMod
  obtain ⟨y3, hY3⟩ : ∃ Y, y2.alloc (.cells #[.slice none 0 0, .slice none 0 0, .slice none 0 0] 26) = Y := ⟨_, rfl⟩
  have HZ3 : Hid (Below y2.heap.size y2 y3) := by show Below _ _ _; rw [← hY3]; exact bl1 _ _
  have HB3 : Hid (Below w.heap.size w y3) := HB2.out.trans (HZ3.out.mono HB2.out.size)
  have HP3 : Hid (y3.heap[y1.heap.size]? = some (.cells #[.slice ad DX.length cd, .slice as' XS.length cs, .slice ae m0.exps.length ce] 26 (0, 0))) := blk_thru HZ3.out HP2.out
  have HMD3 : Hid _ := HMD2.out.bel HZ3.out
  have hds : Hid (DX.map (·.d) = m0.decls ∧ XS.map (·.s) = m0.stmts) := hds0
  have HPR : Hid (Calls Tryz.prog 13 #[.agg #[.slice ad DX.length cd, .slice as' XS.length cs, .slice ae m0.exps.length ce]] y3 (PrOut y3 (some [116, 104, 114, 101, 97, 100, 32, 116, 32, 123, 32, 112, 114, 105, 110, 116, 32, 49, 32, 43, 32, 50, 32, 42, 32, 51, 32, 59, 32, 125]))) := by
    have h := print_any HMD3.out (fun _ => eok0) (sok0 hds.out.2) (d10 hds.out.1) (HE0.out.below (HB3.out.mono h8)) (pw_below HPW.out HB3.out h8)
    rw [hds.out.1, hds.out.2] at h
    rw [show prt ⟨m0.decls, m0.stmts, m0.exps⟩ = some [116, 104, 114, 101, 97, 100, 32, 116, 32, 123, 32, 112, 114, 105, 110, 116, 32, 49, 32, 43, 32, 50, 32, 42, 32, 51, 32, 59, 32, 125] from prt0] at h
    exact h
  have x0 : (y2.alloc (.cells #[.slice none 0 0, .slice none 0 0, .slice none 0 0] 26)).cell? ⟨y1.heap.size, 0, none⟩ = some (.slice ad DX.length cd) := by rw [hY3]; exact cell_blk HP3.out 0 rfl
  have x1 : (y2.alloc (.cells #[.slice none 0 0, .slice none 0 0, .slice none 0 0] 26)).cell? ⟨y1.heap.size, 1, none⟩ = some (.slice as' XS.length cs) := by rw [hY3]; exact cell_blk HP3.out 1 rfl
  have x2 : (y2.alloc (.cells #[.slice none 0 0, .slice none 0 0, .slice none 0 0] 26)).cell? ⟨y1.heap.size, 2, none⟩ = some (.slice ae m0.exps.length ce) := by rw [hY3]; exact cell_blk HP3.out 2 rfl
  have HY3 : Hid _ := hY3
  clear HP2 HMD2 hY3
  go_wp2_with fail
  rw [HY3.out]
  refine HPR.out.mono ?_
  rintro e y4 ⟨hb4, rfl⟩
  have HB4 : Hid (Below w.heap.size w y4) := HB3.out.trans (hb4.mono HB3.out.size)
  have hm4 := HMD3.out.bel hb4
  have hp4 := blk_thru hb4 HP3.out
  have hn : m0.exps.length = 5 := rfl
  have hre := hm4.e
  rw [hn] at hre hp4
  obtain ⟨g, cap, hg, hce⟩ : ∃ g cap, ae = some ⟨g, 0, none⟩ ∧ ∀ q u, (m0.exps.flatMap expC)[q]? = some u → y4.cell? ⟨g, q, none⟩ = some u := by
    rcases hre.2 with ⟨e1, e2⟩ | ⟨g, cap, cur, e1, -⟩
    · cases e2
    · injection e1 with e1 _ e3
      subst e1 e3
      refine ⟨g, 0, rfl, fun q u hu => ?_⟩
      have hq : q < 30 := (List.getElem?_eq_some_iff.1 hu).1
      have := hre.cellAt q (by simpa using hq)
      rw [this, hu]
  subst hg
  have c0 := hce 18 (.int .i64 5) rfl
  have c1 := hce 19 (.string { data := #[42] }) rfl
  have c2 := hce 20 (.string { data := #[] }) rfl
  have c3 := hce 21 (.int .i64 0) rfl
  have c4 := hce 22 (.int .i64 1) rfl
  have c5 := hce 23 (.int .i64 2) rfl
  have x2 := cell_blk hp4 2 rfl
  have hs : X.str [116, 104, 114, 101, 97, 100, 32, 116, 32, 123, 32, 112, 114, 105, 110, 116, 32, 49, 32, 43, 32, 50, 32, 42, 32, 51, 32, 59, 32, 125] = { data := #[116, 104, 114, 101, 97, 100, 32, 116, 32, 123, 32, 112, 114, 105, 110, 116, 32, 49, 32, 43, 32, 50, 32, 42, 32, 51, 32, 59, 32, 125] } := rfl
  rw [hs]
  clear hm4 hp4 hre hce hb4 HPR HMD3 HP3 HY3 x0 x1 hds
  go_wp2_with fail
  go_ret
  exact ⟨rfl, HB4.out⟩
end Go.Proofs.YtikknlkdbjaonaaGreatDoor.Y
