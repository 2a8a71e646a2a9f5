/- The writer's text. -/
import Derived.Test.YtikknlkdbjaonaaGreatDoorPBAn
import Derived.Lib.AppendStr
namespace Go.Proofs.YtikknlkdbjaonaaGreatDoor.Y
open Go.RowKit Go.Maps Go.Lib
set_option linter.unusedVariables false
set_option linter.unusedSimpArgs false
/-- A token is laid to a text. -/
def put1 (T s : By) : Option By := if 20000 < T.length + s.length then none else some (if T = [] then s else T ++ 32 :: s)
def puts (T : By) : List By → Option By
  | [] => some T
  | s :: l => (put1 T s).bind fun T' => puts T' l
theorem put1_len {T s T' : By} (h : put1 T s = some T') : T'.length ≤ 20001 ∧ T.length + s.length ≤ T'.length := by
  unfold put1 at h
  split at h
  · cases h
  · injection h with h
    subst h
    split
    · rename_i e; subst e; simp only [List.length_nil] at *; omega
    · simp only [List.length_append, List.length_cons]; omega
/-- What the writer fails with. -/
def FailsW (e : Ending) : Prop := e = .panicked [{ v := .iface 27 (.int .i64 1), recovered := false }]
/-- The writer: its module's cells, its text. -/
structure WS (B : Nat) (w : World) (wp : Nat) (vd vs ve : Value) (T : By) : Prop where
  ge : B ≤ wp
  blk : ∃ vt, w.heap[wp]? = some (.cells #[vd, vs, ve, vt] 80) ∧ w.ownsRow B 5 1 vt T.length (strCells (X.str T))
theorem WS.below {B : Nat} {w y : World} {wp : Nat} {vd vs ve : Value} {T : By} (h : WS B w wp vd vs ve T) (hb : Below w.heap.size w y) : WS B y wp vd vs ve T := by
  obtain ⟨hg, vt, h1, h2⟩ := h
  exact ⟨hg, vt, blk_thru hb h1, row_thru' h2 hb⟩
/-- What writing comes to. -/
def WOut (B : Nat) (w : World) (wp : Nat) (vd vs ve : Value) (r : Option By) (e : Ending) (w' : World) : Prop :=
  Kp [80, 5] B w w' ∧ match r with
    | none => FailsW e
    | some T => e = .returned (.tuple #[]) ∧ WS B w' wp vd vs ve T
theorem str_cat (a b : By) : strCells (X.str (a ++ b)) = strCells (X.str a) ++ strCells (X.str b) := by simp [strCells, X.str]
theorem str_len (a : By) : (X.str a).size = a.length := by simp [X.str, ByteArray.size]
theorem infoU : (Tryz.prog.info? 5).map (fun i => (i.zero, i.size, i.bytes)) = some (some (.int .u8 0), 1, 1) := by kernel_rfl
set_option maxRecDepth 100000 in
set_option maxHeartbeats 2000000 in
theorem put_any {B C : Nat} {w : World} {wp : Nat} {vd vs ve : Value} {T : By} (h : WS B w wp vd vs ve T) (hT : T.length ≤ 20001) {a : Option Addr} {c : Nat} {l : List By} (hl : w.ownsRow C 9 1 (.slice a l.length c) l.length (l.map sZ)) (hs : ∀ s ∈ l, s.length ≤ 140737488355328) : Calls Tryz.prog 86 #[.pointer (some ⟨wp, 0, none⟩), .slice a l.length c] w (WOut B w wp vd vs ve (puts T l)) := by
  obtain ⟨i0, hi0, hz0, hz1, hz2⟩ := info_parts infoU
  obtain ⟨R, hR⟩ : ∃ R, puts T l = R := ⟨_, rfl⟩
  have HR0 : Hid (puts T (l.drop 0) = R) := hR
  rw [hR]
  have hm2 : maxLen = 9223372036854775807 := rfl
  have hlm : l.length ≤ maxLen := by rcases hl.2 with ⟨e1, e2⟩ | ⟨g, cap, cur, e1, e2, e3, e4, e5, -⟩ <;> omega
  have HS0 : Hid (WS B w wp vd vs ve T) := h
  have HL0 : Hid (w.ownsRow C 9 1 (.slice a l.length c) l.length (l.map sZ)) := hl
  have HSL : Hid (∀ s ∈ l, s.length ≤ 140737488355328) := hs
  have HK0 : Hid (Kp [80, 5] B w w) := Kp.refl _ _ _
  have HBW : Hid (B ≤ w.heap.size) := by obtain ⟨vt, h1, -⟩ := h.blk; exact Nat.le_of_lt (Nat.lt_of_le_of_lt h.ge (blk_lt h1))
  clear h hl hs hR
  go_enter Tryz.func86, Tryz.ntmps86
  go_wp2_with fail
  go_loopg [5, 8] l.length (fun g v5 v8 wq => ∃ (k : Nat) (T' : By), g = l.length - k ∧ v8 = .int .i64 (k : Int) ∧ k ≤ l.length ∧ T'.length ≤ 20001 ∧ Hid (wq.ownsRow C 9 1 (.slice a l.length c) l.length (l.map sZ)) ∧ Hid (WS B wq wp vd vs ve T') ∧ Hid (Kp [80, 5] B w wq) ∧ Hid (puts T' (l.drop k) = R))
  case atStart => exact ⟨0, T, rfl, rfl, Nat.zero_le _, hT, HL0, HS0, HK0, HR0⟩
  case round =>
    obtain ⟨k, T', rfl, rfl, hk, hT', HL, HS, HK, HR⟩ := hrel
    clear HL0 HS0 HK0 HR0
    by_cases hkl : k < l.length
    · have hki : (k : Int) < l.length := by omega
      have hk0 : 0 ≤ (k : Int) := by omega
      obtain ⟨s, hsk⟩ : ∃ s, l[k] = s := ⟨_, rfl⟩
      have hmem : s ∈ l := by rw [← hsk]; exact List.getElem_mem hkl
      have hs2 : s.length ≤ 140737488355328 := HSL.out s hmem
      have hdk : l.drop k = s :: l.drop (k + 1) := by rw [← hsk]; exact List.drop_eq_getElem_cons hkl
      have hR1 := HR.out
      rw [hdk] at hR1
      have HR1 : Hid ((put1 T' s).bind (fun T2 => puts T2 (l.drop (k + 1))) = R) := hR1
      obtain ⟨g, rfl, hck⟩ : ∃ g, a = some ⟨g, 0, none⟩ ∧ wr.cell? ⟨g, k, none⟩ = some (.string (X.str s)) := by
        rcases HL.out.2 with ⟨e1, e2⟩ | ⟨g, cap, cur, e1, e2⟩
        · omega
        · injection e1 with e1 _ e3
          subst e1 e3
          have hc := World.ownsRow.cellAt HL.out k (by omega)
          refine ⟨g, rfl, ?_⟩
          rw [hc, List.getElem?_map, List.getElem?_eq_getElem hkl, hsk]
          rfl
      obtain ⟨vt, hb, hrow⟩ := HS.out.blk
      obtain ⟨at', ct, rfl⟩ := row_form hrow
      have c3 := cell_blk hb 3 (v := .slice at' T'.length ct) rfl
      have z3 : wr.frozen? ⟨wp, 3, none⟩ = false := blk_fro hb
      have HB : Hid (wr.heap[wp]? = some (.cells #[vd, vs, ve, .slice at' T'.length ct] 80)) := hb
      have HW : Hid (wr.ownsRow B 5 1 (.slice at' T'.length ct) T'.length (strCells (X.str T'))) := hrow
      have HGE : Hid (B ≤ wp) := HS.out.ge
      have hsz := str_len s
      clear hsk hmem hdk hR1 HR hb hrow HS
      by_cases hbig : 20000 < T'.length + s.length
      · have eb : decide (20000 < (T'.length : Int) + (s.length : Int)) = true := by simp; omega
        obtain rfl : none = R := by
          have := HR1.out
          unfold put1 at this
          rw [if_pos hbig] at this
          exact this
        have HF : Hid (WOut B w wp vd vs ve none (.panicked [{ v := .iface 27 (.int .i64 1), recovered := false }]) wr) := ⟨HK.out, rfl⟩
        clear HR1 HB HW HGE HL HK
        go_wp2_with fail
        exact ⟨rfl, HF.out⟩
      · have eb : decide (20000 < (T'.length : Int) + (s.length : Int)) = false := by simp; omega
        have HR2 : Hid (puts (if T' = [] then s else T' ++ 32 :: s) (l.drop (k + 1)) = R) := by
          show _ = R
          have := HR1.out
          unfold put1 at this
          rw [if_neg hbig] at this
          exact this
        clear HR1
        by_cases he : T' = []
        · have e0 : decide ((0 : Int) < (T'.length : Int)) = false := by subst he; rfl
          have HR3 : Hid (puts s (l.drop (k + 1)) = R) := by
            show _ = R
            have := HR2.out
            rw [if_pos he] at this
            exact this
          have HE : Hid (T' = []) := he
          have e1 : ¬ 0 < T'.length := by rw [he]; decide
          clear he HR2
          have HB5 : Hid (wr.heap[wp]? = some (.cells #[vd, vs, ve, .slice at' T'.length ct] 80)) := HB.out
          have HW5 : Hid (wr.ownsRow B 5 1 (.slice at' T'.length ct) T'.length (strCells (X.str T'))) := HW.out
          have HK5 : Hid (Kp [80, 5] B w wr) := HK.out
          have HL5 : Hid (wr.ownsRow C 9 1 (.slice (some ⟨g, 0, none⟩) l.length c) l.length (l.map sZ)) := HL.out
          have HBS5 : Hid (B ≤ wr.heap.size) := Nat.le_of_lt (Nat.lt_of_le_of_lt HGE.out (blk_lt HB.out))
          go_wp2_with (first | (at_builtin; go_must (refine wpList_append_own_string _ rfl _ _ 63 9 rfl B 5 i0 Tryz.underlying63 Tryz.underlying9 hi0 hz0 hz1 hz2 (.slice at' T'.length ct) T'.length _ rfl HW5.out (X.str s) rfl (by rw [hsz]; omega) (by rw [hsz]; omega) HBS5.out ?_; intro v6 w6 ho6 hg6 _; obtain ⟨a6, c6, rfl⟩ := row_form ho6; have HW6 : Hid _ := ho6; have HG6 : Hid _ := hg6; have HB6 : Hid (w6.heap[wp]? = some (.cells #[vd, vs, ve, .slice at' T'.length ct] 80)) := (hg6.block _ (blk_lt HB5.out) (fun e => by obtain ⟨cur, hc⟩ := own_cells HW5.out e.symm; exact blk_ne HB5.out hc (by decide) rfl)).trans HB5.out; have c6q := cell_blk HB6.out 3 (v := .slice at' T'.length ct) rfl; have z6q : w6.frozen? ⟨wp, 3, none⟩ = false := blk_fro HB6.out; obtain ⟨Y7, hY7⟩ : ∃ Y7, w6.setCell ⟨wp, 3, none⟩ (.slice a6 (T'.length + s.length) c6) = Y7 := ⟨_, rfl⟩; have HY7 : Hid (w6.setCell ⟨wp, 3, none⟩ (.slice a6 (T'.length + s.length) c6) = Y7) := hY7; clear ho6 hg6)))
          have HKS2 : Hid (Kp [80] B w6 Y7) := by show Kp _ _ _ _; rw [← HY7.out]; exact Kp.set HB6.out (by decide) HGE.out _
          have HB7 : Hid (Y7.heap[wp]? = some (.cells #[vd, vs, ve, .slice a6 (T'.length + s.length) c6] 80)) := by show _ = _; rw [← HY7.out]; exact blk_set HB6.out _
          have HK6 : Hid (Kp [80, 5] B w w6) := HK5.out.trans (Kp.grown HW5.out HG6.out (by decide) HBS5.out)
          have HK7 : Hid (Kp [80, 5] B w Y7) := HK6.out.trans (HKS2.out.wide (by decide))
          have HL6 : Hid (w6.ownsRow C 9 1 (.slice (some ⟨g, 0, none⟩) l.length c) l.length (l.map sZ)) := row_kp HL5.out (Kp.grown (Ts := [5]) HW5.out HG6.out (by decide) HBS5.out) (by decide)
          have HL7 : Hid (Y7.ownsRow C 9 1 (.slice (some ⟨g, 0, none⟩) l.length c) l.length (l.map sZ)) := row_kp HL6.out HKS2.out (by decide)
          have HW7 := row_kp HW6.out HKS2.out (by decide)
          rw [hsz] at HW7
          have hlen : T'.length + s.length = (s).length := by rw [HE.out]; simp
          have HC : Hid (strCells (X.str (s)) = (strCells (X.str T') ++ strCells (X.str s))) := by
            show _ = _
            rw [HE.out]; rfl
          go_roundg (l.length - (k + 1))
          case measure => omega
          case rel => exact ⟨k + 1, s, rfl, by go_num, by omega, by omega, HL7, ⟨HGE.out, .slice a6 (T'.length + s.length) c6, HB7.out, by have H := HW7; rw [hlen] at H ⊢; rw [HC.out]; exact H⟩, HK7, HR3⟩
        · have e0 : decide ((0 : Int) < (T'.length : Int)) = true := by
            have : T'.length ≠ 0 := fun e => he (List.length_eq_zero_iff.1 e)
            simp; omega
          have e1 : 0 < T'.length := by
            have : T'.length ≠ 0 := fun e => he (List.length_eq_zero_iff.1 e)
            omega
          have HR3 : Hid (puts (T' ++ 32 :: s) (l.drop (k + 1)) = R) := by
            show _ = R
            have := HR2.out
            rw [if_neg he] at this
            exact this
          clear he HR2
          obtain ⟨W1, hW1⟩ : ∃ W1, wr.alloc (.cells #[.int .u8 32] 5) = W1 := ⟨_, rfl⟩
          have HBA : Hid (Below wr.heap.size wr W1) := by show Below _ _ _; rw [← hW1]; exact bl1 _ _
          have HB1 : Hid (W1.heap[wp]? = some (.cells #[vd, vs, ve, .slice at' T'.length ct] 80)) := blk_thru HBA.out HB.out
          have HW1 : Hid (W1.ownsRow B 5 1 (.slice at' T'.length ct) T'.length (strCells (X.str T'))) := row_thru' HW.out HBA.out
          have HBS1 : Hid (B ≤ W1.heap.size) := Nat.le_of_lt (Nat.lt_of_le_of_lt HGE.out (blk_lt HB1.out))
          have HK1 : Hid (Kp [80, 5] B w W1) := HK.out.trans (Kp.of HBA.out (Nat.le_of_lt (Nat.lt_of_le_of_lt HGE.out (blk_lt HB.out))))
          have HL1 : Hid (W1.ownsRow C 9 1 (.slice (some ⟨g, 0, none⟩) l.length c) l.length (l.map sZ)) := row_thru' HL.out HBA.out
          have HN1 : Hid (∀ (q : Nat) u, ([.int .u8 32] : List Value)[q]? = some u → W1.cell? ((⟨wr.heap.size, 0, none⟩ : Addr).add q) = some u) := fun q u hu => by
            rw [Addr.add_lit, Nat.zero_add, ← hW1]
            exact ncell_at (by simpa using hu)
          have HONE : Hid (∀ u ∈ ([.int .u8 32] : List Value), u.oneCell' = true) := by
            intro u hu
            simp only [List.mem_cons, List.not_mem_nil, or_false] at hu
            subst hu; rfl
          go_wp2_with (first | (at_builtin; refine wpList_append_lies _ rfl _ _ 63 rfl B 5 i0 _ 1 1 Tryz.underlying63 hi0 hz0 hz1 hz2 rfl (by decide) (.slice at' T'.length ct) T'.length _ rfl HW1.out ⟨wr.heap.size, 0, none⟩ 1 1 [.int .u8 32] rfl rfl HN1.out HONE.out (by decide) (by omega) (by omega) HBS1.out _ rfl ?_; intro g4 c4 w4 ho4 hg4 _ _; have HB4 : Hid (w4.heap[wp]? = some (.cells #[vd, vs, ve, .slice at' T'.length ct] 80)) := (hg4.block _ (blk_lt HB1.out) (fun e => by obtain ⟨cur, hc⟩ := own_cells HW1.out e.symm; exact blk_ne HB1.out hc (by decide) rfl)).trans HB1.out; have HK4 : Hid (Kp [80, 5] B w w4) := HK1.out.trans (Kp.grown HW1.out hg4 (by decide) HBS1.out); have HL4 : Hid (w4.ownsRow C 9 1 (.slice (some ⟨g, 0, none⟩) l.length c) l.length (l.map sZ)) := row_kp HL1.out (Kp.grown (Ts := [5]) HW1.out hg4 (by decide) HBS1.out) (by decide); have c4q := cell_blk HB4.out 3 (v := .slice at' T'.length ct) rfl; have z4q : w4.frozen? ⟨wp, 3, none⟩ = false := blk_fro HB4.out; obtain ⟨at5, hat5⟩ : ∃ at5, some (⟨g4, 0, none⟩ : Addr) = at5 := ⟨_, rfl⟩; obtain ⟨n5, hn5⟩ : ∃ n5, T'.length + 1 = n5 := ⟨_, rfl⟩; obtain ⟨ct5, hct5⟩ : ∃ ct5, c4 = ct5 := ⟨_, rfl⟩; rw [hat5, hn5, hct5] at ho4; rw [hat5, hn5, hct5]; obtain ⟨Y5, hY5⟩ : ∃ Y5, w4.setCell ⟨wp, 3, none⟩ (.slice at5 n5 ct5) = Y5 := ⟨_, rfl⟩; have HKS : Hid (Kp [80] B w4 Y5) := (by show Kp _ _ _ _; rw [← hY5]; exact Kp.set HB4.out (by decide) HGE.out _); have HB5 : Hid (Y5.heap[wp]? = some (.cells #[vd, vs, ve, .slice at5 n5 ct5] 80)) := (by show _ = _; rw [← hY5]; exact blk_set HB4.out _); have HW5 : Hid (Y5.ownsRow B 5 1 (.slice at5 n5 ct5) n5 (strCells (X.str T') ++ [.int .u8 32])) := row_kp ho4 HKS.out (by decide); have HK5 : Hid (Kp [80, 5] B w Y5) := HK4.out.trans (HKS.out.wide (by decide)); have HL5 : Hid (Y5.ownsRow C 9 1 (.slice (some ⟨g, 0, none⟩) l.length c) l.length (l.map sZ)) := row_kp HL4.out HKS.out (by decide); have HBS5 : Hid (B ≤ Y5.heap.size) := Nat.le_of_lt (Nat.lt_of_le_of_lt HGE.out (blk_lt HB5.out)); have c5q := cell_blk HB5.out 3 (v := .slice at5 n5 ct5) rfl; clear ho4 hg4 hat5 hct5) | (at_builtin; refine wpList_append_own_string _ rfl _ _ 63 9 rfl B 5 i0 Tryz.underlying63 Tryz.underlying9 hi0 hz0 hz1 hz2 (.slice at5 n5 ct5) n5 _ rfl HW5.out (X.str s) rfl (by rw [hsz]; omega) (by rw [hsz]; omega) HBS5.out ?_; intro v6 w6 ho6 hg6 _; obtain ⟨a6, c6, rfl⟩ := row_form ho6; have HW6 : Hid _ := ho6; have HG6 : Hid _ := hg6; have HB6 : Hid (w6.heap[wp]? = some (.cells #[vd, vs, ve, .slice at5 n5 ct5] 80)) := (hg6.block _ (blk_lt HB5.out) (fun e => by obtain ⟨cur, hc⟩ := own_cells HW5.out e.symm; exact blk_ne HB5.out hc (by decide) rfl)).trans HB5.out; have c6q := cell_blk HB6.out 3 (v := .slice at5 n5 ct5) rfl; have z6q : w6.frozen? ⟨wp, 3, none⟩ = false := blk_fro HB6.out; obtain ⟨Y7, hY7⟩ : ∃ Y7, w6.setCell ⟨wp, 3, none⟩ (.slice a6 (n5 + s.length) c6) = Y7 := ⟨_, rfl⟩; have HY7 : Hid (w6.setCell ⟨wp, 3, none⟩ (.slice a6 (n5 + s.length) c6) = Y7) := hY7; clear ho6 hg6))
          have HKS2 : Hid (Kp [80] B w6 Y7) := by show Kp _ _ _ _; rw [← HY7.out]; exact Kp.set HB6.out (by decide) HGE.out _
          have HB7 : Hid (Y7.heap[wp]? = some (.cells #[vd, vs, ve, .slice a6 (n5 + s.length) c6] 80)) := by show _ = _; rw [← HY7.out]; exact blk_set HB6.out _
          have HK6 : Hid (Kp [80, 5] B w w6) := HK5.out.trans (Kp.grown HW5.out HG6.out (by decide) HBS5.out)
          have HK7 : Hid (Kp [80, 5] B w Y7) := HK6.out.trans (HKS2.out.wide (by decide))
          have HL6 : Hid (w6.ownsRow C 9 1 (.slice (some ⟨g, 0, none⟩) l.length c) l.length (l.map sZ)) := row_kp HL5.out (Kp.grown (Ts := [5]) HW5.out HG6.out (by decide) HBS5.out) (by decide)
          have HL7 : Hid (Y7.ownsRow C 9 1 (.slice (some ⟨g, 0, none⟩) l.length c) l.length (l.map sZ)) := row_kp HL6.out HKS2.out (by decide)
          have HW7 := row_kp HW6.out HKS2.out (by decide)
          rw [hsz] at HW7
          have hlen : n5 + s.length = (T' ++ 32 :: s).length := by rw [← hn5]; simp only [List.length_append, List.length_cons]; omega
          have HC : Hid (strCells (X.str (T' ++ 32 :: s)) = (strCells (X.str T') ++ [.int .u8 32] ++ strCells (X.str s))) := by
            show _ = _
            rw [show T' ++ 32 :: s = T' ++ ([32] ++ s) from rfl, str_cat, str_cat, ← List.append_assoc]; rfl
          go_roundg (l.length - (k + 1))
          case measure => omega
          case rel => exact ⟨k + 1, T' ++ 32 :: s, rfl, by go_num, by omega, by simp only [List.length_append, List.length_cons]; omega, HL7, ⟨HGE.out, .slice a6 (n5 + s.length) c6, HB7.out, by have H := HW7; rw [hlen] at H ⊢; rw [HC.out]; exact H⟩, HK7, HR3⟩
    · obtain rfl : k = l.length := by omega
      obtain rfl : some T' = R := by have := HR.out; rw [List.drop_length] at this; exact this
      have HF : Hid (WOut B w wp vd vs ve (some T') (.returned (.tuple #[])) wr) := ⟨HK.out, rfl, HS.out⟩
      clear HR HL HS HK
      go_wp2_with fail
      refine bodyPost_end (results_none rfl _ _ _) rfl ?_
      exact HF.out
end Go.Proofs.YtikknlkdbjaonaaGreatDoor.Y
