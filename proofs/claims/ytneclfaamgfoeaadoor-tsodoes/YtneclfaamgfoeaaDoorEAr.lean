/- A machine's regions: its data, and a stack for each thread. -/
import Derived.Test.YtneclfaamgfoeaaDoorEAq
import Derived.Deep.OwnRows
import Derived.Test.YtneclfaamgfoeaaDoorEAa
import Derived.Deep.RegionHeld3
import Derived.Deep.DrawnRows
import Derived.Deep.RegionWith
namespace Go.Proofs.YtneclfaamgfoeaaDoor
open Go.RowKit Go.Maps
set_option linter.unusedVariables false
set_option linter.unusedSimpArgs false

def regR (base : Int) (v : Value) : List Value := [.int .i64 base, v, .bool true]
def stR : Nat → List Nat → List Value
  | _, [] => []
  | i, b :: r => regR (2097152 + 65536 * (i : Int)) (.slice (some ⟨b, 0, none⟩) 8192 8192) ++ stR (i + 1) r
theorem stR_snoc : ∀ (bs : List Nat) (i b : Nat), stR i (bs ++ [b]) = stR i bs ++ regR (2097152 + 65536 * ((i + bs.length : Nat) : Int)) (.slice (some ⟨b, 0, none⟩) 8192 8192)
  | [], i, b => by simp [stR]
  | c :: r, i, b => by
    rw [List.cons_append, stR, stR_snoc r (i + 1) b, stR, List.append_assoc, List.length_cons, show i + 1 + r.length = i + (r.length + 1) by omega]
theorem stR_at : ∀ (bs : List Nat) (i j q : Nat), j < bs.length → q < 3 → (stR i bs)[j * 3 + q]? = (regR (2097152 + 65536 * ((i + j : Nat) : Int)) (.slice (some ⟨bs.getD j 0, 0, none⟩) 8192 8192))[q]?
  | [], i, j, q, hj, _ => by simp at hj
  | b :: r, i, 0, q, hj, hq => by
    rw [stR, Nat.zero_mul, Nat.zero_add, List.getElem?_append_left (by simp [regR]; omega)]
    rfl
  | b :: r, i, j + 1, q, hj, hq => by
    rw [stR, List.getElem?_append_right (by simp [regR]; omega), show (j + 1) * 3 + q - (regR (2097152 + 65536 * (i : Int)) (.slice (some ⟨b, 0, none⟩) 8192 8192)).length = j * 3 + q by simp [regR]; omega, stR_at r (i + 1) j q (by simpa using hj) hq, show i + 1 + j = i + (j + 1) by omega]
    rfl
def zeros : List Int := List.replicate 8192 0
def regs0 (zs : List Int) (n : Nat) : List Reg := ⟨1048576, zs, true⟩ :: (List.range n).map fun i : Nat => ⟨2097152 + 65536 * (i : Int), zeros, true⟩
def RegsIs (e : Ending) (w' : World) (rs : List Reg) : Prop := ∃ a cap, e = .returned (.slice a rs.length cap) ∧ RegsV w' a rs.length cap rs
theorem made_n (n : Nat) : madeCells #[.int .i64 0] n = ((List.replicate n (0 : Int)).map (Value.int .i64)).toArray := by
  apply Array.ext
  · simp [madeCells]
  · intro i h1 h2
    simp [madeCells, Nat.mod_one]
theorem made_zero : madeCells #[.int .i64 0] 8192 = (zeros.map (Value.int .i64)).toArray := made_n 8192
theorem infoL : (Tryd.prog.info? 2).map (fun i => (i.zero, i.size, i.bytes)) = some (some (.int .i64 0), 1, 8) := by kernel_rfl
theorem zeros_fit : ∀ n ∈ zeros, (Lit.int .i64 n).wf = true := fun n hn => by
  obtain rfl := List.eq_of_mem_replicate hn
  rfl
theorem zeros_len : zeros.length = 8192 := List.length_replicate

theorem cell_newA (w : World) (A : Array Value) (ty : TypeId) : (w.alloc (.cells A ty)).heap[w.heap.size]? = some (.cells A ty) := by rw [← World.alloc_eq]; simp
theorem own_new (w : World) (A : Array Value) (ty : TypeId) (n m : Nat) (h : A.size = n * m) (hn : n ≤ maxLen) : (w.alloc (.cells A ty)).ownsRow w.heap.size ty m (.slice (some ⟨w.heap.size, 0, none⟩) n n) n A.toList :=
  ⟨by simpa using h, .inr ⟨w.heap.size, n, A, rfl, Nat.le_refl _, cell_newA w A ty, Nat.le_refl _, hn, h, by rw [← h]; first | exact List.take_of_length_le (Nat.le_of_eq Array.length_toList) | exact (List.take_of_length_le (Nat.le_of_eq Array.length_toList)).symm⟩⟩
/-- Regions that are being laid: the data's, then stacks, each in a block of its own. -/
structure RB (B : Nat) (w : World) (v : Value) (ds : Value) (bs : List Nat) : Prop where
  row : w.ownsRow B 96 3 v (bs.length + 1) (regR 1048576 ds ++ stR 0 bs)
  st : ∀ b ∈ bs, w.heap[b]? = some (.cells (zeros.map (Value.int .i64)).toArray 2 (0, 0)) ∧ v.ownBlock ≠ some b
theorem RB.regs {B : Nat} {w : World} {v : Value} {a : Option Addr} {l c : Nat} {zs : List Int} {bs : List Nat} (h : RB B w v (.slice a l c) bs) (hv : View w a l c zs) (h4 : bs.length ≤ 1000) : ∃ a' cap, v = .slice a' (bs.length + 1) cap ∧ RegsV w a' (bs.length + 1) cap (regs0 zs bs.length) := by
  obtain ⟨a', cap, rfl, hnc, hcm⟩ := own_sl h.row
  refine ⟨a', cap, rfl, ⟨by simp [regs0], hnc, hcm, fun r hr => ?_, ?_⟩⟩
  · simp only [regs0, List.mem_cons, List.mem_map, List.mem_range] at hr
    rcases hr with rfl | ⟨i, hi, rfl⟩
    · rfl
    · show (Lit.int .i64 (2097152 + 65536 * (i : Int))).wf = true
      simp [Lit.wf, IntKind.min, IntKind.max, IntKind.signed, IntKind.bits]
      omega
  · rcases h.row.2 with ⟨h0, -⟩ | ⟨g, cap', cur, e, -⟩
    · cases h0
    cases e
    have hcell : ∀ i, i < (bs.length + 1) * 3 → w.cell? ⟨g, i, none⟩ = (regR 1048576 (.slice a l c) ++ stR 0 bs)[i]? := fun i hi => h.row.cellAt i hi
    refine .inr ⟨g, 0, rfl, fun i hi => ?_⟩
    cases i with
    | zero =>
      refine ⟨a, l, c, ?_, ?_, ?_, hv⟩
      · exact (hcell 0 (by omega)).trans rfl
      · exact (hcell 1 (by omega)).trans rfl
      · exact (hcell 2 (by omega)).trans rfl
    | succ j =>
      have hj : j < bs.length := by omega
      have hmem : bs.getD j 0 ∈ bs := by simp [List.getD, hj]
      have hr : (regs0 zs bs.length).getD (j + 1) noReg = ⟨2097152 + 65536 * (j : Int), zeros, true⟩ := by simp [regs0, List.getD, hj]
      have hat : ∀ q, q < 3 → w.cell? ⟨g, 0 + (j + 1) * 3 + q, none⟩ = (regR (2097152 + 65536 * (j : Int)) (.slice (some ⟨bs.getD j 0, 0, none⟩) 8192 8192))[q]? := fun q hq => by
        rw [hcell _ (by omega), List.getElem?_append_right (by simp [regR]; omega), show 0 + (j + 1) * 3 + q - (regR 1048576 (.slice a l c)).length = j * 3 + q by simp [regR]; omega, stR_at bs 0 j q hj hq, Nat.zero_add]
      rw [hr]
      refine ⟨some ⟨bs.getD j 0, 0, none⟩, 8192, 8192, (hat 0 (by decide)).trans rfl, (hat 1 (by decide)).trans rfl, (hat 2 (by decide)).trans rfl, ?_⟩
      have hvb := view_block (h.st _ hmem).1 zeros_fit
      rw [zeros_len] at hvb
      exact hvb

set_option maxRecDepth 100000 in
set_option maxHeartbeats 8000000 in
theorem regions_any {w : World} {a : Option Addr} {l c : Nat} {zs : List Int} (h : View w a l c zs) (n : Nat) (hn : n ≤ 4) :
    Calls Tryd.prog 28 #[.slice a l c, .int .i64 n] w fun e w' => RegsIs e w' (regs0 zs n) ∧ Below w.heap.size w w' := by
  obtain ⟨ir, hir, hz0, hz1, hz2⟩ := info_partsL infoR
  obtain ⟨ST, hST⟩ : ∃ ST, (zeros.map (Value.int .i64)).toArray = ST := ⟨_, rfl⟩
  have hmk : ∀ W : World, (Instr.makeSlice 22 (.int .i64 8192) (.int .i64 8192)).run Tryd.prog W = .ok (.slice (some ⟨W.heap.size, 0, none⟩) 8192 8192) (W.alloc (.cells ST 2)) := fun W => by
    have := run_make_row' (P := Tryd.prog) 22 2 (.int .i64 0) 8 Tryd.underlying22 infoL rfl .i64 .i64 8192 (by decide) (by decide) W
    rw [made_zero, hST] at this
    exact this
  have HV : Hid (View w a l c zs) := h
  have HST : Hid ((zeros.map (Value.int .i64)).toArray = ST) := hST
  have HR0 : Hid (RB w.heap.size (w.alloc (.cells #[.int .i64 1048576, .slice a l c, .bool true] 96)) (.slice (some ⟨w.heap.size, 0, none⟩) 1 1) (.slice a l c) []) := by
    exact ⟨own_new w #[.int .i64 1048576, .slice a l c, .bool true] 96 1 3 rfl (by decide), by simp⟩
  clear h hST
  go_enter Tryd.func28, Tryd.ntmps28
  go_wp2_with fail
  go_loopg [5, 11] n (fun r lv iv wq => ∃ (k : Nat) (bs : List Nat), iv = .int .i64 k ∧ k ≤ n ∧ n - k ≤ r ∧ Hid (bs.length = k) ∧ Hid (RB w.heap.size wq lv (.slice a l c) bs) ∧ Hid (Below w.heap.size w wq))
  case atStart => exact ⟨0, [], rfl, Nat.zero_le _, by omega, rfl, HR0.out, bl_one _ _⟩
  case round =>
    obtain ⟨k, bs, rfl, hk, hr, HBL, HRB, HBW⟩ := hrel
    by_cases hlt : k < n
    · obtain ⟨sb, hsb⟩ : ∃ sb : Int, 2097152 + 65536 * (k : Int) = sb := ⟨_, rfl⟩
      have HSB : Hid (∀ w, Calls Tryd.prog 43 #[.int .i64 k] w fun e w' => e = .returned (.int .i64 sb) ∧ w' = w) := fun w => by rw [← hsb]; exact stackBase_any k (by omega) w
      have HSS : Hid (2097152 + 65536 * (k : Int) = sb) := hsb
      obtain ⟨av, cv, rfl, hnc, hcm⟩ := own_sl HRB.out.row
      have HB1 : Hid (Below wr.heap.size wr ((wr.alloc (.cells ST 2)).alloc (.cells #[.int .i64 sb, .slice (some ⟨wr.heap.size, 0, none⟩) 8192 8192, .bool true] 96)).drew) := (bl2 _ _ _).drew
      have HW1 : Hid ((((wr.alloc (.cells ST 2)).alloc (.cells #[.int .i64 sb, .slice (some ⟨wr.heap.size, 0, none⟩) 8192 8192, .bool true] 96)).drew).ownsRow w.heap.size 96 3 (.slice av (k + 1) cv) (k + 1) (regR 1048576 (.slice a l c) ++ stR 0 bs)) := by
        have := own_below HRB.out.row HB1.out
        rw [HBL.out] at this
        exact this
      have HNC : Hid (∀ j u, (regR sb (.slice (some ⟨wr.heap.size, 0, none⟩) 8192 8192))[j]? = some u → (((wr.alloc (.cells ST 2)).alloc (.cells #[.int .i64 sb, .slice (some ⟨wr.heap.size, 0, none⟩) 8192 8192, .bool true] 96)).drew).cell? ((⟨wr.heap.size + 1, 0, none⟩ : Addr).add j) = some u) := fun j u hu => by
        rw [Addr.add_lit, Nat.zero_add]
        exact cell_last _ _ _ _ _ (by simp) (by simpa [regR] using hu)
      have hws : w.heap.size ≤ wr.heap.size := HBW.out.size
      clear hsb hnc
      rw [HBL.out]
      go_wp2_with fail
      go_region_law ((first | (go_simp; go_at_call 43; refine (HSB.out _).mono ?_; rintro e y ⟨rfl, rfl⟩) | (refine step_append_lies _ (by rfl) _ _ 70 (by rfl) w.heap.size 96 ir _ 3 40 Tryd.underlying70 hir hz0 hz1 hz2 (by rfl) (by decide) (.slice av (k + 1) cv) (k + 1) _ (by rfl) HW1.out ⟨wr.heap.size + 1, 0, none⟩ 1 1 (regR sb (.slice (some ⟨wr.heap.size, 0, none⟩) 8192 8192)) (by rfl) (by rfl) HNC.out (by intro u hu; simp [regR] at hu; rcases hu with rfl | rfl | rfl <;> rfl) (by decide) (by unfold maxLen; omega) (by omega) (by simp; omega) (wr.heap.size + 1 + 1) (by simp) ?_; intro x cp Y6 ho6 hg6 hat6 hlt6)))
      all_goals
        have HBY : Hid (Below w.heap.size w Y6) := below_new (HBW.out.trans (HB1.out.mono hws)) hg6 (fun q hq => (HW1.out.lt q hq).1)
        have HLT : Hid (∀ q, (Value.slice av (k + 1) cv).ownBlock = some q → q < wr.heap.size) := fun q hq => own_lt HRB.out.row (by rw [HBL.out]; exact hq)
        have HRN : Hid (RB w.heap.size Y6 (.slice (some ⟨x, 0, none⟩) (k + 1 + 1) cp) (.slice a l c) (bs ++ [wr.heap.size])) := by
          refine ⟨?_, fun q hq => ?_⟩
          · rw [List.length_append, HBL.out, stR_snoc, HBL.out, Nat.zero_add, HSS.out, ← List.append_assoc]
            exact ho6
          · rcases List.mem_append.1 hq with hq | hq
            · obtain ⟨h1, h2⟩ := HRB.out.st q hq
              rw [HBL.out] at h2
              have hql : q < wr.heap.size := (Array.getElem?_eq_some_iff.1 h1).1
              refine ⟨(hg6.block q (Nat.lt_of_lt_of_le hql HB1.out.size) (fun e => h2 e.symm)).trans ((HB1.out.block q hql).trans h1), fun e => ?_⟩
              have hx : x = q := by simpa [Value.ownBlock] using e
              rcases hat6 with h3 | h3
              · rw [hx] at h3; exact h2 h3
              · omega
            · obtain rfl : q = wr.heap.size := by simpa using hq
              refine ⟨(hg6.block wr.heap.size (by simp; omega) (fun e => by have := HLT.out _ e.symm; omega)).trans ?_, fun e => ?_⟩
              · rw [HST.out]
                exact ((bl_one (wr.alloc (.cells ST 2)) _).block wr.heap.size (by simp)).trans (cell_newA wr ST 2)
              · have hx : x = wr.heap.size := by simpa [Value.ownBlock] using e
                rcases hat6 with h3 | h3
                · have := HLT.out _ h3; omega
                · omega
        have HBN : Hid ((bs ++ [wr.heap.size]).length = k + 1) := by show _ = _; rw [List.length_append, HBL.out]; rfl
        clear ho6 hg6 hat6 hlt6
        go_wp2
        go_roundg (n - (k + 1))
        · exact ⟨k + 1, bs ++ [wr.heap.size], rfl, by omega, Nat.le_refl _, HBN, HRN, HBY⟩
        · omega
    · obtain rfl : k = n := by omega
      obtain ⟨a', cap, rfl, hreg⟩ := HRB.out.regs (HV.out.below HBW.out) (by have := HBL.out; omega)
      rw [HBL.out] at hreg
      have HE : Hid (RegsV wr a' (k + 1) cap (regs0 zs k)) := hreg
      have HRL : Hid ((regs0 zs k).length = k + 1) := by show _ = _; simp [regs0]
      rw [HBL.out]
      clear hreg
      go_wp2
      go_ret
      refine ⟨⟨a', cap, ?_, ?_⟩, HBW.out⟩
      · rw [HRL.out]; rfl
      · rw [HRL.out]; exact HE.out

end Go.Proofs.YtneclfaamgfoeaaDoor

/- A machine's regions may be; what stands in them. No walk. -/
namespace Go.Proofs.YtneclfaamgfoeaaDoor
open Go.RowKit Go.Maps
set_option linter.unusedVariables false

theorem regs0_len (zs : List Int) (n : Nat) : (regs0 zs n).length = n + 1 := by simp [regs0]
theorem regs0_0 (zs : List Int) (n : Nat) : (regs0 zs n).getD 0 noReg = ⟨1048576, zs, true⟩ := rfl
theorem regs0_s (zs : List Int) (n j : Nat) (hj : j < n) : (regs0 zs n).getD (j + 1) noReg = ⟨2097152 + 65536 * (j : Int), zeros, true⟩ := by simp [regs0, List.getD, hj]
theorem regs0_ok (zs : List Int) (n : Nat) (hz : zs.length ≤ 4096) (hn : n ≤ 4) : AllOk (regs0 zs n) := by
  intro i hi
  rw [regs0_len] at hi
  cases i with
  | zero =>
    rw [regs0_0]
    simp [regOk]
    omega
  | succ j =>
    rw [regs0_s zs n j (by omega)]
    simp only [regOk, zeros_len]
    rw [show (2097152 + 65536 * (j : Int)).tmod 8 = 0 by rw [Int.tmod_eq_emod_of_nonneg (by omega)]; omega]
    simp
    omega
theorem regs0_may (zs : List Int) (n : Nat) (hz : zs.length ≤ 4096) (hn : n ≤ 4) : may (regs0 zs n) = true := by
  refine may_yes _ (by rw [regs0_len]; omega) fun i hi => okAt_yes _ _ (regs0_ok zs n hz hn i hi) fun k hk => ?_
  rw [regs0_len] at hi
  cases i with
  | zero => omega
  | succ j =>
    rw [regs0_s zs n j (by omega)]
    cases k with
    | zero =>
      rw [regs0_0]
      simp only [olap, zeros_len]
      rw [Bool.and_eq_false_iff]
      left
      exact decide_eq_false (by omega)
    | succ l =>
      rw [regs0_s zs n l (by omega)]
      simp only [olap, zeros_len]
      rw [Bool.and_eq_false_iff]
      left
      exact decide_eq_false (by omega)
theorem zeros_at (j : Nat) : zeros.getD j 0 = 0 := by
  unfold zeros
  by_cases h : j < 8192
  · simp only [List.getD, List.getElem?_replicate, if_pos h, Option.getD_some]
  · simp only [List.getD, List.getElem?_replicate, if_neg h, Option.getD_none]
theorem tmod8 (x : Int) : x.tmod 8 = 0 ↔ x % 8 = 0 := by
  constructor
  · intro h
    have := Int.dvd_of_tmod_eq_zero h
    omega
  · intro h
    exact Int.tmod_eq_zero_of_dvd (by omega)
theorem regs0_mem (zs : List Int) (n : Nat) (hz : zs.length ≤ 4096) (hn : n ≤ 4) : MemIs (regs0 zs n) (T.mem0 zs n) := by
  constructor
  · rintro x i j ⟨h8, hi, hin, hno, hj, hjl⟩
    rw [regs0_len] at hi
    rw [tmod8] at h8
    unfold T.mem0 wordAt
    rw [if_pos h8]
    cases i with
    | zero =>
      rw [regs0_0] at *
      simp only [inReg, Bool.and_eq_true, decide_eq_true_eq] at hin hj hjl ⊢
      rw [if_pos hin, ← hj, Int.toNat_natCast]
    | succ l =>
      rw [regs0_s zs n l (by omega)] at *
      simp only [inReg, Bool.and_eq_true, decide_eq_true_eq, zeros_len] at hin hj hjl ⊢
      rw [if_neg (by omega), if_pos (by omega), zeros_at]
  · rintro x (h8 | hno)
    · rw [tmod8] at h8
      unfold T.mem0
      rw [if_neg h8]
    · unfold T.mem0
      by_cases h8 : x % 8 = 0
      · rw [if_pos h8]
        have h0 := hno 0 (by rw [regs0_len]; omega)
        rw [regs0_0] at h0
        simp only [inReg, Bool.and_eq_false_iff, decide_eq_false_iff_not] at h0
        rw [if_neg (by omega), if_neg ?_]
        rintro ⟨h1, h2⟩
        have hk : ((x - 2097152) / 65536).toNat < n := by omega
        have h3 := hno (((x - 2097152) / 65536).toNat + 1) (by rw [regs0_len]; omega)
        rw [regs0_s zs n _ hk] at h3
        simp only [inReg, Bool.and_eq_false_iff, decide_eq_false_iff_not, zeros_len] at h3
        omega
      · rw [if_neg h8]
theorem regs0_write (zs : List Int) (n : Nat) : ∀ i, i < (regs0 zs n).length → ((regs0 zs n).getD i noReg).write = true := by
  intro i hi
  rw [regs0_len] at hi
  cases i with
  | zero => rfl
  | succ j => rw [regs0_s zs n j (by omega)]
theorem regs0_words (zs : List Int) (n : Nat) (hz : zs.length ≤ 4096) : ∀ i, i < n + 1 → ((regs0 zs n).getD i noReg).words.length ≤ 65536 := by
  intro i hi
  cases i with
  | zero => rw [regs0_0]; show zs.length ≤ _; omega
  | succ j => rw [regs0_s zs n j (by omega)]; show zeros.length ≤ _; rw [zeros_len]; omega
theorem regs0_fit (zs : List Int) (n : Nat) (hf : ∀ z ∈ zs, (Lit.int .i64 z).wf = true) : ∀ r ∈ regs0 zs n, ∀ z ∈ r.words, (Lit.int .i64 z).wf = true := by
  intro r hr
  simp only [regs0, List.mem_cons, List.mem_map, List.mem_range] at hr
  rcases hr with rfl | ⟨i, hi, rfl⟩
  · exact hf
  · exact zeros_fit

theorem ths0_len : ∀ (l : List Int) (i : Nat), (T.ths0 i l).length = l.length
  | [], _ => rfl
  | a :: l, i => by rw [T.ths0, List.length_cons, ths0_len l (i + 1), List.length_cons]
theorem ths0_snoc : ∀ (l : List Int) (i : Nat) (a : Int), T.ths0 i (l ++ [a]) = T.ths0 i l ++ [T.th0 (i + l.length) a]
  | [], i, a => rfl
  | b :: l, i, a => by rw [List.cons_append, T.ths0, ths0_snoc l (i + 1) a, T.ths0, List.length_cons, show i + 1 + l.length = i + (l.length + 1) by omega]; rfl
theorem ths0_ws : ∀ (l : List Int) (i : Nat) (h : T.Th), h ∈ T.ths0 i l → h.ws = []
  | [], i, h, hm => by simp [T.ths0] at hm
  | a :: l, i, h, hm => by
    rw [T.ths0, List.mem_cons] at hm
    rcases hm with rfl | hm
    · rfl
    · exact ths0_ws l (i + 1) h hm
/-- Threads, one behind the other, as they lie. -/
def thR : Nat → List T.Th → List Value
  | _, [] => []
  | i, h :: l => thC i h (.slice none 0 0) ++ thR (i + 1) l
theorem thR_snoc : ∀ (l : List T.Th) (i : Nat) (h : T.Th), thR i (l ++ [h]) = thR i l ++ thC (i + l.length) h (.slice none 0 0)
  | [], i, h => by simp [thR]
  | b :: l, i, h => by rw [List.cons_append, thR, thR_snoc l (i + 1) h, thR, List.append_assoc, List.length_cons, show i + 1 + l.length = i + (l.length + 1) by omega]
theorem thR_at : ∀ (l : List T.Th) (i k j : Nat) (h : T.Th), l[k]? = some h → j < 13 → (thR i l)[k * 13 + j]? = (thC (i + k) h (.slice none 0 0))[j]?
  | [], i, k, j, h, hk, _ => by simp at hk
  | b :: l, i, 0, j, h, hk, hj => by
    simp at hk
    subst hk
    rw [thR, Nat.zero_mul, Nat.zero_add, List.getElem?_append_left (by rw [thC_len]; omega)]
    rfl
  | b :: l, i, k + 1, j, h, hk, hj => by
    rw [thR, List.getElem?_append_right (by rw [thC_len]; omega), thC_len, show (k + 1) * 13 + j - 13 = k * 13 + j by omega, thR_at l (i + 1) k j h (by simpa using hk) hj, show i + 1 + k = i + (k + 1) by omega]

end Go.Proofs.YtneclfaamgfoeaaDoor

/- A new machine. (Written by gen_new2.py.) -/
namespace Go.Proofs.YtneclfaamgfoeaaDoor
open Go.RowKit Go.Maps
set_option linter.unusedVariables false
set_option linter.unusedSimpArgs false

theorem infoT : (Tryd.prog.info? 76).map (fun i => (i.zero, i.size, i.bytes)) = some (some (.agg #[.int .i64 0, .int .i64 0, .int .i64 0, .int .i64 0, .int .i64 0, .int .i64 0, .int .i64 0, .int .i64 0, .int .i64 0, .int .i64 0, .int .i64 0, .int .i64 0, .slice none 0 0]), 13, 120) := by kernel_rfl
theorem strt_fit {ss : List Sym} (h : ∀ s ∈ ss, (Lit.int .i64 s.pos).wf = true) : ∀ z ∈ strt ss, (Lit.int .i64 z).wf = true := by
  intro z hz
  unfold strt at hz
  obtain ⟨s, hs, rfl⟩ := List.mem_map.1 hz
  exact h s (List.mem_filter.1 hs).1
theorem frozen_cells {w : World} {g : Nat} {cur : Array Value} {ty : TypeId} (h : w.heap[g]? = some (.cells cur ty)) (o : Nat) : w.frozen? ⟨g, o, none⟩ = false := by
  unfold World.frozen?
  rw [h]
  rfl
/-- A machine that gets its threads. -/
structure NB (y w : World) (b : Nat) (code : ByteArray) (bm : Nat) (lv : Value) (n : Nat) (cs : List Value) : Prop where
  c0 : w.cell? ⟨b, 0, none⟩ = some (.string code)
  c1 : w.cell? ⟨b, 1, none⟩ = some (.pointer (some ⟨bm, 0, none⟩))
  c2 : w.cell? ⟨b, 2, none⟩ = some lv
  c3 : w.cell? ⟨b, 3, none⟩ = some (.slice none 0 0)
  fz : ∀ o, w.frozen? ⟨b, o, none⟩ = false
  hb : b = y.heap.size
  row : w.ownsRow (y.heap.size + 1) 76 13 lv n cs
  bl : Below y.heap.size y w
theorem NB.below {y w w' : World} {b : Nat} {code : ByteArray} {bm : Nat} {lv : Value} {n : Nat} {cs : List Value} (h : NB y w b code bm lv n cs) (hb : Below w.heap.size w w') : NB y w' b code bm lv n cs :=
  have hbl : b < w.heap.size := World.block_lt_of_cell? w ⟨b, 0, none⟩ h.c0
  ⟨cell_up hb h.c0, cell_up hb h.c1, cell_up hb h.c2, cell_up hb h.c3, fun o => (hb.frozen (p := ⟨b, o, none⟩) hbl).trans (h.fz o), h.hb, own_below h.row hb, h.bl.trans (hb.mono h.bl.size)⟩
theorem NB.push {y w Y : World} {b : Nat} {code : ByteArray} {bm : Nat} {lv lv' : Value} {n : Nat} {cs cs' : List Value} (h : NB y w b code bm lv n cs) (hg : w.grownBy Y lv.ownBlock) (ho : Y.ownsRow (y.heap.size + 1) 76 13 lv' (n + 1) cs') : NB y (Y.setCell ⟨b, 2, none⟩ lv') b code bm lv' (n + 1) cs' := by
  have hbl : b < w.heap.size := World.block_lt_of_cell? w ⟨b, 0, none⟩ h.c0
  have hlb : lv.ownBlock ≠ some b := fun e => by have := (h.row.lt b e).1; have := h.hb; omega
  have hlb' : lv'.ownBlock ≠ some b := fun e => by have := (ho.lt b e).1; have := h.hb; omega
  have eb : Y.heap[b]? = w.heap[b]? := hg.block b hbl (fun e => hlb e.symm)
  have hc : ∀ o, Y.cell? ⟨b, o, none⟩ = w.cell? ⟨b, o, none⟩ := fun o => World.cell?_of_block (a := ⟨b, o, none⟩) eb
  have far : ∀ o, o ≠ 2 → (Y.setCell ⟨b, 2, none⟩ lv').cell? ⟨b, o, none⟩ = w.cell? ⟨b, o, none⟩ := fun o ho => (World.cell?_setCell_other _ _ _ _ (off_ne (fun e => ho e.symm))).trans (hc o)
  refine ⟨(far 0 (by decide)).trans h.c0, (far 1 (by decide)).trans h.c1, World.cell?_setCell_same' _ _ _ (by rw [hc, h.c2]; rfl), (far 3 (by decide)).trans h.c3, fun o => ?_, h.hb, ho.kept (gb_set Y ⟨b, 2, none⟩ lv') (.inr hlb'), ?_⟩
  · rw [World.frozen?_setCell]
    exact blk_froz (p := ⟨b, o, none⟩) eb (h.fz o)
  · have h1 : Below y.heap.size y Y := ⟨hg.os.trans h.bl.os, hg.tape.trans h.bl.tape, hg.output.trans h.bl.output, Nat.le_trans h.bl.size hg.size, fun k hk => (hg.block k (Nat.lt_of_lt_of_le hk h.bl.size) (fun e => by have := (h.row.lt k e.symm).1; omega)).trans (h.bl.block k hk)⟩
    exact h1.setCell (by rw [h.hb]; exact Nat.le_refl _) _
/-- It is one. -/
theorem NB.tv {y w : World} {b : Nat} {code : ByteArray} {data : List Int} {zs : List Int} {bm : Nat} {lv : Value} {br bw : Nat} {mv : Value} {bs : List Nat} {B : Nat} (h : NB y w b code bm lv zs.length (thR 0 (T.ths0 0 zs))) (hm : MemV B y bm (regs0 data zs.length) [] [] br bw 0 0 mv bs) (hd : data.length ≤ 4096) (h1 : 1 ≤ zs.length) (h4 : zs.length ≤ 4) (hB : B ≤ y.heap.size) :
    ∃ t g cap us, TV B w b (T.mach0 code data zs) 0 t bm g cap (.slice none 0 0) us := by
  classical
  obtain ⟨a, cap, rfl, hnc, hcm⟩ := own_sl h.row
  rcases h.row.2 with ⟨h0, -⟩ | ⟨g, cap', cur, e, hgb, hgh, -⟩
  · injection h0 with h0 h5 h6
    omega
  obtain ⟨rfl, -, rfl⟩ : a = some ⟨g, 0, none⟩ ∧ True ∧ cap = cap' := by cases e; exact ⟨rfl, trivial, rfl⟩
  have hgl : g < w.heap.size := (Array.getElem?_eq_some_iff.1 hgh).1
  have hbl : b < w.heap.size := World.block_lt_of_cell? w ⟨b, 0, none⟩ h.c0
  have hbe := h.hb
  have hmw : MemV B w bm (regs0 data zs.length) [] [] br bw 0 0 mv bs := hm.conv (fun k hk => h.bl.block k (hm.lt k hk))
  have hlt : ∀ k, FpM bm br bw mv bs k → k < y.heap.size ∧ B ≤ k := fun k hk => ⟨hm.lt k hk, by
    rcases hk with rfl | rfl | rfl | hk | hk
    · exact hm.lo.1
    · exact hm.lo.2.1
    · exact hm.lo.2.2
    · exact (hm.row.lt _ hk).1
    · obtain ⟨i, hi, rfl⟩ := List.mem_iff_getElem.1 hk
      have := (hm.words i (by have := hm.len; omega)).2
      rw [getD_at hi] at this
      exact this⟩
  refine ⟨fun q => if q = b then 1 else if q = g then 3 else if FpM bm br bw mv bs q then 2 else 0, g, cap, List.replicate zs.length (.slice none 0 0), { c0 := h.c0, c1 := h.c1, c2 := ?_, c3 := h.c3, fz := h.fz, tb := if_pos rfl, room := ?_, mem := ?_, tg := ?_, gz := ?_, len := ?_, tc := ?_, ws := ?_, tw := ?_, evs := World.ownsRow_nil _ _ _ _, te := fun x hx => by simp [Value.ownBlock] at hx, lt := ?_ }⟩
  · show w.cell? ⟨b, 2, none⟩ = some (.slice (some ⟨g, 0, none⟩) (T.ths0 0 zs).length cap)
    rw [ths0_len]
    exact h.c2
  · show (T.ths0 0 zs).length ≤ cap ∧ cap ≤ maxLen ∧ 0 < (T.ths0 0 zs).length
    rw [ths0_len]
    exact ⟨hnc, hcm, h1⟩
  · refine ⟨_, _, _, br, bw, 0, 0, mv, bs, hmw, regs0_ok _ _ hd h4, regs0_write _ _, ?_, Nat.le_refl _, Nat.le_refl _, fun k hk => ?_⟩
    · show MemIs _ (T.mem0 data zs.length)
      exact regs0_mem _ _ hd h4
    · have := hlt k hk
      show (if k = b then 1 else if k = g then 3 else if FpM bm br bw mv bs k then 2 else 0) = 2
      rw [if_neg (by omega), if_neg (by omega), if_pos hk]
  · show (if g = b then 1 else if g = g then 3 else _) = 3
    rw [if_neg (by omega), if_pos rfl]
  · intro o
    exact frozen_cells hgh o
  · show (List.replicate zs.length _).length = (T.ths0 0 zs).length
    rw [ths0_len, List.length_replicate]
  · intro k x u hk hu j v hj
    have hj13 : j < 13 := (List.getElem?_eq_some_iff.1 hj).1
    have hkl : k < zs.length := by rw [← ths0_len zs 0]; exact (List.getElem?_eq_some_iff.1 hk).1
    rw [List.getElem?_replicate, if_pos hkl] at hu
    cases hu
    rw [h.row.cellAt (k * 13 + j) (by omega), thR_at (T.ths0 0 zs) 0 k j x hk hj13, Nat.zero_add]
    exact hj
  · intro k x u hk hu
    have hkl : k < zs.length := by rw [← ths0_len zs 0]; exact (List.getElem?_eq_some_iff.1 hk).1
    rw [List.getElem?_replicate, if_pos hkl] at hu
    cases hu
    have : x.ws = [] := ths0_ws zs 0 x (List.mem_of_getElem? hk)
    rw [this]
    exact World.ownsRow_nil _ _ _ _
  · intro k u x hu hx
    rw [List.getElem?_replicate] at hu
    split at hu
    · cases hu; simp [Value.ownBlock] at hx
    · cases hu
  · intro k hk
    change (if k = b then 1 else if k = g then 3 else if FpM bm br bw mv bs k then 2 else 0) ≠ 0 at hk
    by_cases e1 : k = b
    · subst e1; exact ⟨by omega, hbl⟩
    · rw [if_neg e1] at hk
      by_cases e2 : k = g
      · subst e2; exact ⟨by omega, hgl⟩
      · rw [if_neg e2] at hk
        by_cases e3 : FpM bm br bw mv bs k
        · have := hlt k e3
          exact ⟨this.2, Nat.lt_of_lt_of_le this.1 h.bl.size⟩
        · rw [if_neg e3] at hk; exact absurd rfl hk

end Go.Proofs.YtneclfaamgfoeaaDoor

/- A new machine. -/
namespace Go.Proofs.YtneclfaamgfoeaaDoor
open Go.RowKit Go.Maps
set_option linter.unusedVariables false
set_option linter.unusedSimpArgs false

def ImgD.may (m : ImgD) : Bool := T.mayRun m.code m.data.length (strt m.syms)
def ImgD.mach (m : ImgD) : T.Mach := T.mach0 m.code m.data (strt m.syms)
def NewIs (B : Nat) (e : Ending) (w' : World) (M : T.Mach) : Prop := ∃ b t bm g cap us, e = .returned (.tuple #[.pointer (some ⟨b, 0, none⟩), .int .i64 0]) ∧ TV B w' b M 0 t bm g cap (.slice none 0 0) us

theorem MemV.lower {B B' : Nat} {w : World} {bm : Nat} {rs : List Reg} {R W : List Int} {br bw nr nw : Nat} {lv : Value} {bs : List Nat} (h : MemV B w bm rs R W br bw nr nw lv bs) (hl : B' ≤ B) : MemV B' w bm rs R W br bw nr nw lv bs :=
  { h with lo := ⟨Nat.le_trans hl h.lo.1, Nat.le_trans hl h.lo.2.1, Nat.le_trans hl h.lo.2.2⟩, row := own_mono h.row hl, words := fun i hi => ⟨(h.words i hi).1, Nat.le_trans hl (h.words i hi).2⟩ }
theorem IntsV.view {w : World} {a : Option Addr} {l c : Nat} {zs : List Int} (h : IntsV w a l c zs) : View w a l c zs := ⟨h.count, h.fits, h.nilOf, h.cells⟩

set_option maxRecDepth 100000 in
set_option maxHeartbeats 8000000 in
theorem tnew_no {w : World} {v : Value} {m : ImgD} (h : ImgV w v m) (hl : m.syms.length ≤ 8796093022208) (hm : m.may = false) :
    Calls Tryd.prog 10 #[v] w fun e w' => e = .returned (.tuple #[.pointer none, .int .i64 1]) ∧ Below w.heap.size w w' := by
  obtain ⟨a1, l1, c1, a2, l2, c2, rfl, hs, h1, h2⟩ := h.form
  obtain ⟨W1, hW1⟩ : ∃ W1, w.alloc (.cells #[.string m.code, .slice a1 l1 c1, .slice a2 l2 c2] 25) = W1 := ⟨_, rfl⟩
  have b1 : Below w.heap.size w W1 := by subst hW1; exact bl_one _ _
  have v0 : W1.cell? ⟨w.heap.size, 0, none⟩ = some (.string m.code) := by subst hW1; exact cell_last _ _ _ _ _ rfl rfl
  have v1 : W1.cell? ⟨w.heap.size, 1, none⟩ = some (.slice a1 l1 c1) := by subst hW1; exact cell_last _ _ _ _ _ rfl rfl
  have v2 : W1.cell? ⟨w.heap.size, 2, none⟩ = some (.slice a2 l2 c2) := by subst hW1; exact cell_last _ _ _ _ _ rfl rfl
  have HB1 : Hid (Below w.heap.size w W1) := b1
  have HI : Hid (ImgV W1 (.agg #[.string m.code, .slice a1 l1 c1, .slice a2 l2 c2]) m) := h.below b1
  have HF : Hid (∀ z ∈ strt m.syms, (Lit.int .i64 z).wf = true) := strt_fit (fun s hs => (h2.fits s hs).2.2)
  have HS : Hid (Calls Tryd.prog 25 #[.slice a2 l2 c2] W1 fun e w' => RowIs W1.heap.size 3 1 e w' (strt m.syms).length ((strt m.syms).flatMap intC) ∧ Below W1.heap.size W1 w') := starts_any (h2.below b1) (by rw [← h2.count]; exact hl)
  have HM : Hid (m.may = false) := hm
  clear h h1 h2 hl hm b1
  go_enter Tryd.func10, Tryd.ntmps10
  go_wp2_with fail
  refine HS.out.mono ?_
  rintro e y1 ⟨⟨sv, rfl, ho1⟩, hb1⟩
  obtain ⟨a, c, rfl, hz1⟩ := ints_own ho1 rfl HF.out
  have v0 := cell_up hb1 v0
  have v1 := cell_up hb1 v1
  have v2 := cell_up hb1 v2
  have h3 := mayRun_any (HI.out.below hb1) hz1
  have hm1 : T.mayRun m.code m.data.length (strt m.syms) = false := HM.out
  rw [hm1] at h3
  obtain ⟨n, hn⟩ : ∃ n, (strt m.syms).length = n := ⟨_, rfl⟩
  rw [hn] at h3
  rw [hn]
  have HMR : Hid (Calls Tryd.prog 26 #[.agg #[.string m.code, .slice a1 l1 c1, .slice a2 l2 c2], .slice a n c] y1 fun e w' => e = .returned (.bool false) ∧ Below y1.heap.size y1 w') := h3
  have HBY : Hid (Below w.heap.size w y1) := HB1.out.trans (hb1.mono HB1.out.size)
  clear hb1 ho1 hz1 h3 hm1 hn
  go_wp2_with fail
  refine HMR.out.mono ?_
  rintro e y2 ⟨rfl, hb2⟩
  have HBZ : Hid (Below w.heap.size w y2) := HBY.out.trans (hb2.mono HBY.out.size)
  clear hb2
  go_wp2
  go_ret2
  exact ⟨rfl, HBZ.out⟩

set_option maxRecDepth 100000 in
set_option maxHeartbeats 8000000 in
theorem tnew_yes {w : World} {v : Value} {m : ImgD} (h : ImgV w v m) (hl : m.syms.length ≤ 8796093022208) (hm : m.may = true) :
    Calls Tryd.prog 10 #[v] w fun e w' => NewIs w.heap.size e w' m.mach ∧ Below w.heap.size w w' := by
  obtain ⟨a1, l1, c1, a2, l2, c2, rfl, hs, h1, h2⟩ := h.form
  obtain ⟨it, hit, hz0, hz1, hz2⟩ := info_partsL infoT
  have hmm : 1 ≤ (strt m.syms).length ∧ (strt m.syms).length ≤ 4 ∧ m.code.size ≤ 65536 ∧ m.data.length ≤ 4096 := by
    have := (Bool.and_eq_true_iff.1 hm).1
    exact of_decide_eq_true this
  have hma : ∀ z ∈ strt m.syms, 0 ≤ z ∧ z < (m.code.size : Int) := fun z hz => by
    have := (Bool.and_eq_true_iff.1 hm).2
    exact of_decide_eq_true (List.all_eq_true.1 this z hz)
  obtain ⟨W1, hW1⟩ : ∃ W1, w.alloc (.cells #[.string m.code, .slice a1 l1 c1, .slice a2 l2 c2] 25) = W1 := ⟨_, rfl⟩
  have b1 : Below w.heap.size w W1 := by subst hW1; exact bl_one _ _
  have v0 : W1.cell? ⟨w.heap.size, 0, none⟩ = some (.string m.code) := by subst hW1; exact cell_last _ _ _ _ _ rfl rfl
  have v1 : W1.cell? ⟨w.heap.size, 1, none⟩ = some (.slice a1 l1 c1) := by subst hW1; exact cell_last _ _ _ _ _ rfl rfl
  have v2 : W1.cell? ⟨w.heap.size, 2, none⟩ = some (.slice a2 l2 c2) := by subst hW1; exact cell_last _ _ _ _ _ rfl rfl
  have HB1 : Hid (Below w.heap.size w W1) := b1
  have HI : Hid (ImgV W1 (.agg #[.string m.code, .slice a1 l1 c1, .slice a2 l2 c2]) m) := h.below b1
  have HD : Hid (View W1 a1 l1 c1 m.data) := (h1.below b1).view
  have HDF : Hid (∀ z ∈ m.data, (Lit.int .i64 z).wf = true) := h1.fits
  have HF : Hid (∀ z ∈ strt m.syms, (Lit.int .i64 z).wf = true) := strt_fit (fun s hs => (h2.fits s hs).2.2)
  have HS : Hid (Calls Tryd.prog 25 #[.slice a2 l2 c2] W1 fun e w' => RowIs W1.heap.size 3 1 e w' (strt m.syms).length ((strt m.syms).flatMap intC) ∧ Below W1.heap.size W1 w') := starts_any (h2.below b1) (by rw [← h2.count]; exact hl)
  have HM : Hid (m.may = true) := hm
  have HMA : Hid _ := hma
  have HMC : Hid (m.mach = T.mach0 m.code m.data (strt m.syms)) := rfl
  clear h h1 h2 hl hm b1 hma
  go_enter Tryd.func10, Tryd.ntmps10
  go_wp2_with fail
  refine HS.out.mono ?_
  rintro e y1 ⟨⟨sv, rfl, ho1⟩, hb1⟩
  obtain ⟨a, c, rfl, hz1'⟩ := ints_own ho1 rfl HF.out
  have v0 := cell_up hb1 v0
  have v1 := cell_up hb1 v1
  have v2 := cell_up hb1 v2
  have h3 := mayRun_any (HI.out.below hb1) hz1'
  have hm1 : T.mayRun m.code m.data.length (strt m.syms) = true := HM.out
  rw [hm1] at h3
  obtain ⟨zs, hzs⟩ : ∃ zs, strt m.syms = zs := ⟨_, rfl⟩
  have HZS : Hid (strt m.syms = zs) := hzs
  rw [hzs] at h3 hz1' HMA HF HMC hmm
  rw [hzs]
  obtain ⟨n, hn⟩ : ∃ n, zs.length = n := ⟨_, rfl⟩
  have HN : Hid (zs.length = n) := hn
  rw [hn] at h3 hz1' hmm
  rw [hn]
  have HMR : Hid (Calls Tryd.prog 26 #[.agg #[.string m.code, .slice a1 l1 c1, .slice a2 l2 c2], .slice a n c] y1 fun e w' => e = .returned (.bool true) ∧ Below y1.heap.size y1 w') := h3
  have HBY : Hid (Below w.heap.size w y1) := HB1.out.trans (hb1.mono HB1.out.size)
  have HD1 : Hid (View y1 a1 l1 c1 m.data) := HD.out.below hb1
  have HZ1 : Hid (IntsV y1 a n c zs) := hz1'
  clear hb1 ho1 hz1' h3 hm1 hn hzs HD
  go_wp2_with fail
  refine HMR.out.mono ?_
  rintro e y2 ⟨rfl, hb2⟩
  have HBZ : Hid (Below w.heap.size w y2) := HBY.out.trans (hb2.mono HBY.out.size)
  have HD2 : Hid (View y2 a1 l1 c1 m.data) := HD1.out.below hb2
  have HZ2 : Hid (IntsV y2 a n c zs) := HZ1.out.below hb2
  have v0 := cell_up hb2 v0
  have v1 := cell_up hb2 v1
  have hna : n ≤ 4 := hmm.2.1
  have HRG : Hid (Calls Tryd.prog 28 #[.slice a1 l1 c1, .int .i64 n] y2 fun e w' => RegsIs e w' (regs0 m.data n) ∧ Below y2.heap.size y2 w') := regions_any HD2.out n hna
  have hro := HZ2.out.room
  unfold maxLen at hro
  clear hb2 HD1 HZ1 v2
  go_wp2_with fail
  refine HRG.out.mono ?_
  rintro e y3 ⟨⟨ra, rc, rfl, hreg⟩, hb3⟩
  have HBA : Hid (Below w.heap.size w y3) := HBZ.out.trans (hb3.mono HBZ.out.size)
  have HZ3 : Hid (IntsV y3 a n c zs) := HZ2.out.below hb3
  have v0 := cell_up hb3 v0
  rw [regs0_len] at hreg
  rw [regs0_len]
  have HNW : Hid (Calls Tryd.prog 27 #[.slice ra (n + 1) rc] y3 fun e w' => ∃ bm br bw lv bs, e = .returned (.tuple #[.pointer (some ⟨bm, 0, none⟩), .int .i64 0]) ∧ MemV y3.heap.size w' bm (regs0 m.data n) [] [] br bw 0 0 lv bs ∧ Below y3.heap.size y3 w') := new_yes hreg (regs0_may _ _ hmm.2.2.2 hna) (by omega) (regs0_words _ _ hmm.2.2.2) (regs0_fit _ _ HDF.out)
  clear hb3 HD2 HZ2 hreg v1
  go_wp2_with fail
  refine HNW.out.mono ?_
  rintro e y4 ⟨bm, br, bw, mv, bs, rfl, hmv, hb4⟩
  have HBB : Hid (Below w.heap.size w y4) := HBA.out.trans (hb4.mono HBA.out.size)
  have HZ4 : Hid (IntsV y4 a n c zs) := HZ3.out.below hb4
  have HMV : Hid (MemV y3.heap.size y4 bm (regs0 m.data n) [] [] br bw 0 0 mv bs) := hmv
  have v0 := cell_up hb4 v0
  have HB34 : Hid (w.heap.size ≤ y3.heap.size ∧ y3.heap.size ≤ y4.heap.size) := ⟨HBA.out.size, hb4.size⟩
  have HNB : Hid (NB y4 (y4.alloc (.cells #[.string m.code, .pointer (some ⟨bm, 0, none⟩), .slice none 0 0, .slice none 0 0] 74)) y4.heap.size m.code bm (.slice none 0 0) 0 (thR 0 (T.ths0 0 (zs.take 0)))) :=
    ⟨cell_last _ _ _ _ _ rfl rfl, cell_last _ _ _ _ _ rfl rfl, cell_last _ _ _ _ _ rfl rfl, cell_last _ _ _ _ _ rfl rfl, fun o => World.frozen?_alloc_at _ _ _ _ rfl, rfl, World.ownsRow_nil _ _ _ _, bl_one _ _⟩
  clear hb4 hmv HZ3
  go_wp2_with fail
  go_loopg [36] n (fun r iv wq => ∃ (k : Nat) (lv : Value), iv = .int .i64 k ∧ k ≤ n ∧ n - k ≤ r ∧ Hid (NB y4 wq y4.heap.size m.code bm lv k (thR 0 (T.ths0 0 (zs.take k)))))
  case atStart => exact ⟨0, _, rfl, Nat.zero_le _, by omega, HNB⟩
  case round =>
    obtain ⟨k, lv, rfl, hk, hr, HK⟩ := hrel
    by_cases hlt : k < n
    · rcases (HZ4.out.below HK.out.bl).cells with h0 | ⟨zb, zo, hA, hcl⟩
      · omega
      have q0 := hcl k hlt
      obtain ⟨z, hz⟩ : ∃ z, zs.getD k 0 = z := ⟨_, rfl⟩
      rw [hz] at q0
      have HTK : Hid (zs.take (k + 1) = zs.take k ++ [z]) := by
        show _ = _
        have hkl : k < zs.length := by rw [HN.out]; exact hlt
        rw [List.take_succ_eq_append_getElem hkl, ← hz]
        simp [List.getD, hkl]
      have hza := HMA.out z (by rw [← hz]; have hkl : k < zs.length := by rw [HN.out]; exact hlt
                                simp [List.getD, hkl])
      have HTL : Hid ((zs.take k).length = k) := by show _ = _; rw [List.length_take, HN.out]; omega
      subst hA
      have hii : (k : Int) < n := by omega
      have hin : 0 ≤ (k : Int) := by omega
      have hnt := newThread_any k (by omega) z (by omega)
      obtain ⟨sb, hsb⟩ : ∃ sb : Int, 2097152 + 65536 * ((k : Int) + 1) = sb := ⟨_, rfl⟩
      obtain ⟨pc, hpc⟩ : ∃ pc : Int, wrap64 (4096 + z) = pc := ⟨_, rfl⟩
      have HTC : Hid (thC k (T.th0 k z) (.slice none 0 0) = [.int .i64 0, .int .i64 0, .int .i64 0, .int .i64 0, .int .i64 0, .int .i64 0, .int .i64 0, .int .i64 sb, .int .i64 pc, .int .i64 0, .int .i64 0, .int .i64 k, .slice none 0 0]) := by
        show _ = _
        unfold thC T.th0 T.noC
        rw [hsb, hpc]
      have HNT : Hid (∀ w, Calls Tryd.prog 29 #[.int .i64 k, .int .i64 z] w fun e w' => e = .returned (.agg #[.int .i64 0, .int .i64 0, .int .i64 0, .int .i64 0, .int .i64 0, .int .i64 0, .int .i64 0, .int .i64 sb, .int .i64 pc, .int .i64 0, .int .i64 0, .int .i64 k, .slice none 0 0]) ∧ Below w.heap.size w w') := fun w => by
        have h5 := hnt w
        unfold thV at h5
        rw [HTC.out] at h5
        exact h5
      obtain ⟨av, cv, rfl, hnc, hcm⟩ := own_sl HK.out.row
      have c2 := HK.out.c2
      have hbl : y4.heap.size < wr.heap.size := World.block_lt_of_cell? wr ⟨y4.heap.size, 0, none⟩ HK.out.c0
      have HA : Hid (∀ y, Below wr.heap.size wr y → y.cell? ⟨y4.heap.size, 2, none⟩ = some (.slice av k cv) ∧ (y.alloc (.cells #[.int .i64 0, .int .i64 0, .int .i64 0, .int .i64 0, .int .i64 0, .int .i64 0, .int .i64 0, .int .i64 sb, .int .i64 pc, .int .i64 0, .int .i64 0, .int .i64 k, .slice none 0 0] 76)).cell? ⟨y4.heap.size, 2, none⟩ = some (.slice av k cv) ∧ (y.alloc (.cells #[.int .i64 0, .int .i64 0, .int .i64 0, .int .i64 0, .int .i64 0, .int .i64 0, .int .i64 0, .int .i64 sb, .int .i64 pc, .int .i64 0, .int .i64 0, .int .i64 k, .slice none 0 0] 76)).ownsRow (y4.heap.size + 1) 76 13 (.slice av k cv) k (thR 0 (T.ths0 0 (zs.take k))) ∧ (∀ j u, ([.int .i64 0, .int .i64 0, .int .i64 0, .int .i64 0, .int .i64 0, .int .i64 0, .int .i64 0, .int .i64 sb, .int .i64 pc, .int .i64 0, .int .i64 0, .int .i64 k, .slice none 0 0] : List Value)[j]? = some u → (y.alloc (.cells #[.int .i64 0, .int .i64 0, .int .i64 0, .int .i64 0, .int .i64 0, .int .i64 0, .int .i64 0, .int .i64 sb, .int .i64 pc, .int .i64 0, .int .i64 0, .int .i64 k, .slice none 0 0] 76)).cell? ((⟨y.heap.size, 0, none⟩ : Addr).add j) = some u) ∧ y4.heap.size + 1 ≤ (y.alloc (.cells #[.int .i64 0, .int .i64 0, .int .i64 0, .int .i64 0, .int .i64 0, .int .i64 0, .int .i64 0, .int .i64 sb, .int .i64 pc, .int .i64 0, .int .i64 0, .int .i64 k, .slice none 0 0] 76)).heap.size) := fun y hy => by
        have h6 : Below wr.heap.size wr (y.alloc (.cells #[.int .i64 0, .int .i64 0, .int .i64 0, .int .i64 0, .int .i64 0, .int .i64 0, .int .i64 0, .int .i64 sb, .int .i64 pc, .int .i64 0, .int .i64 0, .int .i64 k, .slice none 0 0] 76)) := hy.alloc hy.size _
        refine ⟨cell_up hy c2, cell_up h6 c2, own_below HK.out.row h6, fun j u hu => ?_, by have := h6.size; omega⟩
        rw [Addr.add_lit, Nat.zero_add]
        exact cell_last _ _ _ _ _ rfl (by simpa using hu)
      have hvb : (Value.slice av k cv).ownBlock ≠ some y4.heap.size := fun e => by have := (HK.out.row.lt _ e).1; omega
      have HFZ : Hid (wr.frozen? ⟨y4.heap.size, 2, none⟩ = false) := HK.out.fz 2
      clear hcl hz hza hnt hsb hpc hnc
      go_wp2_with fail
      go_region_law ((first | (go_simp; go_at_call 29; refine (HNT.out _).mono ?_; rintro e y ⟨rfl, hby⟩; have HBY2 : Hid (Below wr.heap.size wr y) := (Below.refl _ _).drew.trans hby; obtain ⟨m1, m2, m3, m4, m5⟩ := HA.out y ((Below.refl _ _).drew.trans hby); have HM3 : Hid _ := m3; have HM4 : Hid _ := m4; clear hby m3 m4) | (refine step_append_lies _ (by rfl) _ _ 72 (by rfl) (y4.heap.size + 1) 76 it _ 13 120 Tryd.underlying72 hit hz0 hz1 hz2 (by rfl) (by decide) (.slice av k cv) k _ (by rfl) HM3.out ⟨y.heap.size, 0, none⟩ 1 1 [.int .i64 0, .int .i64 0, .int .i64 0, .int .i64 0, .int .i64 0, .int .i64 0, .int .i64 0, .int .i64 sb, .int .i64 pc, .int .i64 0, .int .i64 0, .int .i64 k, .slice none 0 0] (by rfl) (by rfl) HM4.out (by intro u hu; simp at hu; rcases hu with rfl | rfl | rfl | rfl | rfl | rfl | rfl | rfl | rfl | rfl | rfl | rfl | rfl <;> rfl) (by decide) (by unfold maxLen; omega) (by omega) m5 (y.heap.size + 1) (by simp) ?_; intro x cp Y6 ho6 hg6 hat6 hlt6; have m6 : Y6.cell? ⟨y4.heap.size, 2, none⟩ = some (.slice av k cv) := hg6.cell m2 (fun e => hvb e.symm); have z6 : Y6.frozen? ⟨y4.heap.size, 2, none⟩ = false := (hg6.frozen_far ⟨y4.heap.size, 2, none⟩ (by show y4.heap.size < _; omega) (fun e => hvb e.symm)).trans (((HBY2.out.alloc HBY2.out.size _).frozen (p := ⟨y4.heap.size, 2, none⟩) hbl).trans HFZ.out))))
      all_goals
        have HNN : Hid (NB y4 (Y6.setCell ⟨y4.heap.size, 2, none⟩ (.slice (some ⟨x, 0, none⟩) (k + 1) cp)) y4.heap.size m.code bm (.slice (some ⟨x, 0, none⟩) (k + 1) cp) (k + 1) (thR 0 (T.ths0 0 (zs.take (k + 1))))) := by
          refine (HK.out.below (HBY2.out.alloc HBY2.out.size _)).push hg6 ?_
          rw [HTK.out, ths0_snoc, thR_snoc, ths0_len, HTL.out, Nat.zero_add, HTC.out]
          exact ho6
        clear ho6 hg6 hat6 hlt6 m6 z6 m1 m2 m5
        go_wp2
        go_roundg (n - (k + 1))
        · exact ⟨k + 1, _, rfl, by omega, Nat.le_refl _, HNN⟩
        · omega
    · obtain rfl : k = n := by omega
      have HE : Hid (NewIs w.heap.size (.returned (.tuple #[.pointer (some ⟨y4.heap.size, 0, none⟩), .int .i64 0])) wr m.mach ∧ Below w.heap.size w wr) := by
        have h7 := HK.out
        rw [← HN.out, List.take_length] at h7
        have h8 := HMV.out.lower HB34.out.1
        rw [← HN.out] at h8
        obtain ⟨t, g, cap, us, htv⟩ := h7.tv h8 hmm.2.2.2 (by rw [HN.out]; omega) (by rw [HN.out]; omega) (Nat.le_trans HB34.out.1 HB34.out.2)
        refine ⟨⟨_, t, bm, g, cap, us, rfl, ?_⟩, HBB.out.trans (h7.bl.mono HBB.out.size)⟩
        rw [HMC.out]
        exact htv
      go_wp2
      go_ret2
      exact HE.out

end Go.Proofs.YtneclfaamgfoeaaDoor

/- What a pick makes of a machine, in one form; what stays. No walk. -/
namespace Go.Proofs.YtneclfaamgfoeaaDoor
open Go.RowKit
set_option linter.unusedVariables false

namespace T
/-- What memory makes of a thread's waiting stores, of itself, of the events. -/
def ansW (M : Mach) (k : Nat) (q : S.Q) : List Wait :=
  if q.k = 2 then has (M.mem q.a) ((if (M.th k).ws.length = 8 then (M.th k).ws.tail else (M.th k).ws) ++ [(q.a, q.v)]) (M.th k).ws
  else if q.k = 3 ∨ q.k = 4 then has (M.mem q.a) [] (M.th k).ws
  else if q.k = 5 then [] else (M.th k).ws
def fullMem (M : Mach) (k : Nat) : Memo := if (M.th k).ws.length = 8 then (leave M k).mem else M.mem
def ansMem (M : Mach) (k : Nat) (q : S.Q) : Memo :=
  if q.k = 2 then has (M.mem q.a) (fullMem M k) M.mem
  else if q.k = 3 then has (M.mem q.a) (upd (upds M.mem (M.th k).ws) q.a q.v) M.mem
  else if q.k = 4 then has (M.mem q.a) (upd (upds M.mem (M.th k).ws) q.a (wrap64 ((upds M.mem (M.th k).ws q.a).getD 0 + q.v))) M.mem
  else if q.k = 5 then upds M.mem (M.th k).ws else M.mem
def ansEs (M : Mach) (k : Nat) (q : S.Q) : List Ev := if q.k = 6 then M.es ++ [((k : Int), 1, q.v)] else M.es

theorem put_eq (M : Mach) (k : Nat) (m : Memo) (h : Th) : M.put k m h = ⟨M.code, m, M.ts.set k h, M.es⟩ := rfl
theorem set_self {M : Mach} {k : Nat} (hk : k < M.ts.length) : M.ts.set k ⟨(M.th k).c, (M.th k).ws⟩ = M.ts := by
  show M.ts.set k (M.th k) = M.ts
  unfold Mach.th
  simp [List.getD, hk]
theorem full_eq {M : Mach} {k : Nat} (hk : k < M.ts.length) : full M k = M.put k (fullMem M k) ⟨(M.th k).c, if (M.th k).ws.length = 8 then (M.th k).ws.tail else (M.th k).ws⟩ := by
  unfold full fullMem
  by_cases h8 : (M.th k).ws.length = 8
  · rw [if_pos h8, if_pos h8, if_pos h8]
    unfold leave
    cases e : (M.th k).ws with
    | nil => rw [e] at h8; cases h8
    | cons p r => rfl
  · rw [if_neg h8, if_neg h8, if_neg h8]
    exact (put_same hk).symm
theorem ansM_eq {M : Mach} {k : Nat} (hk : k < M.ts.length) (q : S.Q) : ansM M k q = ⟨M.code, ansMem M k q, M.ts.set k ⟨(M.th k).c, ansW M k q⟩, ansEs M k q⟩ := by
  have hid : M = ⟨M.code, M.mem, M.ts.set k ⟨(M.th k).c, (M.th k).ws⟩, M.es⟩ := by rw [set_self hk]
  unfold ansM ansMem ansW ansEs
  by_cases h2 : q.k = 2
  · rw [if_pos h2, if_pos h2, if_pos h2, if_neg (show ¬ q.k = 6 by omega)]
    cases e : M.mem q.a with
    | none => exact hid
    | some v =>
      show push (full M k) k q.a q.v = ⟨_, fullMem M k, _, _⟩
      unfold push
      rw [full_eq hk, put_put, th_put hk]
      rfl
  rw [if_neg h2, if_neg h2, if_neg h2]
  by_cases h3 : q.k = 3
  · rw [if_pos h3, if_pos h3, if_pos (.inl h3), if_neg (show ¬ q.k = 6 by omega)]
    cases e : M.mem q.a with
    | none => exact hid
    | some v => rfl
  rw [if_neg h3, if_neg h3]
  by_cases h4 : q.k = 4
  · rw [if_pos h4, if_pos h4, if_pos (.inr h4), if_neg (show ¬ q.k = 6 by omega)]
    cases e : M.mem q.a with
    | none => exact hid
    | some v => rfl
  rw [if_neg h4, if_neg h4, if_neg (show ¬ (q.k = 3 ∨ q.k = 4) by omega)]
  by_cases h5 : q.k = 5
  · rw [if_pos h5, if_pos h5, if_pos h5, if_neg (show ¬ q.k = 6 by omega)]
    rfl
  rw [if_neg h5, if_neg h5, if_neg h5]
  by_cases h6 : q.k = 6
  · rw [if_pos h6, if_pos h6]
    unfold Mach.see
    rw [set_self hk]
  · rw [if_neg h6, if_neg h6]
    exact hid

/-- The thread's registers behind its instruction, and what it asked. -/
def insQ (M : Mach) (k : Nat) : S.Q := iQ (M.th k).c (I.cut M.code (plc M k))
def goes (M : Mach) (k : Nat) : Bool := decOk M.code (plc M k) && decide (ansE M k (insQ M k) = 0)
def insC (M : Mach) (k : Nat) : S.C :=
  if decOk M.code (plc M k) = true then (if ansE M k (insQ M k) = 0 then S.finish (iC (M.th k).c (I.cut M.code (plc M k))) (insQ M k).k (insQ M k).r (ansN M k (insQ M k)) else trapC (M.th k).c 2) else trapC (M.th k).c 3
def insW (M : Mach) (k : Nat) : List Wait := if goes M k = true then ansW M k (insQ M k) else (M.th k).ws
def insMem (M : Mach) (k : Nat) : Memo := if goes M k = true then ansMem M k (insQ M k) else M.mem
def insEs (M : Mach) (k : Nat) : List Ev := if goes M k = true then ansEs M k (insQ M k) else M.es
theorem doIns_eq {M : Mach} {k : Nat} (hk : k < M.ts.length) : doIns M k = ⟨M.code, insMem M k, M.ts.set k ⟨insC M k, insW M k⟩, insEs M k⟩ := by
  unfold doIns insMem insC insW insEs goes
  cases hd : decOk M.code (plc M k) with
  | false => rfl
  | true =>
    by_cases he : ansE M k (insQ M k) = 0
    · have he' : ansE M k (iQ (M.th k).c (I.cut M.code (plc M k))) = 0 := he
      rw [if_pos rfl, if_pos rfl, if_pos he', if_pos he, decide_eq_true he, Bool.and_self, if_pos rfl, if_pos rfl, if_pos rfl]
      have h1 := ansM_eq hk (insQ M k)
      unfold setC
      change Mach.put (ansM M k (insQ M k)) k (ansM M k (insQ M k)).mem ⟨S.finish (iC (M.th k).c (I.cut M.code (plc M k))) (insQ M k).k (insQ M k).r (ansN M k (insQ M k)), ((ansM M k (insQ M k)).th k).ws⟩ = _
      have h2 : k < (ansM M k (insQ M k)).ts.length := by rw [h1]; simpa using hk
      have h3 : (ansM M k (insQ M k)).th k = ⟨(M.th k).c, ansW M k (insQ M k)⟩ := by
        rw [h1]; unfold Mach.th; simp [List.getD, hk]
      rw [h3, h1, put_eq]
      simp only [List.set_set]
    · have he' : ¬ ansE M k (iQ (M.th k).c (I.cut M.code (plc M k))) = 0 := he
      rw [if_pos rfl, if_pos rfl, if_neg he', if_neg he, decide_eq_false he, Bool.and_false]
      rfl
/-- What is seen of a thread that has ended. -/
def endE (k : Nat) (c : S.C) : List Ev := if c.st = 1 then [((k : Int), 2, 0)] else if c.st = 2 then [((k : Int), 3, c.tr)] else []
theorem goOn_eq {M : Mach} {k : Nat} (hk : k < M.ts.length) (hs : (M.th k).c.st = 0) : goOn M k = ⟨M.code, insMem M k, M.ts.set k ⟨insC M k, insW M k⟩, insEs M k ++ endE k (insC M k)⟩ := by
  unfold goOn
  rw [if_pos hs]
  have h1 := doIns_eq hk
  have h3 : (doIns M k).th k = ⟨insC M k, insW M k⟩ := by rw [h1]; unfold Mach.th; simp [List.getD, hk]
  unfold seen endE
  rw [h3]
  by_cases e1 : (insC M k).st = 1
  · rw [if_pos e1, if_pos e1]; unfold Mach.see; rw [h1]
  · rw [if_neg e1, if_neg e1]
    by_cases e2 : (insC M k).st = 2
    · rw [if_pos e2, if_pos e2]; unfold Mach.see; rw [h1]
    · rw [if_neg e2, if_neg e2, h1, List.append_nil]
theorem goOn_no {M : Mach} {k : Nat} (hs : ¬ (M.th k).c.st = 0) : goOn M k = M := if_neg hs
theorem leave_eq {M : Mach} {k : Nat} {p : Wait} {r : List Wait} (h : (M.th k).ws = p :: r) : leave M k = ⟨M.code, upd M.mem p.1 p.2, M.ts.set k ⟨(M.th k).c, r⟩, M.es⟩ := by
  unfold leave; rw [h]; rfl
theorem leave_no {M : Mach} {k : Nat} (h : (M.th k).ws = []) : leave M k = M := by unfold leave; rw [h]
theorem who_lt {M : Mach} (h : 0 < M.ts.length) (p : Int) : who M p < M.ts.length := by
  unfold who
  have h1 := Int.emod_nonneg (pk p / 2) (b := (M.ts.length : Int)) (by omega)
  have h2 := Int.emod_lt_of_pos (pk p / 2) (b := (M.ts.length : Int)) (by omega)
  omega
theorem act_eq {M : Mach} (h0 : 0 < M.ts.length) (p : Int) : (act M p).code = M.code ∧ (∃ th, (act M p).ts = M.ts.set (who M p) th) ∧ ∃ l, (act M p).es = M.es ++ l ∧ l.length ≤ 2 := by
  have hk := who_lt h0 p
  unfold act
  have hid : ∃ th, M.ts = M.ts.set (who M p) th := ⟨_, (set_self hk).symm⟩
  by_cases e : pk p % 2 = 0
  · rw [if_pos e]
    by_cases hs : (M.th (who M p)).c.st = 0
    · rw [goOn_eq hk hs]
      refine ⟨rfl, ⟨_, rfl⟩, ?_⟩
      have h2 : ∃ l, insEs M (who M p) = M.es ++ l ∧ l.length ≤ 1 := by
        unfold insEs ansEs
        repeat' split
        · exact ⟨_, rfl, by simp⟩
        · exact ⟨[], by simp, by simp⟩
        · exact ⟨[], by simp, by simp⟩
      obtain ⟨l, hl, hl1⟩ := h2
      have h3 : (endE (who M p) (insC M (who M p))).length ≤ 1 := by unfold endE; repeat' split
                                                                     all_goals simp
      exact ⟨l ++ endE (who M p) (insC M (who M p)), by show insEs M (who M p) ++ _ = _; rw [hl, List.append_assoc], by rw [List.length_append]; omega⟩
    · rw [goOn_no hs]
      exact ⟨rfl, hid, [], by simp, by simp⟩
  · rw [if_neg e]
    cases hw : (M.th (who M p)).ws with
    | nil => rw [leave_no hw]; exact ⟨rfl, hid, [], by simp, by simp⟩
    | cons q r => rw [leave_eq hw]; exact ⟨rfl, ⟨_, rfl⟩, [], by simp, by simp⟩
theorem act_len {M : Mach} (h0 : 0 < M.ts.length) (p : Int) : (act M p).ts.length = M.ts.length := by
  obtain ⟨-, ⟨th, h⟩, -⟩ := act_eq h0 p
  rw [h, List.length_set]
theorem runs_snoc (M : Mach) (l : List Int) (p : Int) : runs M (l ++ [p]) = act (runs M l) p := by simp [runs]
theorem runs_len : ∀ (l : List Int) (M : Mach), 0 < M.ts.length → (runs M l).ts.length = M.ts.length
  | [], M, _ => rfl
  | p :: l, M, h => by
    show (runs (act M p) l).ts.length = _
    rw [runs_len l (act M p) (by rw [act_len h p]; exact h), act_len h p]
theorem runs_code : ∀ (l : List Int) (M : Mach), 0 < M.ts.length → (runs M l).code = M.code
  | [], M, _ => rfl
  | p :: l, M, h => by
    show (runs (act M p) l).code = _
    rw [runs_code l (act M p) (by rw [act_len h p]; exact h), (act_eq h p).1]
/-- Events come, none goes. -/
theorem runs_es : ∀ (l : List Int) (M : Mach), 0 < M.ts.length → ∃ x, (runs M l).es = M.es ++ x ∧ x.length ≤ 2 * l.length
  | [], M, _ => ⟨[], by simp [runs], by simp⟩
  | p :: l, M, h => by
    obtain ⟨x, hx, hl⟩ := runs_es l (act M p) (by rw [act_len h p]; exact h)
    obtain ⟨-, -, y, hy, hy2⟩ := act_eq h p
    refine ⟨y ++ x, ?_, ?_⟩
    · show (runs (act M p) l).es = _
      rw [hx, hy, List.append_assoc]
    · rw [List.length_append, List.length_cons]; omega
/-- What waits, behind a thread's step. -/
theorem insW_eq (M : Mach) (k : Nat) : insW M k = (M.th k).ws ∨ insW M k = [] ∨ ∃ a v, insQ M k = ⟨2, a, v, (insQ M k).r⟩ ∧ (M.mem a).isSome = true ∧ insW M k = (if (M.th k).ws.length = 8 then (M.th k).ws.tail else (M.th k).ws) ++ [(a, v)] := by
  unfold insW ansW
  by_cases hg : goes M k = true
  · rw [if_pos hg]
    by_cases h2 : (insQ M k).k = 2
    · rw [if_pos h2]
      cases e : M.mem (insQ M k).a with
      | none => exact .inl rfl
      | some x =>
        refine .inr (.inr ⟨_, _, ?_, by rw [e]; rfl, rfl⟩)
        rw [← h2]
    · rw [if_neg h2]
      by_cases h3 : (insQ M k).k = 3 ∨ (insQ M k).k = 4
      · rw [if_pos h3]
        cases e : M.mem (insQ M k).a with
        | none => exact .inl rfl
        | some x => exact .inr (.inl rfl)
      · rw [if_neg h3]
        split
        · exact .inr (.inl rfl)
        · exact .inl rfl
  · rw [if_neg hg]; exact .inl rfl
theorem insQ_wf (M : Mach) (k : Nat) : (Lit.int .i64 (insQ M k).a).wf = true ∧ (Lit.int .i64 (insQ M k).v).wf = true := S.startQ_wf _ _ _ _ _ _
end T

theorem MOk.act {M : T.Mach} (h : MOk M) (h0 : 0 < M.ts.length) (p : Int) : MOk (T.act M p) := by
  have hk := T.who_lt h0 p
  obtain ⟨k, hke⟩ : ∃ k, T.who M p = k := ⟨_, rfl⟩
  rw [hke] at hk
  have hset : ∀ (c : S.C) (ws : List T.Wait) (m : T.Memo) (es : List T.Ev), WsOk ws → ws.length ≤ 8 → MOk ⟨M.code, m, M.ts.set k ⟨c, ws⟩, es⟩ := fun c ws m es h1 h2 j hj => by
    simp only [List.length_set] at hj
    unfold T.Mach.th
    by_cases e : k = j
    · subst e
      simp only [List.getD, List.getElem?_set_self hk, Option.getD_some]
      exact ⟨h1, h2⟩
    · simp only [List.getD, List.getElem?_set_ne e]
      exact h j hj
  obtain ⟨hok, h8⟩ := h k hk
  unfold T.act
  rw [hke]
  by_cases e : T.pk p % 2 = 0
  · rw [if_pos e]
    by_cases hs : (M.th k).c.st = 0
    · rw [T.goOn_eq hk hs]
      rcases T.insW_eq M k with h1 | h1 | ⟨a, v, hq, -, h1⟩
      · rw [h1]; exact hset _ _ _ _ hok h8
      · rw [h1]; exact hset _ _ _ _ ⟨by simp, by simp⟩ (by simp)
      · rw [h1]
        have hqw := T.insQ_wf M k
        rw [hq] at hqw
        have hl : ((if (M.th k).ws.length = 8 then (M.th k).ws.tail else (M.th k).ws) ++ [(a, v)]).length ≤ 8 := by
          rw [List.length_append]
          split
          · rw [List.length_tail]; simp; omega
          · simp; omega
        refine hset _ _ _ _ ⟨by omega, fun q hq => ?_⟩ hl
        rcases List.mem_append.1 hq with hq | hq
        · split at hq
          · exact hok.2 q (List.mem_of_mem_tail hq)
          · exact hok.2 q hq
        · obtain rfl : q = (a, v) := by simpa using hq
          exact hqw
    · rw [T.goOn_no hs]; exact h
  · rw [if_neg e]
    cases hw : (M.th k).ws with
    | nil => rw [T.leave_no hw]; exact h
    | cons q r =>
      rw [T.leave_eq hw]
      rw [hw] at hok h8
      refine hset _ _ _ _ ⟨by have := hok.1; simp at this; omega, fun x hx => hok.2 x (List.mem_cons_of_mem _ hx)⟩ (by simp at h8; omega)
theorem MOk.runs : ∀ (l : List Int) {M : T.Mach}, MOk M → 0 < M.ts.length → MOk (T.runs M l)
  | [], M, h, _ => h
  | p :: l, M, h, h0 => MOk.runs l (M := T.act M p) (h.act h0 p) (by rw [T.act_len h0 p]; exact h0)

end Go.Proofs.YtneclfaamgfoeaaDoor

/- A run. -/
namespace Go.Proofs.YtneclfaamgfoeaaDoor
open Go.RowKit Go.Maps
set_option linter.unusedVariables false
set_option linter.unusedSimpArgs false

theorem mach_len (m : ImgD) (hm : m.may = true) : 0 < m.mach.ts.length ∧ m.mach.ts.length ≤ 4 := by
  have h1 := of_decide_eq_true (Bool.and_eq_true_iff.1 hm).1
  show 0 < (T.ths0 0 (strt m.syms)).length ∧ (T.ths0 0 (strt m.syms)).length ≤ 4
  rw [ths0_len]
  omega
theorem mach_code (m : ImgD) (hm : m.may = true) : m.mach.code.size ≤ 65536 := (of_decide_eq_true (Bool.and_eq_true_iff.1 hm).1).2.2.1
theorem mach_ok (m : ImgD) : MOk m.mach := by
  intro k hk
  have h : (m.mach.th k).ws = [] := by
    refine ths0_ws (strt m.syms) 0 _ ?_
    have : m.mach.ts[k]? = some (m.mach.th k) := T.th_at hk
    exact List.mem_of_getElem? this
  rw [h]
  exact ⟨⟨by simp, by simp⟩, by simp⟩
/-- A machine, as picks have left it, and the world since. -/
def Ran (B : Nat) (X wq : World) (b : Nat) (M : T.Mach) (K : Nat) (bm g cap : Nat) : Prop := ∃ t ev us, TV B wq b M K t bm g cap ev us ∧ Below B X wq ∧ Tab wq
theorem Ran.do {B : Nat} {X wq y : World} {b : Nat} {M M' : T.Mach} {K K' : Nat} {t : Nat → Nat} {bm g cap : Nat} {ev : Value} {us : List Value} (h : TV B wq b M K t bm g cap ev us) (hb : Below B X wq) (ht : Tab wq) (h2 : 2 ≤ B) (hg : Gone B wq y b M' K' t bm g cap) : Ran B X y b M' K' bm g cap := by
  obtain ⟨t', ev', us', h1, hs⟩ := hg
  have hlo : ∀ k, t k ≠ 0 → B ≤ k := fun k hk => (h.lt k hk).1
  refine ⟨t', ev', us', h1, hb.trans (hs.toBelow hlo h.hB), ht.of hs ?_ ?_⟩
  · exact Classical.byContradiction fun e => by have := hlo 0 e; omega
  · exact Classical.byContradiction fun e => by have := hlo 1 e; omega
def RunIs (B : Nat) (e : Ending) (w' : World) (es : List T.Ev) : Prop := ∃ v', e = .returned (.tuple #[v', .int .i64 0]) ∧ w'.ownsRow B 81 3 v' es.length (es.flatMap eC)

set_option maxRecDepth 100000 in
set_option maxHeartbeats 8000000 in
theorem run_no {w : World} {v p : Value} {m : ImgD} (h : ImgV w v m) (hl : m.syms.length ≤ 8796093022208) (hm : m.may = false) :
    Calls Tryd.prog 23 #[v, p] w fun e w' => e = .returned (.tuple #[.slice none 0 0, .int .i64 1]) ∧ Below w.heap.size w w' := by
  obtain ⟨a1, l1, c1, a2, l2, c2, rfl, hs, h1, h2⟩ := h.form
  obtain ⟨W1, hW1⟩ : ∃ W1, w.alloc (.cells #[.string m.code, .slice a1 l1 c1, .slice a2 l2 c2] 25) = W1 := ⟨_, rfl⟩
  have b1 : Below w.heap.size w W1 := by subst hW1; exact bl_one _ _
  have v0 : W1.cell? ⟨w.heap.size, 0, none⟩ = some (.string m.code) := by subst hW1; exact cell_last _ _ _ _ _ rfl rfl
  have v1 : W1.cell? ⟨w.heap.size, 1, none⟩ = some (.slice a1 l1 c1) := by subst hW1; exact cell_last _ _ _ _ _ rfl rfl
  have v2 : W1.cell? ⟨w.heap.size, 2, none⟩ = some (.slice a2 l2 c2) := by subst hW1; exact cell_last _ _ _ _ _ rfl rfl
  have HB1 : Hid (Below w.heap.size w W1) := b1
  have HN : Hid (Calls Tryd.prog 10 #[.agg #[.string m.code, .slice a1 l1 c1, .slice a2 l2 c2]] W1 fun e w' => e = .returned (.tuple #[.pointer none, .int .i64 1]) ∧ Below W1.heap.size W1 w') := tnew_no (h.below b1) hl hm
  clear h h1 h2 hl hm b1
  go_enter Tryd.func23, Tryd.ntmps23
  go_wp2_with fail
  refine HN.out.mono ?_
  rintro e y1 ⟨rfl, hb1⟩
  have HB2 : Hid (Below w.heap.size w y1) := HB1.out.trans (hb1.mono HB1.out.size)
  clear hb1
  go_wp2
  go_ret2
  exact ⟨rfl, HB2.out⟩

set_option maxRecDepth 100000 in
set_option maxHeartbeats 8000000 in
theorem run_yes {w : World} {v : Value} {m : ImgD} (h : ImgV w v m) (hl : m.syms.length ≤ 8796093022208) (hm : m.may = true) {a : Option Addr} {l c : Nat} {ps : List Int} (hp : IntsV w a l c ps) (hl2 : l ≤ 400000) (ht : Tab w) :
    Calls Tryd.prog 23 #[v, .slice a l c] w fun e w' => RunIs w.heap.size e w' (T.runs m.mach ps).es ∧ Below w.heap.size w w' := by
  obtain ⟨a1, l1, c1, a2, l2, c2, rfl, hs, h1, h2⟩ := h.form
  obtain ⟨W1, hW1⟩ : ∃ W1, w.alloc (.cells #[.string m.code, .slice a1 l1 c1, .slice a2 l2 c2] 25) = W1 := ⟨_, rfl⟩
  have b1 : Below w.heap.size w W1 := by subst hW1; exact bl_one _ _
  have v0 : W1.cell? ⟨w.heap.size, 0, none⟩ = some (.string m.code) := by subst hW1; exact cell_last _ _ _ _ _ rfl rfl
  have v1 : W1.cell? ⟨w.heap.size, 1, none⟩ = some (.slice a1 l1 c1) := by subst hW1; exact cell_last _ _ _ _ _ rfl rfl
  have v2 : W1.cell? ⟨w.heap.size, 2, none⟩ = some (.slice a2 l2 c2) := by subst hW1; exact cell_last _ _ _ _ _ rfl rfl
  have HB1 : Hid (Below w.heap.size w W1) := b1
  have HN : Hid (Calls Tryd.prog 10 #[.agg #[.string m.code, .slice a1 l1 c1, .slice a2 l2 c2]] W1 fun e w' => NewIs W1.heap.size e w' m.mach ∧ Below W1.heap.size W1 w') := tnew_yes (h.below b1) hl hm
  have HP : Hid (IntsV W1 a l c ps) := hp.below b1
  have hro := hp.room
  unfold maxLen at hro
  have HL : Hid (ps.length = l) := hp.count
  have HT1 : Hid (Tab W1) := ht.below b1
  have HML : Hid (0 < m.mach.ts.length ∧ m.mach.ts.length ≤ 4) := mach_len m hm
  have HMC : Hid (m.mach.code.size ≤ 65536) := mach_code m hm
  have HMO : Hid (MOk m.mach) := mach_ok m
  have HE0 : Hid (m.mach.es = []) := rfl
  have h2B : 2 ≤ W1.heap.size := HT1.out.2.2
  obtain ⟨M0, hM0⟩ : ∃ M0, m.mach = M0 := ⟨_, rfl⟩
  rw [hM0] at HN HML HMC HMO HE0
  rw [hM0]
  clear h h1 h2 hl hm b1 hp ht hM0
  go_enter Tryd.func23, Tryd.ntmps23
  go_wp2_with fail
  refine HN.out.mono ?_
  rintro e y1 ⟨⟨b, t, bm, g, cap, us, rfl, htv⟩, hb1⟩
  have HR0 : Hid (Ran W1.heap.size W1 y1 b (T.runs M0 (ps.take 0)) (11 * 0) bm g cap) := ⟨t, _, us, htv, hb1, HT1.out.below hb1⟩
  clear htv hb1 v0 v1 v2
  go_wp2_with fail
  go_loopg [20] l (fun r iv wq => ∃ (k : Nat), iv = .int .i64 k ∧ k ≤ l ∧ l - k ≤ r ∧ Hid (Ran W1.heap.size W1 wq b (T.runs M0 (ps.take k)) (11 * k) bm g cap))
  case atStart => exact ⟨0, rfl, Nat.zero_le _, by omega, HR0⟩
  case round =>
    obtain ⟨k, rfl, hk, hr, HR⟩ := hrel
    obtain ⟨t1, ev1, us1, htv, hbx, htx⟩ := HR.out
    have hln := T.runs_len (ps.take k) M0 HML.out.1
    have hcd := T.runs_code (ps.take k) M0 HML.out.1
    obtain ⟨xs, hxs, hxl⟩ := T.runs_es (ps.take k) M0 HML.out.1
    have hes : (T.runs M0 (ps.take k)).es.length ≤ 800000 := by rw [hxs, HE0.out, List.nil_append]; rw [List.length_take] at hxl; omega
    by_cases hlt : k < l
    · rcases (HP.out.below hbx).cells with h0 | ⟨zb, zo, hA, hcl⟩
      · omega
      have q0 := hcl k hlt
      have hkl : k < ps.length := by rw [HL.out]; exact hlt
      obtain ⟨z, hz⟩ : ∃ z, ps.getD k 0 = z := ⟨_, rfl⟩
      rw [hz] at q0
      have hzf := HP.out.fits z (by rw [← hz]; simp [List.getD, hkl])
      have HTK : Hid (T.runs M0 (ps.take (k + 1)) = T.act (T.runs M0 (ps.take k)) z) := by
        show _ = _
        rw [List.take_succ_eq_append_getElem hkl, T.runs_snoc, ← hz]
        simp [List.getD, hkl]
      have HDO : Hid (Calls Tryd.prog 14 #[.pointer (some ⟨b, 0, none⟩), .int .i64 z] wr fun e w' => e = .returned (.bool (T.did (T.runs M0 (ps.take k)) z)) ∧ Gone W1.heap.size wr w' b (T.act (T.runs M0 (ps.take k)) z) (11 * k + 11) t1 bm g cap) :=
        do_any htv (MOk.runs _ HMO.out HML.out.1) (by omega) (by unfold maxLen; omega) htx h2B (by rw [hcd]; exact HMC.out) (by rw [hln]; exact HML.out.2) z hzf
      have HTV : Hid (TV W1.heap.size wr b (T.runs M0 (ps.take k)) (11 * k) t1 bm g cap ev1 us1) := htv
      have HBX : Hid (Below W1.heap.size W1 wr) := hbx
      have HTX : Hid (Tab wr) := htx
      subst hA
      have hii : (k : Int) < l := by omega
      have hin : 0 ≤ (k : Int) := by omega
      clear hcl hz hzf htv hbx htx hln hcd hxs hxl hes
      go_wp2_with fail
      refine HDO.out.mono ?_
      rintro e y2 ⟨rfl, hg⟩
      have HR2 : Hid (Ran W1.heap.size W1 y2 b (T.runs M0 (ps.take (k + 1))) (11 * (k + 1)) bm g cap) := by
        show Ran _ _ _ _ _ _ _ _ _
        rw [HTK.out]
        exact Ran.do HTV.out HBX.out HTX.out h2B hg
      clear hg
      go_wp2
      go_roundg (l - (k + 1))
      · exact ⟨k + 1, rfl, by omega, Nat.le_refl _, HR2⟩
      · omega
    · obtain rfl : k = l := by omega
      have hps : ps.take k = ps := by rw [← HL.out, List.take_length]
      rw [hps] at htv hes
      have HEV : Hid (Calls Tryd.prog 22 #[.pointer (some ⟨b, 0, none⟩)] wr fun e w' => RowIs wr.heap.size 81 3 e w' (T.runs M0 ps).es.length ((T.runs M0 ps).es.flatMap eC) ∧ Below wr.heap.size wr w') := events_any htv (by omega)
      have HBW : Hid (Below w.heap.size w wr) := HB1.out.trans (hbx.mono HB1.out.size)
      clear htv hbx htx hln hcd hxs hxl hes hps HR
      go_wp2_with fail
      refine HEV.out.mono ?_
      rintro e y2 ⟨⟨v', rfl, ho⟩, hb2⟩
      have HO : Hid (y2.ownsRow w.heap.size 81 3 v' (T.runs M0 ps).es.length ((T.runs M0 ps).es.flatMap eC)) := own_mono ho HBW.out.size
      have HBZ : Hid (Below w.heap.size w y2) := HBW.out.trans (hb2.mono HBW.out.size)
      clear ho hb2
      go_wp2
      go_ret2
      exact ⟨⟨_, rfl, HO.out⟩, HBZ.out⟩

end Go.Proofs.YtneclfaamgfoeaaDoor

/- Has a form room for all that an instruction says? -/
namespace Go.Proofs.YtneclfaamgfoeaaDoor
set_option maxRecDepth 100000
open Go.RowKit
set_option linter.unusedVariables false

abbrev insV (op a b n : Int) : Value := .agg #[.int .i64 op, .int .i64 a, .int .i64 b, .int .i64 n]

end Go.Proofs.YtneclfaamgfoeaaDoor

/- ins.Encode. -/
namespace Go.Proofs.YtneclfaamgfoeaaDoor
set_option maxRecDepth 100000
open Go.RowKit
set_option linter.unusedVariables false
attribute [local go_sem ↓] Go.wp_at_zero Go.wp_at_succ

theorem retSE {s t : ByteArray} {k : IntKind} {a b : Int} (h : s = t) (h' : a = b) : Ending.returned (.tuple #[.string s, .int k a]) = .returned (.tuple #[.string t, .int k b]) := by rw [h, h']

end Go.Proofs.YtneclfaamgfoeaaDoor

/- An instruction's bytes. -/
namespace Go.Proofs.YtneclfaamgfoeaaDoor.I
set_option maxRecDepth 100000

/-- The registers' byte. -/
def regB (r a b : Int) : List Int := if r = 0 then [] else if r = 1 then [a] else [16 * a + b]
/-- The number's bytes, and whether there are such. -/
def numW (m n : Int) : List Int := if m = 0 then [] else W.bytesV n m
def numOk (m : Int) (t : Bool) (n : Int) : Bool := if m = 0 then true else (W.bytesE n m == 0 && (decide (0 ≤ n) || !t))

theorem numW_len (m n : Int) : (numW m n).length ≤ 8 := by
  unfold numW W.bytesV
  split
  · simp
  · split
    · rename_i hs
      split
      · rw [W.bytesOf_length]
        unfold W.isSz at hs
        simp at hs
        omega
      · simp
    · simp

end Go.Proofs.YtneclfaamgfoeaaDoor.I

/- ins.Encode, where the form has room for all. -/
namespace Go.Proofs.YtneclfaamgfoeaaDoor
set_option maxRecDepth 100000
open Go.RowKit
set_option linter.unusedVariables false
attribute [local go_sem ↓] Go.wp_at_zero Go.wp_at_succ

theorem strOfNums_app (a b : List Int) : strOfNums a ++ strOfNums b = strOfNums (a ++ b) := by
  apply ByteArray.ext
  simp [strOfNums]

end Go.Proofs.YtneclfaamgfoeaaDoor

/- ins.Encode and ins.Size, whatever the instruction. -/
namespace Go.Proofs.YtneclfaamgfoeaaDoor
set_option maxRecDepth 100000
open Go.RowKit
set_option linter.unusedVariables false

/-- Is there a form, and does it bear all that the instruction says? -/
def I.fits (op a b n : Int) : Bool := decide (1 ≤ op ∧ op ≤ 33) && I.bears (I.regs op) (I.num op) a b n
def I.encE (op a b n : Int) : Int := if I.fits op a b n = true then (if I.numOk (I.num op) (I.nat op) n = true then 0 else 7) else 1
def I.encV (op a b n : Int) : List Int := if I.fits op a b n = true then (if I.numOk (I.num op) (I.nat op) n = true then [op] ++ I.regB (I.regs op) a b ++ I.numW (I.num op) n else []) else []

theorem I.bears_regs {r m a b n : Int} (h : I.bears r m a b n = true) : (0 ≤ a ∧ a < 8) ∧ 0 ≤ b ∧ b < 8 := by
  unfold I.bears at h
  have h2 := Bool.and_eq_true_iff.1 (Bool.and_eq_true_iff.1 h).2
  exact ⟨of_decide_eq_true h2.1, of_decide_eq_true h2.2⟩

end Go.Proofs.YtneclfaamgfoeaaDoor
