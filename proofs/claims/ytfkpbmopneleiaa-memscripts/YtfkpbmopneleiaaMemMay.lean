/- What mem.mayBe comes to: whether regions may be. -/
import Derived.Test.YtfkpbmopneleiaaMemRegs
namespace Go.Proofs.Ytfkpbmopneleiaa
open Go.RowKit Go.Maps

/-- A region. -/
structure Reg where
  base : Int
  words : List Int
  write : Bool

def noReg : Reg := ⟨0, [], false⟩

/-- Regions that lie one behind the other. -/
structure RegsV (w : World) (a : Option Addr) (len cap : Nat) (rs : List Reg) : Prop where
  count : rs.length = len
  room : len ≤ cap
  capOk : cap ≤ 9223372036854775807
  fits : ∀ r ∈ rs, (Lit.int .i64 r.base).wf = true
  cells : len = 0 ∨ ∃ b off, a = some ⟨b, off, none⟩ ∧ ∀ i, i < len → ∃ a1 l1 c1, w.cell? ⟨b, off + i * 3, none⟩ = some (.int .i64 (rs.getD i noReg).base) ∧ w.cell? ⟨b, off + i * 3 + 1, none⟩ = some (.slice a1 l1 c1) ∧ w.cell? ⟨b, off + i * 3 + 2, none⟩ = some (.bool (rs.getD i noReg).write) ∧ View w a1 l1 c1 (rs.getD i noReg).words

def regOk (r : Reg) : Bool := decide (r.base.tmod 8 = 0) && decide (0 ≤ r.base) && decide (r.base ≤ 1099511627776) && decide (r.words.length ≤ 65536)
def olap (r o : Reg) : Bool := decide (r.base < o.base + 8 * o.words.length) && decide (o.base < r.base + 8 * r.words.length)
def okAt (rs : List Reg) (i : Nat) : Bool := regOk (rs.getD i noReg) && (List.range i).all fun k => !olap (rs.getD i noReg) (rs.getD k noReg)
/-- May regions be? -/
def may (rs : List Reg) : Bool := decide (rs.length ≤ 16) && (List.range rs.length).all (okAt rs)

theorem may_no (rs : List Reg) (i : Nat) (h : i < rs.length) (h0 : okAt rs i = false) : may rs = false := by
  unfold may
  rw [show (List.range rs.length).all (okAt rs) = false from by
    rw [List.all_eq_false]
    exact ⟨i, by simpa using h, by rw [h0]; simp⟩, Bool.and_false]

theorem may_yes (rs : List Reg) (h : rs.length ≤ 16) (h0 : ∀ i, i < rs.length → okAt rs i = true) : may rs = true := by
  unfold may
  rw [decide_eq_true h, Bool.true_and, List.all_eq_true]
  exact fun i hi => h0 i (by simpa using hi)

theorem regOk_no (r : Reg) (h : ¬ r.base.tmod 8 = 0 ∨ r.base < 0 ∨ 1099511627776 < r.base ∨ 65536 < r.words.length) : regOk r = false := by
  unfold regOk
  rcases h with h | h | h | h
  · rw [decide_eq_false h]; rfl
  · rw [decide_eq_false (show ¬ 0 ≤ r.base by omega)]; simp
  · rw [decide_eq_false (show ¬ r.base ≤ 1099511627776 by omega)]; simp
  · rw [decide_eq_false (show ¬ r.words.length ≤ 65536 by omega)]; simp

theorem okAt_no (rs : List Reg) (i : Nat) (h : regOk (rs.getD i noReg) = false) : okAt rs i = false := by unfold okAt; rw [h]; rfl
theorem okAt_lap (rs : List Reg) (i k : Nat) (hk : k < i) (h : olap (rs.getD i noReg) (rs.getD k noReg) = true) : okAt rs i = false := by
  unfold okAt
  rw [show ((List.range i).all fun k => !olap (rs.getD i noReg) (rs.getD k noReg)) = false from by
    rw [List.all_eq_false]
    exact ⟨k, by simpa using hk, by rw [h]; simp⟩, Bool.and_false]
theorem okAt_yes (rs : List Reg) (i : Nat) (h : regOk (rs.getD i noReg) = true) (h0 : ∀ k, k < i → olap (rs.getD i noReg) (rs.getD k noReg) = false) : okAt rs i = true := by
  unfold okAt
  rw [h, Bool.true_and, List.all_eq_true]
  intro k hk
  rw [h0 k (by simpa using hk)]; rfl
theorem okAt_reg (rs : List Reg) (i : Nat) (h : okAt rs i = true) : regOk (rs.getD i noReg) = true := by
  unfold okAt at h
  simp only [Bool.and_eq_true] at h
  exact h.1
theorem regOk_bd (r : Reg) (h : regOk r = true) : 0 ≤ r.base ∧ r.base ≤ 1099511627776 ∧ r.words.length ≤ 65536 := by
  simp only [regOk, Bool.and_eq_true, decide_eq_true_eq] at h
  exact ⟨h.1.1.2, h.1.2, h.2⟩

set_option maxRecDepth 100000 in
set_option maxHeartbeats 4000000 in
theorem maybe_any {w : World} {a : Option Addr} {len cap : Nat} {rs : List Reg} (h : RegsV w a len cap rs) :
    Calls Try.prog 27 #[.slice a len cap] w fun e w' => e = .returned (.bool (may rs)) ∧ Below w.heap.size w w' := by
  have hcnt := h.count
  have hroom := h.room
  have hcap := h.capOk
  have HV : Hid _ := h
  clear h
  by_cases h16 : (16 : Int) < len
  · have hm : may rs = false := by unfold may; rw [decide_eq_false (show ¬ rs.length ≤ 16 by omega)]; rfl
    have HM : Hid _ := hm
    clear hm HV
    go_enter Try.func27, Try.ntmps27
    go_wp2
    go_ret
    exact ⟨by rw [HM.out]; rfl, Below.refl _ _⟩
  · go_enter Try.func27, Try.ntmps27
    go_wp2
    go_loopw [12] (fun i wr => ∃ k : Nat, k ≤ len ∧ i = .int .i64 k ∧ Hid (∀ i, i < k → okAt rs i = true) ∧ Hid (Below w.heap.size w wr)) (fun i _ => len - (RowKit.intOf i).toNat)
    case atStart => exact ⟨0, by omega, rfl, fun i hi => by omega, Below.refl _ _⟩
    case round =>
      obtain ⟨k, hk, rfl, HO, HB⟩ := hrel
      by_cases hlt : k < len
      · rcases HV.out.cells with h0 | ⟨b, off, hA, hc⟩
        · omega
        have HC : Hid _ := hc
        obtain ⟨a1, l1, c1, k0, k1, k2, V1⟩ := hc k hlt
        have hbl : b < w.heap.size := World.block_lt_of_cell? w ⟨b, off + k * 3, none⟩ k0
        have q0 := (HB.out.cell (p := ⟨b, off + k * 3, none⟩) hbl).trans k0
        have q1 := (HB.out.cell (p := ⟨b, off + k * 3 + 1, none⟩) hbl).trans k1
        have q2 := (HB.out.cell (p := ⟨b, off + k * 3 + 2, none⟩) hbl).trans k2
        have hl1 := V1.count
        have hno : regOk (rs.getD k noReg) = false → may rs = false := fun h => may_no rs k (by omega) (okAt_no rs k h)
        have hlap : ∀ j, j < k → olap (rs.getD k noReg) (rs.getD j noReg) = true → may rs = false := fun j hj h => may_no rs k (by omega) (okAt_lap rs k j hj h)
        have hyes : regOk (rs.getD k noReg) = true → (∀ j, j < k → olap (rs.getD k noReg) (rs.getD j noReg) = false) → okAt rs k = true := fun h h' => okAt_yes rs k h h'
        have hbad := regOk_no (rs.getD k noReg)
        have hgood : (rs.getD k noReg).base.tmod 8 = 0 → 0 ≤ (rs.getD k noReg).base → (rs.getD k noReg).base ≤ 1099511627776 → (rs.getD k noReg).words.length ≤ 65536 → regOk (rs.getD k noReg) = true := fun x1 x2 x3 x4 => by unfold regOk; rw [decide_eq_true x1, decide_eq_true x2, decide_eq_true x3, decide_eq_true x4]; rfl
        generalize rs.getD k noReg = r at *
        obtain ⟨bs, ws, wt⟩ := r
        simp only [] at q0 q1 q2 hl1 hbad hgood
        subst hA
        have HNO : Hid _ := hno
        have HLAP : Hid _ := hlap
        have HYES : Hid _ := hyes
        have HBAD : Hid _ := hbad
        have HGOOD : Hid _ := hgood
        clear hc k0 k1 k2 V1 hno hlap hyes hbad hgood
        obtain ⟨wo, rfl⟩ : ∃ wo : World, wo = wr := ⟨_, rfl⟩
        rcases (show ¬ bs.tmod 8 = 0 ∨ (bs.tmod 8 = 0 ∧ bs < 0) ∨ (bs.tmod 8 = 0 ∧ 0 ≤ bs ∧ 1099511627776 < bs) ∨ (bs.tmod 8 = 0 ∧ 0 ≤ bs ∧ bs ≤ 1099511627776 ∧ (65536 : Int) < l1) ∨ (bs.tmod 8 = 0 ∧ 0 ≤ bs ∧ bs ≤ 1099511627776 ∧ (l1 : Int) ≤ 65536) by omega) with g | ⟨g, g1⟩ | ⟨g, g1, g2⟩ | ⟨g, g1, g2, g3⟩ | ⟨g, g1, g2, g3⟩
        · have HM : Hid (may rs = false) := HNO.out (HBAD.out (by omega))
          go_wp2
          go_ret
          exact ⟨by rw [HM.out]; rfl, Below.alloc HB.out (by have := HB.out.size; omega) _⟩
        · have HM : Hid (may rs = false) := HNO.out (HBAD.out (by omega))
          go_wp2
          go_ret
          exact ⟨by rw [HM.out]; rfl, Below.alloc HB.out (by have := HB.out.size; omega) _⟩
        · have HM : Hid (may rs = false) := HNO.out (HBAD.out (by omega))
          go_wp2
          go_ret
          exact ⟨by rw [HM.out]; rfl, Below.alloc HB.out (by have := HB.out.size; omega) _⟩
        · have HM : Hid (may rs = false) := HNO.out (HBAD.out (by omega))
          go_wp2
          go_ret
          exact ⟨by rw [HM.out]; rfl, Below.alloc HB.out (by have := HB.out.size; omega) _⟩
        · have HR : Hid _ := HGOOD.out g g1 g2 (by omega)
          have hsz := HB.out.size
          go_wp2
          go_loopw [41] (fun i wr => ∃ j : Nat, j ≤ k ∧ i = .int .i64 j ∧ Hid (∀ i, i < j → olap ⟨bs, ws, wt⟩ (rs.getD i noReg) = false) ∧ wr.cell? ⟨wo.heap.size, 0, none⟩ = some (.int .i64 bs) ∧ wr.cell? ⟨wo.heap.size, 1, none⟩ = some (.slice a1 l1 c1) ∧ wr.cell? ⟨wo.heap.size, 2, none⟩ = some (.bool wt) ∧ wo.heap.size < wr.heap.size ∧ Hid (Below w.heap.size w wr)) (fun i _ => k - (RowKit.intOf i).toNat)
          case atStart => exact ⟨0, by omega, rfl, (fun i hi => by omega : ∀ i, i < 0 → olap ⟨bs, ws, wt⟩ (rs.getD i noReg) = false), cell_last _ _ _ _ _ rfl rfl, cell_last _ _ _ _ _ rfl rfl, cell_last _ _ _ _ _ rfl rfl, by simp, Below.alloc HB.out (by omega) _⟩
          case round =>
            obtain ⟨j, hjk, rfl, HJ, e0, e1, e2, hoj, HBj⟩ := hrel
            by_cases hltj : j < k
            · obtain ⟨aj, lj, cj, k0, k1, k2, Vj⟩ := HC.out j (by omega)
              have p0 := (HBj.out.cell (p := ⟨b, off + j * 3, none⟩) hbl).trans k0
              have p1 := (HBj.out.cell (p := ⟨b, off + j * 3 + 1, none⟩) hbl).trans k1
              have p2 := (HBj.out.cell (p := ⟨b, off + j * 3 + 2, none⟩) hbl).trans k2
              have hlj := Vj.count
              have hbd := regOk_bd _ (okAt_reg rs j (HO.out j hltj))
              have HL : Hid (olap ⟨bs, ws, wt⟩ (rs.getD j noReg) = true → may rs = false) := HLAP.out j hltj
              have HJ2 : Hid (olap ⟨bs, ws, wt⟩ (rs.getD j noReg) = false → ∀ i, i < j + 1 → olap ⟨bs, ws, wt⟩ (rs.getD i noReg) = false) := fun h i hi => by
                rcases Nat.lt_succ_iff_lt_or_eq.1 hi with h' | h'
                · exact HJ.out i h'
                · rw [h']; exact h
              generalize rs.getD j noReg = rj at *
              obtain ⟨bj, wsj, wtj⟩ := rj
              simp only [] at p0 p1 p2 hlj hbd
              obtain ⟨d0, d1, d2⟩ := hbd
              clear k0 k1 k2 Vj
              have hol : olap ⟨bs, ws, wt⟩ ⟨bj, wsj, wtj⟩ = (decide (bs < bj + 8 * (lj : Int)) && decide (bj < bs + 8 * (l1 : Int))) := by unfold olap; rw [← hlj, ← hl1]
              have HOL : Hid _ := hol
              clear hol
              obtain ⟨wi, rfl⟩ : ∃ wi : World, wi = wr := ⟨_, rfl⟩
              go_wp2_with fail
              refine (overlap_any _ bs a1 l1 c1 wt bj aj lj cj wtj (by omega) (by omega) (by omega) (by omega) (by omega) (by omega)).mono ?_
              rintro e x ⟨rfl, hbx⟩
              have f0 : x.cell? ⟨wo.heap.size, 0, none⟩ = some (.int .i64 bs) := (hbx.cell (p := ⟨wo.heap.size, 0, none⟩) (by simp; omega)).trans ((((Below.refl wi.heap.size wi).alloc (Nat.le_refl _) _).cell (p := ⟨wo.heap.size, 0, none⟩) hoj).trans e0)
              have f1 : x.cell? ⟨wo.heap.size, 1, none⟩ = some (.slice a1 l1 c1) := (hbx.cell (p := ⟨wo.heap.size, 1, none⟩) (by simp; omega)).trans ((((Below.refl wi.heap.size wi).alloc (Nat.le_refl _) _).cell (p := ⟨wo.heap.size, 1, none⟩) hoj).trans e1)
              have f2 : x.cell? ⟨wo.heap.size, 2, none⟩ = some (.bool wt) := (hbx.cell (p := ⟨wo.heap.size, 2, none⟩) (by simp; omega)).trans ((((Below.refl wi.heap.size wi).alloc (Nat.le_refl _) _).cell (p := ⟨wo.heap.size, 2, none⟩) hoj).trans e2)
              have hsx := hbx.size
              simp only [World.size_alloc] at hsx
              have HBx : Hid (Below w.heap.size w x) := (Below.alloc HBj.out (by have := HBj.out.size; omega) _).trans (hbx.mono (by simp; omega))
              clear hbx HBj e0 e1 e2
              rcases hv : (decide (bs < bj + 8 * (lj : Int)) && decide (bj < bs + 8 * (l1 : Int))) with _ | _
              · have HN : Hid _ := HJ2.out (HOL.out.trans hv)
                clear HOL hv
                go_wp2
                go_roundw
                case rel => exact ⟨j + 1, by omega, by go_num, HN, f0, f1, f2, by omega, HBx⟩
                case measure => simp [RowKit.intOf]; omega
              · have HM : Hid (may rs = false) := HL.out (HOL.out.trans hv)
                clear HOL hv
                go_wp2
                go_ret
                exact ⟨by rw [HM.out]; rfl, HBx.out⟩
            · obtain rfl : k = j := by omega
              have HN : Hid (∀ i, i < k + 1 → okAt rs i = true) := fun i hi => by
                rcases Nat.lt_succ_iff_lt_or_eq.1 hi with h' | h'
                · exact HO.out i h'
                · rw [h']; exact HYES.out HR.out HJ.out
              go_wp2
              go_roundw
              case rel => exact ⟨k + 1, by omega, by go_num, HN, HBj⟩
              case measure => simp [RowKit.intOf]; omega
      · obtain rfl : len = k := by omega
        have HM : Hid (may rs = true) := may_yes rs (by omega) (fun i hi => HO.out i (by omega))
        go_wp2
        go_ret
        exact ⟨by rw [HM.out]; rfl, HB.out⟩

end Go.Proofs.Ytfkpbmopneleiaa
