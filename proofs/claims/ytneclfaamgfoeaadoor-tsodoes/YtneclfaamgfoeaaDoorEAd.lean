/- What mem.mayBe comes to: whether regions may be. -/
import Derived.Test.YtneclfaamgfoeaaDoorEAc
import Derived.OwnWalk
import Derived.Test.YtneclfaamgfoeaaDoorEAb
import Derived.Deep.RegionWith
import Derived.Laws.CopyOwn
import Derived.Deep.AppendLies
namespace Go.Proofs.YtneclfaamgfoeaaDoor
open Go.RowKit Go.Maps

/-- A region. -/
structure Reg where
  base : Int
  words : List Int
  write : Bool

def noReg : Reg := ⟨0, [], false⟩

/-- Regions that lie one behind the other. -/
structure RegsV (w : World) (a : Option Addr) (len cap : Nat) (rs : List Reg) : Prop where
  count : rs.length = len
  room : len ≤ cap
  capOk : cap ≤ 9223372036854775807
  fits : ∀ r ∈ rs, (Lit.int .i64 r.base).wf = true
  cells : len = 0 ∨ ∃ b off, a = some ⟨b, off, none⟩ ∧ ∀ i, i < len → ∃ a1 l1 c1, w.cell? ⟨b, off + i * 3, none⟩ = some (.int .i64 (rs.getD i noReg).base) ∧ w.cell? ⟨b, off + i * 3 + 1, none⟩ = some (.slice a1 l1 c1) ∧ w.cell? ⟨b, off + i * 3 + 2, none⟩ = some (.bool (rs.getD i noReg).write) ∧ View w a1 l1 c1 (rs.getD i noReg).words

def regOk (r : Reg) : Bool := decide (r.base.tmod 8 = 0) && decide (0 ≤ r.base) && decide (r.base ≤ 1099511627776) && decide (r.words.length ≤ 65536)
def olap (r o : Reg) : Bool := decide (r.base < o.base + 8 * o.words.length) && decide (o.base < r.base + 8 * r.words.length)
def okAt (rs : List Reg) (i : Nat) : Bool := regOk (rs.getD i noReg) && (List.range i).all fun k => !olap (rs.getD i noReg) (rs.getD k noReg)
/-- May regions be? -/
def may (rs : List Reg) : Bool := decide (rs.length ≤ 16) && (List.range rs.length).all (okAt rs)

theorem may_no (rs : List Reg) (i : Nat) (h : i < rs.length) (h0 : okAt rs i = false) : may rs = false := by
  unfold may
  rw [show (List.range rs.length).all (okAt rs) = false from by
    rw [List.all_eq_false]
    exact ⟨i, by simpa using h, by rw [h0]; simp⟩, Bool.and_false]

theorem may_yes (rs : List Reg) (h : rs.length ≤ 16) (h0 : ∀ i, i < rs.length → okAt rs i = true) : may rs = true := by
  unfold may
  rw [decide_eq_true h, Bool.true_and, List.all_eq_true]
  exact fun i hi => h0 i (by simpa using hi)

theorem regOk_no (r : Reg) (h : ¬ r.base.tmod 8 = 0 ∨ r.base < 0 ∨ 1099511627776 < r.base ∨ 65536 < r.words.length) : regOk r = false := by
  unfold regOk
  rcases h with h | h | h | h
  · rw [decide_eq_false h]; rfl
  · rw [decide_eq_false (show ¬ 0 ≤ r.base by omega)]; simp
  · rw [decide_eq_false (show ¬ r.base ≤ 1099511627776 by omega)]; simp
  · rw [decide_eq_false (show ¬ r.words.length ≤ 65536 by omega)]; simp

theorem okAt_no (rs : List Reg) (i : Nat) (h : regOk (rs.getD i noReg) = false) : okAt rs i = false := by unfold okAt; rw [h]; rfl
theorem okAt_lap (rs : List Reg) (i k : Nat) (hk : k < i) (h : olap (rs.getD i noReg) (rs.getD k noReg) = true) : okAt rs i = false := by
  unfold okAt
  rw [show ((List.range i).all fun k => !olap (rs.getD i noReg) (rs.getD k noReg)) = false from by
    rw [List.all_eq_false]
    exact ⟨k, by simpa using hk, by rw [h]; simp⟩, Bool.and_false]
theorem okAt_yes (rs : List Reg) (i : Nat) (h : regOk (rs.getD i noReg) = true) (h0 : ∀ k, k < i → olap (rs.getD i noReg) (rs.getD k noReg) = false) : okAt rs i = true := by
  unfold okAt
  rw [h, Bool.true_and, List.all_eq_true]
  intro k hk
  rw [h0 k (by simpa using hk)]; rfl
theorem okAt_reg (rs : List Reg) (i : Nat) (h : okAt rs i = true) : regOk (rs.getD i noReg) = true := by
  unfold okAt at h
  simp only [Bool.and_eq_true] at h
  exact h.1
theorem regOk_bd (r : Reg) (h : regOk r = true) : 0 ≤ r.base ∧ r.base ≤ 1099511627776 ∧ r.words.length ≤ 65536 := by
  simp only [regOk, Bool.and_eq_true, decide_eq_true_eq] at h
  exact ⟨h.1.1.2, h.1.2, h.2⟩

set_option maxRecDepth 100000 in
set_option maxHeartbeats 4000000 in
theorem maybe_any {w : World} {a : Option Addr} {len cap : Nat} {rs : List Reg} (h : RegsV w a len cap rs) :
    Calls Tryd.prog 40 #[.slice a len cap] w fun e w' => e = .returned (.bool (may rs)) ∧ Below w.heap.size w w' := by
  have hcnt := h.count
  have hroom := h.room
  have hcap := h.capOk
  have HV : Hid _ := h
  clear h
  by_cases h16 : (16 : Int) < len
  · have hm : may rs = false := by unfold may; rw [decide_eq_false (show ¬ rs.length ≤ 16 by omega)]; rfl
    have HM : Hid _ := hm
    clear hm HV
    go_enter Tryd.func40, Tryd.ntmps40
    go_wp2
    go_ret
    exact ⟨by rw [HM.out]; rfl, Below.refl _ _⟩
  · go_enter Tryd.func40, Tryd.ntmps40
    go_wp2
    go_loopw [12] (fun i wr => ∃ k : Nat, k ≤ len ∧ i = .int .i64 k ∧ Hid (∀ i, i < k → okAt rs i = true) ∧ Hid (Below w.heap.size w wr)) (fun i _ => len - (RowKit.intOf i).toNat)
    case atStart => exact ⟨0, by omega, rfl, fun i hi => by omega, Below.refl _ _⟩
    case round =>
      obtain ⟨k, hk, rfl, HO, HB⟩ := hrel
      by_cases hlt : k < len
      · rcases HV.out.cells with h0 | ⟨b, off, hA, hc⟩
        · omega
        have HC : Hid _ := hc
        obtain ⟨a1, l1, c1, k0, k1, k2, V1⟩ := hc k hlt
        have hbl : b < w.heap.size := World.block_lt_of_cell? w ⟨b, off + k * 3, none⟩ k0
        have q0 := (HB.out.cell (p := ⟨b, off + k * 3, none⟩) hbl).trans k0
        have q1 := (HB.out.cell (p := ⟨b, off + k * 3 + 1, none⟩) hbl).trans k1
        have q2 := (HB.out.cell (p := ⟨b, off + k * 3 + 2, none⟩) hbl).trans k2
        have hl1 := V1.count
        have hno : regOk (rs.getD k noReg) = false → may rs = false := fun h => may_no rs k (by omega) (okAt_no rs k h)
        have hlap : ∀ j, j < k → olap (rs.getD k noReg) (rs.getD j noReg) = true → may rs = false := fun j hj h => may_no rs k (by omega) (okAt_lap rs k j hj h)
        have hyes : regOk (rs.getD k noReg) = true → (∀ j, j < k → olap (rs.getD k noReg) (rs.getD j noReg) = false) → okAt rs k = true := fun h h' => okAt_yes rs k h h'
        have hbad := regOk_no (rs.getD k noReg)
        have hgood : (rs.getD k noReg).base.tmod 8 = 0 → 0 ≤ (rs.getD k noReg).base → (rs.getD k noReg).base ≤ 1099511627776 → (rs.getD k noReg).words.length ≤ 65536 → regOk (rs.getD k noReg) = true := fun x1 x2 x3 x4 => by unfold regOk; rw [decide_eq_true x1, decide_eq_true x2, decide_eq_true x3, decide_eq_true x4]; rfl
        generalize rs.getD k noReg = r at *
        obtain ⟨bs, ws, wt⟩ := r
        simp only [] at q0 q1 q2 hl1 hbad hgood
        subst hA
        have HNO : Hid _ := hno
        have HLAP : Hid _ := hlap
        have HYES : Hid _ := hyes
        have HBAD : Hid _ := hbad
        have HGOOD : Hid _ := hgood
        clear hc k0 k1 k2 V1 hno hlap hyes hbad hgood
        obtain ⟨wo, rfl⟩ : ∃ wo : World, wo = wr := ⟨_, rfl⟩
        rcases (show ¬ bs.tmod 8 = 0 ∨ (bs.tmod 8 = 0 ∧ bs < 0) ∨ (bs.tmod 8 = 0 ∧ 0 ≤ bs ∧ 1099511627776 < bs) ∨ (bs.tmod 8 = 0 ∧ 0 ≤ bs ∧ bs ≤ 1099511627776 ∧ (65536 : Int) < l1) ∨ (bs.tmod 8 = 0 ∧ 0 ≤ bs ∧ bs ≤ 1099511627776 ∧ (l1 : Int) ≤ 65536) by omega) with g | ⟨g, g1⟩ | ⟨g, g1, g2⟩ | ⟨g, g1, g2, g3⟩ | ⟨g, g1, g2, g3⟩
        · have HM : Hid (may rs = false) := HNO.out (HBAD.out (by omega))
          go_wp2
          go_ret
          exact ⟨by rw [HM.out]; rfl, Below.alloc HB.out (by have := HB.out.size; omega) _⟩
        · have HM : Hid (may rs = false) := HNO.out (HBAD.out (by omega))
          go_wp2
          go_ret
          exact ⟨by rw [HM.out]; rfl, Below.alloc HB.out (by have := HB.out.size; omega) _⟩
        · have HM : Hid (may rs = false) := HNO.out (HBAD.out (by omega))
          go_wp2
          go_ret
          exact ⟨by rw [HM.out]; rfl, Below.alloc HB.out (by have := HB.out.size; omega) _⟩
        · have HM : Hid (may rs = false) := HNO.out (HBAD.out (by omega))
          go_wp2
          go_ret
          exact ⟨by rw [HM.out]; rfl, Below.alloc HB.out (by have := HB.out.size; omega) _⟩
        · have HR : Hid _ := HGOOD.out g g1 g2 (by omega)
          have hsz := HB.out.size
          go_wp2
          go_loopw [41] (fun i wr => ∃ j : Nat, j ≤ k ∧ i = .int .i64 j ∧ Hid (∀ i, i < j → olap ⟨bs, ws, wt⟩ (rs.getD i noReg) = false) ∧ wr.cell? ⟨wo.heap.size, 0, none⟩ = some (.int .i64 bs) ∧ wr.cell? ⟨wo.heap.size, 1, none⟩ = some (.slice a1 l1 c1) ∧ wr.cell? ⟨wo.heap.size, 2, none⟩ = some (.bool wt) ∧ wo.heap.size < wr.heap.size ∧ Hid (Below w.heap.size w wr)) (fun i _ => k - (RowKit.intOf i).toNat)
          case atStart => exact ⟨0, by omega, rfl, (fun i hi => by omega : ∀ i, i < 0 → olap ⟨bs, ws, wt⟩ (rs.getD i noReg) = false), cell_last _ _ _ _ _ rfl rfl, cell_last _ _ _ _ _ rfl rfl, cell_last _ _ _ _ _ rfl rfl, by simp, Below.alloc HB.out (by omega) _⟩
          case round =>
            obtain ⟨j, hjk, rfl, HJ, e0, e1, e2, hoj, HBj⟩ := hrel
            by_cases hltj : j < k
            · obtain ⟨aj, lj, cj, k0, k1, k2, Vj⟩ := HC.out j (by omega)
              have p0 := (HBj.out.cell (p := ⟨b, off + j * 3, none⟩) hbl).trans k0
              have p1 := (HBj.out.cell (p := ⟨b, off + j * 3 + 1, none⟩) hbl).trans k1
              have p2 := (HBj.out.cell (p := ⟨b, off + j * 3 + 2, none⟩) hbl).trans k2
              have hlj := Vj.count
              have hbd := regOk_bd _ (okAt_reg rs j (HO.out j hltj))
              have HL : Hid (olap ⟨bs, ws, wt⟩ (rs.getD j noReg) = true → may rs = false) := HLAP.out j hltj
              have HJ2 : Hid (olap ⟨bs, ws, wt⟩ (rs.getD j noReg) = false → ∀ i, i < j + 1 → olap ⟨bs, ws, wt⟩ (rs.getD i noReg) = false) := fun h i hi => by
                rcases Nat.lt_succ_iff_lt_or_eq.1 hi with h' | h'
                · exact HJ.out i h'
                · rw [h']; exact h
              generalize rs.getD j noReg = rj at *
              obtain ⟨bj, wsj, wtj⟩ := rj
              simp only [] at p0 p1 p2 hlj hbd
              obtain ⟨d0, d1, d2⟩ := hbd
              clear k0 k1 k2 Vj
              have hol : olap ⟨bs, ws, wt⟩ ⟨bj, wsj, wtj⟩ = (decide (bs < bj + 8 * (lj : Int)) && decide (bj < bs + 8 * (l1 : Int))) := by unfold olap; rw [← hlj, ← hl1]
              have HOL : Hid _ := hol
              clear hol
              obtain ⟨wi, rfl⟩ : ∃ wi : World, wi = wr := ⟨_, rfl⟩
              go_wp2_with fail
              refine (overlap_any _ bs a1 l1 c1 wt bj aj lj cj wtj (by omega) (by omega) (by omega) (by omega) (by omega) (by omega)).mono ?_
              rintro e x ⟨rfl, hbx⟩
              have f0 : x.cell? ⟨wo.heap.size, 0, none⟩ = some (.int .i64 bs) := (hbx.cell (p := ⟨wo.heap.size, 0, none⟩) (by simp; omega)).trans ((((Below.refl wi.heap.size wi).alloc (Nat.le_refl _) _).cell (p := ⟨wo.heap.size, 0, none⟩) hoj).trans e0)
              have f1 : x.cell? ⟨wo.heap.size, 1, none⟩ = some (.slice a1 l1 c1) := (hbx.cell (p := ⟨wo.heap.size, 1, none⟩) (by simp; omega)).trans ((((Below.refl wi.heap.size wi).alloc (Nat.le_refl _) _).cell (p := ⟨wo.heap.size, 1, none⟩) hoj).trans e1)
              have f2 : x.cell? ⟨wo.heap.size, 2, none⟩ = some (.bool wt) := (hbx.cell (p := ⟨wo.heap.size, 2, none⟩) (by simp; omega)).trans ((((Below.refl wi.heap.size wi).alloc (Nat.le_refl _) _).cell (p := ⟨wo.heap.size, 2, none⟩) hoj).trans e2)
              have hsx := hbx.size
              simp only [World.size_alloc] at hsx
              have HBx : Hid (Below w.heap.size w x) := (Below.alloc HBj.out (by have := HBj.out.size; omega) _).trans (hbx.mono (by simp; omega))
              clear hbx HBj e0 e1 e2
              rcases hv : (decide (bs < bj + 8 * (lj : Int)) && decide (bj < bs + 8 * (l1 : Int))) with _ | _
              · have HN : Hid _ := HJ2.out (HOL.out.trans hv)
                clear HOL hv
                go_wp2
                go_roundw
                case rel => exact ⟨j + 1, by omega, by go_num, HN, f0, f1, f2, by omega, HBx⟩
                case measure => simp [RowKit.intOf]; omega
              · have HM : Hid (may rs = false) := HL.out (HOL.out.trans hv)
                clear HOL hv
                go_wp2
                go_ret
                exact ⟨by rw [HM.out]; rfl, HBx.out⟩
            · obtain rfl : k = j := by omega
              have HN : Hid (∀ i, i < k + 1 → okAt rs i = true) := fun i hi => by
                rcases Nat.lt_succ_iff_lt_or_eq.1 hi with h' | h'
                · exact HO.out i h'
                · rw [h']; exact HYES.out HR.out HJ.out
              go_wp2
              go_roundw
              case rel => exact ⟨k + 1, by omega, by go_num, HN, HBj⟩
              case measure => simp [RowKit.intOf]; omega
      · obtain rfl : len = k := by omega
        have HM : Hid (may rs = true) := may_yes rs (by omega) (fun i hi => HO.out i (by omega))
        go_wp2
        go_ret
        exact ⟨by rw [HM.out]; rfl, HB.out⟩

end Go.Proofs.YtneclfaamgfoeaaDoor

/- What (*mem.Memory).find comes to. -/
namespace Go.Proofs.YtneclfaamgfoeaaDoor
open Go.RowKit Go.Maps

def inReg (r : Reg) (x : Int) : Bool := decide (r.base ≤ x) && decide (x < r.base + 8 * r.words.length)

/-- No region before the k-th holds x. -/
def noneTo (rs : List Reg) (x : Int) (k : Nat) : Prop := ∀ i, i < k → inReg (rs.getD i noReg) x = false

theorem noneTo_snoc {rs : List Reg} {x : Int} {k : Nat} (h : noneTo rs x k) (h' : inReg (rs.getD k noReg) x = false) : noneTo rs x (k + 1) := fun i hi => by
  rcases Nat.lt_succ_iff_lt_or_eq.1 hi with g | g
  · exact h i g
  · rw [g]; exact h'

set_option maxRecDepth 100000 in
set_option maxHeartbeats 4000000 in
theorem find_any {w : World} {bm : Nat} {a : Option Addr} {len cap : Nat} {rs : List Reg} {x : Int} (hx : x.tmod 8 = 0) (hm : w.cell? ⟨bm, 2, none⟩ = some (.slice a len cap)) (h : RegsV w a len cap rs) (ho : ∀ i, i < len → regOk (rs.getD i noReg) = true) :
    Calls Tryd.prog 52 #[.pointer (some ⟨bm, 0, none⟩), .int .i64 x] w fun e w' => Below w.heap.size w w' ∧ ((∃ i : Nat, i < len ∧ inReg (rs.getD i noReg) x = true ∧ noneTo rs x i ∧ e = .returned (.tuple #[.int .i64 i, .int .i64 ((x - (rs.getD i noReg).base) / 8), .bool true])) ∨ (noneTo rs x len ∧ e = .returned (.tuple #[.int .i64 0, .int .i64 0, .bool false]))) := by
  have hcnt := h.count
  have hroom := h.room
  have hcap := h.capOk
  have HV : Hid _ := h
  have HO : Hid _ := ho
  clear h ho
  go_enter Tryd.func52, Tryd.ntmps52
  go_wp2
  go_loopw [21] (fun i wr => ∃ k : Nat, k ≤ len ∧ i = .int .i64 k ∧ Hid (noneTo rs x k) ∧ Hid (Below w.heap.size w wr)) (fun i _ => len - (RowKit.intOf i).toNat)
  case atStart => exact ⟨0, by omega, rfl, (fun i hi => by omega : noneTo rs x 0), Below.refl _ _⟩
  case round =>
    obtain ⟨k, hk, rfl, HN, HB⟩ := hrel
    by_cases hlt : k < len
    · rcases HV.out.cells with h0 | ⟨b, off, hA, hc⟩
      · omega
      obtain ⟨a1, l1, c1, k0, k1, k2, V1⟩ := hc k hlt
      have hbl : b < w.heap.size := World.block_lt_of_cell? w ⟨b, off + k * 3, none⟩ k0
      have q0 := (HB.out.cell (p := ⟨b, off + k * 3, none⟩) hbl).trans k0
      have q1 := (HB.out.cell (p := ⟨b, off + k * 3 + 1, none⟩) hbl).trans k1
      have q2 := (HB.out.cell (p := ⟨b, off + k * 3 + 2, none⟩) hbl).trans k2
      have hl1 := V1.count
      obtain ⟨d0, d1, d2⟩ := regOk_bd _ (HO.out k hlt)
      have HS : Hid (inReg (rs.getD k noReg) x = false → noneTo rs x (k + 1)) := noneTo_snoc HN.out
      have HI : Hid (inReg (rs.getD k noReg) x = (decide ((rs.getD k noReg).base ≤ x) && decide (x < (rs.getD k noReg).base + 8 * (l1 : Int)))) := by show _ = _; unfold inReg; rw [← hl1]
      obtain ⟨bs, hbs⟩ : ∃ bs, (rs.getD k noReg).base = bs := ⟨_, rfl⟩
      obtain ⟨wt, hwt⟩ : ∃ wt, (rs.getD k noReg).write = wt := ⟨_, rfl⟩
      rw [hbs] at q0 d0 d1
      rw [hwt] at q2
      rw [hl1] at d2
      have HBS : Hid _ := hbs
      subst hA
      clear hc k0 k1 k2 V1 hbs hwt hl1
      have hsz := HB.out.size
      obtain ⟨wo, rfl⟩ : ∃ wo : World, wo = wr := ⟨_, rfl⟩
      by_cases hlo : bs ≤ x
      · go_wp2_with fail
        refine (end_any _ _ _ _ _ _ (by omega) (by omega) (by omega)).mono ?_
        rintro e y ⟨rfl, rfl⟩
        by_cases hhi : x < bs + 8 * (l1 : Int)
        · have HT : Hid (inReg (rs.getD k noReg) x = true) := by show _ = _; rw [HI.out, HBS.out, decide_eq_true hlo, decide_eq_true hhi]; rfl
          go_wp2
          go_region
          all_goals go_wp2
          all_goals go_ret3
          all_goals exact ⟨by repeat (first | exact HB.out | refine Below.drew ?_ | refine Below.alloc ?_ (by first | omega | (simp; done) | (simp; omega)) _), Or.inl ⟨k, hlt, HT.out, HN.out, by rw [HBS.out]; rfl⟩⟩
        · have HF : Hid _ := HS.out (by rw [HI.out, HBS.out, decide_eq_false hhi, Bool.and_false])
          go_wp2
          go_roundw
          case rel => exact ⟨k + 1, by omega, by go_num, HF, (by repeat (first | exact HB.out | refine Below.drew ?_ | refine Below.alloc ?_ (by first | omega | (simp; done) | (simp; omega)) _) : Below _ _ _)⟩
          case measure => simp [RowKit.intOf]; omega
      · have HF : Hid _ := HS.out (by rw [HI.out, HBS.out, decide_eq_false hlo, Bool.false_and])
        go_wp2
        go_roundw
        case rel => exact ⟨k + 1, by omega, by go_num, HF, (by repeat (first | exact HB.out | refine Below.drew ?_ | refine Below.alloc ?_ (by first | omega | (simp; done) | (simp; omega)) _) : Below _ _ _)⟩
        case measure => simp [RowKit.intOf]; omega
    · obtain rfl : len = k := by omega
      go_wp2
      go_ret3
      exact ⟨HB.out, Or.inr ⟨HN.out, rfl⟩⟩

end Go.Proofs.YtneclfaamgfoeaaDoor

/- What was touched, listed: two lists that rise. -/
namespace Go.Proofs.YtneclfaamgfoeaaDoor
open Go.RowKit Go.Maps


theorem own_map {w w1 : World} {b n : Nat} {D : DataW Unit} (o : w.ownsMap Tryd.prog 2 unitElem b n D) (h : Below w.heap.size w w1) : w1.ownsMap Tryd.prog 2 unitElem b n D :=
  o.kept (row := none) ⟨h.os, h.tape, h.output, h.size, fun k hk _ => h.block k hk⟩ (by simp)

/-- What was touched, as it lies in memory: two sets. -/
structure Touch (w : World) (bt : Nat) (rs ws : List Int) (br bw nr nw : Nat) : Prop where
  c0 : w.cell? ⟨bt, 0, none⟩ = some (.map (some br))
  c1 : w.cell? ⟨bt, 1, none⟩ = some (.map (some bw))
  ne : br ≠ bw
  nt : bt ≠ br ∧ bt ≠ bw
  r : w.ownsMap Tryd.prog 2 unitElem br nr (M.set rs)
  w' : w.ownsMap Tryd.prog 2 unitElem bw nw (M.set ws)

end Go.Proofs.YtneclfaamgfoeaaDoor

/- What was touched: newTouched, read, wrote. -/
namespace Go.Proofs.YtneclfaamgfoeaaDoor
open Go.RowKit Go.Maps

theorem Touch.below {w w1 : World} {bt : Nat} {rs ws : List Int} {br bw nr nw : Nat} (h : Touch w bt rs ws br bw nr nw) (hb : Below w.heap.size w w1) : Touch w1 bt rs ws br bw nr nw :=
  ⟨(hb.cell (p := ⟨bt, 0, none⟩) (World.block_lt_of_cell? w ⟨bt, 0, none⟩ h.c0)).trans h.c0, (hb.cell (p := ⟨bt, 1, none⟩) (World.block_lt_of_cell? w ⟨bt, 1, none⟩ h.c1)).trans h.c1, h.ne, h.nt, own_map h.r hb, own_map h.w' hb⟩

theorem made_maps (X : World) : ((X.alloc (.map #[] 0)).alloc (.map #[] 0)).ownsMap Tryd.prog 2 unitElem X.heap.size 0 (M.set []) ∧ ((X.alloc (.map #[] 0)).alloc (.map #[] 0)).ownsMap Tryd.prog 2 unitElem (X.heap.size + 1) 0 (M.set []) := by
  refine ⟨(World.ownsMap_made X _ _ _).alloc _, ?_⟩
  have h := World.ownsMap_made (H := Unit) (X.alloc (.map #[] 0)) Tryd.prog 2 unitElem
  have e : (X.alloc (.map #[] 0)).heap.size = X.heap.size + 1 := by simp
  rw [e] at h
  exact h

set_option maxRecDepth 100000 in
set_option maxHeartbeats 1000000 in
theorem new_touched (w : World) : Calls Tryd.prog 41 #[] w fun e w' => e = .returned (.agg #[.map (some (w.heap.size + 1)), .map (some (w.heap.size + 2))]) ∧ w'.ownsMap Tryd.prog 2 unitElem (w.heap.size + 1) 0 (M.set []) ∧ w'.ownsMap Tryd.prog 2 unitElem (w.heap.size + 2) 0 (M.set []) ∧ w'.heap.size = w.heap.size + 3 ∧ Below w.heap.size w w' := by
  have hmm := @run_makeMap Tryd.prog
  go_enter Tryd.func41, Tryd.ntmps41
  go_wp2
  have h := made_maps (w.alloc (.cells #[.map (some (w.heap.size + 1)), .map (some (w.heap.size + 1 + 1))] 91))
  have e : (w.alloc (.cells #[.map (some (w.heap.size + 1)), .map (some (w.heap.size + 1 + 1))] 91)).heap.size = w.heap.size + 1 := by simp
  rw [e] at h
  refine bodyPost_ret (v := .agg #[.map (some (w.heap.size + 1)), .map (some (w.heap.size + 1 + 1))]) (by simp [results, Tryd.results41, go_sem]) rfl ⟨rfl, h.1, h.2, by simp, ?_⟩
  exact (((Below.refl _ _).alloc (Nat.le_refl _) _).alloc (by simp) _).alloc (by simp; omega) _

set_option maxRecDepth 100000 in
set_option maxHeartbeats 1000000 in
theorem read_any {w : World} {bt : Nat} {rs ws : List Int} {br bw nr nw : Nat} (h : Touch w bt rs ws br bw nr nw) (x : Int) (hx : (Lit.int .i64 x).wf = true) (hn : nr < maxLen) :
    Calls Tryd.prog 53 #[.pointer (some ⟨bt, 0, none⟩), .int .i64 x] w fun e w' => e = .returned (.tuple #[]) ∧ Touch w' bt (rs ++ [x]) ws br bw (nr + 1) nw ∧ w.grownBy w' (some br) := by
  have k0 := h.c0
  have hr := h.r
  have hkey : keyOf Tryd.prog 2 (.int .i64 x) = some (.int .i64 x) := keyOf_int_mk Tryd.underlying2 hx
  have HT : Hid _ := h
  clear h hx
  go_enter Tryd.func53, Tryd.ntmps53
  go_wp2_with (first | (at_mapUpdate; refine wpList_mapUpdate_own _ rfl _ _ _ 89 rfl 2 133 lawK Tryd.underlying89 (unitElem (H := Unit)) br nr _ rfl hr hn _ _ _ rfl rfl hkey _ [] unitElem_mk ?_) | go_in)
  intro w1 hown1 hg1
  go_wp2
  go_end0
  have t := HT.out
  refine ⟨rfl, ⟨hg1.cell t.c0 (by simp; exact t.nt.1), hg1.cell t.c1 (by simp; exact t.nt.1), t.ne, t.nt, ?_, t.w'.kept hg1 (by simp; exact fun e => t.ne e.symm)⟩, hg1⟩
  rw [M.set_snoc]; exact hown1

set_option maxRecDepth 100000 in
set_option maxHeartbeats 1000000 in
theorem wrote_any {w : World} {bt : Nat} {rs ws : List Int} {br bw nr nw : Nat} (h : Touch w bt rs ws br bw nr nw) (x : Int) (hx : (Lit.int .i64 x).wf = true) (hn : nw < maxLen) :
    Calls Tryd.prog 61 #[.pointer (some ⟨bt, 0, none⟩), .int .i64 x] w fun e w' => e = .returned (.tuple #[]) ∧ Touch w' bt rs (ws ++ [x]) br bw nr (nw + 1) ∧ w.grownBy w' (some bw) := by
  have k0 := h.c1
  have hr := h.w'
  have hkey : keyOf Tryd.prog 2 (.int .i64 x) = some (.int .i64 x) := keyOf_int_mk Tryd.underlying2 hx
  have HT : Hid _ := h
  clear h hx
  go_enter Tryd.func61, Tryd.ntmps61
  go_wp2_with (first | (at_mapUpdate; refine wpList_mapUpdate_own _ rfl _ _ _ 89 rfl 2 133 lawK Tryd.underlying89 (unitElem (H := Unit)) bw nw _ rfl hr hn _ _ _ rfl rfl hkey _ [] unitElem_mk ?_) | go_in)
  intro w1 hown1 hg1
  go_wp2
  go_end0
  have t := HT.out
  refine ⟨rfl, ⟨hg1.cell t.c0 (by simp; exact t.nt.2), hg1.cell t.c1 (by simp; exact t.nt.2), t.ne, t.nt, t.r.kept hg1 (by simp; exact t.ne), ?_⟩, hg1⟩
  rw [M.set_snoc]; exact hown1

end Go.Proofs.YtneclfaamgfoeaaDoor

/- What mem.copied comes to. -/
namespace Go.Proofs.YtneclfaamgfoeaaDoor
open Go.RowKit Go.Maps

theorem infoI : (Tryd.prog.info? 2).map (fun i => (i.zero, i.size, i.bytes)) = some (some (.int .i64 0), 1, 8) := by kernel_rfl

theorem row_whole {w : World} {B g n : Nat} {e : TypeId} {xs : List Value} (h : w.ownsRow B e 1 (.slice (some ⟨g, 0, none⟩) n n) n xs) : w.heap[g]? = some (.cells xs.toArray e (0, 0)) := by
  rcases h.2 with ⟨h', _⟩ | ⟨g', cap, cur, hv, _, hg, _, _, hcs, ht⟩
  · simp at h'
  · simp only [Value.slice.injEq, Option.some.injEq, Addr.mk.injEq, and_true, true_and] at hv
    obtain ⟨rfl, rfl⟩ := hv
    rw [hg]
    have : cur.toList = xs := by rw [← ht]; exact (List.take_of_length_le (by simp; omega)).symm
    rw [← this]

set_option maxRecDepth 100000 in
set_option maxHeartbeats 1000000 in
theorem copied_any {w : World} {a : Option Addr} {l c : Nat} {zs : List Int} (h : View w a l c zs) (hl : l * 8 ≤ 140737488355328) :
    Calls Tryd.prog 42 #[.slice a l c] w fun e w' => e = .returned (.slice (some ⟨w.heap.size, 0, none⟩) l l) ∧ w'.heap[w.heap.size]? = some (.cells (zs.map (Value.int .i64)).toArray 2 (0, 0)) ∧ w.heap.size < w'.heap.size ∧ Below w.heap.size w w' := by
  obtain ⟨i0, hi, hz0, hz1, hz2⟩ := info_parts infoI
  have hcnt := h.count
  have HV : Hid _ := h
  clear h
  go_enter Tryd.func42, Tryd.ntmps42
  go_wp2_with (first | (at_make; refine wpList_make_full _ rfl _ _ 22 rfl w.heap.size 2 i0 (.int .i64 0) 1 Tryd.underlying22 hi hz0 hz1 _ _ _ _ l rfl rfl rfl rfl (by rw [hz2]; omega) (by unfold maxLen; omega) (Nat.le_refl _) ?_) | go_in)
  intro w1 hown hgrow
  have hb1 : Below w.heap.size w w1 := (Below.refl _ _).grown hgrow (Nat.le_refl _) (by intro k hk; cases hk)
  obtain ⟨xs0, ho0⟩ : ∃ xs0, w1.ownsRow w.heap.size 2 1 (.slice (some ⟨w.heap.size, 0, none⟩) l l) l xs0 := ⟨_, hown⟩
  have hg := row_whole ho0
  have hlt : w.heap.size < w1.heap.size := (Array.getElem?_eq_some_iff.1 hg).1
  have hml : xs0.length = l := by simpa using ho0.1
  have HG : Hid _ := hg
  have hv1 : Hid _ := HV.out.below hb1
  clear hown hgrow hg ho0
  go_wp2_with (first | (refine wpList_copy_splice rfl _ _ _ _ rfl 2 Tryd.underlying22 (by kernel_rfl) _ _ _ _ _ _ rfl rfl w.heap.size 0 _ 2 HG.out (zs.map (Value.int .i64)) (by simp [hcnt]) ?_ (by simp only [List.length_map]; omega) (ints_oneCell _ _) w.heap.size w hb1 (Nat.le_refl _) ?_))
  · intro h0
    rcases hv1.out.cells with hz | ⟨b, off, rfl, hc⟩
    · omega
    · refine ⟨_, rfl, fun j x hx => ?_⟩
      have hj : j < zs.length := (List.getElem?_eq_some_iff.1 hx).1
      rw [Addr.add_lit, hc j (by omega)]
      simp [List.getD, hx]
  · intro w2 HG2 hB2
    have hsp : splice xs0 0 (zs.map (Value.int .i64)) = zs.map (Value.int .i64) := by
      unfold splice
      simp only [List.take_zero, List.nil_append, Nat.zero_add]
      rw [List.drop_eq_nil_of_le (by simp; omega), List.append_nil]
    have hg2 := HG2.out
    rw [hsp] at hg2
    have HH : Hid _ := hg2
    clear HG2 hsp hg2 HG hv1
    go_wp2
    go_ret
    exact ⟨rfl, HH.out, (Array.getElem?_eq_some_iff.1 HH.out).1, hB2⟩

end Go.Proofs.YtneclfaamgfoeaaDoor

/- A memory, as it lies: its block, what was touched, its regions and their words, each in blocks of their own. -/
namespace Go.Proofs.YtneclfaamgfoeaaDoor
open Go.RowKit Go.Maps

theorem infoR : (Tryd.prog.info? 96).map (fun i => (i.zero, i.size, i.bytes)) = some (some (.agg #[.int .i64 0, .slice none 0 0, .bool false]), 3, 40) := by kernel_rfl

/-- A region's three cells; its words lie in a block of their own. -/
def Reg.cs (r : Reg) (b : Nat) : List Value := [.int .i64 r.base, .slice (some ⟨b, 0, none⟩) r.words.length r.words.length, .bool r.write]
def regCells (rs : List Reg) (bs : List Nat) : List Value := (rs.zip bs).flatMap fun x => x.1.cs x.2

structure MemV (B : Nat) (w : World) (bm : Nat) (rs : List Reg) (R W : List Int) (br bw nr nw : Nat) (lv : Value) (bs : List Nat) : Prop where
  touch : Touch w bm R W br bw nr nw
  c2 : w.cell? ⟨bm, 2, none⟩ = some lv
  f2 : ∀ o, w.frozen? ⟨bm, o, none⟩ = false
  lo : B ≤ bm ∧ B ≤ br ∧ B ≤ bw
  len : bs.length = rs.length
  row : w.ownsRow B 96 3 lv rs.length (regCells rs bs)
  words : ∀ i, i < rs.length → w.heap[bs.getD i 0]? = some (.cells ((rs.getD i noReg).words.map (Value.int .i64)).toArray 2 (0, 0)) ∧ B ≤ bs.getD i 0
  nodup : bs.Nodup
  apart : ∀ b ∈ bs, b ≠ bm ∧ b ≠ br ∧ b ≠ bw ∧ lv.ownBlock ≠ some b
  rowApart : lv.ownBlock ≠ some bm ∧ lv.ownBlock ≠ some br ∧ lv.ownBlock ≠ some bw
  fits : ∀ r ∈ rs, (Lit.int .i64 r.base).wf = true ∧ (∀ n ∈ r.words, (Lit.int .i64 n).wf = true)

theorem regCells_snoc (rs : List Reg) (bs : List Nat) (h : bs.length = rs.length) (r : Reg) (b : Nat) : regCells (rs ++ [r]) (bs ++ [b]) = regCells rs bs ++ r.cs b := by
  unfold regCells
  rw [List.zip_append h.symm, List.flatMap_append]
  simp
theorem regCells_len (rs : List Reg) (bs : List Nat) (h : bs.length = rs.length) : (regCells rs bs).length = rs.length * 3 := by
  induction rs generalizing bs with
  | nil => simp [regCells]
  | cons r rs ih =>
    cases bs with
    | nil => simp at h
    | cons b bs =>
      have := ih bs (by simpa using h)
      simp only [regCells, List.zip_cons_cons, List.flatMap_cons, List.length_append, List.length_cons] at *
      rw [this]
      simp [Reg.cs]
      omega
theorem regCells_at (rs : List Reg) (bs : List Nat) (h : bs.length = rs.length) (k : Nat) (hk : k < rs.length) (j : Nat) (hj : j < 3) : (regCells rs bs)[k * 3 + j]? = ((rs.getD k noReg).cs (bs.getD k 0))[j]? := by
  induction rs generalizing bs k with
  | nil => simp at hk
  | cons r rs ih =>
    cases bs with
    | nil => simp at h
    | cons b bs =>
      simp only [regCells, List.zip_cons_cons, List.flatMap_cons]
      cases k with
      | zero => rw [List.getElem?_append_left (by simp [Reg.cs]; omega)]; simp
      | succ k =>
        rw [List.getElem?_append_right (by simp [Reg.cs]; omega)]
        have e : (k + 1) * 3 + j - (r.cs b).length = k * 3 + j := by simp [Reg.cs]; omega
        rw [e]
        have := ih bs (by simpa using h) k (by simpa using hk)
        simpa [regCells] using this

/-- What a memory's block list holds still when nothing ahead of the heap's end was written. -/
theorem MemV.below {B : Nat} {w w' : World} {bm : Nat} {rs : List Reg} {R W : List Int} {br bw nr nw : Nat} {lv : Value} {bs : List Nat} (h : MemV B w bm rs R W br bw nr nw lv bs) (hb : Below w.heap.size w w') : MemV B w' bm rs R W br bw nr nw lv bs :=
  { touch := h.touch.below hb
    c2 := (hb.cell (p := ⟨bm, 2, none⟩) (World.block_lt_of_cell? w ⟨bm, 2, none⟩ h.c2)).trans h.c2
    f2 := fun o => (hb.frozen (p := ⟨bm, o, none⟩) (World.block_lt_of_cell? w ⟨bm, 2, none⟩ h.c2)).trans (h.f2 o)
    lo := h.lo
    len := h.len
    row := own_kept h.row hb
    words := fun i hi => ⟨(hb.block _ (Array.getElem?_eq_some_iff.1 (h.words i hi).1).1).trans (h.words i hi).1, (h.words i hi).2⟩
    nodup := h.nodup
    apart := h.apart
    rowApart := h.rowApart
    fits := h.fits }

theorem getD_at {l : List Nat} {i : Nat} (h : i < l.length) : l.getD i 0 = l[i] := by simp [List.getD, h]
theorem gb_set (w : World) (a : Addr) (u : Value) : w.grownBy (w.setCell a u) (some a.block) :=
  ⟨rfl, rfl, rfl, by simp [World.setCell], fun k hk hne => Below.heap_setCell _ _ _ _ (fun e => hne (by rw [e]))⟩
theorem grown_heap {w w' : World} {row : Option Nat} (hg : w.grownBy w' row) {b : Nat} {o : Obj} (h : w.heap[b]? = some o) (hne : some b ≠ row) : w'.heap[b]? = some o :=
  (hg.block b (Array.getElem?_eq_some_iff.1 h).1 hne).trans h
theorem touch_lt {w : World} {bt : Nat} {rs ws : List Int} {br bw nr nw : Nat} (h : Touch w bt rs ws br bw nr nw) : bt < w.heap.size := World.block_lt_of_cell? w ⟨bt, 0, none⟩ h.c0
theorem map_lt {w : World} {b n : Nat} {D : DataW Unit} (h : w.ownsMap Tryd.prog 2 unitElem b n D) : b < w.heap.size := by
  obtain ⟨es, clock, hb, -⟩ := h
  exact (Array.getElem?_eq_some_iff.1 hb).1

/-- A region more. -/
theorem MemV.push {B : Nat} {w w5 : World} {bm : Nat} {rs : List Reg} {R W : List Int} {br bw nr nw : Nat} {lv : Value} {bs : List Nat} (h : MemV B w bm rs R W br bw nr nw lv bs) {r : Reg} {b' g cap : Nat}
    (hb' : w.heap[b']? = some (.cells (r.words.map (Value.int .i64)).toArray 2 (0, 0))) (hB' : B ≤ b') (hfr : b' ≠ bm ∧ b' ≠ br ∧ b' ≠ bw ∧ lv.ownBlock ≠ some b' ∧ b' ∉ bs)
    (hfit : (Lit.int .i64 r.base).wf = true ∧ (∀ n ∈ r.words, (Lit.int .i64 n).wf = true))
    (ho : w5.ownsRow B 96 3 (.slice (some ⟨g, 0, none⟩) (rs.length + 1) cap) (rs.length + 1) (regCells rs bs ++ r.cs b')) (hg : w.grownBy w5 lv.ownBlock) (hat : lv.ownBlock = some g ∨ g = w.heap.size) :
    MemV B (w5.setCell ⟨bm, 2, none⟩ (.slice (some ⟨g, 0, none⟩) (rs.length + 1) cap)) bm (rs ++ [r]) R W br bw nr nw (.slice (some ⟨g, 0, none⟩) (rs.length + 1) cap) (bs ++ [b']) := by
  have zm : bm < w.heap.size := touch_lt h.touch
  have zr : br < w.heap.size := map_lt h.touch.r
  have zw : bw < w.heap.size := map_lt h.touch.w'
  have zb : b' < w.heap.size := (Array.getElem?_eq_some_iff.1 hb').1
  obtain ⟨a1, a2, a3⟩ := h.rowApart
  have gne : ∀ x, x < w.heap.size → lv.ownBlock ≠ some x → g ≠ x := by
    intro x hx hne e
    subst e
    rcases hat with e | e
    · exact hne e
    · omega
  have s5 := gb_set w5 ⟨bm, 2, none⟩ (.slice (some ⟨g, 0, none⟩) (rs.length + 1) cap)
  have c2 : w5.cell? ⟨bm, 2, none⟩ = some lv := hg.cell h.c2 (Ne.symm a1)
  have hlen := h.len
  have hw : ∀ i, i < rs.length → bs.getD i 0 ∈ bs := fun i hi => by rw [getD_at (by omega)]; exact List.getElem_mem _
  refine { touch := ?_, c2 := ?_, f2 := ?_, lo := h.lo, len := by simp [hlen], row := ?_, words := ?_, nodup := ?_, apart := ?_, rowApart := ?_, fits := ?_ }
  · refine ⟨?_, ?_, h.touch.ne, h.touch.nt, ?_, ?_⟩
    · rw [World.cell?_setCell_other _ _ _ _ (by simp)]; exact hg.cell h.touch.c0 (Ne.symm a1)
    · rw [World.cell?_setCell_other _ _ _ _ (by simp)]; exact hg.cell h.touch.c1 (Ne.symm a1)
    · exact (h.touch.r.kept hg (Ne.symm a2)).kept s5 (by simpa using h.touch.nt.1.symm)
    · exact (h.touch.w'.kept hg (Ne.symm a3)).kept s5 (by simpa using h.touch.nt.2.symm)
  · exact World.cell?_setCell_same _ _ _ c2
  · intro o; rw [World.frozen?_setCell, hg.frozen_far ⟨bm, o, none⟩ zm (Ne.symm a1)]; exact h.f2 o
  · rw [regCells_snoc rs bs hlen]
    have := ho.kept s5 (.inr (by simpa [Value.ownBlock] using gne bm zm a1))
    simpa using this
  · intro i hi
    by_cases hlt : i < rs.length
    · have e1 : (bs ++ [b']).getD i 0 = bs.getD i 0 := by simp [List.getD, List.getElem?_append_left (show i < bs.length by omega)]
      have e2 : (rs ++ [r]).getD i noReg = rs.getD i noReg := by simp [List.getD, List.getElem?_append_left hlt]
      rw [e1, e2]
      obtain ⟨h1, h2⟩ := h.words i hlt
      obtain ⟨p1, -, -, p4⟩ := h.apart _ (hw i hlt)
      exact ⟨grown_heap s5 (grown_heap hg h1 (Ne.symm p4)) (by simpa using p1), h2⟩
    · have hi' : i = rs.length := by simp at hi; omega
      subst hi'
      have e1 : (bs ++ [b']).getD rs.length 0 = b' := by rw [← hlen]; simp [List.getD]
      have e2 : (rs ++ [r]).getD rs.length noReg = r := by simp [List.getD]
      rw [e1, e2]
      exact ⟨grown_heap s5 (grown_heap hg hb' (Ne.symm hfr.2.2.2.1)) (by simpa using hfr.1), hB'⟩
  · rw [List.nodup_append]
    refine ⟨h.nodup, by simp, ?_⟩
    intro x hx y hy e
    simp at hy
    subst hy
    subst e
    exact hfr.2.2.2.2 hx
  · intro b hb
    rcases List.mem_append.1 hb with hb | hb
    · obtain ⟨p1, p2, p3, p4⟩ := h.apart b hb
      refine ⟨p1, p2, p3, ?_⟩
      obtain ⟨i, hi, rfl⟩ := List.getElem_of_mem hb
      have hwi := (h.words i (by omega)).1
      rw [getD_at hi] at hwi
      simpa [Value.ownBlock] using gne _ (Array.getElem?_eq_some_iff.1 hwi).1 p4
    · simp at hb
      subst hb
      exact ⟨hfr.1, hfr.2.1, hfr.2.2.1, by simpa [Value.ownBlock] using gne b zb hfr.2.2.2.1⟩
  · exact ⟨by simpa [Value.ownBlock] using gne bm zm a1, by simpa [Value.ownBlock] using gne br zr a2, by simpa [Value.ownBlock] using gne bw zw a3⟩
  · intro x hx
    rcases List.mem_append.1 hx with hx | hx
    · exact h.fits x hx
    · simp at hx; subst hx; exact hfit

end Go.Proofs.YtneclfaamgfoeaaDoor

/- Where an address lies in a memory; what reading, writing and storing make of a memory: no walk. -/
namespace Go.Proofs.YtneclfaamgfoeaaDoor
open Go.RowKit Go.Maps
set_option linter.unusedVariables false

/-- The address x is the j-th word of the i-th region. -/
def Loc (rs : List Reg) (x : Int) (i j : Nat) : Prop := x.tmod 8 = 0 ∧ i < rs.length ∧ inReg (rs.getD i noReg) x = true ∧ noneTo rs x i ∧ (j : Int) = (x - (rs.getD i noReg).base) / 8 ∧ j < (rs.getD i noReg).words.length
/-- It is no word's. -/
def NoLoc (rs : List Reg) (x : Int) : Prop := ¬ x.tmod 8 = 0 ∨ noneTo rs x rs.length
/-- All regions may be. -/
def AllOk (rs : List Reg) : Prop := ∀ i, i < rs.length → regOk (rs.getD i noReg) = true

theorem loc_j {rs : List Reg} {x : Int} {i : Nat} (hx : x.tmod 8 = 0) (hi : i < rs.length) (h : inReg (rs.getD i noReg) x = true) (hn : noneTo rs x i) : ∃ j, Loc rs x i j := by
  have h' := h
  unfold inReg at h'
  obtain ⟨h1, h2⟩ := Bool.and_eq_true_iff.1 h'
  have h1 := of_decide_eq_true h1
  have h2 := of_decide_eq_true h2
  exact ⟨((x - (rs.getD i noReg).base) / 8).toNat, hx, hi, h, hn, by omega, by omega⟩

theorem heap_cell {w : World} {b : Nat} {cs : Array Value} {t : TypeId} {fr : Nat × Nat} (h : w.heap[b]? = some (.cells cs t fr)) (i : Nat) : w.cell? ⟨b, i, none⟩ = cs[i]? := by
  simp [World.cell?, h]
theorem heap_set {w : World} {b : Nat} {cs : Array Value} {t : TypeId} {fr : Nat × Nat} (h : w.heap[b]? = some (.cells cs t fr)) (j : Nat) (v : Value) : (w.setCell ⟨b, j, none⟩ v).heap[b]? = some (.cells (cs.setIfInBounds j v) t fr) := by
  simp [World.setCell, Array.getElem?_modify, h]
theorem view_block {w : World} {b : Nat} {zs : List Int} (h : w.heap[b]? = some (.cells (zs.map (Value.int .i64)).toArray 2 (0, 0))) (hf : ∀ n ∈ zs, (Lit.int .i64 n).wf = true) : View w (some ⟨b, 0, none⟩) zs.length zs.length zs := by
  refine ⟨rfl, hf, by simp, .inr ⟨b, 0, rfl, fun i hi => ?_⟩⟩
  have hc : w.cell? ⟨b, 0 + i, none⟩ = (zs.map (Value.int .i64)).toArray[0 + i]? := heap_cell h _
  rw [hc]
  simp [List.getD, hi]

theorem MemV.view {B : Nat} {w : World} {bm : Nat} {rs : List Reg} {R W : List Int} {br bw nr nw : Nat} {lv : Value} {bs : List Nat} (h : MemV B w bm rs R W br bw nr nw lv bs) (i : Nat) (hi : i < rs.length) : View w (some ⟨bs.getD i 0, 0, none⟩) (rs.getD i noReg).words.length (rs.getD i noReg).words.length (rs.getD i noReg).words :=
  view_block (h.words i hi).1 (h.fits _ (by simp [List.getD, hi])).2

theorem MemV.form {B : Nat} {w : World} {bm : Nat} {rs : List Reg} {R W : List Int} {br bw nr nw : Nat} {lv : Value} {bs : List Nat} (h : MemV B w bm rs R W br bw nr nw lv bs) :
    ∃ a cap, lv = .slice a rs.length cap ∧ RegsV w a rs.length cap rs ∧ (rs.length = 0 ∨ ∃ g, a = some ⟨g, 0, none⟩ ∧ g < w.heap.size ∧ lv.ownBlock = some g ∧ ∀ i, i < rs.length → w.cell? ⟨g, i * 3, none⟩ = some (.int .i64 (rs.getD i noReg).base) ∧ w.cell? ⟨g, i * 3 + 1, none⟩ = some (.slice (some ⟨bs.getD i 0, 0, none⟩) (rs.getD i noReg).words.length (rs.getD i noReg).words.length) ∧ w.cell? ⟨g, i * 3 + 2, none⟩ = some (.bool (rs.getD i noReg).write)) := by
  rcases h.row.2 with ⟨rfl, h0⟩ | ⟨g, cap, cur, rfl, hb, hg, hnc, hcm, hcs, htake⟩
  · refine ⟨none, 0, by rw [h0], ⟨rfl, by omega, by omega, fun r hr => (h.fits r hr).1, .inl h0⟩, .inl h0⟩
  · have hc : ∀ i j, i < rs.length → j < 3 → w.cell? ⟨g, i * 3 + j, none⟩ = ((rs.getD i noReg).cs (bs.getD i 0))[j]? := fun i j hi hj => by
      rw [World.ownsRow.cellAt h.row _ (by omega)]
      exact regCells_at rs bs h.len i hi j hj
    refine ⟨some ⟨g, 0, none⟩, cap, rfl, ⟨rfl, by omega, by unfold maxLen at hcm; omega, fun r hr => (h.fits r hr).1, ?_⟩, .inr ⟨g, rfl, (Array.getElem?_eq_some_iff.1 hg).1, rfl, fun i hi => ⟨hc i 0 hi (by decide), hc i 1 hi (by decide), hc i 2 hi (by decide)⟩⟩⟩
    refine .inr ⟨g, 0, rfl, fun i hi => ⟨_, _, _, ?_, ?_, ?_, h.view i hi⟩⟩
    · rw [Nat.zero_add]; exact hc i 0 hi (by decide)
    · rw [Nat.zero_add]; exact hc i 1 hi (by decide)
    · rw [Nat.zero_add]; exact hc i 2 hi (by decide)

/-- What stays, where one block alone was written that is neither the memory's own nor its regions' nor their words'. -/
theorem MemV.kept {B : Nat} {w w' : World} {bm : Nat} {rs : List Reg} {R W R' W' : List Int} {br bw nr nw nr' nw' : Nat} {lv : Value} {bs : List Nat} (h : MemV B w bm rs R W br bw nr nw lv bs) {x : Nat} (hg : w.grownBy w' (some x)) (hx : x = br ∨ x = bw) (ht : Touch w' bm R' W' br bw nr' nw') : MemV B w' bm rs R' W' br bw nr' nw' lv bs := by
  have n1 : bm ≠ x := by rcases hx with rfl | rfl; exact h.touch.nt.1; exact h.touch.nt.2
  have n2 : lv.ownBlock ≠ some x := by rcases hx with rfl | rfl; exact h.rowApart.2.1; exact h.rowApart.2.2
  refine { touch := ht, c2 := hg.cell h.c2 (by simpa using n1), f2 := ?_, lo := h.lo, len := h.len, row := h.row.kept hg (.inr n2), words := ?_, nodup := h.nodup, apart := h.apart, rowApart := h.rowApart, fits := h.fits }
  · intro o; rw [hg.frozen_far ⟨bm, o, none⟩ (World.block_lt_of_cell? w ⟨bm, 2, none⟩ h.c2) (by simpa using n1)]; exact h.f2 o
  · intro i hi
    obtain ⟨h1, h2⟩ := h.words i hi
    have hm : bs.getD i 0 ∈ bs := by rw [getD_at (by have := h.len; omega)]; exact List.getElem_mem _
    obtain ⟨-, p2, p3, -⟩ := h.apart _ hm
    refine ⟨grown_heap hg h1 ?_, h2⟩
    rcases hx with rfl | rfl
    · simpa using p2
    · simpa using p3

/-- The regions, a word turned. -/
def putWord (rs : List Reg) (i j : Nat) (n : Int) : List Reg := rs.set i { rs.getD i noReg with words := (rs.getD i noReg).words.set j n }
theorem putWord_len (rs : List Reg) (i j : Nat) (n : Int) : (putWord rs i j n).length = rs.length := by simp [putWord]
theorem putWord_same (rs : List Reg) (i j : Nat) (n : Int) (hi : i < rs.length) : (putWord rs i j n).getD i noReg = { rs.getD i noReg with words := (rs.getD i noReg).words.set j n } := by
  unfold putWord
  simp [List.getD, hi]
theorem putWord_other (rs : List Reg) (i j k : Nat) (n : Int) (hne : i ≠ k) : (putWord rs i j n).getD k noReg = rs.getD k noReg := by
  unfold putWord
  simp [List.getD, List.getElem?_set_ne hne]
theorem putWord_cells (rs : List Reg) (bs : List Nat) (h : bs.length = rs.length) (i j : Nat) (n : Int) (hi : i < rs.length) : regCells (putWord rs i j n) bs = regCells rs bs := by
  have h' : bs.length = (putWord rs i j n).length := by rw [putWord_len]; exact h
  apply List.ext_getElem?
  intro k
  by_cases hk : k < rs.length * 3
  · have e : k = k / 3 * 3 + k % 3 := by omega
    rw [e, regCells_at _ bs h' (k / 3) (by rw [putWord_len]; omega) (k % 3) (by omega), regCells_at rs bs h (k / 3) (by omega) (k % 3) (by omega)]
    by_cases c : i = k / 3
    · rw [← c, putWord_same rs i j n hi]
      simp [Reg.cs]
    · rw [putWord_other rs i j (k / 3) n c]
  · rw [List.getElem?_eq_none (by rw [regCells_len _ _ h', putWord_len]; omega), List.getElem?_eq_none (by rw [regCells_len _ _ h]; omega)]

theorem MemV.put {B : Nat} {w : World} {bm : Nat} {rs : List Reg} {R W : List Int} {br bw nr nw : Nat} {lv : Value} {bs : List Nat} (h : MemV B w bm rs R W br bw nr nw lv bs) (i j : Nat) (hi : i < rs.length) (hj : j < (rs.getD i noReg).words.length) (n : Int) (hn : (Lit.int .i64 n).wf = true) :
    MemV B (w.setCell ⟨bs.getD i 0, j, none⟩ (.int .i64 n)) bm (putWord rs i j n) R W br bw nr nw lv bs := by
  have hlen := h.len
  have hm : ∀ k, k < rs.length → bs.getD k 0 ∈ bs := fun k hk => by rw [getD_at (by omega)]; exact List.getElem_mem _
  obtain ⟨p1, p2, p3, p4⟩ := h.apart _ (hm i hi)
  have sg := gb_set w ⟨bs.getD i 0, j, none⟩ (.int .i64 n)
  refine { touch := ⟨?_, ?_, h.touch.ne, h.touch.nt, h.touch.r.kept sg (by simpa using p2.symm), h.touch.w'.kept sg (by simpa using p3.symm)⟩, c2 := ?_, f2 := ?_, lo := h.lo, len := by rw [putWord_len]; exact hlen, row := ?_, words := ?_, nodup := h.nodup, apart := h.apart, rowApart := h.rowApart, fits := ?_ }
  · exact sg.cell h.touch.c0 (by simpa using p1.symm)
  · exact sg.cell h.touch.c1 (by simpa using p1.symm)
  · exact sg.cell h.c2 (by simpa using p1.symm)
  · intro o; rw [World.frozen?_setCell]; exact h.f2 o
  · rw [putWord_len, putWord_cells rs bs hlen i j n hi]
    exact h.row.kept sg (.inr p4)
  · intro k hk
    rw [putWord_len] at hk
    by_cases c : i = k
    · subst c
      rw [putWord_same rs i j n hi]
      obtain ⟨h1, h2⟩ := h.words i hi
      refine ⟨?_, h2⟩
      rw [heap_set h1]
      congr 2
      simp [List.map_set]
    · rw [putWord_other rs i j k n c]
      obtain ⟨h1, h2⟩ := h.words k hk
      refine ⟨grown_heap sg h1 ?_, h2⟩
      intro e
      have e' : bs.getD k 0 = bs.getD i 0 := by simpa using e
      rw [getD_at (by omega), getD_at (by omega)] at e'
      exact c ((List.getElem_inj h.nodup).1 e').symm
  · intro r hr
    obtain ⟨k, hk, rfl⟩ := List.getElem_of_mem hr
    rw [putWord_len] at hk
    have e0 : (putWord rs i j n)[k]'(by rw [putWord_len]; exact hk) = (putWord rs i j n).getD k noReg := by simp [List.getD, putWord_len, hk]
    rw [e0]
    have hmem : ∀ q, q < rs.length → rs.getD q noReg ∈ rs := fun q hq => by simp [List.getD, hq]
    by_cases c : i = k
    · subst c
      rw [putWord_same rs i j n hi]
      obtain ⟨f1, f2⟩ := h.fits _ (hmem i hi)
      refine ⟨f1, fun m hm' => ?_⟩
      rcases List.mem_or_eq_of_mem_set hm' with hm' | rfl
      · exact f2 m hm'
      · exact hn
    · rw [putWord_other rs i j k n c]
      exact h.fits _ (hmem k hk)

end Go.Proofs.YtneclfaamgfoeaaDoor
