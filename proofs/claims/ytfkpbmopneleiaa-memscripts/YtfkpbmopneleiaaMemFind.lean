/- What (*mem.Memory).find comes to. -/
import Derived.Test.YtfkpbmopneleiaaMemMay
import Derived.OwnWalk
namespace Go.Proofs.Ytfkpbmopneleiaa
open Go.RowKit Go.Maps

def inReg (r : Reg) (x : Int) : Bool := decide (r.base ≤ x) && decide (x < r.base + 8 * r.words.length)

/-- No region before the k-th holds x. -/
def noneTo (rs : List Reg) (x : Int) (k : Nat) : Prop := ∀ i, i < k → inReg (rs.getD i noReg) x = false

theorem noneTo_snoc {rs : List Reg} {x : Int} {k : Nat} (h : noneTo rs x k) (h' : inReg (rs.getD k noReg) x = false) : noneTo rs x (k + 1) := fun i hi => by
  rcases Nat.lt_succ_iff_lt_or_eq.1 hi with g | g
  · exact h i g
  · rw [g]; exact h'

set_option maxRecDepth 100000 in
set_option maxHeartbeats 4000000 in
theorem find_any {w : World} {bm : Nat} {a : Option Addr} {len cap : Nat} {rs : List Reg} {x : Int} (hx : x.tmod 8 = 0) (hm : w.cell? ⟨bm, 2, none⟩ = some (.slice a len cap)) (h : RegsV w a len cap rs) (ho : ∀ i, i < len → regOk (rs.getD i noReg) = true) :
    Calls Try.prog 31 #[.pointer (some ⟨bm, 0, none⟩), .int .i64 x] w fun e w' => Below w.heap.size w w' ∧ ((∃ i : Nat, i < len ∧ inReg (rs.getD i noReg) x = true ∧ noneTo rs x i ∧ e = .returned (.tuple #[.int .i64 i, .int .i64 ((x - (rs.getD i noReg).base) / 8), .bool true])) ∨ (noneTo rs x len ∧ e = .returned (.tuple #[.int .i64 0, .int .i64 0, .bool false]))) := by
  have hcnt := h.count
  have hroom := h.room
  have hcap := h.capOk
  have HV : Hid _ := h
  have HO : Hid _ := ho
  clear h ho
  go_enter Try.func31, Try.ntmps31
  go_wp2
  go_loopw [21] (fun i wr => ∃ k : Nat, k ≤ len ∧ i = .int .i64 k ∧ Hid (noneTo rs x k) ∧ Hid (Below w.heap.size w wr)) (fun i _ => len - (RowKit.intOf i).toNat)
  case atStart => exact ⟨0, by omega, rfl, (fun i hi => by omega : noneTo rs x 0), Below.refl _ _⟩
  case round =>
    obtain ⟨k, hk, rfl, HN, HB⟩ := hrel
    by_cases hlt : k < len
    · rcases HV.out.cells with h0 | ⟨b, off, hA, hc⟩
      · omega
      obtain ⟨a1, l1, c1, k0, k1, k2, V1⟩ := hc k hlt
      have hbl : b < w.heap.size := World.block_lt_of_cell? w ⟨b, off + k * 3, none⟩ k0
      have q0 := (HB.out.cell (p := ⟨b, off + k * 3, none⟩) hbl).trans k0
      have q1 := (HB.out.cell (p := ⟨b, off + k * 3 + 1, none⟩) hbl).trans k1
      have q2 := (HB.out.cell (p := ⟨b, off + k * 3 + 2, none⟩) hbl).trans k2
      have hl1 := V1.count
      obtain ⟨d0, d1, d2⟩ := regOk_bd _ (HO.out k hlt)
      have HS : Hid (inReg (rs.getD k noReg) x = false → noneTo rs x (k + 1)) := noneTo_snoc HN.out
      have HI : Hid (inReg (rs.getD k noReg) x = (decide ((rs.getD k noReg).base ≤ x) && decide (x < (rs.getD k noReg).base + 8 * (l1 : Int)))) := by show _ = _; unfold inReg; rw [← hl1]
      obtain ⟨bs, hbs⟩ : ∃ bs, (rs.getD k noReg).base = bs := ⟨_, rfl⟩
      obtain ⟨wt, hwt⟩ : ∃ wt, (rs.getD k noReg).write = wt := ⟨_, rfl⟩
      rw [hbs] at q0 d0 d1
      rw [hwt] at q2
      rw [hl1] at d2
      have HBS : Hid _ := hbs
      subst hA
      clear hc k0 k1 k2 V1 hbs hwt hl1
      have hsz := HB.out.size
      obtain ⟨wo, rfl⟩ : ∃ wo : World, wo = wr := ⟨_, rfl⟩
      by_cases hlo : bs ≤ x
      · go_wp2_with fail
        refine (end_any _ _ _ _ _ _ (by omega) (by omega) (by omega)).mono ?_
        rintro e y ⟨rfl, rfl⟩
        by_cases hhi : x < bs + 8 * (l1 : Int)
        · have HT : Hid (inReg (rs.getD k noReg) x = true) := by show _ = _; rw [HI.out, HBS.out, decide_eq_true hlo, decide_eq_true hhi]; rfl
          go_wp2
          go_region
          all_goals go_wp2
          all_goals go_ret3
          all_goals exact ⟨by repeat (first | exact HB.out | refine Below.drew ?_ | refine Below.alloc ?_ (by first | omega | (simp; done) | (simp; omega)) _), Or.inl ⟨k, hlt, HT.out, HN.out, by rw [HBS.out]; rfl⟩⟩
        · have HF : Hid _ := HS.out (by rw [HI.out, HBS.out, decide_eq_false hhi, Bool.and_false])
          go_wp2
          go_roundw
          case rel => exact ⟨k + 1, by omega, by go_num, HF, (by repeat (first | exact HB.out | refine Below.drew ?_ | refine Below.alloc ?_ (by first | omega | (simp; done) | (simp; omega)) _) : Below _ _ _)⟩
          case measure => simp [RowKit.intOf]; omega
      · have HF : Hid _ := HS.out (by rw [HI.out, HBS.out, decide_eq_false hlo, Bool.false_and])
        go_wp2
        go_roundw
        case rel => exact ⟨k + 1, by omega, by go_num, HF, (by repeat (first | exact HB.out | refine Below.drew ?_ | refine Below.alloc ?_ (by first | omega | (simp; done) | (simp; omega)) _) : Below _ _ _)⟩
        case measure => simp [RowKit.intOf]; omega
    · obtain rfl : len = k := by omega
      go_wp2
      go_ret3
      exact ⟨HB.out, Or.inr ⟨HN.out, rfl⟩⟩

end Go.Proofs.Ytfkpbmopneleiaa
