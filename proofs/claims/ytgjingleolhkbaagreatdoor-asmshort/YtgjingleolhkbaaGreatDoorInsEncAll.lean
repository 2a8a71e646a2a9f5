/- ins.Encode and ins.Size, whatever the instruction. -/
import Derived.Test.YtgjingleolhkbaaGreatDoorInsEncodeB
import Derived.Test.YtgjingleolhkbaaGreatDoorInsPsize
namespace Go.Proofs.YtgjingleolhkbaaGreatDoor.J
open Go.RowKit
set_option linter.unusedVariables false

/-- Is there a form, and does it bear all that the instruction says? -/
def I.fits (op a b n : Int) : Bool := decide (1 ≤ op ∧ op ≤ 33) && I.bears (I.regs op) (I.num op) a b n
def I.encE (op a b n : Int) : Int := if I.fits op a b n = true then (if I.numOk (I.num op) (I.nat op) n = true then 0 else 7) else 1
def I.encV (op a b n : Int) : List Int := if I.fits op a b n = true then (if I.numOk (I.num op) (I.nat op) n = true then [op] ++ I.regB (I.regs op) a b ++ I.numW (I.num op) n else []) else []

theorem I.bears_regs {r m a b n : Int} (h : I.bears r m a b n = true) : (0 ≤ a ∧ a < 8) ∧ 0 ≤ b ∧ b < 8 := by
  unfold I.bears at h
  have h2 := Bool.and_eq_true_iff.1 (Bool.and_eq_true_iff.1 h).2
  exact ⟨of_decide_eq_true h2.1, of_decide_eq_true h2.2⟩

theorem encode_any (op a b n : Int) (w : World) (ht : Tab w) :
    Calls Tryz.prog 76 #[insV op a b n] w fun e w' => e = .returned (.tuple #[.string (strOfNums (I.encV op a b n)), .int .i64 (I.encE op a b n)]) ∧ Below w.heap.size w w' := by
  unfold I.encV I.encE
  by_cases h : 1 ≤ op ∧ op ≤ 33
  · cases hb : I.bears (I.regs op) (I.num op) a b n with
    | false =>
      have hf : I.fits op a b n = false := by unfold I.fits; rw [hb]; simp
      rw [if_neg (by rw [hf]; decide), if_neg (by rw [hf]; decide)]
      exact enc_bad op a b n h hb w ht
    | true =>
      have hf : I.fits op a b n = true := by unfold I.fits; rw [hb, decide_eq_true h]; rfl
      rw [if_pos hf, if_pos hf]
      have hr := I.bears_regs hb
      exact enc_ok op a b n h hr.1.1 hr.1.2 hr.2.1 hr.2.2 hb w ht
  · have hf : I.fits op a b n = false := by unfold I.fits; rw [decide_eq_false h]; rfl
    rw [if_neg (by rw [hf]; decide), if_neg (by rw [hf]; decide)]
    exact enc_none op a b n (by omega) w ht

set_option maxRecDepth 100000 in
set_option maxHeartbeats 8000000 in
theorem size_any (op : Int) (w : World) (ht : Tab w) :
    Calls Tryz.prog 71 #[.int .i64 op] w fun e w' => e = .returned (.int .i64 (I.size op)) ∧ Below w.heap.size w w' := by
  by_cases h : 1 ≤ op ∧ op ≤ 33
  · rw [← I.psize_size op h]
    obtain ⟨v, hv⟩ : ∃ v, I.psize op = v := ⟨_, rfl⟩
    have HV : Hid (I.psize op = v) := hv
    rw [hv]
    clear hv
    go_enter Tryz.func71, Tryz.ntmps71
    go_wp2_with (first | (go_at_call 93; refine (formOf_yes _ h _ ht).mono ?_; rintro e w' ⟨rfl, rfl⟩) | (go_at_call 94; refine (fsize_any _ _ _ (I.regs_range _) (I.num_range _) _).mono ?_; rintro e w' ⟨rfl, rfl⟩))
    all_goals
      go_ret
      refine ⟨congrArg (fun x => Ending.returned (.int .i64 x)) ?_, bl3 _ _ _ _⟩
      rw [← HV.out]
      unfold I.psize
      first | rw [if_pos ‹I.regs op = 0›] | rw [if_neg ‹¬ I.regs op = 0›]
  · rw [I.size_none (by omega)]
    go_enter Tryz.func71, Tryz.ntmps71
    go_wp2_with (go_at_call 93; refine (formOf_no _ ?_ _ ht).mono ?_; omega; rintro e w' ⟨rfl, rfl⟩)
    go_ret
    exact ⟨rfl, bl2 _ _ _⟩

end Go.Proofs.YtgjingleolhkbaaGreatDoor.J
