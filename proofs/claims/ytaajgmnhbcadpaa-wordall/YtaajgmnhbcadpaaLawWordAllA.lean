/- Proved: WordAll answers true for every list of numbers (no condition but the form's own reach): word.All puts the numbers one behind the other as the document says, the list is as it was, and the given answers of the layer stand. -/
import Derived.Test.YtaajgmnhbcadpaaRows
import Derived.WalkKit
import Derived.ProofKit
import Derived.JoinedCond
import Derived.OpenShut
import Derived.ShutString
import Derived.ChangeOld
import Derived.Below
import Derived.Deep.QuietTactic
import Derived.BigQuiet
import Derived.Test.YtaajgmnhbcadpaaWordLive
import Derived.Test.YtaajgmnhbcadpaaWordRows
namespace Go.Proofs.Ytaajgmnhbcadpaa.wordAll
open Go.ChangeShapes Go.WideShapes Go.ChangeAt Go.RowKit
open Go.ChangeMaps (open_string shut_string)
set_option linter.unusedVariables false

theorem own : ownKnob Try.prog.godebug = none := by kernel_rfl
theorem laidOut : laidOutB Try.prog = true := by kernel_rfl
theorem bytes8 : Try.prog.bytesOf 31 = 8 := by kernel_rfl

/-- What the walk is told of the list that came in. -/
def IsRow (k : IntKind) (w : World) (a : Option Addr) (len cap : Nat) (zs : List Int) : Prop :=
  (a = none ∧ len = 0 ∧ cap = 0 ∧ zs = []) ∨
  ∃ x, a = some x ∧ len ≤ cap ∧ cap ≤ maxLen ∧ zs.length = cap ∧ (∀ i, i < zs.length → w.cell? (x.add i) = some (.int k (zs.getD i 0))) ∧ ∀ n ∈ zs, (Lit.int k n).wf = true

set_option maxRecDepth 100000 in
set_option maxHeartbeats 1000000 in
theorem walk (a0 : Option Addr) (len0 cap0 : Nat) (z0 : List Int) (w : World) (w0 : IsRow .u64 w a0 len0 cap0 z0) (u0 : len0 * 8 ≤ 140737488351232) :
    Calls Try.prog 6 #[.slice a0 len0 cap0] w fun e w' => e = .returned (.bool true) ∧ Below w.heap.size w w' := by
  obtain ⟨zs, hzs⟩ : ∃ zs, View w a0 len0 cap0 zs := ⟨_, view_of w0⟩
  clear w0
  have HV : Hid _ := hzs
  clear hzs
  go_enter Try.func6, Try.ntmps6
  go_wp2_with (first | (at_builtin; refine wpList_append_view _ rfl _ _ rfl w.heap.size _ 0 [] rfl (World.ownsRow_nil _ _ _ _) _ _ _ zs rfl HV.out (by omega) (Nat.le_refl _) ?_) | go_in)
  intro v1 x1 ho hg
  have hb1 : Below w.heap.size w x1 := (Below.refl _ _).grown hg (Nat.le_refl _) (by intro k hk; cases hk)
  obtain ⟨ad, c1, hv1, hw1⟩ := view_own (n := len0) (zs := zs) HV.out.fits (by simpa using ho)
  have hw0 := HV.out.below hb1
  rw [hv1]
  have HO : Hid _ := hw1
  have H0 : Hid _ := hw0
  clear ho hg hw1 hw0 hv1
  go_wp2_with fail
  refine (all_view HO.out (by omega)).mono ?_
  rintro e x2 ⟨rfl, hb2⟩
  have hw1 := HO.out.below hb2
  have hw0 := H0.out.below hb2
  have HO2 : Hid _ := hw1
  have H02 : Hid _ := hw0
  have hb12 := hb1.trans (hb2.mono hb1.size)
  clear HO H0 hw0 hw1 HV hb2
  go_wp2
  go_loopw [5] (fun i wr => ∃ k : Nat, k ≤ len0 ∧ i = .int .i64 k ∧ Below x2.heap.size x2 wr) (fun i _ => len0 - (intOf i).toNat)
  case atStart => exact ⟨0, by omega, rfl, Below.refl _ _⟩
  case round =>
    obtain ⟨k, hk, rfl, hb⟩ := hrel
    have hw1 := HO2.out.below hb
    have hw0 := H02.out.below hb
    by_cases hlt : k < len0
    · rcases hw1.cells with h0 | ⟨b1, o1, hA1, hc1⟩
      · omega
      rcases hw0.cells with h0 | ⟨b0, o0, hA0, hc0⟩
      · omega
      have hk1 := hc1 k hlt
      have hk0 := hc0 k hlt
      have hki : (k : Int) < len0 := by omega
      have hkn : 0 ≤ (k : Int) := by omega
      generalize zs.getD k 0 = x at *
      subst hA1
      subst hA0
      clear hc1 hc0 hw1 hw0
      go_wp2
      go_quiet (fail)
      go_wp2
      go_roundw
      case rel => exact ⟨k + 1, by omega, by go_num, below_drewN hb _⟩
      case measure => simp [intOf]; omega
    · have HW : Hid _ := hw0
      have hbx := hb12.trans (hb.mono hb12.size)
      clear hw1 hw0 HO2 H02
      go_wp2_with fail
      refine (rall_view HW.out (by omega)).mono ?_
      rintro e x3 ⟨rfl, hb3⟩
      go_wp2_with fail
      refine (live_any _).mono ?_
      rintro e x4 ⟨rfl, hb4⟩
      go_wp2
      go_ret
      exact ⟨rfl, (hbx.trans (hb3.mono hbx.size)).trans (hb4.mono (Nat.le_trans hbx.size hb3.size))⟩

/-! ### The row -/
set_option maxRecDepth 100000 in
theorem lifted (os : Os) (started : os.Started) (H : Type) (enc : TypeId × Value → H) :
    ReturnsInHanded {} Try.checked os 6 .any (Rows.wordAllSpec.pre6 enc Try.prog Try.f6 Rows.wordAllRow.domain false) (Rows.wordAllSpec.post enc Try.prog Try.f6 false true false false) := by
  refine returnsInHanded_of_change_sized (C := Try.checked) own started (by kernel_rfl) Try.func6
    (ChangeSpec.witness6 (enc := enc) (C := Try.checked) false ⟨#[], #[.slice none 0 0], []⟩ 8 (by kernel_rfl) (by kernel_rfl) (by kernel_rfl) (by kernel_rfl)) ?_
  intro W base args ds gs before hval0 hW hcnd hsz0 _
  have hval : ∀ (j : Nat) t v, Try.f6.params[j]? = some t → args[j]? = some v → Value.okWide Try.prog W .any base t v := hval0
  have hsz : (DataW.weightsEach Try.prog (Try.f6.params.toList ++ Rows.wordAllSpec.plain.varTypes Try.prog) (ds ++ gs)).all (· ≤ reachBytes) = true := hsz0
  have hW' := hW
  obtain ⟨p, q, hA0, hV, rfl, hfz, hnd⟩ := hW
  have hA : DataW.TrodAll enc Try.prog W 0 (fun _ => true) true Try.f6.params.toList args.toList ds p := hA0
  rw [Try.params6] at hA hval hsz
  obtain ⟨v0, vs0, d0, ds0, p0, q0, hargs, rfl, rfl, h0, r0⟩ := trodAll_cons hA
  obtain ⟨rfl, rfl, rfl⟩ := trodAll_nil r0
  obtain rfl : args = #[v0] := by cases args; simp_all
  obtain ⟨rfl, rfl⟩ := trodVars_none hV
  obtain ⟨a0, len0, cap0, rfl⟩ := okWide_slice Try.underlying36 (hval 0 36 v0 rfl rfl)
  have k0 := h0
  have lt0 : ∀ x ∈ p0, x.block < W.heap.size := by obtain ⟨m, hm⟩ := k0; exact DataW.trod_lt m _ _ _ hm
  have hw0 : ∀ n ∈ d0.weights Try.prog 36, n ≤ 140737488351232 := fun n hn => by
    have h2 := List.all_eq_true.1 hsz n (DataW.weights_mem_each (j := 0) rfl rfl n hn)
    have h4 : reachBytes = 140737488351232 := rfl
    have h5 : n ≤ reachBytes := by simpa using h2
    omega
  obtain ⟨z0, w0, u0⟩ : ∃ zs, IsRow .u64 W a0 len0 cap0 zs ∧ len0 * 8 ≤ 140737488351232 := by
    obtain ⟨fuel, hf⟩ := h0
    rcases open_ints Try.underlying36 Try.underlying31 (by kernel_rfl) hf with ⟨hcs, _⟩ | ⟨x, l, c, zs, hcs, _, hl, hm, hz, hx, hcell, hwz⟩
    · simp [Value.cells] at hcs
      obtain ⟨rfl, rfl, rfl⟩ := hcs
      exact ⟨[], .inl ⟨rfl, rfl, rfl, rfl⟩, by omega⟩
    · simp [Value.cells] at hcs
      obtain ⟨rfl, rfl, rfl⟩ := hcs
      have hz' : zs.length = cap0 := by simpa using hz
      have hd : d0 = .slice (ChangeShapes.lits _ (zs.take len0)) (ChangeShapes.lits _ (zs.drop len0)) := congrArg Prod.fst hx
      subst hd
      have h6 := hw0 (((ChangeShapes.lits (H := H) .u64 (zs.take len0)).length + (ChangeShapes.lits (H := H) .u64 (zs.drop len0)).length) * Try.prog.bytesOf 31) (by simp [DataW.weights, Try.underlying36])
      rw [bytes8] at h6
      simp only [ChangeShapes.lits, List.length_map, List.length_take, List.length_drop] at h6
      exact ⟨zs, .inr ⟨_, rfl, hl, hm, hz', hcell, hwz⟩, by omega⟩
  clear hA0 hval0
  refine (walk a0 len0 cap0 z0 W w0 u0).mono fun e W' ⟨he, bel⟩ => ?_
  subst he
  exact ⟨_, rfl, _, _, _, [], _, [], hW', trodAll_mk1 (shut_bool Try.underlying4 _), (trodAll_cons_mk (Below.trod laidOut (by kernel_rfl) (of_decide_eq_true (by kernel_rfl)) k0 bel lt0) trodAll_mk0), rfl, bel.frame _, fun h => by cases h⟩

theorem over : Rows.wordAllRow.holds Try.pinned (OpenSpec.ofChange Rows.wordAllSpec) :=
  OpenClaim.holds_of_wide 6 Try.f6 rfl rfl rfl rfl rfl rfl rfl ⟨rfl, rfl, rfl, rfl, rfl⟩ rfl rfl rfl rfl rfl (by kernel_rfl) Try.func6 (by kernel_rfl)
    (of_decide_eq_true (by kernel_rfl)) (by unfold Func.isWrapper; first | (rw [if_pos (by decide +kernel)]; kernel_rfl) | (rw [if_neg (by decide +kernel)]; exact ⟨rfl, rfl⟩))
    (fun os started H enc _ => lifted os started H enc)

end Go.Proofs.Ytaajgmnhbcadpaa.wordAll
namespace Go.Proofs.Ytaajgmnhbcadpaa
/-- The statement. -/
theorem wordAll_holds : Rows.WordAllSaid := wordAll.over
#print axioms wordAll_holds
end Go.Proofs.Ytaajgmnhbcadpaa
