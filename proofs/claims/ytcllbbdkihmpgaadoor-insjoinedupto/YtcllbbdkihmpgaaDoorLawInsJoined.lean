/- Proved: InsJoined answers true for every two strings of bytes (its second form: at most 1048576 values and letters; the two tables of package ins hold what the program text lays in them, which the card ties): the forms of two lists of instructions, one behind the other, are the forms of both. -/
import Derived.Test.YtcllbbdkihmpgaaDoorInsOpen
import Derived.Test.YtcllbbdkihmpgaaDoorInsLive
import Derived.Test.YtcllbbdkihmpgaaDoorInsEq
import Derived.Test.YtcllbbdkihmpgaaDoorInsSame
import Derived.Test.YtcllbbdkihmpgaaDoorBulk
import Derived.Deep.RegionHeld3
import Derived.Deep.DrawnRows
namespace Go.Proofs.YtcllbbdkihmpgaaDoor.insJoined
open Go.ChangeShapes Go.WideShapes Go.ChangeAt Go.RowKit
open Go.ChangeMaps (open_string shut_string)
set_option linter.unusedVariables false
attribute [local go_sem ↓] Go.wp_at_zero Go.wp_at_succ
attribute [local go_sem high] eqIns

theorem own : ownKnob Tryd.prog.godebug = none := by kernel_rfl
theorem laidO : laidOutB Tryd.prog = true := by kernel_rfl

theorem allPost_ret {s : ByteArray} {B : Nat} {e : Ending} {w : World} (h : I.allPost s B e w) : ∃ v n, e = .returned (.tuple #[v, .int .i64 n]) := by
  unfold I.allPost at h
  split at h
  · obtain ⟨v, rfl, -⟩ := h; exact ⟨_, _, rfl⟩
  · exact ⟨_, _, h⟩

set_option maxRecDepth 100000 in
set_option maxHeartbeats 16000000 in
theorem walk (s : ByteArray) (ws : s.size ≤ maxLen) (us : s.size ≤ 1048576) (t : ByteArray) (wt : t.size ≤ maxLen) (ut : t.size ≤ 1048576) (w : World) (ht : Tab w) :
    Calls Tryd.prog 6 #[.string s, .string t] w fun e w' => e = .returned (.bool true) ∧ Below w.heap.size w w' := by
  have hadd : s.size + t.size ≤ 9223372036854775807 := by omega
  have HM : Hid ((s ++ t).size ≤ 4398046511104) := by show _ ≤ _; simp; omega
  have HP1 : Hid (∀ w, Tab w → Calls Tryd.prog 16 #[.string s] w fun e w' => I.allPost s w.heap.size e w' ∧ Below w.heap.size w w') := fun w ht => all_any s (by omega) w ht
  have HP2 : Hid (∀ w, Tab w → Calls Tryd.prog 16 #[.string t] w fun e w' => I.allPost t w.heap.size e w' ∧ Below w.heap.size w w') := fun w ht => all_any t (by omega) w ht
  unfold I.allPost at HP1 HP2
  cases hs : I.allI s with
  | none =>
    rw [hs] at HP1
    clear hs
    go_enter Tryd.func6, Tryd.ntmps6
    go_wp2_with fail
    refine (HP1.out _ ht).mono ?_
    rintro e w1 ⟨hpost, hb1⟩
    subst hpost
    have t1 := ht.below hb1
    go_wp2_with fail
    refine (all_any t (by omega) _ t1).mono ?_
    rintro e w2 ⟨hpost, hb2⟩
    have t2 := t1.below hb2
    have q2 : Below w.heap.size w w2 := hb1.trans (hb2.mono hb1.size)
    obtain ⟨v, ee, rfl⟩ := allPost_ret hpost
    clear hb1 hb2
    go_wp2_with (go_at_call 13; refine (live_any _ t2).mono ?_; rintro e w9 ⟨rfl, hb9⟩)
    go_ret
    exact ⟨rfl, q2.trans (hb9.mono q2.size)⟩
  | some l1 =>
    rw [hs] at HP1
    cases ht2 : I.allI t with
    | none =>
      rw [ht2] at HP2
      clear hs ht2
      go_enter Tryd.func6, Tryd.ntmps6
      go_wp2_with fail
      refine (HP1.out _ ht).mono ?_
      rintro e w1 ⟨⟨v1, rfl, ho1⟩, hb1⟩
      have t1 := ht.below hb1
      go_wp2_with fail
      refine (HP2.out _ t1).mono ?_
      rintro e w2 ⟨hpost, hb2⟩
      subst hpost
      have t2 := t1.below hb2
      have q2 : Below w.heap.size w w2 := hb1.trans (hb2.mono hb1.size)
      clear hb1 hb2
      go_wp2_with (go_at_call 13; refine (live_any _ t2).mono ?_; rintro e w9 ⟨rfl, hb9⟩)
      go_ret
      exact ⟨rfl, q2.trans (hb9.mono q2.size)⟩
    | some l2 =>
      rw [ht2] at HP2
      have hst := I.allI_app hs ht2
      have n1 := I.all_len hs
      have n2 := I.all_len ht2
      have HP3 : Hid (∀ w, Tab w → Calls Tryd.prog 16 #[.string (s ++ t)] w fun e w' => I.allPost (s ++ t) w.heap.size e w' ∧ Below w.heap.size w w') := fun w ht => all_any (s ++ t) HM.out w ht
      unfold I.allPost at HP3
      rw [hst] at HP3
      clear hs ht2 hst HM
      go_enter Tryd.func6, Tryd.ntmps6
      go_wp2_with fail
      refine (HP1.out _ ht).mono ?_
      rintro e w1 ⟨⟨v1, rfl, ho1⟩, hb1⟩
      have t1 := ht.below hb1
      have i1 := IView.of_own ho1
      clear ho1
      go_wp2_with fail
      refine (HP2.out _ t1).mono ?_
      rintro e w2 ⟨⟨v2, rfl, ho2⟩, hb2⟩
      have t2 := t1.below hb2
      have q2 : Below w.heap.size w w2 := hb1.trans (hb2.mono hb1.size)
      have i1 := i1.below hb2
      have i2 := IView.of_own ho2
      clear hb1 hb2 ho2
      go_wp2_with fail
      refine (HP3.out _ t2).mono ?_
      rintro e w3 ⟨⟨v3, rfl, ho3⟩, hb3⟩
      have t3 := t2.below hb3
      have q3 : Below w.heap.size w w3 := q2.trans (hb3.mono q2.size)
      have i1 := i1.below hb3
      have i2 := i2.below hb3
      have i3 := IView.of_own ho3
      clear hb3 ho3 q2 t2
      have I1 : Hid (IView w3 v1 l1) := i1
      have I2 : Hid (IView w3 v2 l2) := i2
      have I3 : Hid (IView w3 v3 (l1 ++ l2)) := i3
      clear i1 i2 i3
      go_wp2_with (first | (at_builtin; refine wpList_append_iview _ rfl _ _ rfl w3.heap.size (.slice none 0 0) [] rfl (World.ownsRow_nil _ _ _ _) _ l1 rfl I1.out (by simp; omega) (Nat.le_refl _) ?_) | go_in)
      intro v4 w4 ho4 hg4
      have b4 : Below w3.heap.size w3 w4 := below_own (Below.refl _ _) (World.ownsRow_nil _ _ 23 4) hg4 (Nat.le_refl _)
      have HO4 : Hid (w4.ownsRow w3.heap.size 23 4 v4 l1.length (I.rows l1)) := ho4
      have J2 : Hid (IView w4 v2 l2) := I2.out.below b4
      have t4 := t3.below b4
      have z4 := b4.size
      clear ho4 hg4 I1 I2
      go_wp2_with (first | (at_builtin; refine wpList_append_iview _ rfl _ _ rfl w3.heap.size _ l1 rfl HO4.out _ l2 rfl J2.out (by omega) z4 ?_) | go_in)
      intro v5 w5 ho5 hg5
      have b5 : Below w3.heap.size w3 w5 := below_own b4 HO4.out hg5 z4
      have K5 : Hid (IView w5 v5 (l1 ++ l2)) := IView.of_own (by simpa using ho5)
      have K3 : Hid (IView w5 v3 (l1 ++ l2)) := I3.out.below b5
      have t5 := t3.below b5
      have q5 : Below w.heap.size w w5 := q3.trans (b5.mono q3.size)
      have hm5 : (l1 ++ l2).length ≤ 9223372036854775000 := by simp; omega
      clear ho5 hg5 HO4 J2 I3 b4 b5 t3 t4 z4
      go_wp2_with (first | (go_at_call 18; refine (same_views K3.out K5.out hm5).mono ?_; rintro e w6 ⟨rfl, hb6⟩; have t6 := t5.below hb6) | (go_at_call 13; refine (live_any _ t6).mono ?_; rintro e w7 ⟨rfl, hb7⟩))
      go_ret
      exact ⟨rfl, (q5.trans (hb6.mono q5.size)).trans (hb7.mono (Nat.le_trans q5.size hb6.size))⟩

/-! ### The row -/
theorem contract (H : Type) (enc : TypeId × Value → H) (W : World) (base : Nat) (args : Array Value) (ds gs : List (DataW H)) (before : List MemPlace)
    (hval : ∀ (j : Nat) t v, Tryd.f6.params[j]? = some t → args[j]? = some v → Value.okWide Tryd.prog W .any base t v)
    (hW : DataW.Whole enc Tryd.prog Tryd.f6.params.toList Rows.insJoinedSpec.vars false W args.toList ds gs before) (hk : Rows.uptoSmall H (ds ++ gs) = true) (hT : Tab W) :
    Calls Tryd.prog 6 args W fun e W' => ∃ v, e = .returned v ∧ Rows.insJoinedSpec.post enc Tryd.prog Tryd.f6 false true false false W args v W' := by
  have hW' := hW
  obtain ⟨p, q, hA0, hV, rfl, hfz, hnd⟩ := hW
  have hA : DataW.TrodAll enc Tryd.prog W 0 (fun _ => true) true Tryd.f6.params.toList args.toList ds p := hA0
  have hlt := hA.lt
  rw [Tryd.params6] at hA hval
  obtain ⟨v0, vs0, d0, ds0, p0, q0, hargs, rfl, rfl, h0, r0⟩ := trodAll_cons hA
  obtain ⟨v1, vs1, d1, ds1, p1, q1, rfl, rfl, rfl, h1, r1⟩ := trodAll_cons r0
  obtain ⟨rfl, rfl, rfl⟩ := trodAll_nil r1
  obtain rfl : args = #[v0, v1] := by cases args; simp_all
  obtain ⟨rfl, rfl⟩ := trodVars_none hV
  rw [List.append_nil] at hk
  have hk1 := bulks.bound hk
  simp only [Rows.uptoBulkAll] at hk1
  obtain ⟨s0, rfl, rfl, rfl, ws0⟩ := open_string Tryd.underlying9 (hval 0 9 v0 rfl rfl) h0
  have us0 : s0.size ≤ 1048576 := by simp only [Rows.uptoBulk] at hk1; simp at hk1; omega
  obtain ⟨s1, rfl, rfl, rfl, ws1⟩ := open_string Tryd.underlying9 (hval 1 9 v1 rfl rfl) h1
  have us1 : s1.size ≤ 1048576 := by simp only [Rows.uptoBulk] at hk1; simp at hk1; omega
  clear hA0
  simp only [List.append_nil] at hW'
  refine (walk s0 ws0 us0 s1 ws1 us1 W hT).mono fun e W' ⟨he, hg⟩ => ?_
  subst he
  exact ⟨_, rfl, _, _, _, [], _, [], hW', (trodAll_cons_mk (shut_bool Tryd.underlying4 _) trodAll_mk0), (trodAll_cons_mk (shut_string Tryd.underlying9 ws0) (trodAll_cons_mk (shut_string Tryd.underlying9 ws1) trodAll_mk0)), rfl, hg.frame _, fun h => by cases h⟩

theorem laid_met (os : Os) : laidMet Tryd.prog Rows.insJoinedUptoRow.laid ((laidWorld os).forCall (fun _ _ => 0) ⟨#[], #[.string ByteArray.empty, .string ByteArray.empty], []⟩).memory :=
  laidMet_of_run' 8 (by kernel_rfl) (by kernel_rfl)
theorem reads (os : Os) {H : Type} (enc : TypeId × Value → H) : ∃ places, DataW.whole enc Tryd.prog ((laidWorld os).forCall (fun _ _ => 0) ⟨#[], #[.string ByteArray.empty, .string ByteArray.empty], []⟩).memory Tryd.f6.params.toList Rows.insJoinedSpec.vars false (#[.string ByteArray.empty, .string ByteArray.empty] : Array Value).toList 8 = some ([.lit (.string []), .lit (.string [])], [], places) :=
  ⟨[], by kernel_rfl⟩

set_option maxRecDepth 100000 in
theorem lifted (os : Os) (started : os.Started) (H : Type) (enc : TypeId × Value → H) (F : Stop.Interp) :
    ReturnsInHanded {} Tryd.checked os 6 .any ((Rows.OpenSpec.upto Rows.insJoinedSpec).preRow enc Tryd.prog Tryd.f6 Rows.insJoinedUptoRow.domain false Rows.insJoinedUptoRow.laid) (((Rows.OpenSpec.upto Rows.insJoinedSpec).at F).post enc Tryd.prog Tryd.f6 false true false false) := by
  obtain ⟨places, hx⟩ := reads os enc
  refine returnsInHanded_of_row (C := Tryd.checked) (s := Rows.OpenSpec.upto Rows.insJoinedSpec) own started (by kernel_rfl) Tryd.func6
    (witness_row_at (enc := enc) (C := Tryd.checked) false (laidWorld os) #[.string ByteArray.empty, .string ByteArray.empty] rfl (by kernel_rfl) (by kernel_rfl) (by kernel_rfl)
      (OpenSpec.preRow_of_cond 8 hx (by kernel_rfl) (fun k hk => by cases hk; kernel_rfl) (by kernel_rfl) (laid_met os))) ?_
  intro W base args ds gs before hval hW _ hcond _ hL _ _
  exact contract H enc W base args ds gs before hval hW (hcond _ rfl) (tab_of_laid hL)

theorem said : Rows.InsJoinedUptoSaid :=
  OpenClaim.holds_of_cond 6 Tryd.f6 rfl rfl rfl rfl rfl rfl rfl ⟨rfl, rfl, rfl, rfl, rfl⟩ rfl rfl rfl rfl rfl (by kernel_rfl) Tryd.func6 (by kernel_rfl)
    (of_decide_eq_true (by kernel_rfl)) (by unfold Func.isWrapper; first | (rw [if_pos (by decide +kernel)]; kernel_rfl) | (rw [if_neg (by decide +kernel)]; exact ⟨rfl, rfl⟩))
    (fun os started H enc _ F => by rw [OpenClaim.pre_eq_preRow]; exact lifted os started H enc F)

/-- No parameter wants a stand-in; the program's own looks are off: what the card asks. -/
theorem plain (f : FuncId) (fn : Func) (hf : Tryd.pinned.checked.prog.funcNamed "cotter/cotterlaw03.InsJoined" = some f) (hfn : Tryd.pinned.checked.prog.funcs[f]? = some fn) :
    false = Tryd.pinned.checked.prog.looks [] ∧ ∀ (j : Nat) t, fn.params[j]? = some t → Tryd.pinned.checked.prog.wantsStandIn t = false := by
  obtain rfl : f = 6 := Option.some.inj ((show Tryd.prog.funcNamed "cotter/cotterlaw03.InsJoined" = some 6 by kernel_rfl).symm.trans hf) |>.symm
  obtain rfl : fn = Tryd.f6 := (Option.some.inj (Tryd.func6.symm.trans hfn)).symm
  refine ⟨by kernel_rfl, fun j t ht => ?_⟩
  rw [Tryd.params6] at ht
  have hm : t ∈ [9, 9] := by simpa using Array.mem_of_getElem? ht
  have hall : ([9, 9].all fun u => !Tryd.prog.wantsStandIn u) = true := by kernel_rfl
  exact (show Tryd.prog.wantsStandIn t = false by simpa using List.all_eq_true.1 hall t hm)

theorem card : Rows.InsJoinedUptoCardSaid :=
  Claim7.holds_tied_plain_at .later [] _ _ _ _ said (fun _ h => by cases h) (by kernel_rfl) (fun _ h => by cases h) insJoinedUpto_row_tie rfl ⟨rfl, rfl⟩ (by kernel_rfl) rfl plain (by kernel_rfl)
end Go.Proofs.YtcllbbdkihmpgaaDoor.insJoined
namespace Go.Proofs.YtcllbbdkihmpgaaDoor
/-- The statement. -/
theorem insJoinedUpto_holds : Rows.InsJoinedUptoCardSaid := insJoined.card
#print axioms insJoinedUpto_holds
end Go.Proofs.YtcllbbdkihmpgaaDoor
