/- Proved: WordJoined answers true (where both lists together have at most 1048576 places, spare ones counted): two texts of word.All put together are word.All of both lists, and word.Take reads them one by one to the end; and the given answers of the layer stand. -/
import Derived.Test.YtnjohennfajepaaRows
import Derived.WalkKit
import Derived.ProofKit
import Derived.JoinedCond
import Derived.Test.YtnjohennfajepaaBulk
import Derived.OpenShut
import Derived.ShutString
import Derived.ChangeOld
import Derived.Below
import Derived.Test.YtnjohennfajepaaWordLive
import Derived.Test.YtnjohennfajepaaWordRows
import Derived.Test.YtnjohennfajepaaWordJoinMath
namespace Go.Proofs.Ytnjohennfajepaa.wordJoined
open Go.ChangeShapes Go.WideShapes Go.ChangeAt Go.RowKit
open Go.ChangeMaps (open_string shut_string)
set_option linter.unusedVariables false

theorem own : ownKnob Try.prog.godebug = none := by kernel_rfl
theorem laidOut : laidOutB Try.prog = true := by kernel_rfl

/-- WHAT THE WALK IS TOLD OF A SLICE OF INTEGERS THAT CAME IN: it is nil; or it leads to a row of 'cap' cells, the numbers 'zs' (the first 'len' are its elements, the rest its spare room), each fitting its kind. -/
def IsRow (k : IntKind) (w : World) (a : Option Addr) (len cap : Nat) (zs : List Int) : Prop :=
  (a = none ∧ len = 0 ∧ cap = 0 ∧ zs = []) ∨
  ∃ x, a = some x ∧ len ≤ cap ∧ cap ≤ maxLen ∧ zs.length = cap ∧ (∀ i, i < zs.length → w.cell? (x.add i) = some (.int k (zs.getD i 0))) ∧ ∀ n ∈ zs, (Lit.int k n).wf = true

/-! ### THE WALK: the Go text returns true, AND WRITES NOTHING THAT WAS THERE: 'Below w.heap.size w w'' (Derived/Below.lean: '.refl', '.alloc', '.drew', '.setCell' at a new block, '.trans'). Open each 'IsRow' by 'rcases' AHEAD of 'go_enter'; part every test ahead of the walk. -/
set_option maxRecDepth 100000 in
set_option maxHeartbeats 2000000 in
theorem walk (a0 : Option Addr) (len0 cap0 : Nat) (z0 : List Int) (a1 : Option Addr) (len1 cap1 : Nat) (z1 : List Int) (w : World) (w0 : IsRow .u64 w a0 len0 cap0 z0) (w1 : IsRow .u64 w a1 len1 cap1 z1) (u0 : len0 ≤ 1048576) (u1 : len1 ≤ 1048576) :
    Calls Try.prog 8 #[.slice a0 len0 cap0, .slice a1 len1 cap1] w fun e w' => e = .returned (.bool true) ∧ Below w.heap.size w w' := by
  obtain ⟨za, hza⟩ : ∃ zs, View w a0 len0 cap0 zs := ⟨_, view_of w0⟩
  obtain ⟨zb, hzb⟩ : ∃ zs, View w a1 len1 cap1 zs := ⟨_, view_of w1⟩
  clear w0 w1
  obtain ⟨zs, hzs⟩ : ∃ zs, zs = za ++ zb := ⟨_, rfl⟩
  have hfit : ∀ n ∈ zs, 0 ≤ n ∧ n ≤ 18446744073709551615 := by
    intro n hn
    rw [hzs] at hn
    rcases List.mem_append.1 hn with h | h
    · exact hza.fits n h
    · exact hzb.fits n h
  have hcount : zs.length = len0 + len1 := by rw [hzs, List.length_append, hza.count, hzb.count]
  have hpl := W.putAll_length zs
  obtain ⟨sv, hsv⟩ : ∃ sv, sv = strOfNums (W.putAll zs) := ⟨_, rfl⟩
  obtain ⟨sa, hsa⟩ : ∃ sa, sa = strOfNums (W.putAll za) := ⟨_, rfl⟩
  obtain ⟨sb, hsb⟩ : ∃ sb, sb = strOfNums (W.putAll zb) := ⟨_, rfl⟩
  have hsize : sv.size = (W.putAll zs).length := by rw [hsv, strOfNums_size]
  have hcat : ∀ x : World, (Op.stringOp .add sa sb).run Try.prog x = .ok (.string sv) x := by
    intro x
    have e : sa ++ sb = sv := by rw [hsa, hsb, hsv, W.strOfNums_append, hzs, W.putAll_append]
    have hla : sa.size = (W.putAll za).length := by rw [hsa, strOfNums_size]
    have hlb : sb.size = (W.putAll zb).length := by rw [hsb, strOfNums_size]
    have h1 := W.putAll_length za
    have h2 := W.putAll_length zb
    have h3 := hza.count
    have h4 := hzb.count
    rw [← e]
    exact run_string_add_sum (P := Try.prog) (w := x) sa sb (by omega)
  have HA : Hid _ := hza
  have HB : Hid _ := hzb
  have HF : Hid _ := hfit
  have HC : Hid _ := hcount
  have HSV : Hid _ := hsv
  have HSA : Hid _ := hsa
  have HSB : Hid _ := hsb
  have HZ : Hid _ := hzs
  have HSZ : Hid _ := hsize
  have HPL : Hid _ := hpl
  clear hza hzb hfit hcount hsv hsa hsb hzs hsize hpl
  go_enter Try.func8, Try.ntmps8
  go_wp2_with (first | (at_builtin; refine wpList_append_view _ rfl _ _ rfl w.heap.size _ 0 [] rfl (World.ownsRow_nil _ _ _ _) _ _ _ za rfl HA.out (by omega) (Nat.le_refl _) ?_) | go_in)
  intro v1 x1 ho hg
  have hb1 : Below w.heap.size w x1 := (Below.refl _ _).grown hg (Nat.le_refl _) (by intro k hk; cases hk)
  have ho1 : x1.ownsRow w.heap.size 31 1 v1 len0 (za.map (Value.int .u64)) := by simpa using ho
  have HB1 : Hid _ := HB.out.below hb1
  have hz1 := hb1.size
  clear ho hg
  go_wp2_with (first | (at_builtin; refine wpList_append_view _ rfl _ _ rfl w.heap.size _ len0 za rfl ho1 _ _ _ zb rfl HB1.out (by omega) hz1 ?_) | go_in)
  intro v2 x2 ho2 hg2
  have hb2 : Below w.heap.size w x2 := below_own hb1 ho1 hg2 hz1
  have hcnt : len0 + len1 = zs.length := HC.out.symm
  have ho3 : x2.ownsRow w.heap.size 31 1 v2 zs.length (zs.map (Value.int .u64)) := by rw [HC.out, HZ.out, List.map_append]; exact ho2
  obtain ⟨ad, c2, hv2, hw2⟩ := view_own (n := zs.length) (zs := zs) HF.out ho3
  have HA2 : Hid _ := HA.out.below hb2
  have HB2 : Hid _ := HB.out.below hb2
  have HO2 : Hid _ := hw2
  rw [hv2]
  have hn : zs.length ≤ 2097152 := by omega
  clear ho1 ho2 ho3 hg2 hw2 hv2 HA HB HB1
  go_wp2_with fail
  refine (all_view HA2.out (by omega)).mono ?_
  rintro e x3 ⟨rfl, hb3⟩
  rw [← HSA.out]
  have HB3 : Hid _ := HB2.out.below hb3
  have HO3 : Hid _ := HO2.out.below hb3
  clear HA2 HB2 HO2
  go_wp2_with fail
  refine (all_view HB3.out (by omega)).mono ?_
  rintro e x4 ⟨rfl, hb4⟩
  rw [← HSB.out]
  have HO4 : Hid _ := HO3.out.below hb4
  clear HB3 HO3
  go_wp2_with fail
  refine (all_view HO4.out (by omega)).mono ?_
  rintro e x5 ⟨rfl, hb5⟩
  rw [← HSV.out]
  have HO5 : Hid _ := HO4.out.below hb5
  have hb : Below w.heap.size w x5 := ((hb2.trans (hb3.mono hb2.size)).trans (hb4.mono (Nat.le_trans hb2.size hb3.size))).trans (hb5.mono (Nat.le_trans hb2.size (Nat.le_trans hb3.size hb4.size)))
  clear HO4 hb1 hb2 hb3 hb4 hb5 hz1 hcat
  go_wp2
  go_loopw [7, 8] (fun t i wr => ∃ k : Nat, k ≤ zs.length ∧ i = .int .i64 k ∧ t = .int .i64 ((W.putAll (zs.take k)).length : Nat) ∧ Below x5.heap.size x5 wr) (fun _ i _ => zs.length - (intOf i).toNat)
  case atStart => exact ⟨0, by omega, rfl, rfl, Below.refl _ _⟩
  case round =>
    obtain ⟨k, hk, rfl, rfl, hbr⟩ := hrel
    have hw := HO5.out.below hbr
    by_cases hlt : k < zs.length
    · rcases hw.cells with h0 | ⟨b1, o1, hA1, hc1⟩
      · omega
      have hk1 := hc1 k hlt
      have hki : (k : Int) < zs.length := by omega
      have hkn : 0 ≤ (k : Int) := by omega
      have hT := W.take_all zs k hlt HF.out
      rw [← HSV.out] at hT
      have hmx : sv.size ≤ maxLen := by unfold maxLen; have := HSZ.out; have := HPL.out; omega
      subst hA1
      generalize zs.getD k 0 = x at *
      obtain ⟨L0, hL0⟩ : ∃ L0, L0 = (W.putAll (zs.take k)).length := ⟨_, rfl⟩
      obtain ⟨L1, hL1⟩ : ∃ L1, L1 = (W.putAll (zs.take (k + 1))).length := ⟨_, rfl⟩
      rw [← hL0, ← hL1] at hT
      rw [← hL0]
      have HT : Hid _ := hT
      have HL1 : Hid _ := hL1
      have hll : (L0 : Int) < L1 := by have := hT.2; omega
      clear hT hL0 hL1 hc1 hw
      go_wp2_with fail
      refine (take_any sv L0 hmx _).mono ?_
      rintro e x6 ⟨rfl, hb6⟩
      rw [HT.out.1]
      have hk6 : x6.cell? ⟨b1, o1 + k, none⟩ = some (.int .u64 x) := (hb6.cell (p := ⟨b1, o1 + k, none⟩) (World.block_lt_of_cell? wr ⟨b1, o1 + k, none⟩ hk1)).trans hk1
      have hbn := hbr.trans (hb6.mono hbr.size)
      clear hk1 hbr hb6
      go_wp2
      go_roundw
      case rel => exact ⟨k + 1, by omega, by go_num, by rw [HL1.out], hbn⟩
      case measure => simp [intOf]; omega
    · have hL : (W.putAll (zs.take k)).length = sv.size := by rw [HSZ.out, List.take_of_length_le (by omega)]
      rw [hL]
      clear hw hL
      go_wp2_with fail
      refine (live_any _).mono ?_
      rintro e x6 ⟨rfl, hb6⟩
      go_wp2
      go_ret
      have hbn := hb.trans (hbr.mono hb.size)
      exact ⟨rfl, hbn.trans (hb6.mono hbn.size)⟩

/-! ### THE ROW's STEP: WRITTEN OUT: LEAVE IT -/
set_option maxRecDepth 100000 in
theorem lifted (os : Os) (started : os.Started) (H : Type) (enc : TypeId × Value → H) (F : Stop.Interp) :
    ReturnsInHanded {} Try.checked os 8 .any ((Rows.OpenSpec.upto Rows.wordJoinedSpec).pre6 enc Try.prog Try.f8 Rows.wordJoinedUptoRow.domain false) (((Rows.OpenSpec.upto Rows.wordJoinedSpec).at F).post enc Try.prog Try.f8 false true false false) := by
  refine returnsInHanded_of_cond (C := Try.checked) (s := Rows.OpenSpec.upto Rows.wordJoinedSpec) (k := Rows.uptoSmall) rfl own started (by kernel_rfl) Try.func8
    (OpenSpec.witness (enc := enc) (C := Try.checked) (s := Rows.OpenSpec.upto Rows.wordJoinedSpec) (k := Rows.uptoSmall) rfl false ⟨#[], #[.slice none 0 0, .slice none 0 0], []⟩ 8 (by kernel_rfl) (by kernel_rfl) (by kernel_rfl)
      (x := ([.nil, .nil], [], [])) (by kernel_rfl) rfl (by kernel_rfl)) ?_
  intro W base args ds gs before hval0 hW hcnd hk _
  have hval : ∀ (j : Nat) t v, Try.f8.params[j]? = some t → args[j]? = some v → Value.okWide Try.prog W .any base t v := hval0
  have hW' := hW
  obtain ⟨p, q, hA0, hV, rfl, hfz, hnd⟩ := hW
  have hA : DataW.TrodAll enc Try.prog W 0 (fun _ => true) true Try.f8.params.toList args.toList ds p := hA0
  rw [Try.params8] at hA hval
  obtain ⟨v0, vs0, d0, ds0, p0, q0, hargs, rfl, rfl, h0, r0⟩ := trodAll_cons hA
  obtain ⟨v1, vs1, d1, ds1, p1, q1, rfl, rfl, rfl, h1, r1⟩ := trodAll_cons r0
  obtain ⟨rfl, rfl, rfl⟩ := trodAll_nil r1
  obtain rfl : args = #[v0, v1] := by cases args; simp_all
  obtain ⟨rfl, rfl⟩ := trodVars_none hV
  have hk1 := bulks.bound hk
  obtain ⟨a0, len0, cap0, rfl⟩ := okWide_slice Try.underlying36 (hval 0 36 v0 rfl rfl)
  have k0 := h0
  have lt0 : ∀ x ∈ p0, x.block < W.heap.size := by obtain ⟨m, hm⟩ := k0; exact DataW.trod_lt m _ _ _ hm
  obtain ⟨z0, w0, u0⟩ : ∃ zs, IsRow .u64 W a0 len0 cap0 zs ∧ len0 ≤ 1048576 := by
    have hbk : Rows.uptoBulk d0 ≤ 1048576 := Nat.le_trans (bulks.part_le (by simp)) hk1
    obtain ⟨fuel, hf⟩ := h0
    rcases open_ints Try.underlying36 Try.underlying31 (by kernel_rfl) hf with ⟨hcs, _⟩ | ⟨x, l, c, zs, hcs, _, hl, hm, hz, hx, hcell, hwz⟩
    · simp [Value.cells] at hcs
      obtain ⟨rfl, rfl, rfl⟩ := hcs
      exact ⟨[], .inl ⟨rfl, rfl, rfl, rfl⟩, by omega⟩
    · simp [Value.cells] at hcs
      obtain ⟨rfl, rfl, rfl⟩ := hcs
      have hz' : zs.length = cap0 := by simpa using hz
      have hd : d0 = .slice (ChangeShapes.lits _ (zs.take len0)) (ChangeShapes.lits _ (zs.drop len0)) := congrArg Prod.fst hx
      rw [hd] at hbk
      have hlb := Nat.le_trans (bulks.slice_le _ _) hbk
      simp only [ChangeShapes.lits, List.length_map, List.length_take, List.length_drop] at hlb
      exact ⟨zs, .inr ⟨_, rfl, hl, hm, hz', hcell, hwz⟩, by omega⟩
  obtain ⟨a1, len1, cap1, rfl⟩ := okWide_slice Try.underlying36 (hval 1 36 v1 rfl rfl)
  have k1 := h1
  have lt1 : ∀ x ∈ p1, x.block < W.heap.size := by obtain ⟨m, hm⟩ := k1; exact DataW.trod_lt m _ _ _ hm
  obtain ⟨z1, w1, u1⟩ : ∃ zs, IsRow .u64 W a1 len1 cap1 zs ∧ len1 ≤ 1048576 := by
    have hbk : Rows.uptoBulk d1 ≤ 1048576 := Nat.le_trans (bulks.part_le (by simp)) hk1
    obtain ⟨fuel, hf⟩ := h1
    rcases open_ints Try.underlying36 Try.underlying31 (by kernel_rfl) hf with ⟨hcs, _⟩ | ⟨x, l, c, zs, hcs, _, hl, hm, hz, hx, hcell, hwz⟩
    · simp [Value.cells] at hcs
      obtain ⟨rfl, rfl, rfl⟩ := hcs
      exact ⟨[], .inl ⟨rfl, rfl, rfl, rfl⟩, by omega⟩
    · simp [Value.cells] at hcs
      obtain ⟨rfl, rfl, rfl⟩ := hcs
      have hz' : zs.length = cap1 := by simpa using hz
      have hd : d1 = .slice (ChangeShapes.lits _ (zs.take len1)) (ChangeShapes.lits _ (zs.drop len1)) := congrArg Prod.fst hx
      rw [hd] at hbk
      have hlb := Nat.le_trans (bulks.slice_le _ _) hbk
      simp only [ChangeShapes.lits, List.length_map, List.length_take, List.length_drop] at hlb
      exact ⟨zs, .inr ⟨_, rfl, hl, hm, hz', hcell, hwz⟩, by omega⟩
  clear hA0 hval0
  refine (walk a0 len0 cap0 z0 a1 len1 cap1 z1 W w0 w1 u0 u1).mono fun e W' ⟨he, bel⟩ => ?_
  subst he
  exact ⟨_, rfl, _, _, _, [], _, [], hW', trodAll_mk1 (shut_bool Try.underlying4 _), (trodAll_cons_mk (Below.trod laidOut (by kernel_rfl) (of_decide_eq_true (by kernel_rfl)) k0 bel lt0) (trodAll_cons_mk (Below.trod laidOut (by kernel_rfl) (of_decide_eq_true (by kernel_rfl)) k1 bel lt1) trodAll_mk0)), rfl, bel.frame _, fun h => by cases h⟩

theorem over : Rows.wordJoinedUptoRow.holds Try.pinned (Rows.OpenSpec.upto Rows.wordJoinedSpec) :=
  OpenClaim.holds_of_cond 8 Try.f8 rfl rfl rfl rfl rfl rfl rfl ⟨rfl, rfl, rfl, rfl, rfl⟩ rfl rfl rfl rfl rfl (by kernel_rfl) Try.func8 (by kernel_rfl)
    (of_decide_eq_true (by kernel_rfl)) (by unfold Func.isWrapper; first | (rw [if_pos (by decide +kernel)]; kernel_rfl) | (rw [if_neg (by decide +kernel)]; exact ⟨rfl, rfl⟩))
    (fun os started H enc _ F => lifted os started H enc F)

/-- ████ THE STATEMENT ████ -/
theorem proved : Rows.WordJoinedUptoSaid := over
#print axioms proved
end Go.Proofs.Ytnjohennfajepaa.wordJoined
namespace Go.Proofs.Ytnjohennfajepaa
/-- The statement. -/
theorem wordJoined_holds : Rows.WordJoinedUptoSaid := wordJoined.proved
end Go.Proofs.Ytnjohennfajepaa
