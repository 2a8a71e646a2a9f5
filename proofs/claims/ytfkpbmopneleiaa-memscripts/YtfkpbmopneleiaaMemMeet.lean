/- What mem.meet, mem.Clash and few come to. -/
import Derived.Test.YtfkpbmopneleiaaProg
import Derived.Test.YtfkpbmopneleiaaMemMath
import Derived.WalkKit
import Derived.WalkSpells
import Derived.WalkLawsBesides
import Derived.Maps.OwnSet
import Derived.OpenShut
namespace Go.Proofs.Ytfkpbmopneleiaa
open Go.RowKit Go.Maps

/-- A list of numbers that lies somewhere. -/
structure View (w : World) (a : Option Addr) (len cap : Nat) (zs : List Int) : Prop where
  count : zs.length = len
  fits : ∀ n ∈ zs, (Lit.int .i64 n).wf = true
  nilOf : a = none → len = 0 ∧ cap = 0
  cells : len = 0 ∨ ∃ b off, a = some ⟨b, off, none⟩ ∧ ∀ i, i < len → w.cell? ⟨b, off + i, none⟩ = some (.int .i64 (zs.getD i 0))

theorem View.below {w w1 : World} {a : Option Addr} {len cap : Nat} {zs : List Int} (h : View w a len cap zs) (hb : Below w.heap.size w w1) : View w1 a len cap zs := by
  refine ⟨h.count, h.fits, h.nilOf, ?_⟩
  rcases h.cells with h0 | ⟨b, off, ha, hc⟩
  · exact .inl h0
  · refine .inr ⟨b, off, ha, fun i hi => ?_⟩
    have hi' := hc i hi
    exact (hb.cell (p := ⟨b, off + i, none⟩) (World.block_lt_of_cell? w ⟨b, off + i, none⟩ hi')).trans hi'

theorem view_nil (w : World) : View w none 0 0 [] := ⟨rfl, by simp, fun _ => ⟨rfl, rfl⟩, .inl rfl⟩

theorem view_own {w : World} {B n : Nat} {v : Value} {zs : List Int} (hf : ∀ n ∈ zs, (Lit.int .i64 n).wf = true) (h : w.ownsRow B 2 1 v n (zs.map (Value.int .i64))) : ∃ a cap, v = .slice a n cap ∧ View w a n cap zs := by
  have hl : zs.length = n := by simpa using h.1
  rcases h.2 with ⟨rfl, rfl⟩ | ⟨g, cap, cur, rfl, hb, hg, hnc, hcm, hcs, htake⟩
  · exact ⟨none, 0, rfl, hl, hf, fun _ => ⟨rfl, rfl⟩, .inl rfl⟩
  · refine ⟨some ⟨g, 0, none⟩, cap, rfl, hl, hf, by simp, .inr ⟨g, 0, rfl, fun i hi => ?_⟩⟩
    have hc := h.cellAt i (by omega)
    rw [Nat.zero_add, hc]
    simp [List.getD, show i < zs.length by omega]

theorem lawK : Keyed Try.prog 2 := int_keyed Try.underlying2
theorem zeroU (w : World) : (zeroValue 77).run Try.prog w = .ok (.agg #[]) w := by kernel_rfl

theorem getD_wf {zs : List Int} (h : ∀ n ∈ zs, (Lit.int .i64 n).wf = true) (k : Nat) : (Lit.int .i64 (zs.getD k 0)).wf = true := by
  by_cases hk : k < zs.length
  · have e : zs.getD k 0 = zs[k] := by simp [List.getD, hk]
    rw [e]; exact h _ (List.getElem_mem _)
  · have e : zs.getD k 0 = 0 := by simp [List.getD, hk]
    rw [e]; decide

theorem take_snoc (zs : List Int) (k : Nat) (h : k < zs.length) : zs.take (k + 1) = zs.take k ++ [zs.getD k 0] := by
  rw [List.take_succ_eq_append_getElem h]; simp [List.getD, h]

theorem meets_take (za zb : List Int) (k : Nat) (h : k < zb.length) (h0 : M.meets za (zb.take k) = false) : M.meets za (zb.take (k + 1)) = za.contains (zb.getD k 0) := by
  rw [take_snoc zb k h]
  simp only [M.meets, List.any_append, List.any_cons, List.any_nil, Bool.or_false] at h0 ⊢
  rw [h0, Bool.false_or]

theorem meets_of_take (za zb : List Int) (k : Nat) (h : M.meets za (zb.take k) = true) : M.meets za zb = true := by
  rw [M.meets_iff] at h ⊢
  obtain ⟨x, h1, h2⟩ := h
  exact ⟨x, h1, List.mem_of_mem_take h2⟩

set_option maxRecDepth 100000 in
set_option maxHeartbeats 1000000 in
theorem meet_any {w : World} {a1 : Option Addr} {l1 c1 : Nat} {za : List Int} {a2 : Option Addr} {l2 c2 : Nat} {zb : List Int} (ha : View w a1 l1 c1 za) (hb2 : View w a2 l2 c2 zb) (hl1 : l1 ≤ 140737488355328) (hl2 : l2 ≤ 140737488355328) :
    Calls Try.prog 38 #[.slice a1 l1 c1, .slice a2 l2 c2] w fun e w' => e = .returned (.bool (M.meets za zb)) ∧ Below w.heap.size w w' := by
  have hmm := @run_makeMap Try.prog
  have HA : Hid _ := ha
  have HB : Hid _ := hb2
  have hca := ha.count
  have hcb := hb2.count
  clear ha hb2
  go_enter Try.func38, Try.ntmps38
  go_wp2
  go_loopw [15] (fun i wr => ∃ k : Nat, k ≤ l1 ∧ i = .int .i64 k ∧ wr.ownsMap Try.prog 2 unitElem w.heap.size k (M.set (za.take k)) ∧ Below w.heap.size w wr) (fun i _ => l1 - (RowKit.intOf i).toNat)
  case atStart => exact ⟨0, by omega, rfl, World.ownsMap_made _ _ _ _, (Below.refl _ _).alloc (Nat.le_refl _) _⟩
  case round =>
    obtain ⟨k, hk, rfl, hown, hb⟩ := hrel
    by_cases hlt : k < l1
    · rcases HA.out.cells with h0 | ⟨b1, o1, hA1, hc1⟩
      · omega
      have hck := hc1 k hlt
      have hck' : wr.cell? ⟨b1, o1 + k, none⟩ = some (.int .i64 (za.getD k 0)) := (hb.cell (p := ⟨b1, o1 + k, none⟩) (World.block_lt_of_cell? w ⟨b1, o1 + k, none⟩ hck)).trans hck
      have hwf := getD_wf HA.out.fits k
      have hT := take_snoc za k (by omega)
      generalize za.getD k 0 = x at *
      have hkey : keyOf Try.prog 2 (.int .i64 x) = some (.int .i64 x) := keyOf_int_mk Try.underlying2 hwf
      have HT : Hid _ := hT
      subst hA1
      clear hc1 hck hT HA hwf
      go_wp2_with (first | (at_mapUpdate; refine wpList_mapUpdate_own _ rfl _ _ _ 59 rfl 2 77 lawK Try.underlying59 (unitElem (H := Unit)) w.heap.size k _ rfl hown (by unfold maxLen; omega) _ _ _ rfl rfl hkey _ [] unitElem_mk ?_) | go_in)
      intro w1 hown1 hg1
      have hb1 : Below w.heap.size w w1 := hb.grown hg1 hb.size (fun j hj => by cases hj; exact Nat.le_refl _)
      have ho : w1.ownsMap Try.prog 2 unitElem w.heap.size (k + 1) (M.set (za.take (k + 1))) := by rw [HT.out, M.set_snoc]; exact hown1
      clear hown hown1 hg1 hkey hck'
      go_wp2
      go_roundw
      case rel => exact ⟨k + 1, by omega, by go_num, ho, hb1⟩
      case measure => simp [RowKit.intOf]; omega
    · obtain rfl : k = l1 := by omega
      rw [List.take_of_length_le (by omega)] at hown
      have hb1 := hb
      clear hb
      go_wp2
      obtain ⟨wo, rfl⟩ : ∃ wo : World, wo = wr := ⟨_, rfl⟩
      go_loopw [25] (fun i wr => ∃ j : Nat, j ≤ l2 ∧ i = .int .i64 j ∧ wr.ownsMap Try.prog 2 unitElem w.heap.size k (M.set za) ∧ Below w.heap.size w wr ∧ Hid (M.meets za (zb.take j) = false)) (fun i _ => l2 - (RowKit.intOf i).toNat)
      case atStart => exact ⟨0, by omega, rfl, hown, hb1, rfl⟩
      case round =>
        obtain ⟨j, hj, rfl, hown2, hb3, HN⟩ := hrel
        by_cases hlt2 : j < l2
        · rcases HB.out.cells with h0 | ⟨b2, o2, hA2, hc2⟩
          · omega
          have hck := hc2 j hlt2
          have hck' : wr.cell? ⟨b2, o2 + j, none⟩ = some (.int .i64 (zb.getD j 0)) := (hb3.cell (p := ⟨b2, o2 + j, none⟩) (World.block_lt_of_cell? w ⟨b2, o2 + j, none⟩ hck)).trans hck
          have hwf := getD_wf HB.out.fits j
          have hM := meets_take za zb j (by omega) HN.out
          have hH := M.has_set za (zb.getD j 0)
          generalize zb.getD j 0 = x at *
          have hkey : keyOf Try.prog 2 (.int .i64 x) = some (.int .i64 x) := keyOf_int_mk Try.underlying2 hwf
          subst hA2
          have HM : Hid _ := hM
          clear hc2 hck hM HB hwf HA
          cases hx : za.contains x
          · rw [hx] at hH
            have HX : Hid _ := hx
            clear hx
            go_wp2_with (first | (at_lookup; refine wpList_lookup_own_unit _ rfl _ _ 59 rfl 2 77 lawK Try.underlying59 (zeroU _) w.heap.size k _ rfl hown2 _ _ rfl hkey ?_) | go_in)
            go_roundw
            case rel => exact ⟨j + 1, by omega, by go_num, hown2.alloc _, hb3.alloc hb3.size _, by show _ = _; rw [HM.out, HX.out]⟩
            case measure => simp [RowKit.intOf]; omega
          · rw [hx] at hH
            have HX : Hid _ := hx
            clear hx
            go_wp2_with (first | (at_lookup; refine wpList_lookup_own_unit _ rfl _ _ 59 rfl 2 77 lawK Try.underlying59 (zeroU _) w.heap.size k _ rfl hown2 _ _ rfl hkey ?_) | go_in)
            go_ret
            refine ⟨?_, hb3.alloc hb3.size _⟩
            rw [meets_of_take za zb (j + 1) (by rw [HM.out, HX.out])]
            rfl
        · have hN := HN.out
          rw [List.take_of_length_le (by omega)] at hN
          have HN2 : Hid _ := hN
          clear hN HN
          go_wp2
          go_ret
          exact ⟨by rw [HN2.out]; rfl, hb3⟩

/-- A footprint as it is handed over. -/
structure FootV (w : World) (v : Value) (rs ws : List Int) : Prop where
  form : ∃ a l c a' l' c', v = .agg #[.slice a l c, .slice a' l' c'] ∧ View w a l c rs ∧ View w a' l' c' ws

theorem FootV.below {w w1 : World} {v : Value} {rs ws : List Int} (h : FootV w v rs ws) (hb : Below w.heap.size w w1) : FootV w1 v rs ws := by
  obtain ⟨a, l, c, a', l', c', hv, h1, h2⟩ := h.form
  exact ⟨a, l, c, a', l', c', hv, h1.below hb, h2.below hb⟩

theorem cell_last (w : World) (A : Array Value) (t g j : Nat) (hg : g = w.heap.size) {v : Value} (hv : A[j]? = some v) : (w.alloc (.cells A t)).cell? ⟨g, j, none⟩ = some v := by
  subst hg
  rw [← hv]
  simp

def clash (ra wa rb wb : List Int) : Bool := M.meets wa wb || M.meets wa rb || M.meets wb ra

set_option maxRecDepth 100000 in
set_option maxHeartbeats 1000000 in
theorem few_any {w : World} {v : Value} {rs ws : List Int} (h : FootV w v rs ws) :
    Calls Try.prog 22 #[v] w fun e w' => e = .returned (.bool (decide (rs.length ≤ 40) && decide (ws.length ≤ 40))) ∧ Below w.heap.size w w' := by
  obtain ⟨a, l, c, a', l', c', rfl, h1, h2⟩ := h.form
  have e1 := h1.count
  have e2 := h2.count
  rw [e1, e2]
  clear h1 h2 h e1 e2
  by_cases hl : (l : Int) ≤ 40
  · by_cases hl' : (l' : Int) ≤ 40
    · go_enter Try.func22, Try.ntmps22
      go_wp2
      go_ret
      refine ⟨?_, (Below.refl _ _).alloc (Nat.le_refl _) _⟩
      rw [decide_eq_true (show l ≤ 40 by omega), decide_eq_true (show l' ≤ 40 by omega)]
      rfl
    · go_enter Try.func22, Try.ntmps22
      go_wp2
      go_ret
      refine ⟨?_, (Below.refl _ _).alloc (Nat.le_refl _) _⟩
      rw [decide_eq_true (show l ≤ 40 by omega), decide_eq_false (show ¬ l' ≤ 40 by omega)]
      rfl
  · go_enter Try.func22, Try.ntmps22
    go_wp2
    go_ret
    refine ⟨?_, (Below.refl _ _).alloc (Nat.le_refl _) _⟩
    rw [decide_eq_false (show ¬ l ≤ 40 by omega)]
    rfl

set_option maxRecDepth 100000 in
set_option maxHeartbeats 1000000 in
theorem clash_any {w : World} {va vb : Value} {ra wa rb wb : List Int} (ha : FootV w va ra wa) (hb : FootV w vb rb wb) (h1 : ra.length ≤ 140737488355328) (h2 : wa.length ≤ 140737488355328) (h3 : rb.length ≤ 140737488355328) (h4 : wb.length ≤ 140737488355328) :
    Calls Try.prog 25 #[va, vb] w fun e w' => e = .returned (.bool (clash ra wa rb wb)) ∧ Below w.heap.size w w' := by
  obtain ⟨a, l, c, a', l', c', rfl, p1, p2⟩ := ha.form
  obtain ⟨d, m, f, d', m', f', rfl, q1, q2⟩ := hb.form
  have hB : Below w.heap.size w ((w.alloc (.cells #[.slice a l c, .slice a' l' c'] 40)).alloc (.cells #[.slice d m f, .slice d' m' f'] 40)) := ((Below.refl _ _).alloc (Nat.le_refl _) _).alloc (by simp) _
  have P1 : Hid _ := p1.below hB
  have P2 : Hid _ := p2.below hB
  have Q1 : Hid _ := q1.below hB
  have Q2 : Hid _ := q2.below hB
  have HL : Hid (l ≤ 140737488355328 ∧ l' ≤ 140737488355328 ∧ m ≤ 140737488355328 ∧ m' ≤ 140737488355328) := ⟨by rw [← p1.count]; exact h1, by rw [← p2.count]; exact h2, by rw [← q1.count]; exact h3, by rw [← q2.count]; exact h4⟩
  clear ha hb p1 p2 q1 q2 h1 h2 h3 h4
  go_enter Try.func25, Try.ntmps25
  go_wp2_with fail
  refine (meet_any P2.out Q2.out HL.out.2.1 HL.out.2.2.2).mono ?_
  rintro e x1 ⟨rfl, b1⟩
  have cA : ∀ X : World, Below ((w.alloc (.cells #[.slice a l c, .slice a' l' c'] 40)).alloc (.cells #[.slice d m f, .slice d' m' f'] 40)).heap.size ((w.alloc (.cells #[.slice a l c, .slice a' l' c'] 40)).alloc (.cells #[.slice d m f, .slice d' m' f'] 40)) X →
      X.cell? ⟨w.heap.size, 0, none⟩ = some (.slice a l c) ∧ X.cell? ⟨w.heap.size, 1, none⟩ = some (.slice a' l' c') ∧ X.cell? ⟨w.heap.size + 1, 0, none⟩ = some (.slice d m f) ∧ X.cell? ⟨w.heap.size + 1, 1, none⟩ = some (.slice d' m' f') := by
    intro X hX
    have hY : Below (w.alloc (.cells #[.slice a l c, .slice a' l' c'] 40)).heap.size (w.alloc (.cells #[.slice a l c, .slice a' l' c'] 40)) ((w.alloc (.cells #[.slice a l c, .slice a' l' c'] 40)).alloc (.cells #[.slice d m f, .slice d' m' f'] 40)) := (Below.refl _ _).alloc (Nat.le_refl _) _
    refine ⟨(hX.cell (p := ⟨w.heap.size, 0, none⟩) (by simp; omega)).trans ((hY.cell (p := ⟨w.heap.size, 0, none⟩) (by simp)).trans (by simp)), (hX.cell (p := ⟨w.heap.size, 1, none⟩) (by simp; omega)).trans ((hY.cell (p := ⟨w.heap.size, 1, none⟩) (by simp)).trans (by simp)), (hX.cell (p := ⟨w.heap.size + 1, 0, none⟩) (by simp)).trans (cell_last _ _ _ _ _ (by simp) rfl), (hX.cell (p := ⟨w.heap.size + 1, 1, none⟩) (by simp)).trans (cell_last _ _ _ _ _ (by simp) rfl)⟩
  have k1 := cA x1 b1
  have P1b : Hid _ := P1.out.below b1
  have P2b : Hid _ := P2.out.below b1
  have Q1b : Hid _ := Q1.out.below b1
  have Q2b : Hid _ := Q2.out.below b1
  have hB1 := hB.trans (b1.mono hB.size)
  have HC : Hid _ := cA
  clear cA P1 P2 Q1 Q2
  cases hm : M.meets wa wb
  · have HM : Hid _ := hm
    clear hm
    go_wp2_with fail
    refine (meet_any P2b.out Q1b.out HL.out.2.1 HL.out.2.2.1).mono ?_
    rintro e x2 ⟨rfl, b2⟩
    have hb12 := b1.trans (b2.mono b1.size)
    have k2 := HC.out x2 hb12
    have P1c : Hid _ := P1b.out.below b2
    have Q2c : Hid _ := Q2b.out.below b2
    have hB2 := hB1.trans (b2.mono hB1.size)
    clear k1 HC P1b P2b Q1b Q2b b1 b2
    cases hm2 : M.meets wa rb
    · have HM2 : Hid _ := hm2
      clear hm2
      go_wp2_with fail
      refine (meet_any Q2c.out P1c.out HL.out.2.2.2 HL.out.1).mono ?_
      rintro e x3 ⟨rfl, b3⟩
      have hB3 := hB2.trans (b3.mono hB2.size)
      clear k2 Q2c P1c
      go_wp2
      go_ret
      refine ⟨?_, hB3⟩
      simp only [clash, HM.out, HM2.out]
      rfl
    · have HM2 : Hid _ := hm2
      clear hm2
      go_wp2
      go_ret
      refine ⟨?_, hB2⟩
      simp only [clash, HM.out, HM2.out]
      rfl
  · have HM : Hid _ := hm
    clear hm
    go_wp2
    go_ret
    refine ⟨?_, hB1⟩
    simp only [clash, HM.out]
    rfl

end Go.Proofs.Ytfkpbmopneleiaa
