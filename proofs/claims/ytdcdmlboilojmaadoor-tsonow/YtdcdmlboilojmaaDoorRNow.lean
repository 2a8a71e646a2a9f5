/- Stores that leave at once. No walk. -/
import Derived.Test.YtdcdmlboilojmaaDoorQAq
import Derived.Test.YtdcdmlboilojmaaDoorQAw
namespace Go.Proofs.YtdcdmlboilojmaaDoor
open Go.RowKit
set_option linter.unusedVariables false

namespace T
theorem pk_two (k : Nat) : pk (2 * (k : Int)) = 2 * (k : Int) := by unfold pk; rw [if_neg (by omega)]
theorem pk_two1 (k : Nat) : pk (2 * (k : Int) + 1) = 2 * (k : Int) + 1 := by unfold pk; rw [if_neg (by omega)]
theorem who_two {M : Mach} {k : Nat} (hk : k < M.ts.length) : who M (2 * (k : Int)) = k := by
  unfold who
  rw [pk_two, show 2 * (k : Int) / 2 = k by omega, Int.emod_eq_of_lt (by omega) (by omega)]
  simp
theorem who_two1 {M : Mach} {k : Nat} (hk : k < M.ts.length) : who M (2 * (k : Int) + 1) = k := by
  unfold who
  rw [pk_two1, show (2 * (k : Int) + 1) / 2 = k by omega, Int.emod_eq_of_lt (by omega) (by omega)]
  simp
theorem act_two {M : Mach} {k : Nat} (hk : k < M.ts.length) : act M (2 * (k : Int)) = goOn M k := by
  unfold act
  rw [who_two hk, pk_two, if_pos (by omega)]
theorem act_two1 {M : Mach} {k : Nat} (hk : k < M.ts.length) : act M (2 * (k : Int) + 1) = leave M k := by
  unfold act
  rw [who_two1 hk, pk_two1, if_neg (by omega)]
theorem did_two1 {M : Mach} {k : Nat} (hk : k < M.ts.length) : did M (2 * (k : Int) + 1) = leaves M k := by
  unfold did
  rw [who_two1 hk, pk_two1, if_neg (by omega)]
/-- Nothing waits. -/
def AllE (M : Mach) : Prop := ∀ k, k < M.ts.length → (M.th k).ws = []
theorem th_set {code : ByteArray} {mem : Memo} {ts : List Th} {es : List Ev} {k : Nat} {h : Th} (hk : k < ts.length) (j : Nat) : (Mach.mk code mem (ts.set k h) es).th j = if j = k then h else (Mach.mk code mem ts es).th j := by
  unfold Mach.th
  by_cases e : j = k
  · subst e
    rw [if_pos rfl]
    simp [List.getD, hk]
  · rw [if_neg e]
    simp [List.getD, List.getElem?_set_ne (fun q => e q.symm)]
/-- Behind a step of a machine on which nothing waits. -/
theorem now_step {M : Mach} (hE : AllE M) {k : Nat} (hk : k < M.ts.length) : ((goOn M k).th k).ws.length ≤ 1 ∧ (∀ j, j < M.ts.length → j ≠ k → ((goOn M k).th j).ws = []) ∧ ∀ p, ((goOn M k).th k).ws = [p] → ((goOn M k).mem p.1).isSome = true := by
  by_cases hs : (M.th k).c.st = 0
  · rw [goOn_eq hk hs]
    have h0 := hE k hk
    have hth : (Mach.mk M.code (insMem M k) (M.ts.set k ⟨insC M k, insW M k⟩) (insEs M k ++ endE k (insC M k))).th k = ⟨insC M k, insW M k⟩ := by rw [th_set hk, if_pos rfl]
    rw [hth]
    refine ⟨?_, fun j hj hne => ?_, fun p hp => ?_⟩
    · show (insW M k).length ≤ 1
      rcases insW_eq M k with h1 | h1 | ⟨a, v, -, -, h1⟩
      · rw [h1, h0]; simp
      · rw [h1]; simp
      · rw [h1, h0]; simp
    · rw [th_set hk, if_neg hne]
      exact hE j hj
    · show (insMem M k p.1).isSome = true
      change insW M k = [p] at hp
      rcases insW_eq M k with h1 | h1 | ⟨a, v, hq, hm, h1⟩
      · rw [h1, h0] at hp; cases hp
      · rw [h1] at hp; cases hp
      · rw [h1, h0] at hp
        simp at hp
        subst hp
        unfold insMem
        split
        · unfold ansMem
          rw [hq]
          simp only [if_true]
          show (has (M.mem a) (fullMem M k) M.mem a).isSome = true
          unfold fullMem
          rw [h0]
          cases e : M.mem a with
          | none => rw [e] at hm; cases hm
          | some x => show (M.mem a).isSome = true; rw [e]; rfl
        · exact hm
  · rw [goOn_no hs]
    have h0 := hE k hk
    refine ⟨by rw [h0]; simp, fun j hj _ => hE j hj, fun p hp => by rw [h0] at hp; cases hp⟩
theorem now_leave {M : Mach} {k : Nat} (hk : k < M.ts.length) (h1 : (M.th k).ws.length ≤ 1) (ho : ∀ j, j < M.ts.length → j ≠ k → (M.th j).ws = []) : AllE (leave M k) ∧ (leave M k).ts.length = M.ts.length ∧ ∀ p, (M.th k).ws = [p] → (M.mem p.1).isSome = true → (leave M k).mem p.1 = some p.2 := by
  cases hw : (M.th k).ws with
  | nil =>
    rw [leave_no hw]
    refine ⟨fun j hj => ?_, rfl, fun p hp => by cases hp⟩
    by_cases e : j = k
    · subst e; exact hw
    · exact ho j hj e
  | cons q r =>
    rw [hw] at h1
    have hr : r = [] := by simpa using h1
    subst hr
    rw [leave_eq hw]
    refine ⟨fun j hj => ?_, by simp, fun p hp hs => ?_⟩
    · simp at hj
      rw [th_set hk]
      by_cases e : j = k
      · rw [if_pos e]
      · rw [if_neg e]; exact ho j hj e
    · obtain rfl : q = p := by simpa using hp
      show upd M.mem q.1 q.2 q.1 = some q.2
      unfold upd
      rw [if_pos rfl, if_pos hs]
end T

theorem T.act_len4 {M : T.Mach} (h0 : 0 < M.ts.length) (p : Int) : (T.act M p).es.length ≤ M.es.length + 2 := by
  obtain ⟨-, -, l, h, hl⟩ := T.act_eq h0 p
  rw [h, List.length_append]; omega

end Go.Proofs.YtdcdmlboilojmaaDoor

/- TsoNow, walked. (Written by gen_now.py.) -/
namespace Go.Proofs.YtdcdmlboilojmaaDoor
open Go.RowKit Go.Maps
set_option linter.unusedVariables false
set_option linter.unusedSimpArgs false

/-- A machine on which nothing waits, and what it came of. -/
def NowOk (M0 M : T.Mach) (k : Nat) : Prop := MOk M ∧ M.ts.length = M0.ts.length ∧ M.code = M0.code ∧ M.es.length ≤ 4 * k ∧ T.AllE M
theorem mach_E (m : ImgD) : T.AllE m.mach := by
  intro k hk
  refine ths0_ws (strt m.syms) 0 _ ?_
  have : m.mach.ts[k]? = some (m.mach.th k) := T.th_at hk
  exact List.mem_of_getElem? this

set_option maxRecDepth 100000 in
set_option maxHeartbeats 8000000 in
theorem now_no {w : World} {v : Value} {m : ImgD} (h : ImgV w v m) (hl : m.syms.length ≤ 8796093022208) (hm : m.may = false) (p p2 : Value) (ht : Tab w) :
    Calls Tryd.prog 8 #[v, p, p2] w fun e w' => e = .returned (.bool true) ∧ Below w.heap.size w w' := by
  obtain ⟨a1, l1, c1, a2, l2, c2, rfl, hs, h1, h2⟩ := h.form
  obtain ⟨W1, hW1⟩ : ∃ W1, w.alloc (.cells #[.string m.code, .slice a1 l1 c1, .slice a2 l2 c2] 25) = W1 := ⟨_, rfl⟩
  have b1 : Below w.heap.size w W1 := by subst hW1; exact bl_one _ _
  have v0 : W1.cell? ⟨w.heap.size, 0, none⟩ = some (.string m.code) := by subst hW1; exact cell_last _ _ _ _ _ rfl rfl
  have v1 : W1.cell? ⟨w.heap.size, 1, none⟩ = some (.slice a1 l1 c1) := by subst hW1; exact cell_last _ _ _ _ _ rfl rfl
  have v2 : W1.cell? ⟨w.heap.size, 2, none⟩ = some (.slice a2 l2 c2) := by subst hW1; exact cell_last _ _ _ _ _ rfl rfl
  have HB1 : Hid (Below w.heap.size w W1) := b1
  have HN : Hid (Calls Tryd.prog 10 #[.agg #[.string m.code, .slice a1 l1 c1, .slice a2 l2 c2]] W1 fun e w' => e = .returned (.tuple #[.pointer none, .int .i64 1]) ∧ Below W1.heap.size W1 w') := tnew_no (h.below b1) hl hm
  have HT : Hid (Tab w) := ht
  clear h h1 h2 hl hm b1 ht
  go_enter Tryd.func8, Tryd.ntmps8
  go_wp2_with fail
  refine HN.out.mono ?_
  rintro e y1 ⟨rfl, hb1⟩
  have HB2 : Hid (Below w.heap.size w y1) := HB1.out.trans (hb1.mono HB1.out.size)
  have HLV : Hid (Calls Tryd.prog 12 #[] y1 fun e w' => e = .returned (.bool true) ∧ Below y1.heap.size y1 w') := live_any y1 (HT.out.below HB2.out)
  clear hb1 v0 v1 v2
  go_wp2_with fail
  refine HLV.out.mono ?_
  rintro e y2 ⟨rfl, hb2⟩
  have HB3 : Hid (Below w.heap.size w y2) := HB2.out.trans (hb2.mono HB2.out.size)
  clear hb2
  go_wp2
  go_ret
  exact ⟨rfl, HB3.out⟩

set_option maxRecDepth 100000 in
set_option maxHeartbeats 16000000 in
theorem now_yes {w : World} {v : Value} {m : ImgD} (h : ImgV w v m) (hl : m.syms.length ≤ 8796093022208) (hm : m.may = true) {a : Option Addr} {l c : Nat} {ps0 : List Int} (hp : IntsV w a l c ps0) (x : Int) (hx : (Lit.int .i64 x).wf = true) (ht : Tab w) :
    Calls Tryd.prog 8 #[v, .slice a l c, .int .i64 x] w fun e w' => e = .returned (.bool true) ∧ Below w.heap.size w w' := by
  obtain ⟨a1, l1, c1, a2, l2, c2, rfl, hs, h1, h2⟩ := h.form
  obtain ⟨W1, hW1⟩ : ∃ W1, w.alloc (.cells #[.string m.code, .slice a1 l1 c1, .slice a2 l2 c2] 25) = W1 := ⟨_, rfl⟩
  have b1 : Below w.heap.size w W1 := by subst hW1; exact bl_one _ _
  have v0 : W1.cell? ⟨w.heap.size, 0, none⟩ = some (.string m.code) := by subst hW1; exact cell_last _ _ _ _ _ rfl rfl
  have v1 : W1.cell? ⟨w.heap.size, 1, none⟩ = some (.slice a1 l1 c1) := by subst hW1; exact cell_last _ _ _ _ _ rfl rfl
  have v2 : W1.cell? ⟨w.heap.size, 2, none⟩ = some (.slice a2 l2 c2) := by subst hW1; exact cell_last _ _ _ _ _ rfl rfl
  have hwW : w.heap.size < W1.heap.size := World.block_lt_of_cell? W1 ⟨w.heap.size, 0, none⟩ v0
  have HV012 : Hid (∀ y, Below W1.heap.size W1 y → y.cell? ⟨w.heap.size, 0, none⟩ = some (.string m.code) ∧ y.cell? ⟨w.heap.size, 1, none⟩ = some (.slice a1 l1 c1) ∧ y.cell? ⟨w.heap.size, 2, none⟩ = some (.slice a2 l2 c2)) := fun y hy => ⟨cell_up hy v0, cell_up hy v1, cell_up hy v2⟩
  have HB1 : Hid (Below w.heap.size w W1) := b1
  have HI : Hid (ImgV W1 (.agg #[.string m.code, .slice a1 l1 c1, .slice a2 l2 c2]) m) := h.below b1
  have HLS : Hid (m.syms.length ≤ 8796093022208) := hl
  have HMY : Hid (m.may = true) := hm
  have HN : Hid (Calls Tryd.prog 10 #[.agg #[.string m.code, .slice a1 l1 c1, .slice a2 l2 c2]] W1 fun e w' => NewIs W1.heap.size e w' m.mach ∧ Below W1.heap.size W1 w') := tnew_yes (h.below b1) hl hm
  have HP0 : Hid (IntsV W1 a l c ps0) := hp.below b1
  have HT1 : Hid (Tab W1) := ht.below b1
  have HML : Hid (0 < m.mach.ts.length ∧ m.mach.ts.length ≤ 4) := mach_len m hm
  have HMC : Hid (m.mach.code.size ≤ 65536) := mach_code m hm
  have HMO : Hid (MOk m.mach) := mach_ok m
  have HE0 : Hid (m.mach.es = []) := rfl
  have HAE : Hid (T.AllE m.mach) := mach_E m
  have h2B : 2 ≤ W1.heap.size := HT1.out.2.2
  obtain ⟨M0, hM0⟩ : ∃ M0, m.mach = M0 := ⟨_, rfl⟩
  have HM0 : Hid (m.mach = M0) := hM0
  rw [hM0] at HN HML HMC HMO HE0 HAE
  clear h h1 h2 hl hm b1 hp ht hM0
  go_enter Tryd.func8, Tryd.ntmps8
  go_wp2_with fail
  refine HN.out.mono ?_
  rintro e y1 ⟨⟨b, t, bm, g, cap, us, rfl, htv⟩, hb1⟩
  have HTH : Hid (Calls Tryd.prog 20 #[.pointer (some ⟨b, 0, none⟩)] y1 fun e w' => e = .returned (.int .i64 M0.ts.length) ∧ w' = y1) := threads_any htv
  have HFW : Hid (Calls Tryd.prog 13 #[.slice a l c, .int .i64 150] y1 fun e w' => (∃ l', e = .returned (.slice a l' c) ∧ IntsV y1 a l' c (ps0.take 150) ∧ l' ≤ 150) ∧ w' = y1) := few_any (HP0.out.below hb1) 150 (by decide)
  have HTV1 : Hid (TV W1.heap.size y1 b M0 0 t bm g cap (.slice none 0 0) us) := htv
  have HBY1 : Hid (Below W1.heap.size W1 y1) := hb1
  clear htv hb1 v0 v1 v2
  go_wp2_with fail
  refine HTH.out.mono ?_
  rintro e y1a ⟨rfl, rfl⟩
  go_wp2_with fail
  refine HFW.out.mono ?_
  rintro e y1' ⟨⟨l', rfl, hp', hl'⟩, rfl⟩
  obtain ⟨ps, hps⟩ : ∃ ps, ps0.take 150 = ps := ⟨_, rfl⟩
  rw [hps] at hp'
  have HP : Hid (IntsV y1' a l' c ps) := hp'
  have HL : Hid (ps.length = l') := hp'.count
  have hro := hp'.room
  unfold maxLen at hro
  have HR0 : Hid (Ran W1.heap.size W1 y1' b M0 (30 * 0) bm g cap) := ⟨t, _, us, HTV1.out, HBY1.out, HT1.out.below HBY1.out⟩
  have HK0 : Hid (NowOk M0 M0 0) := ⟨HMO.out, rfl, rfl, by rw [HE0.out]; simp, HAE.out⟩
  have HPC : Hid (∀ wq, Below W1.heap.size W1 wq → l' = 0 ∨ ∃ zb zo, a = some ⟨zb, zo, none⟩ ∧ ∀ i, i < l' → wq.cell? ⟨zb, zo + i, none⟩ = some (.int .i64 (ps.getD i 0))) := fun wq hq => by
    rcases HP0.out.cells with h0 | ⟨zb, zo, hA, hcl⟩
    · left; have := HP0.out.count; have h3 := HL.out; rw [← hps, List.length_take] at h3; omega
    · refine .inr ⟨zb, zo, hA, fun i hi => ?_⟩
      have hc := HL.out
      rw [← hps, List.length_take, HP0.out.count] at hc
      have h4 := cell_up hq (hcl i (by omega))
      rw [h4, ← hps]
      simp [List.getD, List.getElem?_take, show i < 150 by omega]
  obtain ⟨n, hn⟩ : ∃ n, M0.ts.length = n := ⟨_, rfl⟩
  have HNN : Hid (M0.ts.length = n) := hn
  have hnl := HML.out
  rw [hn] at hnl
  rw [hn]
  clear hp' hps hn
  go_wp2_with fail
  go_loopg [10] l' (fun r iv wq => ∃ (k : Nat) (M : T.Mach), iv = .int .i64 k ∧ k ≤ l' ∧ l' - k ≤ r ∧ Hid (Ran W1.heap.size W1 wq b M (30 * k) bm g cap) ∧ Hid (NowOk M0 M k))
  case atStart => exact ⟨0, M0, rfl, Nat.zero_le _, by omega, HR0, HK0⟩
  case round =>
    obtain ⟨k, M, rfl, hk, hr, HR, HKO⟩ := hrel
    by_cases hlt : k < l'
    · obtain ⟨t1, ev1, us1, htv, hbx, htx⟩ := HR.out
      obtain ⟨hok, hln, hcd, hes, hae⟩ := HKO.out
      rcases HPC.out wr hbx with h0 | ⟨zb, zo, hA, hcl⟩
      · omega
      have q0 := hcl k hlt
      have hkl : k < ps.length := by rw [HL.out]; exact hlt
      obtain ⟨z, hz⟩ : ∃ z, ps.getD k 0 = z := ⟨_, rfl⟩
      rw [hz] at q0
      have hzf := HP.out.fits z (by rw [← hz]; simp [List.getD, hkl])
      have hzw : -9223372036854775808 ≤ z ∧ z ≤ 9223372036854775807 := by
        simp [Lit.wf, IntKind.min, IntKind.max, IntKind.signed, IntKind.bits] at hzf
        omega
      obtain ⟨P, hP⟩ : ∃ P, T.pk z = P := ⟨_, rfl⟩
      have hP0 : 0 ≤ P ∧ P ≤ 9223372036854775807 := by rw [← hP]; unfold T.pk; split <;> omega
      have hneg : z < 0 → IntKind.i64.wrap (-IntKind.i64.wrap (z + 1)) = P ∧ IntKind.i64.wrap (-(z + 1)) = P ∧ IntKind.i64.wrap (z + 1) = z + 1 := fun h1 => by
        rw [← hP]; unfold T.pk; rw [if_pos h1]
        simp only [IntKind.wrap_i64]
        omega
      have hpos : ¬ z < 0 → z = P := fun h1 => by rw [← hP]; unfold T.pk; rw [if_neg h1]
      obtain ⟨j, hj⟩ : ∃ j : Nat, P % (n : Int) = j := ⟨(P % (n : Int)).toNat, by have := Int.emod_nonneg P (b := (n : Int)) (by omega); omega⟩
      have hjn : j < n := by have := Int.emod_lt_of_pos P (b := (n : Int)) (by omega); omega
      have hjt : P.tmod (n : Int) = j := by rw [Int.tmod_eq_emod_of_nonneg hP0.1]; exact hj
      have hjM : j < M.ts.length := by rw [hln, HNN.out]; exact hjn
      have hw1 : IntKind.i64.wrap (2 * (j : Int)) = 2 * j := by rw [IntKind.wrap_i64]; omega
      have hw2 : IntKind.i64.wrap (2 * (j : Int) + 1) = 2 * j + 1 := by rw [IntKind.wrap_i64]; omega
      have hML4 : M.ts.length ≤ 4 := by rw [hln, HNN.out]; exact hnl.2
      have hdo := do_any htv hok (by omega) (by unfold maxLen; omega) htx h2B (by rw [hcd]; exact HMC.out) hML4 (2 * (j : Int)) (by simp [Lit.wf, IntKind.min, IntKind.max, IntKind.signed, IntKind.bits]; omega)
      obtain ⟨dd, hdd⟩ : ∃ dd, T.did M (2 * (j : Int)) = dd := ⟨_, rfl⟩
      have hM0' : 0 < M.ts.length := by omega
      have hok1 := hok.act hM0' (2 * (j : Int))
      have hln1 := T.act_len hM0' (2 * (j : Int))
      have hcd1 := (T.act_eq hM0' (2 * (j : Int))).1
      have hes1 := T.act_len4 hM0' (2 * (j : Int))
      obtain ⟨ns1, ns2, ns3⟩ := T.now_step hae hjM
      rw [← T.act_two hjM] at ns1 ns2 ns3
      obtain ⟨M1, hM1⟩ : ∃ M1, T.act M (2 * (j : Int)) = M1 := ⟨_, rfl⟩
      rw [hM1] at hok1 hln1 hcd1 hes1 ns1 ns2 ns3
      rw [hdd, hM1] at hdo
      have HDO : Hid (Calls Tryd.prog 14 #[.pointer (some ⟨b, 0, none⟩), .int .i64 (2 * (j : Int))] wr fun e w' => e = .returned (.bool dd) ∧ Gone W1.heap.size wr w' b M1 (30 * k + 11) t1 bm g cap) := hdo
      have HTV : Hid (TV W1.heap.size wr b M (30 * k) t1 bm g cap ev1 us1) := htv
      have HBX : Hid (Below W1.heap.size W1 wr) := hbx
      have HTX : Hid (Tab wr) := htx
      have hj1 : j < M1.ts.length := by rw [hln1]; exact hjM
      have HOK1 : Hid (MOk M1 ∧ M1.ts.length = M0.ts.length ∧ M1.code = M0.code ∧ M1.es.length ≤ 4 * k + 2) := ⟨hok1, hln1.trans hln, hcd1.trans hcd, by omega⟩
      have hwl : (M1.th j).ws.length ≤ 1 := ns1
      have HNS : Hid ((∀ i, i < M1.ts.length → i ≠ j → (M1.th i).ws = []) ∧ ∀ p, (M1.th j).ws = [p] → (M1.mem p.1).isSome = true) := ⟨fun i hi => ns2 i (by omega), ns3⟩
      subst hA
      have hii : (k : Int) < l' := by omega
      have hin : 0 ≤ (k : Int) := by omega
      have hn0 : ¬ (n : Int) = 0 := by omega
      clear hcl hz htv hbx htx hln hcd hes hae hok hdo hdd hM1 ns1 ns2 ns3 hok1 hln1 hcd1 hes1 hP HKO HR hzf
      by_cases hs : z < 0
      · obtain ⟨n1, n2, n3⟩ := hneg hs
        clear hneg hpos
        go_wp2_with fail
        refine HDO.out.mono ?_
        rintro e y2 ⟨rfl, hg⟩
        obtain ⟨t2, ev2, us2, hv2, hb2, ht2⟩ := Ran.do HTV.out HBX.out HTX.out h2B hg
        have HTH2 : Hid (Calls Tryd.prog 16 #[.pointer (some ⟨b, 0, none⟩), .int .i64 j] y2 fun e w' => ThIs y2.heap.size e w' (M1.th j) ∧ Below y2.heap.size y2 w') := thread_any hv2 hj1 (by omega)
        have HV2 : Hid (TV W1.heap.size y2 b M1 (30 * k + 11) t2 bm g cap ev2 us2) := hv2
        have HB2 : Hid (Below W1.heap.size W1 y2) := hb2
        have HT2 : Hid (Tab y2) := ht2
        clear hg hv2 hb2 ht2 HTV HBX HTX q0
        go_wp2_with fail
        refine HTH2.out.mono ?_
        rintro e y3 ⟨⟨wv, rfl, how⟩, hb3⟩
        obtain ⟨Y4, hY4⟩ : ∃ Y4, y3.alloc (.cells #[.int .i64 (M1.th j).c.r0, .int .i64 (M1.th j).c.r1, .int .i64 (M1.th j).c.r2, .int .i64 (M1.th j).c.r3, .int .i64 (M1.th j).c.r4, .int .i64 (M1.th j).c.r5, .int .i64 (M1.th j).c.r6, .int .i64 (M1.th j).c.r7, .int .i64 (M1.th j).c.pc, .int .i64 (M1.th j).c.st, .int .i64 (M1.th j).c.tr] 44) = Y4 := ⟨_, rfl⟩
        have hb4 : Below y2.heap.size y2 Y4 := by subst hY4; exact hb3.alloc hb3.size _
        have hb34 : Below y3.heap.size y3 Y4 := by subst hY4; exact bl_one _ _
        have how4 := own_below how hb34
        have hv4 := HV2.out.below hb4
        have hb14 : Below W1.heap.size W1 Y4 := HB2.out.trans (hb4.mono HB2.out.size)
        have ht4 := HT2.out.below hb4
        obtain ⟨hok1, hln1, hcd1, hes1⟩ := HOK1.out
        have hdo2 := do_any hv4 hok1 (by omega) (by unfold maxLen; omega) ht4 h2B (by rw [hcd1]; exact HMC.out) (by rw [hln1, HNN.out]; exact hnl.2) (2 * (j : Int) + 1) (by simp [Lit.wf, IntKind.min, IntKind.max, IntKind.signed, IntKind.bits]; omega)
        rw [T.did_two1 hj1, T.act_two1 hj1] at hdo2
        obtain ⟨nl1, nl2, nl3⟩ := T.now_leave hj1 hwl HNS.out.1
        have hok2 := hok1.act (p := 2 * (j : Int) + 1) (by omega)
        have hcd2 := (T.act_eq (M := M1) (by omega) (2 * (j : Int) + 1)).1
        have hes2 := T.act_len4 (M := M1) (by omega) (2 * (j : Int) + 1)
        rw [T.act_two1 hj1] at hok2 hcd2 hes2
        obtain ⟨M2, hM2⟩ : ∃ M2, T.leave M1 j = M2 := ⟨_, rfl⟩
        rw [hM2] at hdo2 nl1 nl2 nl3 hok2 hcd2 hes2
        have HKO2 : Hid (NowOk M0 M2 (k + 1)) := ⟨hok2, nl2.trans hln1, hcd2.trans hcd1, by omega, nl1⟩
        have HV4 : Hid (TV W1.heap.size Y4 b M1 (30 * k + 11) t2 bm g cap ev2 us2) := hv4
        have HB4 : Hid (Below W1.heap.size W1 Y4) := hb14
        have HT4 : Hid (Tab Y4) := ht4
        cases hws : (M1.th j).ws with
        | nil =>
          have hlv : T.leaves M1 j = false := by unfold T.leaves; rw [hws]; rfl
          rw [hlv] at hdo2
          have HDO2 : Hid (Calls Tryd.prog 14 #[.pointer (some ⟨b, 0, none⟩), .int .i64 (2 * (j : Int) + 1)] Y4 fun e w' => e = .returned (.bool false) ∧ Gone W1.heap.size Y4 w' b M2 (30 * k + 11 + 11) t2 bm g cap) := hdo2
          rw [hws] at how
          obtain ⟨wa, wc, rfl, hnc, hcm⟩ := own_sl how
          unfold maxLen at hcm
          simp only [List.length_nil] at hnc
          clear how how4 hv4 hb14 ht4 hdo2 hok1 hln1 hcd1 hes1 nl1 nl2 nl3 hok2 hcd2 hes2 hM2 hws hlv hb3 hb4 hb34 hwl
          go_wp2_with fail
          refine HDO2.out.mono ?_
          rintro e y5 ⟨rfl, hg⟩
          have HR5 : Hid (Ran W1.heap.size W1 y5 b M2 (30 * (k + 1)) bm g cap) := by
            obtain ⟨t5, ev5, us5, h5, h6, h7⟩ := Ran.do HV4.out HB4.out HT4.out h2B hg
            exact ⟨t5, ev5, us5, h5.mono (by omega), h6, h7⟩
          clear hg
          go_wp2
          go_roundg (l' - (k + 1))
          · exact ⟨k + 1, M2, rfl, by omega, Nat.le_refl _, HR5, HKO2⟩
          · omega
        | cons p r =>
          have hr0 : r = [] := by
            have := hwl
            rw [hws] at this
            simpa using this
          subst hr0
          obtain ⟨pa, pv⟩ := p
          have hlv : T.leaves M1 j = true := by unfold T.leaves; rw [hws]; rfl
          rw [hlv] at hdo2
          have HDO2 : Hid (Calls Tryd.prog 14 #[.pointer (some ⟨b, 0, none⟩), .int .i64 (2 * (j : Int) + 1)] Y4 fun e w' => e = .returned (.bool true) ∧ Gone W1.heap.size Y4 w' b M2 (30 * k + 11 + 11) t2 bm g cap) := hdo2
          have hpw := (hok1 j hj1).1.2 (pa, pv) (by rw [hws]; simp)
          have hmem := nl3 (pa, pv) hws (HNS.out.2 (pa, pv) hws)
          rw [hws] at how how4
          obtain ⟨wa, wc, rfl, hnc, hcm⟩ := own_sl how
          rcases how4.2 with ⟨hn4, -⟩ | ⟨gw, c', cur, hsl, hgb, -⟩
          · cases hn4
          obtain ⟨rfl, -, rfl⟩ : wa = some ⟨gw, 0, none⟩ ∧ True ∧ wc = c' := by cases hsl; exact ⟨rfl, trivial, rfl⟩
          have w0 := how4.cellAt 0 (by simp)
          have w1 := how4.cellAt 1 (by simp)
          simp [wC] at w0 w1
          have HGT : Hid (t2 gw = 0 ∧ gw < Y4.heap.size) := ⟨Classical.byContradiction fun e => by have := (HV2.out.lt gw e).2; omega, World.block_lt_of_cell? Y4 ⟨gw, 0, none⟩ w0⟩
          have HW0 : Hid (Y4.cell? ⟨gw, 0, none⟩ = some (.int .i64 pa)) := w0
          have HW1 : Hid (Y4.cell? ⟨gw, 1, none⟩ = some (.int .i64 pv)) := w1
          have HMM : Hid (M2.mem pa = some pv) := hmem
          have HPA : Hid ((Lit.int .i64 pa).wf = true) := hpw.1
          unfold maxLen at hcm
          simp only [List.length_cons, List.length_nil, Nat.zero_add] at hnc
          clear how how4 hv4 hb14 ht4 hdo2 hok1 hln1 hcd1 hes1 nl1 nl2 nl3 hok2 hcd2 hes2 hM2 hws hlv hb3 hb4 hb34 hwl hpw hmem w0 w1 hsl hgb
          go_wp2_with fail
          refine HDO2.out.mono ?_
          rintro e y5 ⟨rfl, hg⟩
          have HGO : Hid (Gone W1.heap.size Y4 y5 b M2 (30 * k + 11 + 11) t2 bm g cap) := hg
          obtain ⟨t6, ev6, us6, h6, hs6⟩ := hg
          have w0 : y5.cell? ⟨gw, 0, none⟩ = some (.int .i64 pa) := blk_cell (p := ⟨gw, 0, none⟩) (hs6.block gw HGT.out.2 HGT.out.1) HW0.out
          have w1 : y5.cell? ⟨gw, 1, none⟩ = some (.int .i64 pv) := blk_cell (p := ⟨gw, 1, none⟩) (hs6.block gw HGT.out.2 HGT.out.1) HW1.out
          have HT6 : Hid (t6 gw = 0 ∧ gw < y5.heap.size) := ⟨(hs6.tag gw HGT.out.2).trans HGT.out.1, World.block_lt_of_cell? y5 ⟨gw, 0, none⟩ w0⟩
          obtain ⟨-, -, -, -, hb5, ht5⟩ := Ran.do HV4.out HB4.out HT4.out h2B HGO.out
          have h0 := word_any h6 pa HPA.out (by unfold maxLen; omega)
          rw [HMM.out] at h0
          have HWD : Hid (Calls Tryd.prog 18 #[.pointer (some ⟨b, 0, none⟩), .int .i64 pa] y5 fun e w' => e = .returned (.tuple #[.int .i64 pv, .int .i64 0]) ∧ TV W1.heap.size w' b M2 (30 * k + 11 + 11 + 1) t6 bm g cap ev6 us6 ∧ St t6 t6 y5 w') := h0
          have HV6 : Hid (TV W1.heap.size y5 b M2 (30 * k + 11 + 11) t6 bm g cap ev6 us6) := h6
          have HB5 : Hid (Below W1.heap.size W1 y5) := hb5
          have HT5 : Hid (Tab y5) := ht5
          clear hs6 h6 h0 hb5 ht5
          go_wp2_with fail
          refine HWD.out.mono ?_
          rintro e y7 ⟨rfl, hv7, hs7⟩
          have w1' : y7.cell? ⟨gw, 1, none⟩ = some (.int .i64 pv) := blk_cell (p := ⟨gw, 1, none⟩) (hs7.block gw HT6.out.2 HT6.out.1) w1
          have HR7 : Hid (Ran W1.heap.size W1 y7 b M2 (30 * (k + 1)) bm g cap) := by
            obtain ⟨t8, ev8, us8, h5, h6, h7⟩ := Ran.do HV6.out HB5.out HT5.out h2B ⟨t6, ev6, us6, hv7, hs7⟩
            exact ⟨t8, ev8, us8, h5.mono (by omega), h6, h7⟩
          clear hv7 hs7 w0 w1
          go_wp2
          go_roundg (l' - (k + 1))
          · exact ⟨k + 1, M2, rfl, by omega, Nat.le_refl _, HR7, HKO2⟩
          · omega
      · obtain rfl := hpos hs
        clear hneg hpos
        go_wp2_with fail
        refine HDO.out.mono ?_
        rintro e y2 ⟨rfl, hg⟩
        obtain ⟨t2, ev2, us2, hv2, hb2, ht2⟩ := Ran.do HTV.out HBX.out HTX.out h2B hg
        have HTH2 : Hid (Calls Tryd.prog 16 #[.pointer (some ⟨b, 0, none⟩), .int .i64 j] y2 fun e w' => ThIs y2.heap.size e w' (M1.th j) ∧ Below y2.heap.size y2 w') := thread_any hv2 hj1 (by omega)
        have HV2 : Hid (TV W1.heap.size y2 b M1 (30 * k + 11) t2 bm g cap ev2 us2) := hv2
        have HB2 : Hid (Below W1.heap.size W1 y2) := hb2
        have HT2 : Hid (Tab y2) := ht2
        clear hg hv2 hb2 ht2 HTV HBX HTX q0
        go_wp2_with fail
        refine HTH2.out.mono ?_
        rintro e y3 ⟨⟨wv, rfl, how⟩, hb3⟩
        obtain ⟨Y4, hY4⟩ : ∃ Y4, y3.alloc (.cells #[.int .i64 (M1.th j).c.r0, .int .i64 (M1.th j).c.r1, .int .i64 (M1.th j).c.r2, .int .i64 (M1.th j).c.r3, .int .i64 (M1.th j).c.r4, .int .i64 (M1.th j).c.r5, .int .i64 (M1.th j).c.r6, .int .i64 (M1.th j).c.r7, .int .i64 (M1.th j).c.pc, .int .i64 (M1.th j).c.st, .int .i64 (M1.th j).c.tr] 44) = Y4 := ⟨_, rfl⟩
        have hb4 : Below y2.heap.size y2 Y4 := by subst hY4; exact hb3.alloc hb3.size _
        have hb34 : Below y3.heap.size y3 Y4 := by subst hY4; exact bl_one _ _
        have how4 := own_below how hb34
        have hv4 := HV2.out.below hb4
        have hb14 : Below W1.heap.size W1 Y4 := HB2.out.trans (hb4.mono HB2.out.size)
        have ht4 := HT2.out.below hb4
        obtain ⟨hok1, hln1, hcd1, hes1⟩ := HOK1.out
        have hdo2 := do_any hv4 hok1 (by omega) (by unfold maxLen; omega) ht4 h2B (by rw [hcd1]; exact HMC.out) (by rw [hln1, HNN.out]; exact hnl.2) (2 * (j : Int) + 1) (by simp [Lit.wf, IntKind.min, IntKind.max, IntKind.signed, IntKind.bits]; omega)
        rw [T.did_two1 hj1, T.act_two1 hj1] at hdo2
        obtain ⟨nl1, nl2, nl3⟩ := T.now_leave hj1 hwl HNS.out.1
        have hok2 := hok1.act (p := 2 * (j : Int) + 1) (by omega)
        have hcd2 := (T.act_eq (M := M1) (by omega) (2 * (j : Int) + 1)).1
        have hes2 := T.act_len4 (M := M1) (by omega) (2 * (j : Int) + 1)
        rw [T.act_two1 hj1] at hok2 hcd2 hes2
        obtain ⟨M2, hM2⟩ : ∃ M2, T.leave M1 j = M2 := ⟨_, rfl⟩
        rw [hM2] at hdo2 nl1 nl2 nl3 hok2 hcd2 hes2
        have HKO2 : Hid (NowOk M0 M2 (k + 1)) := ⟨hok2, nl2.trans hln1, hcd2.trans hcd1, by omega, nl1⟩
        have HV4 : Hid (TV W1.heap.size Y4 b M1 (30 * k + 11) t2 bm g cap ev2 us2) := hv4
        have HB4 : Hid (Below W1.heap.size W1 Y4) := hb14
        have HT4 : Hid (Tab Y4) := ht4
        cases hws : (M1.th j).ws with
        | nil =>
          have hlv : T.leaves M1 j = false := by unfold T.leaves; rw [hws]; rfl
          rw [hlv] at hdo2
          have HDO2 : Hid (Calls Tryd.prog 14 #[.pointer (some ⟨b, 0, none⟩), .int .i64 (2 * (j : Int) + 1)] Y4 fun e w' => e = .returned (.bool false) ∧ Gone W1.heap.size Y4 w' b M2 (30 * k + 11 + 11) t2 bm g cap) := hdo2
          rw [hws] at how
          obtain ⟨wa, wc, rfl, hnc, hcm⟩ := own_sl how
          unfold maxLen at hcm
          simp only [List.length_nil] at hnc
          clear how how4 hv4 hb14 ht4 hdo2 hok1 hln1 hcd1 hes1 nl1 nl2 nl3 hok2 hcd2 hes2 hM2 hws hlv hb3 hb4 hb34 hwl
          go_wp2_with fail
          refine HDO2.out.mono ?_
          rintro e y5 ⟨rfl, hg⟩
          have HR5 : Hid (Ran W1.heap.size W1 y5 b M2 (30 * (k + 1)) bm g cap) := by
            obtain ⟨t5, ev5, us5, h5, h6, h7⟩ := Ran.do HV4.out HB4.out HT4.out h2B hg
            exact ⟨t5, ev5, us5, h5.mono (by omega), h6, h7⟩
          clear hg
          go_wp2
          go_roundg (l' - (k + 1))
          · exact ⟨k + 1, M2, rfl, by omega, Nat.le_refl _, HR5, HKO2⟩
          · omega
        | cons p r =>
          have hr0 : r = [] := by
            have := hwl
            rw [hws] at this
            simpa using this
          subst hr0
          obtain ⟨pa, pv⟩ := p
          have hlv : T.leaves M1 j = true := by unfold T.leaves; rw [hws]; rfl
          rw [hlv] at hdo2
          have HDO2 : Hid (Calls Tryd.prog 14 #[.pointer (some ⟨b, 0, none⟩), .int .i64 (2 * (j : Int) + 1)] Y4 fun e w' => e = .returned (.bool true) ∧ Gone W1.heap.size Y4 w' b M2 (30 * k + 11 + 11) t2 bm g cap) := hdo2
          have hpw := (hok1 j hj1).1.2 (pa, pv) (by rw [hws]; simp)
          have hmem := nl3 (pa, pv) hws (HNS.out.2 (pa, pv) hws)
          rw [hws] at how how4
          obtain ⟨wa, wc, rfl, hnc, hcm⟩ := own_sl how
          rcases how4.2 with ⟨hn4, -⟩ | ⟨gw, c', cur, hsl, hgb, -⟩
          · cases hn4
          obtain ⟨rfl, -, rfl⟩ : wa = some ⟨gw, 0, none⟩ ∧ True ∧ wc = c' := by cases hsl; exact ⟨rfl, trivial, rfl⟩
          have w0 := how4.cellAt 0 (by simp)
          have w1 := how4.cellAt 1 (by simp)
          simp [wC] at w0 w1
          have HGT : Hid (t2 gw = 0 ∧ gw < Y4.heap.size) := ⟨Classical.byContradiction fun e => by have := (HV2.out.lt gw e).2; omega, World.block_lt_of_cell? Y4 ⟨gw, 0, none⟩ w0⟩
          have HW0 : Hid (Y4.cell? ⟨gw, 0, none⟩ = some (.int .i64 pa)) := w0
          have HW1 : Hid (Y4.cell? ⟨gw, 1, none⟩ = some (.int .i64 pv)) := w1
          have HMM : Hid (M2.mem pa = some pv) := hmem
          have HPA : Hid ((Lit.int .i64 pa).wf = true) := hpw.1
          unfold maxLen at hcm
          simp only [List.length_cons, List.length_nil, Nat.zero_add] at hnc
          clear how how4 hv4 hb14 ht4 hdo2 hok1 hln1 hcd1 hes1 nl1 nl2 nl3 hok2 hcd2 hes2 hM2 hws hlv hb3 hb4 hb34 hwl hpw hmem w0 w1 hsl hgb
          go_wp2_with fail
          refine HDO2.out.mono ?_
          rintro e y5 ⟨rfl, hg⟩
          have HGO : Hid (Gone W1.heap.size Y4 y5 b M2 (30 * k + 11 + 11) t2 bm g cap) := hg
          obtain ⟨t6, ev6, us6, h6, hs6⟩ := hg
          have w0 : y5.cell? ⟨gw, 0, none⟩ = some (.int .i64 pa) := blk_cell (p := ⟨gw, 0, none⟩) (hs6.block gw HGT.out.2 HGT.out.1) HW0.out
          have w1 : y5.cell? ⟨gw, 1, none⟩ = some (.int .i64 pv) := blk_cell (p := ⟨gw, 1, none⟩) (hs6.block gw HGT.out.2 HGT.out.1) HW1.out
          have HT6 : Hid (t6 gw = 0 ∧ gw < y5.heap.size) := ⟨(hs6.tag gw HGT.out.2).trans HGT.out.1, World.block_lt_of_cell? y5 ⟨gw, 0, none⟩ w0⟩
          obtain ⟨-, -, -, -, hb5, ht5⟩ := Ran.do HV4.out HB4.out HT4.out h2B HGO.out
          have h0 := word_any h6 pa HPA.out (by unfold maxLen; omega)
          rw [HMM.out] at h0
          have HWD : Hid (Calls Tryd.prog 18 #[.pointer (some ⟨b, 0, none⟩), .int .i64 pa] y5 fun e w' => e = .returned (.tuple #[.int .i64 pv, .int .i64 0]) ∧ TV W1.heap.size w' b M2 (30 * k + 11 + 11 + 1) t6 bm g cap ev6 us6 ∧ St t6 t6 y5 w') := h0
          have HV6 : Hid (TV W1.heap.size y5 b M2 (30 * k + 11 + 11) t6 bm g cap ev6 us6) := h6
          have HB5 : Hid (Below W1.heap.size W1 y5) := hb5
          have HT5 : Hid (Tab y5) := ht5
          clear hs6 h6 h0 hb5 ht5
          go_wp2_with fail
          refine HWD.out.mono ?_
          rintro e y7 ⟨rfl, hv7, hs7⟩
          have w1' : y7.cell? ⟨gw, 1, none⟩ = some (.int .i64 pv) := blk_cell (p := ⟨gw, 1, none⟩) (hs7.block gw HT6.out.2 HT6.out.1) w1
          have HR7 : Hid (Ran W1.heap.size W1 y7 b M2 (30 * (k + 1)) bm g cap) := by
            obtain ⟨t8, ev8, us8, h5, h6, h7⟩ := Ran.do HV6.out HB5.out HT5.out h2B ⟨t6, ev6, us6, hv7, hs7⟩
            exact ⟨t8, ev8, us8, h5.mono (by omega), h6, h7⟩
          clear hv7 hs7 w0 w1
          go_wp2
          go_roundg (l' - (k + 1))
          · exact ⟨k + 1, M2, rfl, by omega, Nat.le_refl _, HR7, HKO2⟩
          · omega
    · obtain rfl : k = l' := by omega
      obtain ⟨t1, ev1, us1, htv, hbx, htx⟩ := HR.out
      have h0 := word_any htv x hx (by unfold maxLen; omega)
      obtain ⟨z1, hz1⟩ : ∃ z1, (M.mem x).getD 0 = z1 := ⟨_, rfl⟩
      obtain ⟨z2, hz2⟩ : ∃ z2, T.er (M.mem x) = z2 := ⟨_, rfl⟩
      have hz2' : z2 = 0 ∨ z2 = 11 := by rw [← hz2]; unfold T.er; split <;> simp
      rw [hz1, hz2] at h0
      have HWD : Hid (Calls Tryd.prog 18 #[.pointer (some ⟨b, 0, none⟩), .int .i64 x] wr fun e w' => e = .returned (.tuple #[.int .i64 z1, .int .i64 z2]) ∧ TV W1.heap.size w' b M (30 * k + 1) t1 bm g cap ev1 us1 ∧ St t1 t1 wr w') := h0
      have HRD : Hid (∀ y, TV W1.heap.size y b M (30 * k + 1) t1 bm g cap ev1 us1 → St t1 t1 wr y → Ran W1.heap.size W1 y b M (30 * k + 1) bm g cap) := fun y h1 h2 => Ran.do htv hbx htx h2B ⟨t1, ev1, us1, h1, h2⟩
      clear h0 hz1 hz2 htv hbx htx HKO
      go_wp2_with fail
      refine HWD.out.mono ?_
      rintro e y2 ⟨rfl, hv2, hs2⟩
      obtain ⟨t2, ev2, us2, -, hb2, ht2⟩ := HRD.out y2 hv2 hs2
      have HB2 : Hid (Below w.heap.size w y2) := HB1.out.trans (hb2.mono HB1.out.size)
      have HLV : Hid (Calls Tryd.prog 12 #[] y2 fun e w' => e = .returned (.bool true) ∧ Below y2.heap.size y2 w') := live_any y2 ht2
      clear hv2 hs2 hb2 ht2
      rcases hz2' with rfl | rfl
      all_goals
        go_wp2_with fail
        refine HLV.out.mono ?_
        rintro e y3 ⟨rfl, hb3⟩
        have HB3 : Hid (Below w.heap.size w y3) := HB2.out.trans (hb3.mono HB2.out.size)
        clear hb3
        go_wp2
        go_ret
        exact ⟨rfl, HB3.out⟩

theorem now_any {w : World} {v : Value} {m : ImgD} (h : ImgV w v m) (hl : m.syms.length ≤ 8796093022208) {a : Option Addr} {l c : Nat} {ps : List Int} (hp : IntsV w a l c ps) (x : Int) (hx : (Lit.int .i64 x).wf = true) (ht : Tab w) :
    Calls Tryd.prog 8 #[v, .slice a l c, .int .i64 x] w fun e w' => e = .returned (.bool true) ∧ Below w.heap.size w w' := by
  cases hm : m.may with
  | false => exact now_no h hl hm _ _ ht
  | true => exact now_yes h hl hm hp x hx ht

end Go.Proofs.YtdcdmlboilojmaaDoor

/- Proved: TsoNow answers true for every image, every steps and every address (the reach that the form gives is the only bound), where the tables of instructions are what their initialisers lay (the card ties that to the program): where each store leaves at once, no store ever waits behind a step, and what left stands in memory. -/
namespace Go.Proofs.YtdcdmlboilojmaaDoor.tsoNow
open Go.ChangeShapes Go.WideShapes Go.ChangeAt Go.RowKit
open Go.ChangeMaps (open_string shut_string)
set_option linter.unusedVariables false
set_option maxRecDepth 100000

theorem own : ownKnob Tryd.prog.godebug = none := by kernel_rfl
theorem laidO : laidOutB Tryd.prog = true := by kernel_rfl

/-! ### The row -/
theorem contract (H : Type) (enc : TypeId × Value → H) (W : World) (base : Nat) (args : Array Value) (ds gs : List (DataW H)) (before : List MemPlace)
    (hval : ∀ (j : Nat) t v, Tryd.f8.params[j]? = some t → args[j]? = some v → Value.okWide Tryd.prog W .any base t v)
    (hW : DataW.Whole enc Tryd.prog Tryd.f8.params.toList Rows.tsoNowSpec.vars false W args.toList ds gs before) (hsz : (DataW.weightsEach Tryd.prog (Tryd.f8.params.toList ++ Rows.tsoNowSpec.plain.varTypes Tryd.prog) (ds ++ gs)).all (· ≤ reachBytes) = true) (hT : Tab W) :
    Calls Tryd.prog 8 args W fun e W' => ∃ v, e = .returned v ∧ Rows.tsoNowSpec.post enc Tryd.prog Tryd.f8 false true false false W args v W' := by
  have hW' := hW
  obtain ⟨p, q, hA0, hV, rfl, hfz, hnd⟩ := hW
  have hA : DataW.TrodAll enc Tryd.prog W 0 (fun _ => true) true Tryd.f8.params.toList args.toList ds p := hA0
  have hlt := hA.lt
  rw [Tryd.params8] at hA hval hsz
  obtain ⟨v0, vs0, d0, ds0, p0, q0, hargs, rfl, rfl, h0, r0⟩ := trodAll_cons hA
  obtain ⟨v1, vs1, d1, ds1, p1, q1, rfl, rfl, rfl, h1, r1⟩ := trodAll_cons r0
  obtain ⟨v2, vs2, d2, ds2, p2, q2, rfl, rfl, rfl, h2, r2⟩ := trodAll_cons r1
  obtain ⟨rfl, rfl, rfl⟩ := trodAll_nil r2
  obtain rfl : args = #[v0, v1, v2] := by cases args; simp_all
  obtain ⟨rfl, rfl⟩ := trodVars_none hV
  obtain ⟨m0, V0⟩ := open_img (fun _ => rfl) (hval 0 25 v0 rfl rfl) h0
  have hl0 : m0.syms.length ≤ 8796093022208 := by
    have h1 := (img_sized (hval 0 25 v0 rfl rfl) h0 V0 (R := reachBytes) (fun n hn => by
      have h2 := List.all_eq_true.1 hsz n (DataW.weights_mem_each (j := 0) rfl rfl n hn)
      simpa using h2)).2
    have h3 : reachBytes = 140737488351232 := rfl
    omega
  obtain ⟨x1, y1, t1, rfl⟩ := okWide_slice Tryd.underlying26 (hval 1 26 v1 rfl rfl)
  have hh1 := h1
  obtain ⟨fuel1, g1⟩ := hh1
  obtain ⟨a1, l1, c1, zs1, e1, V1, -⟩ := open_N (v := .slice x1 y1 t1) (fun _ => rfl) g1
  cases e1
  have g2 := h2
  obtain ⟨z2, rfl, -, -, w2⟩ := open_int Tryd.underlying2 (hval 2 2 v2 rfl rfl) g2
  clear hA0
  simp only [List.append_nil] at hW'
  refine (now_any V0 hl0 V1 z2 w2 hT).mono fun e W' ⟨he, hg⟩ => ?_
  subst he
  exact ⟨_, rfl, _, _, _, [], _, [], hW', (trodAll_cons_mk (shut_bool Tryd.underlying4 _) trodAll_mk0), (trodAll_cons_mk (Below.trod laidO (by kernel_rfl) (of_decide_eq_true (by kernel_rfl)) h0 hg (fun x hx => hlt x (by simp [hx]))) (trodAll_cons_mk (Below.trod laidO (by kernel_rfl) (of_decide_eq_true (by kernel_rfl)) h1 hg (fun x hx => hlt x (by simp [hx]))) (trodAll_cons_mk (Below.trod laidO (by kernel_rfl) (of_decide_eq_true (by kernel_rfl)) h2 hg (fun x hx => hlt x (by simp [hx]))) trodAll_mk0))), rfl, hg.frame _, fun h => by cases h⟩

theorem laid_met (os : Os) : laidMet Tryd.prog Rows.tsoNowRow.laid ((laidWorld os).forCall (fun _ _ => 0) ⟨#[], #[.agg #[.string { data := #[] }, .slice none 0 0, .slice none 0 0], .slice none 0 0, .int .i64 0], []⟩).memory :=
  laidMet_of_run' 8 (by kernel_rfl) (by kernel_rfl)
theorem reads (os : Os) {H : Type} (enc : TypeId × Value → H) : ∃ places, DataW.whole enc Tryd.prog ((laidWorld os).forCall (fun _ _ => 0) ⟨#[], #[.agg #[.string { data := #[] }, .slice none 0 0, .slice none 0 0], .slice none 0 0, .int .i64 0], []⟩).memory Tryd.f8.params.toList Rows.tsoNowSpec.vars false (#[.agg #[.string { data := #[] }, .slice none 0 0, .slice none 0 0], .slice none 0 0, .int .i64 0] : Array Value).toList 8 = some ([.agg [.lit (.string []), .nil, .nil], .nil, .lit (.int .i64 0)], [], places) :=
  ⟨[], by kernel_rfl⟩

set_option maxRecDepth 100000 in
theorem lifted (os : Os) (started : os.Started) (H : Type) (enc : TypeId × Value → H) (F : Stop.Interp) :
    ReturnsInHanded {} Tryd.checked os 8 .any ((OpenSpec.ofChange Rows.tsoNowSpec).preRow enc Tryd.prog Tryd.f8 Rows.tsoNowRow.domain false Rows.tsoNowRow.laid) (((OpenSpec.ofChange Rows.tsoNowSpec).at F).post enc Tryd.prog Tryd.f8 false true false false) := by
  obtain ⟨places, hx⟩ := reads os enc
  refine returnsInHanded_of_row (C := Tryd.checked) (s := OpenSpec.ofChange Rows.tsoNowSpec) own started (by kernel_rfl) Tryd.func8
    (witness_row_at (enc := enc) (C := Tryd.checked) false (laidWorld os) #[.agg #[.string { data := #[] }, .slice none 0 0, .slice none 0 0], .slice none 0 0, .int .i64 0] rfl (by kernel_rfl) (by kernel_rfl) (by kernel_rfl)
      (OpenSpec.preRow_of_cond 8 hx (by kernel_rfl) (fun k hk => by cases hk) (by kernel_rfl) (laid_met os))) ?_
  intro W base args ds gs before hval hW _ hcond hsz hL _ _
  exact contract H enc W base args ds gs before hval hW hsz (tab_of_laid hL)

theorem said : Rows.TsoNowSaid :=
  OpenClaim.holds_of_cond 8 Tryd.f8 rfl rfl rfl rfl rfl rfl rfl ⟨rfl, rfl, rfl, rfl, rfl⟩ rfl rfl rfl rfl rfl (by kernel_rfl) Tryd.func8 (by kernel_rfl)
    (of_decide_eq_true (by kernel_rfl)) (by unfold Func.isWrapper; first | (rw [if_pos (by decide +kernel)]; kernel_rfl) | (rw [if_neg (by decide +kernel)]; exact ⟨rfl, rfl⟩))
    (fun os started H enc _ F => by rw [OpenClaim.pre_eq_preRow]; exact lifted os started H enc F)

/-- No parameter wants a stand-in; the program's own looks are off: what the card asks. -/
theorem plain (f : FuncId) (fn : Func) (hf : Tryd.pinned.checked.prog.funcNamed "cotter/cotterlaw05.TsoNow" = some f) (hfn : Tryd.pinned.checked.prog.funcs[f]? = some fn) :
    false = Tryd.pinned.checked.prog.looks [] ∧ ∀ (j : Nat) t, fn.params[j]? = some t → Tryd.pinned.checked.prog.wantsStandIn t = false := by
  obtain rfl : f = 8 := Option.some.inj ((show Tryd.prog.funcNamed "cotter/cotterlaw05.TsoNow" = some 8 by kernel_rfl).symm.trans hf) |>.symm
  obtain rfl : fn = Tryd.f8 := (Option.some.inj (Tryd.func8.symm.trans hfn)).symm
  refine ⟨by kernel_rfl, fun j t ht => ?_⟩
  rw [Tryd.params8] at ht
  have hm : t ∈ [25, 26, 2] := by simpa using Array.mem_of_getElem? ht
  have hall : ([25, 26, 2].all fun u => !Tryd.prog.wantsStandIn u) = true := by kernel_rfl
  exact (show Tryd.prog.wantsStandIn t = false by simpa using List.all_eq_true.1 hall t hm)

theorem card : Rows.TsoNowCardSaid :=
  Claim7.holds_tied_plain_at .later [] _ _ _ _ said (fun _ h => by cases h) (by kernel_rfl) (fun _ h => by cases h) tsoNow_row_tie rfl ⟨rfl, rfl⟩ (by kernel_rfl) rfl plain (by kernel_rfl)
end Go.Proofs.YtdcdmlboilojmaaDoor.tsoNow
namespace Go.Proofs.YtdcdmlboilojmaaDoor
/-- The statement. -/
theorem tsoNow_holds : Rows.TsoNowCardSaid := tsoNow.card
#print axioms tsoNow_holds
end Go.Proofs.YtdcdmlboilojmaaDoor
