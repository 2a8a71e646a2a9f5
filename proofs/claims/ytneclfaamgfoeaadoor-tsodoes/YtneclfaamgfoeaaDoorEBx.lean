/- The document's machine: a run. -/
import Derived.Test.YtneclfaamgfoeaaDoorEBw
import Derived.Test.YtneclfaamgfoeaaDoorEAw
import Derived.Test.YtneclfaamgfoeaaDoorEAa
import Derived.Test.YtneclfaamgfoeaaDoorProg
import Derived.WalkKit
import Derived.ChangeKeysEq
import Derived.Test.YtneclfaamgfoeaaDoorEAy
namespace Go.Proofs.YtneclfaamgfoeaaDoor
open Go.RowKit Go.Maps
set_option linter.unusedVariables false
set_option linter.unusedSimpArgs false

/-- The document's machine, as picks have left it, and the world since. -/
def XRan (B : Nat) (X wq : World) (b : Nat) (M : T.Mach) (vd vs : Value) (g cap : Nat) : Prop := ∃ t D S ev us, XV B wq b M t D S vd vs g cap ev us ∧ Below B X wq
theorem XRan.do {B : Nat} {X wq y : World} {b : Nat} {M M' : T.Mach} {t : Nat → Nat} {D S : List Int} {vd vs : Value} {g cap : Nat} {ev : Value} {us : List Value} (h : XV B wq b M t D S vd vs g cap ev us) (hb : Below B X wq) (hg : XGone B wq y b M' t vd vs g cap) : XRan B X y b M' vd vs g cap := by
  obtain ⟨t', D', S', ev', us', h1, hs⟩ := hg
  exact ⟨t', D', S', ev', us', h1, hb.trans (hs.toBelow (fun k hk => (h.lt k hk).1) h.hB)⟩
theorem mach_fit (m : ImgD) (hm : m.may = true) (hd : ∀ n ∈ m.data, (Lit.int .i64 n).wf = true) : T.Fit m.mach :=
  T.mach0_fit hd (of_decide_eq_true (Bool.and_eq_true_iff.1 hm).1).2.1

set_option maxRecDepth 100000 in
set_option maxHeartbeats 8000000 in
theorem xrun_no {w : World} {v p : Value} {m : ImgD} (h : ImgV w v m) (hl : m.syms.length ≤ 8796093022208) (hm : m.may = false) :
    Calls Tryd.prog 24 #[v, p] w fun e w' => e = .returned (.tuple #[.slice none 0 0, .int .i64 1]) ∧ Below w.heap.size w w' := by
  obtain ⟨a1, l1, c1, a2, l2, c2, rfl, hs, h1, h2⟩ := h.form
  obtain ⟨W1, hW1⟩ : ∃ W1, w.alloc (.cells #[.string m.code, .slice a1 l1 c1, .slice a2 l2 c2] 25) = W1 := ⟨_, rfl⟩
  have b1 : Below w.heap.size w W1 := by subst hW1; exact bl_one _ _
  have v0 : W1.cell? ⟨w.heap.size, 0, none⟩ = some (.string m.code) := by subst hW1; exact cell_last _ _ _ _ _ rfl rfl
  have v1 : W1.cell? ⟨w.heap.size, 1, none⟩ = some (.slice a1 l1 c1) := by subst hW1; exact cell_last _ _ _ _ _ rfl rfl
  have v2 : W1.cell? ⟨w.heap.size, 2, none⟩ = some (.slice a2 l2 c2) := by subst hW1; exact cell_last _ _ _ _ _ rfl rfl
  have HB1 : Hid (Below w.heap.size w W1) := b1
  have HN : Hid (Calls Tryd.prog 11 #[.agg #[.string m.code, .slice a1 l1 c1, .slice a2 l2 c2]] W1 fun e w' => XNewAns W1.heap.size e w' m ∧ Below W1.heap.size W1 w') := xnew_any (h.below b1) hl
  have HM : Hid (m.may = false) := hm
  clear h h1 h2 hl hm b1
  go_enter Tryd.func24, Tryd.ntmps24
  go_wp2_with fail
  refine HN.out.mono ?_
  rintro e y1 ⟨hans, hb1⟩
  rcases hans with ⟨e1, -⟩ | ⟨-, rfl⟩
  · rw [HM.out] at e1; cases e1
  have HB2 : Hid (Below w.heap.size w y1) := HB1.out.trans (hb1.mono HB1.out.size)
  clear hb1
  go_wp2
  go_ret2
  exact ⟨rfl, HB2.out⟩

set_option maxRecDepth 100000 in
set_option maxHeartbeats 8000000 in
theorem xrun_yes {w : World} {v : Value} {m : ImgD} (h : ImgV w v m) (hl : m.syms.length ≤ 8796093022208) (hm : m.may = true) {a : Option Addr} {l c : Nat} {ps : List Int} (hp : IntsV w a l c ps) (hl2 : l ≤ 400000) :
    Calls Tryd.prog 24 #[v, .slice a l c] w fun e w' => RunIs w.heap.size e w' (T.runs m.mach ps).es ∧ Below w.heap.size w w' := by
  obtain ⟨a1, l1, c1, a2, l2, c2, rfl, hs, h1, h2⟩ := h.form
  obtain ⟨W1, hW1⟩ : ∃ W1, w.alloc (.cells #[.string m.code, .slice a1 l1 c1, .slice a2 l2 c2] 25) = W1 := ⟨_, rfl⟩
  have b1 : Below w.heap.size w W1 := by subst hW1; exact bl_one _ _
  have v0 : W1.cell? ⟨w.heap.size, 0, none⟩ = some (.string m.code) := by subst hW1; exact cell_last _ _ _ _ _ rfl rfl
  have v1 : W1.cell? ⟨w.heap.size, 1, none⟩ = some (.slice a1 l1 c1) := by subst hW1; exact cell_last _ _ _ _ _ rfl rfl
  have v2 : W1.cell? ⟨w.heap.size, 2, none⟩ = some (.slice a2 l2 c2) := by subst hW1; exact cell_last _ _ _ _ _ rfl rfl
  have HB1 : Hid (Below w.heap.size w W1) := b1
  have HN : Hid (Calls Tryd.prog 11 #[.agg #[.string m.code, .slice a1 l1 c1, .slice a2 l2 c2]] W1 fun e w' => XNewAns W1.heap.size e w' m ∧ Below W1.heap.size W1 w') := xnew_any (h.below b1) hl
  have HP : Hid (IntsV W1 a l c ps) := hp.below b1
  have hro := hp.room
  unfold maxLen at hro
  have HL : Hid (ps.length = l) := hp.count
  have HML : Hid (0 < m.mach.ts.length ∧ m.mach.ts.length ≤ 4) := mach_len m hm
  have HMC : Hid (m.mach.code.size ≤ 65536) := mach_code m hm
  have HMO : Hid (MOk m.mach) := mach_ok m
  have HMF : Hid (T.Fit m.mach) := mach_fit m hm h1.fits
  have HE0 : Hid (m.mach.es = []) := rfl
  have HM : Hid (m.may = true) := hm
  clear h h1 h2 hl hm b1 hp
  go_enter Tryd.func24, Tryd.ntmps24
  go_wp2_with fail
  refine HN.out.mono ?_
  rintro e y1 ⟨hans, hb1⟩
  rcases hans with ⟨-, hx⟩ | ⟨e1, -⟩
  rotate_left
  · rw [HM.out] at e1; cases e1
  obtain ⟨b, t, D, S0, vd, vs, g, cap, us, rfl, hxv⟩ := hx
  have HR0 : Hid (XRan W1.heap.size W1 y1 b (T.runs m.mach (ps.take 0)) vd vs g cap) := ⟨t, D, S0, _, us, hxv, hb1⟩
  clear hxv hb1 v0 v1 v2
  obtain ⟨M0, hM0⟩ : ∃ M0, m.mach = M0 := ⟨_, rfl⟩
  rw [hM0] at HML HMC HMO HMF HE0 HR0
  have HMM : Hid (m.mach = M0) := hM0
  clear hM0
  go_wp2_with fail
  go_loopg [8] l (fun r iv wq => ∃ (k : Nat), iv = .int .i64 k ∧ k ≤ l ∧ l - k ≤ r ∧ Hid (XRan W1.heap.size W1 wq b (T.runs M0 (ps.take k)) vd vs g cap))
  case atStart => exact ⟨0, rfl, Nat.zero_le _, by omega, HR0⟩
  case round =>
    obtain ⟨k, rfl, hk, hr, HR⟩ := hrel
    obtain ⟨t1, D1, S1, ev1, us1, hxv, hbx⟩ := HR.out
    have hln := T.runs_len (ps.take k) M0 HML.out.1
    have hcd := T.runs_code (ps.take k) M0 HML.out.1
    obtain ⟨xs, hxs, hxl⟩ := T.runs_es (ps.take k) M0 HML.out.1
    have hes : (T.runs M0 (ps.take k)).es.length ≤ 800000 := by rw [hxs, HE0.out, List.nil_append]; rw [List.length_take] at hxl; omega
    by_cases hlt : k < l
    · rcases (HP.out.below hbx).cells with h0 | ⟨zb, zo, hA, hcl⟩
      · omega
      have q0 := hcl k hlt
      have hkl : k < ps.length := by rw [HL.out]; exact hlt
      obtain ⟨z, hz⟩ : ∃ z, ps.getD k 0 = z := ⟨_, rfl⟩
      rw [hz] at q0
      have hzf := HP.out.fits z (by rw [← hz]; simp [List.getD, hkl])
      have HTK : Hid (T.runs M0 (ps.take (k + 1)) = T.act (T.runs M0 (ps.take k)) z) := by
        show _ = _
        rw [List.take_succ_eq_append_getElem hkl, T.runs_snoc, ← hz]
        simp [List.getD, hkl]
      have HDO : Hid (Calls Tryd.prog 15 #[.pointer (some ⟨b, 0, none⟩), .int .i64 z] wr fun e w' => e = .returned (.bool (T.did (T.runs M0 (ps.take k)) z)) ∧ XGone W1.heap.size wr w' b (T.act (T.runs M0 (ps.take k)) z) t1 vd vs g cap) :=
        xdo_any hxv (MOk.runs _ HMO.out HML.out.1) (T.Fit.runs _ HMF.out HMO.out HML.out.1) (by omega) (by rw [hcd]; exact HMC.out) z hzf
      have HXV : Hid (XV W1.heap.size wr b (T.runs M0 (ps.take k)) t1 D1 S1 vd vs g cap ev1 us1) := hxv
      have HBX : Hid (Below W1.heap.size W1 wr) := hbx
      subst hA
      have hii : (k : Int) < l := by omega
      have hin : 0 ≤ (k : Int) := by omega
      clear hcl hz hzf hxv hbx hln hcd hxs hxl hes
      go_wp2_with fail
      refine HDO.out.mono ?_
      rintro e y2 ⟨rfl, hg⟩
      have HR2 : Hid (XRan W1.heap.size W1 y2 b (T.runs M0 (ps.take (k + 1))) vd vs g cap) := by
        show XRan _ _ _ _ _ _ _ _ _
        rw [HTK.out]
        exact XRan.do HXV.out HBX.out hg
      clear hg
      go_wp2
      go_roundg (l - (k + 1))
      · exact ⟨k + 1, rfl, by omega, Nat.le_refl _, HR2⟩
      · omega
    · obtain rfl : k = l := by omega
      have hps : ps.take k = ps := by rw [← HL.out, List.take_length]
      rw [hps] at hxv
      have c4 := hxv.c4
      have HO : Hid (wr.ownsRow w.heap.size 81 3 ev1 (T.runs M0 ps).es.length ((T.runs M0 ps).es.flatMap eC)) := own_mono hxv.evs HB1.out.size
      have HBW : Hid (Below w.heap.size w wr) := HB1.out.trans (hbx.mono HB1.out.size)
      clear hxv hbx hln hcd hxs hxl hes hps HR
      go_wp2
      go_ret2
      refine ⟨⟨_, rfl, ?_⟩, HBW.out⟩
      rw [HMM.out]
      exact HO.out

end Go.Proofs.YtneclfaamgfoeaaDoor

/- Two lists of waiting stores, held against each other. -/
namespace Go.Proofs.YtneclfaamgfoeaaDoor
open Go.RowKit Go.Maps
set_option linter.unusedVariables false
set_option linter.unusedSimpArgs false

structure WaV (w : World) (a : Option Addr) (n c : Nat) (ws : List T.Wait) : Prop where
  count : ws.length = n
  room : n ≤ c ∧ c ≤ maxLen
  cells : n = 0 ∨ ∃ b off, a = some ⟨b, off, none⟩ ∧ ∀ i, i < n → w.cell? ⟨b, off + i * 2, none⟩ = some (.int .i64 (ws.getD i (0, 0)).1) ∧ w.cell? ⟨b, off + i * 2 + 1, none⟩ = some (.int .i64 (ws.getD i (0, 0)).2)
theorem WaV.below {w w1 : World} {a : Option Addr} {n c : Nat} {ws : List T.Wait} (h : WaV w a n c ws) (hb : Below w.heap.size w w1) : WaV w1 a n c ws := by
  refine ⟨h.count, h.room, ?_⟩
  rcases h.cells with h0 | ⟨b, off, ha, hc⟩
  · exact .inl h0
  · exact .inr ⟨b, off, ha, fun i hi => ⟨cell_up hb (hc i hi).1, cell_up hb (hc i hi).2⟩⟩
theorem wa_own {w : World} {B : Nat} {v : Value} {n : Nat} {ws : List T.Wait} (h : w.ownsRow B 52 2 v n (ws.flatMap wC)) (hn : ws.length = n) : ∃ a c, v = .slice a n c ∧ WaV w a n c ws := by
  obtain ⟨a, c, rfl, h1, h2⟩ := row_at (m := 2) (f := wC) (0, 0) (fun _ => rfl) h hn
  obtain ⟨a', c', e, h3, h4⟩ := own_sl h
  cases e
  refine ⟨a, c, rfl, ⟨hn, ⟨h3, h4⟩, ?_⟩⟩
  rcases h2 with h2 | ⟨b, off, rfl, h2⟩
  · exact .inl h2
  · exact .inr ⟨b, off, rfl, fun i hi => ⟨by have := h2 i hi 0 _ (by decide) rfl; simpa using this, h2 i hi 1 _ (by decide) rfl⟩⟩

theorem WaV.take {w : World} {a : Option Addr} {n c : Nat} {ws : List T.Wait} (h : WaV w a n c ws) (m : Nat) (hm : m ≤ n) : WaV w a m c (ws.take m) := by
  refine ⟨by rw [List.length_take, h.count]; omega, ⟨by have := h.room; omega, h.room.2⟩, ?_⟩
  rcases h.cells with h0 | ⟨b, off, ha, hc⟩
  · exact .inl (by omega)
  · refine .inr ⟨b, off, ha, fun i hi => ?_⟩
    have e : (ws.take m).getD i (0, 0) = ws.getD i (0, 0) := by simp [List.getD, List.getElem?_take, hi]
    rw [e]
    exact hc i (by omega)
theorem WaV.drop {w : World} {g n c : Nat} {ws : List T.Wait} (h : WaV w (some ⟨g, 0, none⟩) n c ws) (j : Nat) (hj : j ≤ n) : WaV w (some ⟨g, j * 2, none⟩) (n - j) (c - j) (ws.drop j) := by
  refine ⟨by rw [List.length_drop, h.count], ⟨by have := h.room; omega, by have := h.room; omega⟩, ?_⟩
  rcases h.cells with h0 | ⟨b, off, ha, hc⟩
  · exact .inl (by omega)
  · cases ha
    refine .inr ⟨g, j * 2, rfl, fun i hi => ?_⟩
    have e : (ws.drop j).getD i (0, 0) = ws.getD (j + i) (0, 0) := by simp [List.getD, List.getElem?_drop]
    rw [e]
    have := hc (j + i) (by omega)
    rw [show 0 + (j + i) * 2 = j * 2 + i * 2 by omega] at this
    exact this
theorem eqWt (a b a' b' : Int) (w : World) : (Op.equalIn 10000 52 (.agg #[.int .i64 a, .int .i64 b]) (.agg #[.int .i64 a', .int .i64 b'])).run Tryd.prog w = .ok (decide (a = a' ∧ b = b')) w := by
  by_cases h1 : a = a'
  · subst h1
    by_cases h2 : b = b'
    · subst h2; go_simp
    · go_simp
  · go_simp

set_option maxRecDepth 100000 in
set_option maxHeartbeats 8000000 in
theorem sameW_any {w : World} {a a' : Option Addr} {n c n' c' : Nat} {us vs : List T.Wait} (h1 : WaV w a n c us) (h2 : WaV w a' n' c' vs) :
    Calls Tryd.prog 17 #[.slice a n c, .slice a' n' c'] w fun e w' => e = .returned (.bool (decide (us = vs))) ∧ Below w.heap.size w w' := by
  have hr1 := h1.room
  have hr2 := h2.room
  unfold maxLen at hr1 hr2
  by_cases hnn : n = n'
  · subst hnn
    obtain ⟨rb, hrb⟩ : ∃ rb, decide (us = vs) = rb := ⟨_, rfl⟩
    have HNO : Hid (∀ k, k < n → us.getD k (0, 0) ≠ vs.getD k (0, 0) → rb = false) := fun k hk e => by rw [← hrb]; exact decide_eq_false (fun e2 => e (by rw [e2]))
    have HYE : Hid ((∀ k, k < n → us.getD k (0, 0) = vs.getD k (0, 0)) → rb = true) := fun e => by
      rw [← hrb]
      refine decide_eq_true (List.ext_getElem (h1.count.trans h2.count.symm) fun i hi hj => ?_)
      have := e i (by rw [← h1.count]; exact hi)
      simpa [List.getD, hi, hj] using this
    rw [hrb]
    have HA : Hid _ := h1.cells
    have HA' : Hid _ := h2.cells
    have heq : ∀ (x y x' y' : Int) (w : World), (Op.equalIn 10000 52 (.agg #[.int .i64 x, .int .i64 y]) (.agg #[.int .i64 x', .int .i64 y'])).run Tryd.prog w = .ok (decide (x = x' ∧ y = y')) w := eqWt
    clear h1 h2 hrb
    go_enter Tryd.func17, Tryd.ntmps17
    go_wp2_with fail
    go_loopg [5] n (fun r iv wq => ∃ (k : Nat), iv = .int .i64 k ∧ k ≤ n ∧ n - k ≤ r ∧ Hid (∀ i, i < k → us.getD i (0, 0) = vs.getD i (0, 0)) ∧ Hid (Below w.heap.size w wq))
    case atStart => exact ⟨0, rfl, Nat.zero_le _, by omega, (fun i hi => absurd hi (by omega) : ∀ i, i < 0 → _), Below.refl _ _⟩
    case round =>
      obtain ⟨k, rfl, hk, hr, HE, HB⟩ := hrel
      by_cases hlt : k < n
      · rcases HA.out with h0 | ⟨g, o, hg, hc⟩
        · omega
        rcases HA'.out with h0 | ⟨g', o', hg', hc'⟩
        · omega
        obtain ⟨⟨x, y⟩, hx⟩ : ∃ x, us.getD k (0, 0) = x := ⟨_, rfl⟩
        obtain ⟨⟨x', y'⟩, hx'⟩ : ∃ x, vs.getD k (0, 0) = x := ⟨_, rfl⟩
        have f := hc k hlt
        have f' := hc' k hlt
        rw [hx] at f
        rw [hx'] at f'
        have d0 := cell_up HB.out f.1
        have d1 := cell_up HB.out f.2
        have d0' := cell_up HB.out f'.1
        have d1' := cell_up HB.out f'.2
        simp only at d0 d1 d0' d1'
        have HNK : Hid (¬ (x = x' ∧ y = y') → rb = false) := fun e => HNO.out k hlt (by rw [hx, hx']; intro q; cases q; exact e ⟨rfl, rfl⟩)
        have HEK : Hid (x = x' ∧ y = y' → ∀ i, i < k + 1 → us.getD i (0, 0) = vs.getD i (0, 0)) := fun e i hi => by
          by_cases q : i = k
          · subst q; rw [hx, hx', e.1, e.2]
          · exact HE.out i (by omega)
        cases hg
        cases hg'
        have hii : (k : Int) < n := by omega
        have hin : 0 ≤ (k : Int) := by omega
        have HB2 : Hid (Below w.heap.size w wr.drew) := HB.out.drew
        clear hc hc' f f' hx hx'
        by_cases hxy : x = x' ∧ y = y'
        · have hd : decide (x = x' ∧ y = y') = true := decide_eq_true hxy
          have HE2 : Hid _ := HEK.out hxy
          clear hxy HNK HEK
          go_wp2_with fail
          go_region
          go_wp2
          go_roundg (n - (k + 1))
          · exact ⟨k + 1, rfl, by omega, Nat.le_refl _, HE2, HB2⟩
          · omega
        · have hd : decide (x = x' ∧ y = y') = false := decide_eq_false hxy
          obtain rfl := HNK.out hxy
          clear hxy HNK HEK
          go_wp2_with fail
          go_region
          go_wp2
          go_ret
          exact ⟨rfl, HB2.out⟩
      · obtain rfl : k = n := by omega
        obtain rfl := HYE.out HE.out
        go_wp2
        go_ret
        exact ⟨rfl, HB.out⟩
  · have hd : decide (us = vs) = false := decide_eq_false (fun e => hnn (by rw [← h1.count, ← h2.count, e]))
    rw [hd]
    have hni : ¬ (n : Int) = n' := by omega
    clear h1 h2 hd hnn
    go_enter Tryd.func17, Tryd.ntmps17
    go_wp2
    go_ret
    exact ⟨rfl, Below.refl _ _⟩

end Go.Proofs.YtneclfaamgfoeaaDoor

/- Two threads that are the same, held against each other: the array of registers. -/
namespace Go.Proofs.YtneclfaamgfoeaaDoor
open Go.RowKit

theorem info_i64 : ∃ i, Tryd.prog.info? 2 = some i := by
  have h : (Tryd.prog.info? 2).isSome = true := by kernel_rfl
  exact Option.isSome_iff_exists.1 h
theorem plain_i64 : Tryd.prog.plainKey 2 = true := by kernel_rfl

theorem eq_step (w : World) (xs : Array Value) (i : Nat) (is : List Nat) (a : Int) (h : xs[i]? = some (.int .i64 a)) :
    (Op.eqItems 9998 2 1 xs xs (i :: is)).run Tryd.prog w = (Op.eqItems 9998 2 1 xs xs is).run Tryd.prog w := by
  have hp := run_part_plain w plain_i64 (xs := xs) (off := i * 1) (v := .int .i64 a) (by rw [Nat.mul_one]; exact h)
  simp only [Op.eqItems, Sem.run_bind, hp, Result.andThen_ok, run_equalIn_int w 9997 2 .i64 .i64 a a Tryd.underlying2]
  simp

theorem eq8 (c : S.C) (w : World) : (Op.equalIn 9999 42 (.agg #[.int .i64 c.r0, .int .i64 c.r1, .int .i64 c.r2, .int .i64 c.r3, .int .i64 c.r4, .int .i64 c.r5, .int .i64 c.r6, .int .i64 c.r7]) (.agg #[.int .i64 c.r0, .int .i64 c.r1, .int .i64 c.r2, .int .i64 c.r3, .int .i64 c.r4, .int .i64 c.r5, .int .i64 c.r6, .int .i64 c.r7])).run Tryd.prog w = .ok true w := by
  obtain ⟨i, hi⟩ := info_i64
  rw [run_equalIn_array w 9998 _ _ Tryd.underlying42 hi, cell_i64, show List.range 8 = [0, 1, 2, 3, 4, 5, 6, 7] from rfl]
  rw [eq_step w _ 0 _ c.r0 rfl, eq_step w _ 1 _ c.r1 rfl, eq_step w _ 2 _ c.r2 rfl, eq_step w _ 3 _ c.r3 rfl, eq_step w _ 4 _ c.r4 rfl, eq_step w _ 5 _ c.r5 rfl, eq_step w _ 6 _ c.r6 rfl, eq_step w _ 7 _ c.r7 rfl]
  simp [Op.eqItems]
end Go.Proofs.YtneclfaamgfoeaaDoor

/- For TsoDoes: a thread that there is not; an image copied; both machines side by side. -/
namespace Go.Proofs.YtneclfaamgfoeaaDoor
open Go.RowKit Go.Maps
set_option linter.unusedVariables false
set_option linter.unusedSimpArgs false

set_option maxRecDepth 100000 in
set_option maxHeartbeats 4000000 in
theorem thread_no {B : Nat} {w : World} {b : Nat} {M : T.Mach} {K : Nat} {t : Nat → Nat} {bm g cap : Nat} {ev : Value} {us : List Value} (h : TV B w b M K t bm g cap ev us) {z : Int} (hz : z < 0 ∨ (M.ts.length : Int) ≤ z) :
    Calls Tryd.prog 16 #[.pointer (some ⟨b, 0, none⟩), .int .i64 z] w fun e w' => e = .returned (.tuple #[T.noC.v, .slice none 0 0]) ∧ Below w.heap.size w w' := by
  have HT : Hid (∀ y, Below w.heap.size w y → Calls Tryd.prog 20 #[.pointer (some ⟨b, 0, none⟩)] y fun e w' => e = .returned (.int .i64 M.ts.length) ∧ w' = y) := fun y hy => threads_any (h.below hy)
  obtain ⟨n, hn⟩ : ∃ n, M.ts.length = n := ⟨_, rfl⟩
  rw [hn] at HT hz
  clear h hn
  by_cases h0 : z < 0
  · clear hz
    go_enter Tryd.func16, Tryd.ntmps16
    go_wp2
    exact bodyPost_ret (v := .tuple #[T.noC.v, .slice none 0 0]) (by simp [results, Tryd.results16, go_sem, T.noC]) rfl ⟨rfl, bl_one _ _⟩
  · have hd : decide (z < 0) = false := decide_eq_false h0
    have hd2 : decide ((n : Int) ≤ z) = true := decide_eq_true (by omega)
    clear hz
    go_enter Tryd.func16, Tryd.ntmps16
    go_wp2_with fail
    refine (HT.out _ (bl_one _ _)).mono ?_
    rintro e y ⟨rfl, rfl⟩
    go_wp2
    exact bodyPost_ret (v := .tuple #[T.noC.v, .slice none 0 0]) (by simp [results, Tryd.results16, go_sem, T.noC]) rfl ⟨rfl, bl_one _ _⟩

theorem below_new' {w x y : World} {B : Nat} {r : Option Nat} (hb : Below B w x) (hB : B ≤ x.heap.size) (hg : x.grownBy y r) (hr : r = none) : Below B w y :=
  ⟨hg.os.trans hb.os, hg.tape.trans hb.tape, hg.output.trans hb.output, Nat.le_trans hb.size hg.size, fun k hk => (hg.block k (Nat.lt_of_lt_of_le hk hB) (fun e => by rw [hr] at e; cases e)).trans (hb.block k hk)⟩

/-- An image of one's own. -/
def ImgIs (B : Nat) (e : Ending) (w' : World) (m : ImgD) : Prop := ∃ ad cd a2 c2, e = .returned (.agg #[.string m.code, .slice ad m.data.length cd, .slice a2 m.syms.length c2]) ∧ w'.ownsRow B 2 1 (.slice ad m.data.length cd) m.data.length (intR m.data) ∧ w'.ownsRow B 64 3 (.slice a2 m.syms.length c2) m.syms.length (m.syms.flatMap sC)

set_option maxRecDepth 100000 in
set_option maxHeartbeats 8000000 in
theorem icopied_any {w : World} {v : Value} {m : ImgD} (h : ImgV w v m) (hl : m.syms.length ≤ 4398046510976) (hl2 : m.data.length ≤ 17592186044416) :
    Calls Tryd.prog 9 #[v] w fun e w' => ImgIs w.heap.size e w' m ∧ Below w.heap.size w w' := by
  obtain ⟨a1, l1, c1, a2, l2, c2, rfl, hs, h1, h2⟩ := h.form
  obtain ⟨il, hil, hl0, hl1, hl2'⟩ := info_partsL infoLN
  obtain ⟨is', his, hs0, hs1, hs2⟩ := info_partsL infoS
  obtain ⟨X1, hX1⟩ : ∃ X1, w.alloc (.cells #[.string m.code, .slice a1 l1 c1, .slice a2 l2 c2] 25) = X1 := ⟨_, rfl⟩
  have hb1 : Below w.heap.size w X1 := by subst hX1; exact bl_one _ _
  have o0 : X1.cell? ⟨w.heap.size, 0, none⟩ = some (.string m.code) := by subst hX1; exact cell_last _ _ _ _ _ rfl rfl
  have o1 : X1.cell? ⟨w.heap.size, 1, none⟩ = some (.slice a1 l1 c1) := by subst hX1; exact cell_last _ _ _ _ _ rfl rfl
  have o2 : X1.cell? ⟨w.heap.size, 2, none⟩ = some (.slice a2 l2 c2) := by subst hX1; exact cell_last _ _ _ _ _ rfl rfl
  have HD : Hid (IntsV X1 a1 l1 c1 m.data) := h1.below hb1
  have HY : Hid (SymsV X1 a2 l2 c2 m.syms) := h2.below hb1
  have HC1 : Hid (m.data.length = l1) := h1.count
  have HC2 : Hid (m.syms.length = l2) := h2.count
  rw [h1.count] at hl2
  rw [h2.count] at hl
  obtain ⟨X2, hX2⟩ : ∃ X2, X1.alloc (.cells #[.string { data := #[] }, .slice none 0 0, .slice none 0 0] 25) = X2 := ⟨_, rfl⟩
  obtain ⟨br, hbr⟩ : ∃ br, X1.heap.size = br := ⟨_, rfl⟩
  obtain ⟨bo, hbo⟩ : ∃ bo, X2.heap.size = bo := ⟨_, rfl⟩
  have HBS : Hid (BS w (X2.alloc (.cells #[.string m.code, .slice none 0 0, .slice none 0 0] 25)) [⟨64, 3, .slice none 0 0, 0, []⟩, ⟨2, 1, .slice none 0 0, 0, []⟩] [(bo, [.string m.code, .slice none 0 0, .slice none 0 0]), (br, [.string { data := #[] }, .slice none 0 0, .slice none 0 0]), (w.heap.size, [.string m.code, .slice a1 l1 c1, .slice a2 l2 c2])]) := by
    have h9 := (((((BS.start w).alloc #[.string m.code, .slice a1 l1 c1, .slice a2 l2 c2] 25).alloc #[.string { data := #[] }, .slice none 0 0, .slice none 0 0] 25).alloc #[.string m.code, .slice none 0 0, .slice none 0 0] 25).nil 2 1).nil 64 3
    rw [hX1, hX2, hbr, hbo] at h9
    exact h9
  have b2 : Below X1.heap.size X1 X2 := by subst hX2; exact bl_one _ _
  have b3 : Below X2.heap.size X2 (X2.alloc (.cells #[.string m.code, .slice none 0 0, .slice none 0 0] 25)) := bl_one _ _
  have o02 := cell_up b2 o0
  have hb13 : Below X1.heap.size X1 (X2.alloc (.cells #[.string m.code, .slice none 0 0, .slice none 0 0] 25)) := b2.trans (b3.mono b2.size)
  have hbx := HBS.out.box
  have x0 : (X2.alloc (.cells #[.string m.code, .slice none 0 0, .slice none 0 0] 25)).cell? ⟨bo, 1, none⟩ = some (.slice none 0 0) := (hbx 0 _ rfl).1 1 _ rfl
  have x1 : (X2.alloc (.cells #[.string m.code, .slice none 0 0, .slice none 0 0] 25)).cell? ⟨w.heap.size, 1, none⟩ = some (.slice a1 l1 c1) := (hbx 2 _ rfl).1 1 _ rfl
  have f1 : (X2.alloc (.cells #[.string m.code, .slice none 0 0, .slice none 0 0] 25)).frozen? ⟨bo, 1, none⟩ = false := (hbx 0 _ rfl).2.1 1
  have HNIL : Hid (∀ z : World, z.ownsRow w.heap.size 2 1 (.slice none 0 0) 0 []) := fun z => World.ownsRow_nil _ _ _ _
  have HWL : Hid (w.heap.size ≤ (X2.alloc (.cells #[.string m.code, .slice none 0 0, .slice none 0 0] 25)).heap.size) := HBS.out.low.size
  have HDC : Hid (∀ ad, a1 = some ad → ∀ j u, (intR m.data)[j]? = some u → (X2.alloc (.cells #[.string m.code, .slice none 0 0, .slice none 0 0] 25)).cell? (ad.add j) = some u) := fun ad had j u hu => by
    have hiv := HD.out.below hb13
    have hj : j < m.data.length := by have := (List.getElem?_eq_some_iff.1 hu).1; rwa [intR_len] at this
    rw [HC1.out] at hj
    rcases hiv.cells with h0 | ⟨b', off, ha, hc⟩
    · omega
    · rw [had] at ha
      cases ha
      rw [Addr.add_lit]
      have h9 := hc j hj
      rw [intR_at (by rw [HC1.out]; exact hj)] at hu
      cases hu
      exact h9
  have HDN : Hid (a1 = none → l1 = 0 ∧ c1 = 0) := HD.out.nilOf
  have HDL : Hid ((intR m.data).length = l1 * 1) := by show _ = _; rw [intR_len, HC1.out, Nat.mul_one]
  have HON : Hid (∀ u ∈ intR m.data, u.oneCell' = true) := fun u hu => by
    obtain ⟨z, -, rfl⟩ := List.mem_map.1 hu
    rfl
  have HSN : Hid (a2 = none → l2 = 0 ∧ c2 = 0) := HY.out.nilOf
  have HSL : Hid ((m.syms.flatMap sC).length = l2 * 3) := by show _ = _; rw [flat_len' (m := 3) (fun _ => rfl), HC2.out]
  have HSO : Hid (∀ u ∈ m.syms.flatMap sC, u.oneCell' = true) := fun u hu => by
    obtain ⟨q, -, hq⟩ := List.mem_flatMap.1 hu
    simp [sC] at hq
    rcases hq with rfl | rfl | rfl <;> rfl
  have HSC : Hid (∀ z : World, Below X1.heap.size X1 z → ∀ ad, a2 = some ad → ∀ j u, (m.syms.flatMap sC)[j]? = some u → z.cell? (ad.add j) = some u) := fun z hz ad had j u hu => by
    have hiv := HY.out.below hz
    rcases hiv.cells with h0 | ⟨b', off, ha, hc⟩
    · have : m.syms = [] := List.eq_nil_of_length_eq_zero (by rw [HC2.out]; exact h0)
      rw [this] at hu
      simp at hu
    · rw [had] at ha
      cases ha
      rw [Addr.add_lit]
      refine flat_cells (m := 3) (d := noSym) (f := sC) (fun _ => rfl) (by decide) (fun i hi j u hj hu => ?_) j u hu
      obtain ⟨k0, k1, k2⟩ := hc i (by rw [← HC2.out]; exact hi)
      match j, hj, hu with
      | 0, _, hu => cases hu; exact k0
      | 1, _, hu => cases hu; exact k1
      | 2, _, hu => cases hu; exact k2
  have HB13 : Hid (Below X1.heap.size X1 (X2.alloc (.cells #[.string m.code, .slice none 0 0, .slice none 0 0] 25))) := hb13
  have hlX := HB13.out.size
  clear h h1 h2 hs hb1 b2 b3 hb13 hbx
  go_enter Tryd.func9, Tryd.ntmps9
  go_wp2_with (first | (at_builtin; refine wpList_append_more rfl _ _ 22 rfl w.heap.size 2 il _ 1 8 Tryd.underlying22 hil hl0 hl1 hl2' rfl (by decide) rfl (HNIL.out _) HWL.out rfl HDN.out HDL.out HDC.out HON.out (by omega) (by omega) ?_) | go_in)
  intro v4 Y4 ho4 hg4 hat4
  obtain ⟨ad, cd, rfl, -⟩ := own_sl ho4
  have e9 : (X2.alloc (.cells #[.string m.code, .slice none 0 0, .slice none 0 0] 25)).heap.size = bo + 1 := by rw [← hbo]; simp
  have hbs4 := HBS.out.push (k := 1) rfl ho4 hg4 (fun q hq => (hat4 q hq).elim (fun e => by cases e) (fun e => .inr (by omega)))
  clear e9
  have m4 : Y4.cell? ⟨bo, 1, none⟩ = some (.slice none 0 0) := (hbs4.box 0 _ rfl).1 1 _ rfl
  have z4 : Y4.frozen? ⟨bo, 1, none⟩ = false := (hbs4.box 0 _ rfl).2.1 1
  have hbs5 := hbs4.put 0 bo _ rfl 1 (by simp) (.slice ad l1 cd)
  obtain ⟨Y5, hY5⟩ : ∃ Y5, Y4.setCell ⟨bo, 1, none⟩ (.slice ad l1 cd) = Y5 := ⟨_, rfl⟩
  rw [hY5] at hbs5
  have HBS5 : Hid (BS w Y5 [⟨64, 3, .slice none 0 0, 0, []⟩, ⟨2, 1, .slice ad l1 cd, l1, intR m.data⟩] [(bo, [.string m.code, .slice ad l1 cd, .slice none 0 0]), (br, [.string { data := #[] }, .slice none 0 0, .slice none 0 0]), (w.heap.size, [.string m.code, .slice a1 l1 c1, .slice a2 l2 c2])]) := hbs5
  have y2 : Y5.cell? ⟨bo, 2, none⟩ = some (.slice none 0 0) := (hbs5.box 0 _ rfl).1 2 _ rfl
  have y3 : Y5.cell? ⟨w.heap.size, 2, none⟩ = some (.slice a2 l2 c2) := (hbs5.box 2 _ rfl).1 2 _ rfl
  have HNIL2 : Hid (∀ z : World, z.ownsRow w.heap.size 64 3 (.slice none 0 0) 0 []) := fun z => World.ownsRow_nil _ _ _ _
  have HWL5 : Hid (w.heap.size ≤ Y5.heap.size) := hbs5.low.size
  have hb5 : Below X1.heap.size X1 Y5 := by
    rw [← hY5]
    have hbo1 : X1.heap.size ≤ bo := by rw [← hbo, ← hX2]; simp
    exact (below_new' HB13.out HB13.out.size hg4 (by simp [Value.ownBlock])).setCell hbo1 _
  have HSC5 : Hid (∀ ad, a2 = some ad → ∀ j u, (m.syms.flatMap sC)[j]? = some u → Y5.cell? (ad.add j) = some u) := HSC.out Y5 hb5
  clear hbs4 hbs5 ho4 hg4 hat4 hb5 HSC HDC x0 x1 f1 HNIL HWL o0 o1 o2 o02 hX1 hX2
  go_wp2_with (first | (at_builtin; refine wpList_append_more rfl _ _ 23 rfl w.heap.size 64 is' _ 3 32 Tryd.underlying23 his hs0 hs1 hs2 rfl (by decide) rfl (HNIL2.out _) HWL5.out rfl HSN.out HSL.out HSC5.out HSO.out (by omega) (by omega) ?_) | go_in)
  intro v6 Y6 ho6 hg6 hat6
  obtain ⟨as2, cs2, rfl, -⟩ := own_sl ho6
  have hbs6 := HBS5.out.push (k := 0) rfl ho6 hg6 (fun q hq => (hat6 q hq).elim (fun e => by cases e) .inr)
  have m6 : Y6.cell? ⟨bo, 2, none⟩ = some (.slice none 0 0) := (hbs6.box 0 _ rfl).1 2 _ rfl
  have z6 : Y6.frozen? ⟨bo, 2, none⟩ = false := (hbs6.box 0 _ rfl).2.1 2
  have hbs7 := hbs6.put 0 bo _ rfl 2 (by simp) (.slice as2 l2 cs2)
  obtain ⟨Y7, hY7⟩ : ∃ Y7, Y6.setCell ⟨bo, 2, none⟩ (.slice as2 l2 cs2) = Y7 := ⟨_, rfl⟩
  rw [hY7] at hbs7
  have HBS7 : Hid (BS w Y7 [⟨64, 3, .slice as2 l2 cs2, l2, m.syms.flatMap sC⟩, ⟨2, 1, .slice ad l1 cd, l1, intR m.data⟩] [(bo, [.string m.code, .slice ad l1 cd, .slice as2 l2 cs2]), (br, [.string { data := #[] }, .slice none 0 0, .slice none 0 0]), (w.heap.size, [.string m.code, .slice a1 l1 c1, .slice a2 l2 c2])]) := hbs7
  have hbx := HBS7.out.box
  have r0 : Y7.cell? ⟨bo, 0, none⟩ = some (.string m.code) := (hbx 0 _ rfl).1 0 _ rfl
  have r1 : Y7.cell? ⟨bo, 1, none⟩ = some (.slice ad l1 cd) := (hbx 0 _ rfl).1 1 _ rfl
  have r2 : Y7.cell? ⟨bo, 2, none⟩ = some (.slice as2 l2 cs2) := (hbx 0 _ rfl).1 2 _ rfl
  have s0 : Y7.cell? ⟨br, 0, none⟩ = some (.string { data := #[] }) := (hbx 1 _ rfl).1 0 _ rfl
  have s1 : Y7.cell? ⟨br, 1, none⟩ = some (.slice none 0 0) := (hbx 1 _ rfl).1 1 _ rfl
  have s2 : Y7.cell? ⟨br, 2, none⟩ = some (.slice none 0 0) := (hbx 1 _ rfl).1 2 _ rfl
  have t0 := (hbx 1 _ rfl).2.1 0
  have t1 := (hbx 1 _ rfl).2.1 1
  have t2 := (hbx 1 _ rfl).2.1 2
  have HBE : Hid (BS w (((Y7.setCell ⟨br, 0, none⟩ (.string m.code)).setCell ⟨br, 1, none⟩ (.slice ad l1 cd)).setCell ⟨br, 2, none⟩ (.slice as2 l2 cs2)) [⟨64, 3, .slice as2 l2 cs2, l2, m.syms.flatMap sC⟩, ⟨2, 1, .slice ad l1 cd, l1, intR m.data⟩] [(bo, [.string m.code, .slice ad l1 cd, .slice as2 l2 cs2]), (br, [.string m.code, .slice ad l1 cd, .slice as2 l2 cs2]), (w.heap.size, [.string m.code, .slice a1 l1 c1, .slice a2 l2 c2])]) := ((HBS7.out.put 1 br _ rfl 0 (by simp) (.string m.code)).put 1 br _ rfl 1 (by simp) (.slice ad l1 cd)).put 1 br _ rfl 2 (by simp) (.slice as2 l2 cs2)
  have e0 : (((Y7.setCell ⟨br, 0, none⟩ (.string m.code)).setCell ⟨br, 1, none⟩ (.slice ad l1 cd)).setCell ⟨br, 2, none⟩ (.slice as2 l2 cs2)).cell? ⟨br, 0, none⟩ = some (.string m.code) := (HBE.out.box 1 _ rfl).1 0 _ rfl
  have e1 : (((Y7.setCell ⟨br, 0, none⟩ (.string m.code)).setCell ⟨br, 1, none⟩ (.slice ad l1 cd)).setCell ⟨br, 2, none⟩ (.slice as2 l2 cs2)).cell? ⟨br, 1, none⟩ = some (.slice ad l1 cd) := (HBE.out.box 1 _ rfl).1 1 _ rfl
  have e2 : (((Y7.setCell ⟨br, 0, none⟩ (.string m.code)).setCell ⟨br, 1, none⟩ (.slice ad l1 cd)).setCell ⟨br, 2, none⟩ (.slice as2 l2 cs2)).cell? ⟨br, 2, none⟩ = some (.slice as2 l2 cs2) := (HBE.out.box 1 _ rfl).1 2 _ rfl
  clear hbs6 hbs7 ho6 hg6 hat6 hbx y2 y3
  go_wp2
  refine bodyPost_ret (v := .agg #[.string m.code, .slice ad l1 cd, .slice as2 l2 cs2]) (by simp [results, Tryd.results9, go_sem, e0, e1, e2]) rfl ⟨?_, HBE.out.low⟩
  refine ⟨ad, cd, as2, cs2, ?_, ?_, ?_⟩
  · rw [HC1.out, HC2.out]
  · rw [HC1.out]; exact HBE.out.own 1 _ rfl
  · rw [HC2.out]; exact HBE.out.own 0 _ rfl

end Go.Proofs.YtneclfaamgfoeaaDoor

/- For TsoDoes: both machines side by side. -/
namespace Go.Proofs.YtneclfaamgfoeaaDoor
open Go.RowKit Go.Maps
set_option linter.unusedVariables false
set_option linter.unusedSimpArgs false

theorem XV.lower {B B' : Nat} {w : World} {b : Nat} {M : T.Mach} {t : Nat → Nat} {D S : List Int} {vd vs : Value} {g cap : Nat} {ev : Value} {us : List Value} (h : XV B w b M t D S vd vs g cap ev us) (hl : B' ≤ B) : XV B' w b M t D S vd vs g cap ev us :=
  { h with dat := own_mono h.dat hl, stk := own_mono h.stk hl, ws := fun k x u h1 h2 => own_mono (h.ws k x u h1 h2) hl, evs := own_mono h.evs hl, lt := fun k hk => ⟨Nat.le_trans hl (h.lt k hk).1, (h.lt k hk).2⟩ }

/-- The program's machine and the document's. -/
def DXR (B A : Nat) (X wq : World) (b : Nat) (M : T.Mach) (K : Nat) (bm g cap : Nat) (bx : Nat) (N : T.Mach) (vd vs : Value) (gx cx : Nat) : Prop := ∃ p ev us t D S evx usx, TV B wq b M K p bm g cap ev us ∧ XV B wq bx N t D S vd vs gx cx evx usx ∧ (∀ k, p k ≠ 0 → t k = 0) ∧ Below A X wq ∧ Tab wq
section
variable {B A : Nat} {X wq y : World} {b : Nat} {M M' : T.Mach} {K K' : Nat} {bm g cap : Nat} {bx : Nat} {N N' : T.Mach} {vd vs : Value} {gx cx : Nat} {p t : Nat → Nat} {ev evx : Value} {us usx : List Value} {D S : List Int}
theorem DXR.left (hm : TV B wq b M K p bm g cap ev us) (hx : XV B wq bx N t D S vd vs gx cx evx usx) (hd : ∀ k, p k ≠ 0 → t k = 0) (hb : Below A X wq) (ht : Tab wq) (hA : A ≤ B) (h2 : 2 ≤ B) (hg : Gone B wq y b M' K' p bm g cap) : DXR B A X y b M' K' bm g cap bx N vd vs gx cx := by
  obtain ⟨p', ev1, us1, h1, hs⟩ := hg
  have hlo : ∀ k, p k ≠ 0 → B ≤ k := fun k hk => (hm.lt k hk).1
  refine ⟨p', ev1, us1, t, D, S, evx, usx, h1, hx.frame hs (fun k hk => Classical.byContradiction fun e => hk (hd k e)), fun k hk => Classical.byContradiction fun e => ?_, hb.trans (hs.toBelow (fun k hk => Nat.le_trans hA (hlo k hk)) (Nat.le_trans hA hm.hB)), ht.of hs ?_ ?_⟩
  · have h3 := (hx.lt k e).2
    rw [hs.tag k h3] at hk
    exact e (hd k hk)
  · exact Classical.byContradiction fun e => by have := hlo 0 e; omega
  · exact Classical.byContradiction fun e => by have := hlo 1 e; omega
theorem DXR.right (hm : TV B wq b M K p bm g cap ev us) (hx : XV B wq bx N t D S vd vs gx cx evx usx) (hd : ∀ k, p k ≠ 0 → t k = 0) (hb : Below A X wq) (ht : Tab wq) (hA : A ≤ B) (h2 : 2 ≤ B) (hg : XGone B wq y bx N' t vd vs gx cx) : DXR B A X y b M K bm g cap bx N' vd vs gx cx := by
  obtain ⟨t', D', S', ev1, us1, h1, hs⟩ := hg
  have hlo : ∀ k, t k ≠ 0 → B ≤ k := fun k hk => (hx.lt k hk).1
  refine ⟨p, ev, us, t', D', S', ev1, us1, hm.frame hs hd, h1, fun k hk => ?_, hb.trans (hs.toBelow (fun k hk => Nat.le_trans hA (hlo k hk)) (Nat.le_trans hA hx.hB)), ht.of hs ?_ ?_⟩
  · rw [hs.tag k (hm.lt k hk).2]
    exact hd k hk
  · exact Classical.byContradiction fun e => by have := hlo 0 e; omega
  · exact Classical.byContradiction fun e => by have := hlo 1 e; omega
theorem DXR.below (h : DXR B A X wq b M K bm g cap bx N vd vs gx cx) (hA : A ≤ B) (hb : Below wq.heap.size wq y) : DXR B A X y b M K bm g cap bx N vd vs gx cx := by
  obtain ⟨p, ev, us, t, D, S, evx, usx, h1, h2, h3, h4, h5⟩ := h
  exact ⟨p, ev, us, t, D, S, evx, usx, h1.below hb, h2.below hb, h3, h4.trans (hb.mono (Nat.le_trans hA h1.hB)), h5.below hb⟩
/-- A store into what is neither's. -/
theorem DXR.store (h : DXR B A X wq b M K bm g cap bx N vd vs gx cx) {q o : Nat} (hq : q < B) (hAq : A ≤ q) (h2 : 2 ≤ A) (v : Value) : DXR B A X (wq.setCell ⟨q, o, none⟩ v) b M K bm g cap bx N vd vs gx cx := by
  obtain ⟨p, ev, us, t, D, S, evx, usx, h1, h2', h3, h4, h5⟩ := h
  have hg := gb_set wq ⟨q, o, none⟩ v
  have hblk : ∀ k, k < wq.heap.size → k ≠ q → (wq.setCell ⟨q, o, none⟩ v).heap[k]? = wq.heap[k]? := fun k hk hne => hg.block k hk (fun e => hne (by cases e; rfl))
  have hsz : (wq.setCell ⟨q, o, none⟩ v).heap.size = wq.heap.size := World.size_setCell _ _ _
  refine ⟨p, ev, us, t, D, S, evx, usx, h1.keep (fun k hk e => hblk k hk (fun e2 => by have := (h1.lt k e).1; omega)) (fun _ _ _ => rfl) (fun k hk => by rw [hsz]; exact h1.lt k hk), h2'.keep (fun k hk e => hblk k hk (fun e2 => by have := (h2'.lt k e).1; omega)) (fun _ _ _ => rfl) (fun k hk => by rw [hsz]; exact h2'.lt k hk), h3, h4.setCell hAq v, ?_⟩
  have h6 := h5.2.2
  exact ⟨fun o' => (World.cell?_of_block (a := ⟨0, o', none⟩) (hblk 0 (by omega) (by omega))).trans (h5.1 o'), fun o' => (World.cell?_of_block (a := ⟨1, o', none⟩) (hblk 1 (by omega) (by omega))).trans (h5.2.1 o'), by rw [hsz]; exact h6⟩
theorem DXR.mono (h : DXR B A X wq b M K bm g cap bx N vd vs gx cx) {L : Nat} (hl : K ≤ L) : DXR B A X wq b M L bm g cap bx N vd vs gx cx := by
  obtain ⟨p, ev, us, t, D, S, evx, usx, h1, h2⟩ := h
  exact ⟨p, ev, us, t, D, S, evx, usx, h1.mono hl, h2⟩
end

end Go.Proofs.YtneclfaamgfoeaaDoor
