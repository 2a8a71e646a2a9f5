/- Places that change places among themselves: right ones stay right. No walk. -/
import Derived.Test.YtljgpngbkmembaaDoorAMAn
import Derived.Test.YtljgpngbkmembaaDoorAMAv
namespace Go.Proofs.YtljgpngbkmembaaDoor
open Go.RowKit Go.Maps Go.Shelf
set_option linter.unusedVariables false
set_option linter.unusedSimpArgs false
namespace F
def cyc (x r S : Int) : Int := if x + r < S then x + r else x + r - S
def tau (S p q w : Int) : Int := if w < 8 then 1 + cyc (w - 1) p 4 else 8 + cyc (w - 8) q S
theorem cyc_in {x r S : Int} (h0 : 0 ≤ x) (h1 : x < S) (h2 : 0 ≤ r) (h3 : r < S) : 0 ≤ cyc x r S ∧ cyc x r S < S := by
  unfold cyc; split <;> omega
theorem cyc_inj {x y r S : Int} (hx : 0 ≤ x ∧ x < S) (hy : 0 ≤ y ∧ y < S) (h2 : 0 ≤ r) (h3 : r < S) (h : cyc x r S = cyc y r S) : x = y := by
  unfold cyc at h; split at h <;> split at h <;> omega
theorem cyc_mod {x r S : Int} (h0 : 0 ≤ x) (h1 : x < S) (h2 : 0 ≤ r) (h3 : r < S) : (x + r).tmod S = cyc x r S := by
  rw [Int.tmod_eq_emod_of_nonneg (by omega)]
  unfold cyc
  split
  · next h => exact Int.emod_eq_of_lt (by omega) h
  · next h =>
    rw [show x + r = (x + r - S) + S by omega, Int.add_emod_right]
    rw [Int.emod_eq_of_lt (by omega) (by omega)]
    omega
/-- A place, and a place that it may be. -/
def plOk (S w : Int) : Prop := (1 ≤ w ∧ w ≤ 4) ∨ (8 ≤ w ∧ w < 8 + S)
theorem plOk_iff {ws : List Int} {S : Int} {t : Nat} : placeOk ws S t = true ↔ plOk S (wAt ws (t : Int)) := by
  unfold placeOk plOk
  simp only [Bool.or_eq_true, Bool.and_eq_true, decide_eq_true_eq]
theorem tau_ok {S p q w : Int} (hp : 0 ≤ p ∧ p < 4) (hq : 0 < S → 0 ≤ q ∧ q < S) (h : plOk S w) : plOk S (tau S p q w) ∧ isReg (tau S p q w) = isReg w := by
  unfold plOk at h ⊢
  unfold tau isReg
  rcases h with h | h
  · rw [if_pos (by omega)]
    have := cyc_in (x := w - 1) (r := p) (S := 4) (by omega) (by omega) hp.1 hp.2
    refine ⟨.inl (by omega), ?_⟩
    rw [Bool.eq_iff_iff]
    simp only [Bool.and_eq_true, decide_eq_true_eq]
    omega
  · rw [if_neg (by omega)]
    have h2 := hq (by omega)
    have := cyc_in (x := w - 8) (r := q) (S := S) (by omega) (by omega) h2.1 h2.2
    refine ⟨.inr (by omega), ?_⟩
    rw [Bool.eq_iff_iff]
    simp only [Bool.and_eq_true, decide_eq_true_eq]
    omega
theorem tau_inj {S p q w v : Int} (hp : 0 ≤ p ∧ p < 4) (hq : 0 < S → 0 ≤ q ∧ q < S) (hw : plOk S w) (hv : plOk S v) (h : tau S p q w = tau S p q v) : w = v := by
  unfold plOk at hw hv
  unfold tau at h
  rcases hw with hw | hw <;> rcases hv with hv | hv
  · rw [if_pos (by omega), if_pos (by omega)] at h
    have := cyc_inj (x := w - 1) (y := v - 1) (r := p) (S := 4) (by omega) (by omega) hp.1 hp.2 (by omega)
    omega
  · rw [if_pos (by omega), if_neg (by omega)] at h
    have h2 := hq (by omega)
    have a1 := cyc_in (x := w - 1) (r := p) (S := 4) (by omega) (by omega) hp.1 hp.2
    have a2 := cyc_in (x := v - 8) (r := q) (S := S) (by omega) (by omega) h2.1 h2.2
    omega
  · rw [if_neg (by omega), if_pos (by omega)] at h
    have h2 := hq (by omega)
    have a1 := cyc_in (x := w - 8) (r := q) (S := S) (by omega) (by omega) h2.1 h2.2
    have a2 := cyc_in (x := v - 1) (r := p) (S := 4) (by omega) (by omega) hp.1 hp.2
    omega
  · rw [if_neg (by omega), if_neg (by omega)] at h
    have h2 := hq (by omega)
    have := cyc_inj (x := w - 8) (y := v - 8) (r := q) (S := S) (by omega) (by omega) h2.1 h2.2 (by omega)
    omega
theorem wAt_map {ws : List Int} {g : Int → Int} {t : Int} (h0 : 0 ≤ t) (h1 : t < ws.length) : wAt (ws.map g) t = g (wAt ws t) := by
  unfold wAt
  simp [List.getD, show t.toNat < ws.length by omega]
theorem chk_ok {f : Fn} {ws : List Int} {S : Int} (h : chk f ws ws.length S = true) : mayF f = true ∧ (ws.length : Int) = f.temps ∧ 0 ≤ S ∧ S ≤ 400 ∧ (∀ t : Nat, t < ws.length → plOk S (wAt ws (t : Int))) ∧ areP f ws := by
  unfold chk arePl at h
  simp only [Bool.and_eq_true, decide_eq_true_eq] at h
  obtain ⟨h1, ⟨h2, h3, h4, h5⟩, h6⟩ := h
  refine ⟨h1, h2, h3, h4, fun t ht => ?_, by simpa using h6⟩
  exact plOk_iff.1 (List.all_eq_true.1 h5 t (List.mem_range.2 ht))
theorem chk_turn {f : Fn} {ws : List Int} {S p q : Int} (hp : 0 ≤ p ∧ p < 4) (hq : 0 < S → 0 ≤ q ∧ q < S) (h : chk f ws ws.length S = true) : chk f (ws.map (tau S p q)) (ws.map (tau S p q)).length S = true := by
  obtain ⟨h1, h2, h3, h4, h5, h6⟩ := chk_ok h
  have hh := may_head h1
  have hat : ∀ t : Int, 0 ≤ t → t < f.temps → wAt (ws.map (tau S p q)) t = tau S p q (wAt ws t) ∧ plOk S (wAt ws t) := fun t g0 g1 => by
    refine ⟨wAt_map g0 (by omega), ?_⟩
    have := h5 t.toNat (by omega)
    rwa [show ((t.toNat : Nat) : Int) = t by omega] at this
  have hin : ∀ {t : Int} {i : Nat}, (∃ j ∈ nxt (at_ f i) i, Lv f j t) → 0 ≤ t ∧ t < f.temps := fun ⟨j, _, hl⟩ => Lv.temp h1 hl
  unfold chk arePl
  simp only [Bool.and_eq_true, decide_eq_true_eq, List.length_map]
  refine ⟨h1, ⟨h2, h3, h4, all_range_yes fun t ht => ?_⟩, ?_⟩
  · rw [plOk_iff]
    have := hat (t : Int) (by omega) (by omega)
    rw [this.1]
    exact (tau_ok hp hq this.2).1
  · have key : areP f (ws.map (tau S p q)) := by
      obtain ⟨k1, k2, k3⟩ := h6
      refine ⟨fun i t hi hl hj hw => ?_, fun a b ha hb hlt he => ?_, fun i t hi hw1 hj hw hs he => ?_⟩
      · have ht := hin hj
        have := hat t ht.1 ht.2
        rw [this.1, (tau_ok hp hq this.2).2]
        exact k1 i t hi hl hj hw
      · have ta : 0 ≤ a ∧ a < f.temps := by
          rcases ha with g | g
          · exact Lv.temp h1 g
          · omega
        have tb : 0 ≤ b ∧ b < f.temps := by
          rcases hb with g | g
          · exact Lv.temp h1 g
          · omega
        have a1 := hat a ta.1 ta.2
        have a2 := hat b tb.1 tb.2
        rw [a1.1, a2.1] at he
        exact k2 a b ha hb hlt (tau_inj hp hq a1.2 a2.2 he)
      · have ht := hin hj
        have hwr := wr_in (may_op h1 hi)
        have a1 := hat (wr (at_ f i)) (by omega) (by omega)
        have a2 := hat t ht.1 ht.2
        rw [a1.1, a2.1] at he
        exact k3 i t hi hw1 hj hw hs (tau_inj hp hq a1.2 a2.2 he)
    simpa using key
end F
end Go.Proofs.YtljgpngbkmembaaDoor

/- The law AllocTurned. -/
namespace Go.Proofs.YtljgpngbkmembaaDoor
open Go.RowKit Go.Maps Go.Shelf
set_option linter.unusedVariables false
set_option linter.unusedSimpArgs false
theorem blk_put2 {W : World} {b : Nat} {v x u : Value} {T : TypeId} (h : W.heap[b]? = some (.cells #[v, x] T)) : (W.setCell ⟨b, 0, none⟩ u).heap[b]? = some (.cells #[u, x] T) := by
  have hlt := (Array.getElem?_eq_some_iff.1 h).1
  show (W.heap.modify b _)[b]? = _
  rw [Array.getElem?_eq_getElem (by rw [Array.size_modify]; exact hlt), Array.getElem_modify_self]
  have h2 := (Array.getElem?_eq_some_iff.1 h).2
  rw [h2]
  rfl
/-- What lies while places change places: what lay is as it was; the new places so far. -/
def TnI (Y : World) (S : Int) (xs : List Int) (k : Nat) (W : World) : Prop := ∃ v, Below Y.heap.size Y W ∧ W.heap[Y.heap.size]? = some (.cells #[v, .int .i64 S] 38) ∧ W.ownsRow Y.heap.size 3 1 v k ((xs.take k).map iV)
set_option maxRecDepth 100000 in
set_option maxHeartbeats 2000000 in
theorem lawTurned_any {w : World} {f : F.Fn} {a : Option Addr} {l c : Nat} (h : OpsV w a l c f.code) (he : Env w) (hsz : ∀ x ∈ f.code, x.args.length * 8 ≤ 140737488355328) {z : Int} (hz : (Lit.int .i64 z).wf = true) :
    Calls Tryd.prog 6 #[fnV f a l c, .int .i64 z] w fun e w' => e = .returned (.bool true) ∧ Below w.heap.size w w' := by
  obtain ⟨W0, hW0⟩ : ∃ W0, w.alloc (.cells #[.string f.name, .int .i64 f.params, .int .i64 f.temps, .slice a l c] 24) = W0 := ⟨_, rfl⟩
  have HB0 : Hid (Below w.heap.size w W0) := by show Below _ _ _; rw [← hW0]; exact bl1 _ _
  have d0 : W0.cell? ⟨w.heap.size, 0, none⟩ = some (.string f.name) := by rw [← hW0]; exact ncell_at rfl
  have d1 : W0.cell? ⟨w.heap.size, 1, none⟩ = some (.int .i64 f.params) := by rw [← hW0]; exact ncell_at rfl
  have d2 : W0.cell? ⟨w.heap.size, 2, none⟩ = some (.int .i64 f.temps) := by rw [← hW0]; exact ncell_at rfl
  have d3 : W0.cell? ⟨w.heap.size, 3, none⟩ = some (.slice a l c) := by rw [← hW0]; exact ncell_at rfl
  have HD : Hid (∀ y, Below W0.heap.size W0 y → y.cell? ⟨w.heap.size, 0, none⟩ = some (.string f.name) ∧ y.cell? ⟨w.heap.size, 1, none⟩ = some (.int .i64 f.params) ∧ y.cell? ⟨w.heap.size, 2, none⟩ = some (.int .i64 f.temps) ∧ y.cell? ⟨w.heap.size, 3, none⟩ = some (.slice a l c)) := fun y hy => ⟨cell_thru hy d0, cell_thru hy d1, cell_thru hy d2, cell_thru hy d3⟩
  have HSM : Hid (∀ y, Calls Tryd.prog 8 #[fnV f a l c] y fun e w' => e = .returned (.bool (decide (l ≤ 300))) ∧ Below y.heap.size y w') := fun y => small_any f a l c y
  have HLV : Hid (∀ y, Below w.heap.size w y → Calls Tryd.prog 9 #[] y fun e w' => e = .returned (.bool true) ∧ Below y.heap.size y w') := fun y hy => live_any (he.below hy)
  obtain ⟨mb, hmb⟩ : ∃ mb, F.mayF f = mb := ⟨_, rfl⟩
  obtain ⟨AN, hAN⟩ : ∃ AN : List Int → Int → Prop, (fun ws S => mb = true → F.chk f ws ws.length S = true) = AN := ⟨_, rfl⟩
  have HAN0 : Hid (mb = false → AN [] 0) := fun hc => by rw [← hAN]; intro hc2; rw [hc] at hc2; cases hc2
  have HAN1 : Hid (∀ m U, mb = true → LfU f m U → AN (F.alc f U m).1 (F.alc f U m).2) := fun m U hc hu => by rw [← hAN]; exact fun _ => F.alc_chk hu
  obtain ⟨ev, hev⟩ : ∃ ev : Int, (if mb = true then (0 : Int) else 1) = ev := ⟨_, rfl⟩
  have HEV : Hid ((if mb = true then (0 : Int) else 1) = ev) := hev
  have HAL : Hid (∀ y, Below w.heap.size w y → Calls Tryd.prog 16 #[fnV f a l c] y fun e W => Below y.heap.size y W ∧ ∃ (q : Option Addr) (T : Nat) (ws : List Int) (S : Int), e = .returned (.tuple #[.agg #[.slice q T T, .int .i64 S], .int .i64 ev]) ∧ NumV W q T T ws ∧ (mb = false → q = none ∧ T = 0 ∧ S = 0) ∧ AN ws S) := fun y hy => by
    refine (alloc_any (h.below hy) (he.below hy) (fun x hx => by have := hsz x hx; omega)).mono fun e W hq => ?_
    obtain ⟨h1, h2⟩ := hq
    rw [hmb] at h2
    refine ⟨h1, ?_⟩
    cases mb with
    | false =>
      rw [if_neg (by simp)] at h2
      exact ⟨none, 0, [], 0, by rw [h2, ← hev]; rfl, NumV.nil W, fun _ => ⟨rfl, rfl, rfl⟩, HAN0.out rfl⟩
    | true =>
      rw [if_pos rfl] at h2
      obtain ⟨g, T, m, U, hT, hu, hg, e1, h3⟩ := h2
      exact ⟨_, T, _, _, by rw [e1, ← hev]; rfl, h3, fun hc => (by cases hc), HAN1.out m U rfl hu⟩
  have HANE : Hid (∀ ws S, AN ws S → mb = true → F.chk f ws ws.length S = true) := fun ws S hq => by rw [← hAN] at hq; exact hq
  have HCH : Hid (∀ y q T cp ws S, Below w.heap.size w y → NumV y q T cp ws → F.chk f ws ws.length S = true → Calls Tryd.prog 19 #[fnV f a l c, .agg #[.slice q T cp, .int .i64 S]] y fun e w' => e = .returned (.int .i64 0) ∧ Below y.heap.size y w') := fun y q T cp ws S hy hn hc => by
    have := check_any (slots := S) (h.below hy) hn (he.below hy)
    rw [hn.count] at hc
    rw [hc] at this
    exact this
  have hzr : -9223372036854775808 ≤ z ∧ z ≤ 9223372036854775807 := by
    have h1 : (decide (IntKind.i64.min ≤ z) && decide (z ≤ IntKind.i64.max)) = true := hz
    rw [show IntKind.i64.min = -9223372036854775808 from rfl, show IntKind.i64.max = 9223372036854775807 from rfl, Bool.and_eq_true, decide_eq_true_eq, decide_eq_true_eq] at h1
    exact h1
  obtain ⟨ii, hii, hy0, hy1, hy2⟩ := ainfo infoN
  clear hmb hAN hev hz
  unfold fnV at HSM HAL HCH ⊢
  have HBW : Hid (∀ y, Below W0.heap.size W0 y → Below w.heap.size w y) := fun y hy => HB0.out.trans (hy.mono HB0.out.size)
  clear h he hsz 
  obtain ⟨sb, hsb⟩ : ∃ sb, decide (l ≤ 300) = sb := ⟨_, rfl⟩
  rw [hsb] at HSM
  clear hsb
  go_enter Tryd.func6, Tryd.ntmps6
  go_wp2_with fail
  clear hW0
  refine (HSM.out W0).mono ?_
  rintro e y1 ⟨rfl, hb1⟩
  have HB1 : Hid (Below W0.heap.size W0 y1) := hb1
  clear hb1 HSM d0 d1 d2 d3
  obtain ⟨d0, d1, d2, d3⟩ := HD.out y1 HB1.out
  cases sb with
  | false =>
    go_wp2_with fail
    refine (HLV.out y1 (HBW.out _ HB1.out)).mono ?_
    rintro e y2 ⟨rfl, hb2⟩
    have HB2 : Hid (Below W0.heap.size W0 y2) := HB1.out.trans (hb2.mono HB1.out.size)
    clear hb2
    go_wp2_with fail
    go_ret
    exact ⟨rfl, HBW.out _ HB2.out⟩
  | true =>
    go_wp2_with fail
    refine (HAL.out y1 (HBW.out _ HB1.out)).mono ?_
    rintro e y2 ⟨hb2, q, T, ws, S, rfl, hn, hzz, han⟩
    obtain ⟨b5, hb5⟩ : ∃ b5, y2.heap.size = b5 := ⟨_, rfl⟩
    obtain ⟨Y, hY⟩ : ∃ Y, y2.alloc (.cells #[.slice q T T, .int .i64 S] 38) = Y := ⟨_, rfl⟩
    have HY : Hid (Below W0.heap.size W0 Y ∧ NumV Y q T T ws ∧ Bx Y b5 [.slice q T T, .int .i64 S]) := by
      have h1 := HB1.out.trans (hb2.mono HB1.out.size)
      show _ ∧ _
      rw [← hY, ← hb5]
      exact ⟨h1.alloc h1.size _, hn.below (bl1 _ _), Bx.new y2 #[.slice q T T, .int .i64 S] _⟩
    have HAN : Hid (AN ws S) := han
    clear hn han hzz d0 d1 d2 d3 HAL HAN0 HAN1 hb2
    have e0 := HY.out.2.2.c 0 _ rfl
    have e1 := HY.out.2.2.c 1 _ rfl
    cases mb with
    | false =>
      obtain rfl : 1 = ev := HEV.out
      go_wp2_with fail
      try rw [hY]
      try rw [hb5]
      clear hY hb5
      refine (HLV.out Y (HBW.out _ HY.out.1)).mono ?_
      rintro e y4 ⟨rfl, hb4⟩
      have HB4 : Hid (Below W0.heap.size W0 y4) := HY.out.1.trans (hb4.mono HY.out.1.size)
      clear hb4
      go_wp2_with fail
      go_ret
      exact ⟨rfl, HBW.out _ HB4.out⟩
    | true =>
      obtain rfl : 0 = ev := HEV.out
      have HCK : Hid (F.chk f ws ws.length S = true) := HANE.out ws S HAN.out (by simp)
      have hok := F.chk_ok HCK.out
      have hlen : ws.length = T := HY.out.2.1.count
      have HPL : Hid (∀ t : Nat, t < T → F.plOk S (F.wAt ws (t : Int))) := fun t ht => hok.2.2.2.2.1 t (by omega)
      have hS0 : 0 ≤ S := hok.2.2.1
      have hS4 : S ≤ 400 := hok.2.2.2.1
      have hT4 : T ≤ 400 := by have := (F.may_head hok.1).2.2.1; have := hok.2.1; omega
      clear hok HAN HANE HEV
      have hBy : ∃ B : Int, 0 ≤ B ∧ B ≤ 9223372036854775807 ∧ ((0 ≤ z ∧ B = z) ∨ (z < 0 ∧ B = -(z + 1))) := by
        by_cases h0 : z < 0
        · exact ⟨-(z + 1), by omega, by omega, .inr ⟨h0, rfl⟩⟩
        · exact ⟨z, by omega, by omega, .inl ⟨by omega, rfl⟩⟩
      obtain ⟨B, hB0, hB1, hB2⟩ := hBy
      have hw1 : IntKind.i64.wrap (z + 1) = z + 1 ∨ 0 ≤ z := by
        by_cases h0 : z < 0
        · left; rw [IntKind.wrap_i64]; omega
        · right; omega
      have HP : Hid (0 ≤ B.tmod 4 ∧ B.tmod 4 < 4) := ⟨Int.tmod_nonneg _ hB0, Int.tmod_lt_of_pos _ (by decide)⟩
      have HQ : Hid (0 < S → 0 ≤ B.tmod S ∧ B.tmod S < S) := fun hs => ⟨Int.tmod_nonneg _ hB0, Int.tmod_lt_of_pos _ hs⟩
      obtain ⟨r4, hr4⟩ : ∃ r, B.tmod 4 = r := ⟨_, rfl⟩
      obtain ⟨rS, hrS⟩ : ∃ r, B.tmod S = r := ⟨_, rfl⟩
      rw [hr4] at HP
      rw [hrS] at HQ
      have HR4 : Hid (B.tmod 4 = r4 ∧ B.tmod S = rS) := ⟨hr4, hrS⟩
      have HCT : Hid (F.chk f (ws.map (F.tau S r4 rS)) (ws.map (F.tau S r4 rS)).length S = true) := F.chk_turn HP.out HQ.out HCK.out
      obtain ⟨b7, hb7⟩ : ∃ b7, Y.heap.size = b7 := ⟨_, rfl⟩
      obtain ⟨W7, hW7⟩ : ∃ W7, Y.alloc (.cells #[.slice none 0 0, .int .i64 S] 38) = W7 := ⟨_, rfl⟩
      have HI0 : Hid (TnI Y S (ws.map (F.tau S r4 rS)) 0 W7) := ⟨.slice none 0 0, by rw [← hW7]; exact bl1 _ _, by rw [← hW7]; exact World.alloc_heap_new _ _, by rw [List.take_zero]; exact World.ownsRow_nil _ _ _ _⟩
      have HB7 : Hid (Y.heap.size = b7) := hb7
      clear hr4 hrS
      rcases hB2 with ⟨hz0, rfl⟩ | ⟨hz0, hB⟩
      · have hz9 : ¬ B < 0 := by omega
        have hzd : decide (B < 0) = false := by simp; omega
        clear hw1 hzr
        go_wp2_with fail
        try rw [hW7]
        try rw [hb7]
        clear hY hb5 hW7 hb7 e0 e1
        go_loopg [8, 9] T (fun r v8 v9 wq => ∃ (k : Nat), r = T - k ∧ v8 = .int .i64 k ∧ k ≤ T ∧ Hid (TnI Y S (ws.map (F.tau S r4 rS)) k wq))
        case atStart => exact ⟨0, rfl, rfl, Nat.zero_le _, HI0⟩
        case round =>
          obtain ⟨k, rfl, rfl, hk, HI⟩ := hrel
          clear HI0
          obtain ⟨v, hv1, hv2, hv3⟩ := HI.out
          have HV : Hid (Below Y.heap.size Y wr ∧ wr.heap[Y.heap.size]? = some (.cells #[v, .int .i64 S] 38) ∧ wr.ownsRow Y.heap.size 3 1 v k (((ws.map (F.tau S r4 rS)).take k).map iV)) := ⟨hv1, hv2, hv3⟩
          rw [HB7.out] at hv2
          have c0 := cell_blk hv2 0 (v := v) rfl
          have c1 := cell_blk hv2 1 (v := .int .i64 S) rfl
          have e0 := (HY.out.2.2.below hv1).c 0 _ rfl
          have e1 := (HY.out.2.2.below hv1).c 1 _ rfl
          by_cases hkT : k < T
          · have hki : (k : Int) < T := by omega
            have hk0 : 0 ≤ (k : Int) := by omega
            obtain ⟨qb, qo, rfl, hcell⟩ := (HY.out.2.1.below hv1).at hkT
            obtain ⟨p, hp⟩ : ∃ p, ws.getD k 0 = p := ⟨_, rfl⟩
            rw [hp] at hcell
            have hpl := HPL.out k hkT
            have hwat : F.wAt ws (k : Int) = p := by unfold F.wAt; rw [Int.toNat_natCast]; exact hp
            rw [hwat] at hpl
            have HPV : Hid ((ws.map (F.tau S r4 rS))[k]? = some (F.tau S r4 rS p)) := by
              have hl : k < ws.length := by rw [HY.out.2.1.count]; exact hkT
              have : ws[k] = p := by rw [← hp]; simp [List.getD, hl]
              show _ = _
              simp [hl, this]
            clear hv1 hv2 hv3 hwat hp HI
            unfold F.plOk at hpl
            by_cases hp8 : p < 8
            · have hp4 : 1 ≤ p ∧ p ≤ 4 := by omega
              have ht : F.tau S r4 rS p = 1 + F.cyc (p - 1) r4 4 := by unfold F.tau; rw [if_pos hp8]
              have hc := F.cyc_in (x := p - 1) (r := r4) (S := 4) (by omega) (by omega) HP.out.1 HP.out.2
              have hm := F.cyc_mod (x := p - 1) (r := r4) (S := 4) (by omega) (by omega) HP.out.1 HP.out.2
              have hr4 := HR4.out.1
              have hP := HP.out
              have wz1 : IntKind.i64.wrap (p - 1) = p - 1 := by rw [IntKind.wrap_i64]; omega
              have wz2 : IntKind.i64.wrap (p - 1 + r4) = p - 1 + r4 := by rw [IntKind.wrap_i64]; omega
              have wz3 : IntKind.i64.wrap (1 + F.cyc (p - 1) r4 4) = 1 + F.cyc (p - 1) r4 4 := by rw [IntKind.wrap_i64]; omega
              have wz4 : IntKind.i64.wrap r4 = r4 := by rw [IntKind.wrap_i64]; omega
              have wz5 : IntKind.i64.wrap (F.cyc (p - 1) r4 4) = F.cyc (p - 1) r4 4 := by rw [IntKind.wrap_i64]; omega
              clear hpl hP
              have HNC : Hid (∀ (q : Nat) u, ([iV (1 + F.cyc (p - 1) r4 4)] : List Value)[q]? = some u → (wr.alloc (.cells #[.int .i64 (1 + F.cyc (p - 1) r4 4)] 3)).cell? ((⟨wr.heap.size, 0, none⟩ : Addr).add q) = some u) := fun q u hu => by
                rw [Addr.add_lit, Nat.zero_add]
                exact ncell_at (by simpa [iV] using hu)
              have HA1 : Hid ((wr.alloc (.cells #[.int .i64 (1 + F.cyc (p - 1) r4 4)] 3)).ownsRow Y.heap.size 3 1 v k (((ws.map (F.tau S r4 rS)).take k).map iV)) := row_below HV.out.2.2 (bl1 _ _)
              have HBS : Hid (Y.heap.size ≤ (wr.alloc (.cells #[.int .i64 (1 + F.cyc (p - 1) r4 4)] 3)).heap.size) := by show _ ≤ _; have := HV.out.1.size; simp; omega
              have HB3 : Hid ((wr.alloc (.cells #[.int .i64 (1 + F.cyc (p - 1) r4 4)] 3)).heap[b7]? = some (.cells #[v, .int .i64 S] 38)) := blk_below (by rw [← HB7.out]; exact HV.out.2.1) (bl1 _ _)
              have HRB : Hid (∀ b, v.ownBlock = some b → b ≠ b7) := fun b hb => by
                obtain ⟨cur, hcur⟩ := own_cells HA1.out hb
                exact blk_ne hcur HB3.out (by decide)
              go_wp2_with (first | (at_builtin; refine wpList_append_own _ rfl _ _ 30 rfl Y.heap.size 3 ii _ 1 8 Tryd.underlying30 hii hy0 hy1 hy2 rfl (by decide) v k _ rfl HA1.out ⟨wr.heap.size, 0, none⟩ 1 1 [iV (1 + F.cyc (p - 1) r4 4)] rfl rfl HNC.out (by intro u hu; simp at hu; subst hu; rfl) (by unfold maxLen; omega) (by omega) HBS.out ?_; intro v' w3 hown' hgrow _; obtain ⟨g', cap', rfl⟩ := ownsRow_succ hown'; have HO3 : Hid _ := hown'; have HG3 : Hid _ := hgrow; have HB4 : Hid (w3.heap[b7]? = some (.cells #[v, .int .i64 S] 38)) := (hgrow.block _ (Array.getElem?_eq_some_iff.1 HB3.out).1 (fun e => HRB.out _ e.symm rfl)).trans HB3.out; have d2 := cell_blk HB4.out 0 (v := v) rfl; have f2 := blk_fro (o := 0) HB4.out; clear hown' hgrow))
              have HN : Hid (TnI Y S (ws.map (F.tau S r4 rS)) (k + 1) (w3.setCell ⟨b7, 0, none⟩ (.slice (some ⟨g', 0, none⟩) (k + 1) cap'))) := by
                have hg3 := HG3.out
                have hlow : Below Y.heap.size Y w3 := (HV.out.1.trans ((bl1 wr (.cells #[.int .i64 (1 + F.cyc (p - 1) r4 4)] 3)).mono HV.out.1.size)).grown hg3 (by have := HV.out.1.size; simp; omega) (fun b hb => (HA1.out.lt b hb).1)
                refine ⟨.slice (some ⟨g', 0, none⟩) (k + 1) cap', hlow.setCell (p := ⟨b7, 0, none⟩) (by rw [← HB7.out]; exact Nat.le_refl _) _, by rw [HB7.out]; exact blk_put2 HB4.out, ?_⟩
                rw [List.take_add_one, HPV.out, List.map_append, ht]
                refine World.ownsRow.kept (w := w3) ?_ (gb_set _ _ _) (.inr (fun e => ?_))
                · exact HO3.out
                · have e2 : g' = b7 := by simpa [Value.ownBlock] using e
                  obtain ⟨cur, hcur⟩ := own_cells HO3.out (b := g') rfl
                  exact blk_ne hcur HB4.out (by decide) e2
              clear HA1 HNC HBS HB3 HRB HO3 HG3 d2 f2
              try go_wp2_with fail
              go_roundg (T - (k + 1))
              case measure => omega
              case rel => exact ⟨k + 1, rfl, by go_num, by omega, HN⟩
            · have hp9 : 8 ≤ p ∧ p < 8 + S := by omega
              have hSp : 0 < S := by omega
              have hq := HQ.out hSp
              have ht : F.tau S r4 rS p = 8 + F.cyc (p - 8) rS S := by unfold F.tau; rw [if_neg hp8]
              have hc := F.cyc_in (x := p - 8) (r := rS) (S := S) (by omega) (by omega) hq.1 hq.2
              have hm := F.cyc_mod (x := p - 8) (r := rS) (S := S) (by omega) (by omega) hq.1 hq.2
              have hrS := HR4.out.2
              have hS9 : (S == 0) = false := by simp; omega
              have hS8 : ¬ S = 0 := by omega
              have wz1 : IntKind.i64.wrap (p - 8) = p - 8 := by rw [IntKind.wrap_i64]; omega
              have wz2 : IntKind.i64.wrap (p - 8 + rS) = p - 8 + rS := by rw [IntKind.wrap_i64]; omega
              have wz3 : IntKind.i64.wrap (8 + F.cyc (p - 8) rS S) = 8 + F.cyc (p - 8) rS S := by rw [IntKind.wrap_i64]; omega
              have wz4 : IntKind.i64.wrap rS = rS := by rw [IntKind.wrap_i64]; omega
              have wz5 : IntKind.i64.wrap (F.cyc (p - 8) rS S) = F.cyc (p - 8) rS S := by rw [IntKind.wrap_i64]; omega
              have hp81 : decide (p < 8) = false := by simp; omega
              have HSS : Hid (wr.drew.cell? ⟨b5, 1, none⟩ = some (.int .i64 S)) := e1
              have HVZ : Hid (Below Y.heap.size Y wr.drew ∧ wr.drew.heap[Y.heap.size]? = some (.cells #[v, .int .i64 S] 38) ∧ wr.drew.ownsRow Y.heap.size 3 1 v k (((ws.map (F.tau S r4 rS)).take k).map iV)) := ⟨HV.out.1.drew, HV.out.2.1, row_below HV.out.2.2 (Below.refl _ _).drew⟩
              clear hpl hq
              go_wp2_with fail
              refine wp_region_held_drew (S := (fun w' : World => w'.cell? ⟨b5, 1, none⟩ = some (.int .i64 S))) (by kernel_rfl) HSS.out (fun hHeld => ?_)
              refine tkr (i := 0) (v := ?_) (tA rfl) (by kernel_rfl) (fun _ _ _ h => h) (Or.inl ⟨by rfl, ?_⟩) (by assumption) ?_
              rotate_left
              · (intro w hSw; (try dsimp only at hSw); go_simp <;> with_reducible rfl)
              simp only [Act.put, List.setIfInBounds_toArray, List.set_cons_zero, List.set_cons_succ]
              refine tkr (i := 1) (v := ?_) (tA rfl) (by kernel_rfl) (fun _ _ _ h => h) (Or.inl ⟨by rfl, ?_⟩) (by assumption) ?_
              rotate_left
              · (intro w hSw; (try dsimp only at hSw); go_simp <;> with_reducible rfl)
              simp only [Act.put, List.setIfInBounds_toArray, List.set_cons_zero, List.set_cons_succ]
              refine tkr (i := 2) (v := ?_) (tA rfl) (by kernel_rfl) (fun _ _ _ h => h) (Or.inl ⟨by rfl, ?_⟩) (by assumption) ?_
              rotate_left
              · (intro w hSw; (try dsimp only at hSw); go_simp <;> with_reducible rfl)
              simp only [Act.put, List.setIfInBounds_toArray, List.set_cons_zero, List.set_cons_succ]
              refine tkr (i := 3) (v := ?_) (tA rfl) (by kernel_rfl) (fun _ _ _ h => h) (Or.inl ⟨by rfl, ?_⟩) (by assumption) ?_
              rotate_left
              · (intro w hSw; (try dsimp only at hSw); go_simp <;> with_reducible rfl)
              simp only [Act.put, List.setIfInBounds_toArray, List.set_cons_zero, List.set_cons_succ]
              refine tkr (i := 4) (v := ?_) (tA rfl) (by kernel_rfl) (fun _ _ _ h => h) (Or.inl ⟨by rfl, ?_⟩) (by assumption) ?_
              rotate_left
              · (intro w hSw; (try dsimp only at hSw); go_simp <;> with_reducible rfl)
              simp only [Act.put, List.setIfInBounds_toArray, List.set_cons_zero, List.set_cons_succ]
              refine tkr (i := 5) (v := ?_) (tA rfl) (by kernel_rfl) (fun _ _ _ h => h) (Or.inl ⟨by rfl, ?_⟩) (by assumption) ?_
              rotate_left
              · (intro w hSw; (try dsimp only at hSw); go_simp <;> with_reducible rfl)
              simp only [Act.put, List.setIfInBounds_toArray, List.set_cons_zero, List.set_cons_succ]
              refine tkr (i := 6) (v := ?_) (tA rfl) (by kernel_rfl) (fun _ _ _ h => h) (Or.inl ⟨by rfl, ?_⟩) (by assumption) ?_
              rotate_left
              · (intro w hSw; (try dsimp only at hSw); go_simp <;> with_reducible rfl)
              simp only [Act.put, List.setIfInBounds_toArray, List.set_cons_zero, List.set_cons_succ]
              refine tkr (i := 7) (v := ?_) (tA rfl) (by kernel_rfl) (fun _ _ _ h => h) (Or.inl ⟨by rfl, ?_⟩) (by assumption) ?_
              rotate_left
              · (intro w hSw; (try dsimp only at hSw); go_simp <;> with_reducible rfl)
              simp only [Act.put, List.setIfInBounds_toArray, List.set_cons_zero, List.set_cons_succ]
              refine tkr (i := 8) (v := ?_) (tA rfl) (by kernel_rfl) (fun _ _ _ h => h) (Or.inl ⟨by rfl, ?_⟩) (by assumption) ?_
              rotate_left
              · (intro w hSw; (try dsimp only at hSw); go_simp <;> with_reducible rfl)
              simp only [Act.put, List.setIfInBounds_toArray, List.set_cons_zero, List.set_cons_succ]
              refine tkr (i := 9) (v := ?_) (tA rfl) (by kernel_rfl) (fun _ _ _ h => h) (Or.inl ⟨by rfl, ?_⟩) (by assumption) ?_
              rotate_left
              · (intro w hSw; (try dsimp only at hSw); go_simp <;> with_reducible rfl)
              simp only [Act.put, List.setIfInBounds_toArray, List.set_cons_zero, List.set_cons_succ]
              refine tkr (i := 10) (v := ?_) (tA rfl) (by kernel_rfl) (fun _ _ _ h => h) (Or.inl ⟨by rfl, ?_⟩) (by assumption) ?_
              rotate_left
              · (intro w hSw; (try dsimp only at hSw); go_simp <;> with_reducible rfl)
              simp only [Act.put, List.setIfInBounds_toArray, List.set_cons_zero, List.set_cons_succ]
              refine tkr (i := 11) (v := ?_) (tA rfl) (by kernel_rfl) (fun _ _ _ h => h) (Or.inl ⟨by rfl, ?_⟩) (by assumption) ?_
              rotate_left
              · (intro w hSw; (try dsimp only at hSw); go_simp <;> with_reducible rfl)
              simp only [Act.put, List.setIfInBounds_toArray, List.set_cons_zero, List.set_cons_succ]
              refine wpAnyH_done (by kernel_rfl) ?_ _
              clear hHeld HSS
              obtain ⟨Z, hZ⟩ : ∃ Z, wr.drew = Z := ⟨_, rfl⟩
              rw [hZ] at HVZ ⊢
              clear hZ c0 c1 e0 e1 hcell
              have hv2 := HVZ.out.2.1
              rw [HB7.out] at hv2
              have c0 := cell_blk hv2 0 (v := v) rfl
              clear hv2
              have HNC : Hid (∀ (q : Nat) u, ([iV (8 + F.cyc (p - 8) rS S)] : List Value)[q]? = some u → (Z.alloc (.cells #[.int .i64 (8 + F.cyc (p - 8) rS S)] 3)).cell? ((⟨Z.heap.size, 0, none⟩ : Addr).add q) = some u) := fun q u hu => by
                rw [Addr.add_lit, Nat.zero_add]
                exact ncell_at (by simpa [iV] using hu)
              have HA1 : Hid ((Z.alloc (.cells #[.int .i64 (8 + F.cyc (p - 8) rS S)] 3)).ownsRow Y.heap.size 3 1 v k (((ws.map (F.tau S r4 rS)).take k).map iV)) := row_below HVZ.out.2.2 (bl1 _ _)
              have HBS : Hid (Y.heap.size ≤ (Z.alloc (.cells #[.int .i64 (8 + F.cyc (p - 8) rS S)] 3)).heap.size) := by show _ ≤ _; have := HVZ.out.1.size; simp; omega
              have HB3 : Hid ((Z.alloc (.cells #[.int .i64 (8 + F.cyc (p - 8) rS S)] 3)).heap[b7]? = some (.cells #[v, .int .i64 S] 38)) := blk_below (by rw [← HB7.out]; exact HVZ.out.2.1) (bl1 _ _)
              have HRB : Hid (∀ b, v.ownBlock = some b → b ≠ b7) := fun b hb => by
                obtain ⟨cur, hcur⟩ := own_cells HA1.out hb
                exact blk_ne hcur HB3.out (by decide)
              go_wp2_with (first | (at_builtin; refine wpList_append_own _ rfl _ _ 30 rfl Y.heap.size 3 ii _ 1 8 Tryd.underlying30 hii hy0 hy1 hy2 rfl (by decide) v k _ rfl HA1.out ⟨Z.heap.size, 0, none⟩ 1 1 [iV (8 + F.cyc (p - 8) rS S)] rfl rfl HNC.out (by intro u hu; simp at hu; subst hu; rfl) (by unfold maxLen; omega) (by omega) HBS.out ?_; intro v' w3 hown' hgrow _; obtain ⟨g', cap', rfl⟩ := ownsRow_succ hown'; have HO3 : Hid _ := hown'; have HG3 : Hid _ := hgrow; have HB4 : Hid (w3.heap[b7]? = some (.cells #[v, .int .i64 S] 38)) := (hgrow.block _ (Array.getElem?_eq_some_iff.1 HB3.out).1 (fun e => HRB.out _ e.symm rfl)).trans HB3.out; have d2 := cell_blk HB4.out 0 (v := v) rfl; have f2 := blk_fro (o := 0) HB4.out; clear hown' hgrow))
              have HN : Hid (TnI Y S (ws.map (F.tau S r4 rS)) (k + 1) (w3.setCell ⟨b7, 0, none⟩ (.slice (some ⟨g', 0, none⟩) (k + 1) cap'))) := by
                have hg3 := HG3.out
                have hlow : Below Y.heap.size Y w3 := (HVZ.out.1.trans ((bl1 Z (.cells #[.int .i64 (8 + F.cyc (p - 8) rS S)] 3)).mono HVZ.out.1.size)).grown hg3 (by have := HVZ.out.1.size; simp; omega) (fun b hb => (HA1.out.lt b hb).1)
                refine ⟨.slice (some ⟨g', 0, none⟩) (k + 1) cap', hlow.setCell (p := ⟨b7, 0, none⟩) (by rw [← HB7.out]; exact Nat.le_refl _) _, by rw [HB7.out]; exact blk_put2 HB4.out, ?_⟩
                rw [List.take_add_one, HPV.out, List.map_append, ht]
                refine World.ownsRow.kept (w := w3) ?_ (gb_set _ _ _) (.inr (fun e => ?_))
                · exact HO3.out
                · have e2 : g' = b7 := by simpa [Value.ownBlock] using e
                  obtain ⟨cur, hcur⟩ := own_cells HO3.out (b := g') rfl
                  exact blk_ne hcur HB4.out (by decide) e2
              clear HA1 HNC HBS HB3 HRB HO3 HG3 d2 f2
              try go_wp2_with fail
              go_roundg (T - (k + 1))
              case measure => omega
              case rel => exact ⟨k + 1, rfl, by go_num, by omega, HN⟩
          · have hkk : T = k := by omega
            subst hkk
            have hki : ¬ (T : Int) < T := by omega
            have hlm : (ws.map (F.tau S r4 rS)).length = T := by rw [List.length_map]; exact HY.out.2.1.count
            obtain ⟨av, cv, hv⟩ : ∃ av cv, v = .slice av T cv := by
              rcases hv3.2 with ⟨ex, ex2⟩ | ⟨qx, cap, cur, ex, -⟩
              · exact ⟨none, 0, by rw [ex, ex2]⟩
              · exact ⟨_, cap, ex⟩
            subst hv
            have HNW : Hid (NumV wr av T cv (ws.map (F.tau S r4 rS))) := by
              rw [← hlm, List.take_length, hlm] at hv3
              refine num_of_row hv3 hlm (fun zz hzz => ?_)
              obtain ⟨y0, hy0, rfl⟩ := List.mem_map.1 hzz
              obtain ⟨i, hi, rfl⟩ := List.mem_iff_getElem.1 hy0
              have hl2 : ws.length = T := HY.out.2.1.count
              have hpl := HPL.out i (by omega)
              have e2 : F.wAt ws (i : Int) = ws[i] := by unfold F.wAt; simp [List.getD, hi]
              rw [e2] at hpl
              have := (F.tau_ok HP.out HQ.out hpl).1
              unfold F.plOk at this
              show (decide (IntKind.i64.min ≤ F.tau S r4 rS ws[i]) && decide (F.tau S r4 rS ws[i] ≤ IntKind.i64.max)) = true
              rw [show IntKind.i64.min = -9223372036854775808 from rfl, show IntKind.i64.max = 9223372036854775807 from rfl, Bool.and_eq_true, decide_eq_true_eq, decide_eq_true_eq]
              omega
            have HBE : Hid (Below W0.heap.size W0 wr ∧ NumV wr q T T ws) := ⟨HY.out.1.trans (hv1.mono HY.out.1.size), HY.out.2.1.below hv1⟩
            clear hv1 hv2 hv3 hlm HV HI
            obtain ⟨d0, d1, d2, d3⟩ := HD.out wr HBE.out.1
            go_wp2_with fail
            refine (HCH.out wr q T T ws S (HBW.out _ HBE.out.1) HBE.out.2 HCK.out).mono ?_
            rintro e y4 ⟨rfl, hb4⟩
            have HB4 : Hid (Below W0.heap.size W0 y4 ∧ NumV y4 av T cv (ws.map (F.tau S r4 rS))) := ⟨HBE.out.1.trans (hb4.mono HBE.out.1.size), HNW.out.below hb4⟩
            have c0 := cell_thru hb4 c0
            have c1 := cell_thru hb4 c1
            clear hb4 d0 d1 d2 d3 e0 e1 HBE HNW
            obtain ⟨d0, d1, d2, d3⟩ := HD.out y4 HB4.out.1
            go_wp2_with fail
            refine (HCH.out y4 av T cv (ws.map (F.tau S r4 rS)) S (HBW.out _ HB4.out.1) HB4.out.2 HCT.out).mono ?_
            rintro e y5 ⟨rfl, hb5⟩
            have HB5 : Hid (Below W0.heap.size W0 y5) := HB4.out.1.trans (hb5.mono HB4.out.1.size)
            clear hb5 c0 c1 d0 d1 d2 d3
            go_wp2_with fail
            refine (HLV.out y5 (HBW.out _ HB5.out)).mono ?_
            rintro e y6 ⟨rfl, hb6⟩
            have HB6 : Hid (Below W0.heap.size W0 y6) := HB5.out.trans (hb6.mono HB5.out.size)
            clear hb6
            go_wp2_with fail
            go_ret
            exact ⟨rfl, HBW.out _ HB6.out⟩
      · have hwz : IntKind.i64.wrap (z + 1) = z + 1 := by rw [IntKind.wrap_i64]; omega
        have hwn : IntKind.i64.wrap (-(z + 1)) = B := by rw [IntKind.wrap_i64]; omega
        have hzd : decide (z < 0) = true := by simp; omega
        clear hB
        clear hw1 hzr
        go_wp2_with fail
        try rw [hW7]
        try rw [hb7]
        clear hY hb5 hW7 hb7 e0 e1
        go_loopg [8, 9] T (fun r v8 v9 wq => ∃ (k : Nat), r = T - k ∧ v8 = .int .i64 k ∧ k ≤ T ∧ Hid (TnI Y S (ws.map (F.tau S r4 rS)) k wq))
        case atStart => exact ⟨0, rfl, rfl, Nat.zero_le _, HI0⟩
        case round =>
          obtain ⟨k, rfl, rfl, hk, HI⟩ := hrel
          clear HI0
          obtain ⟨v, hv1, hv2, hv3⟩ := HI.out
          have HV : Hid (Below Y.heap.size Y wr ∧ wr.heap[Y.heap.size]? = some (.cells #[v, .int .i64 S] 38) ∧ wr.ownsRow Y.heap.size 3 1 v k (((ws.map (F.tau S r4 rS)).take k).map iV)) := ⟨hv1, hv2, hv3⟩
          rw [HB7.out] at hv2
          have c0 := cell_blk hv2 0 (v := v) rfl
          have c1 := cell_blk hv2 1 (v := .int .i64 S) rfl
          have e0 := (HY.out.2.2.below hv1).c 0 _ rfl
          have e1 := (HY.out.2.2.below hv1).c 1 _ rfl
          by_cases hkT : k < T
          · have hki : (k : Int) < T := by omega
            have hk0 : 0 ≤ (k : Int) := by omega
            obtain ⟨qb, qo, rfl, hcell⟩ := (HY.out.2.1.below hv1).at hkT
            obtain ⟨p, hp⟩ : ∃ p, ws.getD k 0 = p := ⟨_, rfl⟩
            rw [hp] at hcell
            have hpl := HPL.out k hkT
            have hwat : F.wAt ws (k : Int) = p := by unfold F.wAt; rw [Int.toNat_natCast]; exact hp
            rw [hwat] at hpl
            have HPV : Hid ((ws.map (F.tau S r4 rS))[k]? = some (F.tau S r4 rS p)) := by
              have hl : k < ws.length := by rw [HY.out.2.1.count]; exact hkT
              have : ws[k] = p := by rw [← hp]; simp [List.getD, hl]
              show _ = _
              simp [hl, this]
            clear hv1 hv2 hv3 hwat hp HI
            unfold F.plOk at hpl
            by_cases hp8 : p < 8
            · have hp4 : 1 ≤ p ∧ p ≤ 4 := by omega
              have ht : F.tau S r4 rS p = 1 + F.cyc (p - 1) r4 4 := by unfold F.tau; rw [if_pos hp8]
              have hc := F.cyc_in (x := p - 1) (r := r4) (S := 4) (by omega) (by omega) HP.out.1 HP.out.2
              have hm := F.cyc_mod (x := p - 1) (r := r4) (S := 4) (by omega) (by omega) HP.out.1 HP.out.2
              have hr4 := HR4.out.1
              have hP := HP.out
              have wz1 : IntKind.i64.wrap (p - 1) = p - 1 := by rw [IntKind.wrap_i64]; omega
              have wz2 : IntKind.i64.wrap (p - 1 + r4) = p - 1 + r4 := by rw [IntKind.wrap_i64]; omega
              have wz3 : IntKind.i64.wrap (1 + F.cyc (p - 1) r4 4) = 1 + F.cyc (p - 1) r4 4 := by rw [IntKind.wrap_i64]; omega
              have wz4 : IntKind.i64.wrap r4 = r4 := by rw [IntKind.wrap_i64]; omega
              have wz5 : IntKind.i64.wrap (F.cyc (p - 1) r4 4) = F.cyc (p - 1) r4 4 := by rw [IntKind.wrap_i64]; omega
              clear hpl hP
              have HNC : Hid (∀ (q : Nat) u, ([iV (1 + F.cyc (p - 1) r4 4)] : List Value)[q]? = some u → (wr.alloc (.cells #[.int .i64 (1 + F.cyc (p - 1) r4 4)] 3)).cell? ((⟨wr.heap.size, 0, none⟩ : Addr).add q) = some u) := fun q u hu => by
                rw [Addr.add_lit, Nat.zero_add]
                exact ncell_at (by simpa [iV] using hu)
              have HA1 : Hid ((wr.alloc (.cells #[.int .i64 (1 + F.cyc (p - 1) r4 4)] 3)).ownsRow Y.heap.size 3 1 v k (((ws.map (F.tau S r4 rS)).take k).map iV)) := row_below HV.out.2.2 (bl1 _ _)
              have HBS : Hid (Y.heap.size ≤ (wr.alloc (.cells #[.int .i64 (1 + F.cyc (p - 1) r4 4)] 3)).heap.size) := by show _ ≤ _; have := HV.out.1.size; simp; omega
              have HB3 : Hid ((wr.alloc (.cells #[.int .i64 (1 + F.cyc (p - 1) r4 4)] 3)).heap[b7]? = some (.cells #[v, .int .i64 S] 38)) := blk_below (by rw [← HB7.out]; exact HV.out.2.1) (bl1 _ _)
              have HRB : Hid (∀ b, v.ownBlock = some b → b ≠ b7) := fun b hb => by
                obtain ⟨cur, hcur⟩ := own_cells HA1.out hb
                exact blk_ne hcur HB3.out (by decide)
              go_wp2_with (first | (at_builtin; refine wpList_append_own _ rfl _ _ 30 rfl Y.heap.size 3 ii _ 1 8 Tryd.underlying30 hii hy0 hy1 hy2 rfl (by decide) v k _ rfl HA1.out ⟨wr.heap.size, 0, none⟩ 1 1 [iV (1 + F.cyc (p - 1) r4 4)] rfl rfl HNC.out (by intro u hu; simp at hu; subst hu; rfl) (by unfold maxLen; omega) (by omega) HBS.out ?_; intro v' w3 hown' hgrow _; obtain ⟨g', cap', rfl⟩ := ownsRow_succ hown'; have HO3 : Hid _ := hown'; have HG3 : Hid _ := hgrow; have HB4 : Hid (w3.heap[b7]? = some (.cells #[v, .int .i64 S] 38)) := (hgrow.block _ (Array.getElem?_eq_some_iff.1 HB3.out).1 (fun e => HRB.out _ e.symm rfl)).trans HB3.out; have d2 := cell_blk HB4.out 0 (v := v) rfl; have f2 := blk_fro (o := 0) HB4.out; clear hown' hgrow))
              have HN : Hid (TnI Y S (ws.map (F.tau S r4 rS)) (k + 1) (w3.setCell ⟨b7, 0, none⟩ (.slice (some ⟨g', 0, none⟩) (k + 1) cap'))) := by
                have hg3 := HG3.out
                have hlow : Below Y.heap.size Y w3 := (HV.out.1.trans ((bl1 wr (.cells #[.int .i64 (1 + F.cyc (p - 1) r4 4)] 3)).mono HV.out.1.size)).grown hg3 (by have := HV.out.1.size; simp; omega) (fun b hb => (HA1.out.lt b hb).1)
                refine ⟨.slice (some ⟨g', 0, none⟩) (k + 1) cap', hlow.setCell (p := ⟨b7, 0, none⟩) (by rw [← HB7.out]; exact Nat.le_refl _) _, by rw [HB7.out]; exact blk_put2 HB4.out, ?_⟩
                rw [List.take_add_one, HPV.out, List.map_append, ht]
                refine World.ownsRow.kept (w := w3) ?_ (gb_set _ _ _) (.inr (fun e => ?_))
                · exact HO3.out
                · have e2 : g' = b7 := by simpa [Value.ownBlock] using e
                  obtain ⟨cur, hcur⟩ := own_cells HO3.out (b := g') rfl
                  exact blk_ne hcur HB4.out (by decide) e2
              clear HA1 HNC HBS HB3 HRB HO3 HG3 d2 f2
              try go_wp2_with fail
              go_roundg (T - (k + 1))
              case measure => omega
              case rel => exact ⟨k + 1, rfl, by go_num, by omega, HN⟩
            · have hp9 : 8 ≤ p ∧ p < 8 + S := by omega
              have hSp : 0 < S := by omega
              have hq := HQ.out hSp
              have ht : F.tau S r4 rS p = 8 + F.cyc (p - 8) rS S := by unfold F.tau; rw [if_neg hp8]
              have hc := F.cyc_in (x := p - 8) (r := rS) (S := S) (by omega) (by omega) hq.1 hq.2
              have hm := F.cyc_mod (x := p - 8) (r := rS) (S := S) (by omega) (by omega) hq.1 hq.2
              have hrS := HR4.out.2
              have hS9 : (S == 0) = false := by simp; omega
              have hS8 : ¬ S = 0 := by omega
              have wz1 : IntKind.i64.wrap (p - 8) = p - 8 := by rw [IntKind.wrap_i64]; omega
              have wz2 : IntKind.i64.wrap (p - 8 + rS) = p - 8 + rS := by rw [IntKind.wrap_i64]; omega
              have wz3 : IntKind.i64.wrap (8 + F.cyc (p - 8) rS S) = 8 + F.cyc (p - 8) rS S := by rw [IntKind.wrap_i64]; omega
              have wz4 : IntKind.i64.wrap rS = rS := by rw [IntKind.wrap_i64]; omega
              have wz5 : IntKind.i64.wrap (F.cyc (p - 8) rS S) = F.cyc (p - 8) rS S := by rw [IntKind.wrap_i64]; omega
              have hp81 : decide (p < 8) = false := by simp; omega
              have HSS : Hid (wr.drew.cell? ⟨b5, 1, none⟩ = some (.int .i64 S)) := e1
              have HVZ : Hid (Below Y.heap.size Y wr.drew ∧ wr.drew.heap[Y.heap.size]? = some (.cells #[v, .int .i64 S] 38) ∧ wr.drew.ownsRow Y.heap.size 3 1 v k (((ws.map (F.tau S r4 rS)).take k).map iV)) := ⟨HV.out.1.drew, HV.out.2.1, row_below HV.out.2.2 (Below.refl _ _).drew⟩
              clear hpl hq
              go_wp2_with fail
              refine wp_region_held_drew (S := (fun w' : World => w'.cell? ⟨b5, 1, none⟩ = some (.int .i64 S))) (by kernel_rfl) HSS.out (fun hHeld => ?_)
              refine tkr (i := 0) (v := ?_) (tA rfl) (by kernel_rfl) (fun _ _ _ h => h) (Or.inl ⟨by rfl, ?_⟩) (by assumption) ?_
              rotate_left
              · (intro w hSw; (try dsimp only at hSw); go_simp <;> with_reducible rfl)
              simp only [Act.put, List.setIfInBounds_toArray, List.set_cons_zero, List.set_cons_succ]
              refine tkr (i := 1) (v := ?_) (tA rfl) (by kernel_rfl) (fun _ _ _ h => h) (Or.inl ⟨by rfl, ?_⟩) (by assumption) ?_
              rotate_left
              · (intro w hSw; (try dsimp only at hSw); go_simp <;> with_reducible rfl)
              simp only [Act.put, List.setIfInBounds_toArray, List.set_cons_zero, List.set_cons_succ]
              refine tkr (i := 2) (v := ?_) (tA rfl) (by kernel_rfl) (fun _ _ _ h => h) (Or.inl ⟨by rfl, ?_⟩) (by assumption) ?_
              rotate_left
              · (intro w hSw; (try dsimp only at hSw); go_simp <;> with_reducible rfl)
              simp only [Act.put, List.setIfInBounds_toArray, List.set_cons_zero, List.set_cons_succ]
              refine tkr (i := 3) (v := ?_) (tA rfl) (by kernel_rfl) (fun _ _ _ h => h) (Or.inl ⟨by rfl, ?_⟩) (by assumption) ?_
              rotate_left
              · (intro w hSw; (try dsimp only at hSw); go_simp <;> with_reducible rfl)
              simp only [Act.put, List.setIfInBounds_toArray, List.set_cons_zero, List.set_cons_succ]
              refine tkr (i := 4) (v := ?_) (tA rfl) (by kernel_rfl) (fun _ _ _ h => h) (Or.inl ⟨by rfl, ?_⟩) (by assumption) ?_
              rotate_left
              · (intro w hSw; (try dsimp only at hSw); go_simp <;> with_reducible rfl)
              simp only [Act.put, List.setIfInBounds_toArray, List.set_cons_zero, List.set_cons_succ]
              refine tkr (i := 5) (v := ?_) (tA rfl) (by kernel_rfl) (fun _ _ _ h => h) (Or.inl ⟨by rfl, ?_⟩) (by assumption) ?_
              rotate_left
              · (intro w hSw; (try dsimp only at hSw); go_simp <;> with_reducible rfl)
              simp only [Act.put, List.setIfInBounds_toArray, List.set_cons_zero, List.set_cons_succ]
              refine tkr (i := 6) (v := ?_) (tA rfl) (by kernel_rfl) (fun _ _ _ h => h) (Or.inl ⟨by rfl, ?_⟩) (by assumption) ?_
              rotate_left
              · (intro w hSw; (try dsimp only at hSw); go_simp <;> with_reducible rfl)
              simp only [Act.put, List.setIfInBounds_toArray, List.set_cons_zero, List.set_cons_succ]
              refine tkr (i := 7) (v := ?_) (tA rfl) (by kernel_rfl) (fun _ _ _ h => h) (Or.inl ⟨by rfl, ?_⟩) (by assumption) ?_
              rotate_left
              · (intro w hSw; (try dsimp only at hSw); go_simp <;> with_reducible rfl)
              simp only [Act.put, List.setIfInBounds_toArray, List.set_cons_zero, List.set_cons_succ]
              refine tkr (i := 8) (v := ?_) (tA rfl) (by kernel_rfl) (fun _ _ _ h => h) (Or.inl ⟨by rfl, ?_⟩) (by assumption) ?_
              rotate_left
              · (intro w hSw; (try dsimp only at hSw); go_simp <;> with_reducible rfl)
              simp only [Act.put, List.setIfInBounds_toArray, List.set_cons_zero, List.set_cons_succ]
              refine tkr (i := 9) (v := ?_) (tA rfl) (by kernel_rfl) (fun _ _ _ h => h) (Or.inl ⟨by rfl, ?_⟩) (by assumption) ?_
              rotate_left
              · (intro w hSw; (try dsimp only at hSw); go_simp <;> with_reducible rfl)
              simp only [Act.put, List.setIfInBounds_toArray, List.set_cons_zero, List.set_cons_succ]
              refine tkr (i := 10) (v := ?_) (tA rfl) (by kernel_rfl) (fun _ _ _ h => h) (Or.inl ⟨by rfl, ?_⟩) (by assumption) ?_
              rotate_left
              · (intro w hSw; (try dsimp only at hSw); go_simp <;> with_reducible rfl)
              simp only [Act.put, List.setIfInBounds_toArray, List.set_cons_zero, List.set_cons_succ]
              refine tkr (i := 11) (v := ?_) (tA rfl) (by kernel_rfl) (fun _ _ _ h => h) (Or.inl ⟨by rfl, ?_⟩) (by assumption) ?_
              rotate_left
              · (intro w hSw; (try dsimp only at hSw); go_simp <;> with_reducible rfl)
              simp only [Act.put, List.setIfInBounds_toArray, List.set_cons_zero, List.set_cons_succ]
              refine wpAnyH_done (by kernel_rfl) ?_ _
              clear hHeld HSS
              obtain ⟨Z, hZ⟩ : ∃ Z, wr.drew = Z := ⟨_, rfl⟩
              rw [hZ] at HVZ ⊢
              clear hZ c0 c1 e0 e1 hcell
              have hv2 := HVZ.out.2.1
              rw [HB7.out] at hv2
              have c0 := cell_blk hv2 0 (v := v) rfl
              clear hv2
              have HNC : Hid (∀ (q : Nat) u, ([iV (8 + F.cyc (p - 8) rS S)] : List Value)[q]? = some u → (Z.alloc (.cells #[.int .i64 (8 + F.cyc (p - 8) rS S)] 3)).cell? ((⟨Z.heap.size, 0, none⟩ : Addr).add q) = some u) := fun q u hu => by
                rw [Addr.add_lit, Nat.zero_add]
                exact ncell_at (by simpa [iV] using hu)
              have HA1 : Hid ((Z.alloc (.cells #[.int .i64 (8 + F.cyc (p - 8) rS S)] 3)).ownsRow Y.heap.size 3 1 v k (((ws.map (F.tau S r4 rS)).take k).map iV)) := row_below HVZ.out.2.2 (bl1 _ _)
              have HBS : Hid (Y.heap.size ≤ (Z.alloc (.cells #[.int .i64 (8 + F.cyc (p - 8) rS S)] 3)).heap.size) := by show _ ≤ _; have := HVZ.out.1.size; simp; omega
              have HB3 : Hid ((Z.alloc (.cells #[.int .i64 (8 + F.cyc (p - 8) rS S)] 3)).heap[b7]? = some (.cells #[v, .int .i64 S] 38)) := blk_below (by rw [← HB7.out]; exact HVZ.out.2.1) (bl1 _ _)
              have HRB : Hid (∀ b, v.ownBlock = some b → b ≠ b7) := fun b hb => by
                obtain ⟨cur, hcur⟩ := own_cells HA1.out hb
                exact blk_ne hcur HB3.out (by decide)
              go_wp2_with (first | (at_builtin; refine wpList_append_own _ rfl _ _ 30 rfl Y.heap.size 3 ii _ 1 8 Tryd.underlying30 hii hy0 hy1 hy2 rfl (by decide) v k _ rfl HA1.out ⟨Z.heap.size, 0, none⟩ 1 1 [iV (8 + F.cyc (p - 8) rS S)] rfl rfl HNC.out (by intro u hu; simp at hu; subst hu; rfl) (by unfold maxLen; omega) (by omega) HBS.out ?_; intro v' w3 hown' hgrow _; obtain ⟨g', cap', rfl⟩ := ownsRow_succ hown'; have HO3 : Hid _ := hown'; have HG3 : Hid _ := hgrow; have HB4 : Hid (w3.heap[b7]? = some (.cells #[v, .int .i64 S] 38)) := (hgrow.block _ (Array.getElem?_eq_some_iff.1 HB3.out).1 (fun e => HRB.out _ e.symm rfl)).trans HB3.out; have d2 := cell_blk HB4.out 0 (v := v) rfl; have f2 := blk_fro (o := 0) HB4.out; clear hown' hgrow))
              have HN : Hid (TnI Y S (ws.map (F.tau S r4 rS)) (k + 1) (w3.setCell ⟨b7, 0, none⟩ (.slice (some ⟨g', 0, none⟩) (k + 1) cap'))) := by
                have hg3 := HG3.out
                have hlow : Below Y.heap.size Y w3 := (HVZ.out.1.trans ((bl1 Z (.cells #[.int .i64 (8 + F.cyc (p - 8) rS S)] 3)).mono HVZ.out.1.size)).grown hg3 (by have := HVZ.out.1.size; simp; omega) (fun b hb => (HA1.out.lt b hb).1)
                refine ⟨.slice (some ⟨g', 0, none⟩) (k + 1) cap', hlow.setCell (p := ⟨b7, 0, none⟩) (by rw [← HB7.out]; exact Nat.le_refl _) _, by rw [HB7.out]; exact blk_put2 HB4.out, ?_⟩
                rw [List.take_add_one, HPV.out, List.map_append, ht]
                refine World.ownsRow.kept (w := w3) ?_ (gb_set _ _ _) (.inr (fun e => ?_))
                · exact HO3.out
                · have e2 : g' = b7 := by simpa [Value.ownBlock] using e
                  obtain ⟨cur, hcur⟩ := own_cells HO3.out (b := g') rfl
                  exact blk_ne hcur HB4.out (by decide) e2
              clear HA1 HNC HBS HB3 HRB HO3 HG3 d2 f2
              try go_wp2_with fail
              go_roundg (T - (k + 1))
              case measure => omega
              case rel => exact ⟨k + 1, rfl, by go_num, by omega, HN⟩
          · have hkk : T = k := by omega
            subst hkk
            have hki : ¬ (T : Int) < T := by omega
            have hlm : (ws.map (F.tau S r4 rS)).length = T := by rw [List.length_map]; exact HY.out.2.1.count
            obtain ⟨av, cv, hv⟩ : ∃ av cv, v = .slice av T cv := by
              rcases hv3.2 with ⟨ex, ex2⟩ | ⟨qx, cap, cur, ex, -⟩
              · exact ⟨none, 0, by rw [ex, ex2]⟩
              · exact ⟨_, cap, ex⟩
            subst hv
            have HNW : Hid (NumV wr av T cv (ws.map (F.tau S r4 rS))) := by
              rw [← hlm, List.take_length, hlm] at hv3
              refine num_of_row hv3 hlm (fun zz hzz => ?_)
              obtain ⟨y0, hy0, rfl⟩ := List.mem_map.1 hzz
              obtain ⟨i, hi, rfl⟩ := List.mem_iff_getElem.1 hy0
              have hl2 : ws.length = T := HY.out.2.1.count
              have hpl := HPL.out i (by omega)
              have e2 : F.wAt ws (i : Int) = ws[i] := by unfold F.wAt; simp [List.getD, hi]
              rw [e2] at hpl
              have := (F.tau_ok HP.out HQ.out hpl).1
              unfold F.plOk at this
              show (decide (IntKind.i64.min ≤ F.tau S r4 rS ws[i]) && decide (F.tau S r4 rS ws[i] ≤ IntKind.i64.max)) = true
              rw [show IntKind.i64.min = -9223372036854775808 from rfl, show IntKind.i64.max = 9223372036854775807 from rfl, Bool.and_eq_true, decide_eq_true_eq, decide_eq_true_eq]
              omega
            have HBE : Hid (Below W0.heap.size W0 wr ∧ NumV wr q T T ws) := ⟨HY.out.1.trans (hv1.mono HY.out.1.size), HY.out.2.1.below hv1⟩
            clear hv1 hv2 hv3 hlm HV HI
            obtain ⟨d0, d1, d2, d3⟩ := HD.out wr HBE.out.1
            go_wp2_with fail
            refine (HCH.out wr q T T ws S (HBW.out _ HBE.out.1) HBE.out.2 HCK.out).mono ?_
            rintro e y4 ⟨rfl, hb4⟩
            have HB4 : Hid (Below W0.heap.size W0 y4 ∧ NumV y4 av T cv (ws.map (F.tau S r4 rS))) := ⟨HBE.out.1.trans (hb4.mono HBE.out.1.size), HNW.out.below hb4⟩
            have c0 := cell_thru hb4 c0
            have c1 := cell_thru hb4 c1
            clear hb4 d0 d1 d2 d3 e0 e1 HBE HNW
            obtain ⟨d0, d1, d2, d3⟩ := HD.out y4 HB4.out.1
            go_wp2_with fail
            refine (HCH.out y4 av T cv (ws.map (F.tau S r4 rS)) S (HBW.out _ HB4.out.1) HB4.out.2 HCT.out).mono ?_
            rintro e y5 ⟨rfl, hb5⟩
            have HB5 : Hid (Below W0.heap.size W0 y5) := HB4.out.1.trans (hb5.mono HB4.out.1.size)
            clear hb5 c0 c1 d0 d1 d2 d3
            go_wp2_with fail
            refine (HLV.out y5 (HBW.out _ HB5.out)).mono ?_
            rintro e y6 ⟨rfl, hb6⟩
            have HB6 : Hid (Below W0.heap.size W0 y6) := HB5.out.trans (hb6.mono HB5.out.size)
            clear hb6
            go_wp2_with fail
            go_ret
            exact ⟨rfl, HBW.out _ HB6.out⟩
end Go.Proofs.YtljgpngbkmembaaDoor
