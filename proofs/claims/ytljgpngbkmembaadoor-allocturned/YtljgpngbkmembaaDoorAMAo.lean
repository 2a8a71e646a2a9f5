/- The program's MayBe: may a function be? -/
import Derived.Test.YtljgpngbkmembaaDoorAMAn
import Derived.Test.YtljgpngbkmembaaDoorAMAk
import Derived.Test.YtljgpngbkmembaaDoorAMAm
import Derived.Test.YtljgpngbkmembaaDoorAMAd
import Derived.Test.YtljgpngbkmembaaDoorAMAl
import Derived.WalkMore
namespace Go.Proofs.YtljgpngbkmembaaDoor
open Go.RowKit Go.Maps
set_option linter.unusedVariables false
set_option linter.unusedSimpArgs false
set_option maxRecDepth 100000 in
set_option maxHeartbeats 8000000 in
theorem mayBe_any {w : World} {f : F.Fn} {a : Option Addr} {l c : Nat} (h : OpsV w a l c f.code) (ht : Shp w) : Calls Tryd.prog 21 #[fnV f a l c] w fun e w' => e = .returned (.bool (F.mayF f)) ∧ Below w.heap.size w w' := by
  have hmax : maxLen = 9223372036854775807 := rfl
  have HO : Hid (OpsV w a l c f.code) := h
  have HC : Hid (f.code.length = l) := h.count
  have hrm := h.room
  obtain ⟨R, hR⟩ : ∃ R, F.mayF f = R := ⟨_, rfl⟩
  have HR : Hid (R = (F.headOk f && ((List.range l).all (fun i => F.opOk f.temps l (F.at_ f i)) && !(F.falls (F.at_ f (l - 1)))))) := by show _ = _; rw [← hR, ← HC.out]; rfl
  have HHD : Hid (F.headOk f = headB f.params f.temps l) := by show _ = _; rw [← HC.out]; rfl
  rw [hR]
  clear h hR
  have HT : Hid (Shp w) := ht
  clear ht
  have HOP : Hid (∀ W x r, Shp W → NumV W r.a r.l r.c x.args → Calls Tryd.prog 37 #[fnV f a l c, opV x r] W fun e w' => e = .returned (.bool (F.opOk f.temps l x)) ∧ Below W.heap.size W w') := fun W x r hW hr => mayDo_any x r hrm hr hW
  have HFL : Hid (∀ W x r, Shp W → 0 ≤ x.op ∧ x.op ≤ 16 → Calls Tryd.prog 38 #[opV x r] W fun e w' => e = .returned (.bool (F.falls x)) ∧ Below W.heap.size W w') := fun W x r hW hx => falls_any x r (k := x.op.toNat) (by omega) (by omega) W hW
  obtain ⟨nm0, hnm0⟩ : ∃ q, f.name = q := ⟨_, rfl⟩
  obtain ⟨params, hpar⟩ : ∃ q, f.params = q := ⟨_, rfl⟩
  obtain ⟨T, htm⟩ : ∃ q, f.temps = q := ⟨_, rfl⟩
  unfold fnV at HOP ⊢
  rw [hnm0, hpar, htm] at HOP ⊢
  rw [hpar, htm] at HHD
  rw [htm] at HR
  clear hnm0 hpar htm
  have HB : Hid (Below w.heap.size w (w.alloc (.cells #[.string nm0, .int .i64 params, .int .i64 T, .slice a l c] 24))) := bl1 _ _
  have HBAD : Hid (headB params T l = false → R = false) := fun e => by rw [HR.out, HHD.out, e]; rfl
  by_cases h1 : params < 0
  · have HRF := HBAD.out (by unfold headB; rw [decide_eq_false (by omega : ¬ 0 ≤ params)]; rfl)
    subst HRF
    go_enter Tryd.func21, Tryd.ntmps21
    go_wp2_with fail
    go_ret
    exact ⟨rfl, HB.out⟩
  by_cases h2 : T < params
  · have HRF := HBAD.out (by unfold headB; rw [decide_eq_false (by omega : ¬ params ≤ T)]; simp)
    subst HRF
    go_enter Tryd.func21, Tryd.ntmps21
    go_wp2_with fail
    go_ret
    exact ⟨rfl, HB.out⟩
  by_cases h3 : 400 < T
  · have HRF := HBAD.out (by unfold headB; rw [decide_eq_false (by omega : ¬ T ≤ 400)]; simp)
    subst HRF
    go_enter Tryd.func21, Tryd.ntmps21
    go_wp2_with fail
    go_ret
    exact ⟨rfl, HB.out⟩
  by_cases h4 : l < 1
  · have h4i : (l : Int) < 1 := by omega
    have HRF := HBAD.out (by unfold headB; rw [decide_eq_false (by omega : ¬ 1 ≤ l)]; simp)
    subst HRF
    go_enter Tryd.func21, Tryd.ntmps21
    go_wp2_with fail
    go_ret
    exact ⟨rfl, HB.out⟩
  have h4i : ¬ (l : Int) < 1 := by omega
  by_cases h5 : 20000 < l
  · have h5i : (20000 : Int) < l := by omega
    have HRF := HBAD.out (by unfold headB; rw [decide_eq_false (by omega : ¬ l ≤ 20000)]; simp)
    subst HRF
    go_enter Tryd.func21, Tryd.ntmps21
    go_wp2_with fail
    go_ret
    exact ⟨rfl, HB.out⟩
  have h5i : ¬ (20000 : Int) < l := by omega
  have HGOOD : Hid (R = ((List.range l).all (fun i => F.opOk T l (F.at_ f i)) && !(F.falls (F.at_ f (l - 1))))) := by
    show _ = _
    rw [HR.out, HHD.out]
    unfold headB
    rw [decide_eq_true (by omega : 0 ≤ params), decide_eq_true (by omega : params ≤ T), decide_eq_true (by omega : T ≤ 400), decide_eq_true (by omega : 1 ≤ l), decide_eq_true (by omega : l ≤ 20000)]
    rfl
  clear HBAD HR HHD
  obtain ⟨b, off, r0, hab, -, -⟩ := HO.out.at (i := 0) (by omega)
  subst hab
  obtain ⟨W0, hW0⟩ : ∃ W0, w.alloc (.cells #[.string nm0, .int .i64 params, .int .i64 T, .slice (some ⟨b, off, none⟩) l c] 24) = W0 := ⟨_, rfl⟩
  have HB0 : Hid (Below w.heap.size w W0) := by show Below _ _ _; rw [← hW0]; exact bl1 _ _
  have d0 : W0.cell? ⟨w.heap.size, 0, none⟩ = some (.string nm0) := by rw [← hW0]; exact ncell_at rfl
  have d1 : W0.cell? ⟨w.heap.size, 1, none⟩ = some (.int .i64 params) := by rw [← hW0]; exact ncell_at rfl
  have d2 : W0.cell? ⟨w.heap.size, 2, none⟩ = some (.int .i64 T) := by rw [← hW0]; exact ncell_at rfl
  have d3 : W0.cell? ⟨w.heap.size, 3, none⟩ = some (.slice (some ⟨b, off, none⟩) l c) := by rw [← hW0]; exact ncell_at rfl
  have HD : Hid (∀ y, Below W0.heap.size W0 y → (y.cell? ⟨w.heap.size, 0, none⟩ = some (.string nm0) ∧ y.cell? ⟨w.heap.size, 1, none⟩ = some (.int .i64 params) ∧ y.cell? ⟨w.heap.size, 2, none⟩ = some (.int .i64 T) ∧ y.cell? ⟨w.heap.size, 3, none⟩ = some (.slice (some ⟨b, off, none⟩) l c))) := fun y hy => ⟨cell_thru hy d0, cell_thru hy d1, cell_thru hy d2, cell_thru hy d3⟩
  go_enter Tryd.func21, Tryd.ntmps21
  go_wp2_with fail
  clear d0 d1 d2 d3 hW0 HB
  go_loopg [4, 33] l (fun g z4 iv wq => ∃ (i : Nat), g = l - i ∧ iv = .int .i64 i ∧ i ≤ l ∧ Hid (∀ k, k < i → F.opOk T l (F.at_ f k) = true) ∧ Hid (Below W0.heap.size W0 wq))
  case atStart => exact ⟨0, rfl, rfl, Nat.zero_le _, (fun i hi => by omega : ∀ k, k < 0 → F.opOk T l (F.at_ f k) = true), Below.refl _ _⟩
  case round =>
    obtain ⟨i, rfl, rfl, hi, HAL, HBI⟩ := hrel
    have HBW : Hid (Below w.heap.size w wr) := HB0.out.trans (HBI.out.mono HB0.out.size)
    by_cases hil : i < l
    · have hii : (i : Int) < l := by omega
      have hi0 : 0 ≤ (i : Int) := by omega
      obtain ⟨b', off', r, e, ho, ha⟩ := (HO.out.below HBW.out).at hil
      cases e
      have HNX : Hid (F.opOk T l (F.at_ f i) = true → ∀ k, k < i + 1 → F.opOk T l (F.at_ f k) = true) := fun e k hk => by
        by_cases e2 : k = i
        · subst e2; exact e
        · exact HAL.out k (by omega)
      have HNO : Hid (F.opOk T l (F.at_ f i) = false → R = false) := fun e => by rw [HGOOD.out, F.all_range_no hil e]; rfl
      have HHOP : Hid (∀ y, Below wr.heap.size wr y → Calls Tryd.prog 37 #[.agg #[.string nm0, .int .i64 params, .int .i64 T, .slice (some ⟨b, off, none⟩) l c], opV (F.at_ f i) r] y fun e w' => e = .returned (.bool (F.opOk T l (F.at_ f i))) ∧ Below y.heap.size y w') := fun y hy => HOP.out y (F.at_ f i) r (HT.out.below (HBW.out.trans (hy.mono HBW.out.size))) (ha.below hy)
      obtain ⟨ok, hok⟩ : ∃ ok, F.opOk T l (F.at_ f i) = ok := ⟨_, rfl⟩
      rw [hok] at HHOP HNX HNO
      have hatq : f.code.getD i F.noOp = F.at_ f i := rfl
      rw [hatq] at ho
      obtain ⟨x, hx⟩ : ∃ x, F.at_ f i = x := ⟨_, rfl⟩
      rw [hx] at ho HHOP
      clear hok hatq hx ha
      obtain ⟨xop, xwhat, xnm, xd, xa, xb, xn, xargs, xdest⟩ := x
      obtain ⟨xra, xrl, xrc⟩ := r
      obtain ⟨o0, o1, o2, o3, o4, o5, o6, o7, o8⟩ := ho
      simp only at o0 o1 o2 o3 o4 o5 o6 o7 o8
      unfold opV at HHOP
      simp only at HHOP
      obtain ⟨W5, hW5⟩ : ∃ W5, wr.alloc (.cells #[.int .i64 xop, .int .i64 xwhat, .string xnm, .int .i64 xd, .int .i64 xa, .int .i64 xb, .int .i64 xn, .slice xra xrl xrc, .int .i64 xdest] 46) = W5 := ⟨_, rfl⟩
      have HB5 : Hid (Below wr.heap.size wr W5) := by show Below _ _ _; rw [← hW5]; exact bl1 _ _
      have HB05 : Hid (Below W0.heap.size W0 W5) := HBI.out.trans (HB5.out.mono HBI.out.size)
      obtain ⟨d0, d1, d2, d3⟩ := HD.out W5 HB05.out
      have hop := HHOP.out W5 HB5.out
      have p0 : W5.cell? ⟨wr.heap.size, 0, none⟩ = some (.int .i64 xop) := by rw [← hW5]; exact ncell_at rfl
      have p1 : W5.cell? ⟨wr.heap.size, 1, none⟩ = some (.int .i64 xwhat) := by rw [← hW5]; exact ncell_at rfl
      have p2 : W5.cell? ⟨wr.heap.size, 2, none⟩ = some (.string xnm) := by rw [← hW5]; exact ncell_at rfl
      have p3 : W5.cell? ⟨wr.heap.size, 3, none⟩ = some (.int .i64 xd) := by rw [← hW5]; exact ncell_at rfl
      have p4 : W5.cell? ⟨wr.heap.size, 4, none⟩ = some (.int .i64 xa) := by rw [← hW5]; exact ncell_at rfl
      have p5 : W5.cell? ⟨wr.heap.size, 5, none⟩ = some (.int .i64 xb) := by rw [← hW5]; exact ncell_at rfl
      have p6 : W5.cell? ⟨wr.heap.size, 6, none⟩ = some (.int .i64 xn) := by rw [← hW5]; exact ncell_at rfl
      have p7 : W5.cell? ⟨wr.heap.size, 7, none⟩ = some (.slice xra xrl xrc) := by rw [← hW5]; exact ncell_at rfl
      have p8 : W5.cell? ⟨wr.heap.size, 8, none⟩ = some (.int .i64 xdest) := by rw [← hW5]; exact ncell_at rfl
      go_wp2_with fail
      refine hop.mono ?_
      rintro e y ⟨rfl, hy⟩
      have HBI2 : Hid (Below W0.heap.size W0 y) := HB05.out.trans (hy.mono HB05.out.size)
      have HBW2 : Hid (Below w.heap.size w y) := HB0.out.trans (HBI2.out.mono HB0.out.size)
      clear hy hop HHOP hW5 o0 o1 o2 o3 o4 o5 o6 o7 o8 d0 d1 d2 d3 p0 p1 p2 p3 p4 p5 p6 p7 p8
      cases ok with
      | false =>
        have HRF := HNO.out rfl
        subst HRF
        clear HNX HNO
        go_wp2_with fail
        go_ret
        exact ⟨rfl, HBW2.out⟩
      | true =>
        have HN : Hid _ := HNX.out rfl
        clear HNX HNO
        go_wp2_with fail
        go_roundg (l - (i + 1))
        case measure => omega
        case rel => exact ⟨i + 1, rfl, by go_num, by omega, HN, HBI2⟩
    · have hil2 : i = l := by omega
      have hii : ¬ (i : Int) < l := by omega
      have HRL : Hid (R = !(F.falls (F.at_ f (l - 1)))) := by show _ = _; rw [HGOOD.out, F.all_range_yes (fun k hk => HAL.out k (by omega))]; rfl
      have HK : Hid (0 ≤ (F.at_ f (l - 1)).op ∧ (F.at_ f (l - 1)).op ≤ 16) := by
        have := F.op_kind (HAL.out (l - 1) (by omega))
        show _ ∧ _
        omega
      clear hil2
      obtain ⟨d0, d1, d2, d3⟩ := HD.out wr HBI.out
      obtain ⟨lm, hlm⟩ : ∃ lm, l = lm + 1 := ⟨l - 1, by omega⟩
      subst hlm
      obtain ⟨b', off', r, e, ho, -⟩ := (HO.out.below HBW.out).at (i := lm) (by omega)
      cases e
      have hatq : f.code.getD lm F.noOp = F.at_ f lm := rfl
      rw [hatq] at ho
      rw [Nat.add_sub_cancel] at HRL HK
      have HFF := HFL.out wr (F.at_ f lm) r (HT.out.below HBW.out) HK.out
      obtain ⟨fl, hfl⟩ : ∃ v, F.falls (F.at_ f lm) = v := ⟨_, rfl⟩
      rw [hfl] at HRL HFF
      obtain ⟨x, hx⟩ : ∃ x, F.at_ f lm = x := ⟨_, rfl⟩
      rw [hx] at ho HFF
      clear hatq hx hfl HK HFL HAL HGOOD
      obtain ⟨xop, xwhat, xnm, xd, xa, xb, xn, xargs, xdest⟩ := x
      obtain ⟨xra, xrl, xrc⟩ := r
      obtain ⟨o0, o1, o2, o3, o4, o5, o6, o7, o8⟩ := ho
      simp only at o0 o1 o2 o3 o4 o5 o6 o7 o8
      unfold opV at HFF
      simp only at HFF
      have hlmi : (((lm + 1 : Nat) : Int) - 1) = (lm : Int) := by omega
      have hlm0 : 0 ≤ (lm : Int) := by omega
      have hlm1 : (lm : Int) < ((lm + 1 : Nat) : Int) := by omega
      go_wp2_with fail
      refine HFF.mono ?_
      rintro e y ⟨rfl, hy⟩
      have HBX : Hid (Below w.heap.size w y) := HBW.out.trans (hy.mono HBW.out.size)
      have HV : R = !fl := HRL.out
      subst HV
      clear hy HFF
      go_wp2_with fail
      go_ret
      exact ⟨rfl, HBX.out⟩
end Go.Proofs.YtljgpngbkmembaaDoor

/- The program's Live. -/
namespace Go.Proofs.YtljgpngbkmembaaDoor
open Go.RowKit Go.Maps Go.Shelf
set_option linter.unusedVariables false
set_option linter.unusedSimpArgs false
/-- The loop's state: what lay is as it was, and a table of lists of one's own. -/
structure LiI (w : World) (f : F.Fn) (n g : Nat) (y0 : World) (U : Nat → Nat → Nat) (k : Nat) (W : World) : Prop where
  low : Below w.heap.size w W
  up : Below g y0 W
  lt : LT w.heap.size W g n k fun i => F.els (F.orAll U (F.nxt (F.at_ f i) i))
theorem LiI.below {w W y y0 : World} {f : F.Fn} {n g : Nat} {U : Nat → Nat → Nat} {k : Nat} (h : LiI w f n g y0 U k W) (hb : Below W.heap.size W y) : LiI w f n g y0 U k y :=
  ⟨h.low.trans (hb.mono h.low.size), h.up.trans (hb.mono (Nat.le_of_lt h.lt.lt)), h.lt.below hb⟩
theorem LiI.row {w W y0 : World} {f : F.Fn} {n g : Nat} {U : Nat → Nat → Nat} {k : Nat} (h : LiI w f n g y0 U k W) (hk : k < n) {v : Value} {B : Nat} (hB : g < B) (ho : W.ownsRow B 3 1 v (F.els (F.orAll U (F.nxt (F.at_ f k) k))).length ((F.els (F.orAll U (F.nxt (F.at_ f k) k))).map iV)) : LiI w f n g y0 U (k + 1) (W.setCell ⟨g, k, none⟩ v) := by
  have hfit : ∀ z ∈ F.els (F.orAll U (F.nxt (F.at_ f k) k)), (Lit.int .i64 z).wf = true := fun z hz => by
    obtain ⟨t, rfl, ht, _⟩ := F.mem_els.1 hz
    show (decide (IntKind.i64.min ≤ (t : Int)) && decide ((t : Int) ≤ IntKind.i64.max)) = true
    have e1 : IntKind.i64.min = -9223372036854775808 := by decide
    have e2 : IntKind.i64.max = 9223372036854775807 := by decide
    rw [e1, e2, Bool.and_eq_true, decide_eq_true_eq, decide_eq_true_eq]
    omega
  obtain ⟨av, cv, hv⟩ : ∃ av cv, v = .slice av (F.els (F.orAll U (F.nxt (F.at_ f k) k))).length cv := by
    rcases ho.2 with ⟨e, e2⟩ | ⟨q, cap, cur, e, -⟩
    · exact ⟨none, 0, by rw [e, e2]⟩
    · exact ⟨_, cap, e⟩
  subst hv
  have hn := num_of_row ho rfl hfit
  have hf : ∀ p, av = some p → g ≠ p.block := fun p hp e => by
    subst hp
    have := (ho.lt p.block rfl).1
    omega
  exact ⟨h.low.setCell h.lt.ge _, h.up.setCell (Nat.le_refl _) _, h.lt.row hk rfl hn hf⟩
set_option maxRecDepth 100000 in
set_option maxHeartbeats 8000000 in
theorem liveP_any {w : World} {f : F.Fn} {a : Option Addr} {n c : Nat} (h : OpsV w a n c f.code) (he : Env w) {tab : Nat → Nat → Bool} (htab : ∀ i t, tab i t = true ↔ F.Lv f i t) :
    Calls Tryd.prog 11 #[fnV f a n c] w (LvOut w f n f.temps.toNat tab) := by
  obtain ⟨W0, hW0⟩ : ∃ W0, w.alloc (.cells #[.string f.name, .int .i64 f.params, .int .i64 f.temps, .slice a n c] 24) = W0 := ⟨_, rfl⟩
  have HB0 : Hid (Below w.heap.size w W0) := by show Below _ _ _; rw [← hW0]; exact bl1 _ _
  have d0 : W0.cell? ⟨w.heap.size, 0, none⟩ = some (.string f.name) := by rw [← hW0]; exact ncell_at rfl
  have d1 : W0.cell? ⟨w.heap.size, 1, none⟩ = some (.int .i64 f.params) := by rw [← hW0]; exact ncell_at rfl
  have d2 : W0.cell? ⟨w.heap.size, 2, none⟩ = some (.int .i64 f.temps) := by rw [← hW0]; exact ncell_at rfl
  have d3 : W0.cell? ⟨w.heap.size, 3, none⟩ = some (.slice a n c) := by rw [← hW0]; exact ncell_at rfl
  have HS0 : Hid (W0.heap.size = w.heap.size + 1) := by show _ = _; rw [← hW0]; simp
  have HD : Hid (∀ y, Below W0.heap.size W0 y → y.cell? ⟨w.heap.size, 0, none⟩ = some (.string f.name) ∧ y.cell? ⟨w.heap.size, 1, none⟩ = some (.int .i64 f.params) ∧ y.cell? ⟨w.heap.size, 2, none⟩ = some (.int .i64 f.temps) ∧ y.cell? ⟨w.heap.size, 3, none⟩ = some (.slice a n c)) := fun y hy => ⟨cell_thru hy d0, cell_thru hy d1, cell_thru hy d2, cell_thru hy d3⟩
  have HMB : Hid (∀ y, Below w.heap.size w y → Calls Tryd.prog 21 #[fnV f a n c] y fun e w' => e = .returned (.bool (F.mayF f)) ∧ Below y.heap.size y w') := fun y hy => mayBe_any (h.below hy) (he.below hy).shp
  have HNL : Hid (F.mayF f = true → ∀ y, Below w.heap.size w y → Calls Tryd.prog 22 #[fnV f a n c] y (NlOut y f a n c)) := fun hm y hy => newLife_any (h.below hy) hm (he.below hy)
  have HTAB : Hid (∀ i t, tab i t = true ↔ F.Lv f i t) := htab
  unfold fnV at HMB HNL ⊢
  clear h he htab
  have HBW : Hid (∀ y, Below W0.heap.size W0 y → Below w.heap.size w y) := fun y hy => HB0.out.trans (hy.mono HB0.out.size)
  have HOUT : Hid (∀ e W, LvOut w f n f.temps.toNat tab e W → LvOut w f n f.temps.toNat tab e W) := fun _ _ h => h
  go_enter Tryd.func11, Tryd.ntmps11
  go_wp2_with fail
  clear hW0
  obtain ⟨mb, hmb⟩ : ∃ mb, F.mayF f = mb := ⟨_, rfl⟩
  have HMF : Hid (F.mayF f = mb) := hmb
  rw [hmb] at HMB
  refine (HMB.out _ HB0.out).mono ?_
  rintro e y1 ⟨rfl, hb1⟩
  have HB1 : Hid (Below W0.heap.size W0 y1) := hb1
  clear hb1 hmb d0 d1 d2 d3 HMB
  obtain ⟨d0, d1, d2, d3⟩ := HD.out y1 HB1.out
  cases mb with
  | false =>
    go_wp2_with fail
    refine bodyPost_ret (v := .tuple #[.slice none 0 0, .slice none 0 0, .int .i64 1]) ?_ rfl ?_
    · simp [results, Tryd.results11, go_sem]
    · refine ⟨HBW.out _ HB1.out, ?_⟩
      rw [HMF.out, if_neg (by simp)]
  | true =>
    go_wp2_with fail
    refine (HNL.out HMF.out _ (HBW.out _ HB1.out)).mono ?_
    rintro e y2 ⟨b, ga, U, rfl, hlf, hlu, hge, hb2⟩
    have HB2 : Hid (Below W0.heap.size W0 y2) := HB1.out.trans (hb2.mono HB1.out.size)
    have HLU : Hid (LfU f n U) := hlu
    have HLF : Hid (LfV y2 b f a n c ga U) := hlf
    clear hb2 hlf hlu hge d0 d1 d2 d3 HNL
    obtain ⟨d0, d1, d2, d3⟩ := HD.out y2 HB2.out
    have hn2 : n ≤ 20000 := by have := (F.may_head HLU.out.may).2.2.2.2; have := HLU.out.cnt; omega
    have hn1 : 1 ≤ n := by have := (F.may_head HLU.out.may).2.2.2.1; have := HLU.out.cnt; omega
    have hmk := makeLs y2 n (by omega)
    have HI0 : Hid (LiI w f n y2.heap.size y2 U 0 (y2.alloc (.cells (List.replicate n (.slice none 0 0)).toArray 30))) :=
      ⟨(HBW.out _ HB2.out).trans ((bl1 _ _).mono (HBW.out _ HB2.out).size), bl1 _ _, by
        have := LT.start y2 n fun i => F.els (F.orAll U (F.nxt (F.at_ f i) i))
        exact ⟨(HBW.out _ HB2.out).size, this.lt, this.fro, this.slot, this.rows⟩⟩
    obtain ⟨g, hg⟩ : ∃ g, y2.heap.size = g := ⟨_, rfl⟩
    obtain ⟨W1, hW1⟩ : ∃ W1, y2.alloc (.cells (List.replicate n (.slice none 0 0)).toArray 30) = W1 := ⟨_, rfl⟩
    rw [hW1] at hmk HI0
    rw [hg] at hmk HI0
    have HGE : Hid (w.heap.size ≤ g) := by show _ ≤ _; rw [← hg]; exact (HBW.out _ HB2.out).size
    have HLF2 : Hid (∀ W, Below g y2 W → LfV W b f a n c ga U) := fun W hW => by rw [← hg] at hW; exact HLF.out.below hW
    clear hW1 hg
    go_wp2_with fail
    clear hmk d0 d1 d2 d3
    go_loopg [7, 19] n (fun r vv iv wq => ∃ (k : Nat), r = n - k ∧ iv = .int .i64 k ∧ k ≤ n ∧ Hid (LiI w f n g y2 U k wq))
    case atStart => exact ⟨0, rfl, rfl, Nat.zero_le _, HI0⟩
    case round =>
      obtain ⟨k, rfl, rfl, hk, HI⟩ := hrel
      by_cases hkn : k < n
      · have hki : (k : Int) < n := by omega
        have hk0 : 0 ≤ (k : Int) := by omega
        have HBH : Hid _ := beh_any (HLF2.out _ HI.out.up) HLU.out hkn
        have HS7 : Hid (F.Set7 (F.orAll U (F.nxt (F.at_ f k) k))) := F.orAll_s7 HLU.out.may HLU.out.cnt HLU.out.s7 hkn
        have HROW : Hid (∀ W v B, LiI w f n g y2 U k W → g < B → W.ownsRow B 3 1 v (F.els (F.orAll U (F.nxt (F.at_ f k) k))).length ((F.els (F.orAll U (F.nxt (F.at_ f k) k))).map iV) → LiI w f n g y2 U (k + 1) (W.setCell ⟨g, k, none⟩ v)) := fun W v B h1 h2 h3 => h1.row hkn h2 h3
        obtain ⟨u, hu⟩ : ∃ u, F.orAll U (F.nxt (F.at_ f k) k) = u := ⟨_, rfl⟩
        rw [hu] at HBH HS7 HROW
        clear hu
        go_wp2_with fail
        refine Calls.mono HBH.out ?_
        rintro e z1 ⟨rfl, hb1⟩
        have HI1 : Hid (LiI w f n g y2 U k z1) := HI.out.below hb1
        have HX2 : Hid (Bx (z1.alloc (.cells (setCs u) 54)) z1.heap.size (setCs u).toList) := Bx.new z1 (setCs u) _
        have HI2 : Hid (LiI w f n g y2 U k (z1.alloc (.cells (setCs u) 54))) := HI1.out.below (bl1 _ _)
        clear hb1 HBH
        go_wp2_with fail
        refine (all_any u z1).mono ?_
        rintro e z2 ⟨rfl, rfl⟩
        obtain ⟨z2, hz2⟩ : ∃ z2, z1.alloc (.cells (setCs u) 54) = z2 := ⟨_, rfl⟩
        rw [hz2] at HX2 HI2
        rw [hz2]
        have HCO : Hid _ := collect_any HS7.out (⟨HX2.out.set, (HLF2.out _ HI2.out.up).env.tab⟩ : AllRd z1.heap.size u z2) HX2.out.lt (HLF2.out _ HI2.out.up).env.two
        clear hz2
        go_wp2_with fail
        refine Calls.mono HCO.out ?_
        rintro e z3 ⟨v, rfl, ho, hb3⟩
        have HI3 : Hid (LiI w f n g y2 U k z3) := HI2.out.below hb3
        obtain ⟨av, cv, hv⟩ : ∃ av cv, v = .slice av (F.els u).length cv := by
          rcases ho.2 with ⟨e, e2⟩ | ⟨q, cap, cur, e, -⟩
          · exact ⟨none, 0, by rw [e, e2]⟩
          · exact ⟨_, cap, e⟩
        subst hv
        have HO : Hid _ := ho
        have hge2 : g < z2.heap.size := HI2.out.lt.lt
        have HI4 : Hid (LiI w f n g y2 U (k + 1) (z3.setCell ⟨g, k, none⟩ (.slice av (F.els u).length cv))) := HROW.out _ _ _ HI3.out hge2 HO.out
        obtain ⟨u0, hu0⟩ := HI3.out.lt.slot k hkn
        have hf0 := HI3.out.lt.fro k
        clear ho hb3 hge2 HCO HROW
        go_wp2_with fail
        go_roundg (n - (k + 1))
        case measure => omega
        case rel => exact ⟨k + 1, rfl, by go_num, by omega, HI4⟩
      · have hkk : k = n := by omega
        subst hkk
        have hki : ¬ (k : Int) < k := by omega
        have HF0 : Hid _ := first_any (HLF2.out _ HI.out.up) hn1 hn2
        have HS7 : Hid (F.Set7 (U 0)) := HLU.out.s7 0 (by omega)
        have HFST : Hid (F.els (U 0) = F.firsts tab f.temps.toNat) := F.els_firsts HLU.out HTAB.out
        have HLS : Hid (LsV wr (some ⟨g, 0, none⟩) k k ((List.range k).map fun i => F.outs f tab i f.temps.toNat)) := by
          have := HI.out.lt.view (by omega)
          have e : ((List.range k).map fun i => F.els (F.orAll U (F.nxt (F.at_ f i) i))) = (List.range k).map fun i => F.outs f tab i f.temps.toNat := List.map_congr_left fun i hi => F.els_outs HLU.out HTAB.out (List.mem_range.1 hi)
          rw [e] at this
          exact this
        obtain ⟨u, hu⟩ : ∃ u, U 0 = u := ⟨_, rfl⟩
        rw [hu] at HF0 HS7 HFST
        clear hu
        go_wp2_with fail
        refine Calls.mono HF0.out ?_
        rintro e z1 ⟨rfl, hb1⟩
        have HI1 : Hid (LiI w f k g y2 U k z1) := HI.out.below hb1
        have HX2 : Hid (Bx (z1.alloc (.cells (setCs u) 54)) z1.heap.size (setCs u).toList) := Bx.new z1 (setCs u) _
        have HI2 : Hid (LiI w f k g y2 U k (z1.alloc (.cells (setCs u) 54))) := HI1.out.below (bl1 _ _)
        have HL2 : Hid (LsV (z1.alloc (.cells (setCs u) 54)) (some ⟨g, 0, none⟩) k k ((List.range k).map fun i => F.outs f tab i f.temps.toNat)) := (HLS.out.below hb1).below (bl1 _ _)
        clear hb1 HF0
        go_wp2_with fail
        refine (all_any u z1).mono ?_
        rintro e z2 ⟨rfl, rfl⟩
        obtain ⟨z2, hz2⟩ : ∃ z2, z1.alloc (.cells (setCs u) 54) = z2 := ⟨_, rfl⟩
        rw [hz2] at HX2 HI2 HL2
        rw [hz2]
        have HCO : Hid _ := collect_any HS7.out (⟨HX2.out.set, (HLF2.out _ HI2.out.up).env.tab⟩ : AllRd z1.heap.size u z2) HX2.out.lt (HLF2.out _ HI2.out.up).env.two
        clear hz2
        go_wp2_with fail
        refine Calls.mono HCO.out ?_
        rintro e z3 ⟨v, rfl, ho, hb3⟩
        have HI3 : Hid (LiI w f k g y2 U k z3) := HI2.out.below hb3
        have HL3 : Hid (LsV z3 (some ⟨g, 0, none⟩) k k ((List.range k).map fun i => F.outs f tab i f.temps.toNat)) := HL2.out.below hb3
        have HO : Hid (z3.ownsRow w.heap.size 3 1 v (F.els u).length ((F.els u).map iV)) := row_base ho HI2.out.low.size
        rw [HFST.out] at HO
        obtain ⟨av, cv, hv⟩ : ∃ av cv, v = .slice av (F.firsts tab f.temps.toNat).length cv := by
          rcases HO.out.2 with ⟨e, e2⟩ | ⟨q, cap, cur, e, -⟩
          · exact ⟨none, 0, by rw [e, e2]⟩
          · exact ⟨_, cap, e⟩
        subst hv
        clear ho hb3 HCO
        go_wp2_with fail
        refine bodyPost_ret (v := .tuple #[.slice (some ⟨g, 0, none⟩) k k, .slice av (F.firsts tab f.temps.toNat).length cv, .int .i64 0]) ?_ rfl ?_
        · simp [results, Tryd.results11, go_sem]
        · refine ⟨HI3.out.low, ?_⟩
          rw [HMF.out, if_pos rfl]
          exact ⟨_, _, _, _, rfl, HL3.out, HO.out⟩
end Go.Proofs.YtljgpngbkmembaaDoor

/- A finder, as it lies. No walk. -/
namespace Go.Proofs.YtljgpngbkmembaaDoor
open Go.RowKit Go.Maps Go.Shelf
set_option linter.unusedVariables false
set_option linter.unusedSimpArgs false
/-- A table of sets of one's own. -/
structure TU (W : World) (g T : Nat) (u : Nat → Nat → Nat) : Prop where
  c : ∀ t, t < T → SetAt W g (t * 7) (u t)
  f : ∀ o, W.frozen? ⟨g, o, none⟩ = false
  lt : g < W.heap.size
/-- A row of places of one's own. -/
structure TW (W : World) (g T : Nat) (ws : List Int) : Prop where
  len : ws.length = T
  c : ∀ t, t < T → W.cell? ⟨g, t, none⟩ = some (.int .i64 (F.wAt ws (t : Int)))
  f : ∀ o, W.frozen? ⟨g, o, none⟩ = false
  lt : g < W.heap.size
theorem TU.move {W y : World} {g T : Nat} {u : Nat → Nat → Nat} (h : TU W g T u) (hb : y.heap[g]? = W.heap[g]?) (hs : W.heap.size ≤ y.heap.size) : TU y g T u :=
  ⟨fun t ht j hj => (World.cell?_of_block (w := W) (a := ⟨g, t * 7 + j, none⟩) hb).trans (h.c t ht j hj), fun o => (World.frozen?_of_block (w := W) (a := ⟨g, o, none⟩) hb).trans (h.f o), Nat.lt_of_lt_of_le h.lt hs⟩
theorem TW.move {W y : World} {g T : Nat} {ws : List Int} (h : TW W g T ws) (hb : y.heap[g]? = W.heap[g]?) (hs : W.heap.size ≤ y.heap.size) : TW y g T ws :=
  ⟨h.len, fun t ht => (World.cell?_of_block (w := W) (a := ⟨g, t, none⟩) hb).trans (h.c t ht), fun o => (World.frozen?_of_block (w := W) (a := ⟨g, o, none⟩) hb).trans (h.f o), Nat.lt_of_lt_of_le h.lt hs⟩
theorem Bx.move {W y : World} {b : Nat} {vs : List Value} (h : Bx W b vs) (hb : y.heap[b]? = W.heap[b]?) (hs : W.heap.size ≤ y.heap.size) : Bx y b vs :=
  ⟨fun j u hu => (World.cell?_of_block (w := W) (a := ⟨b, j, none⟩) hb).trans (h.c j u hu), fun o => (World.frozen?_of_block (w := W) (a := ⟨b, o, none⟩) hb).trans (h.f o), Nat.lt_of_lt_of_le h.lt hs⟩
theorem LfV.move {W y : World} {b : Nat} {f : F.Fn} {a : Option Addr} {n c ga : Nat} {U : Nat → Nat → Nat} (h : LfV W b f a n c ga U) (hb : y.heap[b]? = W.heap[b]?) (hg : y.heap[ga]? = W.heap[ga]?) (ho : OpsV y a n c f.code) (he : Env y) : LfV y b f a n c ga U :=
  ⟨(World.cell?_of_block (w := W) (a := ⟨b, 0, none⟩) hb).trans h.c0, (World.cell?_of_block (w := W) (a := ⟨b, 1, none⟩) hb).trans h.c1, (World.cell?_of_block (w := W) (a := ⟨b, 2, none⟩) hb).trans h.c2, (World.cell?_of_block (w := W) (a := ⟨b, 3, none⟩) hb).trans h.c3, (World.cell?_of_block (w := W) (a := ⟨b, 4, none⟩) hb).trans h.c4, ho, fun i hi j hj => (World.cell?_of_block (w := W) (a := ⟨ga, i * 7 + j, none⟩) hg).trans (h.sets i hi j hj), he⟩
theorem TU.new (W : World) (T : Nat) : TU (W.alloc (.cells (Array.replicate (T * 7) (.int .u64 0)) 54)) W.heap.size T (fun _ => F.zero7) :=
  ⟨fun t ht j hj => ncell_at (by
    have : t * 7 + j < T * 7 := by omega
    simp [this, F.zero7]), fun o => World.frozen?_alloc_at _ _ _ _ (by simp), by simp⟩
theorem TW.new (W : World) (T : Nat) : TW (W.alloc (.cells (Array.replicate T (.int .i64 0)) 3)) W.heap.size T (List.replicate T 0) :=
  ⟨by simp, fun t ht => ncell_at (by simp [ht, F.wAt, List.getD]), fun o => World.frozen?_alloc_at _ _ _ _ (by simp), by simp⟩
theorem TW.put {W : World} {g T : Nat} {ws : List Int} (h : TW W g T ws) {t : Nat} (ht : t < T) (p : Int) : TW (W.setCell ⟨g, t, none⟩ (.int .i64 p)) g T (ws.set t p) := by
  refine ⟨by simp [h.len], fun o ho => ?_, fun o => by rw [World.frozen?_setCell]; exact h.f o, by rw [World.size_setCell]; exact h.lt⟩
  rw [F.wAt_set (by rw [h.len]; exact ht)]
  by_cases e : o = t
  · subst e
    rw [if_pos rfl]
    exact World.cell?_setCell_same' _ _ _ (by rw [h.c o ho]; rfl)
  · rw [if_neg e]
    exact (World.cell?_setCell_other _ _ _ _ (fun e' => e (by have := congrArg Addr.off e'; simp at this; omega))).trans (h.c o ho)
theorem TU.add {W : World} {g T : Nat} {u : Nat → Nat → Nat} (h : TU W g T u) {t o : Nat} (ht : t < T) (ho : o < 448) : TU ((W.setCell ⟨g, t * 7 + o / 64, none⟩ (.int .u64 ((u t (o / 64) ||| 2 ^ (o % 64) : Nat) : Int))).drew) g T (F.upd1 u t o) := by
  refine ⟨fun t' ht' j hj => ?_, fun q => by rw [World.frozen?_drew, World.frozen?_setCell]; exact h.f q, by show g < (W.setCell _ _).heap.size; rw [World.size_setCell]; exact h.lt⟩
  rw [World.cell?_drew]
  by_cases e : t' = t
  · subst e
    unfold F.upd1
    rw [if_pos rfl]
    unfold F.ins
    by_cases e2 : j = o / 64
    · subst e2
      rw [if_pos rfl]
      exact World.cell?_setCell_same' _ _ _ (by rw [h.c t' ht' _ hj]; rfl)
    · rw [if_neg e2]
      exact (World.cell?_setCell_other _ _ _ _ (fun e' => e2 (by have := congrArg Addr.off e'; simp at this; omega))).trans (h.c t' ht' j hj)
  · unfold F.upd1
    rw [if_neg e]
    exact (World.cell?_setCell_other _ _ _ _ (fun e' => e (by have := congrArg Addr.off e'; simp at this; omega))).trans (h.c t' ht' j hj)
theorem add_at {W : World} {g T : Nat} {u : Nat → Nat → Nat} (h : TU W g T u) (h7 : ∀ t, F.Set7 (u t)) {t o : Nat} (ht : t < T) (ho : o < 448) : Calls Tryd.prog 47 #[.pointer (some ⟨g, t * 7, none⟩), .int .i64 (o : Int)] W fun e y => e = .returned (.tuple #[]) ∧ TU y g T (F.upd1 u t o) ∧ Upd W y g (t * 7) := by
  refine (add_any g (t * 7) o (u t (o / 64)) ho (h7 t _ (by omega)) W (h.c t ht _ (by omega)) (h.f _)).mono ?_
  rintro e y ⟨rfl, rfl⟩
  exact ⟨rfl, h.add ht ho, Upd.put _ (by omega) _⟩
/-- A finder: a life, from whom each temp's place must differ, the places. All its blocks lie below N. -/
structure FnV (w : World) (N b bf ga gu gw : Nat) (f : F.Fn) (a : Option Addr) (n c : Nat) (U u : Nat → Nat → Nat) (ws : List Int) (W : World) : Prop where
  low : Below w.heap.size w W
  lf : LfV W b f a n c ga U
  bx : Bx W bf [.pointer (some ⟨b, 0, none⟩), .slice (some ⟨gu, 0, none⟩) f.temps.toNat f.temps.toNat, .slice (some ⟨gw, 0, none⟩) f.temps.toNat f.temps.toNat]
  tu : TU W gu f.temps.toNat u
  tw : TW W gw f.temps.toNat ws
  top : w.heap.size ≤ N ∧ b < N ∧ bf < N ∧ ga < N ∧ gu < N ∧ gw < N ∧ N ≤ W.heap.size
  ne : (gu ≠ b ∧ gu ≠ bf ∧ gu ≠ ga ∧ gu ≠ gw) ∧ (gw ≠ b ∧ gw ≠ bf ∧ gw ≠ ga) ∧ w.heap.size ≤ gu ∧ w.heap.size ≤ gw
variable {w W y : World} {N b bf ga gu gw : Nat} {f : F.Fn} {a : Option Addr} {n c : Nat} {U u : Nat → Nat → Nat} {ws : List Int}
theorem FnV.bel (h : FnV w N b bf ga gu gw f a n c U u ws W) {m : Nat} (hb : Below m W y) (hm : N ≤ m) (ho : OpsV w a n c f.code) (he : Env w) : FnV w N b bf ga gu gw f a n c U u ws y := by
  obtain ⟨t1, t2, t3, t4, t5, t6, t7⟩ := h.top
  have hl : Below w.heap.size w y := h.low.trans (hb.mono (by omega))
  exact ⟨hl, h.lf.move (hb.block _ (by omega)) (hb.block _ (by omega)) (ho.below hl) (he.below hl), h.bx.move (hb.block _ (by omega)) hb.size, h.tu.move (hb.block _ (by omega)) hb.size, h.tw.move (hb.block _ (by omega)) hb.size, ⟨t1, t2, t3, t4, t5, t6, Nat.le_trans t7 hb.size⟩, h.ne⟩
theorem FnV.below (h : FnV w N b bf ga gu gw f a n c U u ws W) (hb : Below W.heap.size W y) (ho : OpsV w a n c f.code) (he : Env w) : FnV w N b bf ga gu gw f a n c U u ws y := h.bel hb h.top.2.2.2.2.2.2 ho he
theorem FnV.add (h : FnV w N b bf ga gu gw f a n c U u ws W) {u' : Nat → Nat → Nat} {o : Nat} (hu : Upd W y gu o) (ht : TU y gu f.temps.toNat u') (ho : OpsV w a n c f.code) (he : Env w) : FnV w N b bf ga gu gw f a n c U u' ws y := by
  obtain ⟨t1, t2, t3, t4, t5, t6, t7⟩ := h.top
  obtain ⟨⟨n1, n2, n3, n4⟩, ⟨n5, n6, n7⟩, n8, n9⟩ := h.ne
  have hs : W.heap.size ≤ y.heap.size := by rw [hu.size]; exact Nat.le_refl _
  have hl : Below w.heap.size w y := h.low.trans (hu.below n8 (by omega))
  exact ⟨hl, h.lf.move (hu.far _ (Ne.symm n1)) (hu.far _ (Ne.symm n3)) (ho.below hl) (he.below hl), h.bx.move (hu.far _ (Ne.symm n2)) hs, ht, h.tw.move (hu.far _ (Ne.symm n4)) hs, ⟨t1, t2, t3, t4, t5, t6, Nat.le_trans t7 hs⟩, h.ne⟩
theorem FnV.put (h : FnV w N b bf ga gu gw f a n c U u ws W) {t : Nat} (ht : t < f.temps.toNat) (p : Int) (ho : OpsV w a n c f.code) (he : Env w) : FnV w N b bf ga gu gw f a n c U u (ws.set t p) (W.setCell ⟨gw, t, none⟩ (.int .i64 p)) := by
  obtain ⟨t1, t2, t3, t4, t5, t6, t7⟩ := h.top
  obtain ⟨⟨n1, n2, n3, n4⟩, ⟨n5, n6, n7⟩, n8, n9⟩ := h.ne
  have hs : W.heap.size ≤ (W.setCell ⟨gw, t, none⟩ (.int .i64 p)).heap.size := by rw [World.size_setCell]; exact Nat.le_refl _
  have hl : Below w.heap.size w (W.setCell ⟨gw, t, none⟩ (.int .i64 p)) := h.low.setCell n9 _
  have far : ∀ q, q ≠ gw → (W.setCell ⟨gw, t, none⟩ (.int .i64 p)).heap[q]? = W.heap[q]? := fun q hq => Below.heap_setCell _ _ _ _ hq
  exact ⟨hl, h.lf.move (far _ (Ne.symm n5)) (far _ (Ne.symm n7)) (ho.below hl) (he.below hl), h.bx.move (far _ (Ne.symm n6)) hs, h.tu.move (far _ n4) hs, h.tw.put ht p, ⟨t1, t2, t3, t4, t5, t6, Nat.le_trans t7 hs⟩, h.ne⟩
theorem FnV.far (h : FnV w N b bf ga gu gw f a n c U u ws W) {q o : Nat} (hq : q ≠ b ∧ q ≠ bf ∧ q ≠ ga ∧ q ≠ gu ∧ q ≠ gw) (hw : w.heap.size ≤ q) (v : Value) (ho : OpsV w a n c f.code) (he : Env w) : FnV w N b bf ga gu gw f a n c U u ws (W.setCell ⟨q, o, none⟩ v) := by
  obtain ⟨t1, t2, t3, t4, t5, t6, t7⟩ := h.top
  obtain ⟨n1, n2, n3, n4, n5⟩ := hq
  have hs : W.heap.size ≤ (W.setCell ⟨q, o, none⟩ v).heap.size := by rw [World.size_setCell]; exact Nat.le_refl _
  have hl : Below w.heap.size w (W.setCell ⟨q, o, none⟩ v) := h.low.setCell hw _
  have far : ∀ r, r ≠ q → (W.setCell ⟨q, o, none⟩ v).heap[r]? = W.heap[r]? := fun r hr => Below.heap_setCell _ _ _ _ hr
  exact ⟨hl, h.lf.move (far _ (Ne.symm n1)) (far _ (Ne.symm n3)) (ho.below hl) (he.below hl), h.bx.move (far _ (Ne.symm n2)) hs, h.tu.move (far _ (Ne.symm n4)) hs, h.tw.move (far _ (Ne.symm n5)) hs, ⟨t1, t2, t3, t4, t5, t6, Nat.le_trans t7 hs⟩, h.ne⟩
/-- A tail that is the same behind each order is walked once. -/
theorem tail_once {F : Nat → Nat → Nat → Nat → Nat → World → Prop} {G : Nat → Nat → Nat → Nat → Nat → World → Prop} {goal : Prop} (main : (∀ b gu gw bf bs W, F b gu gw bf bs W → G b gu gw bf bs W) → goal) (tail : ∀ b gu gw bf bs W, F b gu gw bf bs W → G b gu gw bf bs W) : goal := main tail
/-- A region in which nothing panics may be followed by whatever. -/
theorem wp_calm {P : Program} {c : Code} {a : Act} {w : World} {K : Act → World → Prop} {Q : Exit → Act → World → Prop} (h : c.wp P (Exit.then K (fun _ _ _ => False)) a w) : c.wp P (Exit.then K Q) a w :=
  wp_mono h fun e a w h => by cases e <;> first | exact h | exact False.elim h
/-- What a new finder is. -/
def NfOut (w : World) (f : F.Fn) (a : Option Addr) (n c : Nat) (e : Ending) (W : World) : Prop := ∃ (N b bf ga gu gw : Nat) (U : Nat → Nat → Nat), e = .returned (.pointer (some ⟨bf, 0, none⟩)) ∧ FnV w N b bf ga gu gw f a n c U (F.unS (F.doneP f U n)) (List.replicate f.temps.toNat 0) W ∧ LfU f n U
/-- Behind the things that newFinder makes, in whatever order. -/
def Fn5 (w W0 : World) (f : F.Fn) (a : Option Addr) (n c : Nat) (b gu gw bf bs : Nat) (W : World) : Prop := ∃ (ga : Nat) (U : Nat → Nat → Nat), LfU f n U ∧ FnV w W.heap.size b bf ga gu gw f a n c U (fun _ => F.zero7) (List.replicate f.temps.toNat 0) W ∧ Bx W bs [.pointer none] ∧ Below (w.heap.size + 1) W0 W ∧ w.heap.size + 1 ≤ bs ∧ bs ≠ b ∧ bs ≠ ga ∧ bs ≠ bf ∧ bs ≠ gu ∧ bs ≠ gw
end Go.Proofs.YtljgpngbkmembaaDoor

/- The program's free: the first place that no temp has from which this one's must differ. -/
namespace Go.Proofs.YtljgpngbkmembaaDoor
open Go.RowKit Go.Maps Go.Shelf
attribute [local go_sem] Oper.semAt_some
set_option linter.unusedVariables false
set_option linter.unusedSimpArgs false
/-- What lies all along: the finder's box, the place's. -/
structure FrI (w : World) (bf : Nat) (p : Int) (W : World) : Prop where
  low : Below w.heap.size w W
  b3 : Bx W w.heap.size [.pointer (some ⟨bf, 0, none⟩)]
  b7 : Bx W (w.heap.size + 1) [.int .i64 p]
theorem FrI.bel {w A B : World} {bf m : Nat} {p : Int} (h : FrI w bf p A) (hb : Below m A B) (hm : w.heap.size + 1 < m) : FrI w bf p B := ⟨h.low.trans (hb.mono (by omega)), h.b3.bel hb (by omega), h.b7.bel hb hm⟩
theorem FrI.put {w A : World} {bf : Nat} {p : Int} (h : FrI w bf p A) (q : Int) : FrI w bf q (A.setCell ⟨w.heap.size + 1, 0, none⟩ (.int .i64 q)) :=
  ⟨h.low.setCell (by show w.heap.size ≤ w.heap.size + 1; omega) _, h.b3.far (by show w.heap.size + 1 ≠ w.heap.size; omega) _, h.b7.put 0 (by simp) (.int .i64 q)⟩
set_option maxRecDepth 100000 in
set_option maxHeartbeats 8000000 in
theorem free_any {w0 w : World} {N b bf ga gu gw : Nat} {f : F.Fn} {a : Option Addr} {n c : Nat} {U u : Nat → Nat → Nat} {ws : List Int} (h : FnV w0 N b bf ga gu gw f a n c U u ws w) (ho : OpsV w0 a n c f.code) (he : Env w0) {t T : Nat} (hT : f.temps.toNat = T) (hT4 : T ≤ 400) (ht : t < T) (h7 : F.Set7 (u t)) (hel : ∀ o ∈ F.els (u t), 0 ≤ o ∧ o < T) (k : Bool) {S : Int} (h0 : 0 ≤ S) (h4 : S ≤ 400) (hlow : ∀ o, F.wAt ws o < 8 + S) {p0 : Int} (hp0 : p0 = F.plc k 0) :
    Calls Tryd.prog 51 #[.pointer (some ⟨bf, 0, none⟩), .int .i64 t, .int .i64 p0] w fun e w' => e = .returned (.int .i64 (F.freeF ws (F.els (u t)) k)) ∧ Below w.heap.size w w' := by
  obtain ⟨v, hv⟩ : ∃ v, u t = v := ⟨_, rfl⟩
  have HFN : Hid (∀ W, Below w.heap.size w W → FnV w0 N b bf ga gu gw f a n c U u ws W) := fun W hW => h.below hW ho he
  have HT : Hid (f.temps.toNat = T) := hT
  have HSET : Hid (∀ W, Below w.heap.size w W → SetAt W gu (t * 7) v) := fun W hW => by
    rw [← hv]
    exact (h.below hW ho he).tu.c t (by omega)
  have HOE : Hid (OpsV w0 a n c f.code ∧ Env w0) := ⟨ho, he⟩
  rw [hv] at h7 hel ⊢
  have HV7 : Hid (F.Set7 v) := h7
  have HEL : Hid (∀ (k : Nat) (o : Int), (F.els v)[k]? = some o → 0 ≤ o ∧ o < T) := fun k o hk => hel o (List.mem_of_getElem? hk)
  have HFOUND : Hid (∀ j, (∀ i, i < j → F.rej ws (F.els v) (F.plc k i) = true) → j ≤ 404) := fun j hj => (F.free_found k h0 h4 hlow hj).1
  have HIS : Hid (∀ j, j ≤ 404 → (∀ i, i < j → F.rej ws (F.els v) (F.plc k i) = true) → F.rej ws (F.els v) (F.plc k j) = false → F.freeF ws (F.els v) k = F.plc k j) := fun j hj h1 h2 => F.free_is (by omega) h1 h2
  have HAF : Hid (∀ j W, j ≤ 404 → Calls Tryd.prog 69 #[.int .i64 (F.plc k j)] W fun e w' => e = .returned (.int .i64 (F.plc k (j + 1))) ∧ w' = W) := fun j W hj => by
    rw [F.plc_succ]
    have := F.plc_in k (j := j) (by omega)
    exact after_any _ (by omega) (by omega) W
  have HLT : Hid (bf < w.heap.size ∧ gu < w.heap.size ∧ gw < w.heap.size) := ⟨h.bx.lt, h.tu.lt, h.tw.lt⟩
  have hti : (t : Int) < T := by omega
  clear h ho he hT h7 hel hv h0 h4 hlow
  obtain ⟨R, hR⟩ : ∃ R, F.freeF ws (F.els v) k = R := ⟨_, rfl⟩
  have HR : Hid (F.freeF ws (F.els v) k = R) := hR
  rw [hR]
  clear hR
  obtain ⟨W0, hW0⟩ : ∃ W0, (w.alloc (.cells #[.pointer (some ⟨bf, 0, none⟩)] 62)).alloc (.cells #[.int .i64 0] 3) = W0 := ⟨_, rfl⟩
  obtain ⟨W1, hW1⟩ : ∃ W1, W0.setCell ⟨w.heap.size + 1, 0, none⟩ (.int .i64 p0) = W1 := ⟨_, rfl⟩
  have HI00 : Hid (FrI w bf 0 W0) := by
    have x1 := Bx.new w #[.pointer (some ⟨bf, 0, none⟩)] 62
    have b1 := bl1 w (.cells #[.pointer (some ⟨bf, 0, none⟩)] 62)
    obtain ⟨A1, hA1⟩ : ∃ A1, w.alloc (.cells #[.pointer (some ⟨bf, 0, none⟩)] 62) = A1 := ⟨_, rfl⟩
    have s1 : A1.heap.size = w.heap.size + 1 := by rw [← hA1]; simp
    rw [hA1] at x1 b1 hW0
    have x2 := Bx.new A1 #[.int .i64 0] 3
    have b2 := bl1 A1 (.cells #[.int .i64 0] 3)
    rw [hW0, s1] at x2
    rw [hW0] at b2
    exact ⟨b1.trans (b2.mono b1.size), x1.below b2, x2⟩
  have HI1 : Hid (FrI w bf (F.plc k 0) W1) := by show FrI w bf (F.plc k 0) W1; rw [← hW1, ← hp0]; exact HI00.out.put p0
  have g0 := HI00.out.b7.c 0 _ rfl
  have f0 := HI00.out.b7.f 0
  clear hp0
  refine (callsIn_wide (n := 6)).1 ?_
  refine callsIn_of_wp_marks Tryd.func51 rfl trivial ?_ rfl
  simp only [Tryd.ntmps51, List.size_toArray, List.length_cons, List.length_nil, Nat.reduceAdd, Nat.reduceSub, Array.replicate_succ, Array.replicate_zero, List.push_toArray, List.append_toArray, List.nil_append, List.cons_append]
  gi_wp2
  refine wpIn_wide.2 (wp_scope_straight (wpIn_wide (n := 6).1 ?_))
  gi_wp2
  try rw [hW1]
  clear hW0 hW1 g0 f0 HI00
  refine wpIn_label ?_
  gi_wp2
  refine wpIn_loop_ghost (fun g a' W => ∃ (j : Nat) (Ds : List Nat) (u8 u10 u11 u12 u13 u14 u15 u16 u17 u18 u19 u20 u21 u22 u23 u24 u25 u26 u27 u28 u29 : Value), g = 450 - j ∧ a' = { tmps := #[.pointer (some ⟨bf, 0, none⟩), .int .i64 t, .int .i64 p0, .pointer (some ⟨w.heap.size, 0, none⟩), undef, undef, .int .i64 0, .pointer (some ⟨w.heap.size + 1, 0, none⟩), u8, .int .i64 p0, u10, u11, u12, u13, u14, u15, u16, u17, u18, u19, u20, u21, u22, u23, u24, u25, u26, u27, u28, u29, undef], defers := Ds.map mk } ∧ Hid (FrI w bf (F.plc k j) W) ∧ Hid (Mk (w.heap.size + 2) W Ds) ∧ Hid (∀ i, i < j → F.rej ws (F.els v) (F.plc k i) = true)) 450 ⟨0, [], _, _, _, _, _, _, _, _, _, _, _, _, _, _, _, _, _, _, _, _, _, rfl, rfl, HI1, Mk.nil _ _, fun i hi => absurd hi (Nat.not_lt_zero i)⟩ ?_
  rintro g a' W ⟨j, Ds, u8, u10, u11, u12, u13, u14, u15, u16, u17, u18, u19, u20, u21, u22, u23, u24, u25, u26, u27, u28, u29, rfl, rfl, HI, HM, HRJ⟩
  clear HI1
  have hj : j ≤ 404 := HFOUND.out j HRJ.out
  obtain ⟨p, hp⟩ : ∃ p, F.plc k j = p := ⟨_, rfl⟩
  have HP : Hid (F.plc k j = p) := hp
  have HIP : Hid (FrI w bf p W) := by show FrI w bf p W; rw [← hp]; exact HI.out
  have s := HSET.out W HI.out.low
  have c3 := HI.out.b3.c 0 _ rfl
  have c1 := (HFN.out W HI.out.low).bx.c 1 _ rfl
  rw [HT.out] at c1
  have s0 := s 0 (by decide)
  have s1 := s 1 (by decide)
  have s2 := s 2 (by decide)
  have s3 := s 3 (by decide)
  have s4 := s 4 (by decide)
  have s5 := s 5 (by decide)
  have s6 := s 6 (by decide)
  simp only [Nat.add_zero] at s0
  clear s hp HI
  have HAL : Hid (Calls Tryd.prog 25 #[.agg (setCs v)] W fun e w' => e = .returned (.func (.func 43) #[] #[.pointer (some ⟨W.heap.size, 0, none⟩)]) ∧ w' = W.alloc (.cells (setCs v) 54)) := all_any v W
  unfold setCs at HAL
  gi_wp2
  refine ⟨trivial, (callsIn_wide.2 HAL.out).mono ?_⟩
  rintro e y2 ⟨rfl, rfl⟩
  clear HAL c3 c1 s0 s1 s2 s3 s4 s5 s6
  obtain ⟨WL, hWL⟩ : ∃ WL, W.alloc (.cells (setCs v) 54) = WL := ⟨_, rfl⟩
  have hbl : Below W.heap.size W WL := by rw [← hWL]; exact bl1 _ _
  have hxs := Bx.new W (setCs v) 54
  rw [hWL] at hxs
  obtain ⟨Bs, hBs⟩ : ∃ Bs, W.heap.size = Bs := ⟨_, rfl⟩
  have HDS : Hid (∀ D ∈ Ds, D < Bs) := fun D hD => by rw [← hBs]; exact HM.out.lt D hD
  rw [hBs] at hxs hbl ⊢
  have HSL : Hid (WL.heap.size = Bs + 1 ∧ w.heap.size + 1 < Bs) := ⟨by rw [← hWL]; simp [hBs], by rw [← hBs]; exact HIP.out.b7.lt⟩
  have HIL : Hid (FrI w bf p WL) := HIP.out.bel hbl HSL.out.2
  have HML : Hid (Mk (w.heap.size + 2) WL Ds) := HM.out.bel HDS.out hbl
  have HXS : Hid (Bx WL Bs (setCs v).toList) := hxs
  change W.alloc (.cells #[.int .u64 (v 0 : Int), .int .u64 (v 1 : Int), .int .u64 (v 2 : Int), .int .u64 (v 3 : Int), .int .u64 (v 4 : Int), .int .u64 (v 5 : Int), .int .u64 (v 6 : Int)] 54) = WL at hWL
  have HWL : Hid _ := hWL
  clear hbl hxs hBs hWL HM HIP
  gi_wp2
  rw [HWL.out]
  clear HWL
  refine range_a1 (β := Int) (gf := 43) (lb := #[.pointer (some ⟨Bs, 0, none⟩)]) (enc := fun o : Int => #[.int .i64 o]) (xs := F.els v) (Rd := AllRd Bs v) (all_goes Bs v HV7.out).goes rfl (enters_of Tryd.func43 (by kernel_rfl) rfl)
    (fun m W => FrI w bf p W ∧ Bx W Bs (setCs v).toList ∧ Mk (w.heap.size + 2) W Ds ∧ F.rej ws ((F.els v).take m) p = false)
    (fun W => FrI w bf p W ∧ Mk (w.heap.size + 2) W Ds ∧ F.rej ws (F.els v) p = true) (.exit 1) ?a1 (fun _ => rfl) ?assign ?I ?Ix ?rd ?start ?body ?done ?stop
  case assign =>
    intro li o W K hK
    gi_wp2
    exact hK
  case I =>
    rintro m A B ⟨h1, h2, h3, h4⟩ hB
    have hs := HSL.out
    exact ⟨h1.bel hB (by omega), h2.bel hB (by omega), h3.bel (fun D hD => by have := HDS.out D hD; omega) hB, h4⟩
  case Ix =>
    rintro A B ⟨h1, h2, h3⟩ hB
    have hs := HSL.out
    exact ⟨h1.bel hB (by omega), h2.bel (fun D hD => by have := HDS.out D hD; omega) hB, h3⟩
  case rd =>
    rintro m A ⟨h1, h2, h3, h4⟩
    exact ⟨h2.set, (HFN.out _ h1.low).lf.env.tab⟩
  case start => exact ⟨HIL.out, HXS.out, HML.out, rfl⟩
  case body =>
    rintro lo m o W hk ⟨hA, hbs, hmk, hall⟩ hl1 hl2 -
    have HK : Hid ((F.els v)[m]? = some o) := hk
    obtain ⟨ho0, ho1⟩ := HEL.out m o hk
    obtain ⟨on, rfl⟩ : ∃ on : Nat, o = on := ⟨o.toNat, by omega⟩
    have hcell := (HFN.out W hA.low).tw.c on (by rw [HT.out]; omega)
    obtain ⟨q, hq⟩ : ∃ q, F.wAt ws (on : Int) = q := ⟨_, rfl⟩
    rw [hq] at hcell
    have HQ : Hid (F.wAt ws (on : Int) = q) := hq
    have c3 := hA.b3.c 0 _ rfl
    have c7 := hA.b7.c 0 _ rfl
    have c2 := (HFN.out W hA.low).bx.c 2 _ rfl
    rw [HT.out] at c2
    have hon : (on : Int) < T := by omega
    have HSS : Hid (W.drew.cell? ⟨w.heap.size, 0, none⟩ = some (.pointer (some ⟨bf, 0, none⟩)) ∧ W.drew.cell? ⟨bf, 2, none⟩ = some (.slice (some ⟨gw, 0, none⟩) T T) ∧ W.drew.cell? ⟨w.heap.size + 1, 0, none⟩ = some (.int .i64 p) ∧ W.drew.cell? ⟨gw, on, none⟩ = some (.int .i64 q)) := ⟨c3, c2, c7, hcell⟩
    have HA : Hid (FrI w bf p W ∧ Bx W Bs (setCs v).toList ∧ Mk (w.heap.size + 2) W Ds) := ⟨hA, hbs, hmk⟩
    have HAL : Hid (F.rej ws ((F.els v).take m) p = false) := hall
    clear hk hA hbs hmk hall hl1 hl2 hq c3 c2 c7 hcell HXS HIL HML ho0 ho1
    gi_wp2
    refine region_round (S := (fun w' : World => w'.cell? ⟨w.heap.size, 0, none⟩ = some (.pointer (some ⟨bf, 0, none⟩)) ∧ w'.cell? ⟨bf, 2, none⟩ = some (.slice (some ⟨gw, 0, none⟩) T T) ∧ w'.cell? ⟨w.heap.size + 1, 0, none⟩ = some (.int .i64 p) ∧ w'.cell? ⟨gw, on, none⟩ = some (.int .i64 q))) (by kernel_rfl) (by kernel_rfl) (by rintro ⟨_, _, h⟩; exact h) HSS.out (fun hHeld => ?_)
    refine tkr (i := 0) (v := ?_) (tA rfl) (by kernel_rfl) (fun _ _ _ h => h) (Or.inl ⟨by rfl, ?_⟩) (by assumption) ?_
    rotate_left
    · (intro w hSw; (try dsimp only at hSw); go_simp <;> with_reducible rfl)
    simp only [Act.put, List.setIfInBounds_toArray, List.set_cons_zero, List.set_cons_succ]
    refine tkr (i := 1) (v := ?_) (tA rfl) (by kernel_rfl) (fun _ _ _ h => h) (Or.inl ⟨by rfl, ?_⟩) (by assumption) ?_
    rotate_left
    · (intro w hSw; (try dsimp only at hSw); go_simp <;> with_reducible rfl)
    simp only [Act.put, List.setIfInBounds_toArray, List.set_cons_zero, List.set_cons_succ]
    refine tkr (i := 2) (v := ?_) (tA rfl) (by kernel_rfl) (fun _ _ _ h => h) (Or.inl ⟨by rfl, ?_⟩) (by assumption) ?_
    rotate_left
    · (intro w hSw; (try dsimp only at hSw); go_simp <;> with_reducible rfl)
    simp only [Act.put, List.setIfInBounds_toArray, List.set_cons_zero, List.set_cons_succ]
    refine tkr (i := 3) (v := ?_) (tA rfl) (by kernel_rfl) (fun _ _ _ h => h) (Or.inl ⟨by rfl, ?_⟩) (by assumption) ?_
    rotate_left
    · (intro w hSw; (try dsimp only at hSw); go_simp <;> with_reducible rfl)
    simp only [Act.put, List.setIfInBounds_toArray, List.set_cons_zero, List.set_cons_succ]
    refine tkr (i := 4) (v := ?_) (tA rfl) (by kernel_rfl) (fun _ _ _ h => h) (Or.inl ⟨by rfl, ?_⟩) (by assumption) ?_
    rotate_left
    · (intro w hSw; (try dsimp only at hSw); go_simp <;> with_reducible rfl)
    simp only [Act.put, List.setIfInBounds_toArray, List.set_cons_zero, List.set_cons_succ]
    refine tkr (i := 5) (v := ?_) (tA rfl) (by kernel_rfl) (fun _ _ _ h => h) (Or.inl ⟨by rfl, ?_⟩) (by assumption) ?_
    rotate_left
    · (intro w hSw; (try dsimp only at hSw); go_simp <;> with_reducible rfl)
    simp only [Act.put, List.setIfInBounds_toArray, List.set_cons_zero, List.set_cons_succ]
    refine tkr (i := 6) (v := ?_) (tA rfl) (by kernel_rfl) (fun _ _ _ h => h) (Or.inl ⟨by rfl, ?_⟩) (by assumption) ?_
    rotate_left
    · (intro w hSw; (try dsimp only at hSw); go_simp <;> with_reducible rfl)
    simp only [Act.put, List.setIfInBounds_toArray, List.set_cons_zero, List.set_cons_succ]
    refine tkr (i := 7) (v := ?_) (tA rfl) (by kernel_rfl) (fun _ _ _ h => h) (Or.inl ⟨by rfl, ?_⟩) (by assumption) ?_
    rotate_left
    · (intro w hSw; (try dsimp only at hSw); go_simp <;> with_reducible rfl)
    simp only [Act.put, List.setIfInBounds_toArray, List.set_cons_zero, List.set_cons_succ]
    refine tkr (i := 8) (v := ?_) (tA rfl) (by kernel_rfl) (fun _ _ _ h => h) (Or.inl ⟨by rfl, ?_⟩) (by assumption) ?_
    rotate_left
    · (intro w hSw; (try dsimp only at hSw); go_simp <;> with_reducible rfl)
    simp only [Act.put, List.setIfInBounds_toArray, List.set_cons_zero, List.set_cons_succ]
    refine wpAnyH_done (by kernel_rfl) ?_ _
    clear hHeld HSS
    by_cases hpp : q = p
    · have e1 : (q == p) = true := by simpa using hpp
      have HRF : Hid (F.rej ws (F.els v) p = true) := by
        show F.rej ws (F.els v) p = true
        unfold F.rej
        rw [List.any_eq_true]
        exact ⟨on, List.mem_of_getElem? HK.out, by rw [HQ.out]; simpa using hpp⟩
      clear hpp
      gi_wp2
      exact ⟨rfl, Abv.drew _, HA.out.1.bel (Below.refl _ _).drew HA.out.1.b7.lt, ⟨HA.out.2.2.nd, HA.out.2.2.ge, HA.out.2.2.blk⟩, HRF.out⟩
    · have e1 : (q == p) = false := by simpa using hpp
      have HOK : Hid (F.rej ws ((F.els v).take (m + 1)) p = false) := by
        show _ = _
        have h1 := HAL.out
        unfold F.rej at h1 ⊢
        rw [List.take_add_one, HK.out, List.any_append, h1]
        simp [HQ.out, hpp]
      clear hpp
      gi_wp2
      exact ⟨Abv.drew _, HA.out.1.bel (Below.refl _ _).drew HA.out.1.b7.lt, HA.out.2.1.drew, ⟨HA.out.2.2.nd, HA.out.2.2.ge, HA.out.2.2.blk⟩, HOK.out⟩
  case done =>
    rintro D W hD ⟨h1, h2, h3, h4⟩ hK
    rw [List.take_length] at h4
    have H1 : Hid (FrI w bf p W) := h1
    have HMD : Hid (Mk (w.heap.size + 2) W (D :: Ds)) := h3.cons hK (by have := HSL.out; omega) (fun E hE => by have := HDS.out E hE; have := HSL.out; omega)
    have HRES : Hid (R = p) := by
      show R = p
      rw [← HR.out, HIS.out j hj HRJ.out (by rw [HP.out]; exact h4), HP.out]
    have c7 := h1.b7.c 0 _ rfl
    clear h1 h2 h3 h4 hK HXS HIL HML
    gi_wp2
    refine leave_marks (D :: Ds) W HMD.out (fun W' hb hc => ?_)
    refine ⟨.int .i64 p, ?_, by rw [HRES.out], H1.out.low.trans (hb.mono (by omega))⟩
    simp [results, Tryd.results51, go_sem]
  case stop =>
    rintro D W hD ⟨h1, h2, h3⟩ hK
    have H1 : Hid (FrI w bf p W) := h1
    have HMD : Hid (Mk (w.heap.size + 2) W (D :: Ds)) := h2.cons hK (by have := HSL.out; omega) (fun E hE => by have := HDS.out E hE; have := HSL.out; omega)
    have HRJ2 : Hid (∀ i, i < j + 1 → F.rej ws (F.els v) (F.plc k i) = true) := fun i hi => by
      by_cases e : i = j
      · subst e; rw [HP.out]; exact h3
      · exact HRJ.out i (by omega)
    have c7 := h1.b7.c 0 _ rfl
    have f7 := h1.b7.f 0
    have HAC : Hid _ := HAF.out j W hj
    rw [HP.out] at HAC
    clear h1 h2 h3 hK HXS HIL HML
    gi_wp2
    refine ⟨trivial, (callsIn_wide.2 HAC.out).mono ?_⟩
    rintro e y ⟨rfl, rfl⟩
    obtain ⟨q, hq⟩ : ∃ q, F.plc k (j + 1) = q := ⟨_, rfl⟩
    have HQ : Hid (F.plc k (j + 1) = q) := hq
    rw [hq]
    clear hq HAC
    have HN : Hid (FrI w bf q (y.setCell ⟨w.heap.size + 1, 0, none⟩ (.int .i64 q)) ∧ Mk (w.heap.size + 2) (y.setCell ⟨w.heap.size + 1, 0, none⟩ (.int .i64 q)) (D :: Ds)) := ⟨H1.out.put q, HMD.out.nd, HMD.out.ge, fun E hE => (Below.heap_setCell _ _ _ _ (by have := HMD.out.ge E hE; show E ≠ w.heap.size + 1; omega)).trans (HMD.out.blk E hE)⟩
    gi_wp2
    refine ⟨450 - (j + 1), by omega, j + 1, D :: Ds, _, _, _, _, _, _, _, _, _, _, _, _, _, _, _, _, _, _, _, _, _, rfl, rfl, ?_, HN.out.2, HRJ2⟩
    rw [HQ.out]
    exact HN.out.1
end Go.Proofs.YtljgpngbkmembaaDoor
