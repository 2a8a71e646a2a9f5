/- Whether places are right: what is kept is in no register, pairs are apart. -/
import Derived.Test.YtljgpngbkmembaaDoorAMAj
import Derived.Test.YtljgpngbkmembaaDoorAMAl
import Derived.Test.YtljgpngbkmembaaDoorAMAd
import Derived.Sort.Grow
import Derived.Deep.RegionHeld3
namespace Go.Proofs.YtljgpngbkmembaaDoor
open Go.RowKit Go.Maps Go.Shelf
attribute [local go_sem] Oper.semAt_some
set_option linter.unusedVariables false
set_option linter.unusedSimpArgs false
namespace F
def areR (ws : List Int) (ks : List Int) (ps : List (Int × Int)) : Bool := (ks.all fun t => !isReg (wAt ws t)) && ps.all fun p => !decide (wAt ws p.1 = wAt ws p.2)
theorem all_step {α : Type} {l : List α} {k : Nat} {x : α} {q : α → Bool} (h : l[k]? = some x) (ha : (l.take k).all q = true) (hx : q x = true) : (l.take (k + 1)).all q = true := by
  rw [List.take_add_one, h, List.all_append, ha]
  simp [hx]
theorem all_no {α : Type} {l : List α} {k : Nat} {x : α} {q : α → Bool} (h : l[k]? = some x) (hx : q x = false) : l.all q = false := by
  rw [Bool.eq_false_iff]
  intro ha
  have := List.all_eq_true.1 ha x (List.mem_of_getElem? h)
  rw [hx] at this
  cases this
end F
/-- Where the loop's variable is a box of two cells. -/
theorem range_a3 {P : Program} {n : Nat} {β : Type} {g : Operand} {ps : Array Tmp} {assign body : Code} {Q : Exit → Act → World → Prop} {a : Act} {w : World} {gf : Nat} {lb : Array Value} {enc : β → Array Value} {xs : List β} {Rd : World → Prop}
    (T : TypeId) (v u : β → Value) (hit : Goes P gf lb enc xs Rd)
    (hg : a.eval g = .func (.func gf) #[] lb) (eg : ∀ args w, (callFunc gf args).run P w = .ok (.enter gf args) w)
    (I : Nat → World → Prop) (Ix : World → Prop) (cx : Code) (a1 : β → Nat → Act)
    (henc : ∀ x, (enc x).size = ps.size) (hsz : ∀ k A, I k A → w.heap.size ≤ A.heap.size)
    (hassign : ∀ (l s : Nat) (x : β) (W : World) (K : Act → World → Prop), W.heap.size = s → K (a1 x s) (W.alloc (.cells #[v x, u x] T)) → assign.wpIn (Fence.wide.inRound l) (n - 1 - 1) P (Exit.then K (fun _ _ _ => False)) { tmps := (ps.zip (enc x)).foldl (fun t (p, v) => t.setIfInBounds p v) a.tmps, defers := [] } W)
    (hI : ∀ k A B, I k A → Below w.heap.size A B → I k B) (hIx : ∀ A B, Ix A → Below w.heap.size A B → Ix B) (hRd : ∀ k A, I k A → Rd A)
    (h0 : I 0 w)
    (hbody : ∀ (l k b7 : Nat) (x : β) (W : World), xs[k]? = some x → I k W → w.heap.size ≤ b7 → Bx W b7 [v x, u x] → w.heap.size < l → l < W.heap.size → (∃ r, W.heap[l]? = some (.loop r)) → body.wpIn (Fence.wide.inRound l) (n - 1 - 1) P (REnd w.heap.size cx (I (k + 1)) Ix W) (a1 x b7) W)
    (hdone : ∀ (D : Nat) (W : World), w.heap.size ≤ D → I xs.length W → W.heap[D]? = some (.deferred (some [])) → Q .normal { a with defers := { target := .collected D, args := #[] } :: a.defers } W)
    (hstop : ∀ (D : Nat) (W : World), w.heap.size ≤ D → Ix W → W.heap[D]? = some (.deferred (some [])) → cx.wpIn Fence.wide n P Q { a with defers := { target := .collected D, args := #[] } :: a.defers } W) :
    (Code.rangeFunc g ps assign body).wpIn Fence.wide n P Q a w :=
  range_a hit hg eg I Ix cx (fun x a' W => ∃ b7, w.heap.size ≤ b7 ∧ Bx W b7 [v x, u x] ∧ a' = a1 x b7) henc hI hIx hRd (fun x a' A l o o' hl ho ⟨b7, h1, h2, h3⟩ => ⟨b7, h1, h2.obj hl ho o', h3⟩) h0
    (fun l k x W K hi hK => hassign l _ x W K rfl (hK _ _ (bl1 _ _) ⟨W.heap.size, hsz k W hi, Bx.new _ _ _, rfl⟩)) (fun l k x a' W hx hi ⟨b7, h1, h2, e⟩ h3 h4 hr => by subst e; exact hbody l k b7 x W hx hi h1 h2 h3 h4 hr) hdone hstop
/-- What lies all along. -/
structure ArI (w : World) (wa : Option Addr) (wl wc : Nat) (W : World) : Prop where
  low : Below w.heap.size w W
  b3 : Bx W w.heap.size [.slice wa wl wc]
  b4 : Bx W (w.heap.size + 1) [.bool false]
theorem ArI.bel {w A B : World} {wa : Option Addr} {wl wc m : Nat} (h : ArI w wa wl wc A) (hb : Below m A B) (hm : w.heap.size + 1 < m) : ArI w wa wl wc B := ⟨h.low.trans (hb.mono (by omega)), h.b3.bel hb (by omega), h.b4.bel hb hm⟩
set_option maxRecDepth 100000 in
set_option maxHeartbeats 8000000 in
theorem areRight_any {w : World} {b : Nat} {f : F.Fn} {a : Option Addr} {n c ga : Nat} {U : Nat → Nat → Nat} {wa : Option Addr} {wl wc : Nat} {ws : List Int} (h : LfV w b f a n c ga U) (hu : LfU f n U) (hw : NumV w wa wl wc ws) (ht : (wl : Int) = f.temps) :
    Calls Tryd.prog 36 #[.pointer (some ⟨b, 0, none⟩), .slice wa wl wc] w fun e w' => e = .returned (.bool (F.areR ws (F.els (F.keptS f U n)) (F.doneP f U n))) ∧ Below w.heap.size w w' := by
  obtain ⟨kk, hkk⟩ : ∃ kk, F.keptS f U n = kk := ⟨_, rfl⟩
  obtain ⟨pp, hpp⟩ : ∃ pp, F.doneP f U n = pp := ⟨_, rfl⟩
  have hh := F.may_head hu.may
  have hn2 : n ≤ 20000 := by have h1 := hu.cnt; omega
  have HKI : Hid (∀ (k : Nat) (t : Int), (F.els kk)[k]? = some t → 0 ≤ t ∧ t < wl) := fun k t hk => by have := F.kept_in hu (t := t) (by rw [hkk]; exact List.mem_of_getElem? hk); omega
  have HPI : Hid (∀ (k : Nat) (p : Int × Int), pp[k]? = some p → (0 ≤ p.1 ∧ p.1 < wl) ∧ (0 ≤ p.2 ∧ p.2 < wl)) := fun k p hk => by have := F.pair_in hu (p := p) (by rw [hpp]; exact List.mem_of_getElem? hk); omega
  have HK7 : Hid (F.Set7 kk) := by show F.Set7 kk; rw [← hkk]; exact F.keptS_s7 hu.may hu.cnt hu.s7 n (Nat.le_refl _)
  have HLF : Hid (∀ W, Below w.heap.size w W → LfV W b f a n c ga U) := fun W hW => h.below hW
  have HWS : Hid (∀ W, Below w.heap.size w W → NumV W wa wl wc ws) := fun W hW => hw.below hW
  have HKC : Hid (∀ W, Below w.heap.size w W → Calls Tryd.prog 48 #[.pointer (some ⟨b, 0, none⟩)] W fun e w' => e = .returned (.agg (setCs kk)) ∧ Below W.heap.size W w') := fun W hW => by rw [← hkk]; exact kept_any (h.below hW) hu
  have HPG : Hid (∀ Bp, Goes Tryd.prog 60 #[.pointer (some ⟨Bp, 0, none⟩)] (fun z : Int × Int => #[.agg #[.int .i64 z.1, .int .i64 z.2]]) pp (ApRd Bp b f a n c ga U)) := fun Bp => by rw [← hpp]; exact apart_goes hu
  rw [hkk, hpp]
  obtain ⟨R, hR⟩ : ∃ R, F.areR ws (F.els kk) pp = R := ⟨_, rfl⟩
  have HR : Hid (F.areR ws (F.els kk) pp = R) := hR
  rw [hR]
  clear hkk hpp hh h hu hw ht hR
  obtain ⟨W0, hW0⟩ : ∃ W0, (w.alloc (.cells #[.slice wa wl wc] 30)).alloc (.cells #[.bool false] 4) = W0 := ⟨_, rfl⟩
  have HI0 : Hid (ArI w wa wl wc W0) := by
    have x1 := Bx.new w #[.slice wa wl wc] 30
    have b1 := bl1 w (.cells #[.slice wa wl wc] 30)
    obtain ⟨A1, hA1⟩ : ∃ A1, w.alloc (.cells #[.slice wa wl wc] 30) = A1 := ⟨_, rfl⟩
    have s1 : A1.heap.size = w.heap.size + 1 := by rw [← hA1]; simp
    rw [hA1] at x1 b1 hW0
    have x2 := Bx.new A1 #[.bool false] 4
    have b2 := bl1 A1 (.cells #[.bool false] 4)
    rw [hW0, s1] at x2
    rw [hW0] at b2
    exact ⟨b1.trans (b2.mono b1.size), x1.below b2, x2⟩
  refine (callsIn_wide (n := 6)).1 ?_
  refine callsIn_of_wp_marks Tryd.func36 rfl trivial ?_ rfl
  simp only [Tryd.ntmps36, List.size_toArray, List.length_cons, List.length_nil, Nat.reduceAdd, Nat.reduceSub, Array.replicate_succ, Array.replicate_zero, List.push_toArray, List.append_toArray, List.nil_append, List.cons_append]
  gi_wp2
  refine ⟨trivial, (callsIn_wide.2 (HKC.out W0 HI0.out.low)).mono ?_⟩
  rintro e y1 ⟨rfl, hb1⟩
  have HI1 : Hid (ArI w wa wl wc y1) := HI0.out.bel hb1 HI0.out.b4.lt
  have HAL : Hid (Calls Tryd.prog 25 #[.agg (setCs kk)] y1 fun e w' => e = .returned (.func (.func 43) #[] #[.pointer (some ⟨y1.heap.size, 0, none⟩)]) ∧ w' = y1.alloc (.cells (setCs kk) 54)) := all_any kk y1
  unfold setCs at HAL
  clear hb1 HI0 hW0 HKC
  gi_wp2
  refine ⟨trivial, (callsIn_wide.2 HAL.out).mono ?_⟩
  rintro e y2 ⟨rfl, rfl⟩
  clear HAL
  obtain ⟨WL, hWL⟩ : ∃ WL, y1.alloc (.cells (setCs kk) 54) = WL := ⟨_, rfl⟩
  have hbl : Below y1.heap.size y1 WL := by rw [← hWL]; exact bl1 _ _
  have hxs := Bx.new y1 (setCs kk) 54
  rw [hWL] at hxs
  obtain ⟨Bs, hBs⟩ : ∃ Bs, y1.heap.size = Bs := ⟨_, rfl⟩
  rw [hBs] at hxs hbl ⊢
  have HSL : Hid (WL.heap.size = Bs + 1 ∧ w.heap.size + 1 < Bs) := ⟨by rw [← hWL]; simp [hBs], by rw [← hBs]; exact HI1.out.b4.lt⟩
  have HIL : Hid (ArI w wa wl wc WL) := HI1.out.bel hbl HSL.out.2
  have HXS : Hid (Bx WL Bs (setCs kk).toList) := hxs
  change y1.alloc (.cells #[.int .u64 (kk 0 : Int), .int .u64 (kk 1 : Int), .int .u64 (kk 2 : Int), .int .u64 (kk 3 : Int), .int .u64 (kk 4 : Int), .int .u64 (kk 5 : Int), .int .u64 (kk 6 : Int)] 54) = WL at hWL
  have HWL : Hid _ := hWL
  clear hbl hxs hBs hWL HI1
  gi_wp2
  rw [HWL.out]
  clear HWL
  refine range_a1 (β := Int) (gf := 43) (lb := #[.pointer (some ⟨Bs, 0, none⟩)]) (enc := fun o : Int => #[.int .i64 o]) (xs := F.els kk) (Rd := AllRd Bs kk) (all_goes Bs kk HK7.out).goes rfl (enters_of Tryd.func43 (by kernel_rfl) rfl)
    (fun m W => ArI w wa wl wc W ∧ Bx W Bs (setCs kk).toList ∧ ((F.els kk).take m).all (fun t => !F.isReg (F.wAt ws t)) = true)
    (fun W => ArI w wa wl wc W ∧ R = false) .ret ?a1 (fun _ => rfl) ?assign ?I ?Ix ?rd ?start ?body ?done ?stop
  case assign =>
    intro li o W K hK
    gi_wp2
    exact hK
  case I =>
    rintro m A B ⟨h1, h2, h3⟩ hB
    have hs := HSL.out
    exact ⟨h1.bel hB (by omega), h2.bel hB (by omega), h3⟩
  case Ix =>
    rintro A B ⟨h1, h2⟩ hB
    have hs := HSL.out
    exact ⟨h1.bel hB (by omega), h2⟩
  case rd =>
    rintro m A ⟨h1, h2, h3⟩
    exact ⟨h2.set, (HLF.out _ h1.low).env.tab⟩
  case start => exact ⟨HIL.out, HXS.out, rfl⟩
  case body =>
    rintro lo m o W hk ⟨hA, hbs, hall⟩ hl1 hl2 -
    have HK : Hid ((F.els kk)[m]? = some o) := hk
    obtain ⟨ho0, ho1⟩ := HKI.out m o hk
    obtain ⟨on, rfl⟩ : ∃ on : Nat, o = on := ⟨o.toNat, by omega⟩
    obtain ⟨bw, offw, hwa, hcell⟩ := (HWS.out W hA.low).at (i := on) (by omega)
    obtain ⟨p, hp⟩ : ∃ p, ws.getD on 0 = p := ⟨_, rfl⟩
    rw [hp] at hcell
    have HP : Hid (F.wAt ws (on : Int) = p) := hp
    have hbox := hA.b3
    rw [hwa] at hbox
    have c3 := hbox.c 0 _ rfl
    have c4 := hA.b4.c 0 _ rfl
    have f4 := hA.b4.f 0
    have HA : Hid (ArI w wa wl wc W) := hA
    have HBS : Hid (Bx W Bs (setCs kk).toList) := hbs
    have HAL : Hid (((F.els kk).take m).all (fun t => !F.isReg (F.wAt ws t)) = true) := hall
    have HREG : Hid (Calls Tryd.prog 52 #[.int .i64 p] W fun e w' => e = .returned (.bool (F.isReg p)) ∧ w' = W) := isRegister_any p W
    obtain ⟨rg, hrg⟩ : ∃ rg, F.isReg p = rg := ⟨_, rfl⟩
    have HRG : Hid (F.isReg p = rg) := hrg
    rw [hrg] at HREG
    clear hk hA hbs hall hp hbox hl1 hl2 hrg hwa HXS HIL
    cases rg with
    | true =>
      gi_wp2
      refine ⟨trivial, (CallsIn.inRound lo (callsIn_wide.2 HREG.out)).mono ?_⟩
      rintro e y ⟨rfl, rfl⟩
      gi_wp2
      have hs := HSL.out
      refine ⟨rfl, Abv.set _ _ _ (by show w.heap.size + 1 < _; omega), ⟨HA.out.low.setCell (by show w.heap.size ≤ w.heap.size + 1; omega) _, HA.out.b3.far (by show w.heap.size + 1 ≠ w.heap.size; omega) _, HA.out.b4.put 0 (by simp) (.bool false)⟩, ?_⟩
      rw [← HR.out]
      unfold F.areR
      rw [F.all_no HK.out (by rw [HP.out, HRG.out]; rfl), Bool.false_and]
    | false =>
      gi_wp2
      refine ⟨trivial, (CallsIn.inRound lo (callsIn_wide.2 HREG.out)).mono ?_⟩
      rintro e y ⟨rfl, rfl⟩
      gi_wp2
      exact ⟨Abv.refl _ _, HA.out, HBS.out, F.all_step HK.out HAL.out (by rw [HP.out, HRG.out]; rfl)⟩
  case done =>
    rintro D W hD ⟨h1, h2, h3⟩ hK
    have H1 : Hid (ArI w wa wl wc W) := h1
    have HK : Hid (W.heap[D]? = some (.deferred (some []))) := hK
    rw [List.take_length] at h3
    have H3 : Hid ((F.els kk).all (fun t => !F.isReg (F.wAt ws t)) = true) := h3
    have HDL : Hid (D < W.heap.size ∧ w.heap.size + 1 < D) := ⟨(Array.getElem?_eq_some_iff.1 hK).1, by have := HSL.out; omega⟩
    have HAP : Hid _ := apart_any b W
    clear h1 h2 h3 hK
    gi_wp2
    refine ⟨trivial, (callsIn_wide.2 HAP.out).mono ?_⟩
    rintro e y ⟨rfl, rfl⟩
    clear HAP
    obtain ⟨W2, hW2⟩ : ∃ W2, W.alloc (.cells #[.pointer (some ⟨b, 0, none⟩)] 47) = W2 := ⟨_, rfl⟩
    have hb2 : Below W.heap.size W W2 := by rw [← hW2]; exact bl1 _ _
    have hx2 := Bx.new W #[.pointer (some ⟨b, 0, none⟩)] 47
    rw [hW2] at hx2
    obtain ⟨Bp, hBp⟩ : ∃ Bp, W.heap.size = Bp := ⟨_, rfl⟩
    have HS2 : Hid (W2.heap.size = Bp + 1 ∧ D < Bp ∧ w.heap.size + 1 < D) := ⟨by rw [← hW2]; simp [hBp], by have := HDL.out; omega, HDL.out.2⟩
    have HI2 : Hid (ArI w wa wl wc W2 ∧ W2.heap[D]? = some (.deferred (some [])) ∧ Bx W2 Bp [.pointer (some ⟨b, 0, none⟩)]) := by
      refine ⟨H1.out.bel hb2 H1.out.b4.lt, (hb2.block _ HDL.out.1).trans HK.out, ?_⟩
      rw [← hBp]; exact hx2
    rw [hBp] at hb2 ⊢
    have HW2 : Hid _ := hW2
    clear hb2 hx2 hBp hW2 H1 HK HDL
    gi_wp2
    rw [HW2.out]
    clear HW2
    refine range_a3 (β := Int × Int) (gf := 60) (lb := #[.pointer (some ⟨Bp, 0, none⟩)]) 86 (fun z => .int .i64 z.1) (fun z => .int .i64 z.2) (HPG.out Bp) rfl (enters_of Tryd.func60 (by kernel_rfl) rfl)
      (fun m W' => W2.heap.size ≤ W'.heap.size ∧ ArI w wa wl wc W' ∧ W'.heap[D]? = some (.deferred (some [])) ∧ Bx W' Bp [.pointer (some ⟨b, 0, none⟩)] ∧ (pp.take m).all (fun z => !decide (F.wAt ws z.1 = F.wAt ws z.2)) = true)
      (fun W' => ArI w wa wl wc W' ∧ W'.heap[D]? = some (.deferred (some [])) ∧ R = false) .ret ?a2 (fun _ => rfl) (fun _ _ h => h.1) ?assign2 ?I2 ?Ix2 ?rd2 ?start2 ?body2 ?done2 ?stop2
    case assign2 =>
      intro lo sb z W' K hsb hK
      gi_wp2
      exact hK
    case I2 =>
      rintro m A B ⟨h1, h2, h3, h4, h5⟩ hB
      have hs := HS2.out
      exact ⟨Nat.le_trans h1 hB.size, h2.bel hB (by omega), (hB.block _ (by omega)).trans h3, h4.bel hB (by omega), h5⟩
    case Ix2 =>
      rintro A B ⟨h2, h3, h4⟩ hB
      have hs := HS2.out
      exact ⟨h2.bel hB (by omega), (hB.block _ (by omega)).trans h3, h4⟩
    case rd2 =>
      rintro m A ⟨h1, h2, h3, h4, h5⟩
      exact ⟨h4.c 0 _ rfl, HLF.out _ h2.low⟩
    case start2 => exact ⟨Nat.le_refl _, HI2.out.1, HI2.out.2.1, HI2.out.2.2, rfl⟩
    case body2 =>
      rintro lo m b7 z W' hk ⟨hsz, hA, hdd, hbp, hall⟩ hb7 hx7 hl1 hl2 -
      have HKZ : Hid (pp[m]? = some z) := hk
      obtain ⟨⟨z0, z1⟩, z2, z3⟩ := HPI.out m z hk
      obtain ⟨o1, ho1⟩ : ∃ o1 : Nat, z.1 = o1 := ⟨z.1.toNat, by omega⟩
      obtain ⟨o2, ho2⟩ : ∃ o2 : Nat, z.2 = o2 := ⟨z.2.toNat, by omega⟩
      obtain ⟨bw, offw, hwa, hcell⟩ := (HWS.out W' hA.low).at (i := o1) (by omega)
      obtain ⟨bw2, offw2, hwa2, hcell2⟩ := (HWS.out W' hA.low).at (i := o2) (by omega)
      rw [hwa] at hwa2
      obtain ⟨rfl, rfl⟩ : bw = bw2 ∧ offw = offw2 := by
        injection hwa2 with h
        injection h with h4 h5 h6
        exact ⟨h4, h5⟩
      obtain ⟨p1, hp1⟩ : ∃ p, ws.getD o1 0 = p := ⟨_, rfl⟩
      obtain ⟨p2, hp2⟩ : ∃ p, ws.getD o2 0 = p := ⟨_, rfl⟩
      rw [hp1] at hcell
      rw [hp2] at hcell2
      have HP1 : Hid (F.wAt ws z.1 = p1) := by show _ = _; rw [ho1]; exact hp1
      have HP2 : Hid (F.wAt ws z.2 = p2) := by show _ = _; rw [ho2]; exact hp2
      have hq1 : (o1 : Int) < wl := by omega
      have hq2 : (o2 : Int) < wl := by omega
      have hbox := hA.b3
      rw [hwa] at hbox
      have c3 := hbox.c 0 _ rfl
      have d0 := hx7.c 0 _ rfl
      have d1 := hx7.c 1 _ rfl
      rw [ho1] at d0
      rw [ho2] at d1
      have c4 := hA.b4.drew.c 0 _ rfl
      have f4 := hA.b4.drew.f 0
      have HA : Hid (ArI w wa wl wc W' ∧ W2.heap.size ≤ W'.heap.size ∧ W'.heap[D]? = some (.deferred (some [])) ∧ Bx W' Bp [.pointer (some ⟨b, 0, none⟩)]) := ⟨hA, hsz, hdd, hbp⟩
      have HAL : Hid ((pp.take m).all (fun z => !decide (F.wAt ws z.1 = F.wAt ws z.2)) = true) := hall
      have HSS : Hid (W'.drew.cell? ⟨w.heap.size, 0, none⟩ = some (.slice (some ⟨bw, offw, none⟩) wl wc) ∧ W'.drew.cell? ⟨b7, 0, none⟩ = some (.int .i64 o1) ∧ W'.drew.cell? ⟨b7, 1, none⟩ = some (.int .i64 o2) ∧ W'.drew.cell? ⟨bw, offw + o1, none⟩ = some (.int .i64 p1) ∧ W'.drew.cell? ⟨bw, offw + o2, none⟩ = some (.int .i64 p2)) := ⟨c3, d0, d1, hcell, hcell2⟩
      clear hk hA hsz hdd hbp hall hx7 hl1 hl2 hbox hwa hwa2 ho1 ho2 hp1 hp2 z0 z1 z2 z3 c3 d0 d1 hcell hcell2 HI2
      gi_wp2
      refine region_round (S := (fun w' : World => w'.cell? ⟨w.heap.size, 0, none⟩ = some (.slice (some ⟨bw, offw, none⟩) wl wc) ∧ w'.cell? ⟨b7, 0, none⟩ = some (.int .i64 o1) ∧ w'.cell? ⟨b7, 1, none⟩ = some (.int .i64 o2) ∧ w'.cell? ⟨bw, offw + o1, none⟩ = some (.int .i64 p1) ∧ w'.cell? ⟨bw, offw + o2, none⟩ = some (.int .i64 p2))) (by kernel_rfl) (by kernel_rfl) (by rintro ⟨_, _, hh⟩; exact hh) HSS.out (fun hHeld => ?_)
      refine tkr (i := 0) (v := ?_) (tA rfl) (by kernel_rfl) (fun _ _ _ h => h) (Or.inl ⟨by rfl, ?_⟩) (by assumption) ?_
      rotate_left
      · (intro w hSw; (try dsimp only at hSw); go_simp <;> with_reducible rfl)
      simp only [Act.put, List.setIfInBounds_toArray, List.set_cons_zero, List.set_cons_succ]
      refine tkr (i := 1) (v := ?_) (tA rfl) (by kernel_rfl) (fun _ _ _ h => h) (Or.inl ⟨by rfl, ?_⟩) (by assumption) ?_
      rotate_left
      · (intro w hSw; (try dsimp only at hSw); go_simp <;> with_reducible rfl)
      simp only [Act.put, List.setIfInBounds_toArray, List.set_cons_zero, List.set_cons_succ]
      refine tkr (i := 2) (v := ?_) (tA rfl) (by kernel_rfl) (fun _ _ _ h => h) (Or.inl ⟨by rfl, ?_⟩) (by assumption) ?_
      rotate_left
      · (intro w hSw; (try dsimp only at hSw); go_simp <;> with_reducible rfl)
      simp only [Act.put, List.setIfInBounds_toArray, List.set_cons_zero, List.set_cons_succ]
      refine tkr (i := 3) (v := ?_) (tA rfl) (by kernel_rfl) (fun _ _ _ h => h) (Or.inl ⟨by rfl, ?_⟩) (by assumption) ?_
      rotate_left
      · (intro w hSw; (try dsimp only at hSw); go_simp <;> with_reducible rfl)
      simp only [Act.put, List.setIfInBounds_toArray, List.set_cons_zero, List.set_cons_succ]
      refine tkr (i := 4) (v := ?_) (tA rfl) (by kernel_rfl) (fun _ _ _ h => h) (Or.inl ⟨by rfl, ?_⟩) (by assumption) ?_
      rotate_left
      · (intro w hSw; (try dsimp only at hSw); go_simp <;> with_reducible rfl)
      simp only [Act.put, List.setIfInBounds_toArray, List.set_cons_zero, List.set_cons_succ]
      refine tkr (i := 5) (v := ?_) (tA rfl) (by kernel_rfl) (fun _ _ _ h => h) (Or.inl ⟨by rfl, ?_⟩) (by assumption) ?_
      rotate_left
      · (intro w hSw; (try dsimp only at hSw); go_simp <;> with_reducible rfl)
      simp only [Act.put, List.setIfInBounds_toArray, List.set_cons_zero, List.set_cons_succ]
      refine tkr (i := 6) (v := ?_) (tA rfl) (by kernel_rfl) (fun _ _ _ h => h) (Or.inl ⟨by rfl, ?_⟩) (by assumption) ?_
      rotate_left
      · (intro w hSw; (try dsimp only at hSw); go_simp <;> with_reducible rfl)
      simp only [Act.put, List.setIfInBounds_toArray, List.set_cons_zero, List.set_cons_succ]
      refine tkr (i := 7) (v := ?_) (tA rfl) (by kernel_rfl) (fun _ _ _ h => h) (Or.inl ⟨by rfl, ?_⟩) (by assumption) ?_
      rotate_left
      · (intro w hSw; (try dsimp only at hSw); go_simp <;> with_reducible rfl)
      simp only [Act.put, List.setIfInBounds_toArray, List.set_cons_zero, List.set_cons_succ]
      refine tkr (i := 8) (v := ?_) (tA rfl) (by kernel_rfl) (fun _ _ _ h => h) (Or.inl ⟨by rfl, ?_⟩) (by assumption) ?_
      rotate_left
      · (intro w hSw; (try dsimp only at hSw); go_simp <;> with_reducible rfl)
      simp only [Act.put, List.setIfInBounds_toArray, List.set_cons_zero, List.set_cons_succ]
      refine tkr (i := 9) (v := ?_) (tA rfl) (by kernel_rfl) (fun _ _ _ h => h) (Or.inl ⟨by rfl, ?_⟩) (by assumption) ?_
      rotate_left
      · (intro w hSw; (try dsimp only at hSw); go_simp <;> with_reducible rfl)
      simp only [Act.put, List.setIfInBounds_toArray, List.set_cons_zero, List.set_cons_succ]
      refine tkr (i := 10) (v := ?_) (tA rfl) (by kernel_rfl) (fun _ _ _ h => h) (Or.inl ⟨by rfl, ?_⟩) (by assumption) ?_
      rotate_left
      · (intro w hSw; (try dsimp only at hSw); go_simp <;> with_reducible rfl)
      simp only [Act.put, List.setIfInBounds_toArray, List.set_cons_zero, List.set_cons_succ]
      refine wpAnyH_done (by kernel_rfl) ?_ _
      clear hHeld
      by_cases hpp : p1 = p2
      · have e1 : (p1 == p2) = true := by simpa using hpp
        have HRF : Hid (R = false) := by
          show R = false
          rw [← HR.out]
          unfold F.areR
          rw [H3.out, F.all_no HKZ.out (by rw [HP1.out, HP2.out]; simpa using hpp), Bool.and_false]
        clear hpp
        gi_wp2
        have hs := HS2.out
        obtain ⟨hA, _, hdd, _⟩ := HA.out
        refine ⟨rfl, (Abv.drew _).trans (Abv.set _ _ _ (by show w.heap.size + 1 < _; omega)), ⟨(hA.low.trans (Below.refl _ _).drew).setCell (by show w.heap.size ≤ w.heap.size + 1; omega) _, hA.b3.drew.far (by show w.heap.size + 1 ≠ w.heap.size; omega) _, hA.b4.drew.put 0 (by simp) (.bool false)⟩, (Below.heap_setCell _ _ _ _ (by show D ≠ w.heap.size + 1; omega)).trans hdd, HRF.out⟩
      · have e1 : (p1 == p2) = false := by simpa using hpp
        have HOK : Hid ((!decide (F.wAt ws z.1 = F.wAt ws z.2)) = true) := by show _ = _; rw [HP1.out, HP2.out]; simpa using hpp
        clear hpp
        gi_wp2
        obtain ⟨hA, hsz, hdd, hbp⟩ := HA.out
        exact ⟨Abv.drew _, hsz, ⟨hA.low.trans (Below.refl _ _).drew, hA.b3.drew, hA.b4.drew⟩, hdd, hbp.drew, F.all_step HKZ.out HAL.out HOK.out⟩
    case done2 =>
      rintro D2 W' hD2 ⟨h1, h2, h3, h4, h5⟩ hK
      have HK : Hid (W'.heap[D2]? = some (.deferred (some []))) := hK
      have H2 : Hid (ArI w wa wl wc W' ∧ W'.heap[D]? = some (.deferred (some []))) := ⟨h2, h3⟩
      rw [List.take_length] at h5
      have HRT : Hid (R = true) := by show R = true; rw [← HR.out]; unfold F.areR; rw [H3.out, h5]; rfl
      have c4 := h2.b4.c 0 _ rfl
      have f4 := h2.b4.f 0
      clear h1 h2 h3 h4 h5 hK
      gi_wp2
      have hs := HS2.out
      have hb := H2.out.1.b4.put 0 (by simp) (.bool true)
      have hk2 : (W'.setCell ⟨w.heap.size + 1, 0, none⟩ (.bool true)).heap[D2]? = some (.deferred (some [])) := (Below.heap_setCell _ _ _ _ (by show D2 ≠ w.heap.size + 1; omega)).trans HK.out
      have hk1 : (W'.setCell ⟨w.heap.size + 1, 0, none⟩ (.bool true)).heap[D]? = some (.deferred (some [])) := (Below.heap_setCell _ _ _ _ (by show D ≠ w.heap.size + 1; omega)).trans H2.out.2
      have hk1' := (World.putObj_heap_other (w := W'.setCell ⟨w.heap.size + 1, 0, none⟩ (.bool true)) (o := .deferred none) (by omega : D ≠ D2)).trans hk1
      have hb2 := (hb.obj hk2 rfl (.deferred none)).obj hk1' rfl (.deferred none)
      have g0 := hb2.c 0 _ rfl
      refine ⟨by simp, .inl ⟨_, _, rfl, run_takeDeferred hk2, ⟨by simp, .inl ⟨_, _, rfl, run_takeDeferred hk1', ?_⟩⟩⟩⟩
      refine ⟨.bool true, ?_, by rw [HRT.out], ?_⟩
      · simp [results, Tryd.results36, go_sem, g0]
      · exact ((H2.out.1.low.setCell (by show w.heap.size ≤ w.heap.size + 1; omega) _).trans (below_put _ _ (by omega))).trans (below_put _ _ (by omega))
    case stop2 =>
      rintro D2 W' hD2 ⟨h2, h3, h4⟩ hK
      have HK : Hid (W'.heap[D2]? = some (.deferred (some []))) := hK
      have H2 : Hid (ArI w wa wl wc W' ∧ W'.heap[D]? = some (.deferred (some []))) := ⟨h2, h3⟩
      have HRT : Hid (R = false) := h4
      have c4 := h2.b4.c 0 _ rfl
      clear h2 h3 h4 hK
      gi_wp2
      have hs := HS2.out
      have hk1' := (World.putObj_heap_other (w := W') (o := .deferred none) (by omega : D ≠ D2)).trans H2.out.2
      have hb2 := (H2.out.1.b4.obj HK.out rfl (.deferred none)).obj hk1' rfl (.deferred none)
      have g0 := hb2.c 0 _ rfl
      refine ⟨by simp, .inl ⟨_, _, rfl, run_takeDeferred HK.out, ⟨by simp, .inl ⟨_, _, rfl, run_takeDeferred hk1', ?_⟩⟩⟩⟩
      refine ⟨.bool false, ?_, by rw [HRT.out], ?_⟩
      · simp [results, Tryd.results36, go_sem, g0]
      · exact (H2.out.1.low.trans (below_put _ _ (by omega))).trans (below_put _ _ (by omega))
  case stop =>
    rintro D W hD ⟨h1, h2⟩ hK
    have HK : Hid (W.heap[D]? = some (.deferred (some []))) := hK
    have H1 : Hid (ArI w wa wl wc W) := h1
    have HRT : Hid (R = false) := h2
    have c4 := h1.b4.c 0 _ rfl
    clear h1 h2 hK
    gi_wp2
    have hs := HSL.out
    have hb2 := H1.out.b4.obj HK.out rfl (.deferred none)
    have g0 := hb2.c 0 _ rfl
    refine ⟨by simp, .inl ⟨_, _, rfl, run_takeDeferred HK.out, ?_⟩⟩
    refine ⟨.bool false, ?_, by rw [HRT.out], ?_⟩
    · simp [results, Tryd.results36, go_sem, g0]
    · exact H1.out.low.trans (below_put _ _ (by omega))
end Go.Proofs.YtljgpngbkmembaaDoor

/- The program's arePlaces. -/
namespace Go.Proofs.YtljgpngbkmembaaDoor
open Go.RowKit Go.Maps
set_option linter.unusedVariables false
set_option linter.unusedSimpArgs false
/-- What hangs on no operation. -/
def F.arePl (T : Int) (ws : List Int) (lw : Nat) (slots : Int) : Bool := decide ((lw : Int) = T) && (decide (0 ≤ slots) && (decide (slots ≤ 400) && (List.range lw).all (F.placeOk ws slots)))
theorem at2 {w : World} {cs ds : Array Value} {t u : TypeId} {j : Nat} {v : Value} (h : cs[j]? = some v) : ((w.alloc (.cells cs t)).alloc (.cells ds u)).cell? ⟨w.heap.size, j, none⟩ = some v := cell_thru (bl1 _ _) (ncell_at h)
theorem at3 {w : World} {o : Obj} {ds : Array Value} {u : TypeId} {j : Nat} {v : Value} (h : ds[j]? = some v) : ((w.alloc o).alloc (.cells ds u)).cell? ⟨w.heap.size + 1, j, none⟩ = some v := by
  have := ncell_at (w := w.alloc o) (t := u) h
  rwa [World.size_alloc] at this
set_option maxRecDepth 100000 in
set_option maxHeartbeats 8000000 in
theorem arePlaces_any {w : World} {f : F.Fn} {a : Option Addr} {l c : Nat} {aw : Option Addr} {lw cw : Nat} {ws : List Int} {slots : Int} (hw : NumV w aw lw cw ws) : Calls Tryd.prog 35 #[fnV f a l c, .agg #[.slice aw lw cw, .int .i64 slots]] w fun e w' => e = .returned (.bool (F.arePl f.temps ws lw slots)) ∧ Below w.heap.size w w' := by
  have hmax : maxLen = 9223372036854775807 := rfl
  have hrm := hw.room
  have HWC : Hid (ws.length = lw) := hw.count
  obtain ⟨R, hR⟩ : ∃ R, F.arePl f.temps ws lw slots = R := ⟨_, rfl⟩
  have HR : Hid (R = F.arePl f.temps ws lw slots) := hR.symm
  rw [hR]
  clear hR
  obtain ⟨nm0, params, T, code⟩ := f
  unfold fnV
  simp only at HR ⊢
  obtain ⟨W0, hW0⟩ : ∃ W0, (w.alloc (.cells #[.string nm0, .int .i64 params, .int .i64 T, .slice a l c] 24)).alloc (.cells #[.slice aw lw cw, .int .i64 slots] 38) = W0 := ⟨_, rfl⟩
  have HB0 : Hid (Below w.heap.size w W0) := by show Below _ _ _; rw [← hW0]; exact (bl1 _ _).alloc (by simp) _
  have HV0 : Hid (NumV W0 aw lw cw ws) := hw.below HB0.out
  clear hw
  have d0 : W0.cell? ⟨w.heap.size, 0, none⟩ = some (.string nm0) := by rw [← hW0]; exact at2 rfl
  have d1 : W0.cell? ⟨w.heap.size, 1, none⟩ = some (.int .i64 params) := by rw [← hW0]; exact at2 rfl
  have d2 : W0.cell? ⟨w.heap.size, 2, none⟩ = some (.int .i64 T) := by rw [← hW0]; exact at2 rfl
  have d3 : W0.cell? ⟨w.heap.size, 3, none⟩ = some (.slice a l c) := by rw [← hW0]; exact at2 rfl
  have e0 : W0.cell? ⟨w.heap.size + 1, 0, none⟩ = some (.slice aw lw cw) := by rw [← hW0]; exact at3 rfl
  have e1 : W0.cell? ⟨w.heap.size + 1, 1, none⟩ = some (.int .i64 slots) := by rw [← hW0]; exact at3 rfl
  have HD : Hid (∀ y, Below W0.heap.size W0 y → y.cell? ⟨w.heap.size, 0, none⟩ = some (.string nm0) ∧ y.cell? ⟨w.heap.size, 1, none⟩ = some (.int .i64 params) ∧ y.cell? ⟨w.heap.size, 2, none⟩ = some (.int .i64 T) ∧ y.cell? ⟨w.heap.size, 3, none⟩ = some (.slice a l c) ∧ y.cell? ⟨w.heap.size + 1, 0, none⟩ = some (.slice aw lw cw) ∧ y.cell? ⟨w.heap.size + 1, 1, none⟩ = some (.int .i64 slots)) := fun y hy => ⟨cell_thru hy d0, cell_thru hy d1, cell_thru hy d2, cell_thru hy d3, cell_thru hy e0, cell_thru hy e1⟩
  by_cases h1 : ¬ (lw : Int) = T
  · have g1 : ((lw : Int) != T) = true := by simpa using h1
    have HRF := HR.out.trans (by unfold F.arePl; rw [decide_eq_false h1]; try rfl)
    subst HRF
    go_enter Tryd.func35, Tryd.ntmps35
    go_wp2_with fail
    go_ret
    exact ⟨rfl, HB0.out⟩
  replace h1 := Decidable.not_not.1 h1
  subst h1
  by_cases h2 : ¬ 0 ≤ slots
  · have HRF := HR.out.trans (by unfold F.arePl; rw [decide_eq_false h2]; try simp)
    subst HRF
    go_enter Tryd.func35, Tryd.ntmps35
    go_wp2_with fail
    go_ret
    exact ⟨rfl, HB0.out⟩
  replace h2 := Decidable.not_not.1 h2
  by_cases h3 : ¬ slots ≤ 400
  · have HRF := HR.out.trans (by unfold F.arePl; rw [decide_eq_false h3]; try simp)
    subst HRF
    go_enter Tryd.func35, Tryd.ntmps35
    go_wp2_with fail
    go_ret
    exact ⟨rfl, HB0.out⟩
  replace h3 := Decidable.not_not.1 h3
  have HRA : Hid (R = (List.range lw).all (F.placeOk ws slots)) := by
    show _ = _
    rw [HR.out]
    unfold F.arePl
    rw [decide_eq_true h2, decide_eq_true h3]
    simp
  clear HR
  go_enter Tryd.func35, Tryd.ntmps35
  go_wp2_with fail
  clear hW0 d0 d1 d2 d3 e0 e1
  go_loopg [6, 26] lw (fun g z6 iv wq => ∃ (i : Nat), g = lw - i ∧ iv = .int .i64 i ∧ i ≤ lw ∧ Hid (∀ k, k < i → F.placeOk ws slots k = true) ∧ Hid (Below W0.heap.size W0 wq))
  case atStart => exact ⟨0, rfl, rfl, Nat.zero_le _, (fun k hk => by omega : ∀ k, k < 0 → F.placeOk ws slots k = true), Below.refl _ _⟩
  case round =>
    obtain ⟨i, rfl, rfl, hi, HAI, HBI⟩ := hrel
    have HBX : Hid (Below w.heap.size w wr) := HB0.out.trans (HBI.out.mono HB0.out.size)
    by_cases hin : i < lw
    · have hii : (i : Int) < lw := by omega
      have hi0 : 0 ≤ (i : Int) := by omega
      have HN : Hid (F.placeOk ws slots i = true → ∀ k, k < i + 1 → F.placeOk ws slots k = true) := fun e k hk => by
        by_cases e2 : k = i
        · subst e2; exact e
        · exact HAI.out k (by omega)
      have HF : Hid (F.placeOk ws slots i = false → R = false) := fun e => by rw [HRA.out]; exact F.all_range_no hin e
      obtain ⟨d0, d1, d2, d3, e0, e1⟩ := HD.out wr HBI.out
      obtain ⟨bz, oz, habz, cz⟩ := (HV0.out.below HBI.out).at hin
      subst habz
      have hpo : F.placeOk ws slots i = (F.isReg (ws.getD i 0) || F.isSlot (ws.getD i 0) slots) := rfl
      rw [hpo] at HN HF
      obtain ⟨z, hz⟩ : ∃ z, ws.getD i 0 = z := ⟨_, rfl⟩
      rw [hz] at cz HN HF
      have HC1 := isRegister_any z wr
      have HC2 := isSlot_any z slots h2 h3 wr
      obtain ⟨b1, hb1⟩ : ∃ b, F.isReg z = b := ⟨_, rfl⟩
      obtain ⟨b2, hb2⟩ : ∃ b, F.isSlot z slots = b := ⟨_, rfl⟩
      rw [hb1] at HN HF HC1
      rw [hb2] at HN HF HC2
      have HH2 : Hid (Calls Tryd.prog 53 #[.int .i64 z, .int .i64 slots] wr fun e w' => e = .returned (.bool b2) ∧ w' = wr) := HC2
      clear hz hb1 hb2 hpo HC2
      go_wp2_with fail
      refine HC1.mono ?_
      rintro e y ⟨rfl, rfl⟩
      clear HC1
      cases b1 with
      | true =>
        have HN2 : Hid _ := HN.out rfl
        clear HN HF HH2
        go_wp2_with fail
        go_roundg (lw - (i + 1))
        case measure => omega
        case rel => exact ⟨i + 1, rfl, by go_num, by omega, HN2, HBI⟩
      | false =>
        go_wp2_with fail
        refine HH2.out.mono ?_
        rintro e y ⟨rfl, rfl⟩
        clear HH2
        cases b2 with
        | true =>
          have HN2 : Hid _ := HN.out rfl
          clear HN HF
          go_wp2_with fail
          go_roundg (lw - (i + 1))
          case measure => omega
          case rel => exact ⟨i + 1, rfl, by go_num, by omega, HN2, HBI⟩
        | false =>
          have HRF := HF.out rfl
          subst HRF
          clear HN HF
          go_wp2_with fail
          go_ret
          exact ⟨rfl, HBX.out⟩
    · have hnn : ¬ (i : Int) < lw := by omega
      have HRT : R = true := by rw [HRA.out]; exact F.all_range_yes fun k hk => HAI.out k (by omega)
      subst HRT
      go_wp2_with fail
      go_ret
      exact ⟨rfl, HBX.out⟩
end Go.Proofs.YtljgpngbkmembaaDoor

/- What the program's Check asks is what the document asks. No walk. -/
namespace Go.Proofs.YtljgpngbkmembaaDoor
open Go.RowKit Go.Maps Go.Shelf
set_option linter.unusedVariables false
set_option linter.unusedSimpArgs false
namespace F
/-- What is asked of places beyond what hangs on no operation. -/
def areP (f : Fn) (ws : List Int) : Prop :=
  (∀ i t, i < f.code.length → leavesK (at_ f i) = true → (∃ j ∈ nxt (at_ f i) i, Lv f j t) → t ≠ wr (at_ f i) → isReg (wAt ws t) = false) ∧
  (∀ p q : Int, (Lv f 0 p ∨ (0 ≤ p ∧ p < f.params)) → (Lv f 0 q ∨ (0 ≤ q ∧ q < f.params)) → p < q → wAt ws p ≠ wAt ws q) ∧
  (∀ i t, i < f.code.length → wr (at_ f i) ≠ -1 → (∃ j ∈ nxt (at_ f i) i, Lv f j t) → t ≠ wr (at_ f i) → t ≠ smF (at_ f i) → wAt ws (wr (at_ f i)) ≠ wAt ws t)
theorem areR_iff {f : Fn} {n : Nat} {U : Nat → Nat → Nat} (hu : LfU f n U) (ws : List Int) : areR ws (els (keptS f U n)) (doneP f U n) = true ↔ areP f ws := by
  unfold areR areP
  rw [Bool.and_eq_true, List.all_eq_true, List.all_eq_true, hu.cnt]
  constructor
  · rintro ⟨h1, h2⟩
    refine ⟨fun i t hi hl hj hw => ?_, fun p q hp hq hlt => ?_, fun i t hi hw hj h3 h4 => ?_⟩
    · have := h1 t ((live_kept hu).2 ⟨i, hi, hl, hj, hw⟩)
      simpa using this
    · have := h2 (p, q) (mem_doneP.2 (.inl (mem_pairsF.2 ⟨(live_first hu).2 hp, (live_first hu).2 hq, hlt⟩)))
      simpa using this
    · have := h2 (wr (at_ f i), t) (mem_doneP.2 (.inr ⟨i, hi, mem_behP.2 ⟨hw, rfl, (live_beh hu hi).2 hj, h3, h4⟩⟩))
      simpa using this
  · rintro ⟨h1, h2, h3⟩
    constructor
    · intro t ht
      obtain ⟨i, hi, hl, hj, hw⟩ := (live_kept hu).1 ht
      rw [h1 i t hi hl hj hw]
      rfl
    · rintro ⟨p, q⟩ hp
      have key : wAt ws p ≠ wAt ws q := by
        rcases mem_doneP.1 hp with h | ⟨i, hi, h⟩
        · obtain ⟨g1, g2, g3⟩ := mem_pairsF.1 h
          exact h2 p q ((live_first hu).1 g1) ((live_first hu).1 g2) g3
        · obtain ⟨g1, g2, g3, g4, g5⟩ := mem_behP.1 h
          simp only at g2 g3 g4 g5
          rw [g2]
          exact h3 i q hi g1 ((live_beh hu hi).1 g3) g4 g5
      simpa using key
/-- What Check answers: 0 where places are right. -/
noncomputable def chk (f : Fn) (ws : List Int) (lw : Nat) (slots : Int) : Bool := mayF f && (arePl f.temps ws lw slots && @decide (areP f ws) (Classical.propDecidable _))
theorem mem_outs {f : Fn} (hm : mayF f = true) {tab : Nat → Nat → Bool} (htab : ∀ i t, tab i t = true ↔ Lv f i t) {i : Nat} {x : Int} : x ∈ outs f tab i f.temps.toNat ↔ ∃ j ∈ nxt (at_ f i) i, Lv f j x := by
  unfold outs goesTo
  rw [List.mem_map]
  constructor
  · rintro ⟨t, ht, rfl⟩
    obtain ⟨h1, h2⟩ := List.mem_filter.1 ht
    rw [List.any_eq_true] at h2
    obtain ⟨q, hq, hq2⟩ := h2
    have hq3 := List.mem_range.1 hq
    refine ⟨(nxt (at_ f i) i).getD q 0, by simp [List.getD, hq3], (htab _ _).1 hq2⟩
  · rintro ⟨j, hj, hl⟩
    have ht := Lv.temp hm hl
    obtain ⟨q, hq, e⟩ := List.mem_iff_getElem.1 hj
    refine ⟨x.toNat, List.mem_filter.2 ⟨List.mem_range.2 (by omega), ?_⟩, by show ((x.toNat : Nat) : Int) = x; omega⟩
    rw [List.any_eq_true]
    refine ⟨q, List.mem_range.2 hq, ?_⟩
    have e2 : (nxt (at_ f i) i).getD q 0 = j := by simp [List.getD, hq, e]
    rw [e2]
    refine (htab _ _).2 ?_
    rwa [show ((x.toNat : Nat) : Int) = x by omega]
theorem mem_firsts {f : Fn} (hm : mayF f = true) {tab : Nat → Nat → Bool} (htab : ∀ i t, tab i t = true ↔ Lv f i t) {x : Int} : x ∈ firsts tab f.temps.toNat ↔ Lv f 0 x := by
  unfold firsts
  rw [List.mem_map]
  constructor
  · rintro ⟨t, ht, rfl⟩
    exact (htab _ _).1 (List.mem_filter.1 ht).2
  · intro hl
    have ht := Lv.temp hm hl
    refine ⟨x.toNat, List.mem_filter.2 ⟨List.mem_range.2 (by omega), (htab _ _).2 ?_⟩, by show ((x.toNat : Nat) : Int) = x; omega⟩
    rwa [show ((x.toNat : Nat) : Int) = x by omega]
theorem nodup_firsts (tab : Nat → Nat → Bool) (T : Nat) : (firsts tab T).Nodup := by
  unfold firsts
  exact ((List.nodup_range).sublist List.filter_sublist).map (f := Int.ofNat) (fun a b h e => h (Int.ofNat.inj e))
theorem mem_ext {fs : List Int} {x : Int} : ∀ {p : Nat}, x ∈ ext fs p ↔ x ∈ fs ∨ (0 ≤ x ∧ x < p)
  | 0 => by
    rw [ext]
    constructor
    · exact .inl
    · rintro (h | h)
      · exact h
      · omega
  | p + 1 => by
    have ih := @mem_ext fs x p
    rw [ext]
    split
    · next hp =>
      rw [ih]
      have ih2 := (@mem_ext fs (p : Int) p).1 hp
      constructor
      · rintro (h | h)
        · exact .inl h
        · exact .inr (by omega)
      · rintro (h | h)
        · exact .inl h
        · by_cases e : x = (p : Int)
          · subst e; exact ih2
          · exact .inr (by omega)
    · rw [List.mem_append, List.mem_singleton, ih]
      constructor
      · rintro ((h | h) | h)
        · exact .inl h
        · exact .inr (by omega)
        · exact .inr (by omega)
      · rintro (h | h)
        · exact .inl (.inl h)
        · by_cases e : x = (p : Int)
          · exact .inr e
          · exact .inl (.inr (by omega))
theorem nodup_ext {fs : List Int} (h : fs.Nodup) : ∀ p, (ext fs p).Nodup
  | 0 => h
  | p + 1 => by
    rw [ext]
    split
    · exact nodup_ext h p
    · next hp =>
      rw [List.nodup_append]
      refine ⟨nodup_ext h p, by simp, fun a ha b hb e => ?_⟩
      rw [List.mem_singleton] at hb
      subst hb; subst e
      exact hp ha
theorem pairs_iff {ws : List Int} {l : List Int} (hd : l.Nodup) : (List.range l.length).all (pairOk ws l) = true ↔ ∀ p q : Int, p ∈ l → q ∈ l → p < q → wAt ws p ≠ wAt ws q := by
  rw [List.all_eq_true]
  constructor
  · intro h p q hp hq hlt he
    obtain ⟨i, hi, ei⟩ := List.mem_iff_getElem.1 hp
    obtain ⟨k, hk, ek⟩ := List.mem_iff_getElem.1 hq
    have di : l.getD i 0 = p := by simp [List.getD, hi, ei]
    have dk : l.getD k 0 = q := by simp [List.getD, hk, ek]
    rcases Nat.lt_trichotomy i k with h1 | h1 | h1
    · have := h k (List.mem_range.2 hk)
      unfold pairOk at this
      rw [List.all_eq_true] at this
      have := this i (List.mem_range.2 h1)
      rw [di, dk, ← he] at this
      simp at this
    · subst h1; omega
    · have := h i (List.mem_range.2 hi)
      unfold pairOk at this
      rw [List.all_eq_true] at this
      have := this k (List.mem_range.2 h1)
      rw [di, dk, ← he] at this
      simp at this
  · intro h i hi
    have hi := List.mem_range.1 hi
    unfold pairOk
    rw [List.all_eq_true]
    intro k hk
    have hk := List.mem_range.1 hk
    have hk2 : k < l.length := by omega
    have di : l.getD i 0 = l[i] := by simp [List.getD, hi]
    have dk : l.getD k 0 = l[k] := by simp [List.getD, hk2]
    rw [di, dk]
    have hne : l[i] ≠ l[k] := Ne.symm ((List.pairwise_iff_getElem.1 hd) k i hk2 hi hk)
    have hc : wAt ws l[i] ≠ wAt ws l[k] := by
      by_cases hlt : l[i] < l[k]
      · exact h _ _ (List.getElem_mem hi) (List.getElem_mem hk2) hlt
      · exact (h _ _ (List.getElem_mem hk2) (List.getElem_mem hi) (by omega)).symm
    simpa using hc
theorem okRow_iff {ws : List Int} {o : Op} {l : List Int} : okRow ws o l = true ↔ ∀ x ∈ l, okOne ws o x = true := by
  unfold okRow
  rw [List.all_eq_true]
  constructor
  · intro h x hx
    obtain ⟨i, hi, ei⟩ := List.mem_iff_getElem.1 hx
    have := h i (List.mem_range.2 hi)
    rwa [show l.getD i 0 = x by simp [List.getD, hi, ei]] at this
  · intro h i hi
    have hi := List.mem_range.1 hi
    exact h _ (by simp [List.getD, hi])
theorem okOne_iff {ws : List Int} {o : Op} {t : Int} (hw : 0 ≤ wr o ∨ wr o = -1) (ht : (1 ≤ wAt ws t ∧ wAt ws t ≤ 4) ∨ 8 ≤ wAt ws t) : okOne ws o t = true ↔ (leavesK o = true → t ≠ wr o → isReg (wAt ws t) = false) ∧ (wr o ≠ -1 → t ≠ wr o → t ≠ smF o → wAt ws (wr o) ≠ wAt ws t) := by
  have hl : leaves o = leavesK o := by
    unfold leaves leavesK
    rw [Bool.eq_iff_iff]
    simp only [Bool.or_eq_true, Bool.and_eq_true, decide_eq_true_eq]
    omega
  have hr : isReg (wAt ws t) = false ↔ 8 ≤ wAt ws t := by
    unfold isReg
    rw [← Bool.not_eq_true, Bool.and_eq_true, decide_eq_true_eq, decide_eq_true_eq]
    omega
  have hA : okOne ws o t = true ↔ ¬ (0 ≤ wr o ∧ t ≠ wr o ∧ wAt ws t = wAt ws (wr o) ∧ ¬ (o.op = 2 ∧ t = o.a)) ∧ ¬ (leavesK o = true ∧ t ≠ wr o ∧ wAt ws t < 8) := by
    unfold okOne bad1 bad2
    rw [hl, Bool.not_eq_true', Bool.or_eq_false_iff, ← Bool.not_eq_true, ← Bool.not_eq_true]
    simp only [Bool.and_eq_true, decide_eq_true_eq, Bool.not_eq_true', Bool.and_eq_false_iff, decide_eq_false_iff_not]
    have hn : ∀ p q : Prop, (¬ p ∨ ¬ q) ↔ ¬ (p ∧ q) := fun p q => by
      constructor
      · rintro (h | h) ⟨h1, h2⟩
        · exact h h1
        · exact h h2
      · intro h
        by_cases hp : p
        · exact .inr fun hq => h ⟨hp, hq⟩
        · exact .inl hp
    rw [hn]
  rw [hA, hr]
  constructor
  · rintro ⟨h1, h2⟩
    refine ⟨fun hk hw2 => ?_, fun hw1 hw2 hs e => h1 ⟨by omega, hw2, e.symm, fun hc => ?_⟩⟩
    · apply Classical.byContradiction
      intro hc
      exact h2 ⟨hk, hw2, by omega⟩
    · apply hs
      unfold smF
      rw [if_pos hc.1]
      exact hc.2
  · rintro ⟨h1, h2⟩
    refine ⟨fun hc => ?_, fun hc => ?_⟩
    · obtain ⟨c1, c2, c3, c4⟩ := hc
      refine h2 (by omega) c2 (fun e => ?_) c3.symm
      unfold smF at e
      split at e
      · next h2 => exact c4 ⟨h2, e⟩
      · exact c2 e
    · obtain ⟨c1, c2, c3⟩ := hc
      have := h1 c1 c2
      omega
/-- The program's answer is the document's. -/
theorem chk_right {f : Fn} {tab : Nat → Nat → Bool} (htab : ∀ i t, tab i t = true ↔ Lv f i t) (ws : List Int) (slots : Int) : chk f ws ws.length slots = rightB f tab ws slots := by
  unfold chk rightB
  cases hm : mayF f with
  | false => rfl
  | true =>
    rw [Bool.true_and, Bool.true_and]
    unfold arePl
    by_cases hT : (ws.length : Int) = f.temps
    · have hTN : f.temps.toNat = ws.length := by omega
      simp only [hT, decide_true, Bool.true_and]
      rw [Bool.and_assoc, Bool.and_assoc, hTN]
      congr 1
      congr 1
      cases hp : (List.range ws.length).all (placeOk ws slots) with
      | false => rfl
      | true =>
        rw [Bool.true_and, Bool.true_and, ← hTN, Bool.eq_iff_iff, Bool.and_eq_true, pairs_iff (nodup_ext (nodup_firsts _ _) _), List.all_eq_true, @decide_eq_true_iff (areP f ws) (Classical.propDecidable _)]
        have hplace : ∀ t : Int, 0 ≤ t → t < f.temps → (1 ≤ wAt ws t ∧ wAt ws t ≤ 4) ∨ 8 ≤ wAt ws t := fun t h0 h1 => by
          have := List.all_eq_true.1 hp t.toNat (List.mem_range.2 (by omega))
          unfold placeOk at this
          rw [show ((t.toNat : Nat) : Int) = t by omega] at this
          simp only [Bool.or_eq_true, Bool.and_eq_true, decide_eq_true_eq] at this
          omega
        have hh := may_head hm
        have hfst : ∀ p : Int, p ∈ ext (firsts tab f.temps.toNat) f.params.toNat ↔ Lv f 0 p ∨ (0 ≤ p ∧ p < f.params) := fun p => by
          rw [mem_ext, mem_firsts hm htab, show ((f.params.toNat : Nat) : Int) = f.params by omega]
        have hrow : ∀ i, i < f.code.length → (okRow ws (at_ f i) (outs f tab i f.temps.toNat) = true ↔ ∀ t, (∃ j ∈ nxt (at_ f i) i, Lv f j t) → (leavesK (at_ f i) = true → t ≠ wr (at_ f i) → isReg (wAt ws t) = false) ∧ (wr (at_ f i) ≠ -1 → t ≠ wr (at_ f i) → t ≠ smF (at_ f i) → wAt ws (wr (at_ f i)) ≠ wAt ws t)) := fun i hi => by
          rw [okRow_iff]
          have hw : 0 ≤ wr (at_ f i) ∨ wr (at_ f i) = -1 := by rcases wr_in (may_op hm hi) with h | h <;> omega
          constructor
          · intro h t ht
            obtain ⟨j, hj, hl⟩ := ht
            have htt := Lv.temp hm hl
            exact (okOne_iff hw (hplace t htt.1 htt.2)).1 (h t ((mem_outs hm htab).2 ⟨j, hj, hl⟩))
          · intro h t ht
            have ht2 := (mem_outs hm htab).1 ht
            obtain ⟨j, hj, hl⟩ := ht2
            have htt := Lv.temp hm hl
            exact (okOne_iff hw (hplace t htt.1 htt.2)).2 (h t ⟨j, hj, hl⟩)
        unfold areP
        constructor
        · rintro ⟨h1, h2, h3⟩
          refine ⟨fun i hi => ?_, fun p q hp hq hlt => h2 p q ((hfst p).1 hp) ((hfst q).1 hq) hlt⟩
          have hi := List.mem_range.1 hi
          exact (hrow i hi).2 fun t ht => ⟨fun hk hw => h1 i t hi hk ht hw, fun hw1 hw hs => h3 i t hi hw1 ht hw hs⟩
        · rintro ⟨h1, h2⟩
          refine ⟨fun i t hi hk ht hw => ((hrow i hi).1 (h1 i (List.mem_range.2 hi)) t ht).1 hk hw, fun p q hp hq hlt => h2 p q ((hfst p).2 hp) ((hfst q).2 hq) hlt, fun i t hi hw1 ht hw hs => ((hrow i hi).1 (h1 i (List.mem_range.2 hi)) t ht).2 hw1 hw hs⟩
    · simp [hT]
end F
end Go.Proofs.YtljgpngbkmembaaDoor

/- Which of two temps comes first. -/
namespace Go.Proofs.YtljgpngbkmembaaDoor
open Go.RowKit Go.Maps
set_option linter.unusedVariables false
set_option linter.unusedSimpArgs false
namespace F
/-- A temp, and how often it is used. -/
structure Rk where
  uses : Int
  temp : Int
instance : Inhabited Rk := ⟨⟨0, 0⟩⟩
def cmp3 (a b : Int) : Int := if a < b then -1 else if b < a then 1 else 0
def rkC (x y : Rk) : Int := if cmp3 y.uses x.uses = 0 then cmp3 x.temp y.temp else cmp3 y.uses x.uses
def rkLe (x y : Rk) : Bool := !decide (rkC y x < 0)
def rkE (x : Rk) : List Value := [.int .i64 x.uses, .int .i64 x.temp]
end F
def Gr (w y : World) : Prop := ∃ q os, y = Go.Sort.grow (w.drewN q) os
theorem Gr.refl (w : World) : Gr w w := ⟨0, #[], by rw [Go.Sort.grow_empty]; rfl⟩
theorem Gr.alloc {w y : World} (h : Gr w y) (o : Obj) : Gr w (y.alloc o) := by
  obtain ⟨q, os, rfl⟩ := h
  exact ⟨q, os ++ #[o], by rw [Go.Sort.alloc_eq_grow, Go.Sort.grow_grow]⟩
theorem Gr.drew {w y : World} (h : Gr w y) : Gr w y.drew := by
  obtain ⟨q, os, rfl⟩ := h
  exact ⟨q + 1, os, rfl⟩
theorem isNaN_any (x : Int) (w : World) : Calls Tryd.prog 88 #[.int .i64 x] w fun e w' => e = .returned (.bool false) ∧ w' = w := by
  go_enter Tryd.func88, Tryd.ntmps88
  go_wp2_with fail
  go_ret
  exact ⟨by simp, rfl⟩
theorem compare1_any (x y : Int) (w : World) : Calls Tryd.prog 77 #[.int .i64 x, .int .i64 y] w fun e w' => e = .returned (.int .i64 (F.cmp3 x y)) ∧ w' = w := by
  have hx := isNaN_any x w
  have hy := isNaN_any y w
  rcases (show x < y ∨ (¬ x < y ∧ y < x) ∨ (¬ x < y ∧ ¬ y < x) by omega) with h1 | ⟨h1, h2⟩ | ⟨h1, h2⟩
  · rw [show F.cmp3 x y = -1 from if_pos h1]
    go_enter Tryd.func77, Tryd.ntmps77
    go_wp2_with fail
    refine hx.mono ?_
    rintro e w' ⟨rfl, rfl⟩
    go_wp2_with fail
    refine hy.mono ?_
    rintro e w' ⟨rfl, rfl⟩
    go_wp2_with fail
    go_ret
    exact ⟨rfl, rfl⟩
  · rw [show F.cmp3 x y = 1 by unfold F.cmp3; rw [if_neg h1, if_pos h2]]
    go_enter Tryd.func77, Tryd.ntmps77
    go_wp2_with fail
    refine hx.mono ?_
    rintro e w' ⟨rfl, rfl⟩
    go_wp2_with fail
    refine hy.mono ?_
    rintro e w' ⟨rfl, rfl⟩
    go_wp2_with fail
    go_ret
    exact ⟨rfl, rfl⟩
  · rw [show F.cmp3 x y = 0 by unfold F.cmp3; rw [if_neg h1, if_neg h2]]
    go_enter Tryd.func77, Tryd.ntmps77
    go_wp2_with fail
    refine hx.mono ?_
    rintro e w' ⟨rfl, rfl⟩
    go_wp2_with fail
    refine hy.mono ?_
    rintro e w' ⟨rfl, rfl⟩
    go_wp2_with fail
    go_ret
    exact ⟨rfl, rfl⟩
theorem or2_any {w : World} {b : Nat} {x y : Int} (h0 : w.cell? ⟨b, 0, none⟩ = some (.int .i64 x)) (h1 : w.cell? ⟨b, 1, none⟩ = some (.int .i64 y)) : Calls Tryd.prog 76 #[.slice (some ⟨b, 0, none⟩) 2 2] w fun e w' => e = .returned (.int .i64 (if x = 0 then y else x)) ∧ w' = w := by
  by_cases hx : x = 0
  · subst hx
    rw [if_pos rfl]
    by_cases hy : y = 0
    · subst hy
      go_enter Tryd.func76, Tryd.ntmps76
      go_wp2_with fail
      refine wp_loop_rounds 3 ?_
      rw [rounds_succ]
      go_wp2_with fail
      rw [rounds_succ]
      go_wp2_with fail
      rw [rounds_succ]
      go_wp2_with fail
      go_ret
      exact ⟨rfl, rfl⟩
    · go_enter Tryd.func76, Tryd.ntmps76
      go_wp2_with fail
      refine wp_loop_rounds 3 ?_
      rw [rounds_succ]
      go_wp2_with fail
      rw [rounds_succ]
      go_wp2_with fail
      go_ret
      exact ⟨rfl, rfl⟩
  · rw [if_neg hx]
    go_enter Tryd.func76, Tryd.ntmps76
    go_wp2_with fail
    refine wp_loop_rounds 3 ?_
    rw [rounds_succ]
    go_wp2_with fail
    go_ret
    exact ⟨rfl, rfl⟩
set_option maxRecDepth 100000 in
set_option maxHeartbeats 8000000 in
theorem cmp_any (x y : F.Rk) (w : World) : Calls Tryd.prog 68 #[.agg (F.rkE x).toArray, .agg (F.rkE y).toArray] w fun e w' => e = .returned (.int .i64 (F.rkC x y)) ∧ Gr w w' := by
  obtain ⟨xu, xt⟩ := x
  obtain ⟨yu, yt⟩ := y
  unfold F.rkE
  simp only
  obtain ⟨W0, hW0⟩ : ∃ W0, (w.alloc (.cells #[.int .i64 xu, .int .i64 xt] 91)).alloc (.cells #[.int .i64 yu, .int .i64 yt] 91) = W0 := ⟨_, rfl⟩
  have HG0 : Hid (Gr w W0) := by show Gr w W0; rw [← hW0]; exact ((Gr.refl w).alloc _).alloc _
  have d0 : W0.drew.cell? ⟨w.heap.size, 0, none⟩ = some (.int .i64 xu) := by rw [World.cell?_drew, ← hW0]; exact cell_thru (bl1 _ _) (ncell_at rfl)
  have d1 : W0.drew.cell? ⟨w.heap.size, 1, none⟩ = some (.int .i64 xt) := by rw [World.cell?_drew, ← hW0]; exact cell_thru (bl1 _ _) (ncell_at rfl)
  have e2 : ∀ (j : Nat) (v : Value), (#[.int .i64 yu, .int .i64 yt] : Array Value)[j]? = some v → ((w.alloc (.cells #[.int .i64 xu, .int .i64 xt] 91)).alloc (.cells #[.int .i64 yu, .int .i64 yt] 91)).cell? ⟨w.heap.size + 1, j, none⟩ = some v := fun j v hv => by
    have := ncell_at (w := w.alloc (.cells #[.int .i64 xu, .int .i64 xt] 91)) (t := 91) hv
    rwa [World.size_alloc] at this
  have d2 : W0.drew.cell? ⟨w.heap.size + 1, 0, none⟩ = some (.int .i64 yu) := by rw [World.cell?_drew, ← hW0]; exact e2 0 _ rfl
  have d3 : W0.drew.cell? ⟨w.heap.size + 1, 1, none⟩ = some (.int .i64 yt) := by rw [World.cell?_drew, ← hW0]; exact e2 1 _ rfl
  have HS : Hid (W0.drew.cell? ⟨w.heap.size, 0, none⟩ = some (.int .i64 xu) ∧ W0.drew.cell? ⟨w.heap.size, 1, none⟩ = some (.int .i64 xt) ∧ W0.drew.cell? ⟨w.heap.size + 1, 0, none⟩ = some (.int .i64 yu) ∧ W0.drew.cell? ⟨w.heap.size + 1, 1, none⟩ = some (.int .i64 yt)) := ⟨d0, d1, d2, d3⟩
  have HSA : Hid (∀ o, (W0.drew.alloc o).cell? ⟨w.heap.size, 0, none⟩ = some (.int .i64 xu) ∧ (W0.drew.alloc o).cell? ⟨w.heap.size, 1, none⟩ = some (.int .i64 xt) ∧ (W0.drew.alloc o).cell? ⟨w.heap.size + 1, 0, none⟩ = some (.int .i64 yu) ∧ (W0.drew.alloc o).cell? ⟨w.heap.size + 1, 1, none⟩ = some (.int .i64 yt)) := fun o => ⟨cell_thru (bl1 _ _) d0, cell_thru (bl1 _ _) d1, cell_thru (bl1 _ _) d2, cell_thru (bl1 _ _) d3⟩
  clear d0 d1 d2 d3 e2
  have HC1 := compare1_any yu xu W0.drew
  have HC2 := compare1_any xt yt W0.drew
  have HR : Hid (F.rkC ⟨xu, xt⟩ ⟨yu, yt⟩ = if F.cmp3 yu xu = 0 then F.cmp3 xt yt else F.cmp3 yu xu) := rfl
  generalize F.rkC ⟨xu, xt⟩ ⟨yu, yt⟩ = R at HR ⊢
  generalize F.cmp3 yu xu = c1 at HC1 HR
  generalize F.cmp3 xt yt = c2 at HC2 HR
  have HO : Hid (Calls Tryd.prog 76 #[.slice (some ⟨W0.heap.size, 0, none⟩) 2 2] (W0.drew.alloc (.cells #[.int .i64 c1, .int .i64 c2] 3)) fun e w' => e = .returned (.int .i64 R) ∧ w' = W0.drew.alloc (.cells #[.int .i64 c1, .int .i64 c2] 3)) := by
    show Calls _ _ _ _ _
    rw [HR.out]
    exact or2_any (ncell_at rfl) (ncell_at rfl)
  have HG2 : Hid (Gr w (W0.drew.alloc (.cells #[.int .i64 c1, .int .i64 c2] 3))) := HG0.out.drew.alloc _
  clear HR
  go_enter Tryd.func68, Tryd.ntmps68
  go_wp2_with fail
  clear hW0
  refine wp_region_held_drew (S := (fun w' : World => w'.cell? ⟨w.heap.size, 0, none⟩ = some (.int .i64 xu) ∧ w'.cell? ⟨w.heap.size, 1, none⟩ = some (.int .i64 xt) ∧ w'.cell? ⟨w.heap.size + 1, 0, none⟩ = some (.int .i64 yu) ∧ w'.cell? ⟨w.heap.size + 1, 1, none⟩ = some (.int .i64 yt))) (by kernel_rfl) HS.out (fun hHeld => ?_)
  refine tkr (i := 0) (v := ?_) (tA rfl) (by kernel_rfl) (fun _ _ _ h => h) (Or.inl ⟨by rfl, ?_⟩) (by assumption) ?_
  rotate_left
  · (intro w hSw; (try dsimp only at hSw); go_simp <;> with_reducible rfl)
  simp only [Act.put, List.setIfInBounds_toArray, List.set_cons_zero, List.set_cons_succ]
  refine tkr (i := 1) (v := ?_) (tA rfl) (by kernel_rfl) (fun _ _ _ h => h) (Or.inl ⟨by rfl, ?_⟩) (by assumption) ?_
  rotate_left
  · (intro w hSw; (try dsimp only at hSw); go_simp <;> with_reducible rfl)
  simp only [Act.put, List.setIfInBounds_toArray, List.set_cons_zero, List.set_cons_succ]
  refine tkr (i := 2) (v := ?_) (tA rfl) (by kernel_rfl) (fun _ _ _ h => h) (Or.inl ⟨by rfl, ?_⟩) (by assumption) ?_
  rotate_left
  · (intro w hSw; (try dsimp only at hSw); go_simp <;> with_reducible rfl)
  simp only [Act.put, List.setIfInBounds_toArray, List.set_cons_zero, List.set_cons_succ]
  refine tkr (i := 3) (v := ?_) (tA rfl) (by kernel_rfl) (fun _ _ _ h => h) (Or.inl ⟨by rfl, ?_⟩) (by assumption) ?_
  rotate_left
  · (intro w hSw; (try dsimp only at hSw); go_simp <;> with_reducible rfl)
  simp only [Act.put, List.setIfInBounds_toArray, List.set_cons_zero, List.set_cons_succ]
  refine tkr (i := 5) (v := ?_) (tA rfl) (by kernel_rfl) (fun _ _ _ h => h) (Or.inl ⟨by rfl, ?_⟩) (by assumption) ?_
  rotate_left
  · (intro w hSw; (try dsimp only at hSw); go_simp <;> with_reducible rfl)
  simp only [Act.put, List.setIfInBounds_toArray, List.set_cons_zero, List.set_cons_succ]
  refine tkr (i := 6) (v := ?_) (tA rfl) (by kernel_rfl) (fun _ _ _ h => h) (Or.inl ⟨by rfl, ?_⟩) (by assumption) ?_
  rotate_left
  · (intro w hSw; (try dsimp only at hSw); go_simp <;> with_reducible rfl)
  simp only [Act.put, List.setIfInBounds_toArray, List.set_cons_zero, List.set_cons_succ]
  refine tkr (i := 7) (v := ?_) (tA rfl) (by kernel_rfl) (fun _ _ _ h => h) (Or.inl ⟨by rfl, ?_⟩) (by assumption) ?_
  rotate_left
  · (intro w hSw; (try dsimp only at hSw); go_simp <;> with_reducible rfl)
  simp only [Act.put, List.setIfInBounds_toArray, List.set_cons_zero, List.set_cons_succ]
  refine tkr (i := 8) (v := ?_) (tA rfl) (by kernel_rfl) (fun _ _ _ h => h) (Or.inl ⟨by rfl, ?_⟩) (by assumption) ?_
  rotate_left
  · (intro w hSw; (try dsimp only at hSw); go_simp <;> with_reducible rfl)
  simp only [Act.put, List.setIfInBounds_toArray, List.set_cons_zero, List.set_cons_succ]
  refine wpAnyH_ready (rs := [4]) (by kernel_rfl) (by simp) ?_
  refine AllReadyH.cons (tA rfl) (fun K hK => ?_) AllReadyH.nil
  go_simp
  refine HC1.mono ?_
  rintro e y ⟨rfl, rfl⟩
  try go_wp2_with fail
  refine hK.out _ _ HS.out (fun hHeld => ?_)
  clear hK K
  try simp only [Act.put, List.setIfInBounds_toArray, List.set_cons_zero, List.set_cons_succ]
  refine wpAnyH_ready (rs := [9]) (by kernel_rfl) (by simp) ?_
  refine AllReadyH.cons (tA rfl) (fun K hK => ?_) AllReadyH.nil
  go_simp
  refine HC2.mono ?_
  rintro e y ⟨rfl, rfl⟩
  try go_wp2_with fail
  refine hK.out _ _ HS.out (fun hHeld => ?_)
  clear hK K
  try simp only [Act.put, List.setIfInBounds_toArray, List.set_cons_zero, List.set_cons_succ]
  refine wpAnyH_ready (rs := [10]) (by kernel_rfl) (by simp) ?_
  refine AllReadyH.cons (tA rfl) (fun K hK => ?_) AllReadyH.nil
  go_simp
  refine hK.out _ _ (HSA.out _) (fun hHeld => ?_)
  clear hK K
  try simp only [Act.put, List.setIfInBounds_toArray, List.set_cons_zero, List.set_cons_succ]
  refine wpAnyH_ready (rs := [11]) (by kernel_rfl) (by simp) ?_
  refine AllReadyH.cons (tA rfl) (fun K hK => ?_) AllReadyH.nil
  go_simp
  refine Calls.mono HO.out ?_
  rintro e y ⟨rfl, rfl⟩
  try go_wp2_with fail
  refine hK.out _ _ (HSA.out _) (fun hHeld => ?_)
  clear hK K
  try simp only [Act.put, List.setIfInBounds_toArray, List.set_cons_zero, List.set_cons_succ]
  refine tkr (i := 12) (v := ?_) (tA rfl) (by kernel_rfl) (fun _ _ _ h => h) (Or.inl ⟨by rfl, ?_⟩) (by assumption) ?_
  rotate_left
  · (intro w hSw; (try dsimp only at hSw); go_simp <;> with_reducible rfl)
  simp only [Act.put, List.setIfInBounds_toArray, List.set_cons_zero, List.set_cons_succ]
  refine wpAnyH_done (by kernel_rfl) ?_ _
  clear hHeld
  go_wp2_with fail
  go_ret
  exact ⟨rfl, HG2.out⟩
end Go.Proofs.YtljgpngbkmembaaDoor
