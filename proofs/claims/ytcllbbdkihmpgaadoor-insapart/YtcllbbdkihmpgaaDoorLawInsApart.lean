/- Proved: InsApart answers true for every two instructions (no condition; the two tables of package ins hold what the program text lays in them, which the card ties): unlike instructions have unlike forms, and none is the beginning of another one's. -/
import Derived.Test.YtcllbbdkihmpgaaDoorInsOpen
import Derived.Test.YtcllbbdkihmpgaaDoorInsLive
import Derived.Test.YtcllbbdkihmpgaaDoorInsEq
import Derived.Test.YtcllbbdkihmpgaaDoorInsBackMath
import Derived.Deep.RegionHeld3
import Derived.Deep.DrawnRows
namespace Go.Proofs.YtcllbbdkihmpgaaDoor.insApart
open Go.ChangeShapes Go.WideShapes Go.ChangeAt Go.RowKit
open Go.ChangeMaps (open_string shut_string)
set_option linter.unusedVariables false
attribute [local go_sem ↓] Go.wp_at_zero Go.wp_at_succ
attribute [local go_sem high] eqIns

theorem own : ownKnob Tryd.prog.godebug = none := by kernel_rfl
theorem laidO : laidOutB Tryd.prog = true := by kernel_rfl

set_option maxRecDepth 100000 in
set_option maxHeartbeats 16000000 in
theorem walk (op a b n : Int) (wo : (Lit.int .i64 op).wf = true) (wa : (Lit.int .i64 a).wf = true) (wb : (Lit.int .i64 b).wf = true) (wn : (Lit.int .i64 n).wf = true) (op' a' b' n' : Int) (wo' : (Lit.int .i64 op').wf = true) (wa' : (Lit.int .i64 a').wf = true) (wb' : (Lit.int .i64 b').wf = true) (wn' : (Lit.int .i64 n').wf = true) (w : World) (ht : Tab w) :
    Calls Tryd.prog 7 #[.agg #[.int .i64 op, .int .i64 a, .int .i64 b, .int .i64 n], .agg #[.int .i64 op', .int .i64 a', .int .i64 b', .int .i64 n']] w fun e w' => e = .returned (.bool true) ∧ Below w.heap.size w w' := by
  generalize hv : strOfNums (I.encV op a b n) = v
  generalize he : I.encE op a b n = ee
  have HV : Hid (strOfNums (I.encV op a b n) = v) := hv
  have HE : Hid (I.encE op a b n = ee) := he
  generalize hv' : strOfNums (I.encV op' a' b' n') = v'
  generalize he' : I.encE op' a' b' n' = ee'
  have HV' : Hid (strOfNums (I.encV op' a' b' n') = v') := hv'
  have HE' : Hid (I.encE op' a' b' n' = ee') := he'
  have hcut : ee = 0 → ee' = 0 → ¬ (op = op' ∧ a = a' ∧ b = b' ∧ n = n') → v.size ≤ v'.size → ¬ v'.extract 0 v.size = v := by
    intro e1 e2 hne hl hx
    rw [← he] at e1
    rw [← he'] at e2
    have hb : byts v = I.encV op a b n := by rw [← hv]; exact byts_str _ I.enc_bd
    have hb' : byts v' = I.encV op' a' b' n' := by rw [← hv']; exact byts_str _ I.enc_bd
    have h1 : byts v' = I.encV op a b n ++ (byts v').drop v.size := by
      have h2 := byts_extract v' 0 v.size
      rw [hx] at h2
      rw [← hb, h2]
      simp
    have d1 := I.dec_enc e1 v' _ h1
    have d2 := I.dec_enc e2 v' [] (by rw [hb']; simp)
    exact hne ⟨d1.2.1.symm.trans d2.2.1, d1.2.2.1.symm.trans d2.2.2.1, d1.2.2.2.1.symm.trans d2.2.2.2.1, d1.2.2.2.2.symm.trans d2.2.2.2.2⟩
  clear hv he hv' he'
  rcases (show (¬ ee = 0) ∨ (ee = 0 ∧ ¬ ee' = 0) ∨ (ee = 0 ∧ ee' = 0 ∧ (op = op' ∧ a = a' ∧ b = b' ∧ n = n')) ∨ (ee = 0 ∧ ee' = 0 ∧ (¬ op = op' ∨ op = op' ∧ ¬ a = a' ∨ op = op' ∧ a = a' ∧ ¬ b = b' ∨ op = op' ∧ a = a' ∧ b = b' ∧ ¬ n = n')) by omega) with h | ⟨h, h'⟩ | ⟨h, h', e1, e2, e3, e4⟩ | ⟨h, h', hne⟩
  · clear hcut
    go_enter Tryd.func7, Tryd.ntmps7
    go_wp2_with fail
    refine (encode_any op a b n _ ((ht.alloc _).alloc _)).mono ?_
    rintro e w1 ⟨rfl, hb1⟩
    rw [HV.out, HE.out]
    obtain ⟨hc1, hf1⟩ := bcell hb1
    have hz1 := hb1.size
    simp at hz1
    have ki : ∀ o, w1.cell? ⟨w.heap.size, o, none⟩ = (#[.int .i64 op, .int .i64 a, .int .i64 b, .int .i64 n] : Array Value)[o]? := fun o => by
      rw [hc1 _ _ (by simp; omega)]; simp (disch := (first | ((try simp only [World.size_alloc]) <;> omega) | fail)) only [World.cell?_alloc_at, World.cell?_alloc_past]
    have kj : ∀ o, w1.cell? ⟨w.heap.size + 1, o, none⟩ = (#[.int .i64 op', .int .i64 a', .int .i64 b', .int .i64 n'] : Array Value)[o]? := fun o => by
      rw [hc1 _ _ (by simp)]; simp (disch := (first | ((try simp only [World.size_alloc]) <;> omega) | fail)) only [World.cell?_alloc_at]
    have t1 := ((ht.alloc _).alloc _).below hb1
    have q1 : Below w.heap.size w w1 := (bl2 _ _ _).trans (hb1.mono (by simp; omega))
    clear hc1 hf1 hb1
    go_wp2_with fail
    refine (encode_any op' a' b' n' _ t1).mono ?_
    rintro e w2 ⟨rfl, hb2⟩
    rw [HV'.out, HE'.out]
    have hz2 := hb2.size
    have ki2 : ∀ o, w2.cell? ⟨w.heap.size, o, none⟩ = (#[.int .i64 op, .int .i64 a, .int .i64 b, .int .i64 n] : Array Value)[o]? := fun o => (hb2.cell (p := ⟨w.heap.size, o, none⟩) (by simp; omega)).trans (ki o)
    have kj2 : ∀ o, w2.cell? ⟨w.heap.size + 1, o, none⟩ = (#[.int .i64 op', .int .i64 a', .int .i64 b', .int .i64 n'] : Array Value)[o]? := fun o => (hb2.cell (p := ⟨w.heap.size + 1, o, none⟩) (by simp; omega)).trans (kj o)
    have t2 := t1.below hb2
    have q2 : Below w.heap.size w w2 := q1.trans (hb2.mono (by omega))
    have zi : w.heap.size < w2.heap.size := by omega
    have zj : w.heap.size + 1 < w2.heap.size := by omega
    clear hb2 ki kj t1 q1
    go_wp2_with (go_at_call 13; refine (live_any _ t2).mono ?_; rintro e w4 ⟨rfl, hb4⟩)
    go_ret
    exact ⟨rfl, q2.trans (hb4.mono (by omega))⟩
  · clear hcut
    go_enter Tryd.func7, Tryd.ntmps7
    go_wp2_with fail
    refine (encode_any op a b n _ ((ht.alloc _).alloc _)).mono ?_
    rintro e w1 ⟨rfl, hb1⟩
    rw [HV.out, HE.out]
    obtain ⟨hc1, hf1⟩ := bcell hb1
    have hz1 := hb1.size
    simp at hz1
    have ki : ∀ o, w1.cell? ⟨w.heap.size, o, none⟩ = (#[.int .i64 op, .int .i64 a, .int .i64 b, .int .i64 n] : Array Value)[o]? := fun o => by
      rw [hc1 _ _ (by simp; omega)]; simp (disch := (first | ((try simp only [World.size_alloc]) <;> omega) | fail)) only [World.cell?_alloc_at, World.cell?_alloc_past]
    have kj : ∀ o, w1.cell? ⟨w.heap.size + 1, o, none⟩ = (#[.int .i64 op', .int .i64 a', .int .i64 b', .int .i64 n'] : Array Value)[o]? := fun o => by
      rw [hc1 _ _ (by simp)]; simp (disch := (first | ((try simp only [World.size_alloc]) <;> omega) | fail)) only [World.cell?_alloc_at]
    have t1 := ((ht.alloc _).alloc _).below hb1
    have q1 : Below w.heap.size w w1 := (bl2 _ _ _).trans (hb1.mono (by simp; omega))
    clear hc1 hf1 hb1
    go_wp2_with fail
    refine (encode_any op' a' b' n' _ t1).mono ?_
    rintro e w2 ⟨rfl, hb2⟩
    rw [HV'.out, HE'.out]
    have hz2 := hb2.size
    have ki2 : ∀ o, w2.cell? ⟨w.heap.size, o, none⟩ = (#[.int .i64 op, .int .i64 a, .int .i64 b, .int .i64 n] : Array Value)[o]? := fun o => (hb2.cell (p := ⟨w.heap.size, o, none⟩) (by simp; omega)).trans (ki o)
    have kj2 : ∀ o, w2.cell? ⟨w.heap.size + 1, o, none⟩ = (#[.int .i64 op', .int .i64 a', .int .i64 b', .int .i64 n'] : Array Value)[o]? := fun o => (hb2.cell (p := ⟨w.heap.size + 1, o, none⟩) (by simp; omega)).trans (kj o)
    have t2 := t1.below hb2
    have q2 : Below w.heap.size w w2 := q1.trans (hb2.mono (by omega))
    have zi : w.heap.size < w2.heap.size := by omega
    have zj : w.heap.size + 1 < w2.heap.size := by omega
    clear hb2 ki kj t1 q1
    go_wp2_with (go_at_call 13; refine (live_any _ t2).mono ?_; rintro e w4 ⟨rfl, hb4⟩)
    go_ret
    exact ⟨rfl, q2.trans (hb4.mono (by omega))⟩
  · clear hcut
    subst e1 e2 e3 e4 h h'
    have hsm := I.same_self op a b n
    go_enter Tryd.func7, Tryd.ntmps7
    go_wp2_with fail
    refine (encode_any op a b n _ ((ht.alloc _).alloc _)).mono ?_
    rintro e w1 ⟨rfl, hb1⟩
    rw [HV.out, HE.out]
    obtain ⟨hc1, hf1⟩ := bcell hb1
    have hz1 := hb1.size
    simp at hz1
    have ki : ∀ o, w1.cell? ⟨w.heap.size, o, none⟩ = (#[.int .i64 op, .int .i64 a, .int .i64 b, .int .i64 n] : Array Value)[o]? := fun o => by
      rw [hc1 _ _ (by simp; omega)]; simp (disch := (first | ((try simp only [World.size_alloc]) <;> omega) | fail)) only [World.cell?_alloc_at, World.cell?_alloc_past]
    have kj : ∀ o, w1.cell? ⟨w.heap.size + 1, o, none⟩ = (#[.int .i64 op, .int .i64 a, .int .i64 b, .int .i64 n] : Array Value)[o]? := fun o => by
      rw [hc1 _ _ (by simp)]; simp (disch := (first | ((try simp only [World.size_alloc]) <;> omega) | fail)) only [World.cell?_alloc_at]
    have t1 := ((ht.alloc _).alloc _).below hb1
    have q1 : Below w.heap.size w w1 := (bl2 _ _ _).trans (hb1.mono (by simp; omega))
    clear hc1 hf1 hb1
    go_wp2_with fail
    refine (encode_any op a b n _ t1).mono ?_
    rintro e w2 ⟨rfl, hb2⟩
    rw [HV'.out, HE'.out]
    have hz2 := hb2.size
    have ki2 : ∀ o, w2.cell? ⟨w.heap.size, o, none⟩ = (#[.int .i64 op, .int .i64 a, .int .i64 b, .int .i64 n] : Array Value)[o]? := fun o => (hb2.cell (p := ⟨w.heap.size, o, none⟩) (by simp; omega)).trans (ki o)
    have kj2 : ∀ o, w2.cell? ⟨w.heap.size + 1, o, none⟩ = (#[.int .i64 op, .int .i64 a, .int .i64 b, .int .i64 n] : Array Value)[o]? := fun o => (hb2.cell (p := ⟨w.heap.size + 1, o, none⟩) (by simp; omega)).trans (kj o)
    have t2 := t1.below hb2
    have q2 : Below w.heap.size w w2 := q1.trans (hb2.mono (by omega))
    have zi : w.heap.size < w2.heap.size := by omega
    have zj : w.heap.size + 1 < w2.heap.size := by omega
    clear hb2 ki kj t1 q1
    go_wp2_with (go_at_call 13; refine (live_any _ t2).mono ?_; rintro e w4 ⟨rfl, hb4⟩)
    go_ret
    exact ⟨rfl, q2.trans (hb4.mono (by omega))⟩
  · have hcut1 := hcut h h' (by omega)
    have hsm : I.same op a b n op' a' b' n' = false := decide_eq_false (by omega)
    clear hcut hne
    subst h h'
    by_cases hl : v.size ≤ v'.size
    · have hx : ¬ (v'.extract 0 v.size).toList = v.toList := fun e => hcut1 hl (by rw [ByteArray.toList_eq, ByteArray.toList_eq] at e; exact ByteArray.ext (Array.toList_inj.1 e))
      clear hcut1
      go_enter Tryd.func7, Tryd.ntmps7
      go_wp2_with fail
      refine (encode_any op a b n _ ((ht.alloc _).alloc _)).mono ?_
      rintro e w1 ⟨rfl, hb1⟩
      rw [HV.out, HE.out]
      obtain ⟨hc1, hf1⟩ := bcell hb1
      have hz1 := hb1.size
      simp at hz1
      have ki : ∀ o, w1.cell? ⟨w.heap.size, o, none⟩ = (#[.int .i64 op, .int .i64 a, .int .i64 b, .int .i64 n] : Array Value)[o]? := fun o => by
        rw [hc1 _ _ (by simp; omega)]; simp (disch := (first | ((try simp only [World.size_alloc]) <;> omega) | fail)) only [World.cell?_alloc_at, World.cell?_alloc_past]
      have kj : ∀ o, w1.cell? ⟨w.heap.size + 1, o, none⟩ = (#[.int .i64 op', .int .i64 a', .int .i64 b', .int .i64 n'] : Array Value)[o]? := fun o => by
        rw [hc1 _ _ (by simp)]; simp (disch := (first | ((try simp only [World.size_alloc]) <;> omega) | fail)) only [World.cell?_alloc_at]
      have t1 := ((ht.alloc _).alloc _).below hb1
      have q1 : Below w.heap.size w w1 := (bl2 _ _ _).trans (hb1.mono (by simp; omega))
      clear hc1 hf1 hb1
      go_wp2_with fail
      refine (encode_any op' a' b' n' _ t1).mono ?_
      rintro e w2 ⟨rfl, hb2⟩
      rw [HV'.out, HE'.out]
      have hz2 := hb2.size
      have ki2 : ∀ o, w2.cell? ⟨w.heap.size, o, none⟩ = (#[.int .i64 op, .int .i64 a, .int .i64 b, .int .i64 n] : Array Value)[o]? := fun o => (hb2.cell (p := ⟨w.heap.size, o, none⟩) (by simp; omega)).trans (ki o)
      have kj2 : ∀ o, w2.cell? ⟨w.heap.size + 1, o, none⟩ = (#[.int .i64 op', .int .i64 a', .int .i64 b', .int .i64 n'] : Array Value)[o]? := fun o => (hb2.cell (p := ⟨w.heap.size + 1, o, none⟩) (by simp; omega)).trans (kj o)
      have t2 := t1.below hb2
      have q2 : Below w.heap.size w w2 := q1.trans (hb2.mono (by omega))
      have zi : w.heap.size < w2.heap.size := by omega
      have zj : w.heap.size + 1 < w2.heap.size := by omega
      clear hb2 ki kj t1 q1
      go_wp2_with (go_at_call 13; refine (live_any _ t2).mono ?_; rintro e w4 ⟨rfl, hb4⟩)
      go_ret
      exact ⟨congrArg (fun x => Ending.returned (.bool x)) (by simpa using hx), q2.trans (hb4.mono (by omega))⟩
    · clear hcut1
      go_enter Tryd.func7, Tryd.ntmps7
      go_wp2_with fail
      refine (encode_any op a b n _ ((ht.alloc _).alloc _)).mono ?_
      rintro e w1 ⟨rfl, hb1⟩
      rw [HV.out, HE.out]
      obtain ⟨hc1, hf1⟩ := bcell hb1
      have hz1 := hb1.size
      simp at hz1
      have ki : ∀ o, w1.cell? ⟨w.heap.size, o, none⟩ = (#[.int .i64 op, .int .i64 a, .int .i64 b, .int .i64 n] : Array Value)[o]? := fun o => by
        rw [hc1 _ _ (by simp; omega)]; simp (disch := (first | ((try simp only [World.size_alloc]) <;> omega) | fail)) only [World.cell?_alloc_at, World.cell?_alloc_past]
      have kj : ∀ o, w1.cell? ⟨w.heap.size + 1, o, none⟩ = (#[.int .i64 op', .int .i64 a', .int .i64 b', .int .i64 n'] : Array Value)[o]? := fun o => by
        rw [hc1 _ _ (by simp)]; simp (disch := (first | ((try simp only [World.size_alloc]) <;> omega) | fail)) only [World.cell?_alloc_at]
      have t1 := ((ht.alloc _).alloc _).below hb1
      have q1 : Below w.heap.size w w1 := (bl2 _ _ _).trans (hb1.mono (by simp; omega))
      clear hc1 hf1 hb1
      go_wp2_with fail
      refine (encode_any op' a' b' n' _ t1).mono ?_
      rintro e w2 ⟨rfl, hb2⟩
      rw [HV'.out, HE'.out]
      have hz2 := hb2.size
      have ki2 : ∀ o, w2.cell? ⟨w.heap.size, o, none⟩ = (#[.int .i64 op, .int .i64 a, .int .i64 b, .int .i64 n] : Array Value)[o]? := fun o => (hb2.cell (p := ⟨w.heap.size, o, none⟩) (by simp; omega)).trans (ki o)
      have kj2 : ∀ o, w2.cell? ⟨w.heap.size + 1, o, none⟩ = (#[.int .i64 op', .int .i64 a', .int .i64 b', .int .i64 n'] : Array Value)[o]? := fun o => (hb2.cell (p := ⟨w.heap.size + 1, o, none⟩) (by simp; omega)).trans (kj o)
      have t2 := t1.below hb2
      have q2 : Below w.heap.size w w2 := q1.trans (hb2.mono (by omega))
      have zi : w.heap.size < w2.heap.size := by omega
      have zj : w.heap.size + 1 < w2.heap.size := by omega
      clear hb2 ki kj t1 q1
      go_wp2_with (go_at_call 13; refine (live_any _ t2).mono ?_; rintro e w4 ⟨rfl, hb4⟩)
      go_ret
      exact ⟨rfl, q2.trans (hb4.mono (by omega))⟩

/-! ### The row -/
theorem contract (H : Type) (enc : TypeId × Value → H) (W : World) (base : Nat) (args : Array Value) (ds gs : List (DataW H)) (before : List MemPlace)
    (hval : ∀ (j : Nat) t v, Tryd.f7.params[j]? = some t → args[j]? = some v → Value.okWide Tryd.prog W .any base t v)
    (hW : DataW.Whole enc Tryd.prog Tryd.f7.params.toList Rows.insApartSpec.vars false W args.toList ds gs before) (hT : Tab W) :
    Calls Tryd.prog 7 args W fun e W' => ∃ v, e = .returned v ∧ Rows.insApartSpec.post enc Tryd.prog Tryd.f7 false true false false W args v W' := by
  have hW' := hW
  obtain ⟨p, q, hA0, hV, rfl, hfz, hnd⟩ := hW
  have hA : DataW.TrodAll enc Tryd.prog W 0 (fun _ => true) true Tryd.f7.params.toList args.toList ds p := hA0
  have hlt := hA.lt
  rw [Tryd.params7] at hA hval
  obtain ⟨v0, vs0, d0, ds0, p0, q0, hargs, rfl, rfl, h0, r0⟩ := trodAll_cons hA
  obtain ⟨v1, vs1, d1, ds1, p1, q1, rfl, rfl, rfl, h1, r1⟩ := trodAll_cons r0
  obtain ⟨rfl, rfl, rfl⟩ := trodAll_nil r1
  obtain rfl : args = #[v0, v1] := by cases args; simp_all
  obtain ⟨rfl, rfl⟩ := trodVars_none hV
  obtain ⟨op0, a0, b0, n0, rfl, wo0, wa0, wb0, wn0⟩ := open_ins (hval 0 23 v0 rfl rfl) h0
  obtain ⟨op1, a1, b1, n1, rfl, wo1, wa1, wb1, wn1⟩ := open_ins (hval 1 23 v1 rfl rfl) h1
  clear hA0
  simp only [List.append_nil] at hW'
  refine (walk op0 a0 b0 n0 wo0 wa0 wb0 wn0 op1 a1 b1 n1 wo1 wa1 wb1 wn1 W hT).mono fun e W' ⟨he, hg⟩ => ?_
  subst he
  exact ⟨_, rfl, _, _, _, [], _, [], hW', (trodAll_cons_mk (shut_bool Tryd.underlying4 _) trodAll_mk0), (trodAll_cons_mk (Below.trod laidO (by kernel_rfl) (of_decide_eq_true (by kernel_rfl)) h0 hg (fun x hx => hlt x (by simp [hx]))) (trodAll_cons_mk (Below.trod laidO (by kernel_rfl) (of_decide_eq_true (by kernel_rfl)) h1 hg (fun x hx => hlt x (by simp [hx]))) trodAll_mk0)), rfl, hg.frame _, fun h => by cases h⟩

theorem laid_met (os : Os) : laidMet Tryd.prog Rows.insApartRow.laid ((laidWorld os).forCall (fun _ _ => 0) ⟨#[], #[.agg #[.int .i64 0, .int .i64 0, .int .i64 0, .int .i64 0], .agg #[.int .i64 0, .int .i64 0, .int .i64 0, .int .i64 0]], []⟩).memory :=
  laidMet_of_run' 8 (by kernel_rfl) (by kernel_rfl)
theorem reads (os : Os) {H : Type} (enc : TypeId × Value → H) : ∃ places, DataW.whole enc Tryd.prog ((laidWorld os).forCall (fun _ _ => 0) ⟨#[], #[.agg #[.int .i64 0, .int .i64 0, .int .i64 0, .int .i64 0], .agg #[.int .i64 0, .int .i64 0, .int .i64 0, .int .i64 0]], []⟩).memory Tryd.f7.params.toList Rows.insApartSpec.vars false (#[.agg #[.int .i64 0, .int .i64 0, .int .i64 0, .int .i64 0], .agg #[.int .i64 0, .int .i64 0, .int .i64 0, .int .i64 0]] : Array Value).toList 8 = some ([.agg [.lit (.int .i64 0), .lit (.int .i64 0), .lit (.int .i64 0), .lit (.int .i64 0)], .agg [.lit (.int .i64 0), .lit (.int .i64 0), .lit (.int .i64 0), .lit (.int .i64 0)]], [], places) :=
  ⟨[], by kernel_rfl⟩

set_option maxRecDepth 100000 in
theorem lifted (os : Os) (started : os.Started) (H : Type) (enc : TypeId × Value → H) (F : Stop.Interp) :
    ReturnsInHanded {} Tryd.checked os 7 .any ((OpenSpec.ofChange Rows.insApartSpec).preRow enc Tryd.prog Tryd.f7 Rows.insApartRow.domain false Rows.insApartRow.laid) (((OpenSpec.ofChange Rows.insApartSpec).at F).post enc Tryd.prog Tryd.f7 false true false false) := by
  obtain ⟨places, hx⟩ := reads os enc
  refine returnsInHanded_of_row (C := Tryd.checked) (s := OpenSpec.ofChange Rows.insApartSpec) own started (by kernel_rfl) Tryd.func7
    (witness_row_at (enc := enc) (C := Tryd.checked) false (laidWorld os) #[.agg #[.int .i64 0, .int .i64 0, .int .i64 0, .int .i64 0], .agg #[.int .i64 0, .int .i64 0, .int .i64 0, .int .i64 0]] rfl (by kernel_rfl) (by kernel_rfl) (by kernel_rfl)
      (OpenSpec.preRow_of_cond 8 hx (by kernel_rfl) (fun k hk => by cases hk) (by kernel_rfl) (laid_met os))) ?_
  intro W base args ds gs before hval hW _ hcond _ hL _ _
  exact contract H enc W base args ds gs before hval hW (tab_of_laid hL)

theorem said : Rows.InsApartSaid :=
  OpenClaim.holds_of_cond 7 Tryd.f7 rfl rfl rfl rfl rfl rfl rfl ⟨rfl, rfl, rfl, rfl, rfl⟩ rfl rfl rfl rfl rfl (by kernel_rfl) Tryd.func7 (by kernel_rfl)
    (of_decide_eq_true (by kernel_rfl)) (by unfold Func.isWrapper; first | (rw [if_pos (by decide +kernel)]; kernel_rfl) | (rw [if_neg (by decide +kernel)]; exact ⟨rfl, rfl⟩))
    (fun os started H enc _ F => by rw [OpenClaim.pre_eq_preRow]; exact lifted os started H enc F)

/-- No parameter wants a stand-in; the program's own looks are off: what the card asks. -/
theorem plain (f : FuncId) (fn : Func) (hf : Tryd.pinned.checked.prog.funcNamed "cotter/cotterlaw03.InsApart" = some f) (hfn : Tryd.pinned.checked.prog.funcs[f]? = some fn) :
    false = Tryd.pinned.checked.prog.looks [] ∧ ∀ (j : Nat) t, fn.params[j]? = some t → Tryd.pinned.checked.prog.wantsStandIn t = false := by
  obtain rfl : f = 7 := Option.some.inj ((show Tryd.prog.funcNamed "cotter/cotterlaw03.InsApart" = some 7 by kernel_rfl).symm.trans hf) |>.symm
  obtain rfl : fn = Tryd.f7 := (Option.some.inj (Tryd.func7.symm.trans hfn)).symm
  refine ⟨by kernel_rfl, fun j t ht => ?_⟩
  rw [Tryd.params7] at ht
  have hm : t ∈ [23, 23] := by simpa using Array.mem_of_getElem? ht
  have hall : ([23, 23].all fun u => !Tryd.prog.wantsStandIn u) = true := by kernel_rfl
  exact (show Tryd.prog.wantsStandIn t = false by simpa using List.all_eq_true.1 hall t hm)

theorem card : Rows.InsApartCardSaid :=
  Claim7.holds_tied_plain_at .later [] _ _ _ _ said (fun _ h => by cases h) (by kernel_rfl) (fun _ h => by cases h) insApart_row_tie rfl ⟨rfl, rfl⟩ (by kernel_rfl) rfl plain (by kernel_rfl)
end Go.Proofs.YtcllbbdkihmpgaaDoor.insApart
namespace Go.Proofs.YtcllbbdkihmpgaaDoor
/-- The statement. -/
theorem insApart_holds : Rows.InsApartCardSaid := insApart.card
#print axioms insApart_holds
end Go.Proofs.YtcllbbdkihmpgaaDoor
