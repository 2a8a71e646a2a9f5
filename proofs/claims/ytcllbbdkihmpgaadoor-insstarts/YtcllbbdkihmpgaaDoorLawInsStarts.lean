/- Proved: InsStarts answers true for every two instructions (no condition; the two tables of package ins hold what the program text lays in them, which the card ties): code put together of two instructions is both, and an instruction takes the size of its kind. -/
import Derived.Test.YtcllbbdkihmpgaaDoorInsOpen
import Derived.Test.YtcllbbdkihmpgaaDoorInsLive
import Derived.Test.YtcllbbdkihmpgaaDoorInsEq
import Derived.Test.YtcllbbdkihmpgaaDoorInsAllMath
import Derived.Deep.RegionHeld3
import Derived.Deep.DrawnRows
namespace Go.Proofs.YtcllbbdkihmpgaaDoor.insStarts
open Go.ChangeShapes Go.WideShapes Go.ChangeAt Go.RowKit
open Go.ChangeMaps (open_string shut_string)
set_option linter.unusedVariables false
attribute [local go_sem ↓] Go.wp_at_zero Go.wp_at_succ
attribute [local go_sem high] eqIns

theorem own : ownKnob Tryd.prog.godebug = none := by kernel_rfl
theorem laidO : laidOutB Tryd.prog = true := by kernel_rfl

set_option maxRecDepth 100000 in
set_option maxHeartbeats 16000000 in
theorem walk (op a b n : Int) (wo : (Lit.int .i64 op).wf = true) (wa : (Lit.int .i64 a).wf = true) (wb : (Lit.int .i64 b).wf = true) (wn : (Lit.int .i64 n).wf = true) (op' a' b' n' : Int) (wo' : (Lit.int .i64 op').wf = true) (wa' : (Lit.int .i64 a').wf = true) (wb' : (Lit.int .i64 b').wf = true) (wn' : (Lit.int .i64 n').wf = true) (w : World) (ht : Tab w) :
    Calls Tryd.prog 8 #[.agg #[.int .i64 op, .int .i64 a, .int .i64 b, .int .i64 n], .agg #[.int .i64 op', .int .i64 a', .int .i64 b', .int .i64 n']] w fun e w' => e = .returned (.bool true) ∧ Below w.heap.size w w' := by
  generalize hv : strOfNums (I.encV op a b n) = v
  generalize he : I.encE op a b n = ee
  have HV : Hid (strOfNums (I.encV op a b n) = v) := hv
  have HE : Hid (I.encE op a b n = ee) := he
  generalize hv' : strOfNums (I.encV op' a' b' n') = v'
  generalize he' : I.encE op' a' b' n' = ee'
  have HV' : Hid (strOfNums (I.encV op' a' b' n') = v') := hv'
  have HE' : Hid (I.encE op' a' b' n' = ee') := he'
  have hall : ee = 0 → ee' = 0 → I.allI (v ++ v') = some [⟨op, a, b, n⟩, ⟨op', a', b', n'⟩] := by
    intro e1 e2
    rw [← he] at e1
    rw [← he'] at e2
    have hb : byts v = I.encV op a b n := by rw [← hv]; exact byts_str _ I.enc_bd
    have hb' : byts v' = I.encV op' a' b' n' := by rw [← hv']; exact byts_str _ I.enc_bd
    rw [I.allI_enc e1 (v ++ v') v' (by rw [byts_append, hb]), I.allI_enc e2 v' (strOfNums []) (by rw [hb', byts_str [] (by simp)]; simp), I.allI_nil]
    rfl
  have hsz : v.size ≤ 10 := by rw [← hv]; exact enc_size
  have hsz' : v'.size ≤ 10 := by rw [← hv']; exact enc_size
  have hlen : ee = 0 → (v.size : Int) = I.size op := by
    intro e1
    rw [← he] at e1
    have h1 := I.enc_len e1
    have h2 := I.enc_parts e1
    rw [← I.psize_size op h2.1, ← h1, ← hv, strOfNums_size]
  clear hv he hv' he'
  rcases (show (¬ ee = 0) ∨ (ee = 0 ∧ ¬ ee' = 0) ∨ (ee = 0 ∧ ee' = 0) by omega) with h | ⟨h, h'⟩ | ⟨h, h'⟩
  · clear hall hlen
    go_enter Tryd.func8, Tryd.ntmps8
    go_wp2_with fail
    refine (encode_any op a b n _ ((ht.alloc _).alloc _)).mono ?_
    rintro e w1 ⟨rfl, hb1⟩
    rw [HV.out, HE.out]
    obtain ⟨hc1, hf1⟩ := bcell hb1
    have hz1 := hb1.size
    simp at hz1
    have ki : ∀ o, w1.cell? ⟨w.heap.size, o, none⟩ = (#[.int .i64 op, .int .i64 a, .int .i64 b, .int .i64 n] : Array Value)[o]? := fun o => by
      rw [hc1 _ _ (by simp; omega)]; simp (disch := (first | ((try simp only [World.size_alloc]) <;> omega) | fail)) only [World.cell?_alloc_at, World.cell?_alloc_past]
    have kj : ∀ o, w1.cell? ⟨w.heap.size + 1, o, none⟩ = (#[.int .i64 op', .int .i64 a', .int .i64 b', .int .i64 n'] : Array Value)[o]? := fun o => by
      rw [hc1 _ _ (by simp)]; simp (disch := (first | ((try simp only [World.size_alloc]) <;> omega) | fail)) only [World.cell?_alloc_at]
    have t1 := ((ht.alloc _).alloc _).below hb1
    have q1 : Below w.heap.size w w1 := (bl2 _ _ _).trans (hb1.mono (by simp; omega))
    clear hc1 hf1 hb1
    go_wp2_with fail
    refine (encode_any op' a' b' n' _ t1).mono ?_
    rintro e w2 ⟨rfl, hb2⟩
    rw [HV'.out, HE'.out]
    have hz2 := hb2.size
    have ki2 : ∀ o, w2.cell? ⟨w.heap.size, o, none⟩ = (#[.int .i64 op, .int .i64 a, .int .i64 b, .int .i64 n] : Array Value)[o]? := fun o => (hb2.cell (p := ⟨w.heap.size, o, none⟩) (by simp; omega)).trans (ki o)
    have kj2 : ∀ o, w2.cell? ⟨w.heap.size + 1, o, none⟩ = (#[.int .i64 op', .int .i64 a', .int .i64 b', .int .i64 n'] : Array Value)[o]? := fun o => (hb2.cell (p := ⟨w.heap.size + 1, o, none⟩) (by simp; omega)).trans (kj o)
    have t2 := t1.below hb2
    have q2 : Below w.heap.size w w2 := q1.trans (hb2.mono (by omega))
    have zi : w.heap.size < w2.heap.size := by omega
    have zj : w.heap.size + 1 < w2.heap.size := by omega
    clear hb2 ki kj t1 q1
    go_wp2_with (go_at_call 13; refine (live_any _ t2).mono ?_; rintro e w4 ⟨rfl, hb4⟩)
    go_ret
    exact ⟨rfl, q2.trans (hb4.mono (by omega))⟩
  · clear hall hlen
    go_enter Tryd.func8, Tryd.ntmps8
    go_wp2_with fail
    refine (encode_any op a b n _ ((ht.alloc _).alloc _)).mono ?_
    rintro e w1 ⟨rfl, hb1⟩
    rw [HV.out, HE.out]
    obtain ⟨hc1, hf1⟩ := bcell hb1
    have hz1 := hb1.size
    simp at hz1
    have ki : ∀ o, w1.cell? ⟨w.heap.size, o, none⟩ = (#[.int .i64 op, .int .i64 a, .int .i64 b, .int .i64 n] : Array Value)[o]? := fun o => by
      rw [hc1 _ _ (by simp; omega)]; simp (disch := (first | ((try simp only [World.size_alloc]) <;> omega) | fail)) only [World.cell?_alloc_at, World.cell?_alloc_past]
    have kj : ∀ o, w1.cell? ⟨w.heap.size + 1, o, none⟩ = (#[.int .i64 op', .int .i64 a', .int .i64 b', .int .i64 n'] : Array Value)[o]? := fun o => by
      rw [hc1 _ _ (by simp)]; simp (disch := (first | ((try simp only [World.size_alloc]) <;> omega) | fail)) only [World.cell?_alloc_at]
    have t1 := ((ht.alloc _).alloc _).below hb1
    have q1 : Below w.heap.size w w1 := (bl2 _ _ _).trans (hb1.mono (by simp; omega))
    clear hc1 hf1 hb1
    go_wp2_with fail
    refine (encode_any op' a' b' n' _ t1).mono ?_
    rintro e w2 ⟨rfl, hb2⟩
    rw [HV'.out, HE'.out]
    have hz2 := hb2.size
    have ki2 : ∀ o, w2.cell? ⟨w.heap.size, o, none⟩ = (#[.int .i64 op, .int .i64 a, .int .i64 b, .int .i64 n] : Array Value)[o]? := fun o => (hb2.cell (p := ⟨w.heap.size, o, none⟩) (by simp; omega)).trans (ki o)
    have kj2 : ∀ o, w2.cell? ⟨w.heap.size + 1, o, none⟩ = (#[.int .i64 op', .int .i64 a', .int .i64 b', .int .i64 n'] : Array Value)[o]? := fun o => (hb2.cell (p := ⟨w.heap.size + 1, o, none⟩) (by simp; omega)).trans (kj o)
    have t2 := t1.below hb2
    have q2 : Below w.heap.size w w2 := q1.trans (hb2.mono (by omega))
    have zi : w.heap.size < w2.heap.size := by omega
    have zj : w.heap.size + 1 < w2.heap.size := by omega
    clear hb2 ki kj t1 q1
    go_wp2_with (go_at_call 13; refine (live_any _ t2).mono ?_; rintro e w4 ⟨rfl, hb4⟩)
    go_ret
    exact ⟨rfl, q2.trans (hb4.mono (by omega))⟩
  · have hall1 := hall h h'
    have hlen1 := hlen h
    clear hall hlen
    subst h h'
    have hadd : v.size + v'.size ≤ 9223372036854775807 := by omega
    have hm : (v ++ v').size ≤ 4398046511104 := by simp; omega
    have HALL : Hid (I.allI (v ++ v') = some [⟨op, a, b, n⟩, ⟨op', a', b', n'⟩]) := hall1
    have HM : Hid ((v ++ v').size ≤ 4398046511104) := hm
    have HL : Hid ((v.size : Int) = I.size op) := hlen1
    clear hall1 hm hlen1
    go_enter Tryd.func8, Tryd.ntmps8
    go_wp2_with fail
    refine (encode_any op a b n _ ((ht.alloc _).alloc _)).mono ?_
    rintro e w1 ⟨rfl, hb1⟩
    rw [HV.out, HE.out]
    obtain ⟨hc1, hf1⟩ := bcell hb1
    have hz1 := hb1.size
    simp at hz1
    have ki : ∀ o, w1.cell? ⟨w.heap.size, o, none⟩ = (#[.int .i64 op, .int .i64 a, .int .i64 b, .int .i64 n] : Array Value)[o]? := fun o => by
      rw [hc1 _ _ (by simp; omega)]; simp (disch := (first | ((try simp only [World.size_alloc]) <;> omega) | fail)) only [World.cell?_alloc_at, World.cell?_alloc_past]
    have kj : ∀ o, w1.cell? ⟨w.heap.size + 1, o, none⟩ = (#[.int .i64 op', .int .i64 a', .int .i64 b', .int .i64 n'] : Array Value)[o]? := fun o => by
      rw [hc1 _ _ (by simp)]; simp (disch := (first | ((try simp only [World.size_alloc]) <;> omega) | fail)) only [World.cell?_alloc_at]
    have t1 := ((ht.alloc _).alloc _).below hb1
    have q1 : Below w.heap.size w w1 := (bl2 _ _ _).trans (hb1.mono (by simp; omega))
    clear hc1 hf1 hb1
    go_wp2_with fail
    refine (encode_any op' a' b' n' _ t1).mono ?_
    rintro e w2 ⟨rfl, hb2⟩
    rw [HV'.out, HE'.out]
    have hz2 := hb2.size
    have ki2 : ∀ o, w2.cell? ⟨w.heap.size, o, none⟩ = (#[.int .i64 op, .int .i64 a, .int .i64 b, .int .i64 n] : Array Value)[o]? := fun o => (hb2.cell (p := ⟨w.heap.size, o, none⟩) (by simp; omega)).trans (ki o)
    have kj2 : ∀ o, w2.cell? ⟨w.heap.size + 1, o, none⟩ = (#[.int .i64 op', .int .i64 a', .int .i64 b', .int .i64 n'] : Array Value)[o]? := fun o => (hb2.cell (p := ⟨w.heap.size + 1, o, none⟩) (by simp; omega)).trans (kj o)
    have t2 := t1.below hb2
    have q2 : Below w.heap.size w w2 := q1.trans (hb2.mono (by omega))
    have zi : w.heap.size < w2.heap.size := by omega
    have zj : w.heap.size + 1 < w2.heap.size := by omega
    clear hb2 ki kj t1 q1
    have s1 := I.same_self op a b n
    have s2 := I.same_self op' a' b' n'
    go_wp2_with fail
    refine (all_any (v ++ v') HM.out _ t2).mono ?_
    rintro e w3 ⟨hpost, hb3⟩
    unfold I.allPost at hpost
    rw [HALL.out] at hpost
    obtain ⟨lv, rfl, hown⟩ := hpost
    obtain ⟨g, cap, rfl, hg1, hg2⟩ := World.ownsRow.form hown (by simp)
    have kg : ∀ j, j < 8 → w3.cell? ⟨g, j, none⟩ = (I.rows [⟨op, a, b, n⟩, ⟨op', a', b', n'⟩])[j]? := fun j hj => World.ownsRow.cellAt hown j hj
    have g0 : w3.cell? ⟨g, 0, none⟩ = some (.int .i64 op) := kg 0 (by decide)
    have g1 : w3.cell? ⟨g, 1, none⟩ = some (.int .i64 a) := kg 1 (by decide)
    have g2 : w3.cell? ⟨g, 2, none⟩ = some (.int .i64 b) := kg 2 (by decide)
    have g3 : w3.cell? ⟨g, 3, none⟩ = some (.int .i64 n) := kg 3 (by decide)
    have g4 : w3.cell? ⟨g, 4, none⟩ = some (.int .i64 op') := kg 4 (by decide)
    have g5 : w3.cell? ⟨g, 5, none⟩ = some (.int .i64 a') := kg 5 (by decide)
    have g6 : w3.cell? ⟨g, 6, none⟩ = some (.int .i64 b') := kg 6 (by decide)
    have g7 : w3.cell? ⟨g, 7, none⟩ = some (.int .i64 n') := kg 7 (by decide)
    have ki3 : ∀ o, w3.cell? ⟨w.heap.size, o, none⟩ = (#[.int .i64 op, .int .i64 a, .int .i64 b, .int .i64 n] : Array Value)[o]? := fun o => (hb3.cell (p := ⟨w.heap.size, o, none⟩) (by simp; omega)).trans (ki2 o)
    have kj3 : ∀ o, w3.cell? ⟨w.heap.size + 1, o, none⟩ = (#[.int .i64 op', .int .i64 a', .int .i64 b', .int .i64 n'] : Array Value)[o]? := fun o => (hb3.cell (p := ⟨w.heap.size + 1, o, none⟩) (by simp; omega)).trans (kj2 o)
    have hz3 := hb3.size
    have t3 := t2.below hb3
    have q3 : Below w.heap.size w w3 := q2.trans (hb3.mono (by omega))
    have zg : g < w3.heap.size := hg2
    clear hown kg hg1 hg2 ki2 kj2 hb3 t2 q2
    have st : ∀ {x y : World}, (Tab x ∧ x.cell? ⟨g, 0, none⟩ = some (.int .i64 op) ∧ x.cell? ⟨g, 1, none⟩ = some (.int .i64 a) ∧ x.cell? ⟨g, 2, none⟩ = some (.int .i64 b) ∧ x.cell? ⟨g, 3, none⟩ = some (.int .i64 n) ∧ x.cell? ⟨g, 4, none⟩ = some (.int .i64 op') ∧ x.cell? ⟨g, 5, none⟩ = some (.int .i64 a') ∧ x.cell? ⟨g, 6, none⟩ = some (.int .i64 b') ∧ x.cell? ⟨g, 7, none⟩ = some (.int .i64 n') ∧ (∀ o, x.cell? ⟨w.heap.size, o, none⟩ = (#[.int .i64 op, .int .i64 a, .int .i64 b, .int .i64 n] : Array Value)[o]?) ∧ (∀ o, x.cell? ⟨w.heap.size + 1, o, none⟩ = (#[.int .i64 op', .int .i64 a', .int .i64 b', .int .i64 n'] : Array Value)[o]?)) → Below x.heap.size x y → (Tab y ∧ y.cell? ⟨g, 0, none⟩ = some (.int .i64 op) ∧ y.cell? ⟨g, 1, none⟩ = some (.int .i64 a) ∧ y.cell? ⟨g, 2, none⟩ = some (.int .i64 b) ∧ y.cell? ⟨g, 3, none⟩ = some (.int .i64 n) ∧ y.cell? ⟨g, 4, none⟩ = some (.int .i64 op') ∧ y.cell? ⟨g, 5, none⟩ = some (.int .i64 a') ∧ y.cell? ⟨g, 6, none⟩ = some (.int .i64 b') ∧ y.cell? ⟨g, 7, none⟩ = some (.int .i64 n') ∧ (∀ o, y.cell? ⟨w.heap.size, o, none⟩ = (#[.int .i64 op, .int .i64 a, .int .i64 b, .int .i64 n] : Array Value)[o]?) ∧ (∀ o, y.cell? ⟨w.heap.size + 1, o, none⟩ = (#[.int .i64 op', .int .i64 a', .int .i64 b', .int .i64 n'] : Array Value)[o]?)) := by
      rintro x y ⟨h1, c0, c1, c2, c3, c4, c5, c6, c7, h3, h4⟩ hb
      exact ⟨h1.below hb, cell_thru hb c0, cell_thru hb c1, cell_thru hb c2, cell_thru hb c3, cell_thru hb c4, cell_thru hb c5, cell_thru hb c6, cell_thru hb c7, arr_thru hb h3, arr_thru hb h4⟩
    have sd : ∀ {x : World}, (Tab x ∧ x.cell? ⟨g, 0, none⟩ = some (.int .i64 op) ∧ x.cell? ⟨g, 1, none⟩ = some (.int .i64 a) ∧ x.cell? ⟨g, 2, none⟩ = some (.int .i64 b) ∧ x.cell? ⟨g, 3, none⟩ = some (.int .i64 n) ∧ x.cell? ⟨g, 4, none⟩ = some (.int .i64 op') ∧ x.cell? ⟨g, 5, none⟩ = some (.int .i64 a') ∧ x.cell? ⟨g, 6, none⟩ = some (.int .i64 b') ∧ x.cell? ⟨g, 7, none⟩ = some (.int .i64 n') ∧ (∀ o, x.cell? ⟨w.heap.size, o, none⟩ = (#[.int .i64 op, .int .i64 a, .int .i64 b, .int .i64 n] : Array Value)[o]?) ∧ (∀ o, x.cell? ⟨w.heap.size + 1, o, none⟩ = (#[.int .i64 op', .int .i64 a', .int .i64 b', .int .i64 n'] : Array Value)[o]?)) → (Tab x.drew ∧ x.drew.cell? ⟨g, 0, none⟩ = some (.int .i64 op) ∧ x.drew.cell? ⟨g, 1, none⟩ = some (.int .i64 a) ∧ x.drew.cell? ⟨g, 2, none⟩ = some (.int .i64 b) ∧ x.drew.cell? ⟨g, 3, none⟩ = some (.int .i64 n) ∧ x.drew.cell? ⟨g, 4, none⟩ = some (.int .i64 op') ∧ x.drew.cell? ⟨g, 5, none⟩ = some (.int .i64 a') ∧ x.drew.cell? ⟨g, 6, none⟩ = some (.int .i64 b') ∧ x.drew.cell? ⟨g, 7, none⟩ = some (.int .i64 n') ∧ (∀ o, x.drew.cell? ⟨w.heap.size, o, none⟩ = (#[.int .i64 op, .int .i64 a, .int .i64 b, .int .i64 n] : Array Value)[o]?) ∧ (∀ o, x.drew.cell? ⟨w.heap.size + 1, o, none⟩ = (#[.int .i64 op', .int .i64 a', .int .i64 b', .int .i64 n'] : Array Value)[o]?)) := fun h => h
    have h3 : (Tab w3 ∧ w3.cell? ⟨g, 0, none⟩ = some (.int .i64 op) ∧ w3.cell? ⟨g, 1, none⟩ = some (.int .i64 a) ∧ w3.cell? ⟨g, 2, none⟩ = some (.int .i64 b) ∧ w3.cell? ⟨g, 3, none⟩ = some (.int .i64 n) ∧ w3.cell? ⟨g, 4, none⟩ = some (.int .i64 op') ∧ w3.cell? ⟨g, 5, none⟩ = some (.int .i64 a') ∧ w3.cell? ⟨g, 6, none⟩ = some (.int .i64 b') ∧ w3.cell? ⟨g, 7, none⟩ = some (.int .i64 n') ∧ (∀ o, w3.cell? ⟨w.heap.size, o, none⟩ = (#[.int .i64 op, .int .i64 a, .int .i64 b, .int .i64 n] : Array Value)[o]?) ∧ (∀ o, w3.cell? ⟨w.heap.size + 1, o, none⟩ = (#[.int .i64 op', .int .i64 a', .int .i64 b', .int .i64 n'] : Array Value)[o]?)) := ⟨t3, g0, g1, g2, g3, g4, g5, g6, g7, ki3, kj3⟩
    have H3 : Hid (Tab w3 ∧ w3.cell? ⟨g, 0, none⟩ = some (.int .i64 op) ∧ w3.cell? ⟨g, 1, none⟩ = some (.int .i64 a) ∧ w3.cell? ⟨g, 2, none⟩ = some (.int .i64 b) ∧ w3.cell? ⟨g, 3, none⟩ = some (.int .i64 n) ∧ w3.cell? ⟨g, 4, none⟩ = some (.int .i64 op') ∧ w3.cell? ⟨g, 5, none⟩ = some (.int .i64 a') ∧ w3.cell? ⟨g, 6, none⟩ = some (.int .i64 b') ∧ w3.cell? ⟨g, 7, none⟩ = some (.int .i64 n') ∧ (∀ o, w3.cell? ⟨w.heap.size, o, none⟩ = (#[.int .i64 op, .int .i64 a, .int .i64 b, .int .i64 n] : Array Value)[o]?) ∧ (∀ o, w3.cell? ⟨w.heap.size + 1, o, none⟩ = (#[.int .i64 op', .int .i64 a', .int .i64 b', .int .i64 n'] : Array Value)[o]?)) := h3
    clear h3 g0 g1 g2 g3 g4 g5 g6 g7 ki3 kj3
    go_wp2_with fail
    go_region_held3 (fun w' => (Tab w' ∧ w'.cell? ⟨g, 0, none⟩ = some (.int .i64 op) ∧ w'.cell? ⟨g, 1, none⟩ = some (.int .i64 a) ∧ w'.cell? ⟨g, 2, none⟩ = some (.int .i64 b) ∧ w'.cell? ⟨g, 3, none⟩ = some (.int .i64 n) ∧ w'.cell? ⟨g, 4, none⟩ = some (.int .i64 op') ∧ w'.cell? ⟨g, 5, none⟩ = some (.int .i64 a') ∧ w'.cell? ⟨g, 6, none⟩ = some (.int .i64 b') ∧ w'.cell? ⟨g, 7, none⟩ = some (.int .i64 n') ∧ (∀ o, w'.cell? ⟨w.heap.size, o, none⟩ = (#[.int .i64 op, .int .i64 a, .int .i64 b, .int .i64 n] : Array Value)[o]?) ∧ (∀ o, w'.cell? ⟨w.heap.size + 1, o, none⟩ = (#[.int .i64 op', .int .i64 a', .int .i64 b', .int .i64 n'] : Array Value)[o]?))) (first | (exact sd H3.out) | (exact H4) | (exact H5)) (first | (go_at_call 11; refine (size_any _ _ t3.drew).mono ?_; rintro e w4 ⟨rfl, hb4⟩; rw [← HL.out]; have H4 := st (sd H3.out) hb4; have t4 := t3.drew.below hb4) | (go_at_call 13; refine (live_any _ t4).mono ?_; rintro e w5 ⟨rfl, hb5⟩; have H5 := st H4 hb5))
    all_goals
      go_wp2
      go_ret
      exact ⟨rfl, (q3.drew.trans (hb4.mono q3.size)).trans (hb5.mono (Nat.le_trans q3.size hb4.size))⟩

/-! ### The row -/
theorem contract (H : Type) (enc : TypeId × Value → H) (W : World) (base : Nat) (args : Array Value) (ds gs : List (DataW H)) (before : List MemPlace)
    (hval : ∀ (j : Nat) t v, Tryd.f8.params[j]? = some t → args[j]? = some v → Value.okWide Tryd.prog W .any base t v)
    (hW : DataW.Whole enc Tryd.prog Tryd.f8.params.toList Rows.insStartsSpec.vars false W args.toList ds gs before) (hT : Tab W) :
    Calls Tryd.prog 8 args W fun e W' => ∃ v, e = .returned v ∧ Rows.insStartsSpec.post enc Tryd.prog Tryd.f8 false true false false W args v W' := by
  have hW' := hW
  obtain ⟨p, q, hA0, hV, rfl, hfz, hnd⟩ := hW
  have hA : DataW.TrodAll enc Tryd.prog W 0 (fun _ => true) true Tryd.f8.params.toList args.toList ds p := hA0
  have hlt := hA.lt
  rw [Tryd.params8] at hA hval
  obtain ⟨v0, vs0, d0, ds0, p0, q0, hargs, rfl, rfl, h0, r0⟩ := trodAll_cons hA
  obtain ⟨v1, vs1, d1, ds1, p1, q1, rfl, rfl, rfl, h1, r1⟩ := trodAll_cons r0
  obtain ⟨rfl, rfl, rfl⟩ := trodAll_nil r1
  obtain rfl : args = #[v0, v1] := by cases args; simp_all
  obtain ⟨rfl, rfl⟩ := trodVars_none hV
  obtain ⟨op0, a0, b0, n0, rfl, wo0, wa0, wb0, wn0⟩ := open_ins (hval 0 23 v0 rfl rfl) h0
  obtain ⟨op1, a1, b1, n1, rfl, wo1, wa1, wb1, wn1⟩ := open_ins (hval 1 23 v1 rfl rfl) h1
  clear hA0
  simp only [List.append_nil] at hW'
  refine (walk op0 a0 b0 n0 wo0 wa0 wb0 wn0 op1 a1 b1 n1 wo1 wa1 wb1 wn1 W hT).mono fun e W' ⟨he, hg⟩ => ?_
  subst he
  exact ⟨_, rfl, _, _, _, [], _, [], hW', (trodAll_cons_mk (shut_bool Tryd.underlying4 _) trodAll_mk0), (trodAll_cons_mk (Below.trod laidO (by kernel_rfl) (of_decide_eq_true (by kernel_rfl)) h0 hg (fun x hx => hlt x (by simp [hx]))) (trodAll_cons_mk (Below.trod laidO (by kernel_rfl) (of_decide_eq_true (by kernel_rfl)) h1 hg (fun x hx => hlt x (by simp [hx]))) trodAll_mk0)), rfl, hg.frame _, fun h => by cases h⟩

theorem laid_met (os : Os) : laidMet Tryd.prog Rows.insStartsRow.laid ((laidWorld os).forCall (fun _ _ => 0) ⟨#[], #[.agg #[.int .i64 0, .int .i64 0, .int .i64 0, .int .i64 0], .agg #[.int .i64 0, .int .i64 0, .int .i64 0, .int .i64 0]], []⟩).memory :=
  laidMet_of_run' 8 (by kernel_rfl) (by kernel_rfl)
theorem reads (os : Os) {H : Type} (enc : TypeId × Value → H) : ∃ places, DataW.whole enc Tryd.prog ((laidWorld os).forCall (fun _ _ => 0) ⟨#[], #[.agg #[.int .i64 0, .int .i64 0, .int .i64 0, .int .i64 0], .agg #[.int .i64 0, .int .i64 0, .int .i64 0, .int .i64 0]], []⟩).memory Tryd.f8.params.toList Rows.insStartsSpec.vars false (#[.agg #[.int .i64 0, .int .i64 0, .int .i64 0, .int .i64 0], .agg #[.int .i64 0, .int .i64 0, .int .i64 0, .int .i64 0]] : Array Value).toList 8 = some ([.agg [.lit (.int .i64 0), .lit (.int .i64 0), .lit (.int .i64 0), .lit (.int .i64 0)], .agg [.lit (.int .i64 0), .lit (.int .i64 0), .lit (.int .i64 0), .lit (.int .i64 0)]], [], places) :=
  ⟨[], by kernel_rfl⟩

set_option maxRecDepth 100000 in
theorem lifted (os : Os) (started : os.Started) (H : Type) (enc : TypeId × Value → H) (F : Stop.Interp) :
    ReturnsInHanded {} Tryd.checked os 8 .any ((OpenSpec.ofChange Rows.insStartsSpec).preRow enc Tryd.prog Tryd.f8 Rows.insStartsRow.domain false Rows.insStartsRow.laid) (((OpenSpec.ofChange Rows.insStartsSpec).at F).post enc Tryd.prog Tryd.f8 false true false false) := by
  obtain ⟨places, hx⟩ := reads os enc
  refine returnsInHanded_of_row (C := Tryd.checked) (s := OpenSpec.ofChange Rows.insStartsSpec) own started (by kernel_rfl) Tryd.func8
    (witness_row_at (enc := enc) (C := Tryd.checked) false (laidWorld os) #[.agg #[.int .i64 0, .int .i64 0, .int .i64 0, .int .i64 0], .agg #[.int .i64 0, .int .i64 0, .int .i64 0, .int .i64 0]] rfl (by kernel_rfl) (by kernel_rfl) (by kernel_rfl)
      (OpenSpec.preRow_of_cond 8 hx (by kernel_rfl) (fun k hk => by cases hk) (by kernel_rfl) (laid_met os))) ?_
  intro W base args ds gs before hval hW _ hcond _ hL _ _
  exact contract H enc W base args ds gs before hval hW (tab_of_laid hL)

theorem said : Rows.InsStartsSaid :=
  OpenClaim.holds_of_cond 8 Tryd.f8 rfl rfl rfl rfl rfl rfl rfl ⟨rfl, rfl, rfl, rfl, rfl⟩ rfl rfl rfl rfl rfl (by kernel_rfl) Tryd.func8 (by kernel_rfl)
    (of_decide_eq_true (by kernel_rfl)) (by unfold Func.isWrapper; first | (rw [if_pos (by decide +kernel)]; kernel_rfl) | (rw [if_neg (by decide +kernel)]; exact ⟨rfl, rfl⟩))
    (fun os started H enc _ F => by rw [OpenClaim.pre_eq_preRow]; exact lifted os started H enc F)

/-- No parameter wants a stand-in; the program's own looks are off: what the card asks. -/
theorem plain (f : FuncId) (fn : Func) (hf : Tryd.pinned.checked.prog.funcNamed "cotter/cotterlaw03.InsStarts" = some f) (hfn : Tryd.pinned.checked.prog.funcs[f]? = some fn) :
    false = Tryd.pinned.checked.prog.looks [] ∧ ∀ (j : Nat) t, fn.params[j]? = some t → Tryd.pinned.checked.prog.wantsStandIn t = false := by
  obtain rfl : f = 8 := Option.some.inj ((show Tryd.prog.funcNamed "cotter/cotterlaw03.InsStarts" = some 8 by kernel_rfl).symm.trans hf) |>.symm
  obtain rfl : fn = Tryd.f8 := (Option.some.inj (Tryd.func8.symm.trans hfn)).symm
  refine ⟨by kernel_rfl, fun j t ht => ?_⟩
  rw [Tryd.params8] at ht
  have hm : t ∈ [23, 23] := by simpa using Array.mem_of_getElem? ht
  have hall : ([23, 23].all fun u => !Tryd.prog.wantsStandIn u) = true := by kernel_rfl
  exact (show Tryd.prog.wantsStandIn t = false by simpa using List.all_eq_true.1 hall t hm)

theorem card : Rows.InsStartsCardSaid :=
  Claim7.holds_tied_plain_at .later [] _ _ _ _ said (fun _ h => by cases h) (by kernel_rfl) (fun _ h => by cases h) insStarts_row_tie rfl ⟨rfl, rfl⟩ (by kernel_rfl) rfl plain (by kernel_rfl)
end Go.Proofs.YtcllbbdkihmpgaaDoor.insStarts
namespace Go.Proofs.YtcllbbdkihmpgaaDoor
/-- The statement. -/
theorem insStarts_holds : Rows.InsStartsCardSaid := insStarts.card
#print axioms insStarts_holds
end Go.Proofs.YtcllbbdkihmpgaaDoor
