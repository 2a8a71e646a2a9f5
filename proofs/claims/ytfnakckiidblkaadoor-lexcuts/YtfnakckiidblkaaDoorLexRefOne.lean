/- The document's one: the token that begins at a place. -/
import Derived.Test.YtfnakckiidblkaaDoorLexSignMath
import Derived.Test.YtfnakckiidblkaaDoorLexMain
import Derived.Deep.RegionHeld3
namespace Go.Proofs.YtfnakckiidblkaaDoor
open Go.RowKit
set_option linter.unusedVariables false
set_option linter.unusedSimpArgs false

/-- What one leaves. -/
def OneOut (w : World) (l : X.By) (i : Nat) (e : Ending) (w' : World) : Prop :=
  ∃ (a0 : Int) (a1 : ByteArray) (a2 a3 : Int) (b : Bool), e = .returned (.tuple #[.agg #[.int .i64 a0, .string a1, .int .i64 a2, .int .i64 a3], .bool b]) ∧ Below w.heap.size w w' ∧
    (b = false ∧ X.step l = none ∨ b = true ∧ ∃ k m v : Nat, X.step l = some (k, m, v) ∧ k ≠ 0 ∧ a0 = k ∧ a1 = X.str (l.take m) ∧ a2 = v ∧ a3 = i)
theorem step_letter {l : X.By} (h : X.lt (X.first l) = true) : X.step l = X.wordOrName l := by
  obtain ⟨x, hx⟩ : ∃ x, X.first l = x := ⟨_, rfl⟩
  rw [hx] at h
  have hd := X.lt_dg h
  have hr : (97 ≤ x ∧ x ≤ 122) ∨ (65 ≤ x ∧ x ≤ 90) ∨ x = 95 := by simpa [X.lt] using h
  unfold X.step
  simp only [hx]
  have hs : X.sgn x = false := by simp [X.sgn]; omega
  rw [if_neg (by omega), if_neg (by omega), if_neg (by omega), if_neg (by omega), if_neg (by omega), hs, hd]
  simp
theorem step_digit {l : X.By} (h : X.dg (X.first l) = true) : X.step l = X.number l := by
  obtain ⟨x, hx⟩ : ∃ x, X.first l = x := ⟨_, rfl⟩
  rw [hx] at h
  have hr : 48 ≤ x ∧ x ≤ 57 := by simpa [X.dg] using h
  unfold X.step
  simp only [hx]
  have hs : X.sgn x = false := by simp [X.sgn]; omega
  rw [if_neg (by omega), if_neg (by omega), if_neg (by omega), if_neg (by omega), if_neg (by omega), hs, h]
  simp
theorem ext_take (s : ByteArray) (i p : Nat) : s.extract i (i + p) = X.str ((s.data.toList.drop i).take p) := by
  rw [extract_eq, List.drop_take, show i + p - i = p by omega]
theorem get_drop (s : ByteArray) (i q : Nat) (h : i + q < s.size) : (s.data.toList.drop i)[q]? = some s[i + q] := by
  rw [List.getElem?_drop]
  exact get_list s (i + q) h
theorem span_at {p : UInt8 → Bool} {l : X.By} {k : Nat} (hk : ∀ (j : Nat) (c : UInt8), j < k → l[j]? = some c → p c = true) (hl : k = l.length ∨ ∃ c : UInt8, l[k]? = some c ∧ p c = false) : X.span p l = k := by
  rcases hl with h | ⟨c, h1, h2⟩
  · rw [h]
    refine span_all fun j c hc => hk j c ?_ hc
    have := (List.getElem?_eq_some_iff.1 hc).1
    omega
  · exact span_snoc hk h1 h2

theorem after2 {w w' : World} {a b : Array Value} {t : TypeId} (hb : Below ((w.alloc (.cells a t)).alloc (.cells b t)).heap.size ((w.alloc (.cells a t)).alloc (.cells b t)) w') :
    (∀ (o : Nat) u, b[o]? = some u → w'.cell? ⟨w.heap.size + 1, o, none⟩ = some u) ∧ (∀ o, w'.frozen? ⟨w.heap.size + 1, o, none⟩ = false) ∧ (∀ (o : Nat) u, a[o]? = some u → w'.cell? ⟨w.heap.size, o, none⟩ = some u) ∧ (∀ o, w'.frozen? ⟨w.heap.size, o, none⟩ = false) ∧ Below w.heap.size w w' := by
  have hz : ((w.alloc (.cells a t)).alloc (.cells b t)).heap.size = w.heap.size + 2 := by simp
  refine ⟨fun o u h => ?_, fun o => ?_, fun o u h => ?_, fun o => ?_, ?_⟩
  · rw [hb.cell (p := ⟨w.heap.size + 1, o, none⟩) (by rw [hz]; show w.heap.size + 1 < _; omega), World.cell?_alloc_at _ _ _ _ (by simp)]
    exact h
  · rw [hb.frozen (p := ⟨w.heap.size + 1, o, none⟩) (by rw [hz]; show w.heap.size + 1 < _; omega), World.frozen?_alloc_at _ _ _ _ (by simp)]
  · have h1 : (w.alloc (.cells a t)).cell? ⟨w.heap.size, o, none⟩ = some u := row_cell h
    rw [hb.cell (p := ⟨w.heap.size, o, none⟩) (by rw [hz]; show w.heap.size < _; omega), (bl1 (w.alloc (.cells a t)) (.cells b t)).cell (p := ⟨w.heap.size, o, none⟩) (by simp)]
    exact h1
  · rw [hb.frozen (p := ⟨w.heap.size, o, none⟩) (by rw [hz]; show w.heap.size < _; omega), (bl1 (w.alloc (.cells a t)) (.cells b t)).frozen (p := ⟨w.heap.size, o, none⟩) (by simp), World.frozen?_alloc_at _ _ _ _ rfl]
  · exact (bl2 w _ _).trans (hb.mono (by rw [hz]; omega))

set_option maxRecDepth 100000 in
set_option maxHeartbeats 4000000 in
theorem one_letter (s : ByteArray) (hs : s.size ≤ 20000) (i : Nat) (hi : i < s.size) (hx : X.lt s[i].toNat = true) (w : World) :
    Calls Tryd.prog 16 #[.string s, .int .i64 i] w (OneOut w (s.data.toList.drop i) i) := by
  have hL : s.data.toList.length = s.size := by simp
  have hmx : maxLen = 9223372036854775807 := rfl
  have HST : Hid (X.step (s.data.toList.drop i) = X.wordOrName (s.data.toList.drop i)) := step_letter (by rw [first_drop s i hi]; exact hx)
  have hin : 0 ≤ (i : Int) := by omega
  have hii : (i : Int) < s.size := by omega
  go_enter Tryd.func16, Tryd.ntmps16
  go_wp2_with (first | (go_at_call 21; refine (rletter_any s[i].toNat _).mono ?_; rw [hx]; rintro e w' ⟨rfl, rfl⟩))
  go_loop [6] (fun ev => ∃ (q : Nat), ev = .int .i64 ((i : Int) + q) ∧ i + q ≤ s.size ∧ Hid (∀ (j : Nat) (c : UInt8), j < q → (s.data.toList.drop i)[j]? = some c → X.pin c = true)) (fun ev => s.size - (intOf ev).toNat)
  case atStart => exact ⟨0, by simp, by omega, (fun j c hj => by omega : ∀ (j : Nat) (c : UInt8), j < 0 → (s.data.toList.drop i)[j]? = some c → X.pin c = true)⟩
  case round =>
    obtain ⟨q, rfl, hq, HA⟩ := hrel
    by_cases hlt : i + q < s.size
    · have HG : Hid ((s.data.toList.drop i)[q]? = some s[i + q]) := get_drop s i q hlt
      have hq1 : 0 ≤ (i : Int) + q := by omega
      have hq2 : (i : Int) + q < s.size := by omega
      have hq3 : ((i : Int) + q).toNat = i + q := by omega
      cases hc : X.lt s[i + q].toNat
      · cases hd : X.dg s[i + q].toNat
        · have HSP : Hid (X.span X.pin (s.data.toList.drop i) = q) := span_at HA.out (.inr ⟨_, HG.out, by simp [X.pin, X.inn, hc, hd]⟩)
          go_wp2_with (first | (go_at_call 21; refine (rletter_any s[i + q].toNat _).mono ?_; rw [hc]; rintro e w' ⟨rfl, rfl⟩) | (go_at_call 23; refine (rdigit_any s[i + q].toNat _).mono ?_; rw [hd]; rintro e w' ⟨rfl, rfl⟩) | fail)
          have htx := ext_take s i q
          have hwn : X.wordOrName (s.data.toList.drop i) = if X.isWord ((s.data.toList.drop i).take q) = true then some (3, q, 0) else if X.name ((s.data.toList.drop i).take q) = true then some (2, q, 0) else none := by
            unfold X.wordOrName
            rw [X.takeWhile_eq, HSP.out]
          have hwd := fun w => rword_any (s.extract i (i + q)) w
          have hnm := fun w => rname_any (s.extract i (i + q)) (by rw [htx, str_size, List.length_take]; omega) w
          rw [htx, str_list] at hwd hnm
          rw [← htx] at hwd hnm
          generalize s.extract i (i + q) = tx at *
          have HTX : Hid _ := htx
          have HWN : Hid _ := hwn
          clear htx hwn
          cases h1 : X.isWord ((s.data.toList.drop i).take q)
          · rw [h1] at hwd
            refine (hwd _).mono ?_
            rintro e w3 ⟨rfl, HBX⟩
            obtain ⟨hx', hxf, hy', hyf, hB0⟩ := after2 (w := w) (w' := w3) (t := 30) (a := #[.int .i64 0, .string { data := #[] }, .int .i64 0, .int .i64 0]) (b := #[.int .i64 2, .string tx, .int .i64 0, .int .i64 i]) HBX
            have x0 : w3.cell? ⟨w.heap.size + 1, 0, none⟩ = some (.int .i64 2) := hx' 0 _ rfl
            have x1 : w3.cell? ⟨w.heap.size + 1, 1, none⟩ = some (.string tx) := hx' 1 _ rfl
            have x2 : w3.cell? ⟨w.heap.size + 1, 2, none⟩ = some (.int .i64 0) := hx' 2 _ rfl
            have x3 : w3.cell? ⟨w.heap.size + 1, 3, none⟩ = some (.int .i64 i) := hx' 3 _ rfl
            have y0 : w3.cell? ⟨w.heap.size, 0, none⟩ = some (.int .i64 0) := hy' 0 _ rfl
            have y1 : w3.cell? ⟨w.heap.size, 1, none⟩ = some (.string { data := #[] }) := hy' 1 _ rfl
            have y2 : w3.cell? ⟨w.heap.size, 2, none⟩ = some (.int .i64 0) := hy' 2 _ rfl
            have y3 : w3.cell? ⟨w.heap.size, 3, none⟩ = some (.int .i64 0) := hy' 3 _ rfl
            have f0 := hxf 0
            have f1 := hxf 1
            have f2 := hxf 2
            have f3 := hxf 3
            have g0 := hyf 0
            have g1 := hyf 1
            have g2 := hyf 2
            have g3 := hyf 3
            have HBW : Hid _ := hB0
            clear hx' hxf hy' hyf hB0
            have hz3 : w.heap.size + 1 < w3.heap.size := by have := HBX.size; simp at this; omega
            cases h2 : X.name ((s.data.toList.drop i).take q)
            · rw [h2] at hnm
              clear HBX
              have hz4 : w.heap.size < w3.drew.heap.size := by show w.heap.size < w3.heap.size; omega
              go_wp2_with fail
              go_region_with (first | (go_at_call 14; refine (hnm _).mono ?_; rintro e w4 ⟨rfl, HB4⟩; have X0 := cell_thru (w := w3.drew) HB4 x0; have X1 := cell_thru (w := w3.drew) HB4 x1; have X2 := cell_thru (w := w3.drew) HB4 x2; have X3 := cell_thru (w := w3.drew) HB4 x3; have Y0 := cell_thru (w := w3.drew) HB4 y0; have Y1 := cell_thru (w := w3.drew) HB4 y1; have Y2 := cell_thru (w := w3.drew) HB4 y2; have Y3 := cell_thru (w := w3.drew) HB4 y3; have G0 : w4.frozen? ⟨w.heap.size, 0, none⟩ = false := (HB4.frozen (p := ⟨w.heap.size, 0, none⟩) hz4).trans g0; have G1 : w4.frozen? ⟨w.heap.size, 1, none⟩ = false := (HB4.frozen (p := ⟨w.heap.size, 1, none⟩) hz4).trans g1; have G2 : w4.frozen? ⟨w.heap.size, 2, none⟩ = false := (HB4.frozen (p := ⟨w.heap.size, 2, none⟩) hz4).trans g2; have G3 : w4.frozen? ⟨w.heap.size, 3, none⟩ = false := (HB4.frozen (p := ⟨w.heap.size, 3, none⟩) hz4).trans g3; have HB4' : Hid _ := HB4; clear HB4))
              all_goals
                go_wp2
                have hbx : Below w.heap.size w w4 := HBW.out.trans (((Below.drew (Below.refl w3.heap.size w3)).trans HB4'.out).mono HBW.out.size)
                exact bodyPost_ret (v := .tuple #[.agg #[.int .i64 2, .string tx, .int .i64 0, .int .i64 i], .bool false]) (by simp [results, Tryd.results16, go_sem, *]) rfl ⟨2, tx, 0, i, false, rfl, by (repeat (first | exact hbx | refine Below.drew ?_ | refine Below.setCell ?_ (by simp) _)), .inl ⟨rfl, by rw [HST.out, HWN.out, if_neg (by rw [h1]; simp), if_neg (by rw [h2]; simp)]⟩⟩
            · rw [h2] at hnm
              clear HBX
              have hz4 : w.heap.size < w3.drew.heap.size := by show w.heap.size < w3.heap.size; omega
              go_wp2_with fail
              go_region_with (first | (go_at_call 14; refine (hnm _).mono ?_; rintro e w4 ⟨rfl, HB4⟩; have X0 := cell_thru (w := w3.drew) HB4 x0; have X1 := cell_thru (w := w3.drew) HB4 x1; have X2 := cell_thru (w := w3.drew) HB4 x2; have X3 := cell_thru (w := w3.drew) HB4 x3; have Y0 := cell_thru (w := w3.drew) HB4 y0; have Y1 := cell_thru (w := w3.drew) HB4 y1; have Y2 := cell_thru (w := w3.drew) HB4 y2; have Y3 := cell_thru (w := w3.drew) HB4 y3; have G0 : w4.frozen? ⟨w.heap.size, 0, none⟩ = false := (HB4.frozen (p := ⟨w.heap.size, 0, none⟩) hz4).trans g0; have G1 : w4.frozen? ⟨w.heap.size, 1, none⟩ = false := (HB4.frozen (p := ⟨w.heap.size, 1, none⟩) hz4).trans g1; have G2 : w4.frozen? ⟨w.heap.size, 2, none⟩ = false := (HB4.frozen (p := ⟨w.heap.size, 2, none⟩) hz4).trans g2; have G3 : w4.frozen? ⟨w.heap.size, 3, none⟩ = false := (HB4.frozen (p := ⟨w.heap.size, 3, none⟩) hz4).trans g3; have HB4' : Hid _ := HB4; clear HB4))
              all_goals
                go_wp2
                have hbx : Below w.heap.size w w4 := HBW.out.trans (((Below.drew (Below.refl w3.heap.size w3)).trans HB4'.out).mono HBW.out.size)
                exact bodyPost_ret (v := .tuple #[.agg #[.int .i64 2, .string tx, .int .i64 0, .int .i64 i], .bool true]) (by simp [results, Tryd.results16, go_sem, *]) rfl ⟨2, tx, 0, i, true, rfl, by (repeat (first | exact hbx | refine Below.drew ?_ | refine Below.setCell ?_ (by simp) _)), .inr ⟨rfl, 2, q, 0, by rw [HST.out, HWN.out, if_neg (by rw [h1]; simp), if_pos h2], by decide, rfl, HTX.out, rfl, rfl⟩⟩
          · rw [h1] at hwd
            refine (hwd _).mono ?_
            rintro e w3 ⟨rfl, HBX⟩
            obtain ⟨hx', hxf, hy', hyf, hB0⟩ := after2 (w := w) (w' := w3) (t := 30) (a := #[.int .i64 0, .string { data := #[] }, .int .i64 0, .int .i64 0]) (b := #[.int .i64 2, .string tx, .int .i64 0, .int .i64 i]) HBX
            have x0 : w3.cell? ⟨w.heap.size + 1, 0, none⟩ = some (.int .i64 2) := hx' 0 _ rfl
            have x1 : w3.cell? ⟨w.heap.size + 1, 1, none⟩ = some (.string tx) := hx' 1 _ rfl
            have x2 : w3.cell? ⟨w.heap.size + 1, 2, none⟩ = some (.int .i64 0) := hx' 2 _ rfl
            have x3 : w3.cell? ⟨w.heap.size + 1, 3, none⟩ = some (.int .i64 i) := hx' 3 _ rfl
            have y0 : w3.cell? ⟨w.heap.size, 0, none⟩ = some (.int .i64 0) := hy' 0 _ rfl
            have y1 : w3.cell? ⟨w.heap.size, 1, none⟩ = some (.string { data := #[] }) := hy' 1 _ rfl
            have y2 : w3.cell? ⟨w.heap.size, 2, none⟩ = some (.int .i64 0) := hy' 2 _ rfl
            have y3 : w3.cell? ⟨w.heap.size, 3, none⟩ = some (.int .i64 0) := hy' 3 _ rfl
            have f0 := hxf 0
            have f1 := hxf 1
            have f2 := hxf 2
            have f3 := hxf 3
            have g0 := hyf 0
            have g1 := hyf 1
            have g2 := hyf 2
            have g3 := hyf 3
            have HBW : Hid _ := hB0
            clear hx' hxf hy' hyf hB0
            clear HBX
            go_wp2
            exact bodyPost_ret (v := .tuple #[.agg #[.int .i64 3, .string tx, .int .i64 0, .int .i64 i], .bool true]) (by simp [results, Tryd.results16, go_sem, *]) rfl ⟨3, tx, 0, i, true, rfl, bset4 (HBW.out.setCell (by simp) _) _ _ _ _, .inr ⟨rfl, 3, q, 0, by rw [HST.out, HWN.out, if_pos h1], by decide, rfl, HTX.out, rfl, rfl⟩⟩
        · go_wp2_with (first | (go_at_call 21; refine (rletter_any s[i + q].toNat _).mono ?_; rw [hc]; rintro e w' ⟨rfl, rfl⟩) | (go_at_call 23; refine (rdigit_any s[i + q].toNat _).mono ?_; rw [hd]; rintro e w' ⟨rfl, rfl⟩) | fail)
          go_round
          case rel =>
            refine ⟨q + 1, by first | go_num | (congr 1; omega), by omega, fun j c hj hg => ?_⟩
            by_cases e : j = q
            · subst e; rw [HG.out] at hg; cases hg; simp [X.pin, X.inn, hd]
            · exact HA.out j c (by omega) hg
          case measure => simp [intOf]; omega
      · go_wp2_with (first | (go_at_call 21; refine (rletter_any s[i + q].toNat _).mono ?_; rw [hc]; rintro e w' ⟨rfl, rfl⟩) | fail)
        go_round
        case rel =>
          refine ⟨q + 1, by first | go_num | (congr 1; omega), by omega, fun j c hj hg => ?_⟩
          by_cases e : j = q
          · subst e; rw [HG.out] at hg; cases hg; simp [X.pin, X.inn, hc]
          · exact HA.out j c (by omega) hg
        case measure => simp [intOf]; omega
    · have HSP : Hid (X.span X.pin (s.data.toList.drop i) = q) := span_at HA.out (.inl (by rw [List.length_drop, hL]; omega))
      have hq2 : ¬ (i : Int) + q < s.size := by omega
      go_wp2_with fail
      have htx := ext_take s i q
      have hwn : X.wordOrName (s.data.toList.drop i) = if X.isWord ((s.data.toList.drop i).take q) = true then some (3, q, 0) else if X.name ((s.data.toList.drop i).take q) = true then some (2, q, 0) else none := by
        unfold X.wordOrName
        rw [X.takeWhile_eq, HSP.out]
      have hwd := fun w => rword_any (s.extract i (i + q)) w
      have hnm := fun w => rname_any (s.extract i (i + q)) (by rw [htx, str_size, List.length_take]; omega) w
      rw [htx, str_list] at hwd hnm
      rw [← htx] at hwd hnm
      generalize s.extract i (i + q) = tx at *
      have HTX : Hid _ := htx
      have HWN : Hid _ := hwn
      clear htx hwn
      cases h1 : X.isWord ((s.data.toList.drop i).take q)
      · rw [h1] at hwd
        refine (hwd _).mono ?_
        rintro e w3 ⟨rfl, HBX⟩
        obtain ⟨hx', hxf, hy', hyf, hB0⟩ := after2 (w := w) (w' := w3) (t := 30) (a := #[.int .i64 0, .string { data := #[] }, .int .i64 0, .int .i64 0]) (b := #[.int .i64 2, .string tx, .int .i64 0, .int .i64 i]) HBX
        have x0 : w3.cell? ⟨w.heap.size + 1, 0, none⟩ = some (.int .i64 2) := hx' 0 _ rfl
        have x1 : w3.cell? ⟨w.heap.size + 1, 1, none⟩ = some (.string tx) := hx' 1 _ rfl
        have x2 : w3.cell? ⟨w.heap.size + 1, 2, none⟩ = some (.int .i64 0) := hx' 2 _ rfl
        have x3 : w3.cell? ⟨w.heap.size + 1, 3, none⟩ = some (.int .i64 i) := hx' 3 _ rfl
        have y0 : w3.cell? ⟨w.heap.size, 0, none⟩ = some (.int .i64 0) := hy' 0 _ rfl
        have y1 : w3.cell? ⟨w.heap.size, 1, none⟩ = some (.string { data := #[] }) := hy' 1 _ rfl
        have y2 : w3.cell? ⟨w.heap.size, 2, none⟩ = some (.int .i64 0) := hy' 2 _ rfl
        have y3 : w3.cell? ⟨w.heap.size, 3, none⟩ = some (.int .i64 0) := hy' 3 _ rfl
        have f0 := hxf 0
        have f1 := hxf 1
        have f2 := hxf 2
        have f3 := hxf 3
        have g0 := hyf 0
        have g1 := hyf 1
        have g2 := hyf 2
        have g3 := hyf 3
        have HBW : Hid _ := hB0
        clear hx' hxf hy' hyf hB0
        have hz3 : w.heap.size + 1 < w3.heap.size := by have := HBX.size; simp at this; omega
        cases h2 : X.name ((s.data.toList.drop i).take q)
        · rw [h2] at hnm
          clear HBX
          have hz4 : w.heap.size < w3.drew.heap.size := by show w.heap.size < w3.heap.size; omega
          go_wp2_with fail
          go_region_with (first | (go_at_call 14; refine (hnm _).mono ?_; rintro e w4 ⟨rfl, HB4⟩; have X0 := cell_thru (w := w3.drew) HB4 x0; have X1 := cell_thru (w := w3.drew) HB4 x1; have X2 := cell_thru (w := w3.drew) HB4 x2; have X3 := cell_thru (w := w3.drew) HB4 x3; have Y0 := cell_thru (w := w3.drew) HB4 y0; have Y1 := cell_thru (w := w3.drew) HB4 y1; have Y2 := cell_thru (w := w3.drew) HB4 y2; have Y3 := cell_thru (w := w3.drew) HB4 y3; have G0 : w4.frozen? ⟨w.heap.size, 0, none⟩ = false := (HB4.frozen (p := ⟨w.heap.size, 0, none⟩) hz4).trans g0; have G1 : w4.frozen? ⟨w.heap.size, 1, none⟩ = false := (HB4.frozen (p := ⟨w.heap.size, 1, none⟩) hz4).trans g1; have G2 : w4.frozen? ⟨w.heap.size, 2, none⟩ = false := (HB4.frozen (p := ⟨w.heap.size, 2, none⟩) hz4).trans g2; have G3 : w4.frozen? ⟨w.heap.size, 3, none⟩ = false := (HB4.frozen (p := ⟨w.heap.size, 3, none⟩) hz4).trans g3; have HB4' : Hid _ := HB4; clear HB4))
          all_goals
            go_wp2
            have hbx : Below w.heap.size w w4 := HBW.out.trans (((Below.drew (Below.refl w3.heap.size w3)).trans HB4'.out).mono HBW.out.size)
            exact bodyPost_ret (v := .tuple #[.agg #[.int .i64 2, .string tx, .int .i64 0, .int .i64 i], .bool false]) (by simp [results, Tryd.results16, go_sem, *]) rfl ⟨2, tx, 0, i, false, rfl, by (repeat (first | exact hbx | refine Below.drew ?_ | refine Below.setCell ?_ (by simp) _)), .inl ⟨rfl, by rw [HST.out, HWN.out, if_neg (by rw [h1]; simp), if_neg (by rw [h2]; simp)]⟩⟩
        · rw [h2] at hnm
          clear HBX
          have hz4 : w.heap.size < w3.drew.heap.size := by show w.heap.size < w3.heap.size; omega
          go_wp2_with fail
          go_region_with (first | (go_at_call 14; refine (hnm _).mono ?_; rintro e w4 ⟨rfl, HB4⟩; have X0 := cell_thru (w := w3.drew) HB4 x0; have X1 := cell_thru (w := w3.drew) HB4 x1; have X2 := cell_thru (w := w3.drew) HB4 x2; have X3 := cell_thru (w := w3.drew) HB4 x3; have Y0 := cell_thru (w := w3.drew) HB4 y0; have Y1 := cell_thru (w := w3.drew) HB4 y1; have Y2 := cell_thru (w := w3.drew) HB4 y2; have Y3 := cell_thru (w := w3.drew) HB4 y3; have G0 : w4.frozen? ⟨w.heap.size, 0, none⟩ = false := (HB4.frozen (p := ⟨w.heap.size, 0, none⟩) hz4).trans g0; have G1 : w4.frozen? ⟨w.heap.size, 1, none⟩ = false := (HB4.frozen (p := ⟨w.heap.size, 1, none⟩) hz4).trans g1; have G2 : w4.frozen? ⟨w.heap.size, 2, none⟩ = false := (HB4.frozen (p := ⟨w.heap.size, 2, none⟩) hz4).trans g2; have G3 : w4.frozen? ⟨w.heap.size, 3, none⟩ = false := (HB4.frozen (p := ⟨w.heap.size, 3, none⟩) hz4).trans g3; have HB4' : Hid _ := HB4; clear HB4))
          all_goals
            go_wp2
            have hbx : Below w.heap.size w w4 := HBW.out.trans (((Below.drew (Below.refl w3.heap.size w3)).trans HB4'.out).mono HBW.out.size)
            exact bodyPost_ret (v := .tuple #[.agg #[.int .i64 2, .string tx, .int .i64 0, .int .i64 i], .bool true]) (by simp [results, Tryd.results16, go_sem, *]) rfl ⟨2, tx, 0, i, true, rfl, by (repeat (first | exact hbx | refine Below.drew ?_ | refine Below.setCell ?_ (by simp) _)), .inr ⟨rfl, 2, q, 0, by rw [HST.out, HWN.out, if_neg (by rw [h1]; simp), if_pos h2], by decide, rfl, HTX.out, rfl, rfl⟩⟩
      · rw [h1] at hwd
        refine (hwd _).mono ?_
        rintro e w3 ⟨rfl, HBX⟩
        obtain ⟨hx', hxf, hy', hyf, hB0⟩ := after2 (w := w) (w' := w3) (t := 30) (a := #[.int .i64 0, .string { data := #[] }, .int .i64 0, .int .i64 0]) (b := #[.int .i64 2, .string tx, .int .i64 0, .int .i64 i]) HBX
        have x0 : w3.cell? ⟨w.heap.size + 1, 0, none⟩ = some (.int .i64 2) := hx' 0 _ rfl
        have x1 : w3.cell? ⟨w.heap.size + 1, 1, none⟩ = some (.string tx) := hx' 1 _ rfl
        have x2 : w3.cell? ⟨w.heap.size + 1, 2, none⟩ = some (.int .i64 0) := hx' 2 _ rfl
        have x3 : w3.cell? ⟨w.heap.size + 1, 3, none⟩ = some (.int .i64 i) := hx' 3 _ rfl
        have y0 : w3.cell? ⟨w.heap.size, 0, none⟩ = some (.int .i64 0) := hy' 0 _ rfl
        have y1 : w3.cell? ⟨w.heap.size, 1, none⟩ = some (.string { data := #[] }) := hy' 1 _ rfl
        have y2 : w3.cell? ⟨w.heap.size, 2, none⟩ = some (.int .i64 0) := hy' 2 _ rfl
        have y3 : w3.cell? ⟨w.heap.size, 3, none⟩ = some (.int .i64 0) := hy' 3 _ rfl
        have f0 := hxf 0
        have f1 := hxf 1
        have f2 := hxf 2
        have f3 := hxf 3
        have g0 := hyf 0
        have g1 := hyf 1
        have g2 := hyf 2
        have g3 := hyf 3
        have HBW : Hid _ := hB0
        clear hx' hxf hy' hyf hB0
        clear HBX
        go_wp2
        exact bodyPost_ret (v := .tuple #[.agg #[.int .i64 3, .string tx, .int .i64 0, .int .i64 i], .bool true]) (by simp [results, Tryd.results16, go_sem, *]) rfl ⟨3, tx, 0, i, true, rfl, bset4 (HBW.out.setCell (by simp) _) _ _ _ _, .inr ⟨rfl, 3, q, 0, by rw [HST.out, HWN.out, if_pos h1], by decide, rfl, HTX.out, rfl, rfl⟩⟩

end Go.Proofs.YtfnakckiidblkaaDoor
