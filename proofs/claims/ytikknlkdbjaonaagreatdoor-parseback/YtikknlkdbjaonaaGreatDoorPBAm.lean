/- Declarations, as the program's parser reads them. -/
import Derived.Test.YtikknlkdbjaonaaGreatDoorPBAl
namespace Go.Proofs.YtikknlkdbjaonaaGreatDoor.Y
open Go.RowKit Go.Maps
set_option linter.unusedVariables false
set_option linter.unusedSimpArgs false
theorem obj_len {ts : List Tok} (G : Good ts) {x : Bool} {i j : Nat} {k : Int} (h : obj ts x i = some (k, j)) : i < j ∧ j < ts.length := by
  unfold obj at h
  split at h
  · rename_i ht
    injection h with h; injection h with h h'; subst h h'
    exact ⟨Nat.lt_succ_self _, G.ht i (by rw [ht]; decide)⟩
  · split at h
    · rename_i ht
      split at h <;> (injection h with h; injection h with h h'; subst h h'; exact ⟨Nat.lt_succ_self _, G.ht i (by rw [ht]; decide)⟩)
    · split at h
      · rename_i ht
        injection h with h; injection h with h h'; subst h h'
        exact ⟨Nat.lt_succ_self _, G.ht i (by rw [ht]; decide)⟩
      · cases h
/-- What reading a kind comes to. -/
def KOut (B : Nat) (ts : List X.Tok) (w : World) (bp : Nat) (a : Option Addr) (c : Nat) (vd vs ve : Value) (d : Nat) (r : Option (Int × Nat)) (e : Ending) (w' : World) : Prop :=
  Kp [69] B w w' ∧ match r with
    | none => Fails e
    | some (k, j) => e = .returned (.int .i64 k) ∧ PB B ts w' bp a c j vd vs ve d
set_option maxRecDepth 100000 in
set_option maxHeartbeats 2000000 in
theorem object_any {B : Nat} {ts : List X.Tok} {bp : Nat} {a : Option Addr} {c : Nat} {vd vs ve : Value} {d : Nat} (G : Good ts) {i : Nat} (hi : i < ts.length) {w : World} (h : PB B ts w bp a c i vd vs ve d) (x : Bool) : Calls Tryz.prog 79 #[.pointer (some ⟨bp, 0, none⟩), .bool x] w (KOut B ts w bp a c vd vs ve d (obj ts x i)) := by
  obtain ⟨R, hR⟩ : ∃ R, obj ts x i = R := ⟨_, rfl⟩
  have hR0 := hR
  unfold obj at hR0
  have HR : Hid _ := hR0
  rw [hR]
  clear hR hR0
  have HP : Hid (PB B ts w bp a c i vd vs ve d) := h
  have HBW : Hid (B ≤ w.heap.size) := h.le
  clear h
  go_enter Tryz.func79, Tryz.ntmps79
  go_wp2_with fail
  by_cases h1 : (tk ts i).text = kQueue
  · obtain rfl : some (3, i + 1) = R := (if_pos h1).symm.trans HR.out
    refine (skip_yes (s := kQueue) HP.out hi h1).mono ?_
    rintro e y ⟨rfl, hp, hk⟩
    have HF : Hid (KOut B ts w bp a c vd vs ve d (some (3, i + 1)) (.returned (.int .i64 3)) y) := ⟨hk, rfl, hp⟩
    clear hp hk h1 HR HP
    go_wp2_with fail
    go_ret
    exact HF.out
  refine (skip_no (s := kQueue) HP.out hi h1).mono ?_
  rintro e y ⟨rfl, hb⟩
  have HR : Hid (_ = R) := (if_neg h1).symm.trans HR.out
  have HK1 : Hid (Kp [69] B w y) := Kp.of hb HBW.out
  have HP1 : Hid (PB B ts y bp a c i vd vs ve d) := HP.out.below hb
  clear hb h1 HP
  go_wp2_with fail
  by_cases h1 : (tk ts i).text = kTicket
  · have HR : Hid (_ = R) := (if_pos h1).symm.trans HR.out
    refine (skip_yes (s := kTicket) HP1.out hi h1).mono ?_
    rintro e y1 ⟨rfl, hp, hk⟩
    cases x with
    | true =>
      obtain rfl : some (1, i + 1) = R := (if_pos rfl).symm.trans HR.out
      have HF : Hid (KOut B ts w bp a c vd vs ve d (some (1, i + 1)) (.returned (.int .i64 1)) y1) := ⟨HK1.out.trans hk, rfl, hp⟩
      clear hp hk h1 HR HP1 HK1
      go_wp2_with fail
      go_ret
      exact HF.out
    | false =>
      obtain rfl : some (2, i + 1) = R := (if_neg (by simp)).symm.trans HR.out
      have HF : Hid (KOut B ts w bp a c vd vs ve d (some (2, i + 1)) (.returned (.int .i64 2)) y1) := ⟨HK1.out.trans hk, rfl, hp⟩
      clear hp hk h1 HR HP1 HK1
      go_wp2_with fail
      go_ret
      exact HF.out
  refine (skip_no (s := kTicket) HP1.out hi h1).mono ?_
  rintro e y1 ⟨rfl, hb⟩
  have HR : Hid (_ = R) := (if_neg h1).symm.trans HR.out
  have HK2 : Hid (Kp [69] B w y1) := HK1.out.trans (Kp.of hb HP1.out.le)
  have HP2 : Hid (PB B ts y1 bp a c i vd vs ve d) := HP1.out.below hb
  clear hb h1 HP1 HK1
  go_wp2_with fail
  by_cases h1 : (tk ts i).text = kLock
  · obtain rfl : some (1, i + 1) = R := (if_pos h1).symm.trans HR.out
    refine (want_yes (s := kLock) HP2.out hi h1).mono ?_
    rintro e y2 ⟨rfl, hp, hk⟩
    have HF : Hid (KOut B ts w bp a c vd vs ve d (some (1, i + 1)) (.returned (.int .i64 1)) y2) := ⟨HK2.out.trans hk, rfl, hp⟩
    clear hp hk h1 HR HP2 HK2
    go_wp2_with fail
    go_ret
    exact HF.out
  · obtain rfl : none = R := (if_neg h1).symm.trans HR.out
    refine (want_no (s := kLock) HP2.out hi h1).mono ?_
    rintro e y2 ⟨h3, hb3⟩
    have h3' : e = _ := h3
    subst h3'
    have HF : Hid (KOut B ts w bp a c vd vs ve d none _ y2) := ⟨HK2.out.trans (Kp.of hb3 HP2.out.le), h3⟩
    clear h3 hb3 h1 HR HP2 HK2
    go_wp2_with fail
    exact ⟨rfl, HF.out⟩
set_option maxRecDepth 100000 in
set_option maxHeartbeats 2000000 in
theorem decl_any {B : Nat} {ts : List X.Tok} {bp : Nat} {a : Option Addr} {c : Nat} {vd vs ve : Value} {XS : List Sx} (G : Good ts) (hB : 8 ≤ B) {f : Nat} (hf : 3 * ts.length + 4 ≤ f) {i : Nat} (hi : i < ts.length) {w : World} {E : List Exp} (h : ST B ts w vs XS bp a c i vd vs ve 0 [] E w) (hl : E.length ≤ i) (hlx : XS.length ≤ i) (he : Env w) : Calls Tryz.prog 54 #[.pointer (some ⟨bp, 0, none⟩)] w (DOut B ts w bp a c vd vs XS (dcl ts f i E (XS.map (·.s)))) := by
  obtain ⟨R, hR⟩ : ∃ R, dcl ts f i E (XS.map (·.s)) = R := ⟨_, rfl⟩
  have hR0 := hR
  unfold dcl at hR0
  have HR : Hid _ := hR0
  rw [hR]
  clear hR hR0
  obtain ⟨W0, hW0⟩ : ∃ W0, w.alloc (.cells #[.int .i64 0, .string { data := #[] }, .bool false, .int .i64 0, .string { data := #[] }, .slice none 0 0, .int .i64 0, .int .i64 0, .slice none 0 0] 54) = W0 := ⟨_, rfl⟩
  have HS : Hid (ST B ts w vs XS bp a c i vd vs ve 0 [] E W0) := by show ST _ _ _ _ _ _ _ _ _ _ _ _ _ _ _ _; rw [← hW0]; exact h.bel (bl1 _ _)
  have HZ : Hid (DB W0 w.heap.size w.heap.size [.int .i64 0, .string { data := #[] }, .bool false, .int .i64 0, .string { data := #[] }, .slice none 0 0, .int .i64 0, .int .i64 0, .slice none 0 0]) := by show DB _ _ _ _; rw [← hW0]; exact DB.new (Nat.le_refl _)
  have HE : Hid (∀ y, Kp T3 B w y → Env y) := fun y hy => he.kp hy hB
  have HW0 : Hid (w.alloc (.cells #[.int .i64 0, .string { data := #[] }, .bool false, .int .i64 0, .string { data := #[] }, .slice none 0 0, .int .i64 0, .int .i64 0, .slice none 0 0] 54) = W0) := hW0
  have hN := G.len
  have hml : (XS.map (·.s)).length = XS.length := List.length_map ..
  clear h he hW0
  go_enter Tryz.func54, Tryz.ntmps54
  go_wp2_with fail
  rw [HW0.out]
  clear HW0
  by_cases h1 : (tk ts i).text = kThread
  · refine (skip_yes (s := kThread) HS.out.pb hi h1).mono ?_
    rintro e y1 ⟨rfl, hp1, hk1⟩
    have HR : Hid (_ = R) := (if_pos h1).symm.trans HR.out
    have HS : Hid (ST B ts w vs XS bp a c (i + 1) vd vs ve 0 [] E y1) := HS.out.tok hp1 hk1
    have HZ : Hid _ := HZ.out.kp (hk1.wide (by decide))
    clear hp1 hk1
    have hi1 : i + 1 < ts.length := G.ht i (by rw [h1]; decide)
    go_wp2_with fail
    by_cases h2 : (tk ts (i + 1)).kind = 2
    rotate_left
    · refine (name_no HS.out.pb hi1 h2).mono ?_
      rintro e y ⟨h3, hb3⟩
      obtain rfl : none = R := (if_neg h2).symm.trans HR.out
      have h3' : e = _ := h3
      subst h3'
      have HF : Hid (DOut B ts w bp a c vd vs XS none _ y) := ⟨(HS.out.bel hb3).ks.kp, h3⟩
      clear h3 hb3 HS HR HZ
      go_wp2_with fail
      exact ⟨rfl, HF.out⟩
    refine (name_yes HS.out.pb hi1 h2).mono ?_
    rintro e y2 ⟨rfl, hp1, hk1⟩
    have HR : Hid (_ = R) := (if_pos h2).symm.trans HR.out
    have HS : Hid (ST B ts w vs XS bp a c (i + 2) vd vs ve 0 [] E y2) := HS.out.tok hp1 hk1
    have HZ : Hid _ := HZ.out.kp (hk1.wide (by decide))
    clear hp1 hk1
    have hi2 : i + 2 < ts.length := G.hk (i + 1) (by rw [h2]; decide)
    obtain ⟨W1, hW1⟩ : ∃ W1, y2.alloc (.cells #[.int .i64 6, .string (X.str (tk ts (i + 1)).text), .bool false, .int .i64 0, .string { data := #[] }, .slice none 0 0, .int .i64 0, .int .i64 0, .slice none 0 0] 54) = W1 := ⟨_, rfl⟩
    have HA : Hid (DB W1 w.heap.size y2.heap.size [.int .i64 6, .string (X.str (tk ts (i + 1)).text), .bool false, .int .i64 0, .string { data := #[] }, .slice none 0 0, .int .i64 0, .int .i64 0, .slice none 0 0]) := by show DB _ _ _ _; rw [← hW1]; exact DB.new HS.out.ks.kp.low.size
    have HNE : Hid (y2.heap.size ≠ w.heap.size) := by show _ ≠ _; have := blk_lt HZ.out.blk; omega
    have HZ : Hid (DB W1 w.heap.size w.heap.size [.int .i64 0, .string { data := #[] }, .bool false, .int .i64 0, .string { data := #[] }, .slice none 0 0, .int .i64 0, .int .i64 0, .slice none 0 0]) := by show DB _ _ _ _; rw [← hW1]; exact HZ.out.bel (bl1 _ _)
    have HS : Hid (ST B ts w vs XS bp a c (i + 2) vd vs ve 0 [] E W1) := by show ST _ _ _ _ _ _ _ _ _ _ _ _ _ _ _ _; rw [← hW1]; exact HS.out.bel (bl1 _ _)
    have HW1 : Hid (y2.alloc (.cells #[.int .i64 6, .string (X.str (tk ts (i + 1)).text), .bool false, .int .i64 0, .string { data := #[] }, .slice none 0 0, .int .i64 0, .int .i64 0, .slice none 0 0] 54) = W1) := hW1
    clear hW1
    go_wp2_with fail
    rw [HW1.out]
    clear HW1
    have HC : Hid (Calls Tryz.prog 77 #[.pointer (some ⟨bp, 0, none⟩)] W1 (BOut B ts W1 bp a c vd vs XS 0 (blk ts f 0 (i + 2) E (XS.map (·.s))))) := (stmts_all G hB f).1 (i + 2) W1 vs ve XS 0 E hi2 HS.out.base0 (Nat.zero_le _) (by omega) (by omega) (HE.out _ HS.out.ks.kp) (by omega)
    go_wp2_with fail
    refine Calls.mono HC.out ?_
    intro e y_1 hy
    have HY : Hid (BOut B ts W1 bp a c vd vs XS 0 (blk ts f 0 (i + 2) E (XS.map (·.s))) e y_1) := hy
    clear hy HC
    cases hr : blk ts f 0 (i + 2) E (XS.map (·.s)) with
    | none =>
      have h2 := HY.out
      rw [hr] at h2
      obtain ⟨hk, h3⟩ := h2
      have hR1 := HR.out
      rw [hr] at hR1
      obtain rfl : none = R := hR1
      have h3' : e = _ := h3
      subst h3'
      have HF : Hid (DOut B ts w bp a c vd vs XS none _ y_1) := ⟨HS.out.ks.kp.trans hk, h3⟩
      clear h3 HY hk hr HS HR HZ HA
      go_wp2_with fail
      exact ⟨rfl, HF.out⟩
    | some r =>
      obtain ⟨l1, k1, E1, S1⟩ := r
      have hlen1 := (stm_len G f).1 _ _ _ _ _ _ _ _ hr
      have h2 := HY.out
      rw [hr] at h2
      obtain ⟨hk, vs1, ve1, N1, a1, c1, hst2, hS, rfl, hrow, hfr⟩ := h2
      have hR1 := HR.out
      rw [hr, Option.bind_some] at hR1
      dsimp only at hR1
      have HR : Hid _ := hR1
      have HV : Hid (y_1.ownsRow B 3 1 (.slice a1 l1.length c1) l1.length (l1.map iZ)) := hrow
      have HZ : Hid _ := HZ.out.kp hst2.ks.kp
      have HA : Hid _ := HA.out.kp hst2.ks.kp
      have HS : Hid (ST B ts w vs XS bp a c k1 vd vs1 ve1 0 N1 E1 y_1) := HS.out.call0 hst2
      have HX1 : Hid ((XS ++ N1).map (·.s) = S1) := hS
      clear hk hst2 hS hrow hfr hR1 HY hr
      obtain rfl : _ = R := HR.out
      have m0 := HA.out.cel 0 _ rfl
      have m1 := HA.out.cel 1 _ rfl
      have m2 := HA.out.cel 2 _ rfl
      have m3 := HA.out.cel 3 _ rfl
      have m4 := HA.out.cel 4 _ rfl
      have m5 := HA.out.cel 5 _ rfl
      have m6 := HA.out.cel 6 _ rfl
      have m7 := HA.out.cel 7 _ rfl
      have m8 := HA.out.cel 8 _ rfl
      have zm := HA.out.fro
      obtain ⟨Y3, hY3⟩ : ∃ Y3, y_1.setCell ⟨y2.heap.size, 8, none⟩ (.slice a1 l1.length c1) = Y3 := ⟨_, rfl⟩
      have HS : Hid (ST B ts w vs XS bp a c k1 vd vs1 ve1 0 N1 E1 Y3) := by show ST _ _ _ _ _ _ _ _ _ _ _ _ _ _ _ _; rw [← hY3]; exact HS.out.dbox HA.out (Nat.le_refl _) _
      have HZ : Hid (DB Y3 w.heap.size w.heap.size [.int .i64 0, .string { data := #[] }, .bool false, .int .i64 0, .string { data := #[] }, .slice none 0 0, .int .i64 0, .int .i64 0, .slice none 0 0]) := by show DB _ _ _ _; rw [← hY3]; exact HZ.out.far HNE.out _
      have HV := row_far (k := 8) (u := .slice a1 l1.length c1) HV.out (row_ne HV.out HA.out.blk (by decide))
      rw [hY3] at HV
      have HV : Hid _ := HV
      have HA : Hid (DB Y3 w.heap.size y2.heap.size [.int .i64 6, .string (X.str (tk ts (i + 1)).text), .bool false, .int .i64 0, .string { data := #[] }, .slice none 0 0, .int .i64 0, .int .i64 0, .slice a1 l1.length c1]) := by show DB _ _ _ _; rw [← hY3]; exact HA.out.put 8 (.slice a1 l1.length c1)
      have q0 := HA.out.cel 0 _ rfl
      have q1 := HA.out.cel 1 _ rfl
      have q2 := HA.out.cel 2 _ rfl
      have q3 := HA.out.cel 3 _ rfl
      have q4 := HA.out.cel 4 _ rfl
      have q5 := HA.out.cel 5 _ rfl
      have q6 := HA.out.cel 6 _ rfl
      have q7 := HA.out.cel 7 _ rfl
      have q8 := HA.out.cel 8 _ rfl
      have n0 := HZ.out.cel 0 _ rfl
      have n1 := HZ.out.cel 1 _ rfl
      have n2 := HZ.out.cel 2 _ rfl
      have n3 := HZ.out.cel 3 _ rfl
      have n4 := HZ.out.cel 4 _ rfl
      have n5 := HZ.out.cel 5 _ rfl
      have n6 := HZ.out.cel 6 _ rfl
      have n7 := HZ.out.cel 7 _ rfl
      have n8 := HZ.out.cel 8 _ rfl
      have zq := HA.out.fro
      have z0 := HZ.out.fro
      go_wp2_with fail
      try rw [hY3]
      refine bodyPost_ret (v := dcV ⟨⟨6, (tk ts (i + 1)).text, false, 0, [], [], 0, 0, l1⟩, .slice none 0 0, .slice a1 l1.length c1⟩) ?_ rfl ?_
      · simp [results, Tryz.results54, go_sem, n0, n1, n2, n3, n4, n5, n6, n7, n8, z0, dcV, str_nil]
      · exact fin9 HS.out HZ.out (Nat.le_refl _) ⟨⟨6, (tk ts (i + 1)).text, false, 0, [], [], 0, 0, l1⟩, .slice none 0 0, .slice a1 l1.length c1⟩ (⟨World.ownsRow_nil _ _ _ _, HV.out⟩) (HX1.out)
  refine (skip_no (s := kThread) HS.out.pb hi h1).mono ?_
  rintro e y1 ⟨rfl, hb1⟩
  have HR : Hid (_ = R) := (if_neg h1).symm.trans HR.out
  have HS : Hid (ST B ts w vs XS bp a c i vd vs ve 0 [] E y1) := HS.out.bel hb1
  have HZ : Hid _ := HZ.out.bel hb1
  clear hb1
  go_wp2_with fail
  by_cases h2 : (tk ts i).text = kExtern
  · refine (skip_yes (s := kExtern) HS.out.pb hi h2).mono ?_
    rintro e y2 ⟨rfl, hp1, hk1⟩
    have HR : Hid (_ = R) := (if_pos h2).symm.trans HR.out
    have HS : Hid (ST B ts w vs XS bp a c (i + 1) vd vs ve 0 [] E y2) := HS.out.tok hp1 hk1
    have HZ : Hid _ := HZ.out.kp (hk1.wide (by decide))
    clear hp1 hk1
    have hi1 : i + 1 < ts.length := G.ht i (by rw [h2]; decide)
    go_wp2_with fail
    have hR1 := HR.out
    unfold dcl2 at hR1
    have HR : Hid _ := hR1
    clear hR1
    by_cases h4q : (tk ts (i + 1)).text = kInt
    · refine (skip_yes (s := kInt) HS.out.pb hi1 h4q).mono ?_
      rintro e y3 ⟨rfl, hp1, hk1⟩
      have HR : Hid (_ = R) := (if_pos h4q).symm.trans HR.out
      have HS : Hid (ST B ts w vs XS bp a c (i + 2) vd vs ve 0 [] E y3) := HS.out.tok hp1 hk1
      have HZ : Hid _ := HZ.out.kp (hk1.wide (by decide))
      clear hp1 hk1
      have hj1 : (i + 2) < ts.length := G.ht _ (by rw [h4q]; decide)
      go_wp2_with fail
      obtain ⟨nm, hnm⟩ : ∃ nm, (tk ts (i + 2)).text = nm := ⟨_, rfl⟩
      have HNM : Hid ((tk ts (i + 2)).text = nm) := hnm
      have hR1 := HR.out
      rw [hnm] at hR1
      have HR : Hid _ := hR1
      clear hR1 hnm
      by_cases h5q : (tk ts (i + 2)).kind = 2
      rotate_left
      · refine (name_no HS.out.pb hj1 h5q).mono ?_
        rintro e y ⟨h3, hb3⟩
        obtain rfl : none = R := (if_neg h5q).symm.trans HR.out
        have h3' : e = _ := h3
        subst h3'
        have HF : Hid (DOut B ts w bp a c vd vs XS none _ y) := ⟨(HS.out.bel hb3).ks.kp, h3⟩
        clear h3 hb3 HS HR HZ
        go_wp2_with fail
        exact ⟨rfl, HF.out⟩
      refine (name_yes HS.out.pb hj1 h5q).mono ?_
      rw [HNM.out]
      rintro e y4 ⟨rfl, hp1, hk1⟩
      have HR : Hid (_ = R) := (if_pos h5q).symm.trans HR.out
      have HS : Hid (ST B ts w vs XS bp a c (i + 3) vd vs ve 0 [] E y4) := HS.out.tok hp1 hk1
      have HZ : Hid _ := HZ.out.kp (hk1.wide (by decide))
      clear hp1 hk1
      have hj2 : (i + 3) < ts.length := G.hk _ (by rw [h5q]; decide)
      have HC : Hid (Calls Tryz.prog 78 #[.pointer (some ⟨bp, 0, none⟩), .agg #[.int .i64 0, .string (X.str nm), .bool true, .int .i64 0, .string { data := #[] }, .slice none 0 0, .int .i64 0, .int .i64 0, .slice none 0 0]] y4 (DOut B ts y4 bp a c vd vs XS R)) := by
        rw [← HR.out]
        exact number_true G hB hf hj2 HS.out.base0 (by omega) (by omega) (HE.out _ HS.out.ks.kp) nm
      go_wp2_with fail
      refine Calls.mono HC.out ?_
      intro e y hy
      have HY : Hid (DOut B ts y4 bp a c vd vs XS R e y) := hy
      clear hy HC HR
      cases R with
      | none =>
        have h3' : e = _ := HY.out.2
        subst h3'
        have HF : Hid (DOut B ts w bp a c vd vs XS none _ y) := ⟨HS.out.ks.kp.trans HY.out.1, HY.out.2⟩
        clear HY HS HZ
        go_wp2_with fail
        exact ⟨rfl, HF.out⟩
      | some r =>
        obtain ⟨s0, j0, E0, S0⟩ := r
        obtain ⟨hk, vs', ve', N, ⟨s1, vp1, vb1⟩, hst, hS, hs1, rfl, hrow⟩ := HY.out
        dsimp only at hs1
        subst hs1
        obtain ⟨aa, ca, ab, cb, rfl, rfl⟩ := dxform hrow
        have HFR : Hid (DxR B y ⟨s1, .slice aa s1.params.length ca, .slice ab s1.body.length cb⟩ ∧ (XS ++ N).map (·.s) = S0) := ⟨hrow, hS⟩
        have HZ : Hid _ := HZ.out.kp hk
        have HS : Hid (ST B ts w vs XS bp a c j0 vd vs' ve' 0 N E0 y) := HS.out.call0 hst
        clear hk hst hS hrow HY 
        have n0 := HZ.out.cel 0 _ rfl
        have n1 := HZ.out.cel 1 _ rfl
        have n2 := HZ.out.cel 2 _ rfl
        have n3 := HZ.out.cel 3 _ rfl
        have n4 := HZ.out.cel 4 _ rfl
        have n5 := HZ.out.cel 5 _ rfl
        have n6 := HZ.out.cel 6 _ rfl
        have n7 := HZ.out.cel 7 _ rfl
        have n8 := HZ.out.cel 8 _ rfl
        have z0 := HZ.out.fro
        unfold dcV
        go_wp2_with fail
        refine bodyPost_ret (v := dcV ⟨s1, .slice aa s1.params.length ca, .slice ab s1.body.length cb⟩) ?_ rfl ?_
        · simp [results, Tryz.results54, go_sem, n0, n1, n2, n3, n4, n5, n6, n7, n8, z0, dcV]
        · exact fin9 HS.out HZ.out (Nat.le_refl _) ⟨s1, .slice aa s1.params.length ca, .slice ab s1.body.length cb⟩ HFR.out.1 HFR.out.2
    refine (skip_no (s := kInt) HS.out.pb hi1 h4q).mono ?_
    rintro e y3 ⟨rfl, hb1⟩
    have HR : Hid (_ = R) := (if_neg h4q).symm.trans HR.out
    have HS : Hid (ST B ts w vs XS bp a c (i + 1) vd vs ve 0 [] E y3) := HS.out.bel hb1
    have HZ : Hid _ := HZ.out.bel hb1
    clear hb1
    have HC : Hid (Calls Tryz.prog 79 #[.pointer (some ⟨bp, 0, none⟩), .bool true] y3 (KOut B ts y3 bp a c vd vs ve 0 (obj ts true (i + 1)))) := object_any G hi1 HS.out.pb true
    go_wp2_with fail
    refine Calls.mono HC.out ?_
    intro e y hy
    have HY : Hid (KOut B ts y3 bp a c vd vs ve 0 (obj ts true (i + 1)) e y) := hy
    clear hy HC
    cases hr : obj ts true (i + 1) with
    | none =>
      have h2 := HY.out
      rw [hr] at h2
      obtain ⟨hk, h3⟩ := h2
      have hR1 := HR.out
      rw [hr] at hR1
      obtain rfl : none = R := hR1
      have h3' : e = _ := h3
      subst h3'
      have HF : Hid (DOut B ts w bp a c vd vs XS none _ y) := ⟨HS.out.ks.kp.trans (hk.wide (by decide)), h3⟩
      clear h3 HY hk hr HS HR HZ
      go_wp2_with fail
      exact ⟨rfl, HF.out⟩
    | some r =>
      obtain ⟨ko, j⟩ := r
      have hlen := obj_len G hr
      have h2 := HY.out
      rw [hr] at h2
      obtain ⟨hk1, rfl, hp1⟩ := h2
      have hR1 := HR.out
      rw [hr, Option.bind_some] at hR1
      dsimp only at hR1
      have HR : Hid _ := hR1
      clear hR1 HY hr
      have HS : Hid (ST B ts w vs XS bp a c j vd vs ve 0 [] E y) := HS.out.tok hp1 hk1
      have HZ : Hid _ := HZ.out.kp (hk1.wide (by decide))
      clear hp1 hk1
      go_wp2_with fail
      by_cases h6q : (tk ts j).kind = 2
      rotate_left
      · refine (name_no HS.out.pb hlen.2 h6q).mono ?_
        rintro e y ⟨h3, hb3⟩
        obtain rfl : none = R := (if_neg h6q).symm.trans HR.out
        have h3' : e = _ := h3
        subst h3'
        have HF : Hid (DOut B ts w bp a c vd vs XS none _ y) := ⟨(HS.out.bel hb3).ks.kp, h3⟩
        clear h3 hb3 HS HR HZ
        go_wp2_with fail
        exact ⟨rfl, HF.out⟩
      refine (name_yes HS.out.pb hlen.2 h6q).mono ?_
      rintro e y4 ⟨rfl, hp1, hk1⟩
      have HR : Hid (_ = R) := (if_pos h6q).symm.trans HR.out
      have HS : Hid (ST B ts w vs XS bp a c (j + 1) vd vs ve 0 [] E y4) := HS.out.tok hp1 hk1
      have HZ : Hid _ := HZ.out.kp (hk1.wide (by decide))
      clear hp1 hk1
      have hj1 : j + 1 < ts.length := G.hk j (by rw [h6q]; decide)
      obtain ⟨W1, hW1⟩ : ∃ W1, y4.alloc (.cells #[.int .i64 ko, .string (X.str (tk ts j).text), .bool true, .int .i64 0, .string { data := #[] }, .slice none 0 0, .int .i64 0, .int .i64 0, .slice none 0 0] 54) = W1 := ⟨_, rfl⟩
      have HA : Hid (DB W1 w.heap.size y4.heap.size [.int .i64 ko, .string (X.str (tk ts j).text), .bool true, .int .i64 0, .string { data := #[] }, .slice none 0 0, .int .i64 0, .int .i64 0, .slice none 0 0]) := by show DB _ _ _ _; rw [← hW1]; exact DB.new HS.out.ks.kp.low.size
      have HNE : Hid (y4.heap.size ≠ w.heap.size) := by show _ ≠ _; have := blk_lt HZ.out.blk; omega
      have HZ : Hid (DB W1 w.heap.size w.heap.size [.int .i64 0, .string { data := #[] }, .bool false, .int .i64 0, .string { data := #[] }, .slice none 0 0, .int .i64 0, .int .i64 0, .slice none 0 0]) := by show DB _ _ _ _; rw [← hW1]; exact HZ.out.bel (bl1 _ _)
      have HS : Hid (ST B ts w vs XS bp a c (j + 1) vd vs ve 0 [] E W1) := by show ST _ _ _ _ _ _ _ _ _ _ _ _ _ _ _ _; rw [← hW1]; exact HS.out.bel (bl1 _ _)
      have HW1 : Hid (y4.alloc (.cells #[.int .i64 ko, .string (X.str (tk ts j).text), .bool true, .int .i64 0, .string { data := #[] }, .slice none 0 0, .int .i64 0, .int .i64 0, .slice none 0 0] 54) = W1) := hW1
      clear hW1
      by_cases h7q : ko = 3
      · subst h7q
        have HR : Hid (_ = R) := (if_pos (by simp)).symm.trans HR.out
        go_wp2_with fail
        rw [HW1.out]
        clear HW1
        have mm0 := HA.out.cel 0 _ rfl
        have mm1 := HA.out.cel 1 _ rfl
        have mm2 := HA.out.cel 2 _ rfl
        have mm3 := HA.out.cel 3 _ rfl
        have mm4 := HA.out.cel 4 _ rfl
        have mm5 := HA.out.cel 5 _ rfl
        have mm6 := HA.out.cel 6 _ rfl
        have mm7 := HA.out.cel 7 _ rfl
        have mm8 := HA.out.cel 8 _ rfl
        try go_wp2_with fail
        clear mm0 mm1 mm2 mm3 mm4 mm5 mm6 mm7 mm8
        by_cases h8q : (tk ts (j + 1)).kind = 1
        rotate_left
        · refine (size_kind HS.out.pb hj1 h8q).mono ?_
          rintro e y ⟨h3, hb3⟩
          obtain rfl : none = R := (if_neg h8q).symm.trans HR.out
          have h3' : e = _ := h3
          subst h3'
          have HF : Hid (DOut B ts w bp a c vd vs XS none _ y) := ⟨(HS.out.bel hb3).ks.kp, h3⟩
          clear h3 hb3 HS HR HZ HA
          go_wp2_with fail
          exact ⟨rfl, HF.out⟩
        have HR : Hid (_ = R) := (if_pos h8q).symm.trans HR.out
        by_cases h9q : (tk ts (j + 1)).n ≤ 1000000
        rotate_left
        · refine (size_big HS.out.pb hj1 h8q (by omega)).mono ?_
          rintro e y ⟨h3, hb3, hb4⟩
          obtain rfl : none = R := (if_neg h9q).symm.trans HR.out
          have h3' : e = _ := h3
          subst h3'
          have HF : Hid (DOut B ts w bp a c vd vs XS none _ y) := ⟨HS.out.ks.kp.trans (hb4.wide (by decide)), h3⟩
          clear h3 hb3 hb4 HS HR HZ HA
          go_wp2_with fail
          exact ⟨rfl, HF.out⟩
        refine (size_yes HS.out.pb hj1 h8q h9q).mono ?_
        rintro e y5 ⟨rfl, hp1, hk1⟩
        have HR : Hid (_ = R) := (if_pos h9q).symm.trans HR.out
        have HS : Hid (ST B ts w vs XS bp a c (j + 2) vd vs ve 0 [] E y5) := HS.out.tok hp1 hk1
        have HZ : Hid _ := HZ.out.kp (hk1.wide (by decide))
        have HA : Hid _ := HA.out.kp (hk1.wide (by decide))
        clear hp1 hk1
        have hj2 : j + 2 < ts.length := G.hk (j + 1) (by rw [h8q]; decide)
        have m0 := HA.out.cel 0 _ rfl
        have m1 := HA.out.cel 1 _ rfl
        have m2 := HA.out.cel 2 _ rfl
        have m3 := HA.out.cel 3 _ rfl
        have m4 := HA.out.cel 4 _ rfl
        have m5 := HA.out.cel 5 _ rfl
        have m6 := HA.out.cel 6 _ rfl
        have m7 := HA.out.cel 7 _ rfl
        have m8 := HA.out.cel 8 _ rfl
        have zm := HA.out.fro
        obtain ⟨Y6, hY6⟩ : ∃ Y6, y5.setCell ⟨y4.heap.size, 3, none⟩ (.int .i64 (tk ts (j + 1)).n) = Y6 := ⟨_, rfl⟩
        have HS : Hid (ST B ts w vs XS bp a c (j + 2) vd vs ve 0 [] E Y6) := by show ST _ _ _ _ _ _ _ _ _ _ _ _ _ _ _ _; rw [← hY6]; exact HS.out.dbox HA.out (Nat.le_refl _) _
        have HZ : Hid (DB Y6 w.heap.size w.heap.size [.int .i64 0, .string { data := #[] }, .bool false, .int .i64 0, .string { data := #[] }, .slice none 0 0, .int .i64 0, .int .i64 0, .slice none 0 0]) := by show DB _ _ _ _; rw [← hY6]; exact HZ.out.far HNE.out _
        have HA : Hid (DB Y6 w.heap.size y4.heap.size [.int .i64 3, .string (X.str (tk ts j).text), .bool true, .int .i64 (tk ts (j + 1)).n, .string { data := #[] }, .slice none 0 0, .int .i64 0, .int .i64 0, .slice none 0 0]) := by show DB _ _ _ _; rw [← hY6]; exact HA.out.put 3 (.int .i64 (tk ts (j + 1)).n)
        go_wp2_with fail
        try rw [hY6]
        clear hY6 m0 m1 m2 m3 m4 m5 m6 m7 m8 zm
        by_cases h10q : (tk ts (j + 2)).text = [59]
        rotate_left
        · refine (want_no (s := [59]) HS.out.pb hj2 h10q).mono ?_
          rintro e y ⟨h3, hb3⟩
          obtain rfl : none = R := (if_neg h10q).symm.trans HR.out
          have h3' : e = _ := h3
          subst h3'
          have HF : Hid (DOut B ts w bp a c vd vs XS none _ y) := ⟨(HS.out.bel hb3).ks.kp, h3⟩
          clear h3 hb3 HS HR HZ HA
          go_wp2_with fail
          exact ⟨rfl, HF.out⟩
        refine (want_yes (s := [59]) HS.out.pb hj2 h10q).mono ?_
        rintro e y7 ⟨rfl, hp1, hk1⟩
        have HR : Hid (_ = R) := (if_pos h10q).symm.trans HR.out
        have HS : Hid (ST B ts w vs XS bp a c (j + 3) vd vs ve 0 [] E y7) := HS.out.tok hp1 hk1
        have HZ : Hid _ := HZ.out.kp (hk1.wide (by decide))
        have HA : Hid _ := HA.out.kp (hk1.wide (by decide))
        clear hp1 hk1
        obtain rfl : _ = R := HR.out
        have m0 := HA.out.cel 0 _ rfl
        have m1 := HA.out.cel 1 _ rfl
        have m2 := HA.out.cel 2 _ rfl
        have m3 := HA.out.cel 3 _ rfl
        have m4 := HA.out.cel 4 _ rfl
        have m5 := HA.out.cel 5 _ rfl
        have m6 := HA.out.cel 6 _ rfl
        have m7 := HA.out.cel 7 _ rfl
        have m8 := HA.out.cel 8 _ rfl
        have n0 := HZ.out.cel 0 _ rfl
        have n1 := HZ.out.cel 1 _ rfl
        have n2 := HZ.out.cel 2 _ rfl
        have n3 := HZ.out.cel 3 _ rfl
        have n4 := HZ.out.cel 4 _ rfl
        have n5 := HZ.out.cel 5 _ rfl
        have n6 := HZ.out.cel 6 _ rfl
        have n7 := HZ.out.cel 7 _ rfl
        have n8 := HZ.out.cel 8 _ rfl
        have zm := HA.out.fro
        have z0 := HZ.out.fro
        go_wp2_with fail
        refine bodyPost_ret (v := dcV ⟨⟨3, (tk ts j).text, true, (tk ts (j + 1)).n, [], [], 0, 0, []⟩, .slice none 0 0, .slice none 0 0⟩) ?_ rfl ?_
        · simp [results, Tryz.results54, go_sem, n0, n1, n2, n3, n4, n5, n6, n7, n8, z0, dcV, str_nil]
        · exact fin9 HS.out HZ.out (Nat.le_refl _) ⟨⟨3, (tk ts j).text, true, (tk ts (j + 1)).n, [], [], 0, 0, []⟩, .slice none 0 0, .slice none 0 0⟩ (⟨World.ownsRow_nil _ _ _ _, World.ownsRow_nil _ _ _ _⟩) (by simp)
      · have e3 : (ko == 3) = false := by simpa using h7q
        have HR : Hid (_ = R) := (if_neg h7q).symm.trans HR.out
        go_wp2_with fail
        rw [HW1.out]
        clear HW1
        have mm0 := HA.out.cel 0 _ rfl
        have mm1 := HA.out.cel 1 _ rfl
        have mm2 := HA.out.cel 2 _ rfl
        have mm3 := HA.out.cel 3 _ rfl
        have mm4 := HA.out.cel 4 _ rfl
        have mm5 := HA.out.cel 5 _ rfl
        have mm6 := HA.out.cel 6 _ rfl
        have mm7 := HA.out.cel 7 _ rfl
        have mm8 := HA.out.cel 8 _ rfl
        try go_wp2_with fail
        clear e3 mm0 mm1 mm2 mm3 mm4 mm5 mm6 mm7 mm8
        by_cases h10q : (tk ts (j + 1)).text = [59]
        rotate_left
        · refine (want_no (s := [59]) HS.out.pb hj1 h10q).mono ?_
          rintro e y ⟨h3, hb3⟩
          obtain rfl : none = R := (if_neg h10q).symm.trans HR.out
          have h3' : e = _ := h3
          subst h3'
          have HF : Hid (DOut B ts w bp a c vd vs XS none _ y) := ⟨(HS.out.bel hb3).ks.kp, h3⟩
          clear h3 hb3 HS HR HZ HA
          go_wp2_with fail
          exact ⟨rfl, HF.out⟩
        refine (want_yes (s := [59]) HS.out.pb hj1 h10q).mono ?_
        rintro e y5 ⟨rfl, hp1, hk1⟩
        have HR : Hid (_ = R) := (if_pos h10q).symm.trans HR.out
        have HS : Hid (ST B ts w vs XS bp a c (j + 2) vd vs ve 0 [] E y5) := HS.out.tok hp1 hk1
        have HZ : Hid _ := HZ.out.kp (hk1.wide (by decide))
        have HA : Hid _ := HA.out.kp (hk1.wide (by decide))
        clear hp1 hk1
        obtain rfl : _ = R := HR.out
        have m0 := HA.out.cel 0 _ rfl
        have m1 := HA.out.cel 1 _ rfl
        have m2 := HA.out.cel 2 _ rfl
        have m3 := HA.out.cel 3 _ rfl
        have m4 := HA.out.cel 4 _ rfl
        have m5 := HA.out.cel 5 _ rfl
        have m6 := HA.out.cel 6 _ rfl
        have m7 := HA.out.cel 7 _ rfl
        have m8 := HA.out.cel 8 _ rfl
        have n0 := HZ.out.cel 0 _ rfl
        have n1 := HZ.out.cel 1 _ rfl
        have n2 := HZ.out.cel 2 _ rfl
        have n3 := HZ.out.cel 3 _ rfl
        have n4 := HZ.out.cel 4 _ rfl
        have n5 := HZ.out.cel 5 _ rfl
        have n6 := HZ.out.cel 6 _ rfl
        have n7 := HZ.out.cel 7 _ rfl
        have n8 := HZ.out.cel 8 _ rfl
        have zm := HA.out.fro
        have z0 := HZ.out.fro
        go_wp2_with fail
        refine bodyPost_ret (v := dcV ⟨⟨ko, (tk ts j).text, true, 0, [], [], 0, 0, []⟩, .slice none 0 0, .slice none 0 0⟩) ?_ rfl ?_
        · simp [results, Tryz.results54, go_sem, n0, n1, n2, n3, n4, n5, n6, n7, n8, z0, dcV, str_nil]
        · exact fin9 HS.out HZ.out (Nat.le_refl _) ⟨⟨ko, (tk ts j).text, true, 0, [], [], 0, 0, []⟩, .slice none 0 0, .slice none 0 0⟩ (⟨World.ownsRow_nil _ _ _ _, World.ownsRow_nil _ _ _ _⟩) (by simp)
  · refine (skip_no (s := kExtern) HS.out.pb hi h2).mono ?_
    rintro e y2 ⟨rfl, hb1⟩
    have HR : Hid (_ = R) := (if_neg h2).symm.trans HR.out
    have HS : Hid (ST B ts w vs XS bp a c i vd vs ve 0 [] E y2) := HS.out.bel hb1
    have HZ : Hid _ := HZ.out.bel hb1
    clear hb1
    go_wp2_with fail
    have hR1 := HR.out
    unfold dcl2 at hR1
    have HR : Hid _ := hR1
    clear hR1
    by_cases h4q : (tk ts i).text = kInt
    · refine (skip_yes (s := kInt) HS.out.pb hi h4q).mono ?_
      rintro e y3 ⟨rfl, hp1, hk1⟩
      have HR : Hid (_ = R) := (if_pos h4q).symm.trans HR.out
      have HS : Hid (ST B ts w vs XS bp a c (i + 1) vd vs ve 0 [] E y3) := HS.out.tok hp1 hk1
      have HZ : Hid _ := HZ.out.kp (hk1.wide (by decide))
      clear hp1 hk1
      have hj1 : (i + 1) < ts.length := G.ht _ (by rw [h4q]; decide)
      go_wp2_with fail
      obtain ⟨nm, hnm⟩ : ∃ nm, (tk ts (i + 1)).text = nm := ⟨_, rfl⟩
      have HNM : Hid ((tk ts (i + 1)).text = nm) := hnm
      have hR1 := HR.out
      rw [hnm] at hR1
      have HR : Hid _ := hR1
      clear hR1 hnm
      by_cases h5q : (tk ts (i + 1)).kind = 2
      rotate_left
      · refine (name_no HS.out.pb hj1 h5q).mono ?_
        rintro e y ⟨h3, hb3⟩
        obtain rfl : none = R := (if_neg h5q).symm.trans HR.out
        have h3' : e = _ := h3
        subst h3'
        have HF : Hid (DOut B ts w bp a c vd vs XS none _ y) := ⟨(HS.out.bel hb3).ks.kp, h3⟩
        clear h3 hb3 HS HR HZ
        go_wp2_with fail
        exact ⟨rfl, HF.out⟩
      refine (name_yes HS.out.pb hj1 h5q).mono ?_
      rw [HNM.out]
      rintro e y4 ⟨rfl, hp1, hk1⟩
      have HR : Hid (_ = R) := (if_pos h5q).symm.trans HR.out
      have HS : Hid (ST B ts w vs XS bp a c (i + 2) vd vs ve 0 [] E y4) := HS.out.tok hp1 hk1
      have HZ : Hid _ := HZ.out.kp (hk1.wide (by decide))
      clear hp1 hk1
      have hj2 : (i + 2) < ts.length := G.hk _ (by rw [h5q]; decide)
      have HC : Hid (Calls Tryz.prog 78 #[.pointer (some ⟨bp, 0, none⟩), .agg #[.int .i64 0, .string (X.str nm), .bool false, .int .i64 0, .string { data := #[] }, .slice none 0 0, .int .i64 0, .int .i64 0, .slice none 0 0]] y4 (DOut B ts y4 bp a c vd vs XS R)) := by
        rw [← HR.out]
        exact number_false G hB hf hj2 HS.out.base0 (by omega) (by omega) (HE.out _ HS.out.ks.kp) nm
      go_wp2_with fail
      refine Calls.mono HC.out ?_
      intro e y hy
      have HY : Hid (DOut B ts y4 bp a c vd vs XS R e y) := hy
      clear hy HC HR
      cases R with
      | none =>
        have h3' : e = _ := HY.out.2
        subst h3'
        have HF : Hid (DOut B ts w bp a c vd vs XS none _ y) := ⟨HS.out.ks.kp.trans HY.out.1, HY.out.2⟩
        clear HY HS HZ
        go_wp2_with fail
        exact ⟨rfl, HF.out⟩
      | some r =>
        obtain ⟨s0, j0, E0, S0⟩ := r
        obtain ⟨hk, vs', ve', N, ⟨s1, vp1, vb1⟩, hst, hS, hs1, rfl, hrow⟩ := HY.out
        dsimp only at hs1
        subst hs1
        obtain ⟨aa, ca, ab, cb, rfl, rfl⟩ := dxform hrow
        have HFR : Hid (DxR B y ⟨s1, .slice aa s1.params.length ca, .slice ab s1.body.length cb⟩ ∧ (XS ++ N).map (·.s) = S0) := ⟨hrow, hS⟩
        have HZ : Hid _ := HZ.out.kp hk
        have HS : Hid (ST B ts w vs XS bp a c j0 vd vs' ve' 0 N E0 y) := HS.out.call0 hst
        clear hk hst hS hrow HY 
        have n0 := HZ.out.cel 0 _ rfl
        have n1 := HZ.out.cel 1 _ rfl
        have n2 := HZ.out.cel 2 _ rfl
        have n3 := HZ.out.cel 3 _ rfl
        have n4 := HZ.out.cel 4 _ rfl
        have n5 := HZ.out.cel 5 _ rfl
        have n6 := HZ.out.cel 6 _ rfl
        have n7 := HZ.out.cel 7 _ rfl
        have n8 := HZ.out.cel 8 _ rfl
        have z0 := HZ.out.fro
        unfold dcV
        go_wp2_with fail
        refine bodyPost_ret (v := dcV ⟨s1, .slice aa s1.params.length ca, .slice ab s1.body.length cb⟩) ?_ rfl ?_
        · simp [results, Tryz.results54, go_sem, n0, n1, n2, n3, n4, n5, n6, n7, n8, z0, dcV]
        · exact fin9 HS.out HZ.out (Nat.le_refl _) ⟨s1, .slice aa s1.params.length ca, .slice ab s1.body.length cb⟩ HFR.out.1 HFR.out.2
    refine (skip_no (s := kInt) HS.out.pb hi h4q).mono ?_
    rintro e y3 ⟨rfl, hb1⟩
    have HR : Hid (_ = R) := (if_neg h4q).symm.trans HR.out
    have HS : Hid (ST B ts w vs XS bp a c i vd vs ve 0 [] E y3) := HS.out.bel hb1
    have HZ : Hid _ := HZ.out.bel hb1
    clear hb1
    have HC : Hid (Calls Tryz.prog 79 #[.pointer (some ⟨bp, 0, none⟩), .bool false] y3 (KOut B ts y3 bp a c vd vs ve 0 (obj ts false i))) := object_any G hi HS.out.pb false
    go_wp2_with fail
    refine Calls.mono HC.out ?_
    intro e y hy
    have HY : Hid (KOut B ts y3 bp a c vd vs ve 0 (obj ts false i) e y) := hy
    clear hy HC
    cases hr : obj ts false i with
    | none =>
      have h2 := HY.out
      rw [hr] at h2
      obtain ⟨hk, h3⟩ := h2
      have hR1 := HR.out
      rw [hr] at hR1
      obtain rfl : none = R := hR1
      have h3' : e = _ := h3
      subst h3'
      have HF : Hid (DOut B ts w bp a c vd vs XS none _ y) := ⟨HS.out.ks.kp.trans (hk.wide (by decide)), h3⟩
      clear h3 HY hk hr HS HR HZ
      go_wp2_with fail
      exact ⟨rfl, HF.out⟩
    | some r =>
      obtain ⟨ko, j⟩ := r
      have hlen := obj_len G hr
      have h2 := HY.out
      rw [hr] at h2
      obtain ⟨hk1, rfl, hp1⟩ := h2
      have hR1 := HR.out
      rw [hr, Option.bind_some] at hR1
      dsimp only at hR1
      have HR : Hid _ := hR1
      clear hR1 HY hr
      have HS : Hid (ST B ts w vs XS bp a c j vd vs ve 0 [] E y) := HS.out.tok hp1 hk1
      have HZ : Hid _ := HZ.out.kp (hk1.wide (by decide))
      clear hp1 hk1
      go_wp2_with fail
      by_cases h6q : (tk ts j).kind = 2
      rotate_left
      · refine (name_no HS.out.pb hlen.2 h6q).mono ?_
        rintro e y ⟨h3, hb3⟩
        obtain rfl : none = R := (if_neg h6q).symm.trans HR.out
        have h3' : e = _ := h3
        subst h3'
        have HF : Hid (DOut B ts w bp a c vd vs XS none _ y) := ⟨(HS.out.bel hb3).ks.kp, h3⟩
        clear h3 hb3 HS HR HZ
        go_wp2_with fail
        exact ⟨rfl, HF.out⟩
      refine (name_yes HS.out.pb hlen.2 h6q).mono ?_
      rintro e y4 ⟨rfl, hp1, hk1⟩
      have HR : Hid (_ = R) := (if_pos h6q).symm.trans HR.out
      have HS : Hid (ST B ts w vs XS bp a c (j + 1) vd vs ve 0 [] E y4) := HS.out.tok hp1 hk1
      have HZ : Hid _ := HZ.out.kp (hk1.wide (by decide))
      clear hp1 hk1
      have hj1 : j + 1 < ts.length := G.hk j (by rw [h6q]; decide)
      obtain ⟨W1, hW1⟩ : ∃ W1, y4.alloc (.cells #[.int .i64 ko, .string (X.str (tk ts j).text), .bool false, .int .i64 0, .string { data := #[] }, .slice none 0 0, .int .i64 0, .int .i64 0, .slice none 0 0] 54) = W1 := ⟨_, rfl⟩
      have HA : Hid (DB W1 w.heap.size y4.heap.size [.int .i64 ko, .string (X.str (tk ts j).text), .bool false, .int .i64 0, .string { data := #[] }, .slice none 0 0, .int .i64 0, .int .i64 0, .slice none 0 0]) := by show DB _ _ _ _; rw [← hW1]; exact DB.new HS.out.ks.kp.low.size
      have HNE : Hid (y4.heap.size ≠ w.heap.size) := by show _ ≠ _; have := blk_lt HZ.out.blk; omega
      have HZ : Hid (DB W1 w.heap.size w.heap.size [.int .i64 0, .string { data := #[] }, .bool false, .int .i64 0, .string { data := #[] }, .slice none 0 0, .int .i64 0, .int .i64 0, .slice none 0 0]) := by show DB _ _ _ _; rw [← hW1]; exact HZ.out.bel (bl1 _ _)
      have HS : Hid (ST B ts w vs XS bp a c (j + 1) vd vs ve 0 [] E W1) := by show ST _ _ _ _ _ _ _ _ _ _ _ _ _ _ _ _; rw [← hW1]; exact HS.out.bel (bl1 _ _)
      have HW1 : Hid (y4.alloc (.cells #[.int .i64 ko, .string (X.str (tk ts j).text), .bool false, .int .i64 0, .string { data := #[] }, .slice none 0 0, .int .i64 0, .int .i64 0, .slice none 0 0] 54) = W1) := hW1
      clear hW1
      by_cases h7q : ko = 3
      · subst h7q
        have HR : Hid (_ = R) := (if_pos (by simp)).symm.trans HR.out
        go_wp2_with fail
        rw [HW1.out]
        clear HW1
        have mm0 := HA.out.cel 0 _ rfl
        have mm1 := HA.out.cel 1 _ rfl
        have mm2 := HA.out.cel 2 _ rfl
        have mm3 := HA.out.cel 3 _ rfl
        have mm4 := HA.out.cel 4 _ rfl
        have mm5 := HA.out.cel 5 _ rfl
        have mm6 := HA.out.cel 6 _ rfl
        have mm7 := HA.out.cel 7 _ rfl
        have mm8 := HA.out.cel 8 _ rfl
        try go_wp2_with fail
        clear mm0 mm1 mm2 mm3 mm4 mm5 mm6 mm7 mm8
        by_cases h8q : (tk ts (j + 1)).kind = 1
        rotate_left
        · refine (size_kind HS.out.pb hj1 h8q).mono ?_
          rintro e y ⟨h3, hb3⟩
          obtain rfl : none = R := (if_neg h8q).symm.trans HR.out
          have h3' : e = _ := h3
          subst h3'
          have HF : Hid (DOut B ts w bp a c vd vs XS none _ y) := ⟨(HS.out.bel hb3).ks.kp, h3⟩
          clear h3 hb3 HS HR HZ HA
          go_wp2_with fail
          exact ⟨rfl, HF.out⟩
        have HR : Hid (_ = R) := (if_pos h8q).symm.trans HR.out
        by_cases h9q : (tk ts (j + 1)).n ≤ 1000000
        rotate_left
        · refine (size_big HS.out.pb hj1 h8q (by omega)).mono ?_
          rintro e y ⟨h3, hb3, hb4⟩
          obtain rfl : none = R := (if_neg h9q).symm.trans HR.out
          have h3' : e = _ := h3
          subst h3'
          have HF : Hid (DOut B ts w bp a c vd vs XS none _ y) := ⟨HS.out.ks.kp.trans (hb4.wide (by decide)), h3⟩
          clear h3 hb3 hb4 HS HR HZ HA
          go_wp2_with fail
          exact ⟨rfl, HF.out⟩
        refine (size_yes HS.out.pb hj1 h8q h9q).mono ?_
        rintro e y5 ⟨rfl, hp1, hk1⟩
        have HR : Hid (_ = R) := (if_pos h9q).symm.trans HR.out
        have HS : Hid (ST B ts w vs XS bp a c (j + 2) vd vs ve 0 [] E y5) := HS.out.tok hp1 hk1
        have HZ : Hid _ := HZ.out.kp (hk1.wide (by decide))
        have HA : Hid _ := HA.out.kp (hk1.wide (by decide))
        clear hp1 hk1
        have hj2 : j + 2 < ts.length := G.hk (j + 1) (by rw [h8q]; decide)
        have m0 := HA.out.cel 0 _ rfl
        have m1 := HA.out.cel 1 _ rfl
        have m2 := HA.out.cel 2 _ rfl
        have m3 := HA.out.cel 3 _ rfl
        have m4 := HA.out.cel 4 _ rfl
        have m5 := HA.out.cel 5 _ rfl
        have m6 := HA.out.cel 6 _ rfl
        have m7 := HA.out.cel 7 _ rfl
        have m8 := HA.out.cel 8 _ rfl
        have zm := HA.out.fro
        obtain ⟨Y6, hY6⟩ : ∃ Y6, y5.setCell ⟨y4.heap.size, 3, none⟩ (.int .i64 (tk ts (j + 1)).n) = Y6 := ⟨_, rfl⟩
        have HS : Hid (ST B ts w vs XS bp a c (j + 2) vd vs ve 0 [] E Y6) := by show ST _ _ _ _ _ _ _ _ _ _ _ _ _ _ _ _; rw [← hY6]; exact HS.out.dbox HA.out (Nat.le_refl _) _
        have HZ : Hid (DB Y6 w.heap.size w.heap.size [.int .i64 0, .string { data := #[] }, .bool false, .int .i64 0, .string { data := #[] }, .slice none 0 0, .int .i64 0, .int .i64 0, .slice none 0 0]) := by show DB _ _ _ _; rw [← hY6]; exact HZ.out.far HNE.out _
        have HA : Hid (DB Y6 w.heap.size y4.heap.size [.int .i64 3, .string (X.str (tk ts j).text), .bool false, .int .i64 (tk ts (j + 1)).n, .string { data := #[] }, .slice none 0 0, .int .i64 0, .int .i64 0, .slice none 0 0]) := by show DB _ _ _ _; rw [← hY6]; exact HA.out.put 3 (.int .i64 (tk ts (j + 1)).n)
        go_wp2_with fail
        try rw [hY6]
        clear hY6 m0 m1 m2 m3 m4 m5 m6 m7 m8 zm
        by_cases h10q : (tk ts (j + 2)).text = [59]
        rotate_left
        · refine (want_no (s := [59]) HS.out.pb hj2 h10q).mono ?_
          rintro e y ⟨h3, hb3⟩
          obtain rfl : none = R := (if_neg h10q).symm.trans HR.out
          have h3' : e = _ := h3
          subst h3'
          have HF : Hid (DOut B ts w bp a c vd vs XS none _ y) := ⟨(HS.out.bel hb3).ks.kp, h3⟩
          clear h3 hb3 HS HR HZ HA
          go_wp2_with fail
          exact ⟨rfl, HF.out⟩
        refine (want_yes (s := [59]) HS.out.pb hj2 h10q).mono ?_
        rintro e y7 ⟨rfl, hp1, hk1⟩
        have HR : Hid (_ = R) := (if_pos h10q).symm.trans HR.out
        have HS : Hid (ST B ts w vs XS bp a c (j + 3) vd vs ve 0 [] E y7) := HS.out.tok hp1 hk1
        have HZ : Hid _ := HZ.out.kp (hk1.wide (by decide))
        have HA : Hid _ := HA.out.kp (hk1.wide (by decide))
        clear hp1 hk1
        obtain rfl : _ = R := HR.out
        have m0 := HA.out.cel 0 _ rfl
        have m1 := HA.out.cel 1 _ rfl
        have m2 := HA.out.cel 2 _ rfl
        have m3 := HA.out.cel 3 _ rfl
        have m4 := HA.out.cel 4 _ rfl
        have m5 := HA.out.cel 5 _ rfl
        have m6 := HA.out.cel 6 _ rfl
        have m7 := HA.out.cel 7 _ rfl
        have m8 := HA.out.cel 8 _ rfl
        have n0 := HZ.out.cel 0 _ rfl
        have n1 := HZ.out.cel 1 _ rfl
        have n2 := HZ.out.cel 2 _ rfl
        have n3 := HZ.out.cel 3 _ rfl
        have n4 := HZ.out.cel 4 _ rfl
        have n5 := HZ.out.cel 5 _ rfl
        have n6 := HZ.out.cel 6 _ rfl
        have n7 := HZ.out.cel 7 _ rfl
        have n8 := HZ.out.cel 8 _ rfl
        have zm := HA.out.fro
        have z0 := HZ.out.fro
        go_wp2_with fail
        refine bodyPost_ret (v := dcV ⟨⟨3, (tk ts j).text, false, (tk ts (j + 1)).n, [], [], 0, 0, []⟩, .slice none 0 0, .slice none 0 0⟩) ?_ rfl ?_
        · simp [results, Tryz.results54, go_sem, n0, n1, n2, n3, n4, n5, n6, n7, n8, z0, dcV, str_nil]
        · exact fin9 HS.out HZ.out (Nat.le_refl _) ⟨⟨3, (tk ts j).text, false, (tk ts (j + 1)).n, [], [], 0, 0, []⟩, .slice none 0 0, .slice none 0 0⟩ (⟨World.ownsRow_nil _ _ _ _, World.ownsRow_nil _ _ _ _⟩) (by simp)
      · have e3 : (ko == 3) = false := by simpa using h7q
        have HR : Hid (_ = R) := (if_neg h7q).symm.trans HR.out
        go_wp2_with fail
        rw [HW1.out]
        clear HW1
        have mm0 := HA.out.cel 0 _ rfl
        have mm1 := HA.out.cel 1 _ rfl
        have mm2 := HA.out.cel 2 _ rfl
        have mm3 := HA.out.cel 3 _ rfl
        have mm4 := HA.out.cel 4 _ rfl
        have mm5 := HA.out.cel 5 _ rfl
        have mm6 := HA.out.cel 6 _ rfl
        have mm7 := HA.out.cel 7 _ rfl
        have mm8 := HA.out.cel 8 _ rfl
        try go_wp2_with fail
        clear e3 mm0 mm1 mm2 mm3 mm4 mm5 mm6 mm7 mm8
        by_cases h10q : (tk ts (j + 1)).text = [59]
        rotate_left
        · refine (want_no (s := [59]) HS.out.pb hj1 h10q).mono ?_
          rintro e y ⟨h3, hb3⟩
          obtain rfl : none = R := (if_neg h10q).symm.trans HR.out
          have h3' : e = _ := h3
          subst h3'
          have HF : Hid (DOut B ts w bp a c vd vs XS none _ y) := ⟨(HS.out.bel hb3).ks.kp, h3⟩
          clear h3 hb3 HS HR HZ HA
          go_wp2_with fail
          exact ⟨rfl, HF.out⟩
        refine (want_yes (s := [59]) HS.out.pb hj1 h10q).mono ?_
        rintro e y5 ⟨rfl, hp1, hk1⟩
        have HR : Hid (_ = R) := (if_pos h10q).symm.trans HR.out
        have HS : Hid (ST B ts w vs XS bp a c (j + 2) vd vs ve 0 [] E y5) := HS.out.tok hp1 hk1
        have HZ : Hid _ := HZ.out.kp (hk1.wide (by decide))
        have HA : Hid _ := HA.out.kp (hk1.wide (by decide))
        clear hp1 hk1
        obtain rfl : _ = R := HR.out
        have m0 := HA.out.cel 0 _ rfl
        have m1 := HA.out.cel 1 _ rfl
        have m2 := HA.out.cel 2 _ rfl
        have m3 := HA.out.cel 3 _ rfl
        have m4 := HA.out.cel 4 _ rfl
        have m5 := HA.out.cel 5 _ rfl
        have m6 := HA.out.cel 6 _ rfl
        have m7 := HA.out.cel 7 _ rfl
        have m8 := HA.out.cel 8 _ rfl
        have n0 := HZ.out.cel 0 _ rfl
        have n1 := HZ.out.cel 1 _ rfl
        have n2 := HZ.out.cel 2 _ rfl
        have n3 := HZ.out.cel 3 _ rfl
        have n4 := HZ.out.cel 4 _ rfl
        have n5 := HZ.out.cel 5 _ rfl
        have n6 := HZ.out.cel 6 _ rfl
        have n7 := HZ.out.cel 7 _ rfl
        have n8 := HZ.out.cel 8 _ rfl
        have zm := HA.out.fro
        have z0 := HZ.out.fro
        go_wp2_with fail
        refine bodyPost_ret (v := dcV ⟨⟨ko, (tk ts j).text, false, 0, [], [], 0, 0, []⟩, .slice none 0 0, .slice none 0 0⟩) ?_ rfl ?_
        · simp [results, Tryz.results54, go_sem, n0, n1, n2, n3, n4, n5, n6, n7, n8, z0, dcV, str_nil]
        · exact fin9 HS.out HZ.out (Nat.le_refl _) ⟨⟨ko, (tk ts j).text, false, 0, [], [], 0, 0, []⟩, .slice none 0 0, .slice none 0 0⟩ (⟨World.ownsRow_nil _ _ _ _, World.ownsRow_nil _ _ _ _⟩) (by simp)
end Go.Proofs.YtikknlkdbjaonaaGreatDoor.Y
