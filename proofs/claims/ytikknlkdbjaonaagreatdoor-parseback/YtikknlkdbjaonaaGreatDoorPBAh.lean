/- Statements, as the program's parser reads them. -/
import Derived.Test.YtikknlkdbjaonaaGreatDoorPBAg
namespace Go.Proofs.YtikknlkdbjaonaaGreatDoor.Y
open Go.RowKit Go.Maps
set_option linter.unusedVariables false
set_option linter.unusedSimpArgs false
set_option maxRecDepth 100000 in
set_option maxHeartbeats 2000000 in
theorem value_any {B : Nat} {ts : List X.Tok} {bp : Nat} {a : Option Addr} {c : Nat} {vd vs ve : Value} {XS : List Sx} (G : Good ts) (hB : 8 ≤ B) {i : Nat} (hi : i < ts.length) {w : World} {d : Nat} {E : List Exp} (h : ST B ts w vs XS bp a c i vd vs ve d [] E w) (hd : d ≤ 20) (hl : E.length ≤ i) (he : Env w) (s : Stmt) (h1 : s.args = []) (h2 : s.body = []) (h3 : s.els = []) : Calls Tryz.prog 118 #[.pointer (some ⟨bp, 0, none⟩), stV ⟨s, .slice none 0 0, .slice none 0 0, .slice none 0 0⟩] w (SOut B ts w bp a c vd vs XS d (val ts s d i E (XS.map (·.s)))) := by
  obtain ⟨R, hR⟩ : ∃ R, val ts s d i E (XS.map (·.s)) = R := ⟨_, rfl⟩
  have hR0 := hR
  unfold val at hR0
  have HR : Hid _ := hR0
  rw [hR]
  clear hR hR0
  obtain ⟨Y0, hY0⟩ : ∃ Y0, w.alloc (.cells #[.int .i64 s.kind, .string (X.str s.name), .string (X.str s.fn), .int .i64 s.e, .int .i64 s.i, .slice none 0 0, .slice none 0 0, .slice none 0 0] 35) = Y0 := ⟨_, rfl⟩
  have HS0 : Hid (ST B ts w vs XS bp a c i vd vs ve d [] E Y0) := by show ST _ _ _ _ _ _ _ _ _ _ _ _ _ _ _ _; rw [← hY0]; exact h.bel (bl1 _ _)
  have HA0 : Hid (SB Y0 vs w.heap.size w.heap.size [.int .i64 s.kind, .string (X.str s.name), .string (X.str s.fn), .int .i64 s.e, .int .i64 s.i, .slice none 0 0, .slice none 0 0, .slice none 0 0]) := by show SB _ _ _ _ _; rw [← hY0]; exact SB.new h (Nat.le_refl _)
  obtain ⟨Y1, hY1⟩ : ∃ Y1, Y0.alloc (.cells #[.int .i64 0, .string { data := #[] }, .string { data := #[] }, .int .i64 0, .int .i64 0, .slice none 0 0, .slice none 0 0, .slice none 0 0] 35) = Y1 := ⟨_, rfl⟩
  have HS : Hid (ST B ts w vs XS bp a c i vd vs ve d [] E Y1) := by show ST _ _ _ _ _ _ _ _ _ _ _ _ _ _ _ _; rw [← hY1]; exact HS0.out.bel (bl1 _ _)
  have HA : Hid (SB Y1 vs w.heap.size w.heap.size [.int .i64 s.kind, .string (X.str s.name), .string (X.str s.fn), .int .i64 s.e, .int .i64 s.i, .slice none 0 0, .slice none 0 0, .slice none 0 0]) := by show SB _ _ _ _ _; rw [← hY1]; exact HA0.out.bel (bl1 _ _)
  have HZ : Hid (SB Y1 vs w.heap.size Y0.heap.size (#[.int .i64 0, .string { data := #[] }, .string { data := #[] }, .int .i64 0, .int .i64 0, .slice none 0 0, .slice none 0 0, .slice none 0 0] : Array Value).toList) := by show SB _ _ _ _ _; rw [← hY1]; exact SB.new HS0.out HS0.out.ks.kp.low.size
  have HNE : Hid (w.heap.size ≠ Y0.heap.size) := by show _ ≠ _; rw [← hY0]; simp
  have HE : Hid (∀ y, Kp T3 B w y → Env y) := fun y hy => he.kp hy hB
  have HC : Hid (Calls Tryz.prog 143 #[.pointer (some ⟨bp, 0, none⟩)] Y1 (EOut B ts Y1 bp a c vd vs d (Bin ts 1 d i E))) := exp_full G hB hi HS.out.px hd hl (HE.out _ HS.out.ks.kp)
  clear h he HS0 HA0
  unfold stV
  go_enter Tryz.func118, Tryz.ntmps118
  go_wp2_with fail
  clear hY0 hY1
  refine Calls.mono HC.out ?_
  intro e y hy
  have HY : Hid (EOut B ts Y1 bp a c vd vs d (Bin ts 1 d i E) e y) := hy
  clear hy HC
  cases hr : Bin ts 1 d i E with
  | none =>
    have h2 := HY.out
    rw [hr] at h2
    obtain ⟨hk, h3⟩ := h2
    have hR1 := HR.out
    rw [hr] at hR1
    obtain rfl : none = R := hR1
    have h3' : e = _ := h3
    subst h3'
    have HF : Hid (SOut B ts w bp a c vd vs XS d none _ y) := ⟨HS.out.ks.kp.trans (hk.wide (by decide)), h3⟩
    clear h3 HY hk hr HR HS HA HZ
    go_wp2_with fail
    exact ⟨rfl, HF.out⟩
  | some r =>
    obtain ⟨x, j, E'⟩ := r
    have hlen := Bin_len G (Nat.le_refl _) hr
    have h2 := HY.out
    rw [hr] at h2
    obtain ⟨hk, rfl, hx⟩ := h2
    have hR1 := HR.out
    rw [hr, Option.bind_some] at hR1
    dsimp only at hR1
    have HR : Hid _ := hR1
    obtain ⟨ve2, hs2⟩ := HS.out.exp hk hx
    have HS : Hid (ST B ts w vs XS bp a c j vd vs ve2 d [] E' y) := hs2
    have HA : Hid _ := HA.out.ks (Ks.of2 hk)
    have HZ : Hid _ := HZ.out.ks (Ks.of2 hk)
    clear hs2 hk hx hR1 HY hr
    have m0 := HA.out.cel 0 _ rfl
    have m1 := HA.out.cel 1 _ rfl
    have m2 := HA.out.cel 2 _ rfl
    have m3 := HA.out.cel 3 _ rfl
    have m4 := HA.out.cel 4 _ rfl
    have m5 := HA.out.cel 5 _ rfl
    have m6 := HA.out.cel 6 _ rfl
    have m7 := HA.out.cel 7 _ rfl
    have zm := HA.out.fro
    obtain ⟨Y2, hY2⟩ : ∃ Y2, y.setCell ⟨w.heap.size, 3, none⟩ (.int .i64 (x : Int)) = Y2 := ⟨_, rfl⟩
    have HS : Hid (ST B ts w vs XS bp a c j vd vs ve2 d [] E' Y2) := by show ST _ _ _ _ _ _ _ _ _ _ _ _ _ _ _ _; rw [← hY2]; exact HS.out.box HA.out (Nat.le_refl _) _
    have HZ : Hid (SB Y2 vs w.heap.size Y0.heap.size (#[.int .i64 0, .string { data := #[] }, .string { data := #[] }, .int .i64 0, .int .i64 0, .slice none 0 0, .slice none 0 0, .slice none 0 0] : Array Value).toList) := by show SB _ _ _ _ _; rw [← hY2]; exact HZ.out.far HNE.out _
    have HA : Hid (SB Y2 vs w.heap.size w.heap.size [.int .i64 s.kind, .string (X.str s.name), .string (X.str s.fn), .int .i64 (x : Int), .int .i64 s.i, .slice none 0 0, .slice none 0 0, .slice none 0 0]) := by show SB _ _ _ _ _; rw [← hY2]; exact HA.out.put 3 (.int .i64 (x : Int))
    go_wp2_with fail
    try rw [hY2]
    clear hY2 m0 m1 m2 m3 m4 m5 m6 m7 zm
    by_cases hw : (tk ts (j)).text = [59]
    rotate_left
    · refine (want_no (s := [59]) HS.out.pb hlen.2.1 hw).mono ?_
      rintro e y ⟨h3, hb3⟩
      obtain rfl : none = R := (if_neg hw).symm.trans HR.out
      have h3' : e = _ := h3
      subst h3'
      have HF : Hid (SOut B ts w bp a c vd vs XS d none _ y) := ⟨(HS.out.bel hb3).ks.kp, h3⟩
      clear h3 hb3 HS HR hw
      go_wp2_with fail
      exact ⟨rfl, HF.out⟩
    refine (want_yes (s := [59]) HS.out.pb hlen.2.1 hw).mono ?_
    rintro e y3 ⟨rfl, hp1, hk1⟩
    have HS : Hid (ST B ts w vs XS bp a c (j + 1) vd vs ve2 d [] E' y3) := HS.out.tok hp1 hk1
    have HR : Hid (_ = R) := (if_pos hw).symm.trans HR.out
    have HA : Hid _ := HA.out.ks (Ks.of1 hk1)
    have HZ : Hid _ := HZ.out.ks (Ks.of1 hk1)
    clear hp1 hk1
    obtain rfl : some ({ s with e := (x : Int) }, j + 1, E', XS.map (·.s)) = R := HR.out
    have m0 := HA.out.cel 0 _ rfl
    have m1 := HA.out.cel 1 _ rfl
    have m2 := HA.out.cel 2 _ rfl
    have m3 := HA.out.cel 3 _ rfl
    have m4 := HA.out.cel 4 _ rfl
    have m5 := HA.out.cel 5 _ rfl
    have m6 := HA.out.cel 6 _ rfl
    have m7 := HA.out.cel 7 _ rfl
    have n0 := HZ.out.cel 0 _ rfl
    have n1 := HZ.out.cel 1 _ rfl
    have n2 := HZ.out.cel 2 _ rfl
    have n3 := HZ.out.cel 3 _ rfl
    have n4 := HZ.out.cel 4 _ rfl
    have n5 := HZ.out.cel 5 _ rfl
    have n6 := HZ.out.cel 6 _ rfl
    have n7 := HZ.out.cel 7 _ rfl
    have zm := HA.out.fro
    have z0 := HZ.out.fro
    go_wp2_with fail
    refine bodyPost_ret (v := stV ⟨{ s with e := (x : Int) }, .slice none 0 0, .slice none 0 0, .slice none 0 0⟩) ?_ rfl ?_
    · simp [results, Tryz.results118, go_sem, n0, n1, n2, n3, n4, n5, n6, n7, z0, stV, str_nil]
    · exact fin8 HS.out HZ.out (Nat.le_refl _) ⟨{ s with e := (x : Int) }, .slice none 0 0, .slice none 0 0, .slice none 0 0⟩ (SxR.nil _ _ _ h1 h2 h3) (Fresh.nil _ _) (by simp)
set_option maxRecDepth 100000 in
set_option maxHeartbeats 2000000 in
theorem cond_any {B : Nat} {ts : List X.Tok} {bp : Nat} {a : Option Addr} {c : Nat} {vd vs ve : Value} {XS : List Sx} (G : Good ts) (hB : 8 ≤ B) {i : Nat} (hi : i < ts.length) {w : World} {d : Nat} {E : List Exp} (h : ST B ts w vs XS bp a c i vd vs ve d [] E w) (hd : d ≤ 20) (hl : E.length ≤ i) (he : Env w) : Calls Tryz.prog 120 #[.pointer (some ⟨bp, 0, none⟩)] w (EOut B ts w bp a c vd vs d (cnd ts d i E)) := by
  obtain ⟨R, hR⟩ : ∃ R, cnd ts d i E = R := ⟨_, rfl⟩
  have hR0 := hR
  unfold cnd at hR0
  have HR : Hid _ := hR0
  rw [hR]
  clear hR hR0
  have HS : Hid (ST B ts w vs XS bp a c i vd vs ve d [] E w) := h
  have HE : Hid (∀ y, Kp T3 B w y → Env y) := fun y hy => he.kp hy hB
  clear h he
  go_enter Tryz.func120, Tryz.ntmps120
  go_wp2_with fail
  by_cases h1 : (tk ts (i)).text = [40]
  rotate_left
  · refine (want_no (s := [40]) HS.out.pb hi h1).mono ?_
    rintro e y ⟨h3, hb3⟩
    obtain rfl : none = R := (if_neg h1).symm.trans HR.out
    have h3' : e = _ := h3
    subst h3'
    have HF : Hid (EOut B ts w bp a c vd vs d none _ y) := ⟨(Kp.of hb3 HS.out.le), h3⟩
    clear h3 hb3 HS HR h1
    go_wp2_with fail
    exact ⟨rfl, HF.out⟩
  refine (want_yes (s := [40]) HS.out.pb hi h1).mono ?_
  rintro e y1 ⟨rfl, hp1, hk1⟩
  have HS : Hid (ST B ts w vs XS bp a c (i + 1) vd vs ve d [] E y1) := HS.out.tok hp1 hk1
  have HR : Hid (_ = R) := (if_pos h1).symm.trans HR.out
  have HK2 : Hid (Kp [69, 32] B w y1) := hk1.up
  clear hp1 hk1
  have hi1 : i + 1 < ts.length := G.ht i (by rw [h1]; simp)
  have HC : Hid (Calls Tryz.prog 143 #[.pointer (some ⟨bp, 0, none⟩)] y1 (EOut B ts y1 bp a c vd vs d (Bin ts 1 d (i + 1) E))) := exp_full G hB hi1 HS.out.px hd (by omega) (HE.out _ HS.out.ks.kp)
  clear h1
  go_wp2_with fail
  refine Calls.mono HC.out ?_
  intro e y hy
  have HY : Hid (EOut B ts y1 bp a c vd vs d (Bin ts 1 d (i + 1) E) e y) := hy
  clear hy HC
  cases hr : Bin ts 1 d (i + 1) E with
  | none =>
    have h2 := HY.out
    rw [hr] at h2
    obtain ⟨hk, h3⟩ := h2
    have hR1 := HR.out
    rw [hr] at hR1
    obtain rfl : none = R := hR1
    have h3' : e = _ := h3
    subst h3'
    have HF : Hid (EOut B ts w bp a c vd vs d none _ y) := ⟨HK2.out.trans hk, h3⟩
    clear h3 HY hk hr HR HS HK2
    go_wp2_with fail
    exact ⟨rfl, HF.out⟩
  | some r =>
    obtain ⟨x, j, E'⟩ := r
    have hlen := Bin_len G (Nat.le_refl _) hr
    have h2 := HY.out
    rw [hr] at h2
    obtain ⟨hk, rfl, hx⟩ := h2
    have hR1 := HR.out
    rw [hr, Option.bind_some] at hR1
    dsimp only at hR1
    have HR : Hid _ := hR1
    have HK2 : Hid (Kp [69, 32] B w y) := HK2.out.trans hk
    obtain ⟨ve2, hs2⟩ := HS.out.exp hk hx
    have HS : Hid (ST B ts w vs XS bp a c j vd vs ve2 d [] E' y) := hs2
    clear hs2 hk hx hR1 HY hr
    go_wp2_with fail
    by_cases h5 : (tk ts (j)).text = [41]
    rotate_left
    · refine (want_no (s := [41]) HS.out.pb hlen.2.1 h5).mono ?_
      rintro e y ⟨h3, hb3⟩
      obtain rfl : none = R := (if_neg h5).symm.trans HR.out
      have h3' : e = _ := h3
      subst h3'
      have HF : Hid (EOut B ts w bp a c vd vs d none _ y) := ⟨HK2.out.trans (Kp.of hb3 HS.out.le), h3⟩
      clear h3 hb3 HS HR h5
      go_wp2_with fail
      exact ⟨rfl, HF.out⟩
    refine (want_yes (s := [41]) HS.out.pb hlen.2.1 h5).mono ?_
    rintro e y3 ⟨rfl, hp1, hk1⟩
    have HS : Hid (ST B ts w vs XS bp a c (j + 1) vd vs ve2 d [] E' y3) := HS.out.tok hp1 hk1
    have HR : Hid (_ = R) := (if_pos h5).symm.trans HR.out
    have HK2 : Hid (Kp [69, 32] B w y3) := HK2.out.trans hk1.up
    clear hp1 hk1
    obtain rfl : some (x, j + 1, E') = R := HR.out
    have HF : Hid (EOut B ts w bp a c vd vs d (some (x, j + 1, E')) (.returned (.int .i64 (x : Int))) y3) := ⟨HK2.out, rfl, HS.out.px⟩
    clear HS HR HK2
    go_wp2_with fail
    go_ret
    exact HF.out
set_option maxRecDepth 100000 in
set_option maxHeartbeats 2000000 in
theorem isCall_any {B : Nat} {ts : List X.Tok} {bp : Nat} {a : Option Addr} {c : Nat} {vd vs ve : Value} {XS : List Sx} (G : Good ts) (hB : 8 ≤ B) {i : Nat} (hi : i < ts.length) {w : World} {d : Nat} {E : List Exp} (h : ST B ts w vs XS bp a c i vd vs ve d [] E w) : Calls Tryz.prog 121 #[.pointer (some ⟨bp, 0, none⟩)] w fun e w' => e = .returned (.bool (isC ts i)) ∧ Below w.heap.size w w' := by
  obtain ⟨R, hR⟩ : ∃ R, isC ts i = R := ⟨_, rfl⟩
  have hR0 := hR
  unfold isC at hR0
  have HR : Hid _ := hR0
  rw [hR]
  clear hR hR0
  have HP : Hid (PB B ts w bp a c i vd vs ve d) := h.pb
  have hf0 := fun y a0 a1 a2 a3 => fld0 y a0 a1 a2 a3
  clear h
  go_enter Tryz.func121, Tryz.ntmps121
  go_wp2_with fail
  by_cases h1 : (tk ts i).text = kGet
  · obtain rfl : true = R := by rw [← HR.out, decide_eq_true h1]; rfl
    refine (is_yes (s := kGet) HP.out hi h1).mono ?_
    rintro e y ⟨rfl, hb⟩
    have HB : Hid (Below w.heap.size w y) := hb
    clear hb h1 HR HP
    go_wp2_with fail
    go_ret
    exact ⟨rfl, HB.out⟩
  refine (is_no (s := kGet) HP.out hi h1).mono ?_
  rintro e y ⟨rfl, hb⟩
  have HP1 : Hid (PB B ts y bp a c i vd vs ve d) := HP.out.below hb
  have HB1 : Hid (Below w.heap.size w y) := hb
  have HR1 : Hid ((decide ((tk ts i).text = kPut) || (decide ((tk ts i).kind = 2) && decide ((tk ts (i + 1)).text = [40]))) = R) := by
    show _ = R
    rw [← HR.out, decide_eq_false h1]; rfl
  clear hb h1 HR HP
  go_wp2_with fail
  by_cases h1 : (tk ts i).text = kPut
  · obtain rfl : true = R := by rw [← HR1.out, decide_eq_true h1]; rfl
    refine (is_yes (s := kPut) HP1.out hi h1).mono ?_
    rintro e y2 ⟨rfl, hb⟩
    have HB : Hid (Below w.heap.size w y2) := HB1.out.trans (hb.mono HB1.out.size)
    clear hb h1 HR1 HP1 HB1
    go_wp2_with fail
    go_ret
    exact ⟨rfl, HB.out⟩
  refine (is_no (s := kPut) HP1.out hi h1).mono ?_
  rintro e y2 ⟨rfl, hb⟩
  have HP2 : Hid (PB B ts y2 bp a c i vd vs ve d) := HP1.out.below hb
  have HB2 : Hid (Below w.heap.size w y2) := HB1.out.trans (hb.mono HB1.out.size)
  have HR2 : Hid ((decide ((tk ts i).kind = 2) && decide ((tk ts (i + 1)).text = [40])) = R) := by
    show _ = R
    rw [← HR1.out, decide_eq_false h1]; rfl
  clear hb h1 HR1 HP1 HB1
  go_wp2_with fail
  refine (now_any HP2.out hi).mono ?_
  unfold tokV
  rintro e y3 ⟨rfl, hb⟩
  have HP3 : Hid (PB B ts y3 bp a c i vd vs ve d) := HP2.out.below hb
  have HB3 : Hid (Below w.heap.size w y3) := HB2.out.trans (hb.mono HB2.out.size)
  clear hb HP2 HB2
  by_cases h4 : (tk ts i).kind = 2
  · have e4 : (((tk ts i).kind : Int) == 2) = true := by rw [h4]; rfl
    have hi1 := G.hk i (by rw [h4]; decide)
    have hdd : decide ((tk ts (i + 1)).text = [40]) = R := by rw [← HR2.out, decide_eq_true h4]; rfl
    have HAH : Hid (Calls Tryz.prog 144 #[.pointer (some ⟨bp, 0, none⟩), .string { data := #[40] }] y3 fun e w' => e = .returned (.bool R) ∧ Below y3.heap.size y3 w') := by rw [← hdd]; exact ahead_any HP3.out hi1 [40]
    clear h4 HR2 hdd HP3
    go_wp2_with fail
    refine HAH.out.mono ?_
    rintro e y4 ⟨rfl, hb⟩
    have HB : Hid (Below w.heap.size w y4) := HB3.out.trans (hb.mono HB3.out.size)
    clear hb HB3 HAH
    go_wp2_with fail
    go_ret
    exact ⟨rfl, HB.out⟩
  · have e4 : (((tk ts i).kind : Int) == 2) = false := by
      have : ((tk ts i).kind : Int) ≠ 2 := fun e => h4 (by omega)
      simpa using this
    obtain rfl : false = R := by rw [← HR2.out, decide_eq_false h4]; rfl
    clear h4 HR2 HP3
    go_wp2_with fail
    go_ret
    exact ⟨rfl, HB3.out⟩
set_option maxRecDepth 100000 in
set_option maxHeartbeats 2000000 in
/-- What reading arguments comes to. -/
def AOut (B : Nat) (ts : List X.Tok) (w : World) (bp : Nat) (a : Option Addr) (c : Nat) (vd vs : Value) (d : Nat) (r : Option (List Int × Nat × List Exp)) (e : Ending) (w' : World) : Prop :=
  Kp [69, 32] B w w' ∧ match r with
    | none => Fails e
    | some (l, j, E') => ∃ a' c', e = .returned (.slice a' l.length c') ∧ w'.ownsRow w.heap.size 3 1 (.slice a' l.length c') l.length (l.map iZ) ∧ PX B ts w' bp a c j vd vs E' d
theorem PX.grow {B C n : Nat} {ts : List X.Tok} {y z : World} {bp : Nat} {a : Option Addr} {c i : Nat} {vd vs v : Value} {E : List Exp} {d : Nat} {l : List Value} (h : PX B ts y bp a c i vd vs E d) (ho : y.ownsRow C 3 1 v n l) (hg : y.grownBy z v.ownBlock) (hC : C ≤ y.heap.size) : PX B ts z bp a c i vd vs E d := by
  have hk : Kp [3] C y z := Kp.grown ho hg (by decide) hC
  obtain ⟨ve, hp, hr⟩ := h
  exact ⟨ve, ⟨hp.ge, hk.keep _ _ _ _ hp.blk (by decide), row_kp hp.tok hk (by decide)⟩, row_kp hr hk (by decide)⟩
theorem row_one (w : World) (z : Int) : (w.alloc (.cells #[iZ z] 3)).ownsRow w.heap.size 3 1 (.slice (some ⟨w.heap.size, 0, none⟩) 1 1) 1 [iZ z] :=
  ⟨rfl, .inr ⟨w.heap.size, 1, #[iZ z], rfl, Nat.le_refl _, heap_new _ _, Nat.le_refl _, by decide, rfl, rfl⟩⟩
theorem row_low {C B n k : Nat} {y : World} {e : TypeId} {v : Value} {l : List Value} (h : y.ownsRow C e k v n l) (hB : B ≤ C) : y.ownsRow B e k v n l := by
  refine ⟨h.1, ?_⟩
  rcases h.2 with h0 | ⟨g, cap, cur, h1, h2, h3⟩
  · exact .inl h0
  · exact .inr ⟨g, cap, cur, h1, Nat.le_trans hB h2, h3⟩
set_option maxRecDepth 100000 in
set_option maxHeartbeats 2000000 in
theorem args_any {B : Nat} {ts : List X.Tok} {bp : Nat} {a : Option Addr} {c : Nat} {vd vs ve : Value} {XS : List Sx} (G : Good ts) (hB : 8 ≤ B) {i : Nat} (hi : i < ts.length) {w : World} {d : Nat} {E : List Exp} (h : PX B ts w bp a c i vd vs E d) (hd : d ≤ 20) (hl : E.length ≤ i) (he : Env w) : Calls Tryz.prog 145 #[.pointer (some ⟨bp, 0, none⟩)] w (AOut B ts w bp a c vd vs d (ag ts d i E)) := by
  obtain ⟨R, hR⟩ : ∃ R, ag ts d i E = R := ⟨_, rfl⟩
  have hR0 := hR
  unfold ag at hR0
  have HR : Hid _ := hR0
  rw [hR]
  clear hR hR0
  obtain ⟨i0, hi0, hz0, hz1, hz2⟩ := info_parts infoI
  have HE : Hid (∀ y, Kp [69, 32] B w y → Env y) := fun y hy => he.kp hy hB
  have hN := G.len
  have hm2 : maxLen = 9223372036854775807 := rfl
  have HX0 : Hid (PX B ts w bp a c i vd vs E d) := h
  have HBW : Hid (B ≤ w.heap.size) := h.le
  obtain ⟨ve0, hp0, ho0⟩ := h
  clear he
  go_enter Tryz.func145, Tryz.ntmps145
  go_wp2_with fail
  by_cases h1 : (tk ts i).text = [41]
  · obtain rfl : some ([], i, E) = R := (if_pos h1).symm.trans HR.out
    refine (is_yes (s := [41]) hp0 hi h1).mono ?_
    rintro e y ⟨rfl, hb⟩
    have HF : Hid (AOut B ts w bp a c vd vs d (some ([], i, E)) (.returned (.slice none 0 0)) y) := ⟨Kp.of hb hp0.le, none, 0, rfl, World.ownsRow_nil _ _ _ _, HX0.out.below hb⟩
    clear hp0 ho0 hb h1 HR
    go_wp2_with fail
    go_ret
    exact HF.out
  refine (is_no (s := [41]) hp0 hi h1).mono ?_
  rintro e y ⟨rfl, hb⟩
  have HR : Hid (_ = R) := (if_neg h1).symm.trans HR.out
  have HK1 : Hid (Kp [69, 32] B w y) := Kp.of hb hp0.le
  have HC : Hid (Calls Tryz.prog 143 #[.pointer (some ⟨bp, 0, none⟩)] y (EOut B ts y bp a c vd vs d (Bin ts 1 d i E))) := exp_full G hB hi (HX0.out.below hb) hd hl (HE.out _ HK1.out)
  clear hp0 ho0 hb h1 HX0
  go_wp2_with fail
  refine Calls.mono HC.out ?_
  intro e y1 hy
  have HY : Hid (EOut B ts y bp a c vd vs d (Bin ts 1 d i E) e y1) := hy
  clear hy HC
  cases hr : Bin ts 1 d i E with
  | none =>
    have h2 := HY.out
    rw [hr] at h2
    obtain ⟨hk, h3⟩ := h2
    have hR1 := HR.out
    rw [hr] at hR1
    obtain rfl : none = R := hR1
    have h3' : e = _ := h3
    subst h3'
    have HF : Hid (AOut B ts w bp a c vd vs d none _ y1) := ⟨HK1.out.trans hk, h3⟩
    clear HY hk hr HR HK1 h3
    go_wp2_with fail
    exact ⟨rfl, HF.out⟩
  | some r =>
    obtain ⟨x, j0, E0⟩ := r
    have hlen := Bin_len G (Nat.le_refl _) hr
    have h2 := HY.out
    rw [hr] at h2
    obtain ⟨hk, rfl, hx⟩ := h2
    have hR1 := HR.out
    rw [hr, Option.bind_some] at hR1
    dsimp only at hR1
    obtain ⟨W, hW⟩ : ∃ W, y1.alloc (.cells #[iZ (x : Int)] 3) = W := ⟨_, rfl⟩
    have HR0 : Hid (al ts (ts.length + 1) d j0 [(x : Int)] E0 = R) := hR1
    have HK0 : Hid (Kp [69, 32] B w W) := by show Kp _ _ _ _; rw [← hW]; exact (HK1.out.trans hk).trans (Kp.of (bl1 _ _) hx.le)
    have HO0 : Hid (W.ownsRow w.heap.size 3 1 (.slice (some ⟨y1.heap.size, 0, none⟩) 1 1) 1 ([(x : Int)].map iZ)) := by show World.ownsRow _ _ _ _ _ _ _; rw [← hW]; exact row_low (row_one y1 x) (HK1.out.trans hk).low.size
    have HX0 : Hid (PX B ts W bp a c j0 vd vs E0 d) := by show PX _ _ _ _ _ _ _ _ _ _ _; rw [← hW]; exact hx.below (bl1 _ _)
    clear HY hk hx hr hR1 HR HK1
    go_wp2_with fail
    try rw [hW]
    clear hW
    go_loopg [3] (ts.length - j0) (fun g v3 wq => ∃ (l : List Int) (j : Nat) (E' : List Exp) (a' : Option Addr) (c' f : Nat), g = ts.length - j ∧ v3 = .slice a' l.length c' ∧ j < ts.length ∧ E'.length ≤ j ∧ l.length ≤ j ∧ ts.length - j < f ∧ Hid (wq.ownsRow w.heap.size 3 1 (.slice a' l.length c') l.length (l.map iZ)) ∧ Hid (PX B ts wq bp a c j vd vs E' d) ∧ Hid (Kp [69, 32] B w wq) ∧ Hid (al ts f d j l E' = R))
    case atStart => exact ⟨[(x : Int)], j0, E0, _, 1, ts.length + 1, rfl, rfl, by omega, by omega, by simp only [List.length_cons, List.length_nil]; omega, by omega, HO0, HX0, HK0, HR0⟩
    case round =>
      obtain ⟨l, j, E', a', c', f, rfl, rfl, hj, hle, hll, hf, HO, HX, HK, HR⟩ := hrel
      clear HO0 HX0 HK0 HR0 hlen
      obtain ⟨f, rfl⟩ : ∃ f', f = f' + 1 := ⟨f - 1, by omega⟩
      have hR1 := HR.out
      rw [al] at hR1
      have HR : Hid _ := hR1
      obtain ⟨ve, hp, ho⟩ := HX.out
      clear hR1
      go_wp2_with fail
      by_cases h5 : (tk ts j).text = [44]
      · have hj1 := G.ht j (by rw [h5]; simp)
        refine (skip_yes (s := [44]) hp hj h5).mono ?_
        rintro e y2 ⟨rfl, hp2, hk2⟩
        have HR : Hid (_ = R) := (if_pos h5).symm.trans HR.out
        have HX2 : Hid (PX B ts y2 bp a c (j + 1) vd vs E' d) := PX.kp ho hp2 hk2
        have HK2 : Hid (Kp [69, 32] B w y2) := HK.out.trans hk2.up
        have HO2 : Hid (y2.ownsRow w.heap.size 3 1 (.slice a' l.length c') l.length (l.map iZ)) := row_kp HO.out hk2 (by decide)
        have HC : Hid (Calls Tryz.prog 143 #[.pointer (some ⟨bp, 0, none⟩)] y2 (EOut B ts y2 bp a c vd vs d (Bin ts 1 d (j + 1) E'))) := exp_full G hB hj1 HX2.out hd (by omega) (HE.out _ HK2.out)
        clear hp ho hp2 hk2 h5 HX HK HO
        go_wp2_with fail
        refine Calls.mono HC.out ?_
        intro e y3 hy
        have HY : Hid (EOut B ts y2 bp a c vd vs d (Bin ts 1 d (j + 1) E') e y3) := hy
        clear hy HC
        cases hr : Bin ts 1 d (j + 1) E' with
        | none =>
          have h2 := HY.out
          rw [hr] at h2
          obtain ⟨hk, h3⟩ := h2
          have hR1 := HR.out
          rw [hr] at hR1
          obtain rfl : none = R := hR1
          have h3' : e = _ := h3
          subst h3'
          have HF : Hid (AOut B ts w bp a c vd vs d none _ y3) := ⟨HK2.out.trans hk, h3⟩
          clear HY hk hr HR HK2 HX2 HO2 h3
          go_wp2_with fail
          exact ⟨rfl, HF.out⟩
        | some r =>
          obtain ⟨x2, k, E2⟩ := r
          have hlen := Bin_len G (Nat.le_refl _) hr
          have h2 := HY.out
          rw [hr] at h2
          obtain ⟨hk, rfl, hx⟩ := h2
          have hR1 := HR.out
          rw [hr, Option.bind_some] at hR1
          dsimp only at hR1
          obtain ⟨W, hW⟩ : ∃ W, y3.alloc (.cells #[iZ (x2 : Int)] 3) = W := ⟨_, rfl⟩
          have HR3 : Hid (al ts f d k (l ++ [(x2 : Int)]) E2 = R) := hR1
          have HK3 : Hid (Kp [69, 32] B w W) := by show Kp _ _ _ _; rw [← hW]; exact (HK2.out.trans hk).trans (Kp.of (bl1 _ _) hx.le)
          have HO3 : Hid (W.ownsRow w.heap.size 3 1 (.slice a' l.length c') l.length (l.map iZ)) := by show World.ownsRow _ _ _ _ _ _ _; rw [← hW]; exact row_thru' (row_kp HO2.out hk (by decide)) (bl1 _ _)
          have HX3 : Hid (PX B ts W bp a c k vd vs E2 d) := by show PX _ _ _ _ _ _ _ _ _ _ _; rw [← hW]; exact hx.below (bl1 _ _)
          have HN3 : Hid (∀ (q : Nat) u, ([iZ (x2 : Int)] : List Value)[q]? = some u → W.cell? ((⟨y3.heap.size, 0, none⟩ : Addr).add q) = some u) := fun q u hu => by
            rw [Addr.add_lit, Nat.zero_add, ← hW]
            exact ncell_at (by simpa using hu)
          have HONE : Hid (∀ u ∈ ([iZ (x2 : Int)] : List Value), u.oneCell' = true) := by
            intro u hu
            simp only [List.mem_cons, List.not_mem_nil, or_false] at hu
            subst hu; rfl
          have HWS : Hid (w.heap.size ≤ W.heap.size) := HK3.out.low.size
          clear HY hk hx hr hR1 HR HK2 HX2 HO2
          go_wp2_with (first | (at_builtin; refine wpList_append_lies _ rfl _ _ 33 rfl w.heap.size 3 i0 _ 1 8 Tryz.underlying33 hi0 hz0 hz1 hz2 rfl (by decide) (.slice a' l.length c') l.length _ rfl HO3.out ⟨y3.heap.size, 0, none⟩ 1 1 [iZ (x2 : Int)] rfl rfl HN3.out HONE.out (by decide) (by omega) (by omega) HWS.out _ rfl ?_; intro g4 c4 w4 ho4 hg4 _ _; have HG4 : Hid _ := hg4; have HO4 : Hid _ := ho4; clear hg4 ho4))
          clear hW
          have HX4 : Hid (PX B ts w4 bp a c k vd vs E2 d) := HX3.out.grow HO3.out HG4.out HWS.out
          have HK4 : Hid (Kp [69, 32] B w w4) := HK3.out.then ⟨HG4.out.os, HG4.out.tape, HG4.out.output, HG4.out.size, fun q hq => HG4.out.block q (by have := HWS.out; omega) (fun e => by have := (HO3.out.lt q e.symm).1; omega)⟩ HBW.out
          have HO5 : Hid (w4.ownsRow w.heap.size 3 1 (.slice (some ⟨g4, 0, none⟩) (l ++ [(x2 : Int)]).length c4) (l ++ [(x2 : Int)]).length ((l ++ [(x2 : Int)]).map iZ)) := by
            show World.ownsRow _ _ _ _ _ _ _
            rw [List.length_append, List.map_append]
            exact HO4.out
          clear HO4 HG4 HO3 HX3 HK3 HN3 HONE
          try go_wp2_with fail
          go_roundg (ts.length - k)
          case measure => omega
          case rel => exact ⟨l ++ [(x2 : Int)], k, E2, _, c4, f, rfl, by rw [List.length_append]; rfl, by omega, by omega, by rw [List.length_append]; simp only [List.length_cons, List.length_nil]; omega, by omega, HO5, HX4, HK4, HR3⟩
      · obtain rfl : some (l, j, E') = R := (if_neg h5).symm.trans HR.out
        refine (skip_no (s := [44]) hp hj h5).mono ?_
        rintro e y2 ⟨rfl, hb⟩
        have HF : Hid (AOut B ts w bp a c vd vs d (some (l, j, E')) (.returned (.slice a' l.length c')) y2) := ⟨HK.out.trans (Kp.of hb hp.le), a', c', rfl, row_thru' HO.out hb, HX.out.below hb⟩
        clear hp ho hb h5 HX HK HO HR
        go_wp2_with fail
        go_ret
        exact HF.out
end Go.Proofs.YtikknlkdbjaonaaGreatDoor.Y
