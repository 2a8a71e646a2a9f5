/- Declarations, as the program's parser reads them. -/
import Derived.Test.YtikknlkdbjaonaaGreatDoorPBAk
namespace Go.Proofs.YtikknlkdbjaonaaGreatDoor.Y
open Go.RowKit Go.Maps
set_option linter.unusedVariables false
set_option linter.unusedSimpArgs false
/-- What reading parameters comes to. -/
def POut (B : Nat) (ts : List X.Tok) (w : World) (bp : Nat) (a : Option Addr) (c : Nat) (vd vs ve : Value) (d : Nat) (r : Option (List By × Nat)) (e : Ending) (w' : World) : Prop :=
  Kp [69] B w w' ∧ match r with
    | none => Fails e
    | some (l, j) => ∃ a' c', e = .returned (.slice a' l.length c') ∧ w'.ownsRow w.heap.size 9 1 (.slice a' l.length c') l.length (l.map sZ) ∧ PB B ts w' bp a c j vd vs ve d
theorem row_oneS (w : World) (s : By) : (w.alloc (.cells #[sZ s] 9)).ownsRow w.heap.size 9 1 (.slice (some ⟨w.heap.size, 0, none⟩) 1 1) 1 [sZ s] :=
  ⟨rfl, .inr ⟨w.heap.size, 1, #[sZ s], rfl, Nat.le_refl _, heap_new _ _, Nat.le_refl _, by decide, rfl, rfl⟩⟩
theorem pl_len {ts : List Tok} (G : Good ts) : ∀ (f i : Nat) (l l' : List By) (j : Nat), i < ts.length → pl ts f i l = some (l', j) → i ≤ j ∧ j < ts.length ∧ l'.length + i ≤ l.length + j
  | 0, _, _, _, _, _, h => by simp [pl] at h
  | f + 1, i, l, l', j, hi, h => by
    rw [pl] at h
    split at h
    · split at h
      · rename_i hk
        have h1 := G.hk (i + 1) (by rw [hk]; decide)
        have h2 := pl_len G f _ _ _ _ (by omega) h
        rw [List.length_append] at h2
        simp only [List.length_cons, List.length_nil] at h2
        omega
      · cases h
    · injection h with h; injection h with h h'; subst h h'
      omega
theorem prm_len {ts : List Tok} (G : Good ts) {i j : Nat} {l : List By} (hi : i < ts.length) (h : prm ts i = some (l, j)) : i ≤ j ∧ j < ts.length ∧ l.length ≤ j := by
  unfold prm at h
  split at h
  · injection h with h; injection h with h h'; subst h h'
    exact ⟨Nat.le_refl _, hi, Nat.zero_le _⟩
  · split at h
    · rename_i hk
      have h1 := G.hk i (by rw [hk]; decide)
      have h2 := pl_len G _ _ _ _ _ h1 h
      simp only [List.length_cons, List.length_nil] at h2
      omega
    · cases h
set_option maxRecDepth 100000 in
set_option maxHeartbeats 2000000 in
theorem params_any {B : Nat} {ts : List X.Tok} {bp : Nat} {a : Option Addr} {c : Nat} {vd vs ve : Value} {d : Nat} (G : Good ts) {i : Nat} (hi : i < ts.length) {w : World} (h : PB B ts w bp a c i vd vs ve d) : Calls Tryz.prog 124 #[.pointer (some ⟨bp, 0, none⟩)] w (POut B ts w bp a c vd vs ve d (prm ts i)) := by
  obtain ⟨R, hR⟩ : ∃ R, prm ts i = R := ⟨_, rfl⟩
  have hR0 := hR
  unfold prm at hR0
  have HR : Hid _ := hR0
  rw [hR]
  clear hR hR0
  obtain ⟨i0, hi0, hz0, hz1, hz2⟩ := info_parts infoT'
  have hN := G.len
  have hm2 : maxLen = 9223372036854775807 := rfl
  have HP : Hid (PB B ts w bp a c i vd vs ve d) := h
  have HBW : Hid (B ≤ w.heap.size) := h.le
  clear h
  go_enter Tryz.func124, Tryz.ntmps124
  go_wp2_with fail
  by_cases h1 : (tk ts i).text = [41]
  · obtain rfl : some ([], i) = R := (if_pos h1).symm.trans HR.out
    refine (is_yes (s := [41]) HP.out hi h1).mono ?_
    rintro e y ⟨rfl, hb⟩
    have HF : Hid (POut B ts w bp a c vd vs ve d (some ([], i)) (.returned (.slice none 0 0)) y) := ⟨Kp.of hb HBW.out, none, 0, rfl, World.ownsRow_nil _ _ _ _, HP.out.below hb⟩
    clear hb h1 HR HP
    go_wp2_with fail
    go_ret
    exact HF.out
  refine (is_no (s := [41]) HP.out hi h1).mono ?_
  rintro e y ⟨rfl, hb⟩
  have HR : Hid (_ = R) := (if_neg h1).symm.trans HR.out
  have HK1 : Hid (Kp [69] B w y) := Kp.of hb HBW.out
  have HP1 : Hid (PB B ts y bp a c i vd vs ve d) := HP.out.below hb
  clear hb h1 HP
  go_wp2_with fail
  by_cases h2 : (tk ts i).kind = 2
  rotate_left
  · obtain rfl : none = R := (if_neg h2).symm.trans HR.out
    refine (name_no HP1.out hi h2).mono ?_
    rintro e y1 ⟨h3, hb3⟩
    have h3' : e = _ := h3
    subst h3'
    have HF : Hid (POut B ts w bp a c vd vs ve d none _ y1) := ⟨HK1.out.trans (Kp.of hb3 HP1.out.le), h3⟩
    clear h3 hb3 HP1 HK1 HR h2
    go_wp2_with fail
    exact ⟨rfl, HF.out⟩
  refine (name_yes HP1.out hi h2).mono ?_
  rintro e y1 ⟨rfl, hp2, hk2⟩
  have hi1 : i + 1 < ts.length := G.hk i (by rw [h2]; decide)
  obtain ⟨nm, hnm⟩ : ∃ nm, (tk ts i).text = nm := ⟨_, rfl⟩
  have hR1 := (if_pos h2).symm.trans HR.out
  rw [hnm] at hR1 ⊢
  obtain ⟨W, hW⟩ : ∃ W, y1.alloc (.cells #[sZ nm] 9) = W := ⟨_, rfl⟩
  have HR0 : Hid (pl ts (ts.length + 1) (i + 1) [nm] = R) := hR1
  have HK0 : Hid (Kp [69] B w W) := by show Kp _ _ _ _; rw [← hW]; exact (HK1.out.trans hk2).trans (Kp.of (bl1 _ _) hp2.le)
  have HO0 : Hid (W.ownsRow w.heap.size 9 1 (.slice (some ⟨y1.heap.size, 0, none⟩) 1 1) 1 ([nm].map sZ)) := by show World.ownsRow _ _ _ _ _ _ _; rw [← hW]; exact row_low (row_oneS y1 nm) (HK1.out.trans hk2).low.size
  have HX0 : Hid (PB B ts W bp a c (i + 1) vd vs ve d) := by show PB _ _ _ _ _ _ _ _ _ _ _; rw [← hW]; exact hp2.below (bl1 _ _)
  clear hp2 hk2 hR1 HR HK1 HP1 h2 hnm
  go_wp2_with fail
  try rw [hW]
  clear hW
  go_loopg [3] (ts.length - (i + 1)) (fun g v3 wq => ∃ (l : List By) (j : Nat) (a' : Option Addr) (c' f : Nat), g = ts.length - j ∧ v3 = .slice a' l.length c' ∧ j < ts.length ∧ l.length ≤ j ∧ ts.length - j < f ∧ Hid (wq.ownsRow w.heap.size 9 1 (.slice a' l.length c') l.length (l.map sZ)) ∧ Hid (PB B ts wq bp a c j vd vs ve d) ∧ Hid (Kp [69] B w wq) ∧ Hid (pl ts f j l = R))
  case atStart => exact ⟨[nm], i + 1, _, 1, ts.length + 1, rfl, rfl, hi1, by simp only [List.length_cons, List.length_nil]; omega, by omega, HO0, HX0, HK0, HR0⟩
  case round =>
    obtain ⟨l, j, a', c', f, rfl, rfl, hj, hll, hf, HO, HX, HK, HR⟩ := hrel
    clear HO0 HX0 HK0 HR0
    obtain ⟨f, rfl⟩ : ∃ f', f = f' + 1 := ⟨f - 1, by omega⟩
    have hR1 := HR.out
    rw [pl] at hR1
    have HR : Hid _ := hR1
    clear hR1
    go_wp2_with fail
    by_cases h5 : (tk ts j).text = [44]
    · have hj1 := G.ht j (by rw [h5]; simp)
      refine (skip_yes (s := [44]) HX.out hj h5).mono ?_
      rintro e y2 ⟨rfl, hp2, hk2⟩
      have HR : Hid (_ = R) := (if_pos h5).symm.trans HR.out
      have HX2 : Hid (PB B ts y2 bp a c (j + 1) vd vs ve d) := hp2
      have HK2 : Hid (Kp [69] B w y2) := HK.out.trans hk2
      have HO2 : Hid (y2.ownsRow w.heap.size 9 1 (.slice a' l.length c') l.length (l.map sZ)) := row_kp HO.out hk2 (by decide)
      clear hp2 hk2 h5 HX HK HO
      go_wp2_with fail
      by_cases h2 : (tk ts (j + 1)).kind = 2
      rotate_left
      · obtain rfl : none = R := (if_neg h2).symm.trans HR.out
        refine (name_no HX2.out hj1 h2).mono ?_
        rintro e y3 ⟨h3, hb3⟩
        have h3' : e = _ := h3
        subst h3'
        have HF : Hid (POut B ts w bp a c vd vs ve d none _ y3) := ⟨HK2.out.trans (Kp.of hb3 HX2.out.le), h3⟩
        clear h3 hb3 HX2 HK2 HR h2 HO2
        go_wp2_with fail
        exact ⟨rfl, HF.out⟩
      refine (name_yes HX2.out hj1 h2).mono ?_
      rintro e y3 ⟨rfl, hp3, hk3⟩
      have hj2 : j + 1 + 1 < ts.length := G.hk (j + 1) (by rw [h2]; decide)
      obtain ⟨nm2, hnm⟩ : ∃ nm2, (tk ts (j + 1)).text = nm2 := ⟨_, rfl⟩
      have hR1 := (if_pos h2).symm.trans HR.out
      rw [hnm] at hR1 ⊢
      obtain ⟨W, hW⟩ : ∃ W, y3.alloc (.cells #[sZ nm2] 9) = W := ⟨_, rfl⟩
      have HR3 : Hid (pl ts f (j + 1 + 1) (l ++ [nm2]) = R) := hR1
      have HK3 : Hid (Kp [69] B w W) := by show Kp _ _ _ _; rw [← hW]; exact (HK2.out.trans hk3).trans (Kp.of (bl1 _ _) hp3.le)
      have HO3 : Hid (W.ownsRow w.heap.size 9 1 (.slice a' l.length c') l.length (l.map sZ)) := by show World.ownsRow _ _ _ _ _ _ _; rw [← hW]; exact row_thru' (row_kp HO2.out hk3 (by decide)) (bl1 _ _)
      have HX3 : Hid (PB B ts W bp a c (j + 1 + 1) vd vs ve d) := by show PB _ _ _ _ _ _ _ _ _ _ _; rw [← hW]; exact hp3.below (bl1 _ _)
      have HN3 : Hid (∀ (q : Nat) u, ([sZ nm2] : List Value)[q]? = some u → W.cell? ((⟨y3.heap.size, 0, none⟩ : Addr).add q) = some u) := fun q u hu => by
        rw [Addr.add_lit, Nat.zero_add, ← hW]
        exact ncell_at (by simpa using hu)
      have HONE : Hid (∀ u ∈ ([sZ nm2] : List Value), u.oneCell' = true) := by
        intro u hu
        simp only [List.mem_cons, List.not_mem_nil, or_false] at hu
        subst hu; rfl
      have HWS : Hid (w.heap.size ≤ W.heap.size) := HK3.out.low.size
      clear hp3 hk3 hR1 HR HK2 HX2 HO2 h2 hnm
      go_wp2_with (first | (at_builtin; refine wpList_append_lies _ rfl _ _ 52 rfl w.heap.size 9 i0 _ 1 16 Tryz.underlying52 hi0 hz0 hz1 hz2 rfl (by decide) (.slice a' l.length c') l.length _ rfl HO3.out ⟨y3.heap.size, 0, none⟩ 1 1 [sZ nm2] rfl rfl HN3.out HONE.out (by decide) (by omega) (by omega) HWS.out _ rfl ?_; intro g4 c4 w4 ho4 hg4 _ _; have HG4 : Hid _ := hg4; have HO4 : Hid _ := ho4; clear hg4 ho4))
      clear hW
      have HX4 : Hid (PB B ts w4 bp a c (j + 1 + 1) vd vs ve d) := by
        have hk : Kp [9] w.heap.size W w4 := Kp.grown HO3.out HG4.out (by decide) HWS.out
        exact ⟨HX3.out.ge, hk.keep _ _ _ _ HX3.out.blk (by decide), row_kp HX3.out.tok hk (by decide)⟩
      have HK4 : Hid (Kp [69] B w w4) := HK3.out.then ⟨HG4.out.os, HG4.out.tape, HG4.out.output, HG4.out.size, fun q hq => HG4.out.block q (by have := HWS.out; omega) (fun e => by have := (HO3.out.lt q e.symm).1; omega)⟩ HBW.out
      have HO5 : Hid (w4.ownsRow w.heap.size 9 1 (.slice (some ⟨g4, 0, none⟩) (l ++ [nm2]).length c4) (l ++ [nm2]).length ((l ++ [nm2]).map sZ)) := by
        show World.ownsRow _ _ _ _ _ _ _
        rw [List.length_append, List.map_append]
        exact HO4.out
      clear HO4 HG4 HO3 HX3 HK3 HN3 HONE
      try go_wp2_with fail
      go_roundg (ts.length - (j + 1 + 1))
      case measure => omega
      case rel => exact ⟨l ++ [nm2], j + 1 + 1, _, c4, f, rfl, by rw [List.length_append]; rfl, hj2, by rw [List.length_append]; simp only [List.length_cons, List.length_nil]; omega, by omega, HO5, HX4, HK4, HR3⟩
    · obtain rfl : some (l, j) = R := (if_neg h5).symm.trans HR.out
      refine (skip_no (s := [44]) HX.out hj h5).mono ?_
      rintro e y2 ⟨rfl, hb⟩
      have HF : Hid (POut B ts w bp a c vd vs ve d (some (l, j)) (.returned (.slice a' l.length c')) y2) := ⟨HK.out.trans (Kp.of hb HX.out.le), a', c', rfl, row_thru' HO.out hb, HX.out.below hb⟩
      clear hb h5 HX HK HO HR
      go_wp2_with fail
      go_ret
      exact HF.out
set_option maxRecDepth 100000 in
set_option maxHeartbeats 2000000 in
theorem function_true {B : Nat} {ts : List X.Tok} {bp : Nat} {a : Option Addr} {c : Nat} {vd vs ve : Value} {XS : List Sx} (G : Good ts) (hB : 8 ≤ B) {f : Nat} (hf : 3 * ts.length + 4 ≤ f) {i : Nat} (hi : i < ts.length) {w : World} {E : List Exp} (h : ST B ts w vs XS bp a c i vd vs ve 0 [] E w) (hl : E.length ≤ i) (hlx : XS.length ≤ i) (he : Env w) (nm : X.By) : Calls Tryz.prog 104 #[.pointer (some ⟨bp, 0, none⟩), .agg #[.int .i64 5, .string (X.str nm), .bool true, .int .i64 0, .string { data := #[] }, .slice none 0 0, .int .i64 0, .int .i64 0, .slice none 0 0]] w (DOut B ts w bp a c vd vs XS (fnc ts f ⟨5, nm, true, 0, [], [], 0, 0, []⟩ i E (XS.map (·.s)))) := by
  obtain ⟨R, hR⟩ : ∃ R, fnc ts f ⟨5, nm, true, 0, [], [], 0, 0, []⟩ i E (XS.map (·.s)) = R := ⟨_, rfl⟩
  have hR0 := hR
  unfold fnc at hR0
  have HR : Hid _ := hR0
  rw [hR]
  clear hR hR0
  obtain ⟨W0, hW0⟩ : ∃ W0, w.alloc (.cells #[.int .i64 5, .string (X.str nm), .bool true, .int .i64 0, .string { data := #[] }, .slice none 0 0, .int .i64 0, .int .i64 0, .slice none 0 0] 54) = W0 := ⟨_, rfl⟩
  obtain ⟨W1, hW1⟩ : ∃ W1, W0.alloc (.cells #[.int .i64 0, .string { data := #[] }, .bool false, .int .i64 0, .string { data := #[] }, .slice none 0 0, .int .i64 0, .int .i64 0, .slice none 0 0] 54) = W1 := ⟨_, rfl⟩
  have HS0 : Hid (ST B ts w vs XS bp a c i vd vs ve 0 [] E W0) := by show ST _ _ _ _ _ _ _ _ _ _ _ _ _ _ _ _; rw [← hW0]; exact h.bel (bl1 _ _)
  have HS : Hid (ST B ts w vs XS bp a c i vd vs ve 0 [] E W1) := by show ST _ _ _ _ _ _ _ _ _ _ _ _ _ _ _ _; rw [← hW1]; exact HS0.out.bel (bl1 _ _)
  have HA0 : Hid (DB W0 w.heap.size w.heap.size [.int .i64 5, .string (X.str nm), .bool true, .int .i64 0, .string { data := #[] }, .slice none 0 0, .int .i64 0, .int .i64 0, .slice none 0 0]) := by show DB _ _ _ _; rw [← hW0]; exact DB.new (Nat.le_refl _)
  have HA : Hid (DB W1 w.heap.size w.heap.size [.int .i64 5, .string (X.str nm), .bool true, .int .i64 0, .string { data := #[] }, .slice none 0 0, .int .i64 0, .int .i64 0, .slice none 0 0]) := by show DB _ _ _ _; rw [← hW1]; exact HA0.out.bel (bl1 _ _)
  have HZ : Hid (DB W1 w.heap.size W0.heap.size [.int .i64 0, .string { data := #[] }, .bool false, .int .i64 0, .string { data := #[] }, .slice none 0 0, .int .i64 0, .int .i64 0, .slice none 0 0]) := by show DB _ _ _ _; rw [← hW1]; exact DB.new HS0.out.ks.kp.low.size
  have HNE : Hid (w.heap.size ≠ W0.heap.size) := by show _ ≠ _; rw [← hW0]; simp
  have HE : Hid (∀ y, Kp T3 B w y → Env y) := fun y hy => he.kp hy hB
  have hN := G.len
  have hml : (XS.map (·.s)).length = XS.length := List.length_map ..
  clear h he HS0 HA0
  have m0 := HA.out.cel 0 _ rfl
  have m1 := HA.out.cel 1 _ rfl
  have m2 := HA.out.cel 2 _ rfl
  have m3 := HA.out.cel 3 _ rfl
  have m4 := HA.out.cel 4 _ rfl
  have m5 := HA.out.cel 5 _ rfl
  have m6 := HA.out.cel 6 _ rfl
  have m7 := HA.out.cel 7 _ rfl
  have m8 := HA.out.cel 8 _ rfl
  go_enter Tryz.func104, Tryz.ntmps104
  go_wp2_with fail
  clear hW0 hW1 m0 m1 m2 m3 m4 m5 m6 m7 m8
  have HR : Hid (_ = R) := (if_pos (by simp)).symm.trans HR.out
  by_cases hz1 : (tk ts i).kind = 1
  rotate_left
  · refine (size_kind HS.out.pb hi hz1).mono ?_
    rintro e y ⟨h3, hb3⟩
    obtain rfl : none = R := (if_neg hz1).symm.trans HR.out
    have h3' : e = _ := h3
    subst h3'
    have HF : Hid (DOut B ts w bp a c vd vs XS none _ y) := ⟨(HS.out.bel hb3).ks.kp, h3⟩
    clear h3 hb3 HS HR HA HZ
    go_wp2_with fail
    exact ⟨rfl, HF.out⟩
  have HR : Hid (_ = R) := (if_pos hz1).symm.trans HR.out
  by_cases hz2 : (tk ts i).n ≤ 1000000
  rotate_left
  · refine (size_big HS.out.pb hi hz1 (by omega)).mono ?_
    rintro e y ⟨h3, hb3, hb4⟩
    obtain rfl : none = R := (if_neg hz2).symm.trans HR.out
    have h3' : e = _ := h3
    subst h3'
    have HF : Hid (DOut B ts w bp a c vd vs XS none _ y) := ⟨HS.out.ks.kp.trans (hb4.wide (by decide)), h3⟩
    clear h3 hb3 hb4 HS HR HA HZ
    go_wp2_with fail
    exact ⟨rfl, HF.out⟩
  refine (size_yes HS.out.pb hi hz1 hz2).mono ?_
  rintro e y1 ⟨rfl, hp1, hk1⟩
  have HR : Hid (_ = R) := (if_pos hz2).symm.trans HR.out
  have HS : Hid (ST B ts w vs XS bp a c (i + 1) vd vs ve 0 [] E y1) := HS.out.tok hp1 hk1
  have HA : Hid _ := HA.out.kp (hk1.wide (by decide))
  have HZ : Hid _ := HZ.out.kp (hk1.wide (by decide))
  clear hp1 hk1
  have hj0 : i + 1 < ts.length := G.hk _ (by rw [hz1]; decide)
  have m0 := HA.out.cel 0 _ rfl
  have m1 := HA.out.cel 1 _ rfl
  have m2 := HA.out.cel 2 _ rfl
  have m3 := HA.out.cel 3 _ rfl
  have m4 := HA.out.cel 4 _ rfl
  have m5 := HA.out.cel 5 _ rfl
  have m6 := HA.out.cel 6 _ rfl
  have m7 := HA.out.cel 7 _ rfl
  have m8 := HA.out.cel 8 _ rfl
  have zm := HA.out.fro
  obtain ⟨Y2, hY2⟩ : ∃ Y2, y1.setCell ⟨w.heap.size, 6, none⟩ (.int .i64 (tk ts i).n) = Y2 := ⟨_, rfl⟩
  have HS : Hid (ST B ts w vs XS bp a c (i + 1) vd vs ve 0 [] E Y2) := by show ST _ _ _ _ _ _ _ _ _ _ _ _ _ _ _ _; rw [← hY2]; exact HS.out.dbox HA.out (Nat.le_refl _) _
  have HZ : Hid (DB Y2 w.heap.size W0.heap.size [.int .i64 0, .string { data := #[] }, .bool false, .int .i64 0, .string { data := #[] }, .slice none 0 0, .int .i64 0, .int .i64 0, .slice none 0 0]) := by show DB _ _ _ _; rw [← hY2]; exact HZ.out.far HNE.out _
  have HA : Hid (DB Y2 w.heap.size w.heap.size [.int .i64 5, .string (X.str nm), .bool true, .int .i64 0, .string { data := #[] }, .slice none 0 0, .int .i64 (tk ts i).n, .int .i64 0, .slice none 0 0]) := by show DB _ _ _ _; rw [← hY2]; exact HA.out.put 6 (.int .i64 (tk ts i).n)
  go_wp2_with fail
  try rw [hY2]
  clear hY2 m0 m1 m2 m3 m4 m5 m6 m7 m8 zm
  have hR1 := HR.out
  unfold fnc2 at hR1
  have HR : Hid _ := hR1
  clear hR1
  by_cases hq1 : (tk ts (i + 1)).text = [41]
  rotate_left
  · refine (want_no (s := [41]) HS.out.pb hj0 hq1).mono ?_
    rintro e y ⟨h3, hb3⟩
    obtain rfl : none = R := (if_neg hq1).symm.trans HR.out
    have h3' : e = _ := h3
    subst h3'
    have HF : Hid (DOut B ts w bp a c vd vs XS none _ y) := ⟨(HS.out.bel hb3).ks.kp, h3⟩
    clear h3 hb3 HS HR HA HZ
    go_wp2_with fail
    exact ⟨rfl, HF.out⟩
  refine (want_yes (s := [41]) HS.out.pb hj0 hq1).mono ?_
  rintro e y3 ⟨rfl, hp1, hk1⟩
  have HR : Hid (_ = R) := (if_pos hq1).symm.trans HR.out
  have HS : Hid (ST B ts w vs XS bp a c (i + 2) vd vs ve 0 [] E y3) := HS.out.tok hp1 hk1
  have HA : Hid _ := HA.out.kp (hk1.wide (by decide))
  have HZ : Hid _ := HZ.out.kp (hk1.wide (by decide))
  clear hp1 hk1
  have hj1 : (i + 2) < ts.length := G.ht _ (by rw [hq1]; simp)
  go_wp2_with fail
  by_cases hq2 : (tk ts (i + 2)).text = kWith
  · refine (skip_yes (s := kWith) HS.out.pb hj1 hq2).mono ?_
    rintro e y4 ⟨rfl, hp1, hk1⟩
    have HR : Hid (_ = R) := (if_pos hq2).symm.trans HR.out
    have HS : Hid (ST B ts w vs XS bp a c (i + 3) vd vs ve 0 [] E y4) := HS.out.tok hp1 hk1
    have HA : Hid _ := HA.out.kp (hk1.wide (by decide))
    have HZ : Hid _ := HZ.out.kp (hk1.wide (by decide))
    clear hp1 hk1
    have hj2 : (i + 3) < ts.length := G.ht _ (by rw [hq2]; decide)
    go_wp2_with fail
    by_cases hq3 : (tk ts (i + 3)).kind = 2
    rotate_left
    · refine (name_no HS.out.pb hj2 hq3).mono ?_
      rintro e y ⟨h3, hb3⟩
      obtain rfl : none = R := (if_neg hq3).symm.trans HR.out
      have h3' : e = _ := h3
      subst h3'
      have HF : Hid (DOut B ts w bp a c vd vs XS none _ y) := ⟨(HS.out.bel hb3).ks.kp, h3⟩
      clear h3 hb3 HS HR HA HZ
      go_wp2_with fail
      exact ⟨rfl, HF.out⟩
    refine (name_yes HS.out.pb hj2 hq3).mono ?_
    rintro e y5 ⟨rfl, hp1, hk1⟩
    have HR : Hid (_ = R) := (if_pos hq3).symm.trans HR.out
    have HS : Hid (ST B ts w vs XS bp a c (i + 4) vd vs ve 0 [] E y5) := HS.out.tok hp1 hk1
    have HA : Hid _ := HA.out.kp (hk1.wide (by decide))
    have HZ : Hid _ := HZ.out.kp (hk1.wide (by decide))
    clear hp1 hk1
    have hr0 : (i + 4) < ts.length := G.hk _ (by rw [hq3]; decide)
    have m0 := HA.out.cel 0 _ rfl
    have m1 := HA.out.cel 1 _ rfl
    have m2 := HA.out.cel 2 _ rfl
    have m3 := HA.out.cel 3 _ rfl
    have m4 := HA.out.cel 4 _ rfl
    have m5 := HA.out.cel 5 _ rfl
    have m6 := HA.out.cel 6 _ rfl
    have m7 := HA.out.cel 7 _ rfl
    have m8 := HA.out.cel 8 _ rfl
    have zm := HA.out.fro
    obtain ⟨Y6, hY6⟩ : ∃ Y6, y5.setCell ⟨w.heap.size, 4, none⟩ (.string (X.str (tk ts (i + 3)).text)) = Y6 := ⟨_, rfl⟩
    have HS : Hid (ST B ts w vs XS bp a c (i + 4) vd vs ve 0 [] E Y6) := by show ST _ _ _ _ _ _ _ _ _ _ _ _ _ _ _ _; rw [← hY6]; exact HS.out.dbox HA.out (Nat.le_refl _) _
    have HZ : Hid (DB Y6 w.heap.size W0.heap.size [.int .i64 0, .string { data := #[] }, .bool false, .int .i64 0, .string { data := #[] }, .slice none 0 0, .int .i64 0, .int .i64 0, .slice none 0 0]) := by show DB _ _ _ _; rw [← hY6]; exact HZ.out.far HNE.out _
    have HA : Hid (DB Y6 w.heap.size w.heap.size [.int .i64 5, .string (X.str nm), .bool true, .int .i64 0, .string (X.str (tk ts (i + 3)).text), .slice none 0 0, .int .i64 (tk ts i).n, .int .i64 0, .slice none 0 0]) := by show DB _ _ _ _; rw [← hY6]; exact HA.out.put 4 (.string (X.str (tk ts (i + 3)).text))
    go_wp2_with fail
    try rw [hY6]
    clear hY6 m0 m1 m2 m3 m4 m5 m6 m7 m8 zm
    have hR1 := HR.out
    unfold fnc3 at hR1
    have HR : Hid _ := hR1
    clear hR1
    by_cases hr1 : (tk ts (i + 4)).text = kRank
    rotate_left
    · refine (want_no (s := kRank) HS.out.pb hr0 hr1).mono ?_
      rintro e y ⟨h3, hb3⟩
      obtain rfl : none = R := (if_neg hr1).symm.trans HR.out
      have h3' : e = _ := h3
      subst h3'
      have HF : Hid (DOut B ts w bp a c vd vs XS none _ y) := ⟨(HS.out.bel hb3).ks.kp, h3⟩
      clear h3 hb3 HS HR HA HZ
      go_wp2_with fail
      exact ⟨rfl, HF.out⟩
    refine (want_yes (s := kRank) HS.out.pb hr0 hr1).mono ?_
    rintro e y7 ⟨rfl, hp1, hk1⟩
    have HR : Hid (_ = R) := (if_pos hr1).symm.trans HR.out
    have HS : Hid (ST B ts w vs XS bp a c (i + 5) vd vs ve 0 [] E y7) := HS.out.tok hp1 hk1
    have HA : Hid _ := HA.out.kp (hk1.wide (by decide))
    have HZ : Hid _ := HZ.out.kp (hk1.wide (by decide))
    clear hp1 hk1
    have hr2 : (i + 5) < ts.length := G.ht _ (by rw [hr1]; decide)
    go_wp2_with fail
    by_cases hr3 : (tk ts (i + 5)).kind = 1
    rotate_left
    · refine (size_kind HS.out.pb hr2 hr3).mono ?_
      rintro e y ⟨h3, hb3⟩
      obtain rfl : none = R := (if_neg hr3).symm.trans HR.out
      have h3' : e = _ := h3
      subst h3'
      have HF : Hid (DOut B ts w bp a c vd vs XS none _ y) := ⟨(HS.out.bel hb3).ks.kp, h3⟩
      clear h3 hb3 HS HR HA HZ
      go_wp2_with fail
      exact ⟨rfl, HF.out⟩
    have HR : Hid (_ = R) := (if_pos hr3).symm.trans HR.out
    by_cases hr4 : (tk ts (i + 5)).n ≤ 1000000
    rotate_left
    · refine (size_big HS.out.pb hr2 hr3 (by omega)).mono ?_
      rintro e y ⟨h3, hb3, hb4⟩
      obtain rfl : none = R := (if_neg hr4).symm.trans HR.out
      have h3' : e = _ := h3
      subst h3'
      have HF : Hid (DOut B ts w bp a c vd vs XS none _ y) := ⟨HS.out.ks.kp.trans (hb4.wide (by decide)), h3⟩
      clear h3 hb3 hb4 HS HR HA HZ
      go_wp2_with fail
      exact ⟨rfl, HF.out⟩
    refine (size_yes HS.out.pb hr2 hr3 hr4).mono ?_
    rintro e y8 ⟨rfl, hp1, hk1⟩
    have HR : Hid (_ = R) := (if_pos hr4).symm.trans HR.out
    have HS : Hid (ST B ts w vs XS bp a c (i + 6) vd vs ve 0 [] E y8) := HS.out.tok hp1 hk1
    have HA : Hid _ := HA.out.kp (hk1.wide (by decide))
    have HZ : Hid _ := HZ.out.kp (hk1.wide (by decide))
    clear hp1 hk1
    have hr5 : (i + 6) < ts.length := G.hk _ (by rw [hr3]; decide)
    have m0 := HA.out.cel 0 _ rfl
    have m1 := HA.out.cel 1 _ rfl
    have m2 := HA.out.cel 2 _ rfl
    have m3 := HA.out.cel 3 _ rfl
    have m4 := HA.out.cel 4 _ rfl
    have m5 := HA.out.cel 5 _ rfl
    have m6 := HA.out.cel 6 _ rfl
    have m7 := HA.out.cel 7 _ rfl
    have m8 := HA.out.cel 8 _ rfl
    have zm := HA.out.fro
    obtain ⟨Y9, hY9⟩ : ∃ Y9, y8.setCell ⟨w.heap.size, 7, none⟩ (.int .i64 (tk ts (i + 5)).n) = Y9 := ⟨_, rfl⟩
    have HS : Hid (ST B ts w vs XS bp a c (i + 6) vd vs ve 0 [] E Y9) := by show ST _ _ _ _ _ _ _ _ _ _ _ _ _ _ _ _; rw [← hY9]; exact HS.out.dbox HA.out (Nat.le_refl _) _
    have HZ : Hid (DB Y9 w.heap.size W0.heap.size [.int .i64 0, .string { data := #[] }, .bool false, .int .i64 0, .string { data := #[] }, .slice none 0 0, .int .i64 0, .int .i64 0, .slice none 0 0]) := by show DB _ _ _ _; rw [← hY9]; exact HZ.out.far HNE.out _
    have HA : Hid (DB Y9 w.heap.size w.heap.size [.int .i64 5, .string (X.str nm), .bool true, .int .i64 0, .string (X.str (tk ts (i + 3)).text), .slice none 0 0, .int .i64 (tk ts i).n, .int .i64 (tk ts (i + 5)).n, .slice none 0 0]) := by show DB _ _ _ _; rw [← hY9]; exact HA.out.put 7 (.int .i64 (tk ts (i + 5)).n)
    have mm0 := HA.out.cel 0 _ rfl
    have mm1 := HA.out.cel 1 _ rfl
    have mm2 := HA.out.cel 2 _ rfl
    have mm3 := HA.out.cel 3 _ rfl
    have mm4 := HA.out.cel 4 _ rfl
    have mm5 := HA.out.cel 5 _ rfl
    have mm6 := HA.out.cel 6 _ rfl
    have mm7 := HA.out.cel 7 _ rfl
    have mm8 := HA.out.cel 8 _ rfl
    go_wp2_with fail
    try rw [hY9]
    clear hY9 m0 m1 m2 m3 m4 m5 m6 m7 m8 zm
    clear mm0 mm1 mm2 mm3 mm4 mm5 mm6 mm7 mm8
    have HR : Hid (_ = R) := (if_pos (by simp)).symm.trans HR.out
    by_cases hr6 : (tk ts (i + 6)).text = [59]
    rotate_left
    · refine (want_no (s := [59]) HS.out.pb hr5 hr6).mono ?_
      rintro e y ⟨h3, hb3⟩
      obtain rfl : none = R := (if_neg hr6).symm.trans HR.out
      have h3' : e = _ := h3
      subst h3'
      have HF : Hid (DOut B ts w bp a c vd vs XS none _ y) := ⟨(HS.out.bel hb3).ks.kp, h3⟩
      clear h3 hb3 HS HR HA HZ
      go_wp2_with fail
      exact ⟨rfl, HF.out⟩
    refine (want_yes (s := [59]) HS.out.pb hr5 hr6).mono ?_
    rintro e y10 ⟨rfl, hp1, hk1⟩
    have HR : Hid (_ = R) := (if_pos hr6).symm.trans HR.out
    have HS : Hid (ST B ts w vs XS bp a c (i + 7) vd vs ve 0 [] E y10) := HS.out.tok hp1 hk1
    have HA : Hid _ := HA.out.kp (hk1.wide (by decide))
    have HZ : Hid _ := HZ.out.kp (hk1.wide (by decide))
    clear hp1 hk1
    obtain rfl : _ = R := HR.out
    have m0 := HA.out.cel 0 _ rfl
    have m1 := HA.out.cel 1 _ rfl
    have m2 := HA.out.cel 2 _ rfl
    have m3 := HA.out.cel 3 _ rfl
    have m4 := HA.out.cel 4 _ rfl
    have m5 := HA.out.cel 5 _ rfl
    have m6 := HA.out.cel 6 _ rfl
    have m7 := HA.out.cel 7 _ rfl
    have m8 := HA.out.cel 8 _ rfl
    have n0 := HZ.out.cel 0 _ rfl
    have n1 := HZ.out.cel 1 _ rfl
    have n2 := HZ.out.cel 2 _ rfl
    have n3 := HZ.out.cel 3 _ rfl
    have n4 := HZ.out.cel 4 _ rfl
    have n5 := HZ.out.cel 5 _ rfl
    have n6 := HZ.out.cel 6 _ rfl
    have n7 := HZ.out.cel 7 _ rfl
    have n8 := HZ.out.cel 8 _ rfl
    have zm := HA.out.fro
    have z0 := HZ.out.fro
    go_wp2_with fail
    refine bodyPost_ret (v := dcV ⟨⟨5, nm, true, 0, (tk ts (i + 3)).text, [], (tk ts i).n, (tk ts (i + 5)).n, []⟩, .slice none 0 0, .slice none 0 0⟩) ?_ rfl ?_
    · simp [results, Tryz.results104, go_sem, n0, n1, n2, n3, n4, n5, n6, n7, n8, z0, dcV, str_nil]
    · exact fin9 HS.out HZ.out (Nat.le_refl _) ⟨⟨5, nm, true, 0, (tk ts (i + 3)).text, [], (tk ts i).n, (tk ts (i + 5)).n, []⟩, .slice none 0 0, .slice none 0 0⟩ (⟨World.ownsRow_nil _ _ _ _, World.ownsRow_nil _ _ _ _⟩) (by simp)
  · refine (skip_no (s := kWith) HS.out.pb hj1 hq2).mono ?_
    rintro e y4 ⟨rfl, hb1⟩
    have HR : Hid (_ = R) := (if_neg hq2).symm.trans HR.out
    have HS : Hid (ST B ts w vs XS bp a c (i + 2) vd vs ve 0 [] E y4) := HS.out.bel hb1
    have HA : Hid _ := HA.out.bel hb1
    have HZ : Hid _ := HZ.out.bel hb1
    clear hb1
    have hr0 : (i + 2) < ts.length := hj1
    go_wp2_with fail
    have hR1 := HR.out
    unfold fnc3 at hR1
    have HR : Hid _ := hR1
    clear hR1
    by_cases hr1 : (tk ts (i + 2)).text = kRank
    rotate_left
    · refine (want_no (s := kRank) HS.out.pb hr0 hr1).mono ?_
      rintro e y ⟨h3, hb3⟩
      obtain rfl : none = R := (if_neg hr1).symm.trans HR.out
      have h3' : e = _ := h3
      subst h3'
      have HF : Hid (DOut B ts w bp a c vd vs XS none _ y) := ⟨(HS.out.bel hb3).ks.kp, h3⟩
      clear h3 hb3 HS HR HA HZ
      go_wp2_with fail
      exact ⟨rfl, HF.out⟩
    refine (want_yes (s := kRank) HS.out.pb hr0 hr1).mono ?_
    rintro e y5 ⟨rfl, hp1, hk1⟩
    have HR : Hid (_ = R) := (if_pos hr1).symm.trans HR.out
    have HS : Hid (ST B ts w vs XS bp a c (i + 3) vd vs ve 0 [] E y5) := HS.out.tok hp1 hk1
    have HA : Hid _ := HA.out.kp (hk1.wide (by decide))
    have HZ : Hid _ := HZ.out.kp (hk1.wide (by decide))
    clear hp1 hk1
    have hr2 : (i + 3) < ts.length := G.ht _ (by rw [hr1]; decide)
    go_wp2_with fail
    by_cases hr3 : (tk ts (i + 3)).kind = 1
    rotate_left
    · refine (size_kind HS.out.pb hr2 hr3).mono ?_
      rintro e y ⟨h3, hb3⟩
      obtain rfl : none = R := (if_neg hr3).symm.trans HR.out
      have h3' : e = _ := h3
      subst h3'
      have HF : Hid (DOut B ts w bp a c vd vs XS none _ y) := ⟨(HS.out.bel hb3).ks.kp, h3⟩
      clear h3 hb3 HS HR HA HZ
      go_wp2_with fail
      exact ⟨rfl, HF.out⟩
    have HR : Hid (_ = R) := (if_pos hr3).symm.trans HR.out
    by_cases hr4 : (tk ts (i + 3)).n ≤ 1000000
    rotate_left
    · refine (size_big HS.out.pb hr2 hr3 (by omega)).mono ?_
      rintro e y ⟨h3, hb3, hb4⟩
      obtain rfl : none = R := (if_neg hr4).symm.trans HR.out
      have h3' : e = _ := h3
      subst h3'
      have HF : Hid (DOut B ts w bp a c vd vs XS none _ y) := ⟨HS.out.ks.kp.trans (hb4.wide (by decide)), h3⟩
      clear h3 hb3 hb4 HS HR HA HZ
      go_wp2_with fail
      exact ⟨rfl, HF.out⟩
    refine (size_yes HS.out.pb hr2 hr3 hr4).mono ?_
    rintro e y6 ⟨rfl, hp1, hk1⟩
    have HR : Hid (_ = R) := (if_pos hr4).symm.trans HR.out
    have HS : Hid (ST B ts w vs XS bp a c (i + 4) vd vs ve 0 [] E y6) := HS.out.tok hp1 hk1
    have HA : Hid _ := HA.out.kp (hk1.wide (by decide))
    have HZ : Hid _ := HZ.out.kp (hk1.wide (by decide))
    clear hp1 hk1
    have hr5 : (i + 4) < ts.length := G.hk _ (by rw [hr3]; decide)
    have m0 := HA.out.cel 0 _ rfl
    have m1 := HA.out.cel 1 _ rfl
    have m2 := HA.out.cel 2 _ rfl
    have m3 := HA.out.cel 3 _ rfl
    have m4 := HA.out.cel 4 _ rfl
    have m5 := HA.out.cel 5 _ rfl
    have m6 := HA.out.cel 6 _ rfl
    have m7 := HA.out.cel 7 _ rfl
    have m8 := HA.out.cel 8 _ rfl
    have zm := HA.out.fro
    obtain ⟨Y7, hY7⟩ : ∃ Y7, y6.setCell ⟨w.heap.size, 7, none⟩ (.int .i64 (tk ts (i + 3)).n) = Y7 := ⟨_, rfl⟩
    have HS : Hid (ST B ts w vs XS bp a c (i + 4) vd vs ve 0 [] E Y7) := by show ST _ _ _ _ _ _ _ _ _ _ _ _ _ _ _ _; rw [← hY7]; exact HS.out.dbox HA.out (Nat.le_refl _) _
    have HZ : Hid (DB Y7 w.heap.size W0.heap.size [.int .i64 0, .string { data := #[] }, .bool false, .int .i64 0, .string { data := #[] }, .slice none 0 0, .int .i64 0, .int .i64 0, .slice none 0 0]) := by show DB _ _ _ _; rw [← hY7]; exact HZ.out.far HNE.out _
    have HA : Hid (DB Y7 w.heap.size w.heap.size [.int .i64 5, .string (X.str nm), .bool true, .int .i64 0, .string { data := #[] }, .slice none 0 0, .int .i64 (tk ts i).n, .int .i64 (tk ts (i + 3)).n, .slice none 0 0]) := by show DB _ _ _ _; rw [← hY7]; exact HA.out.put 7 (.int .i64 (tk ts (i + 3)).n)
    have mm0 := HA.out.cel 0 _ rfl
    have mm1 := HA.out.cel 1 _ rfl
    have mm2 := HA.out.cel 2 _ rfl
    have mm3 := HA.out.cel 3 _ rfl
    have mm4 := HA.out.cel 4 _ rfl
    have mm5 := HA.out.cel 5 _ rfl
    have mm6 := HA.out.cel 6 _ rfl
    have mm7 := HA.out.cel 7 _ rfl
    have mm8 := HA.out.cel 8 _ rfl
    go_wp2_with fail
    try rw [hY7]
    clear hY7 m0 m1 m2 m3 m4 m5 m6 m7 m8 zm
    clear mm0 mm1 mm2 mm3 mm4 mm5 mm6 mm7 mm8
    have HR : Hid (_ = R) := (if_pos (by simp)).symm.trans HR.out
    by_cases hr6 : (tk ts (i + 4)).text = [59]
    rotate_left
    · refine (want_no (s := [59]) HS.out.pb hr5 hr6).mono ?_
      rintro e y ⟨h3, hb3⟩
      obtain rfl : none = R := (if_neg hr6).symm.trans HR.out
      have h3' : e = _ := h3
      subst h3'
      have HF : Hid (DOut B ts w bp a c vd vs XS none _ y) := ⟨(HS.out.bel hb3).ks.kp, h3⟩
      clear h3 hb3 HS HR HA HZ
      go_wp2_with fail
      exact ⟨rfl, HF.out⟩
    refine (want_yes (s := [59]) HS.out.pb hr5 hr6).mono ?_
    rintro e y8 ⟨rfl, hp1, hk1⟩
    have HR : Hid (_ = R) := (if_pos hr6).symm.trans HR.out
    have HS : Hid (ST B ts w vs XS bp a c (i + 5) vd vs ve 0 [] E y8) := HS.out.tok hp1 hk1
    have HA : Hid _ := HA.out.kp (hk1.wide (by decide))
    have HZ : Hid _ := HZ.out.kp (hk1.wide (by decide))
    clear hp1 hk1
    obtain rfl : _ = R := HR.out
    have m0 := HA.out.cel 0 _ rfl
    have m1 := HA.out.cel 1 _ rfl
    have m2 := HA.out.cel 2 _ rfl
    have m3 := HA.out.cel 3 _ rfl
    have m4 := HA.out.cel 4 _ rfl
    have m5 := HA.out.cel 5 _ rfl
    have m6 := HA.out.cel 6 _ rfl
    have m7 := HA.out.cel 7 _ rfl
    have m8 := HA.out.cel 8 _ rfl
    have n0 := HZ.out.cel 0 _ rfl
    have n1 := HZ.out.cel 1 _ rfl
    have n2 := HZ.out.cel 2 _ rfl
    have n3 := HZ.out.cel 3 _ rfl
    have n4 := HZ.out.cel 4 _ rfl
    have n5 := HZ.out.cel 5 _ rfl
    have n6 := HZ.out.cel 6 _ rfl
    have n7 := HZ.out.cel 7 _ rfl
    have n8 := HZ.out.cel 8 _ rfl
    have zm := HA.out.fro
    have z0 := HZ.out.fro
    go_wp2_with fail
    refine bodyPost_ret (v := dcV ⟨⟨5, nm, true, 0, [], [], (tk ts i).n, (tk ts (i + 3)).n, []⟩, .slice none 0 0, .slice none 0 0⟩) ?_ rfl ?_
    · simp [results, Tryz.results104, go_sem, n0, n1, n2, n3, n4, n5, n6, n7, n8, z0, dcV, str_nil]
    · exact fin9 HS.out HZ.out (Nat.le_refl _) ⟨⟨5, nm, true, 0, [], [], (tk ts i).n, (tk ts (i + 3)).n, []⟩, .slice none 0 0, .slice none 0 0⟩ (⟨World.ownsRow_nil _ _ _ _, World.ownsRow_nil _ _ _ _⟩) (by simp)
set_option maxRecDepth 100000 in
set_option maxHeartbeats 2000000 in
theorem function_false {B : Nat} {ts : List X.Tok} {bp : Nat} {a : Option Addr} {c : Nat} {vd vs ve : Value} {XS : List Sx} (G : Good ts) (hB : 8 ≤ B) {f : Nat} (hf : 3 * ts.length + 4 ≤ f) {i : Nat} (hi : i < ts.length) {w : World} {E : List Exp} (h : ST B ts w vs XS bp a c i vd vs ve 0 [] E w) (hl : E.length ≤ i) (hlx : XS.length ≤ i) (he : Env w) (nm : X.By) : Calls Tryz.prog 104 #[.pointer (some ⟨bp, 0, none⟩), .agg #[.int .i64 5, .string (X.str nm), .bool false, .int .i64 0, .string { data := #[] }, .slice none 0 0, .int .i64 0, .int .i64 0, .slice none 0 0]] w (DOut B ts w bp a c vd vs XS (fnc ts f ⟨5, nm, false, 0, [], [], 0, 0, []⟩ i E (XS.map (·.s)))) := by
  obtain ⟨R, hR⟩ : ∃ R, fnc ts f ⟨5, nm, false, 0, [], [], 0, 0, []⟩ i E (XS.map (·.s)) = R := ⟨_, rfl⟩
  have hR0 := hR
  unfold fnc at hR0
  have HR : Hid _ := hR0
  rw [hR]
  clear hR hR0
  obtain ⟨W0, hW0⟩ : ∃ W0, w.alloc (.cells #[.int .i64 5, .string (X.str nm), .bool false, .int .i64 0, .string { data := #[] }, .slice none 0 0, .int .i64 0, .int .i64 0, .slice none 0 0] 54) = W0 := ⟨_, rfl⟩
  obtain ⟨W1, hW1⟩ : ∃ W1, W0.alloc (.cells #[.int .i64 0, .string { data := #[] }, .bool false, .int .i64 0, .string { data := #[] }, .slice none 0 0, .int .i64 0, .int .i64 0, .slice none 0 0] 54) = W1 := ⟨_, rfl⟩
  have HS0 : Hid (ST B ts w vs XS bp a c i vd vs ve 0 [] E W0) := by show ST _ _ _ _ _ _ _ _ _ _ _ _ _ _ _ _; rw [← hW0]; exact h.bel (bl1 _ _)
  have HS : Hid (ST B ts w vs XS bp a c i vd vs ve 0 [] E W1) := by show ST _ _ _ _ _ _ _ _ _ _ _ _ _ _ _ _; rw [← hW1]; exact HS0.out.bel (bl1 _ _)
  have HA0 : Hid (DB W0 w.heap.size w.heap.size [.int .i64 5, .string (X.str nm), .bool false, .int .i64 0, .string { data := #[] }, .slice none 0 0, .int .i64 0, .int .i64 0, .slice none 0 0]) := by show DB _ _ _ _; rw [← hW0]; exact DB.new (Nat.le_refl _)
  have HA : Hid (DB W1 w.heap.size w.heap.size [.int .i64 5, .string (X.str nm), .bool false, .int .i64 0, .string { data := #[] }, .slice none 0 0, .int .i64 0, .int .i64 0, .slice none 0 0]) := by show DB _ _ _ _; rw [← hW1]; exact HA0.out.bel (bl1 _ _)
  have HZ : Hid (DB W1 w.heap.size W0.heap.size [.int .i64 0, .string { data := #[] }, .bool false, .int .i64 0, .string { data := #[] }, .slice none 0 0, .int .i64 0, .int .i64 0, .slice none 0 0]) := by show DB _ _ _ _; rw [← hW1]; exact DB.new HS0.out.ks.kp.low.size
  have HNE : Hid (w.heap.size ≠ W0.heap.size) := by show _ ≠ _; rw [← hW0]; simp
  have HE : Hid (∀ y, Kp T3 B w y → Env y) := fun y hy => he.kp hy hB
  have hN := G.len
  have hml : (XS.map (·.s)).length = XS.length := List.length_map ..
  clear h he HS0 HA0
  have m0 := HA.out.cel 0 _ rfl
  have m1 := HA.out.cel 1 _ rfl
  have m2 := HA.out.cel 2 _ rfl
  have m3 := HA.out.cel 3 _ rfl
  have m4 := HA.out.cel 4 _ rfl
  have m5 := HA.out.cel 5 _ rfl
  have m6 := HA.out.cel 6 _ rfl
  have m7 := HA.out.cel 7 _ rfl
  have m8 := HA.out.cel 8 _ rfl
  go_enter Tryz.func104, Tryz.ntmps104
  go_wp2_with fail
  clear hW0 hW1 m0 m1 m2 m3 m4 m5 m6 m7 m8
  have HR : Hid (_ = R) := (if_neg (by simp)).symm.trans HR.out
  have HC : Hid (Calls Tryz.prog 124 #[.pointer (some ⟨bp, 0, none⟩)] W1 (POut B ts W1 bp a c vd vs ve 0 (prm ts i))) := params_any G hi HS.out.pb
  refine Calls.mono HC.out ?_
  intro e y hy
  have HY : Hid (POut B ts W1 bp a c vd vs ve 0 (prm ts i) e y) := hy
  clear hy HC
  cases hr : prm ts i with
  | none =>
    have h2 := HY.out
    rw [hr] at h2
    obtain ⟨hk, h3⟩ := h2
    have hR1 := HR.out
    rw [hr] at hR1
    obtain rfl : none = R := hR1
    have h3' : e = _ := h3
    subst h3'
    have HF : Hid (DOut B ts w bp a c vd vs XS none _ y) := ⟨HS.out.ks.kp.trans (hk.wide (by decide)), h3⟩
    clear h3 HY hk hr HS HR HA HZ
    go_wp2_with fail
    exact ⟨rfl, HF.out⟩
  | some r =>
    obtain ⟨lp, j⟩ := r
    have hlen := prm_len G hi hr
    have h2 := HY.out
    rw [hr] at h2
    obtain ⟨hk1, ap, cp, rfl, hrow, hp1⟩ := h2
    have hR1 := HR.out
    rw [hr, Option.bind_some] at hR1
    dsimp only at hR1
    have HR : Hid _ := hR1
    have HVP : Hid (y.ownsRow B 9 1 (.slice ap lp.length cp) lp.length (lp.map sZ)) := row_low hrow (Nat.le_trans HS.out.le0 HS.out.ks.kp.low.size)
    clear hrow hR1 HY hr
    have HS : Hid (ST B ts w vs XS bp a c j vd vs ve 0 [] E y) := HS.out.tok hp1 hk1
    have HA : Hid _ := HA.out.kp (hk1.wide (by decide))
    have HZ : Hid _ := HZ.out.kp (hk1.wide (by decide))
    clear hp1 hk1
    have m0 := HA.out.cel 0 _ rfl
    have m1 := HA.out.cel 1 _ rfl
    have m2 := HA.out.cel 2 _ rfl
    have m3 := HA.out.cel 3 _ rfl
    have m4 := HA.out.cel 4 _ rfl
    have m5 := HA.out.cel 5 _ rfl
    have m6 := HA.out.cel 6 _ rfl
    have m7 := HA.out.cel 7 _ rfl
    have m8 := HA.out.cel 8 _ rfl
    have zm := HA.out.fro
    obtain ⟨Y1, hY1⟩ : ∃ Y1, y.setCell ⟨w.heap.size, 5, none⟩ (.slice ap lp.length cp) = Y1 := ⟨_, rfl⟩
    have HS : Hid (ST B ts w vs XS bp a c j vd vs ve 0 [] E Y1) := by show ST _ _ _ _ _ _ _ _ _ _ _ _ _ _ _ _; rw [← hY1]; exact HS.out.dbox HA.out (Nat.le_refl _) _
    have HZ : Hid (DB Y1 w.heap.size W0.heap.size [.int .i64 0, .string { data := #[] }, .bool false, .int .i64 0, .string { data := #[] }, .slice none 0 0, .int .i64 0, .int .i64 0, .slice none 0 0]) := by show DB _ _ _ _; rw [← hY1]; exact HZ.out.far HNE.out _
    have HVP := row_far (k := 5) (u := .slice ap lp.length cp) HVP.out (row_ne HVP.out HA.out.blk (by decide))
    rw [hY1] at HVP
    have HVP : Hid _ := HVP
    have HA : Hid (DB Y1 w.heap.size w.heap.size [.int .i64 5, .string (X.str nm), .bool false, .int .i64 0, .string { data := #[] }, .slice ap lp.length cp, .int .i64 0, .int .i64 0, .slice none 0 0]) := by show DB _ _ _ _; rw [← hY1]; exact HA.out.put 5 (.slice ap lp.length cp)
    have mq0 := HA.out.cel 0 _ rfl
    have mq1 := HA.out.cel 1 _ rfl
    have mq2 := HA.out.cel 2 _ rfl
    have mq3 := HA.out.cel 3 _ rfl
    have mq4 := HA.out.cel 4 _ rfl
    have mq5 := HA.out.cel 5 _ rfl
    have mq6 := HA.out.cel 6 _ rfl
    have mq7 := HA.out.cel 7 _ rfl
    have mq8 := HA.out.cel 8 _ rfl
    have zmq := HA.out.fro
    obtain ⟨Y2, hY2⟩ : ∃ Y2, Y1.setCell ⟨w.heap.size, 6, none⟩ (.int .i64 (lp.length : Int)) = Y2 := ⟨_, rfl⟩
    have HS : Hid (ST B ts w vs XS bp a c j vd vs ve 0 [] E Y2) := by show ST _ _ _ _ _ _ _ _ _ _ _ _ _ _ _ _; rw [← hY2]; exact HS.out.dbox HA.out (Nat.le_refl _) _
    have HZ : Hid (DB Y2 w.heap.size W0.heap.size [.int .i64 0, .string { data := #[] }, .bool false, .int .i64 0, .string { data := #[] }, .slice none 0 0, .int .i64 0, .int .i64 0, .slice none 0 0]) := by show DB _ _ _ _; rw [← hY2]; exact HZ.out.far HNE.out _
    have HVP := row_far (k := 6) (u := .int .i64 (lp.length : Int)) HVP.out (row_ne HVP.out HA.out.blk (by decide))
    rw [hY2] at HVP
    have HVP : Hid _ := HVP
    have HA : Hid (DB Y2 w.heap.size w.heap.size [.int .i64 5, .string (X.str nm), .bool false, .int .i64 0, .string { data := #[] }, .slice ap lp.length cp, .int .i64 (lp.length : Int), .int .i64 0, .slice none 0 0]) := by show DB _ _ _ _; rw [← hY2]; exact HA.out.put 6 (.int .i64 (lp.length : Int))
    go_wp2_with fail
    try rw [hY1]
    try rw [hY2]
    clear hY1 hY2 m0 mq0 m1 mq1 m2 mq2 m3 mq3 m4 mq4 m5 mq5 m6 mq6 m7 mq7 m8 mq8 zm zmq
    have hR1 := HR.out
    unfold fnc2 at hR1
    have HR : Hid _ := hR1
    clear hR1
    by_cases hq1 : (tk ts j).text = [41]
    rotate_left
    · refine (want_no (s := [41]) HS.out.pb hlen.2.1 hq1).mono ?_
      rintro e y ⟨h3, hb3⟩
      obtain rfl : none = R := (if_neg hq1).symm.trans HR.out
      have h3' : e = _ := h3
      subst h3'
      have HF : Hid (DOut B ts w bp a c vd vs XS none _ y) := ⟨(HS.out.bel hb3).ks.kp, h3⟩
      clear h3 hb3 HS HR HA HZ HVP
      go_wp2_with fail
      exact ⟨rfl, HF.out⟩
    refine (want_yes (s := [41]) HS.out.pb hlen.2.1 hq1).mono ?_
    rintro e y3 ⟨rfl, hp1, hk1⟩
    have HR : Hid (_ = R) := (if_pos hq1).symm.trans HR.out
    have HS : Hid (ST B ts w vs XS bp a c (j + 1) vd vs ve 0 [] E y3) := HS.out.tok hp1 hk1
    have HA : Hid _ := HA.out.kp (hk1.wide (by decide))
    have HZ : Hid _ := HZ.out.kp (hk1.wide (by decide))
    have HVP : Hid _ := row_kp HVP.out hk1 (by decide)
    clear hp1 hk1
    have hj1 : (j + 1) < ts.length := G.ht _ (by rw [hq1]; simp)
    go_wp2_with fail
    by_cases hq2 : (tk ts (j + 1)).text = kWith
    · refine (skip_yes (s := kWith) HS.out.pb hj1 hq2).mono ?_
      rintro e y4 ⟨rfl, hp1, hk1⟩
      have HR : Hid (_ = R) := (if_pos hq2).symm.trans HR.out
      have HS : Hid (ST B ts w vs XS bp a c (j + 2) vd vs ve 0 [] E y4) := HS.out.tok hp1 hk1
      have HA : Hid _ := HA.out.kp (hk1.wide (by decide))
      have HZ : Hid _ := HZ.out.kp (hk1.wide (by decide))
      have HVP : Hid _ := row_kp HVP.out hk1 (by decide)
      clear hp1 hk1
      have hj2 : (j + 2) < ts.length := G.ht _ (by rw [hq2]; decide)
      go_wp2_with fail
      by_cases hq3 : (tk ts (j + 2)).kind = 2
      rotate_left
      · refine (name_no HS.out.pb hj2 hq3).mono ?_
        rintro e y ⟨h3, hb3⟩
        obtain rfl : none = R := (if_neg hq3).symm.trans HR.out
        have h3' : e = _ := h3
        subst h3'
        have HF : Hid (DOut B ts w bp a c vd vs XS none _ y) := ⟨(HS.out.bel hb3).ks.kp, h3⟩
        clear h3 hb3 HS HR HA HZ HVP
        go_wp2_with fail
        exact ⟨rfl, HF.out⟩
      refine (name_yes HS.out.pb hj2 hq3).mono ?_
      rintro e y5 ⟨rfl, hp1, hk1⟩
      have HR : Hid (_ = R) := (if_pos hq3).symm.trans HR.out
      have HS : Hid (ST B ts w vs XS bp a c (j + 3) vd vs ve 0 [] E y5) := HS.out.tok hp1 hk1
      have HA : Hid _ := HA.out.kp (hk1.wide (by decide))
      have HZ : Hid _ := HZ.out.kp (hk1.wide (by decide))
      have HVP : Hid _ := row_kp HVP.out hk1 (by decide)
      clear hp1 hk1
      have hr0 : (j + 3) < ts.length := G.hk _ (by rw [hq3]; decide)
      have m0 := HA.out.cel 0 _ rfl
      have m1 := HA.out.cel 1 _ rfl
      have m2 := HA.out.cel 2 _ rfl
      have m3 := HA.out.cel 3 _ rfl
      have m4 := HA.out.cel 4 _ rfl
      have m5 := HA.out.cel 5 _ rfl
      have m6 := HA.out.cel 6 _ rfl
      have m7 := HA.out.cel 7 _ rfl
      have m8 := HA.out.cel 8 _ rfl
      have zm := HA.out.fro
      obtain ⟨Y6, hY6⟩ : ∃ Y6, y5.setCell ⟨w.heap.size, 4, none⟩ (.string (X.str (tk ts (j + 2)).text)) = Y6 := ⟨_, rfl⟩
      have HS : Hid (ST B ts w vs XS bp a c (j + 3) vd vs ve 0 [] E Y6) := by show ST _ _ _ _ _ _ _ _ _ _ _ _ _ _ _ _; rw [← hY6]; exact HS.out.dbox HA.out (Nat.le_refl _) _
      have HZ : Hid (DB Y6 w.heap.size W0.heap.size [.int .i64 0, .string { data := #[] }, .bool false, .int .i64 0, .string { data := #[] }, .slice none 0 0, .int .i64 0, .int .i64 0, .slice none 0 0]) := by show DB _ _ _ _; rw [← hY6]; exact HZ.out.far HNE.out _
      have HVP := row_far (k := 4) (u := .string (X.str (tk ts (j + 2)).text)) HVP.out (row_ne HVP.out HA.out.blk (by decide))
      rw [hY6] at HVP
      have HVP : Hid _ := HVP
      have HA : Hid (DB Y6 w.heap.size w.heap.size [.int .i64 5, .string (X.str nm), .bool false, .int .i64 0, .string (X.str (tk ts (j + 2)).text), .slice ap lp.length cp, .int .i64 (lp.length : Int), .int .i64 0, .slice none 0 0]) := by show DB _ _ _ _; rw [← hY6]; exact HA.out.put 4 (.string (X.str (tk ts (j + 2)).text))
      go_wp2_with fail
      try rw [hY6]
      clear hY6 m0 m1 m2 m3 m4 m5 m6 m7 m8 zm
      have hR1 := HR.out
      unfold fnc3 at hR1
      have HR : Hid _ := hR1
      clear hR1
      by_cases hr1 : (tk ts (j + 3)).text = kRank
      rotate_left
      · refine (want_no (s := kRank) HS.out.pb hr0 hr1).mono ?_
        rintro e y ⟨h3, hb3⟩
        obtain rfl : none = R := (if_neg hr1).symm.trans HR.out
        have h3' : e = _ := h3
        subst h3'
        have HF : Hid (DOut B ts w bp a c vd vs XS none _ y) := ⟨(HS.out.bel hb3).ks.kp, h3⟩
        clear h3 hb3 HS HR HA HZ HVP
        go_wp2_with fail
        exact ⟨rfl, HF.out⟩
      refine (want_yes (s := kRank) HS.out.pb hr0 hr1).mono ?_
      rintro e y7 ⟨rfl, hp1, hk1⟩
      have HR : Hid (_ = R) := (if_pos hr1).symm.trans HR.out
      have HS : Hid (ST B ts w vs XS bp a c (j + 4) vd vs ve 0 [] E y7) := HS.out.tok hp1 hk1
      have HA : Hid _ := HA.out.kp (hk1.wide (by decide))
      have HZ : Hid _ := HZ.out.kp (hk1.wide (by decide))
      have HVP : Hid _ := row_kp HVP.out hk1 (by decide)
      clear hp1 hk1
      have hr2 : (j + 4) < ts.length := G.ht _ (by rw [hr1]; decide)
      go_wp2_with fail
      by_cases hr3 : (tk ts (j + 4)).kind = 1
      rotate_left
      · refine (size_kind HS.out.pb hr2 hr3).mono ?_
        rintro e y ⟨h3, hb3⟩
        obtain rfl : none = R := (if_neg hr3).symm.trans HR.out
        have h3' : e = _ := h3
        subst h3'
        have HF : Hid (DOut B ts w bp a c vd vs XS none _ y) := ⟨(HS.out.bel hb3).ks.kp, h3⟩
        clear h3 hb3 HS HR HA HZ HVP
        go_wp2_with fail
        exact ⟨rfl, HF.out⟩
      have HR : Hid (_ = R) := (if_pos hr3).symm.trans HR.out
      by_cases hr4 : (tk ts (j + 4)).n ≤ 1000000
      rotate_left
      · refine (size_big HS.out.pb hr2 hr3 (by omega)).mono ?_
        rintro e y ⟨h3, hb3, hb4⟩
        obtain rfl : none = R := (if_neg hr4).symm.trans HR.out
        have h3' : e = _ := h3
        subst h3'
        have HF : Hid (DOut B ts w bp a c vd vs XS none _ y) := ⟨HS.out.ks.kp.trans (hb4.wide (by decide)), h3⟩
        clear h3 hb3 hb4 HS HR HA HZ HVP
        go_wp2_with fail
        exact ⟨rfl, HF.out⟩
      refine (size_yes HS.out.pb hr2 hr3 hr4).mono ?_
      rintro e y8 ⟨rfl, hp1, hk1⟩
      have HR : Hid (_ = R) := (if_pos hr4).symm.trans HR.out
      have HS : Hid (ST B ts w vs XS bp a c (j + 5) vd vs ve 0 [] E y8) := HS.out.tok hp1 hk1
      have HA : Hid _ := HA.out.kp (hk1.wide (by decide))
      have HZ : Hid _ := HZ.out.kp (hk1.wide (by decide))
      have HVP : Hid _ := row_kp HVP.out hk1 (by decide)
      clear hp1 hk1
      have hr5 : (j + 5) < ts.length := G.hk _ (by rw [hr3]; decide)
      have m0 := HA.out.cel 0 _ rfl
      have m1 := HA.out.cel 1 _ rfl
      have m2 := HA.out.cel 2 _ rfl
      have m3 := HA.out.cel 3 _ rfl
      have m4 := HA.out.cel 4 _ rfl
      have m5 := HA.out.cel 5 _ rfl
      have m6 := HA.out.cel 6 _ rfl
      have m7 := HA.out.cel 7 _ rfl
      have m8 := HA.out.cel 8 _ rfl
      have zm := HA.out.fro
      obtain ⟨Y9, hY9⟩ : ∃ Y9, y8.setCell ⟨w.heap.size, 7, none⟩ (.int .i64 (tk ts (j + 4)).n) = Y9 := ⟨_, rfl⟩
      have HS : Hid (ST B ts w vs XS bp a c (j + 5) vd vs ve 0 [] E Y9) := by show ST _ _ _ _ _ _ _ _ _ _ _ _ _ _ _ _; rw [← hY9]; exact HS.out.dbox HA.out (Nat.le_refl _) _
      have HZ : Hid (DB Y9 w.heap.size W0.heap.size [.int .i64 0, .string { data := #[] }, .bool false, .int .i64 0, .string { data := #[] }, .slice none 0 0, .int .i64 0, .int .i64 0, .slice none 0 0]) := by show DB _ _ _ _; rw [← hY9]; exact HZ.out.far HNE.out _
      have HVP := row_far (k := 7) (u := .int .i64 (tk ts (j + 4)).n) HVP.out (row_ne HVP.out HA.out.blk (by decide))
      rw [hY9] at HVP
      have HVP : Hid _ := HVP
      have HA : Hid (DB Y9 w.heap.size w.heap.size [.int .i64 5, .string (X.str nm), .bool false, .int .i64 0, .string (X.str (tk ts (j + 2)).text), .slice ap lp.length cp, .int .i64 (lp.length : Int), .int .i64 (tk ts (j + 4)).n, .slice none 0 0]) := by show DB _ _ _ _; rw [← hY9]; exact HA.out.put 7 (.int .i64 (tk ts (j + 4)).n)
      have mm0 := HA.out.cel 0 _ rfl
      have mm1 := HA.out.cel 1 _ rfl
      have mm2 := HA.out.cel 2 _ rfl
      have mm3 := HA.out.cel 3 _ rfl
      have mm4 := HA.out.cel 4 _ rfl
      have mm5 := HA.out.cel 5 _ rfl
      have mm6 := HA.out.cel 6 _ rfl
      have mm7 := HA.out.cel 7 _ rfl
      have mm8 := HA.out.cel 8 _ rfl
      go_wp2_with fail
      try rw [hY9]
      clear hY9 m0 m1 m2 m3 m4 m5 m6 m7 m8 zm
      clear mm0 mm1 mm2 mm3 mm4 mm5 mm6 mm7 mm8
      have HR : Hid (_ = R) := (if_neg (by simp)).symm.trans HR.out
      have HC : Hid (Calls Tryz.prog 77 #[.pointer (some ⟨bp, 0, none⟩)] Y9 (BOut B ts Y9 bp a c vd vs XS 0 (blk ts f 0 (j + 5) E (XS.map (·.s))))) := (stmts_all G hB f).1 (j + 5) Y9 vs ve XS 0 E hr5 HS.out.base0 (Nat.zero_le _) (by omega) (by omega) (HE.out _ HS.out.ks.kp) (by omega)
      go_wp2_with fail
      refine Calls.mono HC.out ?_
      intro e y_1 hy
      have HY : Hid (BOut B ts Y9 bp a c vd vs XS 0 (blk ts f 0 (j + 5) E (XS.map (·.s))) e y_1) := hy
      clear hy HC
      cases hr : blk ts f 0 (j + 5) E (XS.map (·.s)) with
      | none =>
        have h2 := HY.out
        rw [hr] at h2
        obtain ⟨hk, h3⟩ := h2
        have hR1 := HR.out
        rw [hr] at hR1
        obtain rfl : none = R := hR1
        have h3' : e = _ := h3
        subst h3'
        have HF : Hid (DOut B ts w bp a c vd vs XS none _ y_1) := ⟨HS.out.ks.kp.trans hk, h3⟩
        clear h3 HY hk hr HS HR HA HZ HVP
        go_wp2_with fail
        exact ⟨rfl, HF.out⟩
      | some r =>
        obtain ⟨l1, k1, E1, S1⟩ := r
        have hlen1 := (stm_len G f).1 _ _ _ _ _ _ _ _ hr
        have h2 := HY.out
        rw [hr] at h2
        obtain ⟨hk, vs1, ve1, N1, a1, c1, hst2, hS, rfl, hrow, hfr⟩ := h2
        have hR1 := HR.out
        rw [hr, Option.bind_some] at hR1
        dsimp only at hR1
        have HR : Hid _ := hR1
        have HV : Hid (y_1.ownsRow B 3 1 (.slice a1 l1.length c1) l1.length (l1.map iZ)) := hrow
        have HA : Hid _ := HA.out.kp hst2.ks.kp
        have HZ : Hid _ := HZ.out.kp hst2.ks.kp
        have HVP : Hid _ := row_kp HVP.out hst2.ks.kp (by decide)
        have HS : Hid (ST B ts w vs XS bp a c k1 vd vs1 ve1 0 N1 E1 y_1) := HS.out.call0 hst2
        have HX1 : Hid ((XS ++ N1).map (·.s) = S1) := hS
        clear hk hst2 hS hrow hfr hR1 HY hr
        obtain rfl : _ = R := HR.out
        have m0 := HA.out.cel 0 _ rfl
        have m1 := HA.out.cel 1 _ rfl
        have m2 := HA.out.cel 2 _ rfl
        have m3 := HA.out.cel 3 _ rfl
        have m4 := HA.out.cel 4 _ rfl
        have m5 := HA.out.cel 5 _ rfl
        have m6 := HA.out.cel 6 _ rfl
        have m7 := HA.out.cel 7 _ rfl
        have m8 := HA.out.cel 8 _ rfl
        have zm := HA.out.fro
        obtain ⟨Y10, hY10⟩ : ∃ Y10, y_1.setCell ⟨w.heap.size, 8, none⟩ (.slice a1 l1.length c1) = Y10 := ⟨_, rfl⟩
        have HS : Hid (ST B ts w vs XS bp a c k1 vd vs1 ve1 0 N1 E1 Y10) := by show ST _ _ _ _ _ _ _ _ _ _ _ _ _ _ _ _; rw [← hY10]; exact HS.out.dbox HA.out (Nat.le_refl _) _
        have HZ : Hid (DB Y10 w.heap.size W0.heap.size [.int .i64 0, .string { data := #[] }, .bool false, .int .i64 0, .string { data := #[] }, .slice none 0 0, .int .i64 0, .int .i64 0, .slice none 0 0]) := by show DB _ _ _ _; rw [← hY10]; exact HZ.out.far HNE.out _
        have HVP := row_far (k := 8) (u := .slice a1 l1.length c1) HVP.out (row_ne HVP.out HA.out.blk (by decide))
        rw [hY10] at HVP
        have HVP : Hid _ := HVP
        have HV := row_far (k := 8) (u := .slice a1 l1.length c1) HV.out (row_ne HV.out HA.out.blk (by decide))
        rw [hY10] at HV
        have HV : Hid _ := HV
        have HA : Hid (DB Y10 w.heap.size w.heap.size [.int .i64 5, .string (X.str nm), .bool false, .int .i64 0, .string (X.str (tk ts (j + 2)).text), .slice ap lp.length cp, .int .i64 (lp.length : Int), .int .i64 (tk ts (j + 4)).n, .slice a1 l1.length c1]) := by show DB _ _ _ _; rw [← hY10]; exact HA.out.put 8 (.slice a1 l1.length c1)
        have q0 := HA.out.cel 0 _ rfl
        have q1 := HA.out.cel 1 _ rfl
        have q2 := HA.out.cel 2 _ rfl
        have q3 := HA.out.cel 3 _ rfl
        have q4 := HA.out.cel 4 _ rfl
        have q5 := HA.out.cel 5 _ rfl
        have q6 := HA.out.cel 6 _ rfl
        have q7 := HA.out.cel 7 _ rfl
        have q8 := HA.out.cel 8 _ rfl
        have n0 := HZ.out.cel 0 _ rfl
        have n1 := HZ.out.cel 1 _ rfl
        have n2 := HZ.out.cel 2 _ rfl
        have n3 := HZ.out.cel 3 _ rfl
        have n4 := HZ.out.cel 4 _ rfl
        have n5 := HZ.out.cel 5 _ rfl
        have n6 := HZ.out.cel 6 _ rfl
        have n7 := HZ.out.cel 7 _ rfl
        have n8 := HZ.out.cel 8 _ rfl
        have zq := HA.out.fro
        have z0 := HZ.out.fro
        go_wp2_with fail
        try rw [hY10]
        refine bodyPost_ret (v := dcV ⟨⟨5, nm, false, 0, (tk ts (j + 2)).text, lp, (lp.length : Int), (tk ts (j + 4)).n, l1⟩, .slice ap lp.length cp, .slice a1 l1.length c1⟩) ?_ rfl ?_
        · simp [results, Tryz.results104, go_sem, n0, n1, n2, n3, n4, n5, n6, n7, n8, z0, dcV, str_nil]
        · exact fin9 HS.out HZ.out (Nat.le_refl _) ⟨⟨5, nm, false, 0, (tk ts (j + 2)).text, lp, (lp.length : Int), (tk ts (j + 4)).n, l1⟩, .slice ap lp.length cp, .slice a1 l1.length c1⟩ (⟨HVP.out, HV.out⟩) (HX1.out)
    · refine (skip_no (s := kWith) HS.out.pb hj1 hq2).mono ?_
      rintro e y4 ⟨rfl, hb1⟩
      have HR : Hid (_ = R) := (if_neg hq2).symm.trans HR.out
      have HS : Hid (ST B ts w vs XS bp a c (j + 1) vd vs ve 0 [] E y4) := HS.out.bel hb1
      have HA : Hid _ := HA.out.bel hb1
      have HZ : Hid _ := HZ.out.bel hb1
      have HVP : Hid _ := row_thru' HVP.out hb1
      clear hb1
      have hr0 : (j + 1) < ts.length := hj1
      go_wp2_with fail
      have hR1 := HR.out
      unfold fnc3 at hR1
      have HR : Hid _ := hR1
      clear hR1
      by_cases hr1 : (tk ts (j + 1)).text = kRank
      rotate_left
      · refine (want_no (s := kRank) HS.out.pb hr0 hr1).mono ?_
        rintro e y ⟨h3, hb3⟩
        obtain rfl : none = R := (if_neg hr1).symm.trans HR.out
        have h3' : e = _ := h3
        subst h3'
        have HF : Hid (DOut B ts w bp a c vd vs XS none _ y) := ⟨(HS.out.bel hb3).ks.kp, h3⟩
        clear h3 hb3 HS HR HA HZ HVP
        go_wp2_with fail
        exact ⟨rfl, HF.out⟩
      refine (want_yes (s := kRank) HS.out.pb hr0 hr1).mono ?_
      rintro e y5 ⟨rfl, hp1, hk1⟩
      have HR : Hid (_ = R) := (if_pos hr1).symm.trans HR.out
      have HS : Hid (ST B ts w vs XS bp a c (j + 2) vd vs ve 0 [] E y5) := HS.out.tok hp1 hk1
      have HA : Hid _ := HA.out.kp (hk1.wide (by decide))
      have HZ : Hid _ := HZ.out.kp (hk1.wide (by decide))
      have HVP : Hid _ := row_kp HVP.out hk1 (by decide)
      clear hp1 hk1
      have hr2 : (j + 2) < ts.length := G.ht _ (by rw [hr1]; decide)
      go_wp2_with fail
      by_cases hr3 : (tk ts (j + 2)).kind = 1
      rotate_left
      · refine (size_kind HS.out.pb hr2 hr3).mono ?_
        rintro e y ⟨h3, hb3⟩
        obtain rfl : none = R := (if_neg hr3).symm.trans HR.out
        have h3' : e = _ := h3
        subst h3'
        have HF : Hid (DOut B ts w bp a c vd vs XS none _ y) := ⟨(HS.out.bel hb3).ks.kp, h3⟩
        clear h3 hb3 HS HR HA HZ HVP
        go_wp2_with fail
        exact ⟨rfl, HF.out⟩
      have HR : Hid (_ = R) := (if_pos hr3).symm.trans HR.out
      by_cases hr4 : (tk ts (j + 2)).n ≤ 1000000
      rotate_left
      · refine (size_big HS.out.pb hr2 hr3 (by omega)).mono ?_
        rintro e y ⟨h3, hb3, hb4⟩
        obtain rfl : none = R := (if_neg hr4).symm.trans HR.out
        have h3' : e = _ := h3
        subst h3'
        have HF : Hid (DOut B ts w bp a c vd vs XS none _ y) := ⟨HS.out.ks.kp.trans (hb4.wide (by decide)), h3⟩
        clear h3 hb3 hb4 HS HR HA HZ HVP
        go_wp2_with fail
        exact ⟨rfl, HF.out⟩
      refine (size_yes HS.out.pb hr2 hr3 hr4).mono ?_
      rintro e y6 ⟨rfl, hp1, hk1⟩
      have HR : Hid (_ = R) := (if_pos hr4).symm.trans HR.out
      have HS : Hid (ST B ts w vs XS bp a c (j + 3) vd vs ve 0 [] E y6) := HS.out.tok hp1 hk1
      have HA : Hid _ := HA.out.kp (hk1.wide (by decide))
      have HZ : Hid _ := HZ.out.kp (hk1.wide (by decide))
      have HVP : Hid _ := row_kp HVP.out hk1 (by decide)
      clear hp1 hk1
      have hr5 : (j + 3) < ts.length := G.hk _ (by rw [hr3]; decide)
      have m0 := HA.out.cel 0 _ rfl
      have m1 := HA.out.cel 1 _ rfl
      have m2 := HA.out.cel 2 _ rfl
      have m3 := HA.out.cel 3 _ rfl
      have m4 := HA.out.cel 4 _ rfl
      have m5 := HA.out.cel 5 _ rfl
      have m6 := HA.out.cel 6 _ rfl
      have m7 := HA.out.cel 7 _ rfl
      have m8 := HA.out.cel 8 _ rfl
      have zm := HA.out.fro
      obtain ⟨Y7, hY7⟩ : ∃ Y7, y6.setCell ⟨w.heap.size, 7, none⟩ (.int .i64 (tk ts (j + 2)).n) = Y7 := ⟨_, rfl⟩
      have HS : Hid (ST B ts w vs XS bp a c (j + 3) vd vs ve 0 [] E Y7) := by show ST _ _ _ _ _ _ _ _ _ _ _ _ _ _ _ _; rw [← hY7]; exact HS.out.dbox HA.out (Nat.le_refl _) _
      have HZ : Hid (DB Y7 w.heap.size W0.heap.size [.int .i64 0, .string { data := #[] }, .bool false, .int .i64 0, .string { data := #[] }, .slice none 0 0, .int .i64 0, .int .i64 0, .slice none 0 0]) := by show DB _ _ _ _; rw [← hY7]; exact HZ.out.far HNE.out _
      have HVP := row_far (k := 7) (u := .int .i64 (tk ts (j + 2)).n) HVP.out (row_ne HVP.out HA.out.blk (by decide))
      rw [hY7] at HVP
      have HVP : Hid _ := HVP
      have HA : Hid (DB Y7 w.heap.size w.heap.size [.int .i64 5, .string (X.str nm), .bool false, .int .i64 0, .string { data := #[] }, .slice ap lp.length cp, .int .i64 (lp.length : Int), .int .i64 (tk ts (j + 2)).n, .slice none 0 0]) := by show DB _ _ _ _; rw [← hY7]; exact HA.out.put 7 (.int .i64 (tk ts (j + 2)).n)
      have mm0 := HA.out.cel 0 _ rfl
      have mm1 := HA.out.cel 1 _ rfl
      have mm2 := HA.out.cel 2 _ rfl
      have mm3 := HA.out.cel 3 _ rfl
      have mm4 := HA.out.cel 4 _ rfl
      have mm5 := HA.out.cel 5 _ rfl
      have mm6 := HA.out.cel 6 _ rfl
      have mm7 := HA.out.cel 7 _ rfl
      have mm8 := HA.out.cel 8 _ rfl
      go_wp2_with fail
      try rw [hY7]
      clear hY7 m0 m1 m2 m3 m4 m5 m6 m7 m8 zm
      clear mm0 mm1 mm2 mm3 mm4 mm5 mm6 mm7 mm8
      have HR : Hid (_ = R) := (if_neg (by simp)).symm.trans HR.out
      have HC : Hid (Calls Tryz.prog 77 #[.pointer (some ⟨bp, 0, none⟩)] Y7 (BOut B ts Y7 bp a c vd vs XS 0 (blk ts f 0 (j + 3) E (XS.map (·.s))))) := (stmts_all G hB f).1 (j + 3) Y7 vs ve XS 0 E hr5 HS.out.base0 (Nat.zero_le _) (by omega) (by omega) (HE.out _ HS.out.ks.kp) (by omega)
      go_wp2_with fail
      refine Calls.mono HC.out ?_
      intro e y_1 hy
      have HY : Hid (BOut B ts Y7 bp a c vd vs XS 0 (blk ts f 0 (j + 3) E (XS.map (·.s))) e y_1) := hy
      clear hy HC
      cases hr : blk ts f 0 (j + 3) E (XS.map (·.s)) with
      | none =>
        have h2 := HY.out
        rw [hr] at h2
        obtain ⟨hk, h3⟩ := h2
        have hR1 := HR.out
        rw [hr] at hR1
        obtain rfl : none = R := hR1
        have h3' : e = _ := h3
        subst h3'
        have HF : Hid (DOut B ts w bp a c vd vs XS none _ y_1) := ⟨HS.out.ks.kp.trans hk, h3⟩
        clear h3 HY hk hr HS HR HA HZ HVP
        go_wp2_with fail
        exact ⟨rfl, HF.out⟩
      | some r =>
        obtain ⟨l1, k1, E1, S1⟩ := r
        have hlen1 := (stm_len G f).1 _ _ _ _ _ _ _ _ hr
        have h2 := HY.out
        rw [hr] at h2
        obtain ⟨hk, vs1, ve1, N1, a1, c1, hst2, hS, rfl, hrow, hfr⟩ := h2
        have hR1 := HR.out
        rw [hr, Option.bind_some] at hR1
        dsimp only at hR1
        have HR : Hid _ := hR1
        have HV : Hid (y_1.ownsRow B 3 1 (.slice a1 l1.length c1) l1.length (l1.map iZ)) := hrow
        have HA : Hid _ := HA.out.kp hst2.ks.kp
        have HZ : Hid _ := HZ.out.kp hst2.ks.kp
        have HVP : Hid _ := row_kp HVP.out hst2.ks.kp (by decide)
        have HS : Hid (ST B ts w vs XS bp a c k1 vd vs1 ve1 0 N1 E1 y_1) := HS.out.call0 hst2
        have HX1 : Hid ((XS ++ N1).map (·.s) = S1) := hS
        clear hk hst2 hS hrow hfr hR1 HY hr
        obtain rfl : _ = R := HR.out
        have m0 := HA.out.cel 0 _ rfl
        have m1 := HA.out.cel 1 _ rfl
        have m2 := HA.out.cel 2 _ rfl
        have m3 := HA.out.cel 3 _ rfl
        have m4 := HA.out.cel 4 _ rfl
        have m5 := HA.out.cel 5 _ rfl
        have m6 := HA.out.cel 6 _ rfl
        have m7 := HA.out.cel 7 _ rfl
        have m8 := HA.out.cel 8 _ rfl
        have zm := HA.out.fro
        obtain ⟨Y8, hY8⟩ : ∃ Y8, y_1.setCell ⟨w.heap.size, 8, none⟩ (.slice a1 l1.length c1) = Y8 := ⟨_, rfl⟩
        have HS : Hid (ST B ts w vs XS bp a c k1 vd vs1 ve1 0 N1 E1 Y8) := by show ST _ _ _ _ _ _ _ _ _ _ _ _ _ _ _ _; rw [← hY8]; exact HS.out.dbox HA.out (Nat.le_refl _) _
        have HZ : Hid (DB Y8 w.heap.size W0.heap.size [.int .i64 0, .string { data := #[] }, .bool false, .int .i64 0, .string { data := #[] }, .slice none 0 0, .int .i64 0, .int .i64 0, .slice none 0 0]) := by show DB _ _ _ _; rw [← hY8]; exact HZ.out.far HNE.out _
        have HVP := row_far (k := 8) (u := .slice a1 l1.length c1) HVP.out (row_ne HVP.out HA.out.blk (by decide))
        rw [hY8] at HVP
        have HVP : Hid _ := HVP
        have HV := row_far (k := 8) (u := .slice a1 l1.length c1) HV.out (row_ne HV.out HA.out.blk (by decide))
        rw [hY8] at HV
        have HV : Hid _ := HV
        have HA : Hid (DB Y8 w.heap.size w.heap.size [.int .i64 5, .string (X.str nm), .bool false, .int .i64 0, .string { data := #[] }, .slice ap lp.length cp, .int .i64 (lp.length : Int), .int .i64 (tk ts (j + 2)).n, .slice a1 l1.length c1]) := by show DB _ _ _ _; rw [← hY8]; exact HA.out.put 8 (.slice a1 l1.length c1)
        have q0 := HA.out.cel 0 _ rfl
        have q1 := HA.out.cel 1 _ rfl
        have q2 := HA.out.cel 2 _ rfl
        have q3 := HA.out.cel 3 _ rfl
        have q4 := HA.out.cel 4 _ rfl
        have q5 := HA.out.cel 5 _ rfl
        have q6 := HA.out.cel 6 _ rfl
        have q7 := HA.out.cel 7 _ rfl
        have q8 := HA.out.cel 8 _ rfl
        have n0 := HZ.out.cel 0 _ rfl
        have n1 := HZ.out.cel 1 _ rfl
        have n2 := HZ.out.cel 2 _ rfl
        have n3 := HZ.out.cel 3 _ rfl
        have n4 := HZ.out.cel 4 _ rfl
        have n5 := HZ.out.cel 5 _ rfl
        have n6 := HZ.out.cel 6 _ rfl
        have n7 := HZ.out.cel 7 _ rfl
        have n8 := HZ.out.cel 8 _ rfl
        have zq := HA.out.fro
        have z0 := HZ.out.fro
        go_wp2_with fail
        try rw [hY8]
        refine bodyPost_ret (v := dcV ⟨⟨5, nm, false, 0, [], lp, (lp.length : Int), (tk ts (j + 2)).n, l1⟩, .slice ap lp.length cp, .slice a1 l1.length c1⟩) ?_ rfl ?_
        · simp [results, Tryz.results104, go_sem, n0, n1, n2, n3, n4, n5, n6, n7, n8, z0, dcV, str_nil]
        · exact fin9 HS.out HZ.out (Nat.le_refl _) ⟨⟨5, nm, false, 0, [], lp, (lp.length : Int), (tk ts (j + 2)).n, l1⟩, .slice ap lp.length cp, .slice a1 l1.length c1⟩ (⟨HVP.out, HV.out⟩) (HX1.out)
set_option maxRecDepth 100000 in
set_option maxHeartbeats 2000000 in
theorem number_true {B : Nat} {ts : List X.Tok} {bp : Nat} {a : Option Addr} {c : Nat} {vd vs ve : Value} {XS : List Sx} (G : Good ts) (hB : 8 ≤ B) {f : Nat} (hf : 3 * ts.length + 4 ≤ f) {i : Nat} (hi : i < ts.length) {w : World} {E : List Exp} (h : ST B ts w vs XS bp a c i vd vs ve 0 [] E w) (hl : E.length ≤ i) (hlx : XS.length ≤ i) (he : Env w) (nm : X.By) : Calls Tryz.prog 78 #[.pointer (some ⟨bp, 0, none⟩), .agg #[.int .i64 0, .string (X.str nm), .bool true, .int .i64 0, .string { data := #[] }, .slice none 0 0, .int .i64 0, .int .i64 0, .slice none 0 0]] w (DOut B ts w bp a c vd vs XS (nmb ts f ⟨0, nm, true, 0, [], [], 0, 0, []⟩ i E (XS.map (·.s)))) := by
  obtain ⟨R, hR⟩ : ∃ R, nmb ts f ⟨0, nm, true, 0, [], [], 0, 0, []⟩ i E (XS.map (·.s)) = R := ⟨_, rfl⟩
  have hR0 := hR
  unfold nmb at hR0
  have HR : Hid _ := hR0
  rw [hR]
  clear hR hR0
  obtain ⟨W0, hW0⟩ : ∃ W0, w.alloc (.cells #[.int .i64 0, .string (X.str nm), .bool true, .int .i64 0, .string { data := #[] }, .slice none 0 0, .int .i64 0, .int .i64 0, .slice none 0 0] 54) = W0 := ⟨_, rfl⟩
  obtain ⟨W1, hW1⟩ : ∃ W1, W0.alloc (.cells #[.int .i64 0, .string { data := #[] }, .bool false, .int .i64 0, .string { data := #[] }, .slice none 0 0, .int .i64 0, .int .i64 0, .slice none 0 0] 54) = W1 := ⟨_, rfl⟩
  have HS0 : Hid (ST B ts w vs XS bp a c i vd vs ve 0 [] E W0) := by show ST _ _ _ _ _ _ _ _ _ _ _ _ _ _ _ _; rw [← hW0]; exact h.bel (bl1 _ _)
  have HS : Hid (ST B ts w vs XS bp a c i vd vs ve 0 [] E W1) := by show ST _ _ _ _ _ _ _ _ _ _ _ _ _ _ _ _; rw [← hW1]; exact HS0.out.bel (bl1 _ _)
  have HA0 : Hid (DB W0 w.heap.size w.heap.size [.int .i64 0, .string (X.str nm), .bool true, .int .i64 0, .string { data := #[] }, .slice none 0 0, .int .i64 0, .int .i64 0, .slice none 0 0]) := by show DB _ _ _ _; rw [← hW0]; exact DB.new (Nat.le_refl _)
  have HA : Hid (DB W1 w.heap.size w.heap.size [.int .i64 0, .string (X.str nm), .bool true, .int .i64 0, .string { data := #[] }, .slice none 0 0, .int .i64 0, .int .i64 0, .slice none 0 0]) := by show DB _ _ _ _; rw [← hW1]; exact HA0.out.bel (bl1 _ _)
  have HZ : Hid (DB W1 w.heap.size W0.heap.size [.int .i64 0, .string { data := #[] }, .bool false, .int .i64 0, .string { data := #[] }, .slice none 0 0, .int .i64 0, .int .i64 0, .slice none 0 0]) := by show DB _ _ _ _; rw [← hW1]; exact DB.new HS0.out.ks.kp.low.size
  have HNE : Hid (w.heap.size ≠ W0.heap.size) := by show _ ≠ _; rw [← hW0]; simp
  have HE : Hid (∀ y, Kp T3 B w y → Env y) := fun y hy => he.kp hy hB
  have hN := G.len
  have hml : (XS.map (·.s)).length = XS.length := List.length_map ..
  clear h he HS0 HA0
  go_enter Tryz.func78, Tryz.ntmps78
  go_wp2_with fail
  clear hW0 hW1
  by_cases h1 : (tk ts i).text = [40]
  · refine (skip_yes (s := [40]) HS.out.pb hi h1).mono ?_
    rintro e y1 ⟨rfl, hp1, hk1⟩
    have HR : Hid (_ = R) := (if_pos h1).symm.trans HR.out
    have HS : Hid (ST B ts w vs XS bp a c (i + 1) vd vs ve 0 [] E y1) := HS.out.tok hp1 hk1
    have HA : Hid _ := HA.out.kp (hk1.wide (by decide))
    have HZ : Hid _ := HZ.out.kp (hk1.wide (by decide))
    clear hp1 hk1
    have hi1 : i + 1 < ts.length := G.ht i (by rw [h1]; simp)
    have m0 := HA.out.cel 0 _ rfl
    have m1 := HA.out.cel 1 _ rfl
    have m2 := HA.out.cel 2 _ rfl
    have m3 := HA.out.cel 3 _ rfl
    have m4 := HA.out.cel 4 _ rfl
    have m5 := HA.out.cel 5 _ rfl
    have m6 := HA.out.cel 6 _ rfl
    have m7 := HA.out.cel 7 _ rfl
    have m8 := HA.out.cel 8 _ rfl
    have zm := HA.out.fro
    obtain ⟨Y2, hY2⟩ : ∃ Y2, y1.setCell ⟨w.heap.size, 0, none⟩ (.int .i64 5) = Y2 := ⟨_, rfl⟩
    have HS : Hid (ST B ts w vs XS bp a c (i + 1) vd vs ve 0 [] E Y2) := by show ST _ _ _ _ _ _ _ _ _ _ _ _ _ _ _ _; rw [← hY2]; exact HS.out.dbox HA.out (Nat.le_refl _) _
    have HZ : Hid (DB Y2 w.heap.size W0.heap.size [.int .i64 0, .string { data := #[] }, .bool false, .int .i64 0, .string { data := #[] }, .slice none 0 0, .int .i64 0, .int .i64 0, .slice none 0 0]) := by show DB _ _ _ _; rw [← hY2]; exact HZ.out.far HNE.out _
    have HA : Hid (DB Y2 w.heap.size w.heap.size [.int .i64 5, .string (X.str nm), .bool true, .int .i64 0, .string { data := #[] }, .slice none 0 0, .int .i64 0, .int .i64 0, .slice none 0 0]) := by show DB _ _ _ _; rw [← hY2]; exact HA.out.put 0 (.int .i64 5)
    have mm0 := HA.out.cel 0 _ rfl
    have mm1 := HA.out.cel 1 _ rfl
    have mm2 := HA.out.cel 2 _ rfl
    have mm3 := HA.out.cel 3 _ rfl
    have mm4 := HA.out.cel 4 _ rfl
    have mm5 := HA.out.cel 5 _ rfl
    have mm6 := HA.out.cel 6 _ rfl
    have mm7 := HA.out.cel 7 _ rfl
    have mm8 := HA.out.cel 8 _ rfl
    have HC : Hid (Calls Tryz.prog 104 #[.pointer (some ⟨bp, 0, none⟩), .agg #[.int .i64 5, .string (X.str nm), .bool true, .int .i64 0, .string { data := #[] }, .slice none 0 0, .int .i64 0, .int .i64 0, .slice none 0 0]] Y2 (DOut B ts Y2 bp a c vd vs XS R)) := by
      rw [← HR.out]
      exact function_true G hB hf hi1 HS.out.base0 (by omega) (by omega) (HE.out _ HS.out.ks.kp) nm
    go_wp2_with fail
    try rw [hY2]
    clear hY2 m0 m1 m2 m3 m4 m5 m6 m7 m8 zm
    clear mm0 mm1 mm2 mm3 mm4 mm5 mm6 mm7 mm8
    refine Calls.mono HC.out ?_
    intro e y hy
    have HY : Hid (DOut B ts Y2 bp a c vd vs XS R e y) := hy
    clear hy HC HR
    cases R with
    | none =>
      have h3' : e = _ := HY.out.2
      subst h3'
      have HF : Hid (DOut B ts w bp a c vd vs XS none _ y) := ⟨HS.out.ks.kp.trans HY.out.1, HY.out.2⟩
      clear HY HS HA HZ
      go_wp2_with fail
      exact ⟨rfl, HF.out⟩
    | some r =>
      obtain ⟨s0, j0, E0, S0⟩ := r
      obtain ⟨hk, vs', ve', N, ⟨s1, vp1, vb1⟩, hst, hS, hs1, rfl, hrow⟩ := HY.out
      dsimp only at hs1
      subst hs1
      obtain ⟨aa, ca, ab, cb, rfl, rfl⟩ := dxform hrow
      have HFR : Hid (DxR B y ⟨s1, .slice aa s1.params.length ca, .slice ab s1.body.length cb⟩ ∧ (XS ++ N).map (·.s) = S0) := ⟨hrow, hS⟩
      have HZ : Hid _ := HZ.out.kp hk
      have HS : Hid (ST B ts w vs XS bp a c j0 vd vs' ve' 0 N E0 y) := HS.out.call0 hst
      clear hk hst hS hrow HY HA
      have n0 := HZ.out.cel 0 _ rfl
      have n1 := HZ.out.cel 1 _ rfl
      have n2 := HZ.out.cel 2 _ rfl
      have n3 := HZ.out.cel 3 _ rfl
      have n4 := HZ.out.cel 4 _ rfl
      have n5 := HZ.out.cel 5 _ rfl
      have n6 := HZ.out.cel 6 _ rfl
      have n7 := HZ.out.cel 7 _ rfl
      have n8 := HZ.out.cel 8 _ rfl
      have z0 := HZ.out.fro
      unfold dcV
      go_wp2_with fail
      refine bodyPost_ret (v := dcV ⟨s1, .slice aa s1.params.length ca, .slice ab s1.body.length cb⟩) ?_ rfl ?_
      · simp [results, Tryz.results78, go_sem, n0, n1, n2, n3, n4, n5, n6, n7, n8, z0, dcV]
      · exact fin9 HS.out HZ.out (Nat.le_refl _) ⟨s1, .slice aa s1.params.length ca, .slice ab s1.body.length cb⟩ HFR.out.1 HFR.out.2
  refine (skip_no (s := [40]) HS.out.pb hi h1).mono ?_
  rintro e y1 ⟨rfl, hb1⟩
  have HR : Hid (_ = R) := (if_neg h1).symm.trans HR.out
  have HS : Hid (ST B ts w vs XS bp a c i vd vs ve 0 [] E y1) := HS.out.bel hb1
  have HA : Hid _ := HA.out.bel hb1
  have HZ : Hid _ := HZ.out.bel hb1
  clear hb1
  have m0 := HA.out.cel 0 _ rfl
  have m1 := HA.out.cel 1 _ rfl
  have m2 := HA.out.cel 2 _ rfl
  have m3 := HA.out.cel 3 _ rfl
  have m4 := HA.out.cel 4 _ rfl
  have m5 := HA.out.cel 5 _ rfl
  have m6 := HA.out.cel 6 _ rfl
  have m7 := HA.out.cel 7 _ rfl
  have m8 := HA.out.cel 8 _ rfl
  have zm := HA.out.fro
  obtain ⟨Y2, hY2⟩ : ∃ Y2, y1.setCell ⟨w.heap.size, 0, none⟩ (.int .i64 4) = Y2 := ⟨_, rfl⟩
  have HS : Hid (ST B ts w vs XS bp a c i vd vs ve 0 [] E Y2) := by show ST _ _ _ _ _ _ _ _ _ _ _ _ _ _ _ _; rw [← hY2]; exact HS.out.dbox HA.out (Nat.le_refl _) _
  have HZ : Hid (DB Y2 w.heap.size W0.heap.size [.int .i64 0, .string { data := #[] }, .bool false, .int .i64 0, .string { data := #[] }, .slice none 0 0, .int .i64 0, .int .i64 0, .slice none 0 0]) := by show DB _ _ _ _; rw [← hY2]; exact HZ.out.far HNE.out _
  have HA : Hid (DB Y2 w.heap.size w.heap.size [.int .i64 4, .string (X.str nm), .bool true, .int .i64 0, .string { data := #[] }, .slice none 0 0, .int .i64 0, .int .i64 0, .slice none 0 0]) := by show DB _ _ _ _; rw [← hY2]; exact HA.out.put 0 (.int .i64 4)
  go_wp2_with fail
  try rw [hY2]
  clear hY2 m0 m1 m2 m3 m4 m5 m6 m7 m8 zm
  by_cases h2 : (tk ts i).text = [91]
  · refine (skip_yes (s := [91]) HS.out.pb hi h2).mono ?_
    rintro e y3 ⟨rfl, hp1, hk1⟩
    have HR : Hid (_ = R) := (if_pos h2).symm.trans HR.out
    have HS : Hid (ST B ts w vs XS bp a c (i + 1) vd vs ve 0 [] E y3) := HS.out.tok hp1 hk1
    have HA : Hid _ := HA.out.kp (hk1.wide (by decide))
    have HZ : Hid _ := HZ.out.kp (hk1.wide (by decide))
    clear hp1 hk1
    have hi1 : i + 1 < ts.length := G.ht i (by rw [h2]; simp)
    go_wp2_with fail
    by_cases h4q : (tk ts (i + 1)).kind = 1
    rotate_left
    · refine (size_kind HS.out.pb hi1 h4q).mono ?_
      rintro e y ⟨h3, hb3⟩
      obtain rfl : none = R := (if_neg h4q).symm.trans HR.out
      have h3' : e = _ := h3
      subst h3'
      have HF : Hid (DOut B ts w bp a c vd vs XS none _ y) := ⟨(HS.out.bel hb3).ks.kp, h3⟩
      clear h3 hb3 HS HR HA HZ
      go_wp2_with fail
      exact ⟨rfl, HF.out⟩
    have HR : Hid (_ = R) := (if_pos h4q).symm.trans HR.out
    by_cases h5q : (tk ts (i + 1)).n ≤ 1000000
    rotate_left
    · refine (size_big HS.out.pb hi1 h4q (by omega)).mono ?_
      rintro e y ⟨h3, hb3, hb4⟩
      obtain rfl : none = R := (if_neg h5q).symm.trans HR.out
      have h3' : e = _ := h3
      subst h3'
      have HF : Hid (DOut B ts w bp a c vd vs XS none _ y) := ⟨HS.out.ks.kp.trans (hb4.wide (by decide)), h3⟩
      clear h3 hb3 hb4 HS HR HA HZ
      go_wp2_with fail
      exact ⟨rfl, HF.out⟩
    refine (size_yes HS.out.pb hi1 h4q h5q).mono ?_
    rintro e y4 ⟨rfl, hp1, hk1⟩
    have HR : Hid (_ = R) := (if_pos h5q).symm.trans HR.out
    have HS : Hid (ST B ts w vs XS bp a c (i + 2) vd vs ve 0 [] E y4) := HS.out.tok hp1 hk1
    have HA : Hid _ := HA.out.kp (hk1.wide (by decide))
    have HZ : Hid _ := HZ.out.kp (hk1.wide (by decide))
    clear hp1 hk1
    have hi2 : i + 2 < ts.length := G.hk (i + 1) (by rw [h4q]; decide)
    have m0 := HA.out.cel 0 _ rfl
    have m1 := HA.out.cel 1 _ rfl
    have m2 := HA.out.cel 2 _ rfl
    have m3 := HA.out.cel 3 _ rfl
    have m4 := HA.out.cel 4 _ rfl
    have m5 := HA.out.cel 5 _ rfl
    have m6 := HA.out.cel 6 _ rfl
    have m7 := HA.out.cel 7 _ rfl
    have m8 := HA.out.cel 8 _ rfl
    have zm := HA.out.fro
    obtain ⟨Y5, hY5⟩ : ∃ Y5, y4.setCell ⟨w.heap.size, 3, none⟩ (.int .i64 (tk ts (i + 1)).n) = Y5 := ⟨_, rfl⟩
    have HS : Hid (ST B ts w vs XS bp a c (i + 2) vd vs ve 0 [] E Y5) := by show ST _ _ _ _ _ _ _ _ _ _ _ _ _ _ _ _; rw [← hY5]; exact HS.out.dbox HA.out (Nat.le_refl _) _
    have HZ : Hid (DB Y5 w.heap.size W0.heap.size [.int .i64 0, .string { data := #[] }, .bool false, .int .i64 0, .string { data := #[] }, .slice none 0 0, .int .i64 0, .int .i64 0, .slice none 0 0]) := by show DB _ _ _ _; rw [← hY5]; exact HZ.out.far HNE.out _
    have HA : Hid (DB Y5 w.heap.size w.heap.size [.int .i64 4, .string (X.str nm), .bool true, .int .i64 (tk ts (i + 1)).n, .string { data := #[] }, .slice none 0 0, .int .i64 0, .int .i64 0, .slice none 0 0]) := by show DB _ _ _ _; rw [← hY5]; exact HA.out.put 3 (.int .i64 (tk ts (i + 1)).n)
    have mm0 := HA.out.cel 0 _ rfl
    have mm1 := HA.out.cel 1 _ rfl
    have mm2 := HA.out.cel 2 _ rfl
    have mm3 := HA.out.cel 3 _ rfl
    have mm4 := HA.out.cel 4 _ rfl
    have mm5 := HA.out.cel 5 _ rfl
    have mm6 := HA.out.cel 6 _ rfl
    have mm7 := HA.out.cel 7 _ rfl
    have mm8 := HA.out.cel 8 _ rfl
    by_cases h6q : (tk ts (i + 1)).n = 0
    · have e0 : (((tk ts (i + 1)).n : Int) == 0) = true := by rw [h6q]; rfl
      obtain rfl : none = R := (if_pos h6q).symm.trans HR.out
      have HF : Hid (DOut B ts w bp a c vd vs XS none (.panicked [{ v := .iface 27 (.int .i64 2), recovered := false }]) Y5) := ⟨HS.out.ks.kp, rfl⟩
      clear h6q HS HR HA HZ
      go_wp2_with fail
      try rw [hY5]
      exact ⟨rfl, HF.out⟩
    have e0 : (((tk ts (i + 1)).n : Int) == 0) = false := by
      have : ((tk ts (i + 1)).n : Int) ≠ 0 := fun e => h6q (by omega)
      simpa using this
    have HR : Hid (_ = R) := (if_neg h6q).symm.trans HR.out
    clear h6q
    go_wp2_with fail
    try rw [hY5]
    clear hY5 m0 m1 m2 m3 m4 m5 m6 m7 m8 zm
    clear mm0 mm1 mm2 mm3 mm4 mm5 mm6 mm7 mm8
    clear e0
    by_cases h7q : (tk ts (i + 2)).text = [93]
    rotate_left
    · refine (want_no (s := [93]) HS.out.pb hi2 h7q).mono ?_
      rintro e y ⟨h3, hb3⟩
      obtain rfl : none = R := (if_neg h7q).symm.trans HR.out
      have h3' : e = _ := h3
      subst h3'
      have HF : Hid (DOut B ts w bp a c vd vs XS none _ y) := ⟨(HS.out.bel hb3).ks.kp, h3⟩
      clear h3 hb3 HS HR HA HZ
      go_wp2_with fail
      exact ⟨rfl, HF.out⟩
    refine (want_yes (s := [93]) HS.out.pb hi2 h7q).mono ?_
    rintro e y6 ⟨rfl, hp1, hk1⟩
    have HR : Hid (_ = R) := (if_pos h7q).symm.trans HR.out
    have HS : Hid (ST B ts w vs XS bp a c (i + 3) vd vs ve 0 [] E y6) := HS.out.tok hp1 hk1
    have HA : Hid _ := HA.out.kp (hk1.wide (by decide))
    have HZ : Hid _ := HZ.out.kp (hk1.wide (by decide))
    clear hp1 hk1
    have hi3 : i + 3 < ts.length := G.ht (i + 2) (by rw [h7q]; simp)
    go_wp2_with fail
    have hR1 := HR.out
    unfold nmb2 at hR1
    have HR : Hid _ := hR1
    clear hR1
    by_cases hb1q : (tk ts (i + 3)).text = kBy
    rotate_left
    · refine (want_no (s := kBy) HS.out.pb hi3 hb1q).mono ?_
      rintro e y ⟨h3, hb3⟩
      obtain rfl : none = R := (if_neg hb1q).symm.trans HR.out
      have h3' : e = _ := h3
      subst h3'
      have HF : Hid (DOut B ts w bp a c vd vs XS none _ y) := ⟨(HS.out.bel hb3).ks.kp, h3⟩
      clear h3 hb3 HS HR HA HZ
      go_wp2_with fail
      exact ⟨rfl, HF.out⟩
    refine (want_yes (s := kBy) HS.out.pb hi3 hb1q).mono ?_
    rintro e y7 ⟨rfl, hp1, hk1⟩
    have HR : Hid (_ = R) := (if_pos hb1q).symm.trans HR.out
    have HS : Hid (ST B ts w vs XS bp a c (i + 4) vd vs ve 0 [] E y7) := HS.out.tok hp1 hk1
    have HA : Hid _ := HA.out.kp (hk1.wide (by decide))
    have HZ : Hid _ := HZ.out.kp (hk1.wide (by decide))
    clear hp1 hk1
    have hb2q : (i + 4) < ts.length := G.ht _ (by rw [hb1q]; decide)
    go_wp2_with fail
    by_cases hb3q : (tk ts (i + 4)).kind = 2
    rotate_left
    · refine (name_no HS.out.pb hb2q hb3q).mono ?_
      rintro e y ⟨h3, hb3⟩
      obtain rfl : none = R := (if_neg hb3q).symm.trans HR.out
      have h3' : e = _ := h3
      subst h3'
      have HF : Hid (DOut B ts w bp a c vd vs XS none _ y) := ⟨(HS.out.bel hb3).ks.kp, h3⟩
      clear h3 hb3 HS HR HA HZ
      go_wp2_with fail
      exact ⟨rfl, HF.out⟩
    refine (name_yes HS.out.pb hb2q hb3q).mono ?_
    rintro e y8 ⟨rfl, hp1, hk1⟩
    have HR : Hid (_ = R) := (if_pos hb3q).symm.trans HR.out
    have HS : Hid (ST B ts w vs XS bp a c (i + 5) vd vs ve 0 [] E y8) := HS.out.tok hp1 hk1
    have HA : Hid _ := HA.out.kp (hk1.wide (by decide))
    have HZ : Hid _ := HZ.out.kp (hk1.wide (by decide))
    clear hp1 hk1
    have hb4q : (i + 5) < ts.length := G.hk _ (by rw [hb3q]; decide)
    have m0 := HA.out.cel 0 _ rfl
    have m1 := HA.out.cel 1 _ rfl
    have m2 := HA.out.cel 2 _ rfl
    have m3 := HA.out.cel 3 _ rfl
    have m4 := HA.out.cel 4 _ rfl
    have m5 := HA.out.cel 5 _ rfl
    have m6 := HA.out.cel 6 _ rfl
    have m7 := HA.out.cel 7 _ rfl
    have m8 := HA.out.cel 8 _ rfl
    have zm := HA.out.fro
    obtain ⟨Y9, hY9⟩ : ∃ Y9, y8.setCell ⟨w.heap.size, 4, none⟩ (.string (X.str (tk ts (i + 4)).text)) = Y9 := ⟨_, rfl⟩
    have HS : Hid (ST B ts w vs XS bp a c (i + 5) vd vs ve 0 [] E Y9) := by show ST _ _ _ _ _ _ _ _ _ _ _ _ _ _ _ _; rw [← hY9]; exact HS.out.dbox HA.out (Nat.le_refl _) _
    have HZ : Hid (DB Y9 w.heap.size W0.heap.size [.int .i64 0, .string { data := #[] }, .bool false, .int .i64 0, .string { data := #[] }, .slice none 0 0, .int .i64 0, .int .i64 0, .slice none 0 0]) := by show DB _ _ _ _; rw [← hY9]; exact HZ.out.far HNE.out _
    have HA : Hid (DB Y9 w.heap.size w.heap.size [.int .i64 4, .string (X.str nm), .bool true, .int .i64 (tk ts (i + 1)).n, .string (X.str (tk ts (i + 4)).text), .slice none 0 0, .int .i64 0, .int .i64 0, .slice none 0 0]) := by show DB _ _ _ _; rw [← hY9]; exact HA.out.put 4 (.string (X.str (tk ts (i + 4)).text))
    go_wp2_with fail
    try rw [hY9]
    clear hY9 m0 m1 m2 m3 m4 m5 m6 m7 m8 zm
    by_cases hb5q : (tk ts (i + 5)).text = [59]
    rotate_left
    · refine (want_no (s := [59]) HS.out.pb hb4q hb5q).mono ?_
      rintro e y ⟨h3, hb3⟩
      obtain rfl : none = R := (if_neg hb5q).symm.trans HR.out
      have h3' : e = _ := h3
      subst h3'
      have HF : Hid (DOut B ts w bp a c vd vs XS none _ y) := ⟨(HS.out.bel hb3).ks.kp, h3⟩
      clear h3 hb3 HS HR HA HZ
      go_wp2_with fail
      exact ⟨rfl, HF.out⟩
    refine (want_yes (s := [59]) HS.out.pb hb4q hb5q).mono ?_
    rintro e y10 ⟨rfl, hp1, hk1⟩
    have HR : Hid (_ = R) := (if_pos hb5q).symm.trans HR.out
    have HS : Hid (ST B ts w vs XS bp a c (i + 6) vd vs ve 0 [] E y10) := HS.out.tok hp1 hk1
    have HA : Hid _ := HA.out.kp (hk1.wide (by decide))
    have HZ : Hid _ := HZ.out.kp (hk1.wide (by decide))
    clear hp1 hk1
    obtain rfl : _ = R := HR.out
    have m0 := HA.out.cel 0 _ rfl
    have m1 := HA.out.cel 1 _ rfl
    have m2 := HA.out.cel 2 _ rfl
    have m3 := HA.out.cel 3 _ rfl
    have m4 := HA.out.cel 4 _ rfl
    have m5 := HA.out.cel 5 _ rfl
    have m6 := HA.out.cel 6 _ rfl
    have m7 := HA.out.cel 7 _ rfl
    have m8 := HA.out.cel 8 _ rfl
    have n0 := HZ.out.cel 0 _ rfl
    have n1 := HZ.out.cel 1 _ rfl
    have n2 := HZ.out.cel 2 _ rfl
    have n3 := HZ.out.cel 3 _ rfl
    have n4 := HZ.out.cel 4 _ rfl
    have n5 := HZ.out.cel 5 _ rfl
    have n6 := HZ.out.cel 6 _ rfl
    have n7 := HZ.out.cel 7 _ rfl
    have n8 := HZ.out.cel 8 _ rfl
    have zm := HA.out.fro
    have z0 := HZ.out.fro
    go_wp2_with fail
    refine bodyPost_ret (v := dcV ⟨⟨4, nm, true, (tk ts (i + 1)).n, (tk ts (i + 4)).text, [], 0, 0, []⟩, .slice none 0 0, .slice none 0 0⟩) ?_ rfl ?_
    · simp [results, Tryz.results78, go_sem, n0, n1, n2, n3, n4, n5, n6, n7, n8, z0, dcV, str_nil]
    · exact fin9 HS.out HZ.out (Nat.le_refl _) ⟨⟨4, nm, true, (tk ts (i + 1)).n, (tk ts (i + 4)).text, [], 0, 0, []⟩, .slice none 0 0, .slice none 0 0⟩ (⟨World.ownsRow_nil _ _ _ _, World.ownsRow_nil _ _ _ _⟩) (by simp)
  · refine (skip_no (s := [91]) HS.out.pb hi h2).mono ?_
    rintro e y3 ⟨rfl, hb1⟩
    have HR : Hid (_ = R) := (if_neg h2).symm.trans HR.out
    have HS : Hid (ST B ts w vs XS bp a c i vd vs ve 0 [] E y3) := HS.out.bel hb1
    have HA : Hid _ := HA.out.bel hb1
    have HZ : Hid _ := HZ.out.bel hb1
    clear hb1
    go_wp2_with fail
    have hR1 := HR.out
    unfold nmb2 at hR1
    have HR : Hid _ := hR1
    clear hR1
    by_cases hb1q : (tk ts i).text = kBy
    rotate_left
    · refine (want_no (s := kBy) HS.out.pb hi hb1q).mono ?_
      rintro e y ⟨h3, hb3⟩
      obtain rfl : none = R := (if_neg hb1q).symm.trans HR.out
      have h3' : e = _ := h3
      subst h3'
      have HF : Hid (DOut B ts w bp a c vd vs XS none _ y) := ⟨(HS.out.bel hb3).ks.kp, h3⟩
      clear h3 hb3 HS HR HA HZ
      go_wp2_with fail
      exact ⟨rfl, HF.out⟩
    refine (want_yes (s := kBy) HS.out.pb hi hb1q).mono ?_
    rintro e y4 ⟨rfl, hp1, hk1⟩
    have HR : Hid (_ = R) := (if_pos hb1q).symm.trans HR.out
    have HS : Hid (ST B ts w vs XS bp a c (i + 1) vd vs ve 0 [] E y4) := HS.out.tok hp1 hk1
    have HA : Hid _ := HA.out.kp (hk1.wide (by decide))
    have HZ : Hid _ := HZ.out.kp (hk1.wide (by decide))
    clear hp1 hk1
    have hb2q : (i + 1) < ts.length := G.ht _ (by rw [hb1q]; decide)
    go_wp2_with fail
    by_cases hb3q : (tk ts (i + 1)).kind = 2
    rotate_left
    · refine (name_no HS.out.pb hb2q hb3q).mono ?_
      rintro e y ⟨h3, hb3⟩
      obtain rfl : none = R := (if_neg hb3q).symm.trans HR.out
      have h3' : e = _ := h3
      subst h3'
      have HF : Hid (DOut B ts w bp a c vd vs XS none _ y) := ⟨(HS.out.bel hb3).ks.kp, h3⟩
      clear h3 hb3 HS HR HA HZ
      go_wp2_with fail
      exact ⟨rfl, HF.out⟩
    refine (name_yes HS.out.pb hb2q hb3q).mono ?_
    rintro e y5 ⟨rfl, hp1, hk1⟩
    have HR : Hid (_ = R) := (if_pos hb3q).symm.trans HR.out
    have HS : Hid (ST B ts w vs XS bp a c (i + 2) vd vs ve 0 [] E y5) := HS.out.tok hp1 hk1
    have HA : Hid _ := HA.out.kp (hk1.wide (by decide))
    have HZ : Hid _ := HZ.out.kp (hk1.wide (by decide))
    clear hp1 hk1
    have hb4q : (i + 2) < ts.length := G.hk _ (by rw [hb3q]; decide)
    have m0 := HA.out.cel 0 _ rfl
    have m1 := HA.out.cel 1 _ rfl
    have m2 := HA.out.cel 2 _ rfl
    have m3 := HA.out.cel 3 _ rfl
    have m4 := HA.out.cel 4 _ rfl
    have m5 := HA.out.cel 5 _ rfl
    have m6 := HA.out.cel 6 _ rfl
    have m7 := HA.out.cel 7 _ rfl
    have m8 := HA.out.cel 8 _ rfl
    have zm := HA.out.fro
    obtain ⟨Y6, hY6⟩ : ∃ Y6, y5.setCell ⟨w.heap.size, 4, none⟩ (.string (X.str (tk ts (i + 1)).text)) = Y6 := ⟨_, rfl⟩
    have HS : Hid (ST B ts w vs XS bp a c (i + 2) vd vs ve 0 [] E Y6) := by show ST _ _ _ _ _ _ _ _ _ _ _ _ _ _ _ _; rw [← hY6]; exact HS.out.dbox HA.out (Nat.le_refl _) _
    have HZ : Hid (DB Y6 w.heap.size W0.heap.size [.int .i64 0, .string { data := #[] }, .bool false, .int .i64 0, .string { data := #[] }, .slice none 0 0, .int .i64 0, .int .i64 0, .slice none 0 0]) := by show DB _ _ _ _; rw [← hY6]; exact HZ.out.far HNE.out _
    have HA : Hid (DB Y6 w.heap.size w.heap.size [.int .i64 4, .string (X.str nm), .bool true, .int .i64 0, .string (X.str (tk ts (i + 1)).text), .slice none 0 0, .int .i64 0, .int .i64 0, .slice none 0 0]) := by show DB _ _ _ _; rw [← hY6]; exact HA.out.put 4 (.string (X.str (tk ts (i + 1)).text))
    go_wp2_with fail
    try rw [hY6]
    clear hY6 m0 m1 m2 m3 m4 m5 m6 m7 m8 zm
    by_cases hb5q : (tk ts (i + 2)).text = [59]
    rotate_left
    · refine (want_no (s := [59]) HS.out.pb hb4q hb5q).mono ?_
      rintro e y ⟨h3, hb3⟩
      obtain rfl : none = R := (if_neg hb5q).symm.trans HR.out
      have h3' : e = _ := h3
      subst h3'
      have HF : Hid (DOut B ts w bp a c vd vs XS none _ y) := ⟨(HS.out.bel hb3).ks.kp, h3⟩
      clear h3 hb3 HS HR HA HZ
      go_wp2_with fail
      exact ⟨rfl, HF.out⟩
    refine (want_yes (s := [59]) HS.out.pb hb4q hb5q).mono ?_
    rintro e y7 ⟨rfl, hp1, hk1⟩
    have HR : Hid (_ = R) := (if_pos hb5q).symm.trans HR.out
    have HS : Hid (ST B ts w vs XS bp a c (i + 3) vd vs ve 0 [] E y7) := HS.out.tok hp1 hk1
    have HA : Hid _ := HA.out.kp (hk1.wide (by decide))
    have HZ : Hid _ := HZ.out.kp (hk1.wide (by decide))
    clear hp1 hk1
    obtain rfl : _ = R := HR.out
    have m0 := HA.out.cel 0 _ rfl
    have m1 := HA.out.cel 1 _ rfl
    have m2 := HA.out.cel 2 _ rfl
    have m3 := HA.out.cel 3 _ rfl
    have m4 := HA.out.cel 4 _ rfl
    have m5 := HA.out.cel 5 _ rfl
    have m6 := HA.out.cel 6 _ rfl
    have m7 := HA.out.cel 7 _ rfl
    have m8 := HA.out.cel 8 _ rfl
    have n0 := HZ.out.cel 0 _ rfl
    have n1 := HZ.out.cel 1 _ rfl
    have n2 := HZ.out.cel 2 _ rfl
    have n3 := HZ.out.cel 3 _ rfl
    have n4 := HZ.out.cel 4 _ rfl
    have n5 := HZ.out.cel 5 _ rfl
    have n6 := HZ.out.cel 6 _ rfl
    have n7 := HZ.out.cel 7 _ rfl
    have n8 := HZ.out.cel 8 _ rfl
    have zm := HA.out.fro
    have z0 := HZ.out.fro
    go_wp2_with fail
    refine bodyPost_ret (v := dcV ⟨⟨4, nm, true, 0, (tk ts (i + 1)).text, [], 0, 0, []⟩, .slice none 0 0, .slice none 0 0⟩) ?_ rfl ?_
    · simp [results, Tryz.results78, go_sem, n0, n1, n2, n3, n4, n5, n6, n7, n8, z0, dcV, str_nil]
    · exact fin9 HS.out HZ.out (Nat.le_refl _) ⟨⟨4, nm, true, 0, (tk ts (i + 1)).text, [], 0, 0, []⟩, .slice none 0 0, .slice none 0 0⟩ (⟨World.ownsRow_nil _ _ _ _, World.ownsRow_nil _ _ _ _⟩) (by simp)
set_option maxRecDepth 100000 in
set_option maxHeartbeats 2000000 in
theorem number_false {B : Nat} {ts : List X.Tok} {bp : Nat} {a : Option Addr} {c : Nat} {vd vs ve : Value} {XS : List Sx} (G : Good ts) (hB : 8 ≤ B) {f : Nat} (hf : 3 * ts.length + 4 ≤ f) {i : Nat} (hi : i < ts.length) {w : World} {E : List Exp} (h : ST B ts w vs XS bp a c i vd vs ve 0 [] E w) (hl : E.length ≤ i) (hlx : XS.length ≤ i) (he : Env w) (nm : X.By) : Calls Tryz.prog 78 #[.pointer (some ⟨bp, 0, none⟩), .agg #[.int .i64 0, .string (X.str nm), .bool false, .int .i64 0, .string { data := #[] }, .slice none 0 0, .int .i64 0, .int .i64 0, .slice none 0 0]] w (DOut B ts w bp a c vd vs XS (nmb ts f ⟨0, nm, false, 0, [], [], 0, 0, []⟩ i E (XS.map (·.s)))) := by
  obtain ⟨R, hR⟩ : ∃ R, nmb ts f ⟨0, nm, false, 0, [], [], 0, 0, []⟩ i E (XS.map (·.s)) = R := ⟨_, rfl⟩
  have hR0 := hR
  unfold nmb at hR0
  have HR : Hid _ := hR0
  rw [hR]
  clear hR hR0
  obtain ⟨W0, hW0⟩ : ∃ W0, w.alloc (.cells #[.int .i64 0, .string (X.str nm), .bool false, .int .i64 0, .string { data := #[] }, .slice none 0 0, .int .i64 0, .int .i64 0, .slice none 0 0] 54) = W0 := ⟨_, rfl⟩
  obtain ⟨W1, hW1⟩ : ∃ W1, W0.alloc (.cells #[.int .i64 0, .string { data := #[] }, .bool false, .int .i64 0, .string { data := #[] }, .slice none 0 0, .int .i64 0, .int .i64 0, .slice none 0 0] 54) = W1 := ⟨_, rfl⟩
  have HS0 : Hid (ST B ts w vs XS bp a c i vd vs ve 0 [] E W0) := by show ST _ _ _ _ _ _ _ _ _ _ _ _ _ _ _ _; rw [← hW0]; exact h.bel (bl1 _ _)
  have HS : Hid (ST B ts w vs XS bp a c i vd vs ve 0 [] E W1) := by show ST _ _ _ _ _ _ _ _ _ _ _ _ _ _ _ _; rw [← hW1]; exact HS0.out.bel (bl1 _ _)
  have HA0 : Hid (DB W0 w.heap.size w.heap.size [.int .i64 0, .string (X.str nm), .bool false, .int .i64 0, .string { data := #[] }, .slice none 0 0, .int .i64 0, .int .i64 0, .slice none 0 0]) := by show DB _ _ _ _; rw [← hW0]; exact DB.new (Nat.le_refl _)
  have HA : Hid (DB W1 w.heap.size w.heap.size [.int .i64 0, .string (X.str nm), .bool false, .int .i64 0, .string { data := #[] }, .slice none 0 0, .int .i64 0, .int .i64 0, .slice none 0 0]) := by show DB _ _ _ _; rw [← hW1]; exact HA0.out.bel (bl1 _ _)
  have HZ : Hid (DB W1 w.heap.size W0.heap.size [.int .i64 0, .string { data := #[] }, .bool false, .int .i64 0, .string { data := #[] }, .slice none 0 0, .int .i64 0, .int .i64 0, .slice none 0 0]) := by show DB _ _ _ _; rw [← hW1]; exact DB.new HS0.out.ks.kp.low.size
  have HNE : Hid (w.heap.size ≠ W0.heap.size) := by show _ ≠ _; rw [← hW0]; simp
  have HE : Hid (∀ y, Kp T3 B w y → Env y) := fun y hy => he.kp hy hB
  have hN := G.len
  have hml : (XS.map (·.s)).length = XS.length := List.length_map ..
  clear h he HS0 HA0
  go_enter Tryz.func78, Tryz.ntmps78
  go_wp2_with fail
  clear hW0 hW1
  by_cases h1 : (tk ts i).text = [40]
  · refine (skip_yes (s := [40]) HS.out.pb hi h1).mono ?_
    rintro e y1 ⟨rfl, hp1, hk1⟩
    have HR : Hid (_ = R) := (if_pos h1).symm.trans HR.out
    have HS : Hid (ST B ts w vs XS bp a c (i + 1) vd vs ve 0 [] E y1) := HS.out.tok hp1 hk1
    have HA : Hid _ := HA.out.kp (hk1.wide (by decide))
    have HZ : Hid _ := HZ.out.kp (hk1.wide (by decide))
    clear hp1 hk1
    have hi1 : i + 1 < ts.length := G.ht i (by rw [h1]; simp)
    have m0 := HA.out.cel 0 _ rfl
    have m1 := HA.out.cel 1 _ rfl
    have m2 := HA.out.cel 2 _ rfl
    have m3 := HA.out.cel 3 _ rfl
    have m4 := HA.out.cel 4 _ rfl
    have m5 := HA.out.cel 5 _ rfl
    have m6 := HA.out.cel 6 _ rfl
    have m7 := HA.out.cel 7 _ rfl
    have m8 := HA.out.cel 8 _ rfl
    have zm := HA.out.fro
    obtain ⟨Y2, hY2⟩ : ∃ Y2, y1.setCell ⟨w.heap.size, 0, none⟩ (.int .i64 5) = Y2 := ⟨_, rfl⟩
    have HS : Hid (ST B ts w vs XS bp a c (i + 1) vd vs ve 0 [] E Y2) := by show ST _ _ _ _ _ _ _ _ _ _ _ _ _ _ _ _; rw [← hY2]; exact HS.out.dbox HA.out (Nat.le_refl _) _
    have HZ : Hid (DB Y2 w.heap.size W0.heap.size [.int .i64 0, .string { data := #[] }, .bool false, .int .i64 0, .string { data := #[] }, .slice none 0 0, .int .i64 0, .int .i64 0, .slice none 0 0]) := by show DB _ _ _ _; rw [← hY2]; exact HZ.out.far HNE.out _
    have HA : Hid (DB Y2 w.heap.size w.heap.size [.int .i64 5, .string (X.str nm), .bool false, .int .i64 0, .string { data := #[] }, .slice none 0 0, .int .i64 0, .int .i64 0, .slice none 0 0]) := by show DB _ _ _ _; rw [← hY2]; exact HA.out.put 0 (.int .i64 5)
    have mm0 := HA.out.cel 0 _ rfl
    have mm1 := HA.out.cel 1 _ rfl
    have mm2 := HA.out.cel 2 _ rfl
    have mm3 := HA.out.cel 3 _ rfl
    have mm4 := HA.out.cel 4 _ rfl
    have mm5 := HA.out.cel 5 _ rfl
    have mm6 := HA.out.cel 6 _ rfl
    have mm7 := HA.out.cel 7 _ rfl
    have mm8 := HA.out.cel 8 _ rfl
    have HC : Hid (Calls Tryz.prog 104 #[.pointer (some ⟨bp, 0, none⟩), .agg #[.int .i64 5, .string (X.str nm), .bool false, .int .i64 0, .string { data := #[] }, .slice none 0 0, .int .i64 0, .int .i64 0, .slice none 0 0]] Y2 (DOut B ts Y2 bp a c vd vs XS R)) := by
      rw [← HR.out]
      exact function_false G hB hf hi1 HS.out.base0 (by omega) (by omega) (HE.out _ HS.out.ks.kp) nm
    go_wp2_with fail
    try rw [hY2]
    clear hY2 m0 m1 m2 m3 m4 m5 m6 m7 m8 zm
    clear mm0 mm1 mm2 mm3 mm4 mm5 mm6 mm7 mm8
    refine Calls.mono HC.out ?_
    intro e y hy
    have HY : Hid (DOut B ts Y2 bp a c vd vs XS R e y) := hy
    clear hy HC HR
    cases R with
    | none =>
      have h3' : e = _ := HY.out.2
      subst h3'
      have HF : Hid (DOut B ts w bp a c vd vs XS none _ y) := ⟨HS.out.ks.kp.trans HY.out.1, HY.out.2⟩
      clear HY HS HA HZ
      go_wp2_with fail
      exact ⟨rfl, HF.out⟩
    | some r =>
      obtain ⟨s0, j0, E0, S0⟩ := r
      obtain ⟨hk, vs', ve', N, ⟨s1, vp1, vb1⟩, hst, hS, hs1, rfl, hrow⟩ := HY.out
      dsimp only at hs1
      subst hs1
      obtain ⟨aa, ca, ab, cb, rfl, rfl⟩ := dxform hrow
      have HFR : Hid (DxR B y ⟨s1, .slice aa s1.params.length ca, .slice ab s1.body.length cb⟩ ∧ (XS ++ N).map (·.s) = S0) := ⟨hrow, hS⟩
      have HZ : Hid _ := HZ.out.kp hk
      have HS : Hid (ST B ts w vs XS bp a c j0 vd vs' ve' 0 N E0 y) := HS.out.call0 hst
      clear hk hst hS hrow HY HA
      have n0 := HZ.out.cel 0 _ rfl
      have n1 := HZ.out.cel 1 _ rfl
      have n2 := HZ.out.cel 2 _ rfl
      have n3 := HZ.out.cel 3 _ rfl
      have n4 := HZ.out.cel 4 _ rfl
      have n5 := HZ.out.cel 5 _ rfl
      have n6 := HZ.out.cel 6 _ rfl
      have n7 := HZ.out.cel 7 _ rfl
      have n8 := HZ.out.cel 8 _ rfl
      have z0 := HZ.out.fro
      unfold dcV
      go_wp2_with fail
      refine bodyPost_ret (v := dcV ⟨s1, .slice aa s1.params.length ca, .slice ab s1.body.length cb⟩) ?_ rfl ?_
      · simp [results, Tryz.results78, go_sem, n0, n1, n2, n3, n4, n5, n6, n7, n8, z0, dcV]
      · exact fin9 HS.out HZ.out (Nat.le_refl _) ⟨s1, .slice aa s1.params.length ca, .slice ab s1.body.length cb⟩ HFR.out.1 HFR.out.2
  refine (skip_no (s := [40]) HS.out.pb hi h1).mono ?_
  rintro e y1 ⟨rfl, hb1⟩
  have HR : Hid (_ = R) := (if_neg h1).symm.trans HR.out
  have HS : Hid (ST B ts w vs XS bp a c i vd vs ve 0 [] E y1) := HS.out.bel hb1
  have HA : Hid _ := HA.out.bel hb1
  have HZ : Hid _ := HZ.out.bel hb1
  clear hb1
  have m0 := HA.out.cel 0 _ rfl
  have m1 := HA.out.cel 1 _ rfl
  have m2 := HA.out.cel 2 _ rfl
  have m3 := HA.out.cel 3 _ rfl
  have m4 := HA.out.cel 4 _ rfl
  have m5 := HA.out.cel 5 _ rfl
  have m6 := HA.out.cel 6 _ rfl
  have m7 := HA.out.cel 7 _ rfl
  have m8 := HA.out.cel 8 _ rfl
  have zm := HA.out.fro
  obtain ⟨Y2, hY2⟩ : ∃ Y2, y1.setCell ⟨w.heap.size, 0, none⟩ (.int .i64 4) = Y2 := ⟨_, rfl⟩
  have HS : Hid (ST B ts w vs XS bp a c i vd vs ve 0 [] E Y2) := by show ST _ _ _ _ _ _ _ _ _ _ _ _ _ _ _ _; rw [← hY2]; exact HS.out.dbox HA.out (Nat.le_refl _) _
  have HZ : Hid (DB Y2 w.heap.size W0.heap.size [.int .i64 0, .string { data := #[] }, .bool false, .int .i64 0, .string { data := #[] }, .slice none 0 0, .int .i64 0, .int .i64 0, .slice none 0 0]) := by show DB _ _ _ _; rw [← hY2]; exact HZ.out.far HNE.out _
  have HA : Hid (DB Y2 w.heap.size w.heap.size [.int .i64 4, .string (X.str nm), .bool false, .int .i64 0, .string { data := #[] }, .slice none 0 0, .int .i64 0, .int .i64 0, .slice none 0 0]) := by show DB _ _ _ _; rw [← hY2]; exact HA.out.put 0 (.int .i64 4)
  go_wp2_with fail
  try rw [hY2]
  clear hY2 m0 m1 m2 m3 m4 m5 m6 m7 m8 zm
  by_cases h2 : (tk ts i).text = [91]
  · refine (skip_yes (s := [91]) HS.out.pb hi h2).mono ?_
    rintro e y3 ⟨rfl, hp1, hk1⟩
    have HR : Hid (_ = R) := (if_pos h2).symm.trans HR.out
    have HS : Hid (ST B ts w vs XS bp a c (i + 1) vd vs ve 0 [] E y3) := HS.out.tok hp1 hk1
    have HA : Hid _ := HA.out.kp (hk1.wide (by decide))
    have HZ : Hid _ := HZ.out.kp (hk1.wide (by decide))
    clear hp1 hk1
    have hi1 : i + 1 < ts.length := G.ht i (by rw [h2]; simp)
    go_wp2_with fail
    by_cases h4q : (tk ts (i + 1)).kind = 1
    rotate_left
    · refine (size_kind HS.out.pb hi1 h4q).mono ?_
      rintro e y ⟨h3, hb3⟩
      obtain rfl : none = R := (if_neg h4q).symm.trans HR.out
      have h3' : e = _ := h3
      subst h3'
      have HF : Hid (DOut B ts w bp a c vd vs XS none _ y) := ⟨(HS.out.bel hb3).ks.kp, h3⟩
      clear h3 hb3 HS HR HA HZ
      go_wp2_with fail
      exact ⟨rfl, HF.out⟩
    have HR : Hid (_ = R) := (if_pos h4q).symm.trans HR.out
    by_cases h5q : (tk ts (i + 1)).n ≤ 1000000
    rotate_left
    · refine (size_big HS.out.pb hi1 h4q (by omega)).mono ?_
      rintro e y ⟨h3, hb3, hb4⟩
      obtain rfl : none = R := (if_neg h5q).symm.trans HR.out
      have h3' : e = _ := h3
      subst h3'
      have HF : Hid (DOut B ts w bp a c vd vs XS none _ y) := ⟨HS.out.ks.kp.trans (hb4.wide (by decide)), h3⟩
      clear h3 hb3 hb4 HS HR HA HZ
      go_wp2_with fail
      exact ⟨rfl, HF.out⟩
    refine (size_yes HS.out.pb hi1 h4q h5q).mono ?_
    rintro e y4 ⟨rfl, hp1, hk1⟩
    have HR : Hid (_ = R) := (if_pos h5q).symm.trans HR.out
    have HS : Hid (ST B ts w vs XS bp a c (i + 2) vd vs ve 0 [] E y4) := HS.out.tok hp1 hk1
    have HA : Hid _ := HA.out.kp (hk1.wide (by decide))
    have HZ : Hid _ := HZ.out.kp (hk1.wide (by decide))
    clear hp1 hk1
    have hi2 : i + 2 < ts.length := G.hk (i + 1) (by rw [h4q]; decide)
    have m0 := HA.out.cel 0 _ rfl
    have m1 := HA.out.cel 1 _ rfl
    have m2 := HA.out.cel 2 _ rfl
    have m3 := HA.out.cel 3 _ rfl
    have m4 := HA.out.cel 4 _ rfl
    have m5 := HA.out.cel 5 _ rfl
    have m6 := HA.out.cel 6 _ rfl
    have m7 := HA.out.cel 7 _ rfl
    have m8 := HA.out.cel 8 _ rfl
    have zm := HA.out.fro
    obtain ⟨Y5, hY5⟩ : ∃ Y5, y4.setCell ⟨w.heap.size, 3, none⟩ (.int .i64 (tk ts (i + 1)).n) = Y5 := ⟨_, rfl⟩
    have HS : Hid (ST B ts w vs XS bp a c (i + 2) vd vs ve 0 [] E Y5) := by show ST _ _ _ _ _ _ _ _ _ _ _ _ _ _ _ _; rw [← hY5]; exact HS.out.dbox HA.out (Nat.le_refl _) _
    have HZ : Hid (DB Y5 w.heap.size W0.heap.size [.int .i64 0, .string { data := #[] }, .bool false, .int .i64 0, .string { data := #[] }, .slice none 0 0, .int .i64 0, .int .i64 0, .slice none 0 0]) := by show DB _ _ _ _; rw [← hY5]; exact HZ.out.far HNE.out _
    have HA : Hid (DB Y5 w.heap.size w.heap.size [.int .i64 4, .string (X.str nm), .bool false, .int .i64 (tk ts (i + 1)).n, .string { data := #[] }, .slice none 0 0, .int .i64 0, .int .i64 0, .slice none 0 0]) := by show DB _ _ _ _; rw [← hY5]; exact HA.out.put 3 (.int .i64 (tk ts (i + 1)).n)
    have mm0 := HA.out.cel 0 _ rfl
    have mm1 := HA.out.cel 1 _ rfl
    have mm2 := HA.out.cel 2 _ rfl
    have mm3 := HA.out.cel 3 _ rfl
    have mm4 := HA.out.cel 4 _ rfl
    have mm5 := HA.out.cel 5 _ rfl
    have mm6 := HA.out.cel 6 _ rfl
    have mm7 := HA.out.cel 7 _ rfl
    have mm8 := HA.out.cel 8 _ rfl
    by_cases h6q : (tk ts (i + 1)).n = 0
    · have e0 : (((tk ts (i + 1)).n : Int) == 0) = true := by rw [h6q]; rfl
      obtain rfl : none = R := (if_pos h6q).symm.trans HR.out
      have HF : Hid (DOut B ts w bp a c vd vs XS none (.panicked [{ v := .iface 27 (.int .i64 2), recovered := false }]) Y5) := ⟨HS.out.ks.kp, rfl⟩
      clear h6q HS HR HA HZ
      go_wp2_with fail
      try rw [hY5]
      exact ⟨rfl, HF.out⟩
    have e0 : (((tk ts (i + 1)).n : Int) == 0) = false := by
      have : ((tk ts (i + 1)).n : Int) ≠ 0 := fun e => h6q (by omega)
      simpa using this
    have HR : Hid (_ = R) := (if_neg h6q).symm.trans HR.out
    clear h6q
    go_wp2_with fail
    try rw [hY5]
    clear hY5 m0 m1 m2 m3 m4 m5 m6 m7 m8 zm
    clear mm0 mm1 mm2 mm3 mm4 mm5 mm6 mm7 mm8
    clear e0
    by_cases h7q : (tk ts (i + 2)).text = [93]
    rotate_left
    · refine (want_no (s := [93]) HS.out.pb hi2 h7q).mono ?_
      rintro e y ⟨h3, hb3⟩
      obtain rfl : none = R := (if_neg h7q).symm.trans HR.out
      have h3' : e = _ := h3
      subst h3'
      have HF : Hid (DOut B ts w bp a c vd vs XS none _ y) := ⟨(HS.out.bel hb3).ks.kp, h3⟩
      clear h3 hb3 HS HR HA HZ
      go_wp2_with fail
      exact ⟨rfl, HF.out⟩
    refine (want_yes (s := [93]) HS.out.pb hi2 h7q).mono ?_
    rintro e y6 ⟨rfl, hp1, hk1⟩
    have HR : Hid (_ = R) := (if_pos h7q).symm.trans HR.out
    have HS : Hid (ST B ts w vs XS bp a c (i + 3) vd vs ve 0 [] E y6) := HS.out.tok hp1 hk1
    have HA : Hid _ := HA.out.kp (hk1.wide (by decide))
    have HZ : Hid _ := HZ.out.kp (hk1.wide (by decide))
    clear hp1 hk1
    have hi3 : i + 3 < ts.length := G.ht (i + 2) (by rw [h7q]; simp)
    go_wp2_with fail
    have hR1 := HR.out
    unfold nmb2 at hR1
    have HR : Hid _ := hR1
    clear hR1
    by_cases hb1q : (tk ts (i + 3)).text = kBy
    rotate_left
    · refine (want_no (s := kBy) HS.out.pb hi3 hb1q).mono ?_
      rintro e y ⟨h3, hb3⟩
      obtain rfl : none = R := (if_neg hb1q).symm.trans HR.out
      have h3' : e = _ := h3
      subst h3'
      have HF : Hid (DOut B ts w bp a c vd vs XS none _ y) := ⟨(HS.out.bel hb3).ks.kp, h3⟩
      clear h3 hb3 HS HR HA HZ
      go_wp2_with fail
      exact ⟨rfl, HF.out⟩
    refine (want_yes (s := kBy) HS.out.pb hi3 hb1q).mono ?_
    rintro e y7 ⟨rfl, hp1, hk1⟩
    have HR : Hid (_ = R) := (if_pos hb1q).symm.trans HR.out
    have HS : Hid (ST B ts w vs XS bp a c (i + 4) vd vs ve 0 [] E y7) := HS.out.tok hp1 hk1
    have HA : Hid _ := HA.out.kp (hk1.wide (by decide))
    have HZ : Hid _ := HZ.out.kp (hk1.wide (by decide))
    clear hp1 hk1
    have hb2q : (i + 4) < ts.length := G.ht _ (by rw [hb1q]; decide)
    go_wp2_with fail
    by_cases hb3q : (tk ts (i + 4)).kind = 2
    rotate_left
    · refine (name_no HS.out.pb hb2q hb3q).mono ?_
      rintro e y ⟨h3, hb3⟩
      obtain rfl : none = R := (if_neg hb3q).symm.trans HR.out
      have h3' : e = _ := h3
      subst h3'
      have HF : Hid (DOut B ts w bp a c vd vs XS none _ y) := ⟨(HS.out.bel hb3).ks.kp, h3⟩
      clear h3 hb3 HS HR HA HZ
      go_wp2_with fail
      exact ⟨rfl, HF.out⟩
    refine (name_yes HS.out.pb hb2q hb3q).mono ?_
    rintro e y8 ⟨rfl, hp1, hk1⟩
    have HR : Hid (_ = R) := (if_pos hb3q).symm.trans HR.out
    have HS : Hid (ST B ts w vs XS bp a c (i + 5) vd vs ve 0 [] E y8) := HS.out.tok hp1 hk1
    have HA : Hid _ := HA.out.kp (hk1.wide (by decide))
    have HZ : Hid _ := HZ.out.kp (hk1.wide (by decide))
    clear hp1 hk1
    have hb4q : (i + 5) < ts.length := G.hk _ (by rw [hb3q]; decide)
    have m0 := HA.out.cel 0 _ rfl
    have m1 := HA.out.cel 1 _ rfl
    have m2 := HA.out.cel 2 _ rfl
    have m3 := HA.out.cel 3 _ rfl
    have m4 := HA.out.cel 4 _ rfl
    have m5 := HA.out.cel 5 _ rfl
    have m6 := HA.out.cel 6 _ rfl
    have m7 := HA.out.cel 7 _ rfl
    have m8 := HA.out.cel 8 _ rfl
    have zm := HA.out.fro
    obtain ⟨Y9, hY9⟩ : ∃ Y9, y8.setCell ⟨w.heap.size, 4, none⟩ (.string (X.str (tk ts (i + 4)).text)) = Y9 := ⟨_, rfl⟩
    have HS : Hid (ST B ts w vs XS bp a c (i + 5) vd vs ve 0 [] E Y9) := by show ST _ _ _ _ _ _ _ _ _ _ _ _ _ _ _ _; rw [← hY9]; exact HS.out.dbox HA.out (Nat.le_refl _) _
    have HZ : Hid (DB Y9 w.heap.size W0.heap.size [.int .i64 0, .string { data := #[] }, .bool false, .int .i64 0, .string { data := #[] }, .slice none 0 0, .int .i64 0, .int .i64 0, .slice none 0 0]) := by show DB _ _ _ _; rw [← hY9]; exact HZ.out.far HNE.out _
    have HA : Hid (DB Y9 w.heap.size w.heap.size [.int .i64 4, .string (X.str nm), .bool false, .int .i64 (tk ts (i + 1)).n, .string (X.str (tk ts (i + 4)).text), .slice none 0 0, .int .i64 0, .int .i64 0, .slice none 0 0]) := by show DB _ _ _ _; rw [← hY9]; exact HA.out.put 4 (.string (X.str (tk ts (i + 4)).text))
    go_wp2_with fail
    try rw [hY9]
    clear hY9 m0 m1 m2 m3 m4 m5 m6 m7 m8 zm
    by_cases hb5q : (tk ts (i + 5)).text = [59]
    rotate_left
    · refine (want_no (s := [59]) HS.out.pb hb4q hb5q).mono ?_
      rintro e y ⟨h3, hb3⟩
      obtain rfl : none = R := (if_neg hb5q).symm.trans HR.out
      have h3' : e = _ := h3
      subst h3'
      have HF : Hid (DOut B ts w bp a c vd vs XS none _ y) := ⟨(HS.out.bel hb3).ks.kp, h3⟩
      clear h3 hb3 HS HR HA HZ
      go_wp2_with fail
      exact ⟨rfl, HF.out⟩
    refine (want_yes (s := [59]) HS.out.pb hb4q hb5q).mono ?_
    rintro e y10 ⟨rfl, hp1, hk1⟩
    have HR : Hid (_ = R) := (if_pos hb5q).symm.trans HR.out
    have HS : Hid (ST B ts w vs XS bp a c (i + 6) vd vs ve 0 [] E y10) := HS.out.tok hp1 hk1
    have HA : Hid _ := HA.out.kp (hk1.wide (by decide))
    have HZ : Hid _ := HZ.out.kp (hk1.wide (by decide))
    clear hp1 hk1
    obtain rfl : _ = R := HR.out
    have m0 := HA.out.cel 0 _ rfl
    have m1 := HA.out.cel 1 _ rfl
    have m2 := HA.out.cel 2 _ rfl
    have m3 := HA.out.cel 3 _ rfl
    have m4 := HA.out.cel 4 _ rfl
    have m5 := HA.out.cel 5 _ rfl
    have m6 := HA.out.cel 6 _ rfl
    have m7 := HA.out.cel 7 _ rfl
    have m8 := HA.out.cel 8 _ rfl
    have n0 := HZ.out.cel 0 _ rfl
    have n1 := HZ.out.cel 1 _ rfl
    have n2 := HZ.out.cel 2 _ rfl
    have n3 := HZ.out.cel 3 _ rfl
    have n4 := HZ.out.cel 4 _ rfl
    have n5 := HZ.out.cel 5 _ rfl
    have n6 := HZ.out.cel 6 _ rfl
    have n7 := HZ.out.cel 7 _ rfl
    have n8 := HZ.out.cel 8 _ rfl
    have zm := HA.out.fro
    have z0 := HZ.out.fro
    go_wp2_with fail
    refine bodyPost_ret (v := dcV ⟨⟨4, nm, false, (tk ts (i + 1)).n, (tk ts (i + 4)).text, [], 0, 0, []⟩, .slice none 0 0, .slice none 0 0⟩) ?_ rfl ?_
    · simp [results, Tryz.results78, go_sem, n0, n1, n2, n3, n4, n5, n6, n7, n8, z0, dcV, str_nil]
    · exact fin9 HS.out HZ.out (Nat.le_refl _) ⟨⟨4, nm, false, (tk ts (i + 1)).n, (tk ts (i + 4)).text, [], 0, 0, []⟩, .slice none 0 0, .slice none 0 0⟩ (⟨World.ownsRow_nil _ _ _ _, World.ownsRow_nil _ _ _ _⟩) (by simp)
  · refine (skip_no (s := [91]) HS.out.pb hi h2).mono ?_
    rintro e y3 ⟨rfl, hb1⟩
    have HR : Hid (_ = R) := (if_neg h2).symm.trans HR.out
    have HS : Hid (ST B ts w vs XS bp a c i vd vs ve 0 [] E y3) := HS.out.bel hb1
    have HA : Hid _ := HA.out.bel hb1
    have HZ : Hid _ := HZ.out.bel hb1
    clear hb1
    go_wp2_with fail
    have hR1 := HR.out
    unfold nmb2 at hR1
    have HR : Hid _ := hR1
    clear hR1
    by_cases hb1q : (tk ts i).text = kBy
    rotate_left
    · refine (want_no (s := kBy) HS.out.pb hi hb1q).mono ?_
      rintro e y ⟨h3, hb3⟩
      obtain rfl : none = R := (if_neg hb1q).symm.trans HR.out
      have h3' : e = _ := h3
      subst h3'
      have HF : Hid (DOut B ts w bp a c vd vs XS none _ y) := ⟨(HS.out.bel hb3).ks.kp, h3⟩
      clear h3 hb3 HS HR HA HZ
      go_wp2_with fail
      exact ⟨rfl, HF.out⟩
    refine (want_yes (s := kBy) HS.out.pb hi hb1q).mono ?_
    rintro e y4 ⟨rfl, hp1, hk1⟩
    have HR : Hid (_ = R) := (if_pos hb1q).symm.trans HR.out
    have HS : Hid (ST B ts w vs XS bp a c (i + 1) vd vs ve 0 [] E y4) := HS.out.tok hp1 hk1
    have HA : Hid _ := HA.out.kp (hk1.wide (by decide))
    have HZ : Hid _ := HZ.out.kp (hk1.wide (by decide))
    clear hp1 hk1
    have hb2q : (i + 1) < ts.length := G.ht _ (by rw [hb1q]; decide)
    go_wp2_with fail
    by_cases hb3q : (tk ts (i + 1)).kind = 2
    rotate_left
    · refine (name_no HS.out.pb hb2q hb3q).mono ?_
      rintro e y ⟨h3, hb3⟩
      obtain rfl : none = R := (if_neg hb3q).symm.trans HR.out
      have h3' : e = _ := h3
      subst h3'
      have HF : Hid (DOut B ts w bp a c vd vs XS none _ y) := ⟨(HS.out.bel hb3).ks.kp, h3⟩
      clear h3 hb3 HS HR HA HZ
      go_wp2_with fail
      exact ⟨rfl, HF.out⟩
    refine (name_yes HS.out.pb hb2q hb3q).mono ?_
    rintro e y5 ⟨rfl, hp1, hk1⟩
    have HR : Hid (_ = R) := (if_pos hb3q).symm.trans HR.out
    have HS : Hid (ST B ts w vs XS bp a c (i + 2) vd vs ve 0 [] E y5) := HS.out.tok hp1 hk1
    have HA : Hid _ := HA.out.kp (hk1.wide (by decide))
    have HZ : Hid _ := HZ.out.kp (hk1.wide (by decide))
    clear hp1 hk1
    have hb4q : (i + 2) < ts.length := G.hk _ (by rw [hb3q]; decide)
    have m0 := HA.out.cel 0 _ rfl
    have m1 := HA.out.cel 1 _ rfl
    have m2 := HA.out.cel 2 _ rfl
    have m3 := HA.out.cel 3 _ rfl
    have m4 := HA.out.cel 4 _ rfl
    have m5 := HA.out.cel 5 _ rfl
    have m6 := HA.out.cel 6 _ rfl
    have m7 := HA.out.cel 7 _ rfl
    have m8 := HA.out.cel 8 _ rfl
    have zm := HA.out.fro
    obtain ⟨Y6, hY6⟩ : ∃ Y6, y5.setCell ⟨w.heap.size, 4, none⟩ (.string (X.str (tk ts (i + 1)).text)) = Y6 := ⟨_, rfl⟩
    have HS : Hid (ST B ts w vs XS bp a c (i + 2) vd vs ve 0 [] E Y6) := by show ST _ _ _ _ _ _ _ _ _ _ _ _ _ _ _ _; rw [← hY6]; exact HS.out.dbox HA.out (Nat.le_refl _) _
    have HZ : Hid (DB Y6 w.heap.size W0.heap.size [.int .i64 0, .string { data := #[] }, .bool false, .int .i64 0, .string { data := #[] }, .slice none 0 0, .int .i64 0, .int .i64 0, .slice none 0 0]) := by show DB _ _ _ _; rw [← hY6]; exact HZ.out.far HNE.out _
    have HA : Hid (DB Y6 w.heap.size w.heap.size [.int .i64 4, .string (X.str nm), .bool false, .int .i64 0, .string (X.str (tk ts (i + 1)).text), .slice none 0 0, .int .i64 0, .int .i64 0, .slice none 0 0]) := by show DB _ _ _ _; rw [← hY6]; exact HA.out.put 4 (.string (X.str (tk ts (i + 1)).text))
    go_wp2_with fail
    try rw [hY6]
    clear hY6 m0 m1 m2 m3 m4 m5 m6 m7 m8 zm
    by_cases hb5q : (tk ts (i + 2)).text = [59]
    rotate_left
    · refine (want_no (s := [59]) HS.out.pb hb4q hb5q).mono ?_
      rintro e y ⟨h3, hb3⟩
      obtain rfl : none = R := (if_neg hb5q).symm.trans HR.out
      have h3' : e = _ := h3
      subst h3'
      have HF : Hid (DOut B ts w bp a c vd vs XS none _ y) := ⟨(HS.out.bel hb3).ks.kp, h3⟩
      clear h3 hb3 HS HR HA HZ
      go_wp2_with fail
      exact ⟨rfl, HF.out⟩
    refine (want_yes (s := [59]) HS.out.pb hb4q hb5q).mono ?_
    rintro e y7 ⟨rfl, hp1, hk1⟩
    have HR : Hid (_ = R) := (if_pos hb5q).symm.trans HR.out
    have HS : Hid (ST B ts w vs XS bp a c (i + 3) vd vs ve 0 [] E y7) := HS.out.tok hp1 hk1
    have HA : Hid _ := HA.out.kp (hk1.wide (by decide))
    have HZ : Hid _ := HZ.out.kp (hk1.wide (by decide))
    clear hp1 hk1
    obtain rfl : _ = R := HR.out
    have m0 := HA.out.cel 0 _ rfl
    have m1 := HA.out.cel 1 _ rfl
    have m2 := HA.out.cel 2 _ rfl
    have m3 := HA.out.cel 3 _ rfl
    have m4 := HA.out.cel 4 _ rfl
    have m5 := HA.out.cel 5 _ rfl
    have m6 := HA.out.cel 6 _ rfl
    have m7 := HA.out.cel 7 _ rfl
    have m8 := HA.out.cel 8 _ rfl
    have n0 := HZ.out.cel 0 _ rfl
    have n1 := HZ.out.cel 1 _ rfl
    have n2 := HZ.out.cel 2 _ rfl
    have n3 := HZ.out.cel 3 _ rfl
    have n4 := HZ.out.cel 4 _ rfl
    have n5 := HZ.out.cel 5 _ rfl
    have n6 := HZ.out.cel 6 _ rfl
    have n7 := HZ.out.cel 7 _ rfl
    have n8 := HZ.out.cel 8 _ rfl
    have zm := HA.out.fro
    have z0 := HZ.out.fro
    go_wp2_with fail
    refine bodyPost_ret (v := dcV ⟨⟨4, nm, false, 0, (tk ts (i + 1)).text, [], 0, 0, []⟩, .slice none 0 0, .slice none 0 0⟩) ?_ rfl ?_
    · simp [results, Tryz.results78, go_sem, n0, n1, n2, n3, n4, n5, n6, n7, n8, z0, dcV, str_nil]
    · exact fin9 HS.out HZ.out (Nat.le_refl _) ⟨⟨4, nm, false, 0, (tk ts (i + 1)).text, [], 0, 0, []⟩, .slice none 0 0, .slice none 0 0⟩ (⟨World.ownsRow_nil _ _ _ _, World.ownsRow_nil _ _ _ _⟩) (by simp)
end Go.Proofs.YtikknlkdbjaonaaGreatDoor.Y
