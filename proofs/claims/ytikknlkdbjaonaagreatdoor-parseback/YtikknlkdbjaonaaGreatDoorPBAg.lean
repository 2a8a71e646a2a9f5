/- Expressions, as the program's parser reads them. -/
import Derived.Test.YtikknlkdbjaonaaGreatDoorPBAf
import Derived.Deep.AppendLies
namespace Go.Proofs.YtikknlkdbjaonaaGreatDoor.Y
open Go.RowKit Go.Maps
set_option linter.unusedVariables false
set_option linter.unusedSimpArgs false
/-- What unary comes to, from a token on. -/
def UnC (B : Nat) (ts : List X.Tok) (bp : Nat) (a : Option Addr) (c : Nat) (vd vs : Value) (i : Nat) : Prop := i < ts.length → ∀ w d E, PX B ts w bp a c i vd vs E d → d ≤ 20 → E.length ≤ i → Env w → Calls Tryz.prog 164 #[.pointer (some ⟨bp, 0, none⟩)] w (EOut B ts w bp a c vd vs d (Un ts d i E))
def BinC (B : Nat) (ts : List X.Tok) (bp : Nat) (a : Option Addr) (c : Nat) (vd vs : Value) (i : Nat) : Prop := i < ts.length → ∀ w (lv : Nat) d E, 1 ≤ lv → lv ≤ 11 → PX B ts w bp a c i vd vs E d → d ≤ 20 → E.length ≤ i → Env w → Calls Tryz.prog 155 #[.pointer (some ⟨bp, 0, none⟩), .int .i64 (lv : Int)] w (EOut B ts w bp a c vd vs d (Bin ts lv d i E))
theorem PX.kp {B : Nat} {ts : List X.Tok} {w : World} {bp : Nat} {a : Option Addr} {c j : Nat} {vd vs ve : Value} {E : List Exp} {d' : Nat} {y : World} (ho : w.ownsRow B 32 6 ve E.length (E.flatMap expC)) (hp : PB B ts y bp a c j vd vs ve d') (hk : Kp [69] B w y) : PX B ts y bp a c j vd vs E d' := ⟨ve, hp, row_kp ho hk (by decide)⟩
theorem Kp.up {B : Nat} {w y : World} (h : Kp [69] B w y) : Kp [69, 32] B w y := h.wide (by decide)
/-- From a '[' on. -/
def Ix (ts : List X.Tok) (d i : Nat) (E : List Exp) : Option (Nat × Nat × List Exp) := if 20 ≤ d then none else match Bin ts 1 (d + 1) (i + 1) E with
  | none => none
  | some (x, j, E') => if (tk ts j).text = [93] then some (x, j + 1, E') else none
theorem Ix_len {ts : List X.Tok} (h : Good ts) {d i x j : Nat} {E E' : List Exp} (hi : i < ts.length) (hu : Ix ts d i E = some (x, j, E')) : i < j ∧ j < ts.length ∧ E'.length + i ≤ E.length + j ∧ E.length ≤ E'.length := by
  unfold Ix at hu
  split at hu
  · cases hu
  · split at hu
    · cases hu
    · rename_i hb
      split at hu
      · rename_i ht
        injection hu with hu; injection hu with _ hu; injection hu with hu hu'; subst hu; subst hu'
        have := Bin_len h (Nat.le_refl _) hb
        have := h.ht _ (by rw [ht]; simp)
        omega
      · cases hu
/-- From a name on. -/
def Ni (ts : List X.Tok) (d i : Nat) (E : List Exp) : Option (Nat × Nat × List Exp) := if (tk ts i).kind = 2 then (if (tk ts (i + 1)).text = [91] then match Ix ts d (i + 1) E with
      | none => none
      | some (x, j, E') => some (E'.length, j, E' ++ [⟨3, [], (tk ts i).text, 0, x, 0⟩])
    else some (E.length, i + 1, E ++ [⟨2, [], (tk ts i).text, 0, 0, 0⟩])) else none
theorem Un_ni {ts : List X.Tok} {d i : Nat} {E : List Exp} (h1 : (tk ts i).text ≠ [45]) (h2 : (tk ts i).text ≠ [33]) : Un ts d i E = if (tk ts i).text = [40] then
      if 20 ≤ d then none else match Bin ts 1 (d + 1) (i + 1) E with
        | none => none
        | some (x, j, E') => if (tk ts j).text = [41] then some (x, j + 1, E') else none
    else if (tk ts i).kind = 1 then some (E.length, i + 1, E ++ [⟨1, [], [], (tk ts i).n, 0, 0⟩])
    else Ni ts d i E := by
  rw [Un_eq ts d i E, if_neg (show ¬((tk ts i).text = [45] ∨ (tk ts i).text = [33]) from fun e => e.elim h1 h2)]
  have e : (match Ix ts d (i + 1) E with
      | none => (none : Option (Nat × Nat × List Exp))
      | some (x, j, E') => some (E'.length, j, E' ++ [⟨3, [], (tk ts i).text, 0, x, 0⟩])) = if 20 ≤ d then none else match Bin ts 1 (d + 1) (i + 2) E with
          | none => none
          | some (x, j, E') => if (tk ts j).text = [93] then some (E'.length, j + 1, E' ++ [⟨3, [], (tk ts i).text, 0, x, 0⟩]) else none := by
    unfold Ix
    by_cases h : 20 ≤ d
    · rw [if_pos h, if_pos h]
    · rw [if_neg h, if_neg h]
      show (match (match Bin ts 1 (d + 1) (i + 2) E with
        | none => none
        | some (x, j, E') => if (tk ts j).text = [93] then some (x, j + 1, E') else none) with
        | none => (none : Option (Nat × Nat × List Exp))
        | some (x, j, E') => some (E'.length, j, E' ++ [(⟨3, [], (tk ts i).text, 0, x, 0⟩ : Exp)])) = _
      cases Bin ts 1 (d + 1) (i + 2) E with
      | none => rfl
      | some r =>
        obtain ⟨x, j, E'⟩ := r
        dsimp only
        by_cases h3 : (tk ts j).text = [93]
        · rw [if_pos h3, if_pos h3]
        · rw [if_neg h3, if_neg h3]
  unfold Ni
  rw [e]
  rfl
set_option maxRecDepth 100000 in
set_option maxHeartbeats 2000000 in
theorem exp_any {B : Nat} {ts : List X.Tok} {bp : Nat} {a : Option Addr} {c : Nat} {vd vs : Value} {i : Nat} (hb : BinC B ts bp a c vd vs i) (hi : i < ts.length) {w : World} {d : Nat} {E : List Exp} (h : PX B ts w bp a c i vd vs E d) (hd : d ≤ 20) (hl : E.length ≤ i) (he : Env w) : Calls Tryz.prog 143 #[.pointer (some ⟨bp, 0, none⟩)] w (EOut B ts w bp a c vd vs d (Bin ts 1 d i E)) := by
  have HC : Hid (Calls Tryz.prog 155 #[.pointer (some ⟨bp, 0, none⟩), .int .i64 1] w (EOut B ts w bp a c vd vs d (Bin ts 1 d i E))) := hb hi w 1 d E (Nat.le_refl _) (by decide) h hd hl he
  obtain ⟨R, hR⟩ : ∃ R, Bin ts 1 d i E = R := ⟨_, rfl⟩
  rw [hR] at HC ⊢
  clear h hd hl he hb hR
  go_enter Tryz.func143, Tryz.ntmps143
  go_wp2_with fail
  refine Calls.mono HC.out ?_
  intro e y hy
  have HY : Hid (EOut B ts w bp a c vd vs d R e y) := hy
  clear hy HC
  cases R with
  | none =>
    have h3' : e = _ := HY.out.2
    subst h3'
    go_wp2_with fail
    exact ⟨rfl, HY.out⟩
  | some r =>
    obtain ⟨x, j, E'⟩ := r
    obtain rfl : e = _ := HY.out.2.1
    go_wp2_with fail
    go_ret
    exact HY.out
set_option maxRecDepth 100000 in
set_option maxHeartbeats 2000000 in
theorem index_any {B : Nat} {ts : List X.Tok} {bp : Nat} {a : Option Addr} {c : Nat} {vd vs : Value} (G : Good ts) {i : Nat} (hb : BinC B ts bp a c vd vs (i + 1)) (hB : 8 ≤ B) {w : World} {d : Nat} {E : List Exp} (h : PX B ts w bp a c i vd vs E d) (ht : (tk ts i).text = [91]) (hd : d ≤ 20) (hl : E.length ≤ i + 1) (he : Env w) : Calls Tryz.prog 146 #[.pointer (some ⟨bp, 0, none⟩)] w (EOut B ts w bp a c vd vs d (Ix ts d i E)) := by
  obtain ⟨R, hR⟩ : ∃ R, Ix ts d i E = R := ⟨_, rfl⟩
  have HRR : Hid (Ix ts d i E = R) := hR
  rw [hR]
  clear hR
  obtain ⟨ve, hp, ho⟩ := h
  have hi : i < ts.length := in_of_text ht
  have HMF := hmf Tryz.prog
  go_enter Tryz.func146, Tryz.ntmps146
  go_wp2_with fail
  refine (want_yes (s := [91]) hp hi ht).mono ?_
  rintro e y1 ⟨rfl, hp1, hk1⟩
  have HX1 : Hid (PX B ts y1 bp a c (i + 1) vd vs E d) := PX.kp ho hp1 hk1
  have HK1 : Hid (Kp [69, 32] B w y1) := hk1.up
  have HE : Hid (∀ y, Kp [69, 32] B w y → Env y) := fun y hy => he.kp hy hB
  have HI : Hid _ := inside_exp HX1.out hd (Bin ts 1 (d + 1) (i + 1) E) fun hd2 y hy hk => exp_any hb (G.ht i (by rw [ht]; simp)) hy (by omega) hl (HE.out _ (HK1.out.trans hk))
  clear hp ho hp1 hk1 he hb
  go_wp2_with fail
  refine Calls.mono HI.out ?_
  intro e y hy
  have HY : Hid _ := hy
  clear hy HI
  by_cases hd2 : 20 ≤ d
  · have h2 := HY.out
    rw [if_pos hd2] at h2
    obtain ⟨hk, h3⟩ := h2
    obtain rfl : R = none := by rw [← HRR.out]; unfold Ix; rw [if_pos hd2]
    have h3' : e = _ := h3
    subst h3'
    have HR : Hid (EOut B ts w bp a c vd vs d none _ y) := ⟨HK1.out.trans hk, h3⟩
    clear HY hk h3 HRR
    go_wp2_with fail
    exact ⟨rfl, HR.out⟩
  cases hr : Bin ts 1 (d + 1) (i + 1) E with
  | none =>
    have h2 := HY.out
    rw [if_neg hd2, hr] at h2
    obtain ⟨hk, h3⟩ := h2
    obtain rfl : R = none := by rw [← HRR.out]; unfold Ix; rw [if_neg hd2, hr]
    have h3' : e = _ := h3
    subst h3'
    have HR : Hid (EOut B ts w bp a c vd vs d none _ y) := ⟨HK1.out.trans hk, h3⟩
    clear HY hk h3 hr HRR
    go_wp2_with fail
    exact ⟨rfl, HR.out⟩
  | some r =>
    obtain ⟨x, j, E'⟩ := r
    have hlen := Bin_len G (Nat.le_refl _) hr
    have h2 := HY.out
    rw [if_neg hd2, hr] at h2
    obtain ⟨hk, rfl, ve2, hp2, ho2⟩ := h2
    have HK2 : Hid (Kp [69, 32] B w y) := HK1.out.trans hk
    have HO2 : Hid (y.ownsRow B 32 6 ve2 E'.length (E'.flatMap expC)) := ho2
    have HR2 : Hid ((if (tk ts j).text = [93] then some (x, j + 1, E') else none) = R) := by
      show _ = R
      rw [← HRR.out]; unfold Ix; rw [if_neg hd2, hr]
    clear HY hk ho2 hr HRR
    by_cases hj : (tk ts j).text = [93]
    · obtain rfl : some (x, j + 1, E') = R := by rw [← HR2.out, if_pos hj]
      go_wp2_with fail
      refine (want_yes (s := [93]) hp2 hlen.2.1 hj).mono ?_
      rintro e y3 ⟨rfl, hp3, hk3⟩
      have HR : Hid (EOut B ts w bp a c vd vs d (some (x, j + 1, E')) (.returned (.int .i64 (x : Int))) y3) := ⟨HK2.out.trans hk3.up, rfl, PX.kp HO2.out hp3 hk3⟩
      clear hp2 hp3 hk3 hj HR2
      go_wp2_with fail
      go_ret
      exact HR.out
    · obtain rfl : none = R := by rw [← HR2.out, if_neg hj]
      go_wp2_with fail
      refine (want_no (s := [93]) hp2 hlen.2.1 hj).mono ?_
      rintro e y3 ⟨h3, hb3⟩
      have h3' : e = _ := h3
      subst h3'
      have HR : Hid (EOut B ts w bp a c vd vs d none _ y3) := ⟨HK2.out.trans (Kp.of hb3 hp2.le), h3⟩
      clear hp2 hb3 h3 hj HR2
      go_wp2_with fail
      exact ⟨rfl, HR.out⟩
set_option maxRecDepth 100000 in
set_option maxHeartbeats 2000000 in
theorem nameOrIndex_any {B : Nat} {ts : List X.Tok} {bp : Nat} {a : Option Addr} {c : Nat} {vd vs : Value} (G : Good ts) {i : Nat} (hb : BinC B ts bp a c vd vs (i + 2)) (hB : 8 ≤ B) {w : World} {d : Nat} {E : List Exp} (h : PX B ts w bp a c i vd vs E d) (hi : i < ts.length) (hd : d ≤ 20) (hl : E.length ≤ i) (he : Env w) : Calls Tryz.prog 170 #[.pointer (some ⟨bp, 0, none⟩)] w (EOut B ts w bp a c vd vs d (Ni ts d i E)) := by
  obtain ⟨R, hR⟩ : ∃ R, Ni ts d i E = R := ⟨_, rfl⟩
  have HRR : Hid (Ni ts d i E = R) := hR
  rw [hR]
  clear hR
  obtain ⟨ve, hp, ho⟩ := h
  have HE : Hid (∀ y, Kp [69, 32] B w y → Env y) := fun y hy => he.kp hy hB
  have hN := G.len
  go_enter Tryz.func170, Tryz.ntmps170
  go_wp2_with fail
  by_cases hk2 : (tk ts i).kind = 2
  rotate_left
  · refine (name_no hp hi hk2).mono ?_
    rintro e y ⟨h3, hb3⟩
    obtain rfl : R = none := by rw [← HRR.out]; unfold Ni; rw [if_neg hk2]
    have h3' : e = _ := h3
    subst h3'
    have HR : Hid (EOut B ts w bp a c vd vs d none _ y) := ⟨Kp.of hb3 hp.le, h3⟩
    clear hp ho hb3 h3 hk2 HRR he hb
    go_wp2_with fail
    exact ⟨rfl, HR.out⟩
  refine (name_yes hp hi hk2).mono ?_
  rintro e y ⟨rfl, hp1, hk1⟩
  have hi1 : i + 1 < ts.length := G.hk i (by rw [hk2]; decide)
  have HX1 : Hid (PX B ts y bp a c (i + 1) vd vs E d) := PX.kp ho hp1 hk1
  have HK1 : Hid (Kp [69, 32] B w y) := hk1.up
  obtain ⟨nm, hnm⟩ : ∃ nm, (tk ts i).text = nm := ⟨_, rfl⟩
  rw [hnm]
  have HRN : Hid ((if (tk ts (i + 1)).text = [91] then match Ix ts d (i + 1) E with
      | none => none
      | some (x, j, E') => some (E'.length, j, E' ++ [⟨3, [], nm, 0, x, 0⟩])
    else some (E.length, i + 1, E ++ [⟨2, [], nm, 0, 0, 0⟩])) = R) := by
    show _ = R
    rw [← HRR.out, ← hnm]; unfold Ni; rw [if_pos hk2]
  have HIX : Hid ((tk ts (i + 1)).text = [91] → ∀ y2, PX B ts y2 bp a c (i + 1) vd vs E d → Kp [69, 32] B w y2 → Calls Tryz.prog 146 #[.pointer (some ⟨bp, 0, none⟩)] y2 (EOut B ts y2 bp a c vd vs d (Ix ts d (i + 1) E))) := fun ht y2 hx hk => index_any G hb hB hx ht hd (by omega) (HE.out y2 hk)
  clear hp ho hk1 hk2 hnm HRR he hb
  go_wp2_with fail
  by_cases ht : (tk ts (i + 1)).text = [91]
  rotate_left
  · obtain rfl : some (E.length, i + 1, E ++ [⟨2, [], nm, 0, 0, 0⟩]) = R := by rw [← HRN.out, if_neg ht]
    refine (is_no (s := [91]) hp1 hi1 ht).mono ?_
    rintro e y2 ⟨rfl, hb2⟩
    have HX2 : Hid (PX B ts y2 bp a c (i + 1) vd vs E d) := HX1.out.below hb2
    have HK2 : Hid (Kp [69, 32] B w y2) := HK1.out.trans (Kp.of hb2 hp1.le)
    clear hp1 hb2 HRN ht HIX
    go_wp2_with fail
    refine (addExp_any HX2.out (by omega) ⟨2, [], nm, 0, 0, 0⟩).mono ?_
    rintro e y3 ⟨rfl, hx3, hk3⟩
    have HR : Hid (EOut B ts w bp a c vd vs d (some (E.length, i + 1, E ++ [⟨2, [], nm, 0, 0, 0⟩])) (.returned (.int .i64 (E.length : Int))) y3) := ⟨HK2.out.trans hk3, rfl, hx3⟩
    clear hx3 hk3
    go_wp2_with fail
    go_ret
    exact HR.out
  refine (is_yes (s := [91]) hp1 hi1 ht).mono ?_
  rintro e y2 ⟨rfl, hb2⟩
  have HK2 : Hid (Kp [69, 32] B w y2) := HK1.out.trans (Kp.of hb2 hp1.le)
  have HIC : Hid _ := HIX.out ht y2 (HX1.out.below hb2) HK2.out
  have HR2 : Hid ((match Ix ts d (i + 1) E with
      | none => none
      | some (x, j, E') => some (E'.length, j, E' ++ [⟨3, [], nm, 0, x, 0⟩])) = R) := by
    show _ = R
    rw [← HRN.out, if_pos ht]
  clear hp1 hb2 HRN HIX ht HX1
  go_wp2_with fail
  refine Calls.mono HIC.out ?_
  intro e y hy
  have HY : Hid _ := hy
  clear hy HIC
  cases hr : Ix ts d (i + 1) E with
  | none =>
    have h2 := HY.out
    rw [hr] at h2
    obtain ⟨hk, h3⟩ := h2
    obtain rfl : R = none := by rw [← HR2.out, hr]
    have h3' : e = _ := h3
    subst h3'
    have HR : Hid (EOut B ts w bp a c vd vs d none _ y) := ⟨HK2.out.trans hk, h3⟩
    clear HY hk h3 hr HR2
    go_wp2_with fail
    exact ⟨rfl, HR.out⟩
  | some r =>
    obtain ⟨x, j, E'⟩ := r
    have hlen := Ix_len G hi1 hr
    have h2 := HY.out
    rw [hr] at h2
    obtain ⟨hk, rfl, hx2⟩ := h2
    obtain rfl : some (E'.length, j, E' ++ [⟨3, [], nm, 0, x, 0⟩]) = R := by rw [← HR2.out, hr]
    have HK3 : Hid (Kp [69, 32] B w y) := HK2.out.trans hk
    have HX2 : Hid (PX B ts y bp a c j vd vs E' d) := hx2
    clear HY hk hx2 hr HR2
    go_wp2_with fail
    refine (addExp_any HX2.out (by omega) ⟨3, [], nm, 0, x, 0⟩).mono ?_
    rintro e y3 ⟨rfl, hx3, hk3⟩
    have HR : Hid (EOut B ts w bp a c vd vs d (some (E'.length, j, E' ++ [⟨3, [], nm, 0, x, 0⟩])) (.returned (.int .i64 (E'.length : Int))) y3) := ⟨HK3.out.trans hk3, rfl, hx3⟩
    clear hx3 hk3
    go_wp2_with fail
    go_ret
    exact HR.out
set_option maxRecDepth 100000 in
set_option maxHeartbeats 2000000 in
theorem un_step {B : Nat} {ts : List X.Tok} {bp : Nat} {a : Option Addr} {c : Nat} {vd vs : Value} (G : Good ts) {i : Nat} (hu : UnC B ts bp a c vd vs (i + 1)) (hb1 : BinC B ts bp a c vd vs (i + 1)) (hb2 : BinC B ts bp a c vd vs (i + 2)) (hB : 8 ≤ B) (hi : i < ts.length) : UnC B ts bp a c vd vs i := by
  intro _ w d E h hd hl he
  obtain ⟨R, hR⟩ : ∃ R, Un ts d i E = R := ⟨_, rfl⟩
  have HRR : Hid (Un ts d i E = R) := hR
  rw [hR]
  clear hR
  obtain ⟨ve, hp, ho⟩ := h
  have HE : Hid (∀ y, Kp [69, 32] B w y → Env y) := fun y hy => he.kp hy hB
  have hN := G.len
  have HMF := hmf Tryz.prog
  have hf0 := fun y a0 a1 a2 a3 => fld0 y a0 a1 a2 a3
  have hf1 := fun y a0 a1 a2 a3 => (fld y a0 a1 a2 a3).1
  have hf2 := fun y a0 a1 a2 a3 => (fld y a0 a1 a2 a3).2
  go_enter Tryz.func164, Tryz.ntmps164
  go_wp2_with fail
  by_cases h1 : (tk ts i).text = [45]
  · refine (is_yes (s := [45]) hp hi h1).mono ?_
    rintro e y ⟨rfl, hb⟩
    have hq := hp.below hb
    have HQO : Hid (y.ownsRow B 32 6 ve E.length (E.flatMap expC)) := row_thru' ho hb
    have HQK : Hid (Kp [69, 32] B w y) := Kp.of hb hp.le
    have ht := h1
    have HK4 : Hid ((tk ts i).text = [45] → (tk ts i).kind = 4) := fun e => G.sgn i (by rw [e]; decide)
    have HSG : Hid ((tk ts i).text = [45] ∨ (tk ts i).text = [33]) := .inl h1
    clear hp ho hb he hb1 hb2 h1
    have hk4 : (tk ts i).kind = 4 := HK4.out ht
    have hi1 : i + 1 < ts.length := G.hk i (by rw [hk4]; decide)
    go_wp2_with fail
    refine (take_yes hq hi hk4).mono ?_
    unfold tokV
    rw [ht]
    rintro e y1 ⟨rfl, hp1, hk1⟩
    have HX1 : Hid (PX B ts y1 bp a c (i + 1) vd vs E d) := PX.kp HQO.out hp1 hk1
    have HK1 : Hid (Kp [69, 32] B w y1) := HQK.out.trans hk1.up
    have HI : Hid _ := inside_un HX1.out hd (Un ts (d + 1) (i + 1) E) fun hd2 y hy hk => hu hi1 y (d + 1) E hy (by omega) (by omega) (HE.out _ (HK1.out.trans hk))
    have HR2 : Hid ((if 20 ≤ d then none else match Un ts (d + 1) (i + 1) E with
          | none => none
          | some (x, j, E') => some (E'.length, j, E' ++ [⟨4, [45], [], 0, x, 0⟩])) = R) := by
      show _ = R
      rw [← HRR.out, Un_eq ts d i E, if_pos HSG.out, ht] <;> rfl
    clear hq hp1 hk1 hk4 ht HQO HQK HRR HSG HK4 HX1
    go_wp2_with fail
    refine Calls.mono HI.out ?_
    intro e y hy
    have HY : Hid _ := hy
    clear hy HI
    by_cases hd2 : 20 ≤ d
    · have h2 := HY.out
      rw [if_pos hd2] at h2
      obtain ⟨hk, h3⟩ := h2
      obtain rfl : R = none := by rw [← HR2.out, if_pos hd2]
      have h3' : e = _ := h3
      subst h3'
      have HR : Hid (EOut B ts w bp a c vd vs d none _ y) := ⟨HK1.out.trans hk, h3⟩
      clear HY hk h3 HR2
      go_wp2_with fail
      exact ⟨rfl, HR.out⟩
    cases hr : Un ts (d + 1) (i + 1) E with
    | none =>
      have h2 := HY.out
      rw [if_neg hd2, hr] at h2
      obtain ⟨hk, h3⟩ := h2
      obtain rfl : R = none := by rw [← HR2.out, if_neg hd2, hr]
      have h3' : e = _ := h3
      subst h3'
      have HR : Hid (EOut B ts w bp a c vd vs d none _ y) := ⟨HK1.out.trans hk, h3⟩
      clear HY hk h3 hr HR2
      go_wp2_with fail
      exact ⟨rfl, HR.out⟩
    | some r =>
      obtain ⟨x, j, E'⟩ := r
      have hlen := Un_len G hr
      have h2 := HY.out
      rw [if_neg hd2, hr] at h2
      obtain ⟨hk, rfl, hx2⟩ := h2
      obtain rfl : some (E'.length, j, E' ++ [⟨4, [45], [], 0, x, 0⟩]) = R := by rw [← HR2.out, if_neg hd2, hr]
      have HK3 : Hid (Kp [69, 32] B w y) := HK1.out.trans hk
      have HX2 : Hid (PX B ts y bp a c j vd vs E' d) := hx2
      clear HY hk hx2 hr HR2
      go_wp2_with fail
      refine (addExp_any HX2.out (by omega) ⟨4, [45], [], 0, x, 0⟩).mono ?_
      rintro e y3 ⟨rfl, hx3, hk3⟩
      have HR : Hid (EOut B ts w bp a c vd vs d (some (E'.length, j, E' ++ [⟨4, [45], [], 0, x, 0⟩])) (.returned (.int .i64 (E'.length : Int))) y3) := ⟨HK3.out.trans hk3, rfl, hx3⟩
      clear hx3 hk3
      go_wp2_with fail
      go_ret
      exact HR.out
  refine (is_no (s := [45]) hp hi h1).mono ?_
  rintro e y0 ⟨rfl, hb0⟩
  have hp0 := hp.below hb0
  have HO0 : Hid (y0.ownsRow B 32 6 ve E.length (E.flatMap expC)) := row_thru' ho hb0
  have HK0 : Hid (Kp [69, 32] B w y0) := Kp.of hb0 hp.le
  clear hp ho hb0
  go_wp2_with fail
  by_cases h2 : (tk ts i).text = [33]
  · refine (is_yes (s := [33]) hp0 hi h2).mono ?_
    rintro e y ⟨rfl, hb⟩
    have hq := hp0.below hb
    have HQO : Hid (y.ownsRow B 32 6 ve E.length (E.flatMap expC)) := row_thru' HO0.out hb
    have HQK : Hid (Kp [69, 32] B w y) := HK0.out.trans (Kp.of hb hp0.le)
    have ht := h2
    have HK4 : Hid ((tk ts i).text = [33] → (tk ts i).kind = 4) := fun e => G.neg i e
    have HSG : Hid ((tk ts i).text = [45] ∨ (tk ts i).text = [33]) := .inr h2
    clear hp0 HO0 HK0 hb he hb1 hb2 h1 h2
    have hk4 : (tk ts i).kind = 4 := HK4.out ht
    have hi1 : i + 1 < ts.length := G.hk i (by rw [hk4]; decide)
    go_wp2_with fail
    refine (take_yes hq hi hk4).mono ?_
    unfold tokV
    rw [ht]
    rintro e y1 ⟨rfl, hp1, hk1⟩
    have HX1 : Hid (PX B ts y1 bp a c (i + 1) vd vs E d) := PX.kp HQO.out hp1 hk1
    have HK1 : Hid (Kp [69, 32] B w y1) := HQK.out.trans hk1.up
    have HI : Hid _ := inside_un HX1.out hd (Un ts (d + 1) (i + 1) E) fun hd2 y hy hk => hu hi1 y (d + 1) E hy (by omega) (by omega) (HE.out _ (HK1.out.trans hk))
    have HR2 : Hid ((if 20 ≤ d then none else match Un ts (d + 1) (i + 1) E with
          | none => none
          | some (x, j, E') => some (E'.length, j, E' ++ [⟨4, [33], [], 0, x, 0⟩])) = R) := by
      show _ = R
      rw [← HRR.out, Un_eq ts d i E, if_pos HSG.out, ht] <;> rfl
    clear hq hp1 hk1 hk4 ht HQO HQK HRR HSG HK4 HX1
    go_wp2_with fail
    refine Calls.mono HI.out ?_
    intro e y hy
    have HY : Hid _ := hy
    clear hy HI
    by_cases hd2 : 20 ≤ d
    · have h2 := HY.out
      rw [if_pos hd2] at h2
      obtain ⟨hk, h3⟩ := h2
      obtain rfl : R = none := by rw [← HR2.out, if_pos hd2]
      have h3' : e = _ := h3
      subst h3'
      have HR : Hid (EOut B ts w bp a c vd vs d none _ y) := ⟨HK1.out.trans hk, h3⟩
      clear HY hk h3 HR2
      go_wp2_with fail
      exact ⟨rfl, HR.out⟩
    cases hr : Un ts (d + 1) (i + 1) E with
    | none =>
      have h2 := HY.out
      rw [if_neg hd2, hr] at h2
      obtain ⟨hk, h3⟩ := h2
      obtain rfl : R = none := by rw [← HR2.out, if_neg hd2, hr]
      have h3' : e = _ := h3
      subst h3'
      have HR : Hid (EOut B ts w bp a c vd vs d none _ y) := ⟨HK1.out.trans hk, h3⟩
      clear HY hk h3 hr HR2
      go_wp2_with fail
      exact ⟨rfl, HR.out⟩
    | some r =>
      obtain ⟨x, j, E'⟩ := r
      have hlen := Un_len G hr
      have h2 := HY.out
      rw [if_neg hd2, hr] at h2
      obtain ⟨hk, rfl, hx2⟩ := h2
      obtain rfl : some (E'.length, j, E' ++ [⟨4, [33], [], 0, x, 0⟩]) = R := by rw [← HR2.out, if_neg hd2, hr]
      have HK3 : Hid (Kp [69, 32] B w y) := HK1.out.trans hk
      have HX2 : Hid (PX B ts y bp a c j vd vs E' d) := hx2
      clear HY hk hx2 hr HR2
      go_wp2_with fail
      refine (addExp_any HX2.out (by omega) ⟨4, [33], [], 0, x, 0⟩).mono ?_
      rintro e y3 ⟨rfl, hx3, hk3⟩
      have HR : Hid (EOut B ts w bp a c vd vs d (some (E'.length, j, E' ++ [⟨4, [33], [], 0, x, 0⟩])) (.returned (.int .i64 (E'.length : Int))) y3) := ⟨HK3.out.trans hk3, rfl, hx3⟩
      clear hx3 hk3
      go_wp2_with fail
      go_ret
      exact HR.out
  refine (is_no (s := [33]) hp0 hi h2).mono ?_
  rintro e y1 ⟨rfl, hb1'⟩
  have hp1 := hp0.below hb1'
  have HO1 : Hid (y1.ownsRow B 32 6 ve E.length (E.flatMap expC)) := row_thru' HO0.out hb1'
  have HK1 : Hid (Kp [69, 32] B w y1) := HK0.out.trans (Kp.of hb1' hp0.le)
  have HR1 : Hid ((if (tk ts i).text = [40] then
      if 20 ≤ d then none else match Bin ts 1 (d + 1) (i + 1) E with
        | none => none
        | some (x, j, E') => if (tk ts j).text = [41] then some (x, j + 1, E') else none
    else if (tk ts i).kind = 1 then some (E.length, i + 1, E ++ [⟨1, [], [], (tk ts i).n, 0, 0⟩])
    else Ni ts d i E) = R) := by
    show _ = R
    rw [← HRR.out, Un_ni h1 h2]
  clear hp0 HO0 HK0 hb1' h1 h2 HRR
  go_wp2_with fail
  by_cases h3 : (tk ts i).text = [40]
  · have hi1 : i + 1 < ts.length := G.ht i (by rw [h3]; simp)
    refine (skip_yes (s := [40]) hp1 hi h3).mono ?_
    rintro e y2 ⟨rfl, hp2, hk2⟩
    have HX2 : Hid (PX B ts y2 bp a c (i + 1) vd vs E d) := PX.kp HO1.out hp2 hk2
    have HK2 : Hid (Kp [69, 32] B w y2) := HK1.out.trans hk2.up
    have HI : Hid _ := inside_exp HX2.out hd (Bin ts 1 (d + 1) (i + 1) E) fun hd2 y hy hk => exp_any hb1 hi1 hy (by omega) (by omega) (HE.out _ (HK2.out.trans hk))
    have HR2 : Hid ((if 20 ≤ d then none else match Bin ts 1 (d + 1) (i + 1) E with
        | none => none
        | some (x, j, E') => if (tk ts j).text = [41] then some (x, j + 1, E') else none) = R) := by
      show _ = R
      rw [← HR1.out, if_pos h3]
    clear hp1 HO1 HK1 hp2 hk2 HR1 h3 he hb1 hb2 hu HX2
    go_wp2_with fail
    refine Calls.mono HI.out ?_
    intro e y hy
    have HY : Hid _ := hy
    clear hy HI
    by_cases hd2 : 20 ≤ d
    · have h2 := HY.out
      rw [if_pos hd2] at h2
      obtain ⟨hk, h3⟩ := h2
      obtain rfl : R = none := by rw [← HR2.out, if_pos hd2]
      have h3' : e = _ := h3
      subst h3'
      have HR : Hid (EOut B ts w bp a c vd vs d none _ y) := ⟨HK2.out.trans hk, h3⟩
      clear HY hk h3 HR2
      go_wp2_with fail
      exact ⟨rfl, HR.out⟩
    cases hr : Bin ts 1 (d + 1) (i + 1) E with
    | none =>
      have h2 := HY.out
      rw [if_neg hd2, hr] at h2
      obtain ⟨hk, h3⟩ := h2
      obtain rfl : R = none := by rw [← HR2.out, if_neg hd2, hr]
      have h3' : e = _ := h3
      subst h3'
      have HR : Hid (EOut B ts w bp a c vd vs d none _ y) := ⟨HK2.out.trans hk, h3⟩
      clear HY hk h3 hr HR2
      go_wp2_with fail
      exact ⟨rfl, HR.out⟩
    | some r =>
      obtain ⟨x, j, E'⟩ := r
      have hlen := Bin_len G (Nat.le_refl _) hr
      have h2 := HY.out
      rw [if_neg hd2, hr] at h2
      obtain ⟨hk, rfl, ve3, hp3, ho3⟩ := h2
      have HK3 : Hid (Kp [69, 32] B w y) := HK2.out.trans hk
      have HO3 : Hid (y.ownsRow B 32 6 ve3 E'.length (E'.flatMap expC)) := ho3
      have HR3 : Hid ((if (tk ts j).text = [41] then some (x, j + 1, E') else none) = R) := by
        show _ = R
        rw [← HR2.out, if_neg hd2, hr]
      clear HY hk ho3 hr HR2
      by_cases hj : (tk ts j).text = [41]
      · obtain rfl : some (x, j + 1, E') = R := by rw [← HR3.out, if_pos hj]
        go_wp2_with fail
        refine (want_yes (s := [41]) hp3 hlen.2.1 hj).mono ?_
        rintro e y4 ⟨rfl, hp4, hk4⟩
        have HR : Hid (EOut B ts w bp a c vd vs d (some (x, j + 1, E')) (.returned (.int .i64 (x : Int))) y4) := ⟨HK3.out.trans hk4.up, rfl, PX.kp HO3.out hp4 hk4⟩
        clear hp3 hp4 hk4 hj HR3
        go_wp2_with fail
        go_ret
        exact HR.out
      · obtain rfl : none = R := by rw [← HR3.out, if_neg hj]
        go_wp2_with fail
        refine (want_no (s := [41]) hp3 hlen.2.1 hj).mono ?_
        rintro e y4 ⟨h3, hb3⟩
        have h3' : e = _ := h3
        subst h3'
        have HR : Hid (EOut B ts w bp a c vd vs d none _ y4) := ⟨HK3.out.trans (Kp.of hb3 hp3.le), h3⟩
        clear hp3 hb3 h3 hj HR3
        go_wp2_with fail
        exact ⟨rfl, HR.out⟩
  refine (skip_no (s := [40]) hp1 hi h3).mono ?_
  rintro e y2 ⟨rfl, hb2'⟩
  have hp2 := hp1.below hb2'
  have HO2 : Hid (y2.ownsRow B 32 6 ve E.length (E.flatMap expC)) := row_thru' HO1.out hb2'
  have HK2 : Hid (Kp [69, 32] B w y2) := HK1.out.trans (Kp.of hb2' hp1.le)
  have HR2 : Hid ((if (tk ts i).kind = 1 then some (E.length, i + 1, E ++ [⟨1, [], [], (tk ts i).n, 0, 0⟩])
    else Ni ts d i E) = R) := by
    show _ = R
    rw [← HR1.out, if_neg h3]
  clear hp1 HO1 HK1 hb2' HR1 h3
  go_wp2_with fail
  refine (now_any hp2 hi).mono ?_
  unfold tokV
  rintro e y3 ⟨rfl, hb3⟩
  have hp3 := hp2.below hb3
  have HO3 : Hid (y3.ownsRow B 32 6 ve E.length (E.flatMap expC)) := row_thru' HO2.out hb3
  have HK3 : Hid (Kp [69, 32] B w y3) := HK2.out.trans (Kp.of hb3 hp2.le)
  clear hp2 HO2 HK2 hb3
  by_cases h4 : (tk ts i).kind = 1
  · have e4 : (((tk ts i).kind : Int) == 1) = true := by rw [h4]; rfl
    obtain rfl : some (E.length, i + 1, E ++ [⟨1, [], [], (tk ts i).n, 0, 0⟩]) = R := by rw [← HR2.out, if_pos h4]
    have HK1' : Hid ((tk ts i).kind = 1) := h4
    clear h4 HR2
    go_wp2_with fail
    refine (take_yes hp3 hi HK1'.out).mono ?_
    unfold tokV
    rintro e y4 ⟨rfl, hp4, hk4⟩
    have HX4 : Hid (PX B ts y4 bp a c (i + 1) vd vs E d) := PX.kp HO3.out hp4 hk4
    have HK4 : Hid (Kp [69, 32] B w y4) := HK3.out.trans hk4.up
    clear hp3 HO3 HK3 hp4 hk4
    go_wp2_with fail
    refine (addExp_any HX4.out (by omega) ⟨1, [], [], (tk ts i).n, 0, 0⟩).mono ?_
    rintro e y5 ⟨rfl, hx5, hk5⟩
    have HR : Hid (EOut B ts w bp a c vd vs d (some (E.length, i + 1, E ++ [⟨1, [], [], (tk ts i).n, 0, 0⟩])) (.returned (.int .i64 (E.length : Int))) y5) := ⟨HK4.out.trans hk5, rfl, hx5⟩
    clear hx5 hk5
    go_wp2_with fail
    go_ret
    exact HR.out
  · have e4 : (((tk ts i).kind : Int) == 1) = false := by
      have : ((tk ts i).kind : Int) ≠ 1 := fun e => h4 (by omega)
      simpa using this
    have HNI : Hid (Calls Tryz.prog 170 #[.pointer (some ⟨bp, 0, none⟩)] y3 (EOut B ts y3 bp a c vd vs d R)) := by
      have := nameOrIndex_any G hb2 hB ⟨ve, hp3, HO3.out⟩ hi hd hl (HE.out _ HK3.out)
      rw [show Ni ts d i E = R by rw [← HR2.out, if_neg h4]] at this
      exact this
    clear h4 HR2 hp3 HO3 hb1 hb2 hu
    go_wp2_with fail
    refine Calls.mono HNI.out ?_
    intro e y4 hy
    have HY : Hid (EOut B ts y3 bp a c vd vs d R e y4) := hy
    clear hy HNI
    cases R with
    | none =>
      have h3' : e = _ := HY.out.2
      subst h3'
      have HR : Hid (EOut B ts w bp a c vd vs d none _ y4) := ⟨HK3.out.trans HY.out.1, HY.out.2⟩
      clear HY
      go_wp2_with fail
      exact ⟨rfl, HR.out⟩
    | some r =>
      obtain ⟨x, j, E'⟩ := r
      obtain rfl : e = _ := HY.out.2.1
      have HR : Hid (EOut B ts w bp a c vd vs d (some (x, j, E')) (.returned (.int .i64 (x : Int))) y4) := ⟨HK3.out.trans HY.out.1, HY.out.2⟩
      clear HY
      go_wp2_with fail
      go_ret
      exact HR.out
end Go.Proofs.YtikknlkdbjaonaaGreatDoor.Y

/- Statements, as mathematics. -/
namespace Go.Proofs.YtikknlkdbjaonaaGreatDoor.Y
open X
abbrev SR := Option (Stmt × Nat × List Exp × List Stmt)
def kVar : By := [118, 97, 114]
def kIf : By := [105, 102]
def kElse : By := [101, 108, 115, 101]
def kWhile : By := [119, 104, 105, 108, 101]
def kWith : By := [119, 105, 116, 104]
def kPrint : By := [112, 114, 105, 110, 116]
def kReturn : By := [114, 101, 116, 117, 114, 110]
def kGet : By := [103, 101, 116]
def kPut : By := [112, 117, 116]
def tx (ts : List Tok) (i : Nat) (s : By) : Prop := (tk ts i).text = s
instance (ts : List Tok) (i : Nat) (s : By) : Decidable (tx ts i s) := inferInstanceAs (Decidable (_ = _))
/-- An expression, and the end of a statement. -/
def val (ts : List Tok) (s : Stmt) (d i : Nat) (E : List Exp) (S : List Stmt) : SR := (Bin ts 1 d i E).bind fun q => if (tk ts q.2.1).text = [59] then some ({ s with e := (q.1 : Int) }, q.2.1 + 1, q.2.2, S) else none
/-- An expression in brackets. -/
def cnd (ts : List Tok) (d i : Nat) (E : List Exp) : Option (Nat × Nat × List Exp) := if (tk ts i).text = [40] then (Bin ts 1 d (i + 1) E).bind fun q => if (tk ts q.2.1).text = [41] then some (q.1, q.2.1 + 1, q.2.2) else none else none
def isC (ts : List Tok) (i : Nat) : Bool := decide ((tk ts i).text = kGet) || (decide ((tk ts i).text = kPut) || (decide ((tk ts i).kind = 2) && decide ((tk ts (i + 1)).text = [40])))
def fin (ts : List Tok) (s : Stmt) (j : Nat) (E : List Exp) (S : List Stmt) : SR := if (tk ts j).text = [41] then if (tk ts (j + 1)).text = [59] then some (s, j + 2, E, S) else none else none
def al (ts : List Tok) : Nat → Nat → Nat → List Int → List Exp → Option (List Int × Nat × List Exp)
  | 0, _, _, _, _ => none
  | f + 1, d, j, l, E => if (tk ts j).text = [44] then (Bin ts 1 d (j + 1) E).bind fun q => al ts f d q.2.1 (l ++ [(q.1 : Int)]) q.2.2 else some (l, j, E)
/-- What a call is given. -/
def ag (ts : List Tok) (d i : Nat) (E : List Exp) : Option (List Int × Nat × List Exp) := if (tk ts i).text = [41] then some ([], i, E) else (Bin ts 1 d i E).bind fun q => al ts (ts.length + 1) d q.2.1 [(q.1 : Int)] q.2.2
/-- A call, a get, a put. -/
def cl (ts : List Tok) (d : Nat) (nm : By) (i : Nat) (E : List Exp) (S : List Stmt) : SR :=
  if (tk ts i).text = kGet then if (tk ts (i + 1)).text = [40] then if (tk ts (i + 2)).kind = 2 then fin ts ⟨5, nm, (tk ts (i + 2)).text, 0, 0, [], [], []⟩ (i + 3) E S else none else none
  else if (tk ts i).text = kPut then if (tk ts (i + 1)).text = [40] then if (tk ts (i + 2)).kind = 2 then if (tk ts (i + 3)).text = [44] then (Bin ts 1 d (i + 4) E).bind fun q => fin ts ⟨6, nm, (tk ts (i + 2)).text, (q.1 : Int), 0, [], [], []⟩ q.2.1 q.2.2 S else none else none else none
  else if (tk ts i).kind = 2 then if (tk ts (i + 1)).text = [40] then (ag ts d (i + 2) E).bind fun q => fin ts ⟨4, nm, (tk ts i).text, 0, 0, q.1, [], []⟩ q.2.1 q.2.2 S else none else none
/-- What begins with the name of what is set. -/
def setS (ts : List Tok) (d i : Nat) (E : List Exp) (S : List Stmt) : SR :=
  if (tk ts i).kind = 2 then
    if (tk ts (i + 1)).text = [91] then (Ix ts d (i + 1) E).bind fun q => if (tk ts q.2.1).text = [61] then val ts ⟨3, (tk ts i).text, [], 0, (q.1 : Int), [], [], []⟩ d (q.2.1 + 1) q.2.2 S else none
    else if (tk ts (i + 1)).text = [61] then if isC ts (i + 2) = true then cl ts d (tk ts i).text (i + 2) E S else val ts ⟨2, (tk ts i).text, [], 0, 0, [], [], []⟩ d (i + 2) E S else none
  else none
mutual
def blk (ts : List Tok) : Nat → Nat → Nat → List Exp → List Stmt → Option (List Int × Nat × List Exp × List Stmt)
  | 0, _, _, _, _ => none
  | f + 1, d, i, E, S => if (tk ts i).text = [123] then if 20 ≤ d then none else sl ts f (d + 1) (i + 1) [] E S else none
def sl (ts : List Tok) : Nat → Nat → Nat → List Int → List Exp → List Stmt → Option (List Int × Nat × List Exp × List Stmt)
  | 0, _, _, _, _, _ => none
  | f + 1, d, i, l, E, S => if (tk ts i).text = [125] then some (l, i + 1, E, S) else (stm ts f d i E S).bind fun q => sl ts f d q.2.1 (l ++ [(q.2.2.2.length : Int)]) q.2.2.1 (q.2.2.2 ++ [q.1])
def stm (ts : List Tok) : Nat → Nat → Nat → List Exp → List Stmt → SR
  | 0, _, _, _, _ => none
  | f + 1, d, i, E, S =>
    if (tk ts i).text = kVar then if (tk ts (i + 1)).kind = 2 then if (tk ts (i + 2)).text = [61] then val ts ⟨1, (tk ts (i + 1)).text, [], 0, 0, [], [], []⟩ d (i + 3) E S else none else none
    else if (tk ts i).text = kIf then (cnd ts d (i + 1) E).bind fun q => (blk ts f d q.2.1 q.2.2 S).bind fun b => if (tk ts b.2.1).text = kElse then (blk ts f d (b.2.1 + 1) b.2.2.1 b.2.2.2).bind fun c => some (⟨7, [], [], (q.1 : Int), 0, [], b.1, c.1⟩, c.2.1, c.2.2.1, c.2.2.2) else some (⟨7, [], [], (q.1 : Int), 0, [], b.1, []⟩, b.2.1, b.2.2.1, b.2.2.2)
    else if (tk ts i).text = kWhile then (cnd ts d (i + 1) E).bind fun q => (blk ts f d q.2.1 q.2.2 S).bind fun b => some (⟨8, [], [], (q.1 : Int), 0, [], b.1, []⟩, b.2.1, b.2.2.1, b.2.2.2)
    else if (tk ts i).text = kWith then if (tk ts (i + 1)).kind = 2 then (blk ts f d (i + 2) E S).bind fun b => some (⟨9, (tk ts (i + 1)).text, [], 0, 0, [], b.1, []⟩, b.2.1, b.2.2.1, b.2.2.2) else none
    else if (tk ts i).text = kPrint then val ts ⟨10, [], [], 0, 0, [], [], []⟩ d (i + 1) E S
    else if (tk ts i).text = kReturn then val ts ⟨11, [], [], 0, 0, [], [], []⟩ d (i + 1) E S
    else if isC ts i = true then cl ts d [] i E S
    else setS ts d i E S
end
variable {ts : List Tok}
theorem val_len (G : Good ts) {s s' : Stmt} {d i j : Nat} {E E' : List Exp} {S S' : List Stmt} (h : val ts s d i E S = some (s', j, E', S')) : i < j ∧ j < ts.length ∧ E'.length + i + 1 ≤ E.length + j ∧ S' = S := by
  unfold val at h
  rw [Option.bind_eq_some_iff] at h
  obtain ⟨⟨x, k, E1⟩, hb, h⟩ := h
  have := Bin_len G (Nat.le_refl _) hb
  dsimp only at h
  split at h
  · rename_i ht
    have := G.ht _ (by rw [ht]; simp)
    injection h with h; injection h with _ h; injection h with h h'; injection h' with h' h''; subst h h' h''
    exact ⟨by omega, by omega, by omega, rfl⟩
  · cases h
theorem cnd_len (G : Good ts) {d i x j : Nat} {E E' : List Exp} (h : cnd ts d i E = some (x, j, E')) : i < j ∧ j < ts.length ∧ E'.length + i ≤ E.length + j := by
  unfold cnd at h
  split at h
  · rw [Option.bind_eq_some_iff] at h
    obtain ⟨⟨y, k, E1⟩, hb, h⟩ := h
    have := Bin_len G (Nat.le_refl _) hb
    dsimp only at h
    split at h
    · rename_i ht
      have := G.ht _ (by rw [ht]; simp)
      injection h with h; injection h with _ h; injection h with h h'; subst h h'
      omega
    · cases h
  · cases h
theorem fin_len (G : Good ts) {s s' : Stmt} {i j : Nat} {E E' : List Exp} {S S' : List Stmt} (h : fin ts s i E S = some (s', j, E', S')) : j = i + 2 ∧ j < ts.length ∧ E' = E ∧ S' = S ∧ s' = s := by
  unfold fin at h
  split at h
  · split at h
    · rename_i ht
      have := G.ht _ (by rw [ht]; simp)
      injection h with h; injection h with h0 h; injection h with h h'; injection h' with h' h''; subst h0 h h' h''
      exact ⟨rfl, by omega, rfl, rfl, rfl⟩
    · cases h
  · cases h
theorem al_len (G : Good ts) : ∀ (f d i : Nat) (l : List Int) (E : List Exp) (l' : List Int) (j : Nat) (E' : List Exp), i < ts.length → al ts f d i l E = some (l', j, E') → i ≤ j ∧ j < ts.length ∧ E'.length + i ≤ E.length + j ∧ l'.length + i ≤ l.length + j
  | 0, _, _, _, _, _, _, _, _, h => by simp [al] at h
  | f + 1, d, i, l, E, l', j, E', hi, h => by
    rw [al] at h
    split at h
    · rw [Option.bind_eq_some_iff] at h
      obtain ⟨⟨y, k, E1⟩, hb, h⟩ := h
      have h1 := Bin_len G (Nat.le_refl _) hb
      have h2 := al_len G f d _ _ _ _ _ _ h1.2.1 h
      dsimp only at h2
      rw [List.length_append] at h2
      simp only [List.length_cons, List.length_nil] at h2
      omega
    · injection h with h; injection h with h0 h; injection h with h h'; subst h0 h h'
      omega
theorem ag_len (G : Good ts) {d i j : Nat} {l : List Int} {E E' : List Exp} (hi : i < ts.length) (h : ag ts d i E = some (l, j, E')) : i ≤ j ∧ j < ts.length ∧ E'.length + i ≤ E.length + j ∧ l.length + i ≤ j + 1 := by
  unfold ag at h
  split at h
  · injection h with h; injection h with h0 h; injection h with h h'; subst h0 h h'
    simp only [List.length_nil]
    omega
  · rw [Option.bind_eq_some_iff] at h
    obtain ⟨⟨y, k, E1⟩, hb, h⟩ := h
    have h1 := Bin_len G (Nat.le_refl _) hb
    have h2 := al_len G _ d _ _ _ _ _ _ h1.2.1 h
    dsimp only at h2
    simp only [List.length_cons, List.length_nil] at h2
    omega
theorem cl_len (G : Good ts) {nm : By} {s : Stmt} {d i j : Nat} {E E' : List Exp} {S S' : List Stmt} (h : cl ts d nm i E S = some (s, j, E', S')) : i + 1 < j ∧ j < ts.length ∧ E'.length + i + 1 ≤ E.length + j ∧ S' = S := by
  unfold cl at h
  split at h
  · split at h
    · split at h
      · have := fin_len G h
        obtain ⟨rfl, h2, rfl, rfl, -⟩ := this
        exact ⟨by omega, h2, by omega, rfl⟩
      · cases h
    · cases h
  · split at h
    · split at h
      · split at h
        · split at h
          · rw [Option.bind_eq_some_iff] at h
            obtain ⟨⟨y, k, E1⟩, hb, h⟩ := h
            have h1 := Bin_len G (Nat.le_refl _) hb
            obtain ⟨rfl, h2, rfl, rfl, -⟩ := fin_len G h
            exact ⟨by dsimp only; omega, h2, by dsimp only; omega, rfl⟩
          · cases h
        · cases h
      · cases h
    · split at h
      · split at h
        · rename_i ht
          have hi := G.ht _ (show (tk ts (i + 1)).text ≠ [] by rw [ht]; simp)
          rw [Option.bind_eq_some_iff] at h
          obtain ⟨⟨y, k, E1⟩, hb, h⟩ := h
          have h1 := ag_len G (by omega) hb
          obtain ⟨rfl, h2, rfl, rfl, -⟩ := fin_len G h
          exact ⟨by dsimp only; omega, h2, by dsimp only; omega, rfl⟩
        · cases h
      · cases h
theorem setS_len (G : Good ts) {s : Stmt} {d i j : Nat} {E E' : List Exp} {S S' : List Stmt} (h : setS ts d i E S = some (s, j, E', S')) : i + 1 < j ∧ j < ts.length ∧ E'.length + i + 1 ≤ E.length + j ∧ S' = S := by
  unfold setS at h
  split at h
  · rename_i hk
    have hi1 := G.hk i (by rw [hk]; decide)
    split at h
    · rw [Option.bind_eq_some_iff] at h
      obtain ⟨⟨y, k, E1⟩, hb, h⟩ := h
      have h1 := Ix_len G hi1 hb
      dsimp only at h
      split at h
      · have h2 := val_len G h
        exact ⟨by omega, by omega, by omega, h2.2.2.2⟩
      · cases h
    · split at h
      · split at h
        · have h2 := cl_len G h
          exact ⟨by omega, by omega, by omega, h2.2.2.2⟩
        · have h2 := val_len G h
          exact ⟨by omega, by omega, by omega, h2.2.2.2⟩
      · cases h
  · cases h
theorem stm_len (G : Good ts) : ∀ f, (∀ d i E S l j E' S', blk ts f d i E S = some (l, j, E', S') → i < j ∧ j < ts.length ∧ E'.length + i ≤ E.length + j ∧ S'.length + i ≤ S.length + j) ∧ (∀ d i l E S l' j E' S', i < ts.length → sl ts f d i l E S = some (l', j, E', S') → i < j ∧ j < ts.length ∧ E'.length + i ≤ E.length + j ∧ S'.length + i ≤ S.length + j) ∧ (∀ d i E S s j E' S', stm ts f d i E S = some (s, j, E', S') → i < j ∧ j < ts.length ∧ E'.length + i ≤ E.length + j ∧ S'.length + i + 1 ≤ S.length + j)
  | 0 => ⟨fun _ _ _ _ _ _ _ _ h => by simp [blk] at h, fun _ _ _ _ _ _ _ _ _ _ h => by simp [sl] at h, fun _ _ _ _ _ _ _ _ h => by simp [stm] at h⟩
  | f + 1 => by
    obtain ⟨h1, h2, h3⟩ := stm_len G f
    refine ⟨fun d i E S l j E' S' h => ?_, fun d i l E S l' j E' S' hi h => ?_, fun d i E S s j E' S' h => ?_⟩
    · rw [blk] at h
      split at h
      · rename_i ht
        have := G.ht i (by rw [ht]; simp)
        split at h
        · cases h
        · have := h2 _ _ _ _ _ _ _ _ _ (by omega) h
          omega
      · cases h
    · rw [sl] at h
      split at h
      · rename_i ht
        have := G.ht i (by rw [ht]; simp)
        injection h with h; injection h with h0 h; injection h with h h'; injection h' with h' h''; subst h0 h h' h''
        omega
      · rw [Option.bind_eq_some_iff] at h
        obtain ⟨⟨s, k, E1, S1⟩, hb, h⟩ := h
        have h4 := h3 _ _ _ _ _ _ _ _ hb
        have h5 := h2 _ _ _ _ _ _ _ _ _ h4.2.1 h
        dsimp only at h5
        rw [List.length_append] at h5
        simp only [List.length_cons, List.length_nil] at h5
        omega
    · rw [stm] at h
      split at h
      · split at h
        · split at h
          · have h4 := val_len G h
            obtain ⟨a1, a2, a3, rfl⟩ := h4
            omega
          · cases h
        · cases h
      · split at h
        · rw [Option.bind_eq_some_iff] at h
          obtain ⟨⟨x, k, E1⟩, hb, h⟩ := h
          have h4 := cnd_len G hb
          rw [Option.bind_eq_some_iff] at h
          obtain ⟨⟨l, k2, E2, S2⟩, hb2, h⟩ := h
          have h5 := h1 _ _ _ _ _ _ _ _ hb2
          dsimp only at h h5
          split at h
          · rw [Option.bind_eq_some_iff] at h
            obtain ⟨⟨l3, k3, E3, S3⟩, hb3, h⟩ := h
            have h6 := h1 _ _ _ _ _ _ _ _ hb3
            injection h with h; injection h with h0 h; injection h with h h'; injection h' with h' h''; subst h0 h h' h''
            dsimp only at *
            omega
          · injection h with h; injection h with h0 h; injection h with h h'; injection h' with h' h''; subst h0 h h' h''
            dsimp only at *
            omega
        · split at h
          · rw [Option.bind_eq_some_iff] at h
            obtain ⟨⟨x, k, E1⟩, hb, h⟩ := h
            have h4 := cnd_len G hb
            rw [Option.bind_eq_some_iff] at h
            obtain ⟨⟨l, k2, E2, S2⟩, hb2, h⟩ := h
            have h5 := h1 _ _ _ _ _ _ _ _ hb2
            injection h with h; injection h with h0 h; injection h with h h'; injection h' with h' h''; subst h0 h h' h''
            dsimp only at *
            omega
          · split at h
            · split at h
              · rw [Option.bind_eq_some_iff] at h
                obtain ⟨⟨l, k2, E2, S2⟩, hb2, h⟩ := h
                have h5 := h1 _ _ _ _ _ _ _ _ hb2
                injection h with h; injection h with h0 h; injection h with h h'; injection h' with h' h''; subst h0 h h' h''
                dsimp only at *
                omega
              · cases h
            · split at h
              · obtain ⟨a1, a2, a3, rfl⟩ := val_len G h
                omega
              · split at h
                · obtain ⟨a1, a2, a3, rfl⟩ := val_len G h
                  omega
                · split at h
                  · obtain ⟨a1, a2, a3, rfl⟩ := cl_len G h
                    omega
                  · obtain ⟨a1, a2, a3, rfl⟩ := setS_len G h
                    omega
end Go.Proofs.YtikknlkdbjaonaaGreatDoor.Y

/- Binary operators, as the program's parser reads them. -/
namespace Go.Proofs.YtikknlkdbjaonaaGreatDoor.Y
open Go.RowKit Go.Maps
set_option linter.unusedVariables false
set_option linter.unusedSimpArgs false
set_option maxRecDepth 100000 in
set_option maxHeartbeats 2000000 in
theorem bin_step {B : Nat} {ts : List X.Tok} {bp : Nat} {a : Option Addr} {c : Nat} {vd vs : Value} (G : Good ts) {i : Nat} (hu : UnC B ts bp a c vd vs i) (hb : ∀ j, i < j → BinC B ts bp a c vd vs j) (hB : 8 ≤ B) (hi : i < ts.length) : BinC B ts bp a c vd vs i := by
  intro _ w lv d E hl1 hl2 h hd hl he
  obtain ⟨R, hR⟩ : ∃ R, Bin ts lv d i E = R := ⟨_, rfl⟩
  have HRR : Hid (Bin ts lv d i E = R) := hR
  rw [hR]
  clear hR
  have HE : Hid (∀ y, Kp [69, 32] B w y → Env y) := fun y hy => he.kp hy hB
  have hN := G.len
  have hf1 := fun y a0 a1 a2 a3 => (fld y a0 a1 a2 a3).1
  have HU : Hid (Calls Tryz.prog 164 #[.pointer (some ⟨bp, 0, none⟩)] w (EOut B ts w bp a c vd vs d (Un ts d i E))) := hu hi w d E h hd hl he
  clear h he hu
  go_enter Tryz.func155, Tryz.ntmps155
  go_wp2_with fail
  refine Calls.mono HU.out ?_
  intro e y hy
  have HY : Hid (EOut B ts w bp a c vd vs d (Un ts d i E) e y) := hy
  clear hy HU
  cases hr : Un ts d i E with
  | none =>
    have h2 := HY.out
    rw [hr] at h2
    obtain ⟨hk, h3⟩ := h2
    obtain rfl : R = none := by rw [← HRR.out, Bin_eq ts d i E hl1, hr]
    have h3' : e = _ := h3
    subst h3'
    have HR : Hid (EOut B ts w bp a c vd vs d none _ y) := ⟨hk, h3⟩
    clear HY hk h3 hr HRR
    go_wp2_with fail
    exact ⟨rfl, HR.out⟩
  | some r =>
    obtain ⟨x0, j0, E0⟩ := r
    have hlen := Un_len G hr
    have h2 := HY.out
    rw [hr] at h2
    obtain ⟨hk, rfl, hx2⟩ := h2
    have HL0 : Hid (Lp ts lv d x0 j0 E0 = R) := by
      show _ = R
      rw [← HRR.out, Bin_eq ts d i E hl1, hr]
    have HX0 : Hid (PX B ts y bp a c j0 vd vs E0 d) := hx2
    have HK0 : Hid (Kp [69, 32] B w y) := hk
    clear HY hk hx2 hr HRR
    go_wp2_with fail
    go_loopg [5, 6, 7] (ts.length - j0) (fun g v5 v6 v7 wq => ∃ (x j : Nat) (E' : List Exp), g = ts.length - j ∧ v5 = .int .i64 (x : Int) ∧ i < j ∧ j < ts.length ∧ E'.length ≤ j ∧ Hid (PX B ts wq bp a c j vd vs E' d) ∧ Hid (Kp [69, 32] B w wq) ∧ Hid (Lp ts lv d x j E' = R))
    case atStart => exact ⟨x0, j0, E0, rfl, rfl, by omega, by omega, by omega, HX0, HK0, HL0⟩
    case round =>
      obtain ⟨x, j, E', rfl, rfl, hij, hj, hle, HX, HK, HL⟩ := hrel
      clear HX0 HK0 HL0 hlen
      obtain ⟨ve, hp, ho⟩ := HX.out
      obtain ⟨sg, hsg⟩ : ∃ sg, (tk ts j).text = sg := ⟨_, rfl⟩
      obtain ⟨L, hL⟩ : ∃ L, lev sg = L := ⟨_, rfl⟩
      have hL10 : L ≤ 10 := by rw [← hL]; exact lev_le sg
      have HLE := Lp_eq ts (lv := lv) d x j E' hl1
      rw [hsg, hL] at HLE
      have HL2 : Hid ((if lv ≤ L then match Bin ts (L + 1) d (j + 1) E' with
          | none => none
          | some (y, k, E2) => Lp ts lv d E2.length k (E2 ++ [⟨5, sg, [], 0, x, y⟩])
        else some (x, j, E')) = R) := by
        show _ = R
        rw [← HL.out, HLE]
        rfl
      have HSG : Hid (0 < L → (tk ts j).kind = 4) := fun h0 => G.sgn j (by rw [hsg, hL]; exact h0)
      have HTX : Hid ((tk ts j).text = sg) := hsg
      have HLV : Hid (∀ y, Env y → Calls Tryz.prog 165 #[.string (X.str sg)] y fun e w' => e = .returned (.int .i64 (L : Int)) ∧ Below y.heap.size y w') := fun y hy => by rw [← hL]; exact levelOf_any sg hy
      have HO : Hid (wr.ownsRow B 32 6 ve E'.length (E'.flatMap expC)) := ho
      clear HX ho hL hsg HLE HL
      go_wp2_with fail
      refine (now_any hp hj).mono ?_
      unfold tokV
      rw [HTX.out]
      rintro e y1 ⟨rfl, hb1⟩
      have HP1 : Hid (PB B ts y1 bp a c j vd vs ve d) := hp.below hb1
      have HO1 : Hid (y1.ownsRow B 32 6 ve E'.length (E'.flatMap expC)) := row_thru' HO.out hb1
      have HK1 : Hid (Kp [69, 32] B w y1) := HK.out.trans (Kp.of hb1 hp.le)
      clear hp hb1 HO HK
      go_wp2_with fail
      refine (HLV.out y1 (HE.out _ HK1.out)).mono ?_
      rintro e y2 ⟨rfl, hb2⟩
      have HP2 : Hid (PB B ts y2 bp a c j vd vs ve d) := HP1.out.below hb2
      have HO2 : Hid (y2.ownsRow B 32 6 ve E'.length (E'.flatMap expC)) := row_thru' HO1.out hb2
      have HK2 : Hid (Kp [69, 32] B w y2) := HK1.out.trans (Kp.of hb2 HP1.out.le)
      clear hb2 HP1 HO1 HK1
      by_cases hlv : lv ≤ L
      · have hg : decide (lv ≤ L) = true := by simpa using hlv
        have hk4 : (tk ts j).kind = 4 := HSG.out (by omega)
        have hj1 : j + 1 < ts.length := G.hk j (by rw [hk4]; decide)
        have HL3 : Hid ((match Bin ts (L + 1) d (j + 1) E' with
          | none => none
          | some (y, k, E2) => Lp ts lv d E2.length k (E2 ++ [⟨5, sg, [], 0, x, y⟩])) = R) := by
          show _ = R
          rw [← HL2.out, if_pos hlv]
        have HK4' : Hid ((tk ts j).kind = 4) := hk4
        clear hk4 HL2 HSG hlv
        go_wp2_with fail
        refine (take_yes HP2.out hj HK4'.out).mono ?_
        unfold tokV
        rw [HTX.out]
        rintro e y3 ⟨rfl, hp3, hk3⟩
        have HX3 : Hid (PX B ts y3 bp a c (j + 1) vd vs E' d) := PX.kp HO2.out hp3 hk3
        have HK3 : Hid (Kp [69, 32] B w y3) := HK2.out.trans hk3.up
        clear hp3 hk3 HP2 HO2 HK2 hg HK4'
        go_wp2_with fail
        refine (HLV.out y3 (HE.out _ HK3.out)).mono ?_
        rintro e y4 ⟨rfl, hb4⟩
        have HX4 : Hid (PX B ts y4 bp a c (j + 1) vd vs E' d) := HX3.out.below hb4
        have HK4 : Hid (Kp [69, 32] B w y4) := HK3.out.trans (Kp.of hb4 HX3.out.le)
        have HC : Hid (Calls Tryz.prog 155 #[.pointer (some ⟨bp, 0, none⟩), .int .i64 ((L : Int) + 1)] y4 (EOut B ts y4 bp a c vd vs d (Bin ts (L + 1) d (j + 1) E'))) := by
          have := hb (j + 1) (by omega) hj1 y4 (L + 1) d E' (by omega) (by omega) HX4.out hd (by omega) (HE.out _ HK4.out)
          rw [show ((L + 1 : Nat) : Int) = (L : Int) + 1 by omega] at this
          exact this
        clear hb4 HX3 HK3
        go_wp2_with fail
        refine Calls.mono HC.out ?_
        intro e y5 hy
        have HY : Hid (EOut B ts y4 bp a c vd vs d (Bin ts (L + 1) d (j + 1) E') e y5) := hy
        clear hy HC
        cases hr : Bin ts (L + 1) d (j + 1) E' with
        | none =>
          have h2 := HY.out
          rw [hr] at h2
          obtain ⟨hk, h3⟩ := h2
          obtain rfl : R = none := by rw [← HL3.out, hr]
          have h3' : e = _ := h3
          subst h3'
          have HR : Hid (EOut B ts w bp a c vd vs d none _ y5) := ⟨HK4.out.trans hk, h3⟩
          clear HY hk h3 hr HL3
          go_wp2_with fail
          exact ⟨rfl, HR.out⟩
        | some r =>
          obtain ⟨y, k, E2⟩ := r
          have hlen := Bin_len G (Nat.le_add_left _ _) hr
          have h2 := HY.out
          rw [hr] at h2
          obtain ⟨hk, rfl, hx2⟩ := h2
          have HL4 : Hid (Lp ts lv d E2.length k (E2 ++ [⟨5, sg, [], 0, x, y⟩]) = R) := by
            show _ = R
            rw [← HL3.out, hr]
          have HX5 : Hid (PX B ts y5 bp a c k vd vs E2 d) := hx2
          have HK5 : Hid (Kp [69, 32] B w y5) := HK4.out.trans hk
          clear HY hk hx2 hr HL3 HX4 HK4
          go_wp2_with fail
          refine (addExp_any HX5.out (by omega) ⟨5, sg, [], 0, x, y⟩).mono ?_
          rintro e y6 ⟨rfl, hx6, hk6⟩
          have HX6 : Hid (PX B ts y6 bp a c k vd vs (E2 ++ [⟨5, sg, [], 0, x, y⟩]) d) := hx6
          have HK6 : Hid (Kp [69, 32] B w y6) := HK5.out.trans hk6
          have hl6 : (E2 ++ [(⟨5, sg, [], 0, x, y⟩ : Exp)]).length ≤ k := by rw [List.length_append]; simp only [List.length_cons, List.length_nil]; omega
          clear hx6 hk6 HX5 HK5
          go_wp2_with fail
          go_roundg (ts.length - k)
          case measure => omega
          case rel => exact ⟨E2.length, k, _, rfl, rfl, by omega, by omega, hl6, HX6, HK6, HL4⟩
      · have hg : decide (lv ≤ L) = false := by simpa using hlv
        obtain rfl : some (x, j, E') = R := by rw [← HL2.out, if_neg hlv]
        have HR : Hid (EOut B ts w bp a c vd vs d (some (x, j, E')) (.returned (.int .i64 (x : Int))) y2) := ⟨HK2.out, rfl, ve, HP2.out, HO2.out⟩
        clear HL2 HSG hlv HP2 HO2 HK2
        go_wp2_with fail
        go_ret
        exact HR.out
/-- Expressions: all of them, from wherever. -/
theorem exps_all {B : Nat} {ts : List X.Tok} {bp : Nat} {a : Option Addr} {c : Nat} {vd vs : Value} (G : Good ts) (hB : 8 ≤ B) : ∀ (m i : Nat), ts.length - i ≤ m → UnC B ts bp a c vd vs i ∧ BinC B ts bp a c vd vs i
  | 0, i, hm => ⟨fun hi => by omega, fun hi => by omega⟩
  | m + 1, i, hm => by
    have ih : ∀ j, i < j → UnC B ts bp a c vd vs j ∧ BinC B ts bp a c vd vs j := fun j hj => exps_all G hB m j (by omega)
    have hu : UnC B ts bp a c vd vs i := fun hi => un_step G (ih _ (by omega)).1 (ih _ (by omega)).2 (ih _ (by omega)).2 hB hi hi
    exact ⟨hu, fun hi => bin_step G hu (fun j hj => (ih j hj).2) hB hi hi⟩
theorem exp_full {B : Nat} {ts : List X.Tok} {bp : Nat} {a : Option Addr} {c : Nat} {vd vs : Value} (G : Good ts) (hB : 8 ≤ B) {i : Nat} (hi : i < ts.length) {w : World} {d : Nat} {E : List Exp} (h : PX B ts w bp a c i vd vs E d) (hd : d ≤ 20) (hl : E.length ≤ i) (he : Env w) : Calls Tryz.prog 143 #[.pointer (some ⟨bp, 0, none⟩)] w (EOut B ts w bp a c vd vs d (Bin ts 1 d i E)) :=
  exp_any (exps_all G hB _ i (Nat.le_refl _)).2 hi h hd hl he
theorem index_full {B : Nat} {ts : List X.Tok} {bp : Nat} {a : Option Addr} {c : Nat} {vd vs : Value} (G : Good ts) (hB : 8 ≤ B) {i : Nat} {w : World} {d : Nat} {E : List Exp} (h : PX B ts w bp a c i vd vs E d) (ht : (tk ts i).text = [91]) (hd : d ≤ 20) (hl : E.length ≤ i + 1) (he : Env w) : Calls Tryz.prog 146 #[.pointer (some ⟨bp, 0, none⟩)] w (EOut B ts w bp a c vd vs d (Ix ts d i E)) :=
  index_any G (exps_all G hB _ (i + 1) (Nat.le_refl _)).2 hB h ht hd hl he
end Go.Proofs.YtikknlkdbjaonaaGreatDoor.Y

/- Statements, as they lie while the program's parser makes them. -/
namespace Go.Proofs.YtikknlkdbjaonaaGreatDoor.Y
open Go.RowKit Go.Maps
set_option linter.unusedVariables false
set_option linter.unusedSimpArgs false
theorem str_nil : X.str [] = ({ data := #[] } : ByteArray) := rfl
abbrev iZ (z : Int) : Value := .int .i64 z
/-- A statement, and where its lists lie. -/
structure Sx where
  s : Stmt
  va : Value
  vb : Value
  vl : Value
def stC (p : Sx) : List Value := [.int .i64 p.s.kind, .string (X.str p.s.name), .string (X.str p.s.fn), .int .i64 p.s.e, .int .i64 p.s.i, p.va, p.vb, p.vl]
theorem stC_len (p : Sx) : (stC p).length = 8 := rfl
def stV (p : Sx) : Value := .agg #[.int .i64 p.s.kind, .string (X.str p.s.name), .string (X.str p.s.fn), .int .i64 p.s.e, .int .i64 p.s.i, p.va, p.vb, p.vl]
/-- A statement's lists are rows of their own. -/
structure SxR (B : Nat) (w : World) (p : Sx) : Prop where
  ra : w.ownsRow B 3 1 p.va p.s.args.length (p.s.args.map iZ)
  rb : w.ownsRow B 3 1 p.vb p.s.body.length (p.s.body.map iZ)
  rl : w.ownsRow B 3 1 p.vl p.s.els.length (p.s.els.map iZ)
theorem SxR.kp {Ts : List TypeId} {B : Nat} {w y : World} {p : Sx} (h : SxR B w p) (hk : Kp Ts B w y) (hT : 3 ∉ Ts) : SxR B y p := ⟨row_kp h.ra hk hT, row_kp h.rb hk hT, row_kp h.rl hk hT⟩
theorem SxR.bel {B : Nat} {w y : World} {p : Sx} (h : SxR B w p) (hb : Below w.heap.size w y) : SxR B y p := ⟨row_thru' h.ra hb, row_thru' h.rb hb, row_thru' h.rl hb⟩
/-- Its lists were made later than that. -/
def Fresh (n : Nat) (p : Sx) : Prop := ∀ b, (p.va.ownBlock = some b ∨ p.vb.ownBlock = some b ∨ p.vl.ownBlock = some b) → n ≤ b
theorem Fresh.mono {n m : Nat} {p : Sx} (h : Fresh n p) (hm : m ≤ n) : Fresh m p := fun b hb => Nat.le_trans hm (h b hb)
theorem SxR.lt {B : Nat} {w : World} {p : Sx} (h : SxR B w p) : ∀ b, (p.va.ownBlock = some b ∨ p.vb.ownBlock = some b ∨ p.vl.ownBlock = some b) → b < w.heap.size := fun b hb => by
  rcases hb with hb | hb | hb
  · exact (h.ra.lt b hb).2
  · exact (h.rb.lt b hb).2
  · exact (h.rl.lt b hb).2
abbrev T3 : List TypeId := [69, 32, 35]
/-- Blocks of other types stay; of statements, all but the list's own. -/
structure Ks (B : Nat) (vs vs' : Value) (w w' : World) : Prop where
  kp : Kp T3 B w w'
  st : ∀ (b : Nat) (c : Array Value) (f : Nat × Nat), w.heap[b]? = some (Obj.cells c 35 f) → vs.ownBlock ≠ some b → w'.heap[b]? = some (Obj.cells c 35 f)
  fr : ∀ g, vs'.ownBlock = some g → vs.ownBlock = some g ∨ w.heap.size ≤ g
theorem Ks.refl (B : Nat) (vs : Value) (w : World) : Ks B vs vs w w := ⟨Kp.refl _ _ _, fun _ _ _ h _ => h, fun _ h => .inl h⟩
theorem Ks.trans {B : Nat} {v1 v2 v3 : Value} {x y z : World} (h : Ks B v1 v2 x y) (k : Ks B v2 v3 y z) : Ks B v1 v3 x z :=
  ⟨h.kp.trans k.kp, fun b c f hb hv => k.st b c f (h.st b c f hb hv) (fun e => by
    rcases h.fr b e with h1 | h1
    · exact hv h1
    · have := blk_lt hb; omega), fun g hg => by
    rcases k.fr g hg with h1 | h1
    · exact h.fr g h1
    · exact .inr (Nat.le_trans h.kp.low.size h1)⟩
theorem Ks.of2 {B : Nat} {vs : Value} {w y : World} (h : Kp [69, 32] B w y) : Ks B vs vs w y := ⟨h.wide (by decide), fun b c f hb _ => h.keep b c _ f hb (by decide), fun _ h => .inl h⟩
theorem Ks.of1 {B : Nat} {vs : Value} {w y : World} (h : Kp [69] B w y) : Ks B vs vs w y := Ks.of2 h.up
theorem Ks.bel {B : Nat} {vs : Value} {w y : World} (h : Below w.heap.size w y) (hB : B ≤ w.heap.size) : Ks B vs vs w y := Ks.of2 (Kp.of h hB)
/-- What lies while a statement is read: from the world where that began. -/
structure ST (B : Nat) (ts : List X.Tok) (w0 : World) (vs0 : Value) (X0 : List Sx) (bp : Nat) (a : Option Addr) (c i : Nat) (vd vs ve : Value) (d : Nat) (N : List Sx) (E : List Exp) (y : World) : Prop where
  pb : PB B ts y bp a c i vd vs ve d
  re : y.ownsRow B 32 6 ve E.length (E.flatMap expC)
  rs : y.ownsRow B 35 8 vs (X0 ++ N).length ((X0 ++ N).flatMap stC)
  rr : ∀ p ∈ X0 ++ N, SxR B y p
  ks : Ks B vs0 vs w0 y
  fr : ∀ p ∈ N, Fresh w0.heap.size p
  le0 : B ≤ w0.heap.size
variable {B : Nat} {ts : List X.Tok} {w0 : World} {vs0 : Value} {X0 : List Sx} {bp : Nat} {a : Option Addr} {c i : Nat} {vd vs ve : Value} {d : Nat} {N : List Sx} {E : List Exp} {y : World}
theorem ST.px (h : ST B ts w0 vs0 X0 bp a c i vd vs ve d N E y) : PX B ts y bp a c i vd vs E d := ⟨ve, h.pb, h.re⟩
theorem ST.base (h : ST B ts w0 vs0 X0 bp a c i vd vs ve d N E y) : ST B ts y vs (X0 ++ N) bp a c i vd vs ve d [] E y :=
  ⟨h.pb, h.re, by rw [List.append_nil]; exact h.rs, by rw [List.append_nil]; exact h.rr, Ks.refl _ _ _, (fun p hp => by cases hp), h.pb.le⟩
theorem ST.le (h : ST B ts w0 vs0 X0 bp a c i vd vs ve d N E y) : B ≤ y.heap.size := h.pb.le
theorem ST.bel {z : World} (h : ST B ts w0 vs0 X0 bp a c i vd vs ve d N E y) (hb : Below y.heap.size y z) : ST B ts w0 vs0 X0 bp a c i vd vs ve d N E z :=
  ⟨h.pb.below hb, row_thru' h.re hb, row_thru' h.rs hb, fun p hp => (h.rr p hp).bel hb, h.ks.trans (Ks.bel hb h.le), h.fr, h.le0⟩
theorem ST.tok {z : World} {j d' : Nat} (h : ST B ts w0 vs0 X0 bp a c i vd vs ve d N E y) (hp : PB B ts z bp a c j vd vs ve d') (hk : Kp [69] B y z) : ST B ts w0 vs0 X0 bp a c j vd vs ve d' N E z :=
  ⟨hp, row_kp h.re hk (by decide), row_kp h.rs hk (by decide), fun p hp => (h.rr p hp).kp hk (by decide), h.ks.trans (Ks.of1 hk), h.fr, h.le0⟩
theorem ST.exp {z : World} {j d' : Nat} {E' : List Exp} (h : ST B ts w0 vs0 X0 bp a c i vd vs ve d N E y) (hk : Kp [69, 32] B y z) (hx : PX B ts z bp a c j vd vs E' d') : ∃ ve', ST B ts w0 vs0 X0 bp a c j vd vs ve' d' N E' z := by
  obtain ⟨ve', hp, ho⟩ := hx
  exact ⟨ve', hp, ho, row_kp h.rs hk (by decide), fun p hp => (h.rr p hp).kp hk (by decide), h.ks.trans (Ks.of2 hk), h.fr, h.le0⟩
theorem ST.call {z : World} {vs2 ve2 : Value} {j d2 : Nat} {N2 : List Sx} {E2 : List Exp} (h : ST B ts w0 vs0 X0 bp a c i vd vs ve d N E y) (k : ST B ts y vs (X0 ++ N) bp a c j vd vs2 ve2 d2 N2 E2 z) : ST B ts w0 vs0 X0 bp a c j vd vs2 ve2 d2 (N ++ N2) E2 z :=
  ⟨k.pb, k.re, by rw [← List.append_assoc]; exact k.rs, by rw [← List.append_assoc]; exact k.rr, h.ks.trans k.ks, fun p hp => by
    rcases List.mem_append.1 hp with hp | hp
    · exact h.fr p hp
    · exact (k.fr p hp).mono h.ks.kp.low.size, h.le0⟩
theorem ST.base0 (h : ST B ts w0 vs0 X0 bp a c i vd vs ve d [] E y) : ST B ts y vs X0 bp a c i vd vs ve d [] E y := by
  have := h.base
  rwa [List.append_nil] at this
theorem ST.call0 {z : World} {vs2 ve2 : Value} {j d2 : Nat} {N2 : List Sx} {E2 : List Exp} (h : ST B ts w0 vs0 X0 bp a c i vd vs ve d [] E y) (k : ST B ts y vs X0 bp a c j vd vs2 ve2 d2 N2 E2 z) : ST B ts w0 vs0 X0 bp a c j vd vs2 ve2 d2 N2 E2 z := by
  have k' : ST B ts y vs (X0 ++ []) bp a c j vd vs2 ve2 d2 N2 E2 z := by rw [List.append_nil]; exact k
  exact h.call k'
/-- A box of a statement. -/
structure SB (y : World) (vs : Value) (n b : Nat) (cs : List Value) : Prop where
  blk : y.heap[b]? = some (.cells cs.toArray 35)
  ne : vs.ownBlock ≠ some b
  ge : n ≤ b
theorem SB.cel {vs : Value} {n b : Nat} {cs : List Value} (h : SB y vs n b cs) (j : Nat) (u : Value) (hu : cs[j]? = some u) : y.cell? ⟨b, j, none⟩ = some u := cell_blk h.blk j (by simpa using hu)
theorem SB.fro {vs : Value} {n b : Nat} {cs : List Value} (h : SB y vs n b cs) (o : Nat) : y.frozen? ⟨b, o, none⟩ = false := blk_fro h.blk
theorem SB.ks {vs vs' : Value} {n b : Nat} {cs : List Value} {z : World} (h : SB y vs n b cs) (hk : Ks B vs vs' y z) : SB z vs' n b cs :=
  ⟨hk.st _ _ _ h.blk h.ne, fun e => by
    rcases hk.fr b e with h1 | h1
    · exact h.ne h1
    · have := blk_lt h.blk; omega, h.ge⟩
theorem SB.bel {vs : Value} {n b : Nat} {cs : List Value} {z : World} (h : SB y vs n b cs) (hb : Below y.heap.size y z) : SB z vs n b cs := ⟨blk_thru hb h.blk, h.ne, h.ge⟩
theorem SB.put {vs : Value} {n b : Nat} {cs : List Value} (h : SB y vs n b cs) (k : Nat) (u : Value) : SB (y.setCell ⟨b, k, none⟩ u) vs n b (cs.set k u) := by
  refine ⟨?_, h.ne, h.ge⟩
  have := blk_set (i := k) h.blk u
  rw [this, List.setIfInBounds_toArray]
theorem SB.far {vs : Value} {n b b2 k : Nat} {cs : List Value} (h : SB y vs n b cs) (hne : b2 ≠ b) (u : Value) : SB (y.setCell ⟨b2, k, none⟩ u) vs n b cs := by
  refine ⟨?_, h.ne, h.ge⟩
  show (y.heap.modify b2 _)[b]? = _
  rw [Array.getElem?_modify, if_neg hne]
  exact h.blk
theorem SB.new {vs : Value} {n : Nat} {cs : Array Value} (h : ST B ts w0 vs0 X0 bp a c i vd vs ve d N E y) (hn : n ≤ y.heap.size) : SB (y.alloc (.cells cs 35)) vs n y.heap.size cs.toList :=
  ⟨heap_new _ _, fun e => by have := (h.rs.lt _ e).2; omega, hn⟩
theorem blk_far {b b2 k : Nat} {o : Obj} {u : Value} (h : y.heap[b]? = some o) (hne : b2 ≠ b) : (y.setCell ⟨b2, k, none⟩ u).heap[b]? = some o := by
  show (y.heap.modify b2 _)[b]? = _
  rw [Array.getElem?_modify, if_neg hne]
  exact h
theorem row_far {C n b k m : Nat} {e : TypeId} {v u : Value} {cs : List Value} (h : y.ownsRow C e m v n cs) (hb : v.ownBlock ≠ some b) : (y.setCell ⟨b, k, none⟩ u).ownsRow C e m v n cs := by
  refine ⟨h.1, ?_⟩
  rcases h.2 with h0 | ⟨g, cap, cur, h1, h2, h3, h4⟩
  · exact .inl h0
  · refine .inr ⟨g, cap, cur, h1, h2, blk_far h3 (fun e => hb ?_), h4⟩
    rw [h1, e]; rfl
/-- A row of another type is elsewhere. -/
theorem row_ne {C n b m : Nat} {e T : TypeId} {v : Value} {cs : List Value} {c : Array Value} {f : Nat × Nat} (h : y.ownsRow C e m v n cs) (hb : y.heap[b]? = some (Obj.cells c T f)) (hT : e ≠ T) : v.ownBlock ≠ some b := fun e1 => by
  obtain ⟨cur, hc⟩ := own_cells h e1
  exact blk_ne hc hb hT rfl
/-- A store into a box of a statement turns nothing else. -/
theorem ST.box {n b k : Nat} {cs : List Value} (h : ST B ts w0 vs0 X0 bp a c i vd vs ve d N E y) (hs : SB y vs n b cs) (hn : w0.heap.size ≤ n) (u : Value) : ST B ts w0 vs0 X0 bp a c i vd vs ve d N E (y.setCell ⟨b, k, none⟩ u) := by
  have hbp : b ≠ bp := blk_ne hs.blk h.pb.blk (by decide)
  have hbB : B ≤ b := Nat.le_trans h.le0 (Nat.le_trans hn hs.ge)
  have hbw : ∀ b' o, w0.heap[b']? = some o → b ≠ b' := fun b' o hb' => by have := blk_lt hb'; have := hs.ge; omega
  refine ⟨⟨h.pb.ge, blk_far h.pb.blk hbp, row_far h.pb.tok (row_ne h.pb.tok hs.blk (by decide))⟩, row_far h.re (row_ne h.re hs.blk (by decide)), row_far h.rs hs.ne, fun p hp => ?_, ⟨⟨h.ks.kp.low.setCell (p := ⟨b, k, none⟩) hbB u, fun b' c' T' f' hb' hT' => ?_⟩, fun b' c' f' hb' hv' => ?_, h.ks.fr⟩, h.fr, h.le0⟩
  · have hr := h.rr p hp
    exact ⟨row_far hr.ra (row_ne hr.ra hs.blk (by decide)), row_far hr.rb (row_ne hr.rb hs.blk (by decide)), row_far hr.rl (row_ne hr.rl hs.blk (by decide))⟩
  · exact blk_far (h.ks.kp.keep b' c' T' f' hb' hT') (hbw b' _ hb')
  · exact blk_far (h.ks.st b' c' f' hb' hv') (hbw b' _ hb')
theorem SxR.far {b k : Nat} {p : Sx} {T : TypeId} {cs : Array Value} {f : Nat × Nat} {u : Value} (hr : SxR B y p) (hb : y.heap[b]? = some (Obj.cells cs T f)) (hT : 3 ≠ T) : SxR B (y.setCell ⟨b, k, none⟩ u) p :=
  ⟨row_far hr.ra (row_ne hr.ra hb hT), row_far hr.rb (row_ne hr.rb hb hT), row_far hr.rl (row_ne hr.rl hb hT)⟩
/-- What reading a statement comes to. -/
def SOut (B : Nat) (ts : List X.Tok) (w : World) (bp : Nat) (a : Option Addr) (c : Nat) (vd vs : Value) (X : List Sx) (d : Nat) (r : SR) (e : Ending) (w' : World) : Prop :=
  Kp T3 B w w' ∧ match r with
    | none => Fails e
    | some (s, j, E', S') => ∃ vs' ve' N p, ST B ts w vs X bp a c j vd vs' ve' d N E' w' ∧ (X ++ N).map (·.s) = S' ∧ p.s = s ∧ e = .returned (stV p) ∧ SxR B w' p ∧ Fresh w.heap.size p
/-- What reading a block comes to. -/
def BOut (B : Nat) (ts : List X.Tok) (w : World) (bp : Nat) (a : Option Addr) (c : Nat) (vd vs : Value) (X : List Sx) (d : Nat) (r : Option (List Int × Nat × List Exp × List Stmt)) (e : Ending) (w' : World) : Prop :=
  Kp T3 B w w' ∧ match r with
    | none => Fails e
    | some (l, j, E', S') => ∃ vs' ve' N a' c', ST B ts w vs X bp a c j vd vs' ve' d N E' w' ∧ (X ++ N).map (·.s) = S' ∧ e = .returned (.slice a' l.length c') ∧ w'.ownsRow B 3 1 (.slice a' l.length c') l.length (l.map iZ) ∧ ∀ b, (Value.slice a' l.length c').ownBlock = some b → w.heap.size ≤ b
theorem infoS : (Tryz.prog.info? 35).map (fun i => (i.zero, i.size, i.bytes)) = some (some (.agg #[.int .i64 0, .string { data := #[] }, .string { data := #[] }, .int .i64 0, .int .i64 0, .slice none 0 0, .slice none 0 0, .slice none 0 0]), 8, 128) := by kernel_rfl
theorem infoI : (Tryz.prog.info? 3).map (fun i => (i.zero, i.size, i.bytes)) = some (some (.int .i64 0), 1, 8) := by kernel_rfl
theorem SxR.nil (B : Nat) (w : World) (s : Stmt) (h1 : s.args = []) (h2 : s.body = []) (h3 : s.els = []) : SxR B w ⟨s, .slice none 0 0, .slice none 0 0, .slice none 0 0⟩ := by
  refine ⟨?_, ?_, ?_⟩
  · rw [h1]; exact World.ownsRow_nil _ _ _ _
  · rw [h2]; exact World.ownsRow_nil _ _ _ _
  · rw [h3]; exact World.ownsRow_nil _ _ _ _
theorem Fresh.nil (n : Nat) (s : Stmt) : Fresh n ⟨s, .slice none 0 0, .slice none 0 0, .slice none 0 0⟩ := fun b hb => by rcases hb with hb | hb | hb <;> cases hb
abbrev set8 (y : World) (b : Nat) (p : Sx) : World := (((((((y.setCell ⟨b, 0, none⟩ (.int .i64 p.s.kind)).setCell ⟨b, 1, none⟩ (.string (X.str p.s.name))).setCell ⟨b, 2, none⟩ (.string (X.str p.s.fn))).setCell ⟨b, 3, none⟩ (.int .i64 p.s.e)).setCell ⟨b, 4, none⟩ (.int .i64 p.s.i)).setCell ⟨b, 5, none⟩ p.va).setCell ⟨b, 6, none⟩ p.vb).setCell ⟨b, 7, none⟩ p.vl
/-- The end of what reads a statement: it is laid into the box of the answer. -/
theorem fin8 {n b : Nat} {cs : List Value} (h : ST B ts w0 vs0 X0 bp a c i vd vs ve d N E y) (hs : SB y vs n b cs) (hn : w0.heap.size ≤ n) (p : Sx) (hr : SxR B y p) (hf : Fresh w0.heap.size p) {S' : List Stmt} (hS : (X0 ++ N).map (·.s) = S') : SOut B ts w0 bp a c vd vs0 X0 d (some (p.s, i, E, S')) (.returned (stV p)) (set8 y b p) := by
  have a0 := h.box (k := 0) hs hn (.int .i64 p.s.kind); have s0 := hs.put 0 (.int .i64 p.s.kind); have r0 := hr.far (k := 0) (u := .int .i64 p.s.kind) hs.blk (by decide)
  have a1 := a0.box (k := 1) s0 hn (.string (X.str p.s.name)); have s1 := s0.put 1 (.string (X.str p.s.name)); have r1 := r0.far (k := 1) (u := .string (X.str p.s.name)) s0.blk (by decide)
  have a2 := a1.box (k := 2) s1 hn (.string (X.str p.s.fn)); have s2 := s1.put 2 (.string (X.str p.s.fn)); have r2 := r1.far (k := 2) (u := .string (X.str p.s.fn)) s1.blk (by decide)
  have a3 := a2.box (k := 3) s2 hn (.int .i64 p.s.e); have s3 := s2.put 3 (.int .i64 p.s.e); have r3 := r2.far (k := 3) (u := .int .i64 p.s.e) s2.blk (by decide)
  have a4 := a3.box (k := 4) s3 hn (.int .i64 p.s.i); have s4 := s3.put 4 (.int .i64 p.s.i); have r4 := r3.far (k := 4) (u := .int .i64 p.s.i) s3.blk (by decide)
  have a5 := a4.box (k := 5) s4 hn p.va; have s5 := s4.put 5 p.va; have r5 := r4.far (k := 5) (u := p.va) s4.blk (by decide)
  have a6 := a5.box (k := 6) s5 hn p.vb; have s6 := s5.put 6 p.vb; have r6 := r5.far (k := 6) (u := p.vb) s5.blk (by decide)
  have a7 := a6.box (k := 7) s6 hn p.vl; have r7 := r6.far (k := 7) (u := p.vl) s6.blk (by decide)
  exact ⟨a7.ks.kp, vs, ve, N, p, a7, hS, rfl, rfl, r7, hf⟩
/-- A row of numbers, as a value. -/
theorem row_form {B n : Nat} {w : World} {v : Value} {l : List Value} {e : TypeId} {k : Nat} (h : w.ownsRow B e k v n l) : ∃ a c, v = .slice a n c := by
  rcases h.2 with ⟨e1, e2⟩ | ⟨g, cap, cur, e1, -⟩
  · exact ⟨none, 0, by rw [e1, e2]⟩
  · exact ⟨_, cap, e1⟩
end Go.Proofs.YtikknlkdbjaonaaGreatDoor.Y
