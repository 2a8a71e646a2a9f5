/- A call, a get, a put; what is set. -/
import Derived.Test.YtikknlkdbjaonaaGreatDoorPBAh
import Derived.Test.YtikknlkdbjaonaaGreatDoorPBAg
namespace Go.Proofs.YtikknlkdbjaonaaGreatDoor.Y
open Go.RowKit Go.Maps
set_option linter.unusedVariables false
set_option linter.unusedSimpArgs false
theorem sxform {B : Nat} {w : World} {s : Stmt} {va vb vl : Value} (h : SxR B w ⟨s, va, vb, vl⟩) : ∃ aa ca ab cb al cl, va = .slice aa s.args.length ca ∧ vb = .slice ab s.body.length cb ∧ vl = .slice al s.els.length cl := by
  obtain ⟨aa, ca, e1⟩ := row_form h.ra
  obtain ⟨ab, cb, e2⟩ := row_form h.rb
  obtain ⟨al, cl, e3⟩ := row_form h.rl
  exact ⟨aa, ca, ab, cb, al, cl, e1, e2, e3⟩
set_option maxRecDepth 100000 in
set_option maxHeartbeats 2000000 in
theorem call_any {B : Nat} {ts : List X.Tok} {bp : Nat} {a : Option Addr} {c : Nat} {vd vs ve : Value} {XS : List Sx} (G : Good ts) (hB : 8 ≤ B) {i : Nat} (hi : i < ts.length) {w : World} {d : Nat} {E : List Exp} (h : ST B ts w vs XS bp a c i vd vs ve d [] E w) (hd : d ≤ 20) (hl : E.length ≤ i) (he : Env w) (nm : X.By) : Calls Tryz.prog 122 #[.pointer (some ⟨bp, 0, none⟩), .string (X.str nm)] w (SOut B ts w bp a c vd vs XS d (cl ts d nm i E (XS.map (·.s)))) := by
  obtain ⟨R, hR⟩ : ∃ R, cl ts d nm i E (XS.map (·.s)) = R := ⟨_, rfl⟩
  have hR0 := hR
  unfold cl at hR0
  have HR : Hid _ := hR0
  rw [hR]
  clear hR hR0
  obtain ⟨W0, hW0⟩ : ∃ W0, w.alloc (.cells #[.int .i64 0, .string { data := #[] }, .string { data := #[] }, .int .i64 0, .int .i64 0, .slice none 0 0, .slice none 0 0, .slice none 0 0] 35) = W0 := ⟨_, rfl⟩
  obtain ⟨W1, hW1⟩ : ∃ W1, W0.alloc (.cells #[.int .i64 0, .string (X.str nm), .string { data := #[] }, .int .i64 0, .int .i64 0, .slice none 0 0, .slice none 0 0, .slice none 0 0] 35) = W1 := ⟨_, rfl⟩
  have HS0 : Hid (ST B ts w vs XS bp a c i vd vs ve d [] E W0) := by show ST _ _ _ _ _ _ _ _ _ _ _ _ _ _ _ _; rw [← hW0]; exact h.bel (bl1 _ _)
  have HZ0 : Hid (SB W0 vs w.heap.size w.heap.size [.int .i64 0, .string { data := #[] }, .string { data := #[] }, .int .i64 0, .int .i64 0, .slice none 0 0, .slice none 0 0, .slice none 0 0]) := by show SB _ _ _ _ _; rw [← hW0]; exact SB.new h (Nat.le_refl _)
  have HS : Hid (ST B ts w vs XS bp a c i vd vs ve d [] E W1) := by show ST _ _ _ _ _ _ _ _ _ _ _ _ _ _ _ _; rw [← hW1]; exact HS0.out.bel (bl1 _ _)
  have HZ : Hid (SB W1 vs w.heap.size w.heap.size [.int .i64 0, .string { data := #[] }, .string { data := #[] }, .int .i64 0, .int .i64 0, .slice none 0 0, .slice none 0 0, .slice none 0 0]) := by show SB _ _ _ _ _; rw [← hW1]; exact HZ0.out.bel (bl1 _ _)
  have HA : Hid (SB W1 vs w.heap.size W0.heap.size [.int .i64 0, .string (X.str nm), .string { data := #[] }, .int .i64 0, .int .i64 0, .slice none 0 0, .slice none 0 0, .slice none 0 0]) := by show SB _ _ _ _ _; rw [← hW1]; exact SB.new HS0.out HS0.out.ks.kp.low.size
  have HNE : Hid (W0.heap.size ≠ w.heap.size) := by show _ ≠ _; rw [← hW0]; simp
  have HE : Hid (∀ y, Kp T3 B w y → Env y) := fun y hy => he.kp hy hB
  have hN := G.len
  have HW1 : Hid (W0.alloc (.cells #[.int .i64 0, .string (X.str nm), .string { data := #[] }, .int .i64 0, .int .i64 0, .slice none 0 0, .slice none 0 0, .slice none 0 0] 35) = W1) := hW1
  clear h he HS0 HZ0 hW1
  go_enter Tryz.func122, Tryz.ntmps122
  go_wp2_with fail
  rw [HW1.out]
  clear hW0 HW1
  by_cases h1 : (tk ts i).text = kGet
  · refine (skip_yes (s := kGet) HS.out.pb hi h1).mono ?_
    rintro e y1 ⟨rfl, hp1, hk1⟩
    have HR : Hid (_ = R) := (if_pos h1).symm.trans HR.out
    have HS : Hid (ST B ts w vs XS bp a c (i + 1) vd vs ve d [] E y1) := HS.out.tok hp1 hk1
    have HZ : Hid _ := HZ.out.ks (Ks.of1 hk1)
    have HA : Hid _ := HA.out.ks (Ks.of1 hk1)
    clear hp1 hk1
    have hi1 : i + 1 < ts.length := G.ht i (by rw [h1]; decide)
    have m0 := HA.out.cel 0 _ rfl
    have m1 := HA.out.cel 1 _ rfl
    have m2 := HA.out.cel 2 _ rfl
    have m3 := HA.out.cel 3 _ rfl
    have m4 := HA.out.cel 4 _ rfl
    have m5 := HA.out.cel 5 _ rfl
    have m6 := HA.out.cel 6 _ rfl
    have m7 := HA.out.cel 7 _ rfl
    have zm := HA.out.fro
    obtain ⟨Y2, hY2⟩ : ∃ Y2, y1.setCell ⟨W0.heap.size, 0, none⟩ (.int .i64 5) = Y2 := ⟨_, rfl⟩
    have HS : Hid (ST B ts w vs XS bp a c (i + 1) vd vs ve d [] E Y2) := by show ST _ _ _ _ _ _ _ _ _ _ _ _ _ _ _ _; rw [← hY2]; exact HS.out.box HA.out (Nat.le_refl _) _
    have HZ : Hid (SB Y2 vs w.heap.size w.heap.size [.int .i64 0, .string { data := #[] }, .string { data := #[] }, .int .i64 0, .int .i64 0, .slice none 0 0, .slice none 0 0, .slice none 0 0]) := by show SB _ _ _ _ _; rw [← hY2]; exact HZ.out.far HNE.out _
    have HA : Hid (SB Y2 vs w.heap.size W0.heap.size [.int .i64 5, .string (X.str nm), .string { data := #[] }, .int .i64 0, .int .i64 0, .slice none 0 0, .slice none 0 0, .slice none 0 0]) := by show SB _ _ _ _ _; rw [← hY2]; exact HA.out.put 0 (.int .i64 5)
    go_wp2_with fail
    try rw [hY2]
    clear hY2 m0 m1 m2 m3 m4 m5 m6 m7 zm
    by_cases h2 : (tk ts (i + 1)).text = [40]
    rotate_left
    · refine (want_no (s := [40]) HS.out.pb hi1 h2).mono ?_
      rintro e y ⟨h3, hb3⟩
      obtain rfl : none = R := (if_neg h2).symm.trans HR.out
      have h3' : e = _ := h3
      subst h3'
      have HF : Hid (SOut B ts w bp a c vd vs XS d none _ y) := ⟨(HS.out.bel hb3).ks.kp, h3⟩
      clear h3 hb3 HS HR HZ HA
      go_wp2_with fail
      exact ⟨rfl, HF.out⟩
    refine (want_yes (s := [40]) HS.out.pb hi1 h2).mono ?_
    rintro e y3 ⟨rfl, hp1, hk1⟩
    have HR : Hid (_ = R) := (if_pos h2).symm.trans HR.out
    have HS : Hid (ST B ts w vs XS bp a c (i + 2) vd vs ve d [] E y3) := HS.out.tok hp1 hk1
    have HZ : Hid _ := HZ.out.ks (Ks.of1 hk1)
    have HA : Hid _ := HA.out.ks (Ks.of1 hk1)
    clear hp1 hk1
    have hi2 : i + 2 < ts.length := G.ht (i + 1) (by rw [h2]; simp)
    go_wp2_with fail
    by_cases h3n : (tk ts (i + 2)).kind = 2
    rotate_left
    · refine (name_no HS.out.pb hi2 h3n).mono ?_
      rintro e y ⟨h3, hb3⟩
      obtain rfl : none = R := (if_neg h3n).symm.trans HR.out
      have h3' : e = _ := h3
      subst h3'
      have HF : Hid (SOut B ts w bp a c vd vs XS d none _ y) := ⟨(HS.out.bel hb3).ks.kp, h3⟩
      clear h3 hb3 HS HR HZ HA
      go_wp2_with fail
      exact ⟨rfl, HF.out⟩
    refine (name_yes HS.out.pb hi2 h3n).mono ?_
    rintro e y4 ⟨rfl, hp1, hk1⟩
    have HR : Hid (_ = R) := (if_pos h3n).symm.trans HR.out
    have HS : Hid (ST B ts w vs XS bp a c (i + 3) vd vs ve d [] E y4) := HS.out.tok hp1 hk1
    have HZ : Hid _ := HZ.out.ks (Ks.of1 hk1)
    have HA : Hid _ := HA.out.ks (Ks.of1 hk1)
    clear hp1 hk1
    have hi3 : i + 3 < ts.length := G.hk (i + 2) (by rw [h3n]; decide)
    have m0 := HA.out.cel 0 _ rfl
    have m1 := HA.out.cel 1 _ rfl
    have m2 := HA.out.cel 2 _ rfl
    have m3 := HA.out.cel 3 _ rfl
    have m4 := HA.out.cel 4 _ rfl
    have m5 := HA.out.cel 5 _ rfl
    have m6 := HA.out.cel 6 _ rfl
    have m7 := HA.out.cel 7 _ rfl
    have zm := HA.out.fro
    obtain ⟨Y5, hY5⟩ : ∃ Y5, y4.setCell ⟨W0.heap.size, 2, none⟩ (.string (X.str (tk ts (i + 2)).text)) = Y5 := ⟨_, rfl⟩
    have HS : Hid (ST B ts w vs XS bp a c (i + 3) vd vs ve d [] E Y5) := by show ST _ _ _ _ _ _ _ _ _ _ _ _ _ _ _ _; rw [← hY5]; exact HS.out.box HA.out (Nat.le_refl _) _
    have HZ : Hid (SB Y5 vs w.heap.size w.heap.size [.int .i64 0, .string { data := #[] }, .string { data := #[] }, .int .i64 0, .int .i64 0, .slice none 0 0, .slice none 0 0, .slice none 0 0]) := by show SB _ _ _ _ _; rw [← hY5]; exact HZ.out.far HNE.out _
    have HA : Hid (SB Y5 vs w.heap.size W0.heap.size [.int .i64 5, .string (X.str nm), .string (X.str (tk ts (i + 2)).text), .int .i64 0, .int .i64 0, .slice none 0 0, .slice none 0 0, .slice none 0 0]) := by show SB _ _ _ _ _; rw [← hY5]; exact HA.out.put 2 (.string (X.str (tk ts (i + 2)).text))
    go_wp2_with fail
    try rw [hY5]
    clear hY5 m0 m1 m2 m3 m4 m5 m6 m7 zm
    have hR1 := HR.out
    unfold fin at hR1
    have HR : Hid _ := hR1
    clear hR1
    by_cases h8 : (tk ts (i + 3)).text = [41]
    rotate_left
    · refine (want_no (s := [41]) HS.out.pb hi3 h8).mono ?_
      rintro e y ⟨h3, hb3⟩
      obtain rfl : none = R := (if_neg h8).symm.trans HR.out
      have h3' : e = _ := h3
      subst h3'
      have HF : Hid (SOut B ts w bp a c vd vs XS d none _ y) := ⟨(HS.out.bel hb3).ks.kp, h3⟩
      clear h3 hb3 HS HR HZ HA
      go_wp2_with fail
      exact ⟨rfl, HF.out⟩
    refine (want_yes (s := [41]) HS.out.pb hi3 h8).mono ?_
    rintro e y6 ⟨rfl, hp1, hk1⟩
    have HR : Hid (_ = R) := (if_pos h8).symm.trans HR.out
    have HS : Hid (ST B ts w vs XS bp a c (i + 4) vd vs ve d [] E y6) := HS.out.tok hp1 hk1
    have HZ : Hid _ := HZ.out.ks (Ks.of1 hk1)
    have HA : Hid _ := HA.out.ks (Ks.of1 hk1)
    clear hp1 hk1
    have hj2 : (i + 4) < ts.length := G.ht _ (by rw [h8]; simp)
    go_wp2_with fail
    by_cases h9 : (tk ts (i + 4)).text = [59]
    rotate_left
    · refine (want_no (s := [59]) HS.out.pb hj2 h9).mono ?_
      rintro e y ⟨h3, hb3⟩
      obtain rfl : none = R := (if_neg h9).symm.trans HR.out
      have h3' : e = _ := h3
      subst h3'
      have HF : Hid (SOut B ts w bp a c vd vs XS d none _ y) := ⟨(HS.out.bel hb3).ks.kp, h3⟩
      clear h3 hb3 HS HR HZ HA
      go_wp2_with fail
      exact ⟨rfl, HF.out⟩
    refine (want_yes (s := [59]) HS.out.pb hj2 h9).mono ?_
    rintro e y7 ⟨rfl, hp1, hk1⟩
    have HR : Hid (_ = R) := (if_pos h9).symm.trans HR.out
    have HS : Hid (ST B ts w vs XS bp a c (i + 5) vd vs ve d [] E y7) := HS.out.tok hp1 hk1
    have HZ : Hid _ := HZ.out.ks (Ks.of1 hk1)
    have HA : Hid _ := HA.out.ks (Ks.of1 hk1)
    clear hp1 hk1
    obtain rfl : _ = R := HR.out
    have m0 := HA.out.cel 0 _ rfl
    have m1 := HA.out.cel 1 _ rfl
    have m2 := HA.out.cel 2 _ rfl
    have m3 := HA.out.cel 3 _ rfl
    have m4 := HA.out.cel 4 _ rfl
    have m5 := HA.out.cel 5 _ rfl
    have m6 := HA.out.cel 6 _ rfl
    have m7 := HA.out.cel 7 _ rfl
    have n0 := HZ.out.cel 0 _ rfl
    have n1 := HZ.out.cel 1 _ rfl
    have n2 := HZ.out.cel 2 _ rfl
    have n3 := HZ.out.cel 3 _ rfl
    have n4 := HZ.out.cel 4 _ rfl
    have n5 := HZ.out.cel 5 _ rfl
    have n6 := HZ.out.cel 6 _ rfl
    have n7 := HZ.out.cel 7 _ rfl
    have zm := HA.out.fro
    have z0 := HZ.out.fro
    go_wp2_with fail
    refine bodyPost_ret (v := stV ⟨⟨5, nm, (tk ts (i + 2)).text, 0, 0, [], [], []⟩, .slice none 0 0, .slice none 0 0, .slice none 0 0⟩) ?_ rfl ?_
    · simp [results, Tryz.results122, go_sem, n0, n1, n2, n3, n4, n5, n6, n7, z0, stV, str_nil]
    · exact fin8 HS.out HZ.out (Nat.le_refl _) ⟨⟨5, nm, (tk ts (i + 2)).text, 0, 0, [], [], []⟩, .slice none 0 0, .slice none 0 0, .slice none 0 0⟩ (SxR.nil _ _ _ rfl rfl rfl) (Fresh.nil _ _) (by simp)
  refine (skip_no (s := kGet) HS.out.pb hi h1).mono ?_
  rintro e y1 ⟨rfl, hb1⟩
  have HR : Hid (_ = R) := (if_neg h1).symm.trans HR.out
  have HS : Hid (ST B ts w vs XS bp a c i vd vs ve d [] E y1) := HS.out.bel hb1
  have HZ : Hid _ := HZ.out.bel hb1
  have HA : Hid _ := HA.out.bel hb1
  clear hb1
  go_wp2_with fail
  by_cases h1p : (tk ts i).text = kPut
  · refine (skip_yes (s := kPut) HS.out.pb hi h1p).mono ?_
    rintro e y2 ⟨rfl, hp1, hk1⟩
    have HR : Hid (_ = R) := (if_pos h1p).symm.trans HR.out
    have HS : Hid (ST B ts w vs XS bp a c (i + 1) vd vs ve d [] E y2) := HS.out.tok hp1 hk1
    have HZ : Hid _ := HZ.out.ks (Ks.of1 hk1)
    have HA : Hid _ := HA.out.ks (Ks.of1 hk1)
    clear hp1 hk1
    have hi1 : i + 1 < ts.length := G.ht i (by rw [h1p]; decide)
    have m0 := HA.out.cel 0 _ rfl
    have m1 := HA.out.cel 1 _ rfl
    have m2 := HA.out.cel 2 _ rfl
    have m3 := HA.out.cel 3 _ rfl
    have m4 := HA.out.cel 4 _ rfl
    have m5 := HA.out.cel 5 _ rfl
    have m6 := HA.out.cel 6 _ rfl
    have m7 := HA.out.cel 7 _ rfl
    have zm := HA.out.fro
    obtain ⟨Y3, hY3⟩ : ∃ Y3, y2.setCell ⟨W0.heap.size, 0, none⟩ (.int .i64 6) = Y3 := ⟨_, rfl⟩
    have HS : Hid (ST B ts w vs XS bp a c (i + 1) vd vs ve d [] E Y3) := by show ST _ _ _ _ _ _ _ _ _ _ _ _ _ _ _ _; rw [← hY3]; exact HS.out.box HA.out (Nat.le_refl _) _
    have HZ : Hid (SB Y3 vs w.heap.size w.heap.size [.int .i64 0, .string { data := #[] }, .string { data := #[] }, .int .i64 0, .int .i64 0, .slice none 0 0, .slice none 0 0, .slice none 0 0]) := by show SB _ _ _ _ _; rw [← hY3]; exact HZ.out.far HNE.out _
    have HA : Hid (SB Y3 vs w.heap.size W0.heap.size [.int .i64 6, .string (X.str nm), .string { data := #[] }, .int .i64 0, .int .i64 0, .slice none 0 0, .slice none 0 0, .slice none 0 0]) := by show SB _ _ _ _ _; rw [← hY3]; exact HA.out.put 0 (.int .i64 6)
    go_wp2_with fail
    try rw [hY3]
    clear hY3 m0 m1 m2 m3 m4 m5 m6 m7 zm
    by_cases h2 : (tk ts (i + 1)).text = [40]
    rotate_left
    · refine (want_no (s := [40]) HS.out.pb hi1 h2).mono ?_
      rintro e y ⟨h3, hb3⟩
      obtain rfl : none = R := (if_neg h2).symm.trans HR.out
      have h3' : e = _ := h3
      subst h3'
      have HF : Hid (SOut B ts w bp a c vd vs XS d none _ y) := ⟨(HS.out.bel hb3).ks.kp, h3⟩
      clear h3 hb3 HS HR HZ HA
      go_wp2_with fail
      exact ⟨rfl, HF.out⟩
    refine (want_yes (s := [40]) HS.out.pb hi1 h2).mono ?_
    rintro e y4 ⟨rfl, hp1, hk1⟩
    have HR : Hid (_ = R) := (if_pos h2).symm.trans HR.out
    have HS : Hid (ST B ts w vs XS bp a c (i + 2) vd vs ve d [] E y4) := HS.out.tok hp1 hk1
    have HZ : Hid _ := HZ.out.ks (Ks.of1 hk1)
    have HA : Hid _ := HA.out.ks (Ks.of1 hk1)
    clear hp1 hk1
    have hi2 : i + 2 < ts.length := G.ht (i + 1) (by rw [h2]; simp)
    go_wp2_with fail
    by_cases h3n : (tk ts (i + 2)).kind = 2
    rotate_left
    · refine (name_no HS.out.pb hi2 h3n).mono ?_
      rintro e y ⟨h3, hb3⟩
      obtain rfl : none = R := (if_neg h3n).symm.trans HR.out
      have h3' : e = _ := h3
      subst h3'
      have HF : Hid (SOut B ts w bp a c vd vs XS d none _ y) := ⟨(HS.out.bel hb3).ks.kp, h3⟩
      clear h3 hb3 HS HR HZ HA
      go_wp2_with fail
      exact ⟨rfl, HF.out⟩
    refine (name_yes HS.out.pb hi2 h3n).mono ?_
    rintro e y5 ⟨rfl, hp1, hk1⟩
    have HR : Hid (_ = R) := (if_pos h3n).symm.trans HR.out
    have HS : Hid (ST B ts w vs XS bp a c (i + 3) vd vs ve d [] E y5) := HS.out.tok hp1 hk1
    have HZ : Hid _ := HZ.out.ks (Ks.of1 hk1)
    have HA : Hid _ := HA.out.ks (Ks.of1 hk1)
    clear hp1 hk1
    have hi3 : i + 3 < ts.length := G.hk (i + 2) (by rw [h3n]; decide)
    have m0 := HA.out.cel 0 _ rfl
    have m1 := HA.out.cel 1 _ rfl
    have m2 := HA.out.cel 2 _ rfl
    have m3 := HA.out.cel 3 _ rfl
    have m4 := HA.out.cel 4 _ rfl
    have m5 := HA.out.cel 5 _ rfl
    have m6 := HA.out.cel 6 _ rfl
    have m7 := HA.out.cel 7 _ rfl
    have zm := HA.out.fro
    obtain ⟨Y6, hY6⟩ : ∃ Y6, y5.setCell ⟨W0.heap.size, 2, none⟩ (.string (X.str (tk ts (i + 2)).text)) = Y6 := ⟨_, rfl⟩
    have HS : Hid (ST B ts w vs XS bp a c (i + 3) vd vs ve d [] E Y6) := by show ST _ _ _ _ _ _ _ _ _ _ _ _ _ _ _ _; rw [← hY6]; exact HS.out.box HA.out (Nat.le_refl _) _
    have HZ : Hid (SB Y6 vs w.heap.size w.heap.size [.int .i64 0, .string { data := #[] }, .string { data := #[] }, .int .i64 0, .int .i64 0, .slice none 0 0, .slice none 0 0, .slice none 0 0]) := by show SB _ _ _ _ _; rw [← hY6]; exact HZ.out.far HNE.out _
    have HA : Hid (SB Y6 vs w.heap.size W0.heap.size [.int .i64 6, .string (X.str nm), .string (X.str (tk ts (i + 2)).text), .int .i64 0, .int .i64 0, .slice none 0 0, .slice none 0 0, .slice none 0 0]) := by show SB _ _ _ _ _; rw [← hY6]; exact HA.out.put 2 (.string (X.str (tk ts (i + 2)).text))
    go_wp2_with fail
    try rw [hY6]
    clear hY6 m0 m1 m2 m3 m4 m5 m6 m7 zm
    by_cases h4n : (tk ts (i + 3)).text = [44]
    rotate_left
    · refine (want_no (s := [44]) HS.out.pb hi3 h4n).mono ?_
      rintro e y ⟨h3, hb3⟩
      obtain rfl : none = R := (if_neg h4n).symm.trans HR.out
      have h3' : e = _ := h3
      subst h3'
      have HF : Hid (SOut B ts w bp a c vd vs XS d none _ y) := ⟨(HS.out.bel hb3).ks.kp, h3⟩
      clear h3 hb3 HS HR HZ HA
      go_wp2_with fail
      exact ⟨rfl, HF.out⟩
    refine (want_yes (s := [44]) HS.out.pb hi3 h4n).mono ?_
    rintro e y7 ⟨rfl, hp1, hk1⟩
    have HR : Hid (_ = R) := (if_pos h4n).symm.trans HR.out
    have HS : Hid (ST B ts w vs XS bp a c (i + 4) vd vs ve d [] E y7) := HS.out.tok hp1 hk1
    have HZ : Hid _ := HZ.out.ks (Ks.of1 hk1)
    have HA : Hid _ := HA.out.ks (Ks.of1 hk1)
    clear hp1 hk1
    have hi4 : i + 4 < ts.length := G.ht (i + 3) (by rw [h4n]; simp)
    have HC : Hid (Calls Tryz.prog 143 #[.pointer (some ⟨bp, 0, none⟩)] y7 (EOut B ts y7 bp a c vd vs d (Bin ts 1 d (i + 4) E))) := exp_full G hB hi4 HS.out.px hd (by omega) (HE.out _ HS.out.ks.kp)
    go_wp2_with fail
    refine Calls.mono HC.out ?_
    intro e y hy
    have HY : Hid (EOut B ts y7 bp a c vd vs d (Bin ts 1 d (i + 4) E) e y) := hy
    clear hy HC
    cases hr : Bin ts 1 d (i + 4) E with
    | none =>
      have h2 := HY.out
      rw [hr] at h2
      obtain ⟨hk, h3⟩ := h2
      have hR1 := HR.out
      rw [hr] at hR1
      obtain rfl : none = R := hR1
      have h3' : e = _ := h3
      subst h3'
      have HF : Hid (SOut B ts w bp a c vd vs XS d none _ y) := ⟨HS.out.ks.kp.trans (hk.wide (by decide)), h3⟩
      clear h3 HY hk hr HS HR HZ HA
      go_wp2_with fail
      exact ⟨rfl, HF.out⟩
    | some r =>
      obtain ⟨x, j, E'⟩ := r
      have hlen := Bin_len G (Nat.le_refl _) hr
      have h2 := HY.out
      rw [hr] at h2
      obtain ⟨hk, rfl, hx⟩ := h2
      have hR1 := HR.out
      rw [hr, Option.bind_some] at hR1
      dsimp only at hR1
      have HR : Hid _ := hR1
      obtain ⟨ve2, hs2⟩ := HS.out.exp hk hx
      have HS : Hid (ST B ts w vs XS bp a c j vd vs ve2 d [] E' y) := hs2
      have HZ : Hid _ := HZ.out.ks (Ks.of2 hk)
      have HA : Hid _ := HA.out.ks (Ks.of2 hk)
      clear hs2 hk hx hR1 HY hr
      have m0 := HA.out.cel 0 _ rfl
      have m1 := HA.out.cel 1 _ rfl
      have m2 := HA.out.cel 2 _ rfl
      have m3 := HA.out.cel 3 _ rfl
      have m4 := HA.out.cel 4 _ rfl
      have m5 := HA.out.cel 5 _ rfl
      have m6 := HA.out.cel 6 _ rfl
      have m7 := HA.out.cel 7 _ rfl
      have zm := HA.out.fro
      obtain ⟨Y8, hY8⟩ : ∃ Y8, y.setCell ⟨W0.heap.size, 3, none⟩ (.int .i64 (x : Int)) = Y8 := ⟨_, rfl⟩
      have HS : Hid (ST B ts w vs XS bp a c j vd vs ve2 d [] E' Y8) := by show ST _ _ _ _ _ _ _ _ _ _ _ _ _ _ _ _; rw [← hY8]; exact HS.out.box HA.out (Nat.le_refl _) _
      have HZ : Hid (SB Y8 vs w.heap.size w.heap.size [.int .i64 0, .string { data := #[] }, .string { data := #[] }, .int .i64 0, .int .i64 0, .slice none 0 0, .slice none 0 0, .slice none 0 0]) := by show SB _ _ _ _ _; rw [← hY8]; exact HZ.out.far HNE.out _
      have HA : Hid (SB Y8 vs w.heap.size W0.heap.size [.int .i64 6, .string (X.str nm), .string (X.str (tk ts (i + 2)).text), .int .i64 (x : Int), .int .i64 0, .slice none 0 0, .slice none 0 0, .slice none 0 0]) := by show SB _ _ _ _ _; rw [← hY8]; exact HA.out.put 3 (.int .i64 (x : Int))
      go_wp2_with fail
      try rw [hY8]
      clear hY8 m0 m1 m2 m3 m4 m5 m6 m7 zm
      have hR1 := HR.out
      unfold fin at hR1
      have HR : Hid _ := hR1
      clear hR1
      by_cases h8 : (tk ts j).text = [41]
      rotate_left
      · refine (want_no (s := [41]) HS.out.pb hlen.2.1 h8).mono ?_
        rintro e y ⟨h3, hb3⟩
        obtain rfl : none = R := (if_neg h8).symm.trans HR.out
        have h3' : e = _ := h3
        subst h3'
        have HF : Hid (SOut B ts w bp a c vd vs XS d none _ y) := ⟨(HS.out.bel hb3).ks.kp, h3⟩
        clear h3 hb3 HS HR HZ HA
        go_wp2_with fail
        exact ⟨rfl, HF.out⟩
      refine (want_yes (s := [41]) HS.out.pb hlen.2.1 h8).mono ?_
      rintro e y9 ⟨rfl, hp1, hk1⟩
      have HR : Hid (_ = R) := (if_pos h8).symm.trans HR.out
      have HS : Hid (ST B ts w vs XS bp a c (j + 1) vd vs ve2 d [] E' y9) := HS.out.tok hp1 hk1
      have HZ : Hid _ := HZ.out.ks (Ks.of1 hk1)
      have HA : Hid _ := HA.out.ks (Ks.of1 hk1)
      clear hp1 hk1
      have hj2 : (j + 1) < ts.length := G.ht _ (by rw [h8]; simp)
      go_wp2_with fail
      by_cases h9 : (tk ts (j + 1)).text = [59]
      rotate_left
      · refine (want_no (s := [59]) HS.out.pb hj2 h9).mono ?_
        rintro e y ⟨h3, hb3⟩
        obtain rfl : none = R := (if_neg h9).symm.trans HR.out
        have h3' : e = _ := h3
        subst h3'
        have HF : Hid (SOut B ts w bp a c vd vs XS d none _ y) := ⟨(HS.out.bel hb3).ks.kp, h3⟩
        clear h3 hb3 HS HR HZ HA
        go_wp2_with fail
        exact ⟨rfl, HF.out⟩
      refine (want_yes (s := [59]) HS.out.pb hj2 h9).mono ?_
      rintro e y10 ⟨rfl, hp1, hk1⟩
      have HR : Hid (_ = R) := (if_pos h9).symm.trans HR.out
      have HS : Hid (ST B ts w vs XS bp a c (j + 2) vd vs ve2 d [] E' y10) := HS.out.tok hp1 hk1
      have HZ : Hid _ := HZ.out.ks (Ks.of1 hk1)
      have HA : Hid _ := HA.out.ks (Ks.of1 hk1)
      clear hp1 hk1
      obtain rfl : _ = R := HR.out
      have m0 := HA.out.cel 0 _ rfl
      have m1 := HA.out.cel 1 _ rfl
      have m2 := HA.out.cel 2 _ rfl
      have m3 := HA.out.cel 3 _ rfl
      have m4 := HA.out.cel 4 _ rfl
      have m5 := HA.out.cel 5 _ rfl
      have m6 := HA.out.cel 6 _ rfl
      have m7 := HA.out.cel 7 _ rfl
      have n0 := HZ.out.cel 0 _ rfl
      have n1 := HZ.out.cel 1 _ rfl
      have n2 := HZ.out.cel 2 _ rfl
      have n3 := HZ.out.cel 3 _ rfl
      have n4 := HZ.out.cel 4 _ rfl
      have n5 := HZ.out.cel 5 _ rfl
      have n6 := HZ.out.cel 6 _ rfl
      have n7 := HZ.out.cel 7 _ rfl
      have zm := HA.out.fro
      have z0 := HZ.out.fro
      go_wp2_with fail
      refine bodyPost_ret (v := stV ⟨⟨6, nm, (tk ts (i + 2)).text, (x : Int), 0, [], [], []⟩, .slice none 0 0, .slice none 0 0, .slice none 0 0⟩) ?_ rfl ?_
      · simp [results, Tryz.results122, go_sem, n0, n1, n2, n3, n4, n5, n6, n7, z0, stV, str_nil]
      · exact fin8 HS.out HZ.out (Nat.le_refl _) ⟨⟨6, nm, (tk ts (i + 2)).text, (x : Int), 0, [], [], []⟩, .slice none 0 0, .slice none 0 0, .slice none 0 0⟩ (SxR.nil _ _ _ rfl rfl rfl) (Fresh.nil _ _) (by simp)
  refine (skip_no (s := kPut) HS.out.pb hi h1p).mono ?_
  rintro e y2 ⟨rfl, hb1⟩
  have HR : Hid (_ = R) := (if_neg h1p).symm.trans HR.out
  have HS : Hid (ST B ts w vs XS bp a c i vd vs ve d [] E y2) := HS.out.bel hb1
  have HZ : Hid _ := HZ.out.bel hb1
  have HA : Hid _ := HA.out.bel hb1
  clear hb1
  have m0 := HA.out.cel 0 _ rfl
  have m1 := HA.out.cel 1 _ rfl
  have m2 := HA.out.cel 2 _ rfl
  have m3 := HA.out.cel 3 _ rfl
  have m4 := HA.out.cel 4 _ rfl
  have m5 := HA.out.cel 5 _ rfl
  have m6 := HA.out.cel 6 _ rfl
  have m7 := HA.out.cel 7 _ rfl
  have zm := HA.out.fro
  obtain ⟨Y3, hY3⟩ : ∃ Y3, y2.setCell ⟨W0.heap.size, 0, none⟩ (.int .i64 4) = Y3 := ⟨_, rfl⟩
  have HS : Hid (ST B ts w vs XS bp a c i vd vs ve d [] E Y3) := by show ST _ _ _ _ _ _ _ _ _ _ _ _ _ _ _ _; rw [← hY3]; exact HS.out.box HA.out (Nat.le_refl _) _
  have HZ : Hid (SB Y3 vs w.heap.size w.heap.size [.int .i64 0, .string { data := #[] }, .string { data := #[] }, .int .i64 0, .int .i64 0, .slice none 0 0, .slice none 0 0, .slice none 0 0]) := by show SB _ _ _ _ _; rw [← hY3]; exact HZ.out.far HNE.out _
  have HA : Hid (SB Y3 vs w.heap.size W0.heap.size [.int .i64 4, .string (X.str nm), .string { data := #[] }, .int .i64 0, .int .i64 0, .slice none 0 0, .slice none 0 0, .slice none 0 0]) := by show SB _ _ _ _ _; rw [← hY3]; exact HA.out.put 0 (.int .i64 4)
  go_wp2_with fail
  try rw [hY3]
  clear hY3 m0 m1 m2 m3 m4 m5 m6 m7 zm
  by_cases h3n : (tk ts i).kind = 2
  rotate_left
  · refine (name_no HS.out.pb hi h3n).mono ?_
    rintro e y ⟨h3, hb3⟩
    obtain rfl : none = R := (if_neg h3n).symm.trans HR.out
    have h3' : e = _ := h3
    subst h3'
    have HF : Hid (SOut B ts w bp a c vd vs XS d none _ y) := ⟨(HS.out.bel hb3).ks.kp, h3⟩
    clear h3 hb3 HS HR HZ HA
    go_wp2_with fail
    exact ⟨rfl, HF.out⟩
  refine (name_yes HS.out.pb hi h3n).mono ?_
  rintro e y4 ⟨rfl, hp1, hk1⟩
  have HR : Hid (_ = R) := (if_pos h3n).symm.trans HR.out
  have HS : Hid (ST B ts w vs XS bp a c (i + 1) vd vs ve d [] E y4) := HS.out.tok hp1 hk1
  have HZ : Hid _ := HZ.out.ks (Ks.of1 hk1)
  have HA : Hid _ := HA.out.ks (Ks.of1 hk1)
  clear hp1 hk1
  have hi1 : i + 1 < ts.length := G.hk i (by rw [h3n]; decide)
  have m0 := HA.out.cel 0 _ rfl
  have m1 := HA.out.cel 1 _ rfl
  have m2 := HA.out.cel 2 _ rfl
  have m3 := HA.out.cel 3 _ rfl
  have m4 := HA.out.cel 4 _ rfl
  have m5 := HA.out.cel 5 _ rfl
  have m6 := HA.out.cel 6 _ rfl
  have m7 := HA.out.cel 7 _ rfl
  have zm := HA.out.fro
  obtain ⟨Y5, hY5⟩ : ∃ Y5, y4.setCell ⟨W0.heap.size, 2, none⟩ (.string (X.str (tk ts i).text)) = Y5 := ⟨_, rfl⟩
  have HS : Hid (ST B ts w vs XS bp a c (i + 1) vd vs ve d [] E Y5) := by show ST _ _ _ _ _ _ _ _ _ _ _ _ _ _ _ _; rw [← hY5]; exact HS.out.box HA.out (Nat.le_refl _) _
  have HZ : Hid (SB Y5 vs w.heap.size w.heap.size [.int .i64 0, .string { data := #[] }, .string { data := #[] }, .int .i64 0, .int .i64 0, .slice none 0 0, .slice none 0 0, .slice none 0 0]) := by show SB _ _ _ _ _; rw [← hY5]; exact HZ.out.far HNE.out _
  have HA : Hid (SB Y5 vs w.heap.size W0.heap.size [.int .i64 4, .string (X.str nm), .string (X.str (tk ts i).text), .int .i64 0, .int .i64 0, .slice none 0 0, .slice none 0 0, .slice none 0 0]) := by show SB _ _ _ _ _; rw [← hY5]; exact HA.out.put 2 (.string (X.str (tk ts i).text))
  go_wp2_with fail
  try rw [hY5]
  clear hY5 m0 m1 m2 m3 m4 m5 m6 m7 zm
  by_cases h2 : (tk ts (i + 1)).text = [40]
  rotate_left
  · refine (want_no (s := [40]) HS.out.pb hi1 h2).mono ?_
    rintro e y ⟨h3, hb3⟩
    obtain rfl : none = R := (if_neg h2).symm.trans HR.out
    have h3' : e = _ := h3
    subst h3'
    have HF : Hid (SOut B ts w bp a c vd vs XS d none _ y) := ⟨(HS.out.bel hb3).ks.kp, h3⟩
    clear h3 hb3 HS HR HZ HA
    go_wp2_with fail
    exact ⟨rfl, HF.out⟩
  refine (want_yes (s := [40]) HS.out.pb hi1 h2).mono ?_
  rintro e y6 ⟨rfl, hp1, hk1⟩
  have HR : Hid (_ = R) := (if_pos h2).symm.trans HR.out
  have HS : Hid (ST B ts w vs XS bp a c (i + 2) vd vs ve d [] E y6) := HS.out.tok hp1 hk1
  have HZ : Hid _ := HZ.out.ks (Ks.of1 hk1)
  have HA : Hid _ := HA.out.ks (Ks.of1 hk1)
  clear hp1 hk1
  have hi2 : i + 2 < ts.length := G.ht (i + 1) (by rw [h2]; simp)
  have HC : Hid (Calls Tryz.prog 145 #[.pointer (some ⟨bp, 0, none⟩)] y6 (AOut B ts y6 bp a c vd vs d (ag ts d (i + 2) E))) := args_any (ve := ve) (XS := XS) G hB hi2 HS.out.px hd (by omega) (HE.out _ HS.out.ks.kp)
  go_wp2_with fail
  refine Calls.mono HC.out ?_
  intro e y hy
  have HY : Hid (AOut B ts y6 bp a c vd vs d (ag ts d (i + 2) E) e y) := hy
  clear hy HC
  cases hr : ag ts d (i + 2) E with
  | none =>
    have h2 := HY.out
    rw [hr] at h2
    obtain ⟨hk, h3⟩ := h2
    have hR1 := HR.out
    rw [hr] at hR1
    obtain rfl : none = R := hR1
    have h3' : e = _ := h3
    subst h3'
    have HF : Hid (SOut B ts w bp a c vd vs XS d none _ y) := ⟨HS.out.ks.kp.trans (hk.wide (by decide)), h3⟩
    clear h3 HY hk hr HS HR HZ HA
    go_wp2_with fail
    exact ⟨rfl, HF.out⟩
  | some r =>
    obtain ⟨l, j, E'⟩ := r
    have hlen := ag_len G hi2 hr
    have h2 := HY.out
    rw [hr] at h2
    obtain ⟨hk, a', c', rfl, hrow, hx⟩ := h2
    have hR1 := HR.out
    rw [hr, Option.bind_some] at hR1
    dsimp only at hR1
    have HR : Hid _ := hR1
    have HV : Hid (y.ownsRow w.heap.size 3 1 (.slice a' l.length c') l.length (l.map iZ)) := row_low hrow HS.out.ks.kp.low.size
    have HBW : Hid (B ≤ w.heap.size) := HS.out.le0
    obtain ⟨ve2, hs2⟩ := HS.out.exp hk hx
    have HS : Hid (ST B ts w vs XS bp a c j vd vs ve2 d [] E' y) := hs2
    have HZ : Hid _ := HZ.out.ks (Ks.of2 hk)
    have HA : Hid _ := HA.out.ks (Ks.of2 hk)
    clear hs2 hk hx hR1 HY hr hrow
    have m0 := HA.out.cel 0 _ rfl
    have m1 := HA.out.cel 1 _ rfl
    have m2 := HA.out.cel 2 _ rfl
    have m3 := HA.out.cel 3 _ rfl
    have m4 := HA.out.cel 4 _ rfl
    have m5 := HA.out.cel 5 _ rfl
    have m6 := HA.out.cel 6 _ rfl
    have m7 := HA.out.cel 7 _ rfl
    have zm := HA.out.fro
    obtain ⟨Y7, hY7⟩ : ∃ Y7, y.setCell ⟨W0.heap.size, 5, none⟩ (.slice a' l.length c') = Y7 := ⟨_, rfl⟩
    have HS : Hid (ST B ts w vs XS bp a c j vd vs ve2 d [] E' Y7) := by show ST _ _ _ _ _ _ _ _ _ _ _ _ _ _ _ _; rw [← hY7]; exact HS.out.box HA.out (Nat.le_refl _) _
    have HZ : Hid (SB Y7 vs w.heap.size w.heap.size [.int .i64 0, .string { data := #[] }, .string { data := #[] }, .int .i64 0, .int .i64 0, .slice none 0 0, .slice none 0 0, .slice none 0 0]) := by show SB _ _ _ _ _; rw [← hY7]; exact HZ.out.far HNE.out _
    have HV := row_far (k := 5) (u := .slice a' l.length c') HV.out (row_ne HV.out HA.out.blk (by decide))
    rw [hY7] at HV
    have HV : Hid _ := HV
    have HA : Hid (SB Y7 vs w.heap.size W0.heap.size [.int .i64 4, .string (X.str nm), .string (X.str (tk ts i).text), .int .i64 0, .int .i64 0, .slice a' l.length c', .slice none 0 0, .slice none 0 0]) := by show SB _ _ _ _ _; rw [← hY7]; exact HA.out.put 5 (.slice a' l.length c')
    go_wp2_with fail
    try rw [hY7]
    clear hY7 m0 m1 m2 m3 m4 m5 m6 m7 zm
    have hR1 := HR.out
    unfold fin at hR1
    have HR : Hid _ := hR1
    clear hR1
    by_cases h8 : (tk ts j).text = [41]
    rotate_left
    · refine (want_no (s := [41]) HS.out.pb hlen.2.1 h8).mono ?_
      rintro e y ⟨h3, hb3⟩
      obtain rfl : none = R := (if_neg h8).symm.trans HR.out
      have h3' : e = _ := h3
      subst h3'
      have HF : Hid (SOut B ts w bp a c vd vs XS d none _ y) := ⟨(HS.out.bel hb3).ks.kp, h3⟩
      clear h3 hb3 HS HR HZ HA HV
      go_wp2_with fail
      exact ⟨rfl, HF.out⟩
    refine (want_yes (s := [41]) HS.out.pb hlen.2.1 h8).mono ?_
    rintro e y8 ⟨rfl, hp1, hk1⟩
    have HR : Hid (_ = R) := (if_pos h8).symm.trans HR.out
    have HS : Hid (ST B ts w vs XS bp a c (j + 1) vd vs ve2 d [] E' y8) := HS.out.tok hp1 hk1
    have HZ : Hid _ := HZ.out.ks (Ks.of1 hk1)
    have HA : Hid _ := HA.out.ks (Ks.of1 hk1)
    have HV : Hid _ := row_kp HV.out hk1 (by decide)
    clear hp1 hk1
    have hj2 : (j + 1) < ts.length := G.ht _ (by rw [h8]; simp)
    go_wp2_with fail
    by_cases h9 : (tk ts (j + 1)).text = [59]
    rotate_left
    · refine (want_no (s := [59]) HS.out.pb hj2 h9).mono ?_
      rintro e y ⟨h3, hb3⟩
      obtain rfl : none = R := (if_neg h9).symm.trans HR.out
      have h3' : e = _ := h3
      subst h3'
      have HF : Hid (SOut B ts w bp a c vd vs XS d none _ y) := ⟨(HS.out.bel hb3).ks.kp, h3⟩
      clear h3 hb3 HS HR HZ HA HV
      go_wp2_with fail
      exact ⟨rfl, HF.out⟩
    refine (want_yes (s := [59]) HS.out.pb hj2 h9).mono ?_
    rintro e y9 ⟨rfl, hp1, hk1⟩
    have HR : Hid (_ = R) := (if_pos h9).symm.trans HR.out
    have HS : Hid (ST B ts w vs XS bp a c (j + 2) vd vs ve2 d [] E' y9) := HS.out.tok hp1 hk1
    have HZ : Hid _ := HZ.out.ks (Ks.of1 hk1)
    have HA : Hid _ := HA.out.ks (Ks.of1 hk1)
    have HV : Hid _ := row_kp HV.out hk1 (by decide)
    clear hp1 hk1
    obtain rfl : _ = R := HR.out
    have m0 := HA.out.cel 0 _ rfl
    have m1 := HA.out.cel 1 _ rfl
    have m2 := HA.out.cel 2 _ rfl
    have m3 := HA.out.cel 3 _ rfl
    have m4 := HA.out.cel 4 _ rfl
    have m5 := HA.out.cel 5 _ rfl
    have m6 := HA.out.cel 6 _ rfl
    have m7 := HA.out.cel 7 _ rfl
    have n0 := HZ.out.cel 0 _ rfl
    have n1 := HZ.out.cel 1 _ rfl
    have n2 := HZ.out.cel 2 _ rfl
    have n3 := HZ.out.cel 3 _ rfl
    have n4 := HZ.out.cel 4 _ rfl
    have n5 := HZ.out.cel 5 _ rfl
    have n6 := HZ.out.cel 6 _ rfl
    have n7 := HZ.out.cel 7 _ rfl
    have zm := HA.out.fro
    have z0 := HZ.out.fro
    go_wp2_with fail
    refine bodyPost_ret (v := stV ⟨⟨4, nm, (tk ts i).text, 0, 0, l, [], []⟩, .slice a' l.length c', .slice none 0 0, .slice none 0 0⟩) ?_ rfl ?_
    · simp [results, Tryz.results122, go_sem, n0, n1, n2, n3, n4, n5, n6, n7, z0, stV, str_nil]
    · exact fin8 HS.out HZ.out (Nat.le_refl _) ⟨⟨4, nm, (tk ts i).text, 0, 0, l, [], []⟩, .slice a' l.length c', .slice none 0 0, .slice none 0 0⟩ (⟨row_low HV.out HBW.out, World.ownsRow_nil _ _ _ _, World.ownsRow_nil _ _ _ _⟩) (fun b hb => by rcases hb with hb | hb | hb; exact (World.ownsRow.lt (e := 3) (size := 1) HV.out b hb).1; cases hb; cases hb) (by simp)
set_option maxRecDepth 100000 in
set_option maxHeartbeats 2000000 in
theorem set_any {B : Nat} {ts : List X.Tok} {bp : Nat} {a : Option Addr} {c : Nat} {vd vs ve : Value} {XS : List Sx} (G : Good ts) (hB : 8 ≤ B) {i : Nat} (hi : i < ts.length) {w : World} {d : Nat} {E : List Exp} (h : ST B ts w vs XS bp a c i vd vs ve d [] E w) (hd : d ≤ 20) (hl : E.length ≤ i) (he : Env w) : Calls Tryz.prog 123 #[.pointer (some ⟨bp, 0, none⟩)] w (SOut B ts w bp a c vd vs XS d (setS ts d i E (XS.map (·.s)))) := by
  obtain ⟨R, hR⟩ : ∃ R, setS ts d i E (XS.map (·.s)) = R := ⟨_, rfl⟩
  have hR0 := hR
  unfold setS at hR0
  have HR : Hid _ := hR0
  rw [hR]
  clear hR hR0
  obtain ⟨W0, hW0⟩ : ∃ W0, w.alloc (.cells #[.int .i64 0, .string { data := #[] }, .string { data := #[] }, .int .i64 0, .int .i64 0, .slice none 0 0, .slice none 0 0, .slice none 0 0] 35) = W0 := ⟨_, rfl⟩
  have HS : Hid (ST B ts w vs XS bp a c i vd vs ve d [] E W0) := by show ST _ _ _ _ _ _ _ _ _ _ _ _ _ _ _ _; rw [← hW0]; exact h.bel (bl1 _ _)
  have HZ : Hid (SB W0 vs w.heap.size w.heap.size [.int .i64 0, .string { data := #[] }, .string { data := #[] }, .int .i64 0, .int .i64 0, .slice none 0 0, .slice none 0 0, .slice none 0 0]) := by show SB _ _ _ _ _; rw [← hW0]; exact SB.new h (Nat.le_refl _)
  have HE : Hid (∀ y, Kp T3 B w y → Env y) := fun y hy => he.kp hy hB
  have HW0 : Hid (w.alloc (.cells #[.int .i64 0, .string { data := #[] }, .string { data := #[] }, .int .i64 0, .int .i64 0, .slice none 0 0, .slice none 0 0, .slice none 0 0] 35) = W0) := hW0
  have hN := G.len
  clear h he hW0
  go_enter Tryz.func123, Tryz.ntmps123
  go_wp2_with fail
  rw [HW0.out]
  clear HW0
  by_cases h1 : (tk ts i).kind = 2
  rotate_left
  · refine (name_no HS.out.pb hi h1).mono ?_
    rintro e y ⟨h3, hb3⟩
    obtain rfl : none = R := (if_neg h1).symm.trans HR.out
    have h3' : e = _ := h3
    subst h3'
    have HF : Hid (SOut B ts w bp a c vd vs XS d none _ y) := ⟨(HS.out.bel hb3).ks.kp, h3⟩
    clear h3 hb3 HS HR HZ
    go_wp2_with fail
    exact ⟨rfl, HF.out⟩
  refine (name_yes HS.out.pb hi h1).mono ?_
  rintro e y1 ⟨rfl, hp1, hk1⟩
  have HR : Hid (_ = R) := (if_pos h1).symm.trans HR.out
  have HS : Hid (ST B ts w vs XS bp a c (i + 1) vd vs ve d [] E y1) := HS.out.tok hp1 hk1
  have HZ : Hid _ := HZ.out.ks (Ks.of1 hk1)
  clear hp1 hk1
  have hi1 : i + 1 < ts.length := G.hk i (by rw [h1]; decide)
  obtain ⟨nm, hnm⟩ : ∃ nm, (tk ts i).text = nm := ⟨_, rfl⟩
  have hR1 := HR.out
  rw [hnm] at hR1
  have HR : Hid _ := hR1
  rw [hnm]
  clear hR1 hnm
  go_wp2_with fail
  by_cases h2 : (tk ts (i + 1)).text = [91]
  · refine (is_yes (s := [91]) HS.out.pb hi1 h2).mono ?_
    rintro e y2 ⟨rfl, hb1⟩
    have HR : Hid (_ = R) := (if_pos h2).symm.trans HR.out
    have HS : Hid (ST B ts w vs XS bp a c (i + 1) vd vs ve d [] E y2) := HS.out.bel hb1
    have HZ : Hid _ := HZ.out.bel hb1
    clear hb1
    have HC : Hid (Calls Tryz.prog 146 #[.pointer (some ⟨bp, 0, none⟩)] y2 (EOut B ts y2 bp a c vd vs d (Ix ts d (i + 1) E))) := index_full G hB HS.out.px h2 hd (by omega) (HE.out _ HS.out.ks.kp)
    go_wp2_with fail
    refine Calls.mono HC.out ?_
    intro e y hy
    have HY : Hid (EOut B ts y2 bp a c vd vs d (Ix ts d (i + 1) E) e y) := hy
    clear hy HC
    cases hr : Ix ts d (i + 1) E with
    | none =>
      have h2 := HY.out
      rw [hr] at h2
      obtain ⟨hk, h3⟩ := h2
      have hR1 := HR.out
      rw [hr] at hR1
      obtain rfl : none = R := hR1
      have h3' : e = _ := h3
      subst h3'
      have HF : Hid (SOut B ts w bp a c vd vs XS d none _ y) := ⟨HS.out.ks.kp.trans (hk.wide (by decide)), h3⟩
      clear h3 HY hk hr HS HR HZ
      go_wp2_with fail
      exact ⟨rfl, HF.out⟩
    | some r =>
      obtain ⟨x, j, E'⟩ := r
      have hlen := Ix_len G hi1 hr
      have h2 := HY.out
      rw [hr] at h2
      obtain ⟨hk, rfl, hx⟩ := h2
      have hR1 := HR.out
      rw [hr, Option.bind_some] at hR1
      dsimp only at hR1
      have HR : Hid _ := hR1
      obtain ⟨ve2, hs2⟩ := HS.out.exp hk hx
      have HS : Hid (ST B ts w vs XS bp a c j vd vs ve2 d [] E' y) := hs2
      have HZ : Hid _ := HZ.out.ks (Ks.of2 hk)
      clear hs2 hk hx hR1 HY hr
      obtain ⟨W1, hW1⟩ : ∃ W1, y.alloc (.cells #[.int .i64 3, .string (X.str nm), .string { data := #[] }, .int .i64 0, .int .i64 (x : Int), .slice none 0 0, .slice none 0 0, .slice none 0 0] 35) = W1 := ⟨_, rfl⟩
      have HA : Hid (SB W1 vs w.heap.size y.heap.size [.int .i64 3, .string (X.str nm), .string { data := #[] }, .int .i64 0, .int .i64 (x : Int), .slice none 0 0, .slice none 0 0, .slice none 0 0]) := by show SB _ _ _ _ _; rw [← hW1]; exact SB.new HS.out HS.out.ks.kp.low.size
      have HZ : Hid (SB W1 vs w.heap.size w.heap.size [.int .i64 0, .string { data := #[] }, .string { data := #[] }, .int .i64 0, .int .i64 0, .slice none 0 0, .slice none 0 0, .slice none 0 0]) := by show SB _ _ _ _ _; rw [← hW1]; exact HZ.out.bel (bl1 _ _)
      have HS : Hid (ST B ts w vs XS bp a c j vd vs ve2 d [] E' W1) := by show ST _ _ _ _ _ _ _ _ _ _ _ _ _ _ _ _; rw [← hW1]; exact HS.out.bel (bl1 _ _)
      have HW1 : Hid (y.alloc (.cells #[.int .i64 3, .string (X.str nm), .string { data := #[] }, .int .i64 0, .int .i64 (x : Int), .slice none 0 0, .slice none 0 0, .slice none 0 0] 35) = W1) := hW1
      clear hW1
      go_wp2_with fail
      rw [HW1.out]
      clear HW1
      by_cases h5 : (tk ts j).text = [61]
      rotate_left
      · refine (want_no (s := [61]) HS.out.pb hlen.2.1 h5).mono ?_
        rintro e y ⟨h3, hb3⟩
        obtain rfl : none = R := (if_neg h5).symm.trans HR.out
        have h3' : e = _ := h3
        subst h3'
        have HF : Hid (SOut B ts w bp a c vd vs XS d none _ y) := ⟨(HS.out.bel hb3).ks.kp, h3⟩
        clear h3 hb3 HS HR HZ HA
        go_wp2_with fail
        exact ⟨rfl, HF.out⟩
      refine (want_yes (s := [61]) HS.out.pb hlen.2.1 h5).mono ?_
      rintro e y3 ⟨rfl, hp1, hk1⟩
      have HR : Hid (_ = R) := (if_pos h5).symm.trans HR.out
      have HS : Hid (ST B ts w vs XS bp a c (j + 1) vd vs ve2 d [] E' y3) := HS.out.tok hp1 hk1
      have HZ : Hid _ := HZ.out.ks (Ks.of1 hk1)
      have HA : Hid _ := HA.out.ks (Ks.of1 hk1)
      clear hp1 hk1
      have hj1 : j + 1 < ts.length := G.ht j (by rw [h5]; simp)
      have m0 := HA.out.cel 0 _ rfl
      have m1 := HA.out.cel 1 _ rfl
      have m2 := HA.out.cel 2 _ rfl
      have m3 := HA.out.cel 3 _ rfl
      have m4 := HA.out.cel 4 _ rfl
      have m5 := HA.out.cel 5 _ rfl
      have m6 := HA.out.cel 6 _ rfl
      have m7 := HA.out.cel 7 _ rfl
      have HC : Hid (Calls Tryz.prog 118 #[.pointer (some ⟨bp, 0, none⟩), .agg #[.int .i64 3, .string (X.str nm), .string { data := #[] }, .int .i64 0, .int .i64 (x : Int), .slice none 0 0, .slice none 0 0, .slice none 0 0]] y3 (SOut B ts y3 bp a c vd vs XS d R)) := by
        rw [← HR.out]
        exact value_any G hB hj1 HS.out.base0 hd (by omega) (HE.out _ HS.out.ks.kp) ⟨3, nm, [], 0, (x : Int), [], [], []⟩ rfl rfl rfl
      go_wp2_with fail
      clear m0 m1 m2 m3 m4 m5 m6 m7
      refine Calls.mono HC.out ?_
      intro e y hy
      have HY : Hid (SOut B ts y3 bp a c vd vs XS d R e y) := hy
      clear hy HC HR
      cases R with
      | none =>
        have h3' : e = _ := HY.out.2
        subst h3'
        have HF : Hid (SOut B ts w bp a c vd vs XS d none _ y) := ⟨HS.out.ks.kp.trans HY.out.1, HY.out.2⟩
        clear HY HS HZ HA
        go_wp2_with fail
        exact ⟨rfl, HF.out⟩
      | some r =>
        obtain ⟨s0, j0, E0, S0⟩ := r
        obtain ⟨hk, vs', ve', N, ⟨s1, va1, vb1, vl1⟩, hst, hS, hs1, rfl, hrow, hfr⟩ := HY.out
        dsimp only at hs1
        subst hs1
        obtain ⟨aa, ca, ab, cb, al', cl', rfl, rfl, rfl⟩ := sxform hrow
        have HFR : Hid (SxR B y ⟨s1, .slice aa s1.args.length ca, .slice ab s1.body.length cb, .slice al' s1.els.length cl'⟩ ∧ Fresh w.heap.size ⟨s1, .slice aa s1.args.length ca, .slice ab s1.body.length cb, .slice al' s1.els.length cl'⟩ ∧ (XS ++ N).map (·.s) = S0) := ⟨hrow, hfr.mono HS.out.ks.kp.low.size, hS⟩
        have HZ : Hid _ := HZ.out.ks hst.ks
        have HS : Hid (ST B ts w vs XS bp a c j0 vd vs' ve' d N E0 y) := HS.out.call0 hst
        clear hk hst hS hrow hfr HY HA
        have n0 := HZ.out.cel 0 _ rfl
        have n1 := HZ.out.cel 1 _ rfl
        have n2 := HZ.out.cel 2 _ rfl
        have n3 := HZ.out.cel 3 _ rfl
        have n4 := HZ.out.cel 4 _ rfl
        have n5 := HZ.out.cel 5 _ rfl
        have n6 := HZ.out.cel 6 _ rfl
        have n7 := HZ.out.cel 7 _ rfl
        have z0 := HZ.out.fro
        unfold stV
        go_wp2_with fail
        refine bodyPost_ret (v := stV ⟨s1, .slice aa s1.args.length ca, .slice ab s1.body.length cb, .slice al' s1.els.length cl'⟩) ?_ rfl ?_
        · simp [results, Tryz.results123, go_sem, n0, n1, n2, n3, n4, n5, n6, n7, z0, stV, str_nil]
        · exact fin8 HS.out HZ.out (Nat.le_refl _) ⟨s1, .slice aa s1.args.length ca, .slice ab s1.body.length cb, .slice al' s1.els.length cl'⟩ HFR.out.1 HFR.out.2.1 HFR.out.2.2
  refine (is_no (s := [91]) HS.out.pb hi1 h2).mono ?_
  rintro e y2 ⟨rfl, hb1⟩
  have HR : Hid (_ = R) := (if_neg h2).symm.trans HR.out
  have HS : Hid (ST B ts w vs XS bp a c (i + 1) vd vs ve d [] E y2) := HS.out.bel hb1
  have HZ : Hid _ := HZ.out.bel hb1
  clear hb1
  go_wp2_with fail
  by_cases h4w : (tk ts (i + 1)).text = [61]
  rotate_left
  · refine (want_no (s := [61]) HS.out.pb hi1 h4w).mono ?_
    rintro e y ⟨h3, hb3⟩
    obtain rfl : none = R := (if_neg h4w).symm.trans HR.out
    have h3' : e = _ := h3
    subst h3'
    have HF : Hid (SOut B ts w bp a c vd vs XS d none _ y) := ⟨(HS.out.bel hb3).ks.kp, h3⟩
    clear h3 hb3 HS HR HZ
    go_wp2_with fail
    exact ⟨rfl, HF.out⟩
  refine (want_yes (s := [61]) HS.out.pb hi1 h4w).mono ?_
  rintro e y3 ⟨rfl, hp1, hk1⟩
  have HR : Hid (_ = R) := (if_pos h4w).symm.trans HR.out
  have HS : Hid (ST B ts w vs XS bp a c (i + 2) vd vs ve d [] E y3) := HS.out.tok hp1 hk1
  have HZ : Hid _ := HZ.out.ks (Ks.of1 hk1)
  clear hp1 hk1
  have hi2 : i + 2 < ts.length := G.ht (i + 1) (by rw [h4w]; simp)
  go_wp2_with fail
  obtain ⟨ic, hic⟩ : ∃ ic, isC ts (i + 2) = ic := ⟨_, rfl⟩
  have HIC : Hid (Calls Tryz.prog 121 #[.pointer (some ⟨bp, 0, none⟩)] y3 fun e w' => e = .returned (.bool ic) ∧ Below y3.heap.size y3 w') := by
    rw [← hic]
    exact isCall_any G hB hi2 HS.out.base0
  have hR1 := HR.out
  rw [hic] at hR1
  have HR : Hid _ := hR1
  clear hR1 hic
  refine HIC.out.mono ?_
  rintro e y4 ⟨rfl, hb1⟩
  clear HIC
  have HS : Hid (ST B ts w vs XS bp a c (i + 2) vd vs ve d [] E y4) := HS.out.bel hb1
  have HZ : Hid _ := HZ.out.bel hb1
  clear hb1
  cases ic with
  | true =>
    have HR : Hid (_ = R) := (if_pos rfl).symm.trans HR.out
    have HC : Hid (Calls Tryz.prog 122 #[.pointer (some ⟨bp, 0, none⟩), .string (X.str nm)] y4 (SOut B ts y4 bp a c vd vs XS d R)) := by
      rw [← HR.out]
      exact call_any G hB hi2 HS.out.base0 hd (by omega) (HE.out _ HS.out.ks.kp) nm
    go_wp2_with fail
    refine Calls.mono HC.out ?_
    intro e y hy
    have HY : Hid (SOut B ts y4 bp a c vd vs XS d R e y) := hy
    clear hy HC HR
    cases R with
    | none =>
      have h3' : e = _ := HY.out.2
      subst h3'
      have HF : Hid (SOut B ts w bp a c vd vs XS d none _ y) := ⟨HS.out.ks.kp.trans HY.out.1, HY.out.2⟩
      clear HY HS HZ
      go_wp2_with fail
      exact ⟨rfl, HF.out⟩
    | some r =>
      obtain ⟨s0, j0, E0, S0⟩ := r
      obtain ⟨hk, vs', ve', N, ⟨s1, va1, vb1, vl1⟩, hst, hS, hs1, rfl, hrow, hfr⟩ := HY.out
      dsimp only at hs1
      subst hs1
      obtain ⟨aa, ca, ab, cb, al', cl', rfl, rfl, rfl⟩ := sxform hrow
      have HFR : Hid (SxR B y ⟨s1, .slice aa s1.args.length ca, .slice ab s1.body.length cb, .slice al' s1.els.length cl'⟩ ∧ Fresh w.heap.size ⟨s1, .slice aa s1.args.length ca, .slice ab s1.body.length cb, .slice al' s1.els.length cl'⟩ ∧ (XS ++ N).map (·.s) = S0) := ⟨hrow, hfr.mono HS.out.ks.kp.low.size, hS⟩
      have HZ : Hid _ := HZ.out.ks hst.ks
      have HS : Hid (ST B ts w vs XS bp a c j0 vd vs' ve' d N E0 y) := HS.out.call0 hst
      clear hk hst hS hrow hfr HY 
      have n0 := HZ.out.cel 0 _ rfl
      have n1 := HZ.out.cel 1 _ rfl
      have n2 := HZ.out.cel 2 _ rfl
      have n3 := HZ.out.cel 3 _ rfl
      have n4 := HZ.out.cel 4 _ rfl
      have n5 := HZ.out.cel 5 _ rfl
      have n6 := HZ.out.cel 6 _ rfl
      have n7 := HZ.out.cel 7 _ rfl
      have z0 := HZ.out.fro
      unfold stV
      go_wp2_with fail
      refine bodyPost_ret (v := stV ⟨s1, .slice aa s1.args.length ca, .slice ab s1.body.length cb, .slice al' s1.els.length cl'⟩) ?_ rfl ?_
      · simp [results, Tryz.results123, go_sem, n0, n1, n2, n3, n4, n5, n6, n7, z0, stV, str_nil]
      · exact fin8 HS.out HZ.out (Nat.le_refl _) ⟨s1, .slice aa s1.args.length ca, .slice ab s1.body.length cb, .slice al' s1.els.length cl'⟩ HFR.out.1 HFR.out.2.1 HFR.out.2.2
  | false =>
    have HR : Hid (_ = R) := (if_neg (by simp)).symm.trans HR.out
    have HC : Hid (Calls Tryz.prog 118 #[.pointer (some ⟨bp, 0, none⟩), .agg #[.int .i64 2, .string (X.str nm), .string { data := #[] }, .int .i64 0, .int .i64 0, .slice none 0 0, .slice none 0 0, .slice none 0 0]] y4 (SOut B ts y4 bp a c vd vs XS d R)) := by
      rw [← HR.out]
      exact value_any G hB hi2 HS.out.base0 hd (by omega) (HE.out _ HS.out.ks.kp) ⟨2, nm, [], 0, 0, [], [], []⟩ rfl rfl rfl
    go_wp2_with fail
    refine Calls.mono HC.out ?_
    intro e y hy
    have HY : Hid (SOut B ts y4 bp a c vd vs XS d R e y) := hy
    clear hy HC HR
    cases R with
    | none =>
      have h3' : e = _ := HY.out.2
      subst h3'
      have HF : Hid (SOut B ts w bp a c vd vs XS d none _ y) := ⟨HS.out.ks.kp.trans HY.out.1, HY.out.2⟩
      clear HY HS HZ
      go_wp2_with fail
      exact ⟨rfl, HF.out⟩
    | some r =>
      obtain ⟨s0, j0, E0, S0⟩ := r
      obtain ⟨hk, vs', ve', N, ⟨s1, va1, vb1, vl1⟩, hst, hS, hs1, rfl, hrow, hfr⟩ := HY.out
      dsimp only at hs1
      subst hs1
      obtain ⟨aa, ca, ab, cb, al', cl', rfl, rfl, rfl⟩ := sxform hrow
      have HFR : Hid (SxR B y ⟨s1, .slice aa s1.args.length ca, .slice ab s1.body.length cb, .slice al' s1.els.length cl'⟩ ∧ Fresh w.heap.size ⟨s1, .slice aa s1.args.length ca, .slice ab s1.body.length cb, .slice al' s1.els.length cl'⟩ ∧ (XS ++ N).map (·.s) = S0) := ⟨hrow, hfr.mono HS.out.ks.kp.low.size, hS⟩
      have HZ : Hid _ := HZ.out.ks hst.ks
      have HS : Hid (ST B ts w vs XS bp a c j0 vd vs' ve' d N E0 y) := HS.out.call0 hst
      clear hk hst hS hrow hfr HY 
      have n0 := HZ.out.cel 0 _ rfl
      have n1 := HZ.out.cel 1 _ rfl
      have n2 := HZ.out.cel 2 _ rfl
      have n3 := HZ.out.cel 3 _ rfl
      have n4 := HZ.out.cel 4 _ rfl
      have n5 := HZ.out.cel 5 _ rfl
      have n6 := HZ.out.cel 6 _ rfl
      have n7 := HZ.out.cel 7 _ rfl
      have z0 := HZ.out.fro
      unfold stV
      go_wp2_with fail
      refine bodyPost_ret (v := stV ⟨s1, .slice aa s1.args.length ca, .slice ab s1.body.length cb, .slice al' s1.els.length cl'⟩) ?_ rfl ?_
      · simp [results, Tryz.results123, go_sem, n0, n1, n2, n3, n4, n5, n6, n7, z0, stV, str_nil]
      · exact fin8 HS.out HZ.out (Nat.le_refl _) ⟨s1, .slice aa s1.args.length ca, .slice ab s1.body.length cb, .slice al' s1.els.length cl'⟩ HFR.out.1 HFR.out.2.1 HFR.out.2.2
end Go.Proofs.YtikknlkdbjaonaaGreatDoor.Y

/- A statement is laid to the list. -/
namespace Go.Proofs.YtikknlkdbjaonaaGreatDoor.Y
open Go.RowKit Go.Maps
set_option linter.unusedVariables false
set_option linter.unusedSimpArgs false
set_option maxRecDepth 100000 in
set_option maxHeartbeats 2000000 in
theorem addStmt_at {B : Nat} {ts : List X.Tok} {w0 w : World} {vs0 : Value} {X0 : List Sx} {bp : Nat} {a : Option Addr} {c i : Nat} {vd vs ve : Value} {d : Nat} {N : List Sx} {E : List Exp} (h : ST B ts w0 vs0 X0 bp a c i vd vs ve d N E w) (hl : (X0 ++ N).length ≤ 4000) (s : Stmt) (aa ab al : Option Addr) (la lb ll ca cb cl : Nat) (hr : SxR B w ⟨s, .slice aa la ca, .slice ab lb cb, .slice al ll cl⟩) (hf : Fresh w0.heap.size ⟨s, .slice aa la ca, .slice ab lb cb, .slice al ll cl⟩) :
    Calls Tryz.prog 101 #[.pointer (some ⟨bp, 0, none⟩), .agg #[.int .i64 s.kind, .string (X.str s.name), .string (X.str s.fn), .int .i64 s.e, .int .i64 s.i, .slice aa la ca, .slice ab lb cb, .slice al ll cl]] w fun e w' => e = .returned (.int .i64 ((X0 ++ N).length : Int)) ∧ ∃ vs', ST B ts w0 vs0 X0 bp a c i vd vs' ve d (N ++ [⟨s, .slice aa la ca, .slice ab lb cb, .slice al ll cl⟩]) E w' ∧ Ks B vs vs' w w' := by
  obtain ⟨i0, hi0, hz0, hz1, hz2⟩ := info_parts infoS
  obtain ⟨M, hM⟩ : ∃ M, X0 ++ N = M := ⟨_, rfl⟩
  have HMM : Hid (X0 ++ N = M) := hM
  rw [hM] at hl ⊢
  have hp := h.pb
  have hbp := hp.lt
  have hle := hp.le
  obtain ⟨Y, hY⟩ : ∃ Y, w.alloc (.cells #[.int .i64 s.kind, .string (X.str s.name), .string (X.str s.fn), .int .i64 s.e, .int .i64 s.i, .slice aa la ca, .slice ab lb cb, .slice al ll cl] 35) = Y := ⟨_, rfl⟩
  obtain ⟨Z, hZ⟩ : ∃ Z, Y.drew = Z := ⟨_, rfl⟩
  have HB : Hid (Below w.heap.size w Z) := by show Below _ _ _; rw [← hZ, ← hY]; exact (bl1 _ _).drew
  have HN : Hid (Z.heap[w.heap.size]? = some (.cells #[.int .i64 s.kind, .string (X.str s.name), .string (X.str s.fn), .int .i64 s.e, .int .i64 s.i, .slice aa la ca, .slice ab lb cb, .slice al ll cl] 35)) := by show _ = _; rw [← hZ, ← hY]; exact heap_new _ _
  have HSZ : Hid (Z.heap.size = w.heap.size + 1) := by show _ = _; rw [← hZ, ← hY]; simp
  obtain ⟨Z2, hZ2⟩ : ∃ Z2, Z.alloc (.cells #[.int .i64 s.kind, .string (X.str s.name), .string (X.str s.fn), .int .i64 s.e, .int .i64 s.i, .slice aa la ca, .slice ab lb cb, .slice al ll cl] 35) = Z2 := ⟨_, rfl⟩
  have HB2 : Hid (Below w.heap.size w Z2) := by show Below _ _ _; rw [← hZ2]; exact HB.out.trans ((bl1 _ _).mono HB.out.size)
  have HN2 : Hid (∀ (j : Nat) u, (stC ⟨s, .slice aa la ca, .slice ab lb cb, .slice al ll cl⟩)[j]? = some u → Z2.cell? ((⟨Z.heap.size, 0, none⟩ : Addr).add j) = some u) := fun j u hu => by
    rw [Addr.add_lit, Nat.zero_add, ← hZ2]
    exact ncell_at (by simpa [stC] using hu)
  have HONE : Hid (∀ u ∈ stC ⟨s, .slice aa la ca, .slice ab lb cb, .slice al ll cl⟩, u.oneCell' = true) := by
    intro u hu
    unfold stC at hu
    simp only [List.mem_cons, List.not_mem_nil, or_false] at hu
    rcases hu with rfl | rfl | rfl | rfl | rfl | rfl | rfl | rfl <;> rfl
  have HP : Hid (PB B ts Z2 bp a c i vd vs ve d) := hp.below HB2.out
  have HO : Hid (Z2.ownsRow B 35 8 vs M.length (M.flatMap stC)) := by show World.ownsRow _ _ _ _ _ _ _; rw [← hM]; exact row_thru' h.rs HB2.out
  have HRE : Hid (Z2.ownsRow B 32 6 ve E.length (E.flatMap expC)) := row_thru' h.re HB2.out
  have HRR : Hid (∀ p ∈ M, SxR B Z2 p) := fun p hp => (h.rr p (by rw [hM]; exact hp)).bel HB2.out
  have HRP : Hid (SxR B Z2 ⟨s, .slice aa la ca, .slice ab lb cb, .slice al ll cl⟩) := hr.bel HB2.out
  have HFP : Hid (Fresh w0.heap.size ⟨s, .slice aa la ca, .slice ab lb cb, .slice al ll cl⟩) := hf
  have HFR : Hid (∀ p ∈ N, Fresh w0.heap.size p) := h.fr
  have HKS0 : Hid (Ks B vs0 vs w0 w) := h.ks
  have HLE0 : Hid (B ≤ w0.heap.size) := h.le0
  have HZW : Hid (w.heap.size ≤ Z2.heap.size) := HB2.out.size
  have HBZ : Hid (Z.heap[bp]? = some (.cells #[.slice a ts.length c, .int .i64 (i : Int), vd, vs, ve, .int .i64 (d : Int)] 69)) := (HB.out.block _ hbp).trans hp.blk
  have HM : Hid (∀ y : World, y.heap[w.heap.size]? = Z.heap[w.heap.size]? → y.cell? ⟨w.heap.size, 0, none⟩ = some (.int .i64 s.kind) ∧ y.cell? ⟨w.heap.size, 1, none⟩ = some (.string (X.str s.name)) ∧ y.cell? ⟨w.heap.size, 2, none⟩ = some (.string (X.str s.fn)) ∧ y.cell? ⟨w.heap.size, 3, none⟩ = some (.int .i64 s.e) ∧ y.cell? ⟨w.heap.size, 4, none⟩ = some (.int .i64 s.i) ∧ y.cell? ⟨w.heap.size, 5, none⟩ = some (.slice aa la ca) ∧ y.cell? ⟨w.heap.size, 6, none⟩ = some (.slice ab lb cb) ∧ y.cell? ⟨w.heap.size, 7, none⟩ = some (.slice al ll cl)) := fun y h2 => by
    have g2 := h2.trans HN.out
    exact ⟨cell_blk g2 0 rfl, cell_blk g2 1 rfl, cell_blk g2 2 rfl, cell_blk g2 3 rfl, cell_blk g2 4 rfl, cell_blk g2 5 rfl, cell_blk g2 6 rfl, cell_blk g2 7 rfl⟩
  have HMZ : Hid (Z.cell? ⟨bp, 3, none⟩ = some vs) := cell_blk HBZ.out 3 rfl
  have HE2 : Hid (Z2.heap[w.heap.size]? = Z.heap[w.heap.size]?) := by
    show _ = _
    rw [← hZ2]
    exact (bl1 _ _).block _ (by have := HSZ.out; omega)
  have HL2 : Hid (Z2.heap.size = Z.heap.size + 1) := by show _ = _; rw [← hZ2]; simp
  have HOL : Hid (∀ b, vs.ownBlock = some b → b < w.heap.size) := fun b e => (h.rs.lt b e).2
  clear hp h hr hf hM
  go_enter Tryz.func101, Tryz.ntmps101
  go_wp2_with fail
  try rw [hY]
  refine wp_region_held_drew (S := (fun w' : World => w'.cell? ⟨w.heap.size, 0, none⟩ = some (.int .i64 s.kind) ∧ w'.cell? ⟨w.heap.size, 1, none⟩ = some (.string (X.str s.name)) ∧ w'.cell? ⟨w.heap.size, 2, none⟩ = some (.string (X.str s.fn)) ∧ w'.cell? ⟨w.heap.size, 3, none⟩ = some (.int .i64 s.e) ∧ w'.cell? ⟨w.heap.size, 4, none⟩ = some (.int .i64 s.i) ∧ w'.cell? ⟨w.heap.size, 5, none⟩ = some (.slice aa la ca) ∧ w'.cell? ⟨w.heap.size, 6, none⟩ = some (.slice ab lb cb) ∧ w'.cell? ⟨w.heap.size, 7, none⟩ = some (.slice al ll cl))) (by kernel_rfl) (by rw [hZ]; exact HM.out _ rfl) (fun hHeld => ?_)
  rw [hZ]
  rw [hZ] at hHeld
  clear hY hZ
  refine tj 0 ?_
  simp only [Act.put, zA, zB, zC]
  refine tj 1 ?_
  simp only [Act.put, zA, zB, zC]
  refine tj 2 ?_
  simp only [Act.put, zA, zB, zC]
  refine tj 3 ?_
  simp only [Act.put, zA, zB, zC]
  refine tj 4 ?_
  simp only [Act.put, zA, zB, zC]
  refine tj 6 ?_
  simp only [Act.put, zA, zB, zC]
  refine tr [5, 7] ?_
  refine AllReadyH.cons (tA rfl) (fun K hK => ?_) (AllReadyH.cons (tA rfl) (fun K hK => ?_) AllReadyH.nil)
  · have m4 := HMZ.out
    go_simp
    refine hK.out _ _ hHeld (fun hHeld => ?_)
    clear hK K m4
    try simp only [Act.put, zA, zB, zC]
    refine tr [7] ?_
    refine AllReadyH.cons (tA rfl) (fun K hK => ?_) AllReadyH.nil
    go_simp
    try rw [hZ2]
    refine hK.out _ _ (HM.out Z2 HE2.out) (fun hHeld => ?_)
    clear hK K
    try simp only [Act.put, zA, zB, zC]
    clear hZ2
    refine tr [8] ?_
    refine AllReadyH.cons (tA rfl) (fun K hK => ?_) AllReadyH.nil
    refine step_append_lies _ (by rfl) _ _ 23 (by rfl) B 35 i0 _ 8 128 Tryz.underlying23 hi0 hz0 hz1 hz2 rfl (by decide) vs M.length _ (by rfl) HO.out ⟨Z.heap.size, 0, none⟩ 1 1 (stC ⟨s, .slice aa la ca, .slice ab lb cb, .slice al ll cl⟩) (by rfl) rfl HN2.out HONE.out (by decide) (by unfold maxLen; omega) (by omega) (by have := HZW.out; omega) _ rfl ?_
    intro g cp w3 hown hgrow hgat hglt
    have HW : Hid (w3.ownsRow B 35 8 (.slice (some ⟨g, 0, none⟩) (M.length + 1) cp) (M.length + 1) (M.flatMap stC ++ stC ⟨s, .slice aa la ca, .slice ab lb cb, .slice al ll cl⟩)) := hown
    have HKP : Hid (Kp [35] B Z2 w3) := Kp.grown HO.out hgrow (by decide) (by have := HZW.out; omega)
    have HGR : Hid (Z2.grownBy w3 vs.ownBlock) := hgrow
    have HGA : Hid (vs.ownBlock = some g ∨ g = Z2.heap.size) := hgat
    have HPB : Hid (PB B ts w3 bp a c i vd vs ve d) := ⟨HP.out.ge, HKP.out.keep _ _ _ _ HP.out.blk (by decide), row_kp HP.out.tok HKP.out (by decide)⟩
    have HE3 : Hid (w3.heap[w.heap.size]? = Z.heap[w.heap.size]?) := (hgrow.block _ (by have := HZW.out; have := HSZ.out; have := HL2.out; omega) (fun e => by have := HOL.out _ e.symm; omega)).trans HE2.out
    clear hown hgrow hgat hglt
    refine hK.out _ _ (HM.out w3 HE3.out) (fun hHeld => ?_)
    clear hK K
    try simp only [Act.put, zA, zB, zC]
    refine tj 9 ?_
    simp only [Act.put, zA, zB, zC]
    refine tj 10 ?_
    simp only [Act.put, zA, zB, zC]
    refine tj 11 ?_
    simp only [Act.put, zA, zB, zC]
    have b4 := HPB.out.c3
    have z4 := HPB.out.fro 3
    have HK4 : Hid (Kp [69] B w3 (w3.setCell ⟨bp, 3, none⟩ (.slice (some ⟨g, 0, none⟩) (M.length + 1) cp))) := Kp.set HPB.out.blk (by decide) HPB.out.ge _
    have HB4 : Hid ((w3.setCell ⟨bp, 3, none⟩ (.slice (some ⟨g, 0, none⟩) (M.length + 1) cp)).heap[bp]? = some (.cells #[.slice a ts.length c, .int .i64 (i : Int), vd, .slice (some ⟨g, 0, none⟩) (M.length + 1) cp, ve, .int .i64 (d : Int)] 69)) := blk_set HPB.out.blk _
    have HN4 : Hid ((w3.setCell ⟨bp, 3, none⟩ (.slice (some ⟨g, 0, none⟩) (M.length + 1) cp)).heap[w.heap.size]? = Z.heap[w.heap.size]?) := by
      have hne : bp ≠ w.heap.size := by omega
      show (w3.heap.modify bp _)[w.heap.size]? = _
      rw [Array.getElem?_modify, if_neg hne]
      exact HE3.out
    obtain ⟨V, hV⟩ : ∃ V, w3.setCell ⟨bp, 3, none⟩ (.slice (some ⟨g, 0, none⟩) (M.length + 1) cp) = V := ⟨_, rfl⟩
    rw [hV] at HK4 HB4 HN4
    refine tr [12] ?_
    refine AllReadyH.cons (tA rfl) (fun K hK => ?_) AllReadyH.nil
    go_simp
    try rw [hV]
    refine hK.out _ _ (HM.out V HN4.out) (fun hHeld => ?_)
    clear hK K
    try simp only [Act.put, zA, zB, zC]
    refine wpAnyH_done (by kernel_rfl) ?_ _
    clear hHeld hV b4 z4
    have HKS : Hid (Ks B vs (.slice (some ⟨g, 0, none⟩) (M.length + 1) cp) w V) := by
      refine ⟨((Kp.of HB2.out hle).trans (HKP.out.wide (by decide))).trans (HK4.out.wide (by decide)), fun b c' f' hb hv => ?_, fun q hq => ?_⟩
      · exact HK4.out.keep b _ _ _ ((HGR.out.block b (blk_lt (((HB2.out.block b (blk_lt hb)).trans hb))) (fun e => hv e.symm)).trans ((HB2.out.block b (blk_lt hb)).trans hb)) (by decide)
      · have e : q = g := by simpa [Value.ownBlock] using hq.symm
        subst e
        rcases HGA.out with h1 | h1
        · exact .inl h1
        · exact .inr (by rw [h1]; exact HZW.out)
    have HRES : Hid (ST B ts w0 vs0 X0 bp a c i vd (.slice (some ⟨g, 0, none⟩) (M.length + 1) cp) ve d (N ++ [⟨s, .slice aa la ca, .slice ab lb cb, .slice al ll cl⟩]) E V) := by
      refine ⟨⟨HPB.out.ge, HB4.out, row_kp HPB.out.tok HK4.out (by decide)⟩, row_kp (row_kp HRE.out HKP.out (by decide)) HK4.out (by decide), ?_, fun p hp => ?_, HKS0.out.trans HKS.out, fun p hp => ?_, HLE0.out⟩
      · rw [← List.append_assoc, HMM.out, List.length_append, List.flatMap_append]
        have := row_kp HW.out HK4.out (by decide)
        simpa using this
      · rw [← List.append_assoc, HMM.out] at hp
        rcases List.mem_append.1 hp with hp | hp
        · exact ((HRR.out p hp).kp HKP.out (by decide)).kp HK4.out (by decide)
        · rw [List.mem_singleton] at hp
          subst hp
          exact (HRP.out.kp HKP.out (by decide)).kp HK4.out (by decide)
      · rcases List.mem_append.1 hp with hp | hp
        · exact HFR.out p hp
        · rw [List.mem_singleton] at hp
          subst hp
          exact HFP.out
    have p4 := cell_blk HB4.out 3 (v := .slice (some ⟨g, 0, none⟩) (M.length + 1) cp) rfl
    go_wp2_with fail
    go_ret
    refine ⟨?_, _, HRES.out, HKS.out⟩
    simp
  · go_simp
    try rw [hZ2]
    refine hK.out _ _ (HM.out Z2 HE2.out) (fun hHeld => ?_)
    clear hK K
    try simp only [Act.put, zA, zB, zC]
    refine tr [5] ?_
    refine AllReadyH.cons (tA rfl) (fun K hK => ?_) AllReadyH.nil
    have m4 := HP.out.c3
    go_simp
    refine hK.out _ _ hHeld (fun hHeld => ?_)
    clear hK K m4
    try simp only [Act.put, zA, zB, zC]
    clear hZ2
    refine tr [8] ?_
    refine AllReadyH.cons (tA rfl) (fun K hK => ?_) AllReadyH.nil
    refine step_append_lies _ (by rfl) _ _ 23 (by rfl) B 35 i0 _ 8 128 Tryz.underlying23 hi0 hz0 hz1 hz2 rfl (by decide) vs M.length _ (by rfl) HO.out ⟨Z.heap.size, 0, none⟩ 1 1 (stC ⟨s, .slice aa la ca, .slice ab lb cb, .slice al ll cl⟩) (by rfl) rfl HN2.out HONE.out (by decide) (by unfold maxLen; omega) (by omega) (by have := HZW.out; omega) _ rfl ?_
    intro g cp w3 hown hgrow hgat hglt
    have HW : Hid (w3.ownsRow B 35 8 (.slice (some ⟨g, 0, none⟩) (M.length + 1) cp) (M.length + 1) (M.flatMap stC ++ stC ⟨s, .slice aa la ca, .slice ab lb cb, .slice al ll cl⟩)) := hown
    have HKP : Hid (Kp [35] B Z2 w3) := Kp.grown HO.out hgrow (by decide) (by have := HZW.out; omega)
    have HGR : Hid (Z2.grownBy w3 vs.ownBlock) := hgrow
    have HGA : Hid (vs.ownBlock = some g ∨ g = Z2.heap.size) := hgat
    have HPB : Hid (PB B ts w3 bp a c i vd vs ve d) := ⟨HP.out.ge, HKP.out.keep _ _ _ _ HP.out.blk (by decide), row_kp HP.out.tok HKP.out (by decide)⟩
    have HE3 : Hid (w3.heap[w.heap.size]? = Z.heap[w.heap.size]?) := (hgrow.block _ (by have := HZW.out; have := HSZ.out; have := HL2.out; omega) (fun e => by have := HOL.out _ e.symm; omega)).trans HE2.out
    clear hown hgrow hgat hglt
    refine hK.out _ _ (HM.out w3 HE3.out) (fun hHeld => ?_)
    clear hK K
    try simp only [Act.put, zA, zB, zC]
    refine tj 9 ?_
    simp only [Act.put, zA, zB, zC]
    refine tj 10 ?_
    simp only [Act.put, zA, zB, zC]
    refine tj 11 ?_
    simp only [Act.put, zA, zB, zC]
    have b4 := HPB.out.c3
    have z4 := HPB.out.fro 3
    have HK4 : Hid (Kp [69] B w3 (w3.setCell ⟨bp, 3, none⟩ (.slice (some ⟨g, 0, none⟩) (M.length + 1) cp))) := Kp.set HPB.out.blk (by decide) HPB.out.ge _
    have HB4 : Hid ((w3.setCell ⟨bp, 3, none⟩ (.slice (some ⟨g, 0, none⟩) (M.length + 1) cp)).heap[bp]? = some (.cells #[.slice a ts.length c, .int .i64 (i : Int), vd, .slice (some ⟨g, 0, none⟩) (M.length + 1) cp, ve, .int .i64 (d : Int)] 69)) := blk_set HPB.out.blk _
    have HN4 : Hid ((w3.setCell ⟨bp, 3, none⟩ (.slice (some ⟨g, 0, none⟩) (M.length + 1) cp)).heap[w.heap.size]? = Z.heap[w.heap.size]?) := by
      have hne : bp ≠ w.heap.size := by omega
      show (w3.heap.modify bp _)[w.heap.size]? = _
      rw [Array.getElem?_modify, if_neg hne]
      exact HE3.out
    obtain ⟨V, hV⟩ : ∃ V, w3.setCell ⟨bp, 3, none⟩ (.slice (some ⟨g, 0, none⟩) (M.length + 1) cp) = V := ⟨_, rfl⟩
    rw [hV] at HK4 HB4 HN4
    refine tr [12] ?_
    refine AllReadyH.cons (tA rfl) (fun K hK => ?_) AllReadyH.nil
    go_simp
    try rw [hV]
    refine hK.out _ _ (HM.out V HN4.out) (fun hHeld => ?_)
    clear hK K
    try simp only [Act.put, zA, zB, zC]
    refine wpAnyH_done (by kernel_rfl) ?_ _
    clear hHeld hV b4 z4
    have HKS : Hid (Ks B vs (.slice (some ⟨g, 0, none⟩) (M.length + 1) cp) w V) := by
      refine ⟨((Kp.of HB2.out hle).trans (HKP.out.wide (by decide))).trans (HK4.out.wide (by decide)), fun b c' f' hb hv => ?_, fun q hq => ?_⟩
      · exact HK4.out.keep b _ _ _ ((HGR.out.block b (blk_lt (((HB2.out.block b (blk_lt hb)).trans hb))) (fun e => hv e.symm)).trans ((HB2.out.block b (blk_lt hb)).trans hb)) (by decide)
      · have e : q = g := by simpa [Value.ownBlock] using hq.symm
        subst e
        rcases HGA.out with h1 | h1
        · exact .inl h1
        · exact .inr (by rw [h1]; exact HZW.out)
    have HRES : Hid (ST B ts w0 vs0 X0 bp a c i vd (.slice (some ⟨g, 0, none⟩) (M.length + 1) cp) ve d (N ++ [⟨s, .slice aa la ca, .slice ab lb cb, .slice al ll cl⟩]) E V) := by
      refine ⟨⟨HPB.out.ge, HB4.out, row_kp HPB.out.tok HK4.out (by decide)⟩, row_kp (row_kp HRE.out HKP.out (by decide)) HK4.out (by decide), ?_, fun p hp => ?_, HKS0.out.trans HKS.out, fun p hp => ?_, HLE0.out⟩
      · rw [← List.append_assoc, HMM.out, List.length_append, List.flatMap_append]
        have := row_kp HW.out HK4.out (by decide)
        simpa using this
      · rw [← List.append_assoc, HMM.out] at hp
        rcases List.mem_append.1 hp with hp | hp
        · exact ((HRR.out p hp).kp HKP.out (by decide)).kp HK4.out (by decide)
        · rw [List.mem_singleton] at hp
          subst hp
          exact (HRP.out.kp HKP.out (by decide)).kp HK4.out (by decide)
      · rcases List.mem_append.1 hp with hp | hp
        · exact HFR.out p hp
        · rw [List.mem_singleton] at hp
          subst hp
          exact HFP.out
    have p4 := cell_blk HB4.out 3 (v := .slice (some ⟨g, 0, none⟩) (M.length + 1) cp) rfl
    go_wp2_with fail
    go_ret
    refine ⟨?_, _, HRES.out, HKS.out⟩
    simp
end Go.Proofs.YtikknlkdbjaonaaGreatDoor.Y
