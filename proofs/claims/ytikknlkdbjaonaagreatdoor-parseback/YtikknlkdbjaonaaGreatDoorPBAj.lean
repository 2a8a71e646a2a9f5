/- Blocks and statements, as the program's parser reads them. -/
import Derived.Test.YtikknlkdbjaonaaGreatDoorPBAi
namespace Go.Proofs.YtikknlkdbjaonaaGreatDoor.Y
open Go.RowKit Go.Maps
set_option linter.unusedVariables false
set_option linter.unusedSimpArgs false
theorem row_grow {C n m : Nat} {e : TypeId} {k : Nat} {y z : World} {v u : Value} {cs : List Value} (h : y.ownsRow C e k u m cs) (hg : y.grownBy z v.ownBlock) (hne : ∀ b, v.ownBlock = some b → u.ownBlock ≠ some b) : z.ownsRow C e k u m cs := by
  refine ⟨h.1, ?_⟩
  rcases h.2 with h0 | ⟨g, cap, cur, h1, h2, h3, h4⟩
  · exact .inl h0
  · refine .inr ⟨g, cap, cur, h1, h2, (hg.block g (blk_lt h3) (fun e => hne g e.symm ?_)).trans h3, h4⟩
    rw [h1]; rfl
/-- A list of numbers that no statement has. -/
def Sep (v : Value) (p : Sx) : Prop := ∀ b, v.ownBlock = some b → p.va.ownBlock ≠ some b ∧ p.vb.ownBlock ≠ some b ∧ p.vl.ownBlock ≠ some b
theorem Sep.nil (p : Sx) : Sep (.slice none 0 0) p := fun b hb => by simp [Value.ownBlock] at hb
theorem Ks.then {B : Nat} {vs vs' : Value} {x y z : World} (h : Ks B vs vs' x y) (hb : Below x.heap.size y z) (hB : B ≤ x.heap.size) : Ks B vs vs' x z :=
  ⟨h.kp.then hb hB, fun b c f h1 hv => (hb.block b (blk_lt h1)).trans (h.st b c f h1 hv), h.fr⟩
theorem ST.grow {B : Nat} {ts : List X.Tok} {w0 y z : World} {vs0 : Value} {X0 : List Sx} {bp : Nat} {a : Option Addr} {c i n : Nat} {vd vs ve v : Value} {d : Nat} {N : List Sx} {E : List Exp} {l : List Value} (h : ST B ts w0 vs0 X0 bp a c i vd vs ve d N E y) (ho : y.ownsRow w0.heap.size 3 1 v n l) (hg : y.grownBy z v.ownBlock) (hs : ∀ p ∈ X0 ++ N, Sep v p) : ST B ts w0 vs0 X0 bp a c i vd vs ve d N E z := by
  have hk : Kp [3] w0.heap.size y z := Kp.grown ho hg (by decide) h.ks.kp.low.size
  exact ⟨⟨h.pb.ge, hk.keep _ _ _ _ h.pb.blk (by decide), row_kp h.pb.tok hk (by decide)⟩, row_kp h.re hk (by decide), row_kp h.rs hk (by decide), fun p hp => ⟨row_grow (n := 0) (h.rr p hp).ra hg fun b e => (hs p hp b e).1, row_grow (n := 0) (h.rr p hp).rb hg fun b e => (hs p hp b e).2.1, row_grow (n := 0) (h.rr p hp).rl hg fun b e => (hs p hp b e).2.2⟩, h.ks.then hk.low h.le0, h.fr, h.le0⟩
theorem Sep.fresh {n : Nat} {v : Value} {p : Sx} (hf : Fresh n p) (hv : ∀ b, v.ownBlock = some b → b < n) : Sep v p := fun b hb => ⟨fun e => by have := hf b (.inl e); have := hv b hb; omega, fun e => by have := hf b (.inr (.inl e)); have := hv b hb; omega, fun e => by have := hf b (.inr (.inr e)); have := hv b hb; omega⟩
theorem Sep.past {B : Nat} {w : World} {v : Value} {p : Sx} (hr : SxR B w p) (hv : ∀ b, v.ownBlock = some b → w.heap.size ≤ b) : Sep v p := fun b hb => ⟨fun e => by have := hr.lt b (.inl e); have := hv b hb; omega, fun e => by have := hr.lt b (.inr (.inl e)); have := hv b hb; omega, fun e => by have := hr.lt b (.inr (.inr e)); have := hv b hb; omega⟩
/-- What a block, a statement come to, with that much fuel. -/
def BlkC (B : Nat) (ts : List X.Tok) (bp : Nat) (a : Option Addr) (c : Nat) (vd : Value) (f : Nat) : Prop := ∀ i w vs ve XS d E, i < ts.length → ST B ts w vs XS bp a c i vd vs ve d [] E w → d ≤ 20 → E.length ≤ i → XS.length ≤ i → Env w → 3 * (ts.length - i) + 1 ≤ f → Calls Tryz.prog 77 #[.pointer (some ⟨bp, 0, none⟩)] w (BOut B ts w bp a c vd vs XS d (blk ts f d i E (XS.map (·.s))))
def StmC (B : Nat) (ts : List X.Tok) (bp : Nat) (a : Option Addr) (c : Nat) (vd : Value) (f : Nat) : Prop := ∀ i w vs ve XS d E, i < ts.length → ST B ts w vs XS bp a c i vd vs ve d [] E w → d ≤ 20 → E.length ≤ i → XS.length ≤ i → Env w → 3 * (ts.length - i) + 2 ≤ f → Calls Tryz.prog 102 #[.pointer (some ⟨bp, 0, none⟩)] w (SOut B ts w bp a c vd vs XS d (stm ts f d i E (XS.map (·.s))))
set_option maxRecDepth 100000 in
set_option maxHeartbeats 2000000 in
theorem block_step {B : Nat} {ts : List X.Tok} {bp : Nat} {a : Option Addr} {c : Nat} {vd : Value} (G : Good ts) (hB : 8 ≤ B) {f : Nat} (hst : ∀ g, g < f + 1 → StmC B ts bp a c vd g) : BlkC B ts bp a c vd (f + 1) := by
  intro i w vs ve XS d E hi h hd hl hlx he hfu
  obtain ⟨R, hR⟩ : ∃ R, blk ts (f + 1) d i E (XS.map (·.s)) = R := ⟨_, rfl⟩
  have hR0 := hR
  rw [blk] at hR0
  have HR : Hid _ := hR0
  rw [hR]
  clear hR hR0
  obtain ⟨i0, hi0, hz0, hz1, hz2⟩ := info_parts infoI
  have HE : Hid (∀ y, Kp T3 B w y → Env y) := fun y hy => he.kp hy hB
  have hN := G.len
  have hm2 : maxLen = 9223372036854775807 := rfl
  have HS : Hid (ST B ts w vs XS bp a c i vd vs ve d [] E w) := h
  clear h he
  go_enter Tryz.func77, Tryz.ntmps77
  go_wp2_with fail
  by_cases h1 : (tk ts i).text = [123]
  rotate_left
  · refine (want_no (s := [123]) HS.out.pb hi h1).mono ?_
    rintro e y ⟨h3, hb3⟩
    obtain rfl : none = R := (if_neg h1).symm.trans HR.out
    have h3' : e = _ := h3
    subst h3'
    have HF : Hid (BOut B ts w bp a c vd vs XS d none _ y) := ⟨(HS.out.bel hb3).ks.kp, h3⟩
    clear h3 hb3 HS HR h1
    go_wp2_with fail
    exact ⟨rfl, HF.out⟩
  refine (want_yes (s := [123]) HS.out.pb hi h1).mono ?_
  rintro e y1 ⟨rfl, hp1, hk1⟩
  have hi1 : i + 1 < ts.length := G.ht i (by rw [h1]; simp)
  have HR : Hid (_ = R) := (if_pos h1).symm.trans HR.out
  have HS : Hid (ST B ts w vs XS bp a c (i + 1) vd vs ve d [] E y1) := HS.out.tok hp1 hk1
  clear hp1 hk1 h1
  go_wp2_with fail
  by_cases h20 : 20 ≤ d
  · refine (enter_no HS.out.pb h20 hd).mono ?_
    rintro e y ⟨h3, hp3, hk3⟩
    obtain rfl : none = R := (if_pos h20).symm.trans HR.out
    have h3' : e = _ := h3
    subst h3'
    have HF : Hid (BOut B ts w bp a c vd vs XS d none _ y) := ⟨HS.out.ks.kp.trans (hk3.wide (by decide)), h3⟩
    clear h3 hp3 hk3 HS HR h20
    go_wp2_with fail
    exact ⟨rfl, HF.out⟩
  refine (enter_yes HS.out.pb (by omega)).mono ?_
  rintro e y2 ⟨rfl, hp2, hk2⟩
  have HR0 : Hid (sl ts f (d + 1) (i + 1) [] E (XS.map (·.s)) = R) := (if_neg h20).symm.trans HR.out
  have HS0 : Hid (ST B ts w vs XS bp a c (i + 1) vd vs ve (d + 1) [] E y2) := HS.out.tok hp2 hk2
  clear hp2 hk2 HS HR
  go_wp2_with fail
  go_loopg [3] (ts.length - (i + 1)) (fun g v3 wq => ∃ (l : List Int) (j : Nat) (E' : List Exp) (N : List Sx) (vs' ve' : Value) (a' : Option Addr) (c' f2 : Nat), g = ts.length - j ∧ v3 = .slice a' l.length c' ∧ j < ts.length ∧ E'.length ≤ j ∧ (XS ++ N).length ≤ j ∧ l.length ≤ j ∧ 3 * (ts.length - j) + 3 ≤ f2 ∧ f2 ≤ f ∧ Hid (wq.ownsRow w.heap.size 3 1 (.slice a' l.length c') l.length (l.map iZ)) ∧ Hid (∀ p ∈ XS ++ N, Sep (.slice a' l.length c') p) ∧ Hid (ST B ts w vs XS bp a c j vd vs' ve' (d + 1) N E' wq) ∧ Hid (sl ts f2 (d + 1) j l E' ((XS ++ N).map (·.s)) = R))
  case atStart => exact ⟨[], i + 1, E, [], vs, ve, none, 0, f, rfl, rfl, hi1, by omega, by rw [List.append_nil]; omega, Nat.zero_le _, by omega, Nat.le_refl _, World.ownsRow_nil _ _ _ _, fun p _ => Sep.nil p, HS0, by rw [List.append_nil]; exact HR0⟩
  case round =>
    obtain ⟨l, j, E', N, vs', ve', a', c', f2, rfl, rfl, hj, hle, hlx2, hll, hf2, hff, HO, HSEP, HS, HR⟩ := hrel
    clear HS0 HR0
    obtain ⟨f3, rfl⟩ : ∃ f3, f2 = f3 + 1 := ⟨f2 - 1, by omega⟩
    have hR1 := HR.out
    rw [sl] at hR1
    have HR : Hid _ := hR1
    clear hR1
    go_wp2_with fail
    by_cases h5 : (tk ts j).text = [125]
    · obtain rfl : some (l, j + 1, E', (XS ++ N).map (·.s)) = R := (if_pos h5).symm.trans HR.out
      refine (skip_yes (s := [125]) HS.out.pb hj h5).mono ?_
      rintro e y3 ⟨rfl, hp3, hk3⟩
      have HS3 : Hid (ST B ts w vs XS bp a c (j + 1) vd vs' ve' (d + 1) N E' y3) := HS.out.tok hp3 hk3
      have HO3 : Hid (y3.ownsRow w.heap.size 3 1 (.slice a' l.length c') l.length (l.map iZ)) := row_kp HO.out hk3 (by decide)
      clear hp3 hk3 HS HO h5 HR HSEP
      go_wp2_with fail
      refine (leave_any HS3.out.pb (by omega) (by omega)).mono ?_
      rintro e y4 ⟨rfl, hp4, hk4⟩
      have HS4 : Hid (ST B ts w vs XS bp a c (j + 1) vd vs' ve' (d + 1 - 1) N E' y4) := HS3.out.tok hp4 hk4
      have HO4 : Hid (y4.ownsRow w.heap.size 3 1 (.slice a' l.length c') l.length (l.map iZ)) := row_kp HO3.out hk4 (by decide)
      have HF : Hid (BOut B ts w bp a c vd vs XS d (some (l, j + 1, E', (XS ++ N).map (·.s))) (.returned (.slice a' l.length c')) y4) := ⟨HS4.out.ks.kp, vs', ve', N, a', c', HS4.out, rfl, rfl, row_low HO4.out HS4.out.le0, fun b hb => (World.ownsRow.lt (e := 3) (size := 1) HO4.out b hb).1⟩
      clear hp4 hk4 HS3 HO3 HS4 HO4
      go_wp2_with fail
      go_ret
      exact HF.out
    refine (skip_no (s := [125]) HS.out.pb hj h5).mono ?_
    rintro e y3 ⟨rfl, hb3⟩
    have HR : Hid (_ = R) := (if_neg h5).symm.trans HR.out
    have HS : Hid (ST B ts w vs XS bp a c j vd vs' ve' (d + 1) N E' y3) := HS.out.bel hb3
    have HO : Hid (y3.ownsRow w.heap.size 3 1 (.slice a' l.length c') l.length (l.map iZ)) := row_thru' HO.out hb3
    have HC : Hid (Calls Tryz.prog 102 #[.pointer (some ⟨bp, 0, none⟩)] y3 (SOut B ts y3 bp a c vd vs' (XS ++ N) (d + 1) (stm ts f3 (d + 1) j E' ((XS ++ N).map (·.s))))) := hst f3 (by omega) j y3 vs' ve' (XS ++ N) (d + 1) E' hj HS.out.base (by omega) hle hlx2 (HE.out _ HS.out.ks.kp) (by omega)
    clear hb3 h5
    go_wp2_with fail
    refine Calls.mono HC.out ?_
    intro e y hy
    have HY : Hid (SOut B ts y3 bp a c vd vs' (XS ++ N) (d + 1) (stm ts f3 (d + 1) j E' ((XS ++ N).map (·.s))) e y) := hy
    clear hy HC
    cases hr : stm ts f3 (d + 1) j E' ((XS ++ N).map (·.s)) with
    | none =>
      have h2 := HY.out
      rw [hr] at h2
      obtain ⟨hk, h3⟩ := h2
      have hR1 := HR.out
      rw [hr] at hR1
      obtain rfl : none = R := hR1
      have h3' : e = _ := h3
      subst h3'
      have HF : Hid (BOut B ts w bp a c vd vs XS d none _ y) := ⟨HS.out.ks.kp.trans hk, h3⟩
      clear h3 HY hk hr HR HS HO HSEP
      go_wp2_with fail
      exact ⟨rfl, HF.out⟩
    | some r =>
      obtain ⟨s0, k, E2, S2⟩ := r
      have hlen := (stm_len G f3).2.2 _ _ _ _ _ _ _ _ hr
      have h2 := HY.out
      rw [hr] at h2
      obtain ⟨hk, vs2, ve2, N2, ⟨s1, va1, vb1, vl1⟩, hst2, hS, hs1, rfl, hrow, hfr⟩ := h2
      have hR1 := HR.out
      rw [hr, Option.bind_some] at hR1
      dsimp only at hR1 hs1
      subst hs1
      obtain ⟨aa, ca, ab, cb, al', cl', rfl, rfl, rfl⟩ := sxform hrow
      have HS4 : Hid (ST B ts w vs XS bp a c k vd vs2 ve2 (d + 1) (N ++ N2) E2 y) := HS.out.call hst2
      have HO4 : Hid (y.ownsRow w.heap.size 3 1 (.slice a' l.length c') l.length (l.map iZ)) := row_kp HO.out hst2.ks.kp (by decide)
      have HBL : Hid (∀ b, (Value.slice a' l.length c').ownBlock = some b → b < y3.heap.size) := fun b hb => (World.ownsRow.lt (e := 3) (size := 1) HO.out b hb).2
      have HP0 : Hid (SxR B y ⟨s1, .slice aa s1.args.length ca, .slice ab s1.body.length cb, .slice al' s1.els.length cl'⟩ ∧ Fresh y3.heap.size ⟨s1, .slice aa s1.args.length ca, .slice ab s1.body.length cb, .slice al' s1.els.length cl'⟩) := ⟨hrow, hfr⟩
      have HSEP4 : Hid (∀ p ∈ XS ++ (N ++ N2 ++ [⟨s1, .slice aa s1.args.length ca, .slice ab s1.body.length cb, .slice al' s1.els.length cl'⟩]), Sep (.slice a' l.length c') p) := fun p hp => by
        rw [← List.append_assoc, ← List.append_assoc] at hp
        rcases List.mem_append.1 hp with hp | hp
        · rcases List.mem_append.1 hp with hp | hp
          · exact HSEP.out p hp
          · exact Sep.fresh (hst2.fr p hp) HBL.out
        · rw [List.mem_singleton] at hp
          subst hp
          exact Sep.fresh hfr HBL.out
      have hX : ((XS ++ (N ++ N2)).map (·.s)) = S2 := by rw [← List.append_assoc]; exact hS
      have hXl : (XS ++ (N ++ N2)).length = S2.length := by rw [← hX, List.length_map]
      have hml : ((XS ++ N).map (·.s)).length = (XS ++ N).length := List.length_map ..
      have HX : Hid ((XS ++ (N ++ N2)).map (·.s) = S2 ∧ (XS ++ (N ++ N2)).length = S2.length) := ⟨hX, hXl⟩
      have hS2 : S2.length + 1 ≤ k := by omega
      have HR5 : Hid (sl ts f3 (d + 1) k (l ++ [(S2.length : Int)]) E2 (S2 ++ [s1]) = R) := hR1
      have HWY : Hid (w.heap.size ≤ y3.heap.size) := HS.out.ks.kp.low.size
      clear HY hk hst2 hS hrow hfr hR1 hX hXl hml HR HS HO HSEP hr
      unfold stV
      go_wp2_with fail
      refine (addStmt_at HS4.out (by rw [HX.out.2]; omega) s1 aa ab al' s1.args.length s1.body.length s1.els.length ca cb cl' HP0.out.1 (HP0.out.2.mono HWY.out)).mono ?_
      rintro e y5 ⟨rfl, vs5, hs5, hk5⟩
      rw [HX.out.2]
      obtain ⟨W, hW⟩ : ∃ W, y5.alloc (.cells #[iZ (S2.length : Int)] 3) = W := ⟨_, rfl⟩
      obtain ⟨NN, hNN⟩ : ∃ NN, N ++ N2 ++ [(⟨s1, .slice aa s1.args.length ca, .slice ab s1.body.length cb, .slice al' s1.els.length cl'⟩ : Sx)] = NN := ⟨_, rfl⟩
      have HNN : Hid ((XS ++ NN).map (·.s) = S2 ++ [s1] ∧ (XS ++ NN).length = S2.length + 1) := by
        show _ ∧ _
        rw [← hNN, ← List.append_assoc, List.map_append, List.length_append, HX.out.1, HX.out.2]
        exact ⟨rfl, rfl⟩
      rw [hNN] at hs5 HSEP4
      have HS6 : Hid (ST B ts w vs XS bp a c k vd vs5 ve2 (d + 1) NN E2 W) := by show ST _ _ _ _ _ _ _ _ _ _ _ _ _ _ _ _; rw [← hW]; exact hs5.bel (bl1 _ _)
      have HO6 : Hid (W.ownsRow w.heap.size 3 1 (.slice a' l.length c') l.length (l.map iZ)) := by show World.ownsRow _ _ _ _ _ _ _; rw [← hW]; exact row_thru' (row_kp HO4.out hk5.kp (by decide)) (bl1 _ _)
      have HN6 : Hid (∀ (q : Nat) u, ([iZ (S2.length : Int)] : List Value)[q]? = some u → W.cell? ((⟨y5.heap.size, 0, none⟩ : Addr).add q) = some u) := fun q u hu => by
        rw [Addr.add_lit, Nat.zero_add, ← hW]
        exact ncell_at (by simpa using hu)
      have HONE : Hid (∀ u ∈ ([iZ (S2.length : Int)] : List Value), u.oneCell' = true) := by
        intro u hu
        simp only [List.mem_cons, List.not_mem_nil, or_false] at hu
        subst hu; rfl
      have HWS : Hid (w.heap.size ≤ W.heap.size) := HS6.out.ks.kp.low.size
      clear hs5 hk5 HS4 HO4 HP0 HX hNN
      go_wp2_with (first | (at_builtin; refine wpList_append_lies _ rfl _ _ 33 rfl w.heap.size 3 i0 _ 1 8 Tryz.underlying33 hi0 hz0 hz1 hz2 rfl (by decide) (.slice a' l.length c') l.length _ rfl HO6.out ⟨y5.heap.size, 0, none⟩ 1 1 [iZ (S2.length : Int)] rfl rfl HN6.out HONE.out (by decide) (by omega) (by omega) HWS.out _ rfl ?_; intro g4 c4 w4 ho4 hg4 ha4 _; have HG4 : Hid _ := hg4; have HO7 : Hid _ := ho4; have HA4 : Hid _ := ha4; clear hg4 ho4 ha4))
      clear hW
      have HS7 : Hid (ST B ts w vs XS bp a c k vd vs5 ve2 (d + 1) NN E2 w4) := HS6.out.grow HO6.out HG4.out HSEP4.out
      have HSEP7 : Hid (∀ p ∈ XS ++ NN, Sep (.slice (some ⟨g4, 0, none⟩) (l ++ [(S2.length : Int)]).length c4) p) := fun p hp b hb => by
        have hbg : b = g4 := by simpa [Value.ownBlock] using hb.symm
        subst hbg
        rcases HA4.out with h1 | h1
        · exact HSEP4.out p hp b h1
        · exact Sep.past (v := .slice (some ⟨b, 0, none⟩) 0 0) (HS6.out.rr p hp) (fun b' hb' => by
            have : b' = b := by simpa [Value.ownBlock] using hb'.symm
            omega) b rfl
      have HO8 : Hid (w4.ownsRow w.heap.size 3 1 (.slice (some ⟨g4, 0, none⟩) (l ++ [(S2.length : Int)]).length c4) (l ++ [(S2.length : Int)]).length ((l ++ [(S2.length : Int)]).map iZ)) := by
        show World.ownsRow _ _ _ _ _ _ _
        rw [List.length_append, List.map_append]
        exact HO7.out
      have hll2 : (l ++ [(S2.length : Int)]).length ≤ k := by rw [List.length_append]; simp only [List.length_cons, List.length_nil]; omega
      have hlx3 : (XS ++ NN).length ≤ k := by rw [HNN.out.2]; omega
      have hE2 : E2.length ≤ k := by omega
      have HR8 : Hid (sl ts f3 (d + 1) k (l ++ [(S2.length : Int)]) E2 ((XS ++ NN).map (·.s)) = R) := by
        show _ = R
        rw [HNN.out.1]; exact HR5.out
      clear HO7 HG4 HA4 HO6 HS6 HSEP4 HN6 HONE HR5
      try go_wp2_with fail
      go_roundg (ts.length - k)
      case measure => omega
      case rel => exact ⟨l ++ [(S2.length : Int)], k, E2, NN, vs5, ve2, _, c4, f3, rfl, by rw [List.length_append]; rfl, by omega, hE2, hlx3, hll2, by omega, by omega, HO8, HSEP7, HS7, HR8⟩
theorem row_up {B n m k : Nat} {y : World} {e : TypeId} {v : Value} {l : List Value} (h : y.ownsRow B e k v m l) (hf : ∀ b, v.ownBlock = some b → n ≤ b) : y.ownsRow n e k v m l := by
  refine ⟨h.1, ?_⟩
  rcases h.2 with h0 | ⟨g, cap, cur, h1, h2, h3⟩
  · exact .inl h0
  · exact .inr ⟨g, cap, cur, h1, hf g (by rw [h1]; rfl), h3⟩
/-- A choice, behind its word. -/
def chc (ts : List X.Tok) (f d i : Nat) (E : List Exp) (S : List Stmt) : SR := (cnd ts d i E).bind fun q => (blk ts f d q.2.1 q.2.2 S).bind fun b => if (tk ts b.2.1).text = kElse then (blk ts f d (b.2.1 + 1) b.2.2.1 b.2.2.2).bind fun c => some (⟨7, [], [], (q.1 : Int), 0, [], b.1, c.1⟩, c.2.1, c.2.2.1, c.2.2.2) else some (⟨7, [], [], (q.1 : Int), 0, [], b.1, []⟩, b.2.1, b.2.2.1, b.2.2.2)
set_option maxRecDepth 100000 in
set_option maxHeartbeats 2000000 in
theorem choice_any {B : Nat} {ts : List X.Tok} {bp : Nat} {a : Option Addr} {c : Nat} {vd : Value} (G : Good ts) (hB : 8 ≤ B) {f : Nat} (hblk : BlkC B ts bp a c vd f) {vs ve : Value} {XS : List Sx} {i : Nat} (hi : i < ts.length) {w : World} {d : Nat} {E : List Exp} (h : ST B ts w vs XS bp a c i vd vs ve d [] E w) (hd : d ≤ 20) (hl : E.length ≤ i) (hlx : XS.length ≤ i) (he : Env w) (hfu : 3 * (ts.length - i) + 1 ≤ f) : Calls Tryz.prog 119 #[.pointer (some ⟨bp, 0, none⟩)] w (SOut B ts w bp a c vd vs XS d (chc ts f d i E (XS.map (·.s)))) := by
  obtain ⟨R, hR⟩ : ∃ R, chc ts f d i E (XS.map (·.s)) = R := ⟨_, rfl⟩
  have hR0 := hR
  unfold chc at hR0
  have HR : Hid _ := hR0
  rw [hR]
  clear hR hR0
  obtain ⟨W0, hW0⟩ : ∃ W0, w.alloc (.cells #[.int .i64 0, .string { data := #[] }, .string { data := #[] }, .int .i64 0, .int .i64 0, .slice none 0 0, .slice none 0 0, .slice none 0 0] 35) = W0 := ⟨_, rfl⟩
  have HS : Hid (ST B ts w vs XS bp a c i vd vs ve d [] E W0) := by show ST _ _ _ _ _ _ _ _ _ _ _ _ _ _ _ _; rw [← hW0]; exact h.bel (bl1 _ _)
  have HZ : Hid (SB W0 vs w.heap.size w.heap.size [.int .i64 0, .string { data := #[] }, .string { data := #[] }, .int .i64 0, .int .i64 0, .slice none 0 0, .slice none 0 0, .slice none 0 0]) := by show SB _ _ _ _ _; rw [← hW0]; exact SB.new h (Nat.le_refl _)
  have HE : Hid (∀ y, Kp T3 B w y → Env y) := fun y hy => he.kp hy hB
  have HW0 : Hid (w.alloc (.cells #[.int .i64 0, .string { data := #[] }, .string { data := #[] }, .int .i64 0, .int .i64 0, .slice none 0 0, .slice none 0 0, .slice none 0 0] 35) = W0) := hW0
  have hN := G.len
  clear h he hW0
  go_enter Tryz.func119, Tryz.ntmps119
  go_wp2_with fail
  rw [HW0.out]
  clear HW0
  have HC : Hid (Calls Tryz.prog 120 #[.pointer (some ⟨bp, 0, none⟩)] W0 (EOut B ts W0 bp a c vd vs d (cnd ts d i E))) := cond_any G hB hi HS.out.base0 hd (by omega) (HE.out _ HS.out.ks.kp)
  go_wp2_with fail
  refine Calls.mono HC.out ?_
  intro e y hy
  have HY : Hid (EOut B ts W0 bp a c vd vs d (cnd ts d i E) e y) := hy
  clear hy HC
  cases hr : cnd ts d i E with
  | none =>
    have h2 := HY.out
    rw [hr] at h2
    obtain ⟨hk, h3⟩ := h2
    have hR1 := HR.out
    rw [hr] at hR1
    obtain rfl : none = R := hR1
    have h3' : e = _ := h3
    subst h3'
    have HF : Hid (SOut B ts w bp a c vd vs XS d none _ y) := ⟨HS.out.ks.kp.trans (hk.wide (by decide)), h3⟩
    clear h3 HY hk hr HS HR HZ
    go_wp2_with fail
    exact ⟨rfl, HF.out⟩
  | some r =>
    obtain ⟨x, j, E'⟩ := r
    have hlen := cnd_len G hr
    have h2 := HY.out
    rw [hr] at h2
    obtain ⟨hk, rfl, hx⟩ := h2
    have hR1 := HR.out
    rw [hr, Option.bind_some] at hR1
    dsimp only at hR1
    have HR : Hid _ := hR1
    obtain ⟨ve2, hs2⟩ := HS.out.exp hk hx
    have HS : Hid (ST B ts w vs XS bp a c j vd vs ve2 d [] E' y) := hs2
    have HZ : Hid _ := HZ.out.ks (Ks.of2 hk)
    clear hs2 hk hx hR1 HY hr
    obtain ⟨W1, hW1⟩ : ∃ W1, y.alloc (.cells #[.int .i64 7, .string { data := #[] }, .string { data := #[] }, .int .i64 (x : Int), .int .i64 0, .slice none 0 0, .slice none 0 0, .slice none 0 0] 35) = W1 := ⟨_, rfl⟩
    have HA : Hid (SB W1 vs w.heap.size y.heap.size [.int .i64 7, .string { data := #[] }, .string { data := #[] }, .int .i64 (x : Int), .int .i64 0, .slice none 0 0, .slice none 0 0, .slice none 0 0]) := by show SB _ _ _ _ _; rw [← hW1]; exact SB.new HS.out HS.out.ks.kp.low.size
    have HNE : Hid (y.heap.size ≠ w.heap.size) := by show _ ≠ _; have := blk_lt HZ.out.blk; omega
    have HZ : Hid (SB W1 vs w.heap.size w.heap.size [.int .i64 0, .string { data := #[] }, .string { data := #[] }, .int .i64 0, .int .i64 0, .slice none 0 0, .slice none 0 0, .slice none 0 0]) := by show SB _ _ _ _ _; rw [← hW1]; exact HZ.out.bel (bl1 _ _)
    have HS : Hid (ST B ts w vs XS bp a c j vd vs ve2 d [] E' W1) := by show ST _ _ _ _ _ _ _ _ _ _ _ _ _ _ _ _; rw [← hW1]; exact HS.out.bel (bl1 _ _)
    have HW1 : Hid (y.alloc (.cells #[.int .i64 7, .string { data := #[] }, .string { data := #[] }, .int .i64 (x : Int), .int .i64 0, .slice none 0 0, .slice none 0 0, .slice none 0 0] 35) = W1) := hW1
    clear hW1
    go_wp2_with fail
    rw [HW1.out]
    clear HW1
    have HC : Hid (Calls Tryz.prog 77 #[.pointer (some ⟨bp, 0, none⟩)] W1 (BOut B ts W1 bp a c vd vs XS d (blk ts f d j E' (XS.map (·.s))))) := hblk j W1 vs ve2 XS d E' hlen.2.1 HS.out.base0 hd (by omega) (by omega) (HE.out _ HS.out.ks.kp) (by omega)
    go_wp2_with fail
    refine Calls.mono HC.out ?_
    intro e y_1 hy
    have HY : Hid (BOut B ts W1 bp a c vd vs XS d (blk ts f d j E' (XS.map (·.s))) e y_1) := hy
    clear hy HC
    cases hr : blk ts f d j E' (XS.map (·.s)) with
    | none =>
      have h2 := HY.out
      rw [hr] at h2
      obtain ⟨hk, h3⟩ := h2
      have hR1 := HR.out
      rw [hr] at hR1
      obtain rfl : none = R := hR1
      have h3' : e = _ := h3
      subst h3'
      have HF : Hid (SOut B ts w bp a c vd vs XS d none _ y_1) := ⟨HS.out.ks.kp.trans hk, h3⟩
      clear h3 HY hk hr HS HR HZ HA
      go_wp2_with fail
      exact ⟨rfl, HF.out⟩
    | some r =>
      obtain ⟨l1, k1, E1, S1⟩ := r
      have hlen1 := (stm_len G f).1 _ _ _ _ _ _ _ _ hr
      have h2 := HY.out
      rw [hr] at h2
      obtain ⟨hk, vs1, ve1, N1, a1, c1, hst2, hS, rfl, hrow, hfr⟩ := h2
      have hR1 := HR.out
      rw [hr, Option.bind_some] at hR1
      dsimp only at hR1
      have HR : Hid _ := hR1
      have HV : Hid (y_1.ownsRow w.heap.size 3 1 (.slice a1 l1.length c1) l1.length (l1.map iZ)) := row_up hrow fun b hb => Nat.le_trans HS.out.ks.kp.low.size (hfr b hb)
      have HZ : Hid _ := HZ.out.ks hst2.ks
      have HA : Hid _ := HA.out.ks hst2.ks
      have hXl1 : (XS ++ N1).length = S1.length := by rw [← hS, List.length_map]
      have HS : Hid (ST B ts w vs XS bp a c k1 vd vs1 ve1 d N1 E1 y_1) := HS.out.call0 hst2
      have HX1 : Hid ((XS ++ N1).map (·.s) = S1) := hS
      clear hk hst2 hS hrow hfr hR1 HY hr
      have m0 := HA.out.cel 0 _ rfl
      have m1 := HA.out.cel 1 _ rfl
      have m2 := HA.out.cel 2 _ rfl
      have m3 := HA.out.cel 3 _ rfl
      have m4 := HA.out.cel 4 _ rfl
      have m5 := HA.out.cel 5 _ rfl
      have m6 := HA.out.cel 6 _ rfl
      have m7 := HA.out.cel 7 _ rfl
      have zm := HA.out.fro
      obtain ⟨Y1, hY1⟩ : ∃ Y1, y_1.setCell ⟨y.heap.size, 6, none⟩ (.slice a1 l1.length c1) = Y1 := ⟨_, rfl⟩
      have HS : Hid (ST B ts w vs XS bp a c k1 vd vs1 ve1 d N1 E1 Y1) := by show ST _ _ _ _ _ _ _ _ _ _ _ _ _ _ _ _; rw [← hY1]; exact HS.out.box HA.out (Nat.le_refl _) _
      have HZ : Hid (SB Y1 vs1 w.heap.size w.heap.size [.int .i64 0, .string { data := #[] }, .string { data := #[] }, .int .i64 0, .int .i64 0, .slice none 0 0, .slice none 0 0, .slice none 0 0]) := by show SB _ _ _ _ _; rw [← hY1]; exact HZ.out.far HNE.out _
      have HV := row_far (k := 6) (u := .slice a1 l1.length c1) HV.out (row_ne HV.out HA.out.blk (by decide))
      rw [hY1] at HV
      have HV : Hid _ := HV
      have HA : Hid (SB Y1 vs1 w.heap.size y.heap.size [.int .i64 7, .string { data := #[] }, .string { data := #[] }, .int .i64 (x : Int), .int .i64 0, .slice none 0 0, .slice a1 l1.length c1, .slice none 0 0]) := by show SB _ _ _ _ _; rw [← hY1]; exact HA.out.put 6 (.slice a1 l1.length c1)
      go_wp2_with fail
      try rw [hY1]
      clear hY1 m0 m1 m2 m3 m4 m5 m6 m7 zm
      by_cases h5 : (tk ts k1).text = kElse
      · have hml : (XS.map (·.s)).length = XS.length := List.length_map ..
        refine (skip_yes (s := kElse) HS.out.pb hlen1.2.1 h5).mono ?_
        rintro e y2 ⟨rfl, hp1, hk1⟩
        have HR : Hid (_ = R) := (if_pos h5).symm.trans HR.out
        have HS : Hid (ST B ts w vs XS bp a c (k1 + 1) vd vs1 ve1 d N1 E1 y2) := HS.out.tok hp1 hk1
        have HZ : Hid _ := HZ.out.ks (Ks.of1 hk1)
        have HA : Hid _ := HA.out.ks (Ks.of1 hk1)
        have HV : Hid _ := row_kp HV.out hk1 (by decide)
        clear hp1 hk1
        have hk1 : k1 + 1 < ts.length := G.ht k1 (by rw [h5]; decide)
        have hR1 := HR.out
        rw [← HX1.out] at hR1
        have HR : Hid _ := hR1
        clear hR1
        have HC : Hid (Calls Tryz.prog 77 #[.pointer (some ⟨bp, 0, none⟩)] y2 (BOut B ts y2 bp a c vd vs1 (XS ++ N1) d (blk ts f d (k1 + 1) E1 ((XS ++ N1).map (·.s))))) := hblk (k1 + 1) y2 vs1 ve1 (XS ++ N1) d E1 hk1 HS.out.base hd (by omega) (by omega) (HE.out _ HS.out.ks.kp) (by omega)
        go_wp2_with fail
        refine Calls.mono HC.out ?_
        intro e y_2 hy
        have HY : Hid (BOut B ts y2 bp a c vd vs1 (XS ++ N1) d (blk ts f d (k1 + 1) E1 ((XS ++ N1).map (·.s))) e y_2) := hy
        clear hy HC
        cases hr : blk ts f d (k1 + 1) E1 ((XS ++ N1).map (·.s)) with
        | none =>
          have h2 := HY.out
          rw [hr] at h2
          obtain ⟨hk, h3⟩ := h2
          have hR1 := HR.out
          rw [hr] at hR1
          obtain rfl : none = R := hR1
          have h3' : e = _ := h3
          subst h3'
          have HF : Hid (SOut B ts w bp a c vd vs XS d none _ y_2) := ⟨HS.out.ks.kp.trans hk, h3⟩
          clear h3 HY hk hr HS HR HZ HA HV
          go_wp2_with fail
          exact ⟨rfl, HF.out⟩
        | some r =>
          obtain ⟨l2, k2, E2, S2⟩ := r
          have hlen2 := (stm_len G f).1 _ _ _ _ _ _ _ _ hr
          have h2 := HY.out
          rw [hr] at h2
          obtain ⟨hk, vs2, ve2, N2, a2, c2, hst2, hS, rfl, hrow, hfr⟩ := h2
          have hR1 := HR.out
          rw [hr, Option.bind_some] at hR1
          dsimp only at hR1
          have HR : Hid _ := hR1
          have HV2 : Hid (y_2.ownsRow w.heap.size 3 1 (.slice a2 l2.length c2) l2.length (l2.map iZ)) := row_up hrow fun b hb => Nat.le_trans HS.out.ks.kp.low.size (hfr b hb)
          have HZ : Hid _ := HZ.out.ks hst2.ks
          have HA : Hid _ := HA.out.ks hst2.ks
          have HV : Hid _ := row_kp HV.out hst2.ks.kp (by decide)
          have hXl2 : ((XS ++ N1) ++ N2).length = S2.length := by rw [← hS, List.length_map]
          have HS : Hid (ST B ts w vs XS bp a c k2 vd vs2 ve2 d (N1 ++ N2) E2 y_2) := HS.out.call hst2
          have HX2 : Hid (((XS ++ N1) ++ N2).map (·.s) = S2) := hS
          clear hk hst2 hS hrow hfr hR1 HY hr
          have hR1 := HR.out
          obtain rfl : _ = R := hR1
          have HBW : Hid (B ≤ w.heap.size) := HS.out.le0
          have m0 := HA.out.cel 0 _ rfl
          have m1 := HA.out.cel 1 _ rfl
          have m2 := HA.out.cel 2 _ rfl
          have m3 := HA.out.cel 3 _ rfl
          have m4 := HA.out.cel 4 _ rfl
          have m5 := HA.out.cel 5 _ rfl
          have m6 := HA.out.cel 6 _ rfl
          have m7 := HA.out.cel 7 _ rfl
          have zm := HA.out.fro
          obtain ⟨Y3, hY3⟩ : ∃ Y3, y_2.setCell ⟨y.heap.size, 7, none⟩ (.slice a2 l2.length c2) = Y3 := ⟨_, rfl⟩
          have HS : Hid (ST B ts w vs XS bp a c k2 vd vs2 ve2 d (N1 ++ N2) E2 Y3) := by show ST _ _ _ _ _ _ _ _ _ _ _ _ _ _ _ _; rw [← hY3]; exact HS.out.box HA.out (Nat.le_refl _) _
          have HZ : Hid (SB Y3 vs2 w.heap.size w.heap.size [.int .i64 0, .string { data := #[] }, .string { data := #[] }, .int .i64 0, .int .i64 0, .slice none 0 0, .slice none 0 0, .slice none 0 0]) := by show SB _ _ _ _ _; rw [← hY3]; exact HZ.out.far HNE.out _
          have HV := row_far (k := 7) (u := .slice a2 l2.length c2) HV.out (row_ne HV.out HA.out.blk (by decide))
          rw [hY3] at HV
          have HV : Hid _ := HV
          have HV2 := row_far (k := 7) (u := .slice a2 l2.length c2) HV2.out (row_ne HV2.out HA.out.blk (by decide))
          rw [hY3] at HV2
          have HV2 : Hid _ := HV2
          have HA : Hid (SB Y3 vs2 w.heap.size y.heap.size [.int .i64 7, .string { data := #[] }, .string { data := #[] }, .int .i64 (x : Int), .int .i64 0, .slice none 0 0, .slice a1 l1.length c1, .slice a2 l2.length c2]) := by show SB _ _ _ _ _; rw [← hY3]; exact HA.out.put 7 (.slice a2 l2.length c2)
          have q0 := HA.out.cel 0 _ rfl
          have q1 := HA.out.cel 1 _ rfl
          have q2 := HA.out.cel 2 _ rfl
          have q3 := HA.out.cel 3 _ rfl
          have q4 := HA.out.cel 4 _ rfl
          have q5 := HA.out.cel 5 _ rfl
          have q6 := HA.out.cel 6 _ rfl
          have q7 := HA.out.cel 7 _ rfl
          have n0 := HZ.out.cel 0 _ rfl
          have n1 := HZ.out.cel 1 _ rfl
          have n2 := HZ.out.cel 2 _ rfl
          have n3 := HZ.out.cel 3 _ rfl
          have n4 := HZ.out.cel 4 _ rfl
          have n5 := HZ.out.cel 5 _ rfl
          have n6 := HZ.out.cel 6 _ rfl
          have n7 := HZ.out.cel 7 _ rfl
          have zq := HA.out.fro
          have z0 := HZ.out.fro
          go_wp2_with fail
          try rw [hY3]
          refine bodyPost_ret (v := stV ⟨⟨7, [], [], (x : Int), 0, [], l1, l2⟩, .slice none 0 0, .slice a1 l1.length c1, .slice a2 l2.length c2⟩) ?_ rfl ?_
          · simp [results, Tryz.results119, go_sem, n0, n1, n2, n3, n4, n5, n6, n7, z0, stV, str_nil]
          · exact fin8 HS.out HZ.out (Nat.le_refl _) ⟨⟨7, [], [], (x : Int), 0, [], l1, l2⟩, .slice none 0 0, .slice a1 l1.length c1, .slice a2 l2.length c2⟩ (⟨World.ownsRow_nil _ _ _ _, row_low HV.out HBW.out, row_low HV2.out HBW.out⟩) (fun b hb => by rcases hb with hb | hb | hb; cases hb; exact (World.ownsRow.lt (e := 3) (size := 1) HV.out b hb).1; exact (World.ownsRow.lt (e := 3) (size := 1) HV2.out b hb).1) (by rw [← List.append_assoc]; exact HX2.out)
      · refine (skip_no (s := kElse) HS.out.pb hlen1.2.1 h5).mono ?_
        rintro e y2 ⟨rfl, hb1⟩
        have HR : Hid (_ = R) := (if_neg h5).symm.trans HR.out
        have HS : Hid (ST B ts w vs XS bp a c k1 vd vs1 ve1 d N1 E1 y2) := HS.out.bel hb1
        have HZ : Hid _ := HZ.out.bel hb1
        have HA : Hid _ := HA.out.bel hb1
        have HV : Hid _ := row_thru' HV.out hb1
        clear hb1
        have hR1 := HR.out
        obtain rfl : _ = R := hR1
        have HBW : Hid (B ≤ w.heap.size) := HS.out.le0
        have m0 := HA.out.cel 0 _ rfl
        have m1 := HA.out.cel 1 _ rfl
        have m2 := HA.out.cel 2 _ rfl
        have m3 := HA.out.cel 3 _ rfl
        have m4 := HA.out.cel 4 _ rfl
        have m5 := HA.out.cel 5 _ rfl
        have m6 := HA.out.cel 6 _ rfl
        have m7 := HA.out.cel 7 _ rfl
        have n0 := HZ.out.cel 0 _ rfl
        have n1 := HZ.out.cel 1 _ rfl
        have n2 := HZ.out.cel 2 _ rfl
        have n3 := HZ.out.cel 3 _ rfl
        have n4 := HZ.out.cel 4 _ rfl
        have n5 := HZ.out.cel 5 _ rfl
        have n6 := HZ.out.cel 6 _ rfl
        have n7 := HZ.out.cel 7 _ rfl
        have zm := HA.out.fro
        have z0 := HZ.out.fro
        go_wp2_with fail
        refine bodyPost_ret (v := stV ⟨⟨7, [], [], (x : Int), 0, [], l1, []⟩, .slice none 0 0, .slice a1 l1.length c1, .slice none 0 0⟩) ?_ rfl ?_
        · simp [results, Tryz.results119, go_sem, n0, n1, n2, n3, n4, n5, n6, n7, z0, stV, str_nil]
        · exact fin8 HS.out HZ.out (Nat.le_refl _) ⟨⟨7, [], [], (x : Int), 0, [], l1, []⟩, .slice none 0 0, .slice a1 l1.length c1, .slice none 0 0⟩ (⟨World.ownsRow_nil _ _ _ _, row_low HV.out HBW.out, World.ownsRow_nil _ _ _ _⟩) (fun b hb => by rcases hb with hb | hb | hb; cases hb; exact (World.ownsRow.lt (e := 3) (size := 1) HV.out b hb).1; cases hb) (HX1.out)
set_option maxRecDepth 100000 in
set_option maxHeartbeats 2000000 in
theorem stmt_step {B : Nat} {ts : List X.Tok} {bp : Nat} {a : Option Addr} {c : Nat} {vd : Value} (G : Good ts) (hB : 8 ≤ B) {f : Nat} (hblk : BlkC B ts bp a c vd f) : StmC B ts bp a c vd (f + 1) := by
  intro i w vs ve XS d E hi h hd hl hlx he hfu
  obtain ⟨R, hR⟩ : ∃ R, stm ts (f + 1) d i E (XS.map (·.s)) = R := ⟨_, rfl⟩
  have hR0 := hR
  rw [stm] at hR0
  have HR : Hid _ := hR0
  rw [hR]
  clear hR hR0
  obtain ⟨W0, hW0⟩ : ∃ W0, w.alloc (.cells #[.int .i64 0, .string { data := #[] }, .string { data := #[] }, .int .i64 0, .int .i64 0, .slice none 0 0, .slice none 0 0, .slice none 0 0] 35) = W0 := ⟨_, rfl⟩
  have HS : Hid (ST B ts w vs XS bp a c i vd vs ve d [] E W0) := by show ST _ _ _ _ _ _ _ _ _ _ _ _ _ _ _ _; rw [← hW0]; exact h.bel (bl1 _ _)
  have HZ : Hid (SB W0 vs w.heap.size w.heap.size [.int .i64 0, .string { data := #[] }, .string { data := #[] }, .int .i64 0, .int .i64 0, .slice none 0 0, .slice none 0 0, .slice none 0 0]) := by show SB _ _ _ _ _; rw [← hW0]; exact SB.new h (Nat.le_refl _)
  have HE : Hid (∀ y, Kp T3 B w y → Env y) := fun y hy => he.kp hy hB
  have HW0 : Hid (w.alloc (.cells #[.int .i64 0, .string { data := #[] }, .string { data := #[] }, .int .i64 0, .int .i64 0, .slice none 0 0, .slice none 0 0, .slice none 0 0] 35) = W0) := hW0
  have hN := G.len
  clear h he hW0
  go_enter Tryz.func102, Tryz.ntmps102
  go_wp2_with fail
  rw [HW0.out]
  clear HW0
  by_cases h1kVar : (tk ts i).text = kVar
  · refine (skip_yes (s := kVar) HS.out.pb hi h1kVar).mono ?_
    rintro e y1 ⟨rfl, hp1, hk1⟩
    have HR : Hid (_ = R) := (if_pos h1kVar).symm.trans HR.out
    have HS : Hid (ST B ts w vs XS bp a c (i + 1) vd vs ve d [] E y1) := HS.out.tok hp1 hk1
    have HZ : Hid _ := HZ.out.ks (Ks.of1 hk1)
    clear hp1 hk1
    have hi1 : i + 1 < ts.length := G.ht i (by rw [h1kVar]; decide)
    go_wp2_with fail
    by_cases h2 : (tk ts (i + 1)).kind = 2
    rotate_left
    · refine (name_no HS.out.pb hi1 h2).mono ?_
      rintro e y ⟨h3, hb3⟩
      obtain rfl : none = R := (if_neg h2).symm.trans HR.out
      have h3' : e = _ := h3
      subst h3'
      have HF : Hid (SOut B ts w bp a c vd vs XS d none _ y) := ⟨(HS.out.bel hb3).ks.kp, h3⟩
      clear h3 hb3 HS HR HZ
      go_wp2_with fail
      exact ⟨rfl, HF.out⟩
    refine (name_yes HS.out.pb hi1 h2).mono ?_
    rintro e y2 ⟨rfl, hp1, hk1⟩
    have HR : Hid (_ = R) := (if_pos h2).symm.trans HR.out
    have HS : Hid (ST B ts w vs XS bp a c (i + 2) vd vs ve d [] E y2) := HS.out.tok hp1 hk1
    have HZ : Hid _ := HZ.out.ks (Ks.of1 hk1)
    clear hp1 hk1
    have hi2 : i + 2 < ts.length := G.hk (i + 1) (by rw [h2]; decide)
    obtain ⟨W1, hW1⟩ : ∃ W1, y2.alloc (.cells #[.int .i64 1, .string (X.str (tk ts (i + 1)).text), .string { data := #[] }, .int .i64 0, .int .i64 0, .slice none 0 0, .slice none 0 0, .slice none 0 0] 35) = W1 := ⟨_, rfl⟩
    have HA : Hid (SB W1 vs w.heap.size y2.heap.size [.int .i64 1, .string (X.str (tk ts (i + 1)).text), .string { data := #[] }, .int .i64 0, .int .i64 0, .slice none 0 0, .slice none 0 0, .slice none 0 0]) := by show SB _ _ _ _ _; rw [← hW1]; exact SB.new HS.out HS.out.ks.kp.low.size
    have HNE : Hid (y2.heap.size ≠ w.heap.size) := by show _ ≠ _; have := blk_lt HZ.out.blk; omega
    have HZ : Hid (SB W1 vs w.heap.size w.heap.size [.int .i64 0, .string { data := #[] }, .string { data := #[] }, .int .i64 0, .int .i64 0, .slice none 0 0, .slice none 0 0, .slice none 0 0]) := by show SB _ _ _ _ _; rw [← hW1]; exact HZ.out.bel (bl1 _ _)
    have HS : Hid (ST B ts w vs XS bp a c (i + 2) vd vs ve d [] E W1) := by show ST _ _ _ _ _ _ _ _ _ _ _ _ _ _ _ _; rw [← hW1]; exact HS.out.bel (bl1 _ _)
    have HW1 : Hid (y2.alloc (.cells #[.int .i64 1, .string (X.str (tk ts (i + 1)).text), .string { data := #[] }, .int .i64 0, .int .i64 0, .slice none 0 0, .slice none 0 0, .slice none 0 0] 35) = W1) := hW1
    clear hW1
    go_wp2_with fail
    rw [HW1.out]
    clear HW1
    by_cases h5 : (tk ts (i + 2)).text = [61]
    rotate_left
    · refine (want_no (s := [61]) HS.out.pb hi2 h5).mono ?_
      rintro e y ⟨h3, hb3⟩
      obtain rfl : none = R := (if_neg h5).symm.trans HR.out
      have h3' : e = _ := h3
      subst h3'
      have HF : Hid (SOut B ts w bp a c vd vs XS d none _ y) := ⟨(HS.out.bel hb3).ks.kp, h3⟩
      clear h3 hb3 HS HR HZ HA
      go_wp2_with fail
      exact ⟨rfl, HF.out⟩
    refine (want_yes (s := [61]) HS.out.pb hi2 h5).mono ?_
    rintro e y3 ⟨rfl, hp1, hk1⟩
    have HR : Hid (_ = R) := (if_pos h5).symm.trans HR.out
    have HS : Hid (ST B ts w vs XS bp a c (i + 3) vd vs ve d [] E y3) := HS.out.tok hp1 hk1
    have HZ : Hid _ := HZ.out.ks (Ks.of1 hk1)
    have HA : Hid _ := HA.out.ks (Ks.of1 hk1)
    clear hp1 hk1
    have hi3 : i + 3 < ts.length := G.ht (i + 2) (by rw [h5]; simp)
    have m0 := HA.out.cel 0 _ rfl
    have m1 := HA.out.cel 1 _ rfl
    have m2 := HA.out.cel 2 _ rfl
    have m3 := HA.out.cel 3 _ rfl
    have m4 := HA.out.cel 4 _ rfl
    have m5 := HA.out.cel 5 _ rfl
    have m6 := HA.out.cel 6 _ rfl
    have m7 := HA.out.cel 7 _ rfl
    have HC : Hid (Calls Tryz.prog 118 #[.pointer (some ⟨bp, 0, none⟩), .agg #[.int .i64 1, .string (X.str (tk ts (i + 1)).text), .string { data := #[] }, .int .i64 0, .int .i64 0, .slice none 0 0, .slice none 0 0, .slice none 0 0]] y3 (SOut B ts y3 bp a c vd vs XS d R)) := by
      rw [← HR.out]
      exact value_any G hB hi3 HS.out.base0 hd (by omega) (HE.out _ HS.out.ks.kp) ⟨1, (tk ts (i + 1)).text, [], 0, 0, [], [], []⟩ rfl rfl rfl
    go_wp2_with fail
    clear m0 m1 m2 m3 m4 m5 m6 m7
    refine Calls.mono HC.out ?_
    intro e y hy
    have HY : Hid (SOut B ts y3 bp a c vd vs XS d R e y) := hy
    clear hy HC HR
    cases R with
    | none =>
      have h3' : e = _ := HY.out.2
      subst h3'
      have HF : Hid (SOut B ts w bp a c vd vs XS d none _ y) := ⟨HS.out.ks.kp.trans HY.out.1, HY.out.2⟩
      clear HY HS HZ HA
      go_wp2_with fail
      exact ⟨rfl, HF.out⟩
    | some r =>
      obtain ⟨s0, j0, E0, S0⟩ := r
      obtain ⟨hk, vs', ve', N, ⟨s1, va1, vb1, vl1⟩, hst, hS, hs1, rfl, hrow, hfr⟩ := HY.out
      dsimp only at hs1
      subst hs1
      obtain ⟨aa, ca, ab, cb, al', cl', rfl, rfl, rfl⟩ := sxform hrow
      have HFR : Hid (SxR B y ⟨s1, .slice aa s1.args.length ca, .slice ab s1.body.length cb, .slice al' s1.els.length cl'⟩ ∧ Fresh w.heap.size ⟨s1, .slice aa s1.args.length ca, .slice ab s1.body.length cb, .slice al' s1.els.length cl'⟩ ∧ (XS ++ N).map (·.s) = S0) := ⟨hrow, hfr.mono HS.out.ks.kp.low.size, hS⟩
      have HZ : Hid _ := HZ.out.ks hst.ks
      have HS : Hid (ST B ts w vs XS bp a c j0 vd vs' ve' d N E0 y) := HS.out.call0 hst
      clear hk hst hS hrow hfr HY HA
      have n0 := HZ.out.cel 0 _ rfl
      have n1 := HZ.out.cel 1 _ rfl
      have n2 := HZ.out.cel 2 _ rfl
      have n3 := HZ.out.cel 3 _ rfl
      have n4 := HZ.out.cel 4 _ rfl
      have n5 := HZ.out.cel 5 _ rfl
      have n6 := HZ.out.cel 6 _ rfl
      have n7 := HZ.out.cel 7 _ rfl
      have z0 := HZ.out.fro
      unfold stV
      go_wp2_with fail
      refine bodyPost_ret (v := stV ⟨s1, .slice aa s1.args.length ca, .slice ab s1.body.length cb, .slice al' s1.els.length cl'⟩) ?_ rfl ?_
      · simp [results, Tryz.results102, go_sem, n0, n1, n2, n3, n4, n5, n6, n7, z0, stV, str_nil]
      · exact fin8 HS.out HZ.out (Nat.le_refl _) ⟨s1, .slice aa s1.args.length ca, .slice ab s1.body.length cb, .slice al' s1.els.length cl'⟩ HFR.out.1 HFR.out.2.1 HFR.out.2.2
  refine (skip_no (s := kVar) HS.out.pb hi h1kVar).mono ?_
  rintro e y1 ⟨rfl, hb1⟩
  have HR : Hid (_ = R) := (if_neg h1kVar).symm.trans HR.out
  have HS : Hid (ST B ts w vs XS bp a c i vd vs ve d [] E y1) := HS.out.bel hb1
  have HZ : Hid _ := HZ.out.bel hb1
  clear hb1
  go_wp2_with fail
  by_cases h1kIf : (tk ts i).text = kIf
  · refine (skip_yes (s := kIf) HS.out.pb hi h1kIf).mono ?_
    rintro e y2 ⟨rfl, hp1, hk1⟩
    have HR : Hid (_ = R) := (if_pos h1kIf).symm.trans HR.out
    have HS : Hid (ST B ts w vs XS bp a c (i + 1) vd vs ve d [] E y2) := HS.out.tok hp1 hk1
    have HZ : Hid _ := HZ.out.ks (Ks.of1 hk1)
    clear hp1 hk1
    have hi1 : i + 1 < ts.length := G.ht i (by rw [h1kIf]; decide)
    go_wp2_with fail
    have HC : Hid (Calls Tryz.prog 119 #[.pointer (some ⟨bp, 0, none⟩)] y2 (SOut B ts y2 bp a c vd vs XS d R)) := by
      rw [← HR.out]
      exact choice_any G hB hblk hi1 HS.out.base0 hd (by omega) (by omega) (HE.out _ HS.out.ks.kp) (by omega)
    go_wp2_with fail
    refine Calls.mono HC.out ?_
    intro e y hy
    have HY : Hid (SOut B ts y2 bp a c vd vs XS d R e y) := hy
    clear hy HC HR
    cases R with
    | none =>
      have h3' : e = _ := HY.out.2
      subst h3'
      have HF : Hid (SOut B ts w bp a c vd vs XS d none _ y) := ⟨HS.out.ks.kp.trans HY.out.1, HY.out.2⟩
      clear HY HS HZ
      go_wp2_with fail
      exact ⟨rfl, HF.out⟩
    | some r =>
      obtain ⟨s0, j0, E0, S0⟩ := r
      obtain ⟨hk, vs', ve', N, ⟨s1, va1, vb1, vl1⟩, hst, hS, hs1, rfl, hrow, hfr⟩ := HY.out
      dsimp only at hs1
      subst hs1
      obtain ⟨aa, ca, ab, cb, al', cl', rfl, rfl, rfl⟩ := sxform hrow
      have HFR : Hid (SxR B y ⟨s1, .slice aa s1.args.length ca, .slice ab s1.body.length cb, .slice al' s1.els.length cl'⟩ ∧ Fresh w.heap.size ⟨s1, .slice aa s1.args.length ca, .slice ab s1.body.length cb, .slice al' s1.els.length cl'⟩ ∧ (XS ++ N).map (·.s) = S0) := ⟨hrow, hfr.mono HS.out.ks.kp.low.size, hS⟩
      have HZ : Hid _ := HZ.out.ks hst.ks
      have HS : Hid (ST B ts w vs XS bp a c j0 vd vs' ve' d N E0 y) := HS.out.call0 hst
      clear hk hst hS hrow hfr HY 
      have n0 := HZ.out.cel 0 _ rfl
      have n1 := HZ.out.cel 1 _ rfl
      have n2 := HZ.out.cel 2 _ rfl
      have n3 := HZ.out.cel 3 _ rfl
      have n4 := HZ.out.cel 4 _ rfl
      have n5 := HZ.out.cel 5 _ rfl
      have n6 := HZ.out.cel 6 _ rfl
      have n7 := HZ.out.cel 7 _ rfl
      have z0 := HZ.out.fro
      unfold stV
      go_wp2_with fail
      refine bodyPost_ret (v := stV ⟨s1, .slice aa s1.args.length ca, .slice ab s1.body.length cb, .slice al' s1.els.length cl'⟩) ?_ rfl ?_
      · simp [results, Tryz.results102, go_sem, n0, n1, n2, n3, n4, n5, n6, n7, z0, stV, str_nil]
      · exact fin8 HS.out HZ.out (Nat.le_refl _) ⟨s1, .slice aa s1.args.length ca, .slice ab s1.body.length cb, .slice al' s1.els.length cl'⟩ HFR.out.1 HFR.out.2.1 HFR.out.2.2
  refine (skip_no (s := kIf) HS.out.pb hi h1kIf).mono ?_
  rintro e y2 ⟨rfl, hb1⟩
  have HR : Hid (_ = R) := (if_neg h1kIf).symm.trans HR.out
  have HS : Hid (ST B ts w vs XS bp a c i vd vs ve d [] E y2) := HS.out.bel hb1
  have HZ : Hid _ := HZ.out.bel hb1
  clear hb1
  go_wp2_with fail
  by_cases h1kWhile : (tk ts i).text = kWhile
  · refine (skip_yes (s := kWhile) HS.out.pb hi h1kWhile).mono ?_
    rintro e y3 ⟨rfl, hp1, hk1⟩
    have HR : Hid (_ = R) := (if_pos h1kWhile).symm.trans HR.out
    have HS : Hid (ST B ts w vs XS bp a c (i + 1) vd vs ve d [] E y3) := HS.out.tok hp1 hk1
    have HZ : Hid _ := HZ.out.ks (Ks.of1 hk1)
    clear hp1 hk1
    have hi1 : i + 1 < ts.length := G.ht i (by rw [h1kWhile]; decide)
    go_wp2_with fail
    have HC : Hid (Calls Tryz.prog 120 #[.pointer (some ⟨bp, 0, none⟩)] y3 (EOut B ts y3 bp a c vd vs d (cnd ts d (i + 1) E))) := cond_any G hB hi1 HS.out.base0 hd (by omega) (HE.out _ HS.out.ks.kp)
    go_wp2_with fail
    refine Calls.mono HC.out ?_
    intro e y hy
    have HY : Hid (EOut B ts y3 bp a c vd vs d (cnd ts d (i + 1) E) e y) := hy
    clear hy HC
    cases hr : cnd ts d (i + 1) E with
    | none =>
      have h2 := HY.out
      rw [hr] at h2
      obtain ⟨hk, h3⟩ := h2
      have hR1 := HR.out
      rw [hr] at hR1
      obtain rfl : none = R := hR1
      have h3' : e = _ := h3
      subst h3'
      have HF : Hid (SOut B ts w bp a c vd vs XS d none _ y) := ⟨HS.out.ks.kp.trans (hk.wide (by decide)), h3⟩
      clear h3 HY hk hr HS HR HZ
      go_wp2_with fail
      exact ⟨rfl, HF.out⟩
    | some r =>
      obtain ⟨x, j, E'⟩ := r
      have hlen := cnd_len G hr
      have h2 := HY.out
      rw [hr] at h2
      obtain ⟨hk, rfl, hx⟩ := h2
      have hR1 := HR.out
      rw [hr, Option.bind_some] at hR1
      dsimp only at hR1
      have HR : Hid _ := hR1
      obtain ⟨ve2, hs2⟩ := HS.out.exp hk hx
      have HS : Hid (ST B ts w vs XS bp a c j vd vs ve2 d [] E' y) := hs2
      have HZ : Hid _ := HZ.out.ks (Ks.of2 hk)
      clear hs2 hk hx hR1 HY hr
      obtain ⟨W1, hW1⟩ : ∃ W1, y.alloc (.cells #[.int .i64 8, .string { data := #[] }, .string { data := #[] }, .int .i64 (x : Int), .int .i64 0, .slice none 0 0, .slice none 0 0, .slice none 0 0] 35) = W1 := ⟨_, rfl⟩
      have HA : Hid (SB W1 vs w.heap.size y.heap.size [.int .i64 8, .string { data := #[] }, .string { data := #[] }, .int .i64 (x : Int), .int .i64 0, .slice none 0 0, .slice none 0 0, .slice none 0 0]) := by show SB _ _ _ _ _; rw [← hW1]; exact SB.new HS.out HS.out.ks.kp.low.size
      have HNE : Hid (y.heap.size ≠ w.heap.size) := by show _ ≠ _; have := blk_lt HZ.out.blk; omega
      have HZ : Hid (SB W1 vs w.heap.size w.heap.size [.int .i64 0, .string { data := #[] }, .string { data := #[] }, .int .i64 0, .int .i64 0, .slice none 0 0, .slice none 0 0, .slice none 0 0]) := by show SB _ _ _ _ _; rw [← hW1]; exact HZ.out.bel (bl1 _ _)
      have HS : Hid (ST B ts w vs XS bp a c j vd vs ve2 d [] E' W1) := by show ST _ _ _ _ _ _ _ _ _ _ _ _ _ _ _ _; rw [← hW1]; exact HS.out.bel (bl1 _ _)
      have HW1 : Hid (y.alloc (.cells #[.int .i64 8, .string { data := #[] }, .string { data := #[] }, .int .i64 (x : Int), .int .i64 0, .slice none 0 0, .slice none 0 0, .slice none 0 0] 35) = W1) := hW1
      clear hW1
      go_wp2_with fail
      rw [HW1.out]
      clear HW1
      have HC : Hid (Calls Tryz.prog 77 #[.pointer (some ⟨bp, 0, none⟩)] W1 (BOut B ts W1 bp a c vd vs XS d (blk ts f d j E' (XS.map (·.s))))) := hblk j W1 vs ve2 XS d E' hlen.2.1 HS.out.base0 hd (by omega) (by omega) (HE.out _ HS.out.ks.kp) (by omega)
      go_wp2_with fail
      refine Calls.mono HC.out ?_
      intro e y_1 hy
      have HY : Hid (BOut B ts W1 bp a c vd vs XS d (blk ts f d j E' (XS.map (·.s))) e y_1) := hy
      clear hy HC
      cases hr : blk ts f d j E' (XS.map (·.s)) with
      | none =>
        have h2 := HY.out
        rw [hr] at h2
        obtain ⟨hk, h3⟩ := h2
        have hR1 := HR.out
        rw [hr] at hR1
        obtain rfl : none = R := hR1
        have h3' : e = _ := h3
        subst h3'
        have HF : Hid (SOut B ts w bp a c vd vs XS d none _ y_1) := ⟨HS.out.ks.kp.trans hk, h3⟩
        clear h3 HY hk hr HS HR HZ HA
        go_wp2_with fail
        exact ⟨rfl, HF.out⟩
      | some r =>
        obtain ⟨l1, k1, E1, S1⟩ := r
        have hlen1 := (stm_len G f).1 _ _ _ _ _ _ _ _ hr
        have h2 := HY.out
        rw [hr] at h2
        obtain ⟨hk, vs1, ve1, N1, a1, c1, hst2, hS, rfl, hrow, hfr⟩ := h2
        have hR1 := HR.out
        rw [hr, Option.bind_some] at hR1
        dsimp only at hR1
        have HR : Hid _ := hR1
        have HV : Hid (y_1.ownsRow w.heap.size 3 1 (.slice a1 l1.length c1) l1.length (l1.map iZ)) := row_up hrow fun b hb => Nat.le_trans HS.out.ks.kp.low.size (hfr b hb)
        have HZ : Hid _ := HZ.out.ks hst2.ks
        have HA : Hid _ := HA.out.ks hst2.ks
        have hXl1 : (XS ++ N1).length = S1.length := by rw [← hS, List.length_map]
        have HS : Hid (ST B ts w vs XS bp a c k1 vd vs1 ve1 d N1 E1 y_1) := HS.out.call0 hst2
        have HX1 : Hid ((XS ++ N1).map (·.s) = S1) := hS
        clear hk hst2 hS hrow hfr hR1 HY hr
        have hR1 := HR.out
        obtain rfl : _ = R := hR1
        have HBW : Hid (B ≤ w.heap.size) := HS.out.le0
        have m0 := HA.out.cel 0 _ rfl
        have m1 := HA.out.cel 1 _ rfl
        have m2 := HA.out.cel 2 _ rfl
        have m3 := HA.out.cel 3 _ rfl
        have m4 := HA.out.cel 4 _ rfl
        have m5 := HA.out.cel 5 _ rfl
        have m6 := HA.out.cel 6 _ rfl
        have m7 := HA.out.cel 7 _ rfl
        have zm := HA.out.fro
        obtain ⟨Y4, hY4⟩ : ∃ Y4, y_1.setCell ⟨y.heap.size, 6, none⟩ (.slice a1 l1.length c1) = Y4 := ⟨_, rfl⟩
        have HS : Hid (ST B ts w vs XS bp a c k1 vd vs1 ve1 d N1 E1 Y4) := by show ST _ _ _ _ _ _ _ _ _ _ _ _ _ _ _ _; rw [← hY4]; exact HS.out.box HA.out (Nat.le_refl _) _
        have HZ : Hid (SB Y4 vs1 w.heap.size w.heap.size [.int .i64 0, .string { data := #[] }, .string { data := #[] }, .int .i64 0, .int .i64 0, .slice none 0 0, .slice none 0 0, .slice none 0 0]) := by show SB _ _ _ _ _; rw [← hY4]; exact HZ.out.far HNE.out _
        have HV := row_far (k := 6) (u := .slice a1 l1.length c1) HV.out (row_ne HV.out HA.out.blk (by decide))
        rw [hY4] at HV
        have HV : Hid _ := HV
        have HA : Hid (SB Y4 vs1 w.heap.size y.heap.size [.int .i64 8, .string { data := #[] }, .string { data := #[] }, .int .i64 (x : Int), .int .i64 0, .slice none 0 0, .slice a1 l1.length c1, .slice none 0 0]) := by show SB _ _ _ _ _; rw [← hY4]; exact HA.out.put 6 (.slice a1 l1.length c1)
        have q0 := HA.out.cel 0 _ rfl
        have q1 := HA.out.cel 1 _ rfl
        have q2 := HA.out.cel 2 _ rfl
        have q3 := HA.out.cel 3 _ rfl
        have q4 := HA.out.cel 4 _ rfl
        have q5 := HA.out.cel 5 _ rfl
        have q6 := HA.out.cel 6 _ rfl
        have q7 := HA.out.cel 7 _ rfl
        have n0 := HZ.out.cel 0 _ rfl
        have n1 := HZ.out.cel 1 _ rfl
        have n2 := HZ.out.cel 2 _ rfl
        have n3 := HZ.out.cel 3 _ rfl
        have n4 := HZ.out.cel 4 _ rfl
        have n5 := HZ.out.cel 5 _ rfl
        have n6 := HZ.out.cel 6 _ rfl
        have n7 := HZ.out.cel 7 _ rfl
        have zq := HA.out.fro
        have z0 := HZ.out.fro
        go_wp2_with fail
        try rw [hY4]
        refine bodyPost_ret (v := stV ⟨⟨8, [], [], (x : Int), 0, [], l1, []⟩, .slice none 0 0, .slice a1 l1.length c1, .slice none 0 0⟩) ?_ rfl ?_
        · simp [results, Tryz.results102, go_sem, n0, n1, n2, n3, n4, n5, n6, n7, z0, stV, str_nil]
        · exact fin8 HS.out HZ.out (Nat.le_refl _) ⟨⟨8, [], [], (x : Int), 0, [], l1, []⟩, .slice none 0 0, .slice a1 l1.length c1, .slice none 0 0⟩ (⟨World.ownsRow_nil _ _ _ _, row_low HV.out HBW.out, World.ownsRow_nil _ _ _ _⟩) (fun b hb => by rcases hb with hb | hb | hb; cases hb; exact (World.ownsRow.lt (e := 3) (size := 1) HV.out b hb).1; cases hb) (HX1.out)
  refine (skip_no (s := kWhile) HS.out.pb hi h1kWhile).mono ?_
  rintro e y3 ⟨rfl, hb1⟩
  have HR : Hid (_ = R) := (if_neg h1kWhile).symm.trans HR.out
  have HS : Hid (ST B ts w vs XS bp a c i vd vs ve d [] E y3) := HS.out.bel hb1
  have HZ : Hid _ := HZ.out.bel hb1
  clear hb1
  go_wp2_with fail
  by_cases h1kWith : (tk ts i).text = kWith
  · refine (skip_yes (s := kWith) HS.out.pb hi h1kWith).mono ?_
    rintro e y4 ⟨rfl, hp1, hk1⟩
    have HR : Hid (_ = R) := (if_pos h1kWith).symm.trans HR.out
    have HS : Hid (ST B ts w vs XS bp a c (i + 1) vd vs ve d [] E y4) := HS.out.tok hp1 hk1
    have HZ : Hid _ := HZ.out.ks (Ks.of1 hk1)
    clear hp1 hk1
    have hi1 : i + 1 < ts.length := G.ht i (by rw [h1kWith]; decide)
    go_wp2_with fail
    by_cases h2 : (tk ts (i + 1)).kind = 2
    rotate_left
    · refine (name_no HS.out.pb hi1 h2).mono ?_
      rintro e y ⟨h3, hb3⟩
      obtain rfl : none = R := (if_neg h2).symm.trans HR.out
      have h3' : e = _ := h3
      subst h3'
      have HF : Hid (SOut B ts w bp a c vd vs XS d none _ y) := ⟨(HS.out.bel hb3).ks.kp, h3⟩
      clear h3 hb3 HS HR HZ
      go_wp2_with fail
      exact ⟨rfl, HF.out⟩
    refine (name_yes HS.out.pb hi1 h2).mono ?_
    rintro e y5 ⟨rfl, hp1, hk1⟩
    have HR : Hid (_ = R) := (if_pos h2).symm.trans HR.out
    have HS : Hid (ST B ts w vs XS bp a c (i + 2) vd vs ve d [] E y5) := HS.out.tok hp1 hk1
    have HZ : Hid _ := HZ.out.ks (Ks.of1 hk1)
    clear hp1 hk1
    have hi2 : i + 2 < ts.length := G.hk (i + 1) (by rw [h2]; decide)
    obtain ⟨W1, hW1⟩ : ∃ W1, y5.alloc (.cells #[.int .i64 9, .string (X.str (tk ts (i + 1)).text), .string { data := #[] }, .int .i64 0, .int .i64 0, .slice none 0 0, .slice none 0 0, .slice none 0 0] 35) = W1 := ⟨_, rfl⟩
    have HA : Hid (SB W1 vs w.heap.size y5.heap.size [.int .i64 9, .string (X.str (tk ts (i + 1)).text), .string { data := #[] }, .int .i64 0, .int .i64 0, .slice none 0 0, .slice none 0 0, .slice none 0 0]) := by show SB _ _ _ _ _; rw [← hW1]; exact SB.new HS.out HS.out.ks.kp.low.size
    have HNE : Hid (y5.heap.size ≠ w.heap.size) := by show _ ≠ _; have := blk_lt HZ.out.blk; omega
    have HZ : Hid (SB W1 vs w.heap.size w.heap.size [.int .i64 0, .string { data := #[] }, .string { data := #[] }, .int .i64 0, .int .i64 0, .slice none 0 0, .slice none 0 0, .slice none 0 0]) := by show SB _ _ _ _ _; rw [← hW1]; exact HZ.out.bel (bl1 _ _)
    have HS : Hid (ST B ts w vs XS bp a c (i + 2) vd vs ve d [] E W1) := by show ST _ _ _ _ _ _ _ _ _ _ _ _ _ _ _ _; rw [← hW1]; exact HS.out.bel (bl1 _ _)
    have HW1 : Hid (y5.alloc (.cells #[.int .i64 9, .string (X.str (tk ts (i + 1)).text), .string { data := #[] }, .int .i64 0, .int .i64 0, .slice none 0 0, .slice none 0 0, .slice none 0 0] 35) = W1) := hW1
    clear hW1
    go_wp2_with fail
    rw [HW1.out]
    clear HW1
    have HC : Hid (Calls Tryz.prog 77 #[.pointer (some ⟨bp, 0, none⟩)] W1 (BOut B ts W1 bp a c vd vs XS d (blk ts f d (i + 2) E (XS.map (·.s))))) := hblk (i + 2) W1 vs ve XS d E hi2 HS.out.base0 hd (by omega) (by omega) (HE.out _ HS.out.ks.kp) (by omega)
    go_wp2_with fail
    refine Calls.mono HC.out ?_
    intro e y_1 hy
    have HY : Hid (BOut B ts W1 bp a c vd vs XS d (blk ts f d (i + 2) E (XS.map (·.s))) e y_1) := hy
    clear hy HC
    cases hr : blk ts f d (i + 2) E (XS.map (·.s)) with
    | none =>
      have h2 := HY.out
      rw [hr] at h2
      obtain ⟨hk, h3⟩ := h2
      have hR1 := HR.out
      rw [hr] at hR1
      obtain rfl : none = R := hR1
      have h3' : e = _ := h3
      subst h3'
      have HF : Hid (SOut B ts w bp a c vd vs XS d none _ y_1) := ⟨HS.out.ks.kp.trans hk, h3⟩
      clear h3 HY hk hr HS HR HZ HA
      go_wp2_with fail
      exact ⟨rfl, HF.out⟩
    | some r =>
      obtain ⟨l1, k1, E1, S1⟩ := r
      have hlen1 := (stm_len G f).1 _ _ _ _ _ _ _ _ hr
      have h2 := HY.out
      rw [hr] at h2
      obtain ⟨hk, vs1, ve1, N1, a1, c1, hst2, hS, rfl, hrow, hfr⟩ := h2
      have hR1 := HR.out
      rw [hr, Option.bind_some] at hR1
      dsimp only at hR1
      have HR : Hid _ := hR1
      have HV : Hid (y_1.ownsRow w.heap.size 3 1 (.slice a1 l1.length c1) l1.length (l1.map iZ)) := row_up hrow fun b hb => Nat.le_trans HS.out.ks.kp.low.size (hfr b hb)
      have HZ : Hid _ := HZ.out.ks hst2.ks
      have HA : Hid _ := HA.out.ks hst2.ks
      have hXl1 : (XS ++ N1).length = S1.length := by rw [← hS, List.length_map]
      have HS : Hid (ST B ts w vs XS bp a c k1 vd vs1 ve1 d N1 E1 y_1) := HS.out.call0 hst2
      have HX1 : Hid ((XS ++ N1).map (·.s) = S1) := hS
      clear hk hst2 hS hrow hfr hR1 HY hr
      have hR1 := HR.out
      obtain rfl : _ = R := hR1
      have HBW : Hid (B ≤ w.heap.size) := HS.out.le0
      have m0 := HA.out.cel 0 _ rfl
      have m1 := HA.out.cel 1 _ rfl
      have m2 := HA.out.cel 2 _ rfl
      have m3 := HA.out.cel 3 _ rfl
      have m4 := HA.out.cel 4 _ rfl
      have m5 := HA.out.cel 5 _ rfl
      have m6 := HA.out.cel 6 _ rfl
      have m7 := HA.out.cel 7 _ rfl
      have zm := HA.out.fro
      obtain ⟨Y6, hY6⟩ : ∃ Y6, y_1.setCell ⟨y5.heap.size, 6, none⟩ (.slice a1 l1.length c1) = Y6 := ⟨_, rfl⟩
      have HS : Hid (ST B ts w vs XS bp a c k1 vd vs1 ve1 d N1 E1 Y6) := by show ST _ _ _ _ _ _ _ _ _ _ _ _ _ _ _ _; rw [← hY6]; exact HS.out.box HA.out (Nat.le_refl _) _
      have HZ : Hid (SB Y6 vs1 w.heap.size w.heap.size [.int .i64 0, .string { data := #[] }, .string { data := #[] }, .int .i64 0, .int .i64 0, .slice none 0 0, .slice none 0 0, .slice none 0 0]) := by show SB _ _ _ _ _; rw [← hY6]; exact HZ.out.far HNE.out _
      have HV := row_far (k := 6) (u := .slice a1 l1.length c1) HV.out (row_ne HV.out HA.out.blk (by decide))
      rw [hY6] at HV
      have HV : Hid _ := HV
      have HA : Hid (SB Y6 vs1 w.heap.size y5.heap.size [.int .i64 9, .string (X.str (tk ts (i + 1)).text), .string { data := #[] }, .int .i64 0, .int .i64 0, .slice none 0 0, .slice a1 l1.length c1, .slice none 0 0]) := by show SB _ _ _ _ _; rw [← hY6]; exact HA.out.put 6 (.slice a1 l1.length c1)
      have q0 := HA.out.cel 0 _ rfl
      have q1 := HA.out.cel 1 _ rfl
      have q2 := HA.out.cel 2 _ rfl
      have q3 := HA.out.cel 3 _ rfl
      have q4 := HA.out.cel 4 _ rfl
      have q5 := HA.out.cel 5 _ rfl
      have q6 := HA.out.cel 6 _ rfl
      have q7 := HA.out.cel 7 _ rfl
      have n0 := HZ.out.cel 0 _ rfl
      have n1 := HZ.out.cel 1 _ rfl
      have n2 := HZ.out.cel 2 _ rfl
      have n3 := HZ.out.cel 3 _ rfl
      have n4 := HZ.out.cel 4 _ rfl
      have n5 := HZ.out.cel 5 _ rfl
      have n6 := HZ.out.cel 6 _ rfl
      have n7 := HZ.out.cel 7 _ rfl
      have zq := HA.out.fro
      have z0 := HZ.out.fro
      go_wp2_with fail
      try rw [hY6]
      refine bodyPost_ret (v := stV ⟨⟨9, (tk ts (i + 1)).text, [], 0, 0, [], l1, []⟩, .slice none 0 0, .slice a1 l1.length c1, .slice none 0 0⟩) ?_ rfl ?_
      · simp [results, Tryz.results102, go_sem, n0, n1, n2, n3, n4, n5, n6, n7, z0, stV, str_nil]
      · exact fin8 HS.out HZ.out (Nat.le_refl _) ⟨⟨9, (tk ts (i + 1)).text, [], 0, 0, [], l1, []⟩, .slice none 0 0, .slice a1 l1.length c1, .slice none 0 0⟩ (⟨World.ownsRow_nil _ _ _ _, row_low HV.out HBW.out, World.ownsRow_nil _ _ _ _⟩) (fun b hb => by rcases hb with hb | hb | hb; cases hb; exact (World.ownsRow.lt (e := 3) (size := 1) HV.out b hb).1; cases hb) (HX1.out)
  refine (skip_no (s := kWith) HS.out.pb hi h1kWith).mono ?_
  rintro e y4 ⟨rfl, hb1⟩
  have HR : Hid (_ = R) := (if_neg h1kWith).symm.trans HR.out
  have HS : Hid (ST B ts w vs XS bp a c i vd vs ve d [] E y4) := HS.out.bel hb1
  have HZ : Hid _ := HZ.out.bel hb1
  clear hb1
  go_wp2_with fail
  by_cases h1kPrint : (tk ts i).text = kPrint
  · refine (skip_yes (s := kPrint) HS.out.pb hi h1kPrint).mono ?_
    rintro e y5 ⟨rfl, hp1, hk1⟩
    have HR : Hid (_ = R) := (if_pos h1kPrint).symm.trans HR.out
    have HS : Hid (ST B ts w vs XS bp a c (i + 1) vd vs ve d [] E y5) := HS.out.tok hp1 hk1
    have HZ : Hid _ := HZ.out.ks (Ks.of1 hk1)
    clear hp1 hk1
    have hi1 : i + 1 < ts.length := G.ht i (by rw [h1kPrint]; decide)
    have HC : Hid (Calls Tryz.prog 118 #[.pointer (some ⟨bp, 0, none⟩), .agg #[.int .i64 10, .string { data := #[] }, .string { data := #[] }, .int .i64 0, .int .i64 0, .slice none 0 0, .slice none 0 0, .slice none 0 0]] y5 (SOut B ts y5 bp a c vd vs XS d R)) := by
      rw [← HR.out]
      exact value_any G hB hi1 HS.out.base0 hd (by omega) (HE.out _ HS.out.ks.kp) ⟨10, [], [], 0, 0, [], [], []⟩ rfl rfl rfl
    go_wp2_with fail
    refine Calls.mono HC.out ?_
    intro e y hy
    have HY : Hid (SOut B ts y5 bp a c vd vs XS d R e y) := hy
    clear hy HC HR
    cases R with
    | none =>
      have h3' : e = _ := HY.out.2
      subst h3'
      have HF : Hid (SOut B ts w bp a c vd vs XS d none _ y) := ⟨HS.out.ks.kp.trans HY.out.1, HY.out.2⟩
      clear HY HS HZ
      go_wp2_with fail
      exact ⟨rfl, HF.out⟩
    | some r =>
      obtain ⟨s0, j0, E0, S0⟩ := r
      obtain ⟨hk, vs', ve', N, ⟨s1, va1, vb1, vl1⟩, hst, hS, hs1, rfl, hrow, hfr⟩ := HY.out
      dsimp only at hs1
      subst hs1
      obtain ⟨aa, ca, ab, cb, al', cl', rfl, rfl, rfl⟩ := sxform hrow
      have HFR : Hid (SxR B y ⟨s1, .slice aa s1.args.length ca, .slice ab s1.body.length cb, .slice al' s1.els.length cl'⟩ ∧ Fresh w.heap.size ⟨s1, .slice aa s1.args.length ca, .slice ab s1.body.length cb, .slice al' s1.els.length cl'⟩ ∧ (XS ++ N).map (·.s) = S0) := ⟨hrow, hfr.mono HS.out.ks.kp.low.size, hS⟩
      have HZ : Hid _ := HZ.out.ks hst.ks
      have HS : Hid (ST B ts w vs XS bp a c j0 vd vs' ve' d N E0 y) := HS.out.call0 hst
      clear hk hst hS hrow hfr HY 
      have n0 := HZ.out.cel 0 _ rfl
      have n1 := HZ.out.cel 1 _ rfl
      have n2 := HZ.out.cel 2 _ rfl
      have n3 := HZ.out.cel 3 _ rfl
      have n4 := HZ.out.cel 4 _ rfl
      have n5 := HZ.out.cel 5 _ rfl
      have n6 := HZ.out.cel 6 _ rfl
      have n7 := HZ.out.cel 7 _ rfl
      have z0 := HZ.out.fro
      unfold stV
      go_wp2_with fail
      refine bodyPost_ret (v := stV ⟨s1, .slice aa s1.args.length ca, .slice ab s1.body.length cb, .slice al' s1.els.length cl'⟩) ?_ rfl ?_
      · simp [results, Tryz.results102, go_sem, n0, n1, n2, n3, n4, n5, n6, n7, z0, stV, str_nil]
      · exact fin8 HS.out HZ.out (Nat.le_refl _) ⟨s1, .slice aa s1.args.length ca, .slice ab s1.body.length cb, .slice al' s1.els.length cl'⟩ HFR.out.1 HFR.out.2.1 HFR.out.2.2
  refine (skip_no (s := kPrint) HS.out.pb hi h1kPrint).mono ?_
  rintro e y5 ⟨rfl, hb1⟩
  have HR : Hid (_ = R) := (if_neg h1kPrint).symm.trans HR.out
  have HS : Hid (ST B ts w vs XS bp a c i vd vs ve d [] E y5) := HS.out.bel hb1
  have HZ : Hid _ := HZ.out.bel hb1
  clear hb1
  go_wp2_with fail
  by_cases h1kReturn : (tk ts i).text = kReturn
  · refine (skip_yes (s := kReturn) HS.out.pb hi h1kReturn).mono ?_
    rintro e y6 ⟨rfl, hp1, hk1⟩
    have HR : Hid (_ = R) := (if_pos h1kReturn).symm.trans HR.out
    have HS : Hid (ST B ts w vs XS bp a c (i + 1) vd vs ve d [] E y6) := HS.out.tok hp1 hk1
    have HZ : Hid _ := HZ.out.ks (Ks.of1 hk1)
    clear hp1 hk1
    have hi1 : i + 1 < ts.length := G.ht i (by rw [h1kReturn]; decide)
    have HC : Hid (Calls Tryz.prog 118 #[.pointer (some ⟨bp, 0, none⟩), .agg #[.int .i64 11, .string { data := #[] }, .string { data := #[] }, .int .i64 0, .int .i64 0, .slice none 0 0, .slice none 0 0, .slice none 0 0]] y6 (SOut B ts y6 bp a c vd vs XS d R)) := by
      rw [← HR.out]
      exact value_any G hB hi1 HS.out.base0 hd (by omega) (HE.out _ HS.out.ks.kp) ⟨11, [], [], 0, 0, [], [], []⟩ rfl rfl rfl
    go_wp2_with fail
    refine Calls.mono HC.out ?_
    intro e y hy
    have HY : Hid (SOut B ts y6 bp a c vd vs XS d R e y) := hy
    clear hy HC HR
    cases R with
    | none =>
      have h3' : e = _ := HY.out.2
      subst h3'
      have HF : Hid (SOut B ts w bp a c vd vs XS d none _ y) := ⟨HS.out.ks.kp.trans HY.out.1, HY.out.2⟩
      clear HY HS HZ
      go_wp2_with fail
      exact ⟨rfl, HF.out⟩
    | some r =>
      obtain ⟨s0, j0, E0, S0⟩ := r
      obtain ⟨hk, vs', ve', N, ⟨s1, va1, vb1, vl1⟩, hst, hS, hs1, rfl, hrow, hfr⟩ := HY.out
      dsimp only at hs1
      subst hs1
      obtain ⟨aa, ca, ab, cb, al', cl', rfl, rfl, rfl⟩ := sxform hrow
      have HFR : Hid (SxR B y ⟨s1, .slice aa s1.args.length ca, .slice ab s1.body.length cb, .slice al' s1.els.length cl'⟩ ∧ Fresh w.heap.size ⟨s1, .slice aa s1.args.length ca, .slice ab s1.body.length cb, .slice al' s1.els.length cl'⟩ ∧ (XS ++ N).map (·.s) = S0) := ⟨hrow, hfr.mono HS.out.ks.kp.low.size, hS⟩
      have HZ : Hid _ := HZ.out.ks hst.ks
      have HS : Hid (ST B ts w vs XS bp a c j0 vd vs' ve' d N E0 y) := HS.out.call0 hst
      clear hk hst hS hrow hfr HY 
      have n0 := HZ.out.cel 0 _ rfl
      have n1 := HZ.out.cel 1 _ rfl
      have n2 := HZ.out.cel 2 _ rfl
      have n3 := HZ.out.cel 3 _ rfl
      have n4 := HZ.out.cel 4 _ rfl
      have n5 := HZ.out.cel 5 _ rfl
      have n6 := HZ.out.cel 6 _ rfl
      have n7 := HZ.out.cel 7 _ rfl
      have z0 := HZ.out.fro
      unfold stV
      go_wp2_with fail
      refine bodyPost_ret (v := stV ⟨s1, .slice aa s1.args.length ca, .slice ab s1.body.length cb, .slice al' s1.els.length cl'⟩) ?_ rfl ?_
      · simp [results, Tryz.results102, go_sem, n0, n1, n2, n3, n4, n5, n6, n7, z0, stV, str_nil]
      · exact fin8 HS.out HZ.out (Nat.le_refl _) ⟨s1, .slice aa s1.args.length ca, .slice ab s1.body.length cb, .slice al' s1.els.length cl'⟩ HFR.out.1 HFR.out.2.1 HFR.out.2.2
  refine (skip_no (s := kReturn) HS.out.pb hi h1kReturn).mono ?_
  rintro e y6 ⟨rfl, hb1⟩
  have HR : Hid (_ = R) := (if_neg h1kReturn).symm.trans HR.out
  have HS : Hid (ST B ts w vs XS bp a c i vd vs ve d [] E y6) := HS.out.bel hb1
  have HZ : Hid _ := HZ.out.bel hb1
  clear hb1
  obtain ⟨ic, hic⟩ : ∃ ic, isC ts i = ic := ⟨_, rfl⟩
  have HIC : Hid (Calls Tryz.prog 121 #[.pointer (some ⟨bp, 0, none⟩)] y6 fun e w' => e = .returned (.bool ic) ∧ Below y6.heap.size y6 w') := by
    rw [← hic]
    exact isCall_any G hB hi HS.out.base0
  have hR1 := HR.out
  rw [hic] at hR1
  have HR : Hid _ := hR1
  clear hR1 hic
  go_wp2_with fail
  refine HIC.out.mono ?_
  rintro e y7 ⟨rfl, hb1⟩
  clear HIC
  have HS : Hid (ST B ts w vs XS bp a c i vd vs ve d [] E y7) := HS.out.bel hb1
  have HZ : Hid _ := HZ.out.bel hb1
  clear hb1
  cases ic with
  | true =>
    have HR : Hid (_ = R) := (if_pos rfl).symm.trans HR.out
    have HC : Hid (Calls Tryz.prog 122 #[.pointer (some ⟨bp, 0, none⟩), .string { data := #[] }] y7 (SOut B ts y7 bp a c vd vs XS d R)) := by
      rw [← HR.out]
      exact call_any G hB hi HS.out.base0 hd hl (HE.out _ HS.out.ks.kp) []
    go_wp2_with fail
    refine Calls.mono HC.out ?_
    intro e y hy
    have HY : Hid (SOut B ts y7 bp a c vd vs XS d R e y) := hy
    clear hy HC HR
    cases R with
    | none =>
      have h3' : e = _ := HY.out.2
      subst h3'
      have HF : Hid (SOut B ts w bp a c vd vs XS d none _ y) := ⟨HS.out.ks.kp.trans HY.out.1, HY.out.2⟩
      clear HY HS HZ
      go_wp2_with fail
      exact ⟨rfl, HF.out⟩
    | some r =>
      obtain ⟨s0, j0, E0, S0⟩ := r
      obtain ⟨hk, vs', ve', N, ⟨s1, va1, vb1, vl1⟩, hst, hS, hs1, rfl, hrow, hfr⟩ := HY.out
      dsimp only at hs1
      subst hs1
      obtain ⟨aa, ca, ab, cb, al', cl', rfl, rfl, rfl⟩ := sxform hrow
      have HFR : Hid (SxR B y ⟨s1, .slice aa s1.args.length ca, .slice ab s1.body.length cb, .slice al' s1.els.length cl'⟩ ∧ Fresh w.heap.size ⟨s1, .slice aa s1.args.length ca, .slice ab s1.body.length cb, .slice al' s1.els.length cl'⟩ ∧ (XS ++ N).map (·.s) = S0) := ⟨hrow, hfr.mono HS.out.ks.kp.low.size, hS⟩
      have HZ : Hid _ := HZ.out.ks hst.ks
      have HS : Hid (ST B ts w vs XS bp a c j0 vd vs' ve' d N E0 y) := HS.out.call0 hst
      clear hk hst hS hrow hfr HY 
      have n0 := HZ.out.cel 0 _ rfl
      have n1 := HZ.out.cel 1 _ rfl
      have n2 := HZ.out.cel 2 _ rfl
      have n3 := HZ.out.cel 3 _ rfl
      have n4 := HZ.out.cel 4 _ rfl
      have n5 := HZ.out.cel 5 _ rfl
      have n6 := HZ.out.cel 6 _ rfl
      have n7 := HZ.out.cel 7 _ rfl
      have z0 := HZ.out.fro
      unfold stV
      go_wp2_with fail
      refine bodyPost_ret (v := stV ⟨s1, .slice aa s1.args.length ca, .slice ab s1.body.length cb, .slice al' s1.els.length cl'⟩) ?_ rfl ?_
      · simp [results, Tryz.results102, go_sem, n0, n1, n2, n3, n4, n5, n6, n7, z0, stV, str_nil]
      · exact fin8 HS.out HZ.out (Nat.le_refl _) ⟨s1, .slice aa s1.args.length ca, .slice ab s1.body.length cb, .slice al' s1.els.length cl'⟩ HFR.out.1 HFR.out.2.1 HFR.out.2.2
  | false =>
    have HR : Hid (_ = R) := (if_neg (by simp)).symm.trans HR.out
    have HC : Hid (Calls Tryz.prog 123 #[.pointer (some ⟨bp, 0, none⟩)] y7 (SOut B ts y7 bp a c vd vs XS d R)) := by
      rw [← HR.out]
      exact set_any G hB hi HS.out.base0 hd hl (HE.out _ HS.out.ks.kp)
    go_wp2_with fail
    refine Calls.mono HC.out ?_
    intro e y hy
    have HY : Hid (SOut B ts y7 bp a c vd vs XS d R e y) := hy
    clear hy HC HR
    cases R with
    | none =>
      have h3' : e = _ := HY.out.2
      subst h3'
      have HF : Hid (SOut B ts w bp a c vd vs XS d none _ y) := ⟨HS.out.ks.kp.trans HY.out.1, HY.out.2⟩
      clear HY HS HZ
      go_wp2_with fail
      exact ⟨rfl, HF.out⟩
    | some r =>
      obtain ⟨s0, j0, E0, S0⟩ := r
      obtain ⟨hk, vs', ve', N, ⟨s1, va1, vb1, vl1⟩, hst, hS, hs1, rfl, hrow, hfr⟩ := HY.out
      dsimp only at hs1
      subst hs1
      obtain ⟨aa, ca, ab, cb, al', cl', rfl, rfl, rfl⟩ := sxform hrow
      have HFR : Hid (SxR B y ⟨s1, .slice aa s1.args.length ca, .slice ab s1.body.length cb, .slice al' s1.els.length cl'⟩ ∧ Fresh w.heap.size ⟨s1, .slice aa s1.args.length ca, .slice ab s1.body.length cb, .slice al' s1.els.length cl'⟩ ∧ (XS ++ N).map (·.s) = S0) := ⟨hrow, hfr.mono HS.out.ks.kp.low.size, hS⟩
      have HZ : Hid _ := HZ.out.ks hst.ks
      have HS : Hid (ST B ts w vs XS bp a c j0 vd vs' ve' d N E0 y) := HS.out.call0 hst
      clear hk hst hS hrow hfr HY 
      have n0 := HZ.out.cel 0 _ rfl
      have n1 := HZ.out.cel 1 _ rfl
      have n2 := HZ.out.cel 2 _ rfl
      have n3 := HZ.out.cel 3 _ rfl
      have n4 := HZ.out.cel 4 _ rfl
      have n5 := HZ.out.cel 5 _ rfl
      have n6 := HZ.out.cel 6 _ rfl
      have n7 := HZ.out.cel 7 _ rfl
      have z0 := HZ.out.fro
      unfold stV
      go_wp2_with fail
      refine bodyPost_ret (v := stV ⟨s1, .slice aa s1.args.length ca, .slice ab s1.body.length cb, .slice al' s1.els.length cl'⟩) ?_ rfl ?_
      · simp [results, Tryz.results102, go_sem, n0, n1, n2, n3, n4, n5, n6, n7, z0, stV, str_nil]
      · exact fin8 HS.out HZ.out (Nat.le_refl _) ⟨s1, .slice aa s1.args.length ca, .slice ab s1.body.length cb, .slice al' s1.els.length cl'⟩ HFR.out.1 HFR.out.2.1 HFR.out.2.2
/-- Blocks and statements: all of them, with whatever fuel is enough. -/
theorem stmts_all {B : Nat} {ts : List X.Tok} {bp : Nat} {a : Option Addr} {c : Nat} {vd : Value} (G : Good ts) (hB : 8 ≤ B) : ∀ f, BlkC B ts bp a c vd f ∧ StmC B ts bp a c vd f := by
  intro f
  induction f using Nat.strongRecOn with
  | ind f ih =>
    cases f with
    | zero => exact ⟨fun i w vs ve XS d E hi _ _ _ _ _ h => by omega, fun i w vs ve XS d E hi _ _ _ _ _ h => by omega⟩
    | succ f => exact ⟨block_step G hB fun g hg => (ih g hg).2, stmt_step G hB (ih f (Nat.lt_succ_self f)).1⟩
end Go.Proofs.YtikknlkdbjaonaaGreatDoor.Y
