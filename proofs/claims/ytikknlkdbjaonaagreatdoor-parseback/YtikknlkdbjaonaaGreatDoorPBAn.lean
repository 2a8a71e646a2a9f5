/- All declarations of a source, as the program's parser reads them. -/
import Derived.Test.YtikknlkdbjaonaaGreatDoorPBAm
import Derived.Recover
import Derived.Test.YtikknlkdbjaonaaGreatDoorPBAe
namespace Go.Proofs.YtikknlkdbjaonaaGreatDoor.Y
open Go.RowKit Go.Maps
set_option linter.unusedVariables false
set_option linter.unusedSimpArgs false
/-- A module, as it lies. -/
structure MD (B : Nat) (w : World) (vd vs ve : Value) (M : Mod) (DX : List Dx) (XS : List Sx) : Prop where
  hd : DX.map (·.d) = M.decls
  hs : XS.map (·.s) = M.stmts
  rd : w.ownsRow B 54 9 vd DX.length (DX.flatMap dcC)
  rs : w.ownsRow B 35 8 vs XS.length (XS.flatMap stC)
  re : w.ownsRow B 32 6 ve M.exps.length (M.exps.flatMap expC)
  dr : ∀ p ∈ DX, DxR B w p
  sr : ∀ p ∈ XS, SxR B w p
/-- What reading all declarations comes to. -/
def AllOut (B : Nat) (ts : List X.Tok) (w : World) (bp : Nat) (a : Option Addr) (c : Nat) (r : Option Mod) (e : Ending) (w' : World) : Prop :=
  Kp T3 B w w' ∧ match r with
    | none => Fails e
    | some M => e = .returned (.tuple #[]) ∧ ∃ vd vs ve DX XS j, PB B ts w' bp a c j vd vs ve 0 ∧ MD B w' vd vs ve M DX XS
theorem dcl_len {ts : List Tok} (G : Good ts) {f i j : Nat} {x : Decl} {E E' : List Exp} {S S' : List Stmt} (h : dcl ts f i E S = some (x, j, E', S')) : i < j ∧ j < ts.length ∧ E'.length + i ≤ E.length + j ∧ S'.length + i ≤ S.length + j := by
  have h3 : ∀ {x x' : Decl} {i j : Nat} {E E' : List Exp} {S S' : List Stmt}, fnc3 ts f x i E S = some (x', j, E', S') → i < j ∧ j < ts.length ∧ E'.length + i ≤ E.length + j ∧ S'.length + i ≤ S.length + j := by
    intro x x' i j E E' S S' h
    unfold fnc3 at h
    split at h
    · split at h
      · split at h
        · split at h
          · split at h
            · rename_i ht
              have := G.ht _ (by rw [ht]; simp)
              injection h with h; injection h with h0 h; injection h with h h'; injection h' with h' h''; subst h0 h h' h''
              omega
            · cases h
          · rw [Option.bind_eq_some_iff] at h
            obtain ⟨⟨l, k, E1, S1⟩, hb, h⟩ := h
            have h1 := (stm_len G f).1 _ _ _ _ _ _ _ _ hb
            injection h with h; injection h with h0 h; injection h with h h'; injection h' with h' h''; subst h0 h h' h''
            dsimp only at *
            omega
        · cases h
      · cases h
    · cases h
  have h2 : ∀ {x x' : Decl} {i j : Nat} {E E' : List Exp} {S S' : List Stmt}, fnc2 ts f x i E S = some (x', j, E', S') → i < j ∧ j < ts.length ∧ E'.length + i ≤ E.length + j ∧ S'.length + i ≤ S.length + j := by
    intro x x' i j E E' S S' h
    unfold fnc2 at h
    split at h
    · split at h
      · split at h
        · have := h3 h; omega
        · cases h
      · have := h3 h; omega
    · cases h
  have h1 : ∀ {x x' : Decl} {i j : Nat} {E E' : List Exp} {S S' : List Stmt}, i < ts.length → fnc ts f x i E S = some (x', j, E', S') → i < j ∧ j < ts.length ∧ E'.length + i ≤ E.length + j ∧ S'.length + i ≤ S.length + j := by
    intro x x' i j E E' S S' hi h
    unfold fnc at h
    split at h
    · split at h
      · split at h
        · have := h2 h; omega
        · cases h
      · cases h
    · rw [Option.bind_eq_some_iff] at h
      obtain ⟨⟨l, k⟩, hb, h⟩ := h
      have := prm_len G hi hb
      have := h2 h
      dsimp only at *
      omega
  have hn2 : ∀ {x x' : Decl} {i j : Nat} {E E' : List Exp} {S S' : List Stmt}, nmb2 ts x i E S = some (x', j, E', S') → i < j ∧ j < ts.length ∧ E'.length + i ≤ E.length + j ∧ S'.length + i ≤ S.length + j := by
    intro x x' i j E E' S S' h
    unfold nmb2 at h
    split at h
    · split at h
      · split at h
        · rename_i ht
          have := G.ht _ (by rw [ht]; simp)
          injection h with h; injection h with h0 h; injection h with h h'; injection h' with h' h''; subst h0 h h' h''
          omega
        · cases h
      · cases h
    · cases h
  have hn : ∀ {x x' : Decl} {i j : Nat} {E E' : List Exp} {S S' : List Stmt}, nmb ts f x i E S = some (x', j, E', S') → i < j ∧ j < ts.length ∧ E'.length + i ≤ E.length + j ∧ S'.length + i ≤ S.length + j := by
    intro x x' i j E E' S S' h
    unfold nmb at h
    split at h
    · rename_i ht
      have := G.ht i (by rw [ht]; simp)
      have := h1 (by omega) h
      omega
    · split at h
      · split at h
        · split at h
          · split at h
            · cases h
            · split at h
              · have := hn2 h; omega
              · cases h
          · cases h
        · cases h
      · exact hn2 h
  have hd2 : ∀ {x : Bool} {x' : Decl} {i j : Nat} {E E' : List Exp} {S S' : List Stmt}, dcl2 ts f x i E S = some (x', j, E', S') → i < j ∧ j < ts.length ∧ E'.length + i ≤ E.length + j ∧ S'.length + i ≤ S.length + j := by
    intro x x' i j E E' S S' h
    unfold dcl2 at h
    split at h
    · split at h
      · have := hn h; omega
      · cases h
    · rw [Option.bind_eq_some_iff] at h
      obtain ⟨⟨ko, k⟩, hb, h⟩ := h
      have h5 := obj_len G hb
      dsimp only at h
      split at h
      · split at h
        · split at h
          · split at h
            · split at h
              · rename_i ht
                have := G.ht _ (by rw [ht]; simp)
                injection h with h; injection h with h0 h; injection h with h h'; injection h' with h' h''; subst h0 h h' h''
                omega
              · cases h
            · cases h
          · cases h
        · split at h
          · rename_i ht
            have := G.ht _ (by rw [ht]; simp)
            injection h with h; injection h with h0 h; injection h with h h'; injection h' with h' h''; subst h0 h h' h''
            omega
          · cases h
      · cases h
  unfold dcl at h
  split at h
  · split at h
    · rw [Option.bind_eq_some_iff] at h
      obtain ⟨⟨l, k, E1, S1⟩, hb, h⟩ := h
      have h1 := (stm_len G f).1 _ _ _ _ _ _ _ _ hb
      injection h with h; injection h with h0 h; injection h with h h'; injection h' with h' h''; subst h0 h h' h''
      dsimp only at *
      omega
    · cases h
  · split at h
    · have := hd2 h; omega
    · exact hd2 h
theorem SxR.kp2 {Ts : List TypeId} {B C : Nat} {w y : World} {p : Sx} (h : SxR B w p) (hk : Kp Ts C w y) (hT : 3 ∉ Ts) : SxR B y p := ⟨row_kp h.ra hk hT, row_kp h.rb hk hT, row_kp h.rl hk hT⟩
theorem DxR.kp2 {Ts : List TypeId} {B C : Nat} {w y : World} {p : Dx} (h : DxR B w p) (hk : Kp Ts C w y) (hT : 3 ∉ Ts) (hS : 9 ∉ Ts) : DxR B y p := ⟨row_kp h.rp hk hS, row_kp h.rb hk hT⟩
set_option maxRecDepth 100000 in
set_option maxHeartbeats 2000000 in
theorem ST.kpd {B : Nat} {ts : List X.Tok} {w0 y z : World} {vs0 : Value} {X0 : List Sx} {bp : Nat} {a : Option Addr} {c i : Nat} {vd vs ve : Value} {d : Nat} {N : List Sx} {E : List Exp} (h : ST B ts w0 vs0 X0 bp a c i vd vs ve d N E y) (hk : Kp [54] w0.heap.size y z) : ST B ts w0 vs0 X0 bp a c i vd vs ve d N E z :=
  ⟨⟨h.pb.ge, hk.keep _ _ _ _ h.pb.blk (by decide), row_kp h.pb.tok hk (by decide)⟩, row_kp h.re hk (by decide), row_kp h.rs hk (by decide), fun p hp => (h.rr p hp).kp2 hk (by decide), h.ks.then hk.low h.le0, h.fr, h.le0⟩
theorem ST.vd {B : Nat} {ts : List X.Tok} {w0 y : World} {vs0 : Value} {X0 : List Sx} {bp : Nat} {a : Option Addr} {c i : Nat} {vd vs ve : Value} {d : Nat} {N : List Sx} {E : List Exp} (h : ST B ts w0 vs0 X0 bp a c i vd vs ve d N E y) (v : Value) : ST B ts w0 vs0 X0 bp a c i v vs ve d N E (y.setCell ⟨bp, 2, none⟩ v) := by
  have hk : Kp [69] B y (y.setCell ⟨bp, 2, none⟩ v) := Kp.set h.pb.blk (by decide) h.pb.ge _
  exact ⟨⟨h.pb.ge, blk_set h.pb.blk _, row_kp h.pb.tok hk (by decide)⟩, row_kp h.re hk (by decide), row_kp h.rs hk (by decide), fun p hp => (h.rr p hp).kp hk (by decide), h.ks.trans (Ks.of1 hk), h.fr, h.le0⟩
set_option maxRecDepth 100000 in
set_option maxHeartbeats 2000000 in
theorem all_any {B : Nat} {ts : List X.Tok} {bp : Nat} {a : Option Addr} {c : Nat} (G : Good ts) (hB : 8 ≤ B) {w : World} (h : ST B ts w (.slice none 0 0) [] bp a c 0 (.slice none 0 0) (.slice none 0 0) (.slice none 0 0) 0 [] [] w) (he : Env w) : Calls Tryz.prog 27 #[.pointer (some ⟨bp, 0, none⟩)] w (AllOut B ts w bp a c (modOf ts)) := by
  obtain ⟨F, hF⟩ : ∃ F, 3 * ts.length + 4 = F := ⟨_, rfl⟩
  obtain ⟨R, hR⟩ : ∃ R, modOf ts = R := ⟨_, rfl⟩
  have hR0 := hR
  unfold modOf at hR0
  rw [hF] at hR0
  have HR0 : Hid _ := hR0
  rw [hR]
  clear hR hR0
  obtain ⟨i0, hi0, hz0, hz1, hz2⟩ := info_parts infoD
  have HS0 : Hid (ST B ts w (.slice none 0 0) [] bp a c 0 (.slice none 0 0) (.slice none 0 0) (.slice none 0 0) 0 [] [] w) := h
  have HE : Hid (∀ y, Kp T3 B w y → Env y) := fun y hy => he.kp hy hB
  have hN := G.len
  have hpos := G.pos
  have hf0 := fun y a0 a1 a2 a3 => fld0 y a0 a1 a2 a3
  clear h he
  go_enter Tryz.func27, Tryz.ntmps27
  go_wp2_with fail
  go_loopg [] ts.length (fun g wq => ∃ (j : Nat) (D : List Decl) (E0 : List Exp) (N0 : List Sx) (DX : List Dx) (vd vs0 ve0 : Value) (fl : Nat), g = ts.length - j ∧ j < ts.length ∧ E0.length ≤ j ∧ N0.length ≤ j ∧ DX.length ≤ j ∧ ts.length - j < fl ∧ Hid (wq.ownsRow w.heap.size 54 9 vd DX.length (DX.flatMap dcC)) ∧ Hid (∀ p ∈ DX, DxR B wq p) ∧ Hid (DX.map (·.d) = D) ∧ Hid (ST B ts w (.slice none 0 0) [] bp a c j vd vs0 ve0 0 N0 E0 wq) ∧ Hid (dl ts F fl j D E0 (N0.map (·.s)) = R))
  case atStart => exact ⟨0, [], [], [], [], _, _, _, ts.length + 1, rfl, hpos, Nat.le_refl _, Nat.le_refl _, Nat.le_refl _, by omega, World.ownsRow_nil _ _ _ _, ((fun p hp => by cases hp) : ∀ p ∈ ([] : List Dx), DxR B w p), rfl, HS0, HR0⟩
  case round =>
    obtain ⟨j, D, E0, N0, DX, vd, vs0, ve0, fl, rfl, hj, hle, hln, hld, hfl, HD, HDR, HDM, HS, HR⟩ := hrel
    clear HS0 HR0
    obtain ⟨fl, rfl⟩ : ∃ f', fl = f' + 1 := ⟨fl - 1, by omega⟩
    have hR1 := HR.out
    rw [dl] at hR1
    have HR : Hid _ := hR1
    clear hR1
    go_wp2_with fail
    refine (now_any HS.out.pb hj).mono ?_
    unfold tokV
    rintro e y1 ⟨rfl, hb1⟩
    have HS1 : Hid (ST B ts w (.slice none 0 0) [] bp a c j vd vs0 ve0 0 N0 E0 y1) := HS.out.bel hb1
    have HD1 : Hid (y1.ownsRow w.heap.size 54 9 vd DX.length (DX.flatMap dcC)) := row_thru' HD.out hb1
    have HDR1 : Hid (∀ p ∈ DX, DxR B y1 p) := fun p hp => (HDR.out p hp).bel hb1
    clear hb1 HS HD HDR
    by_cases hk0 : (tk ts j).kind = 0
    · have e0 : (((tk ts j).kind : Int) != 0) = false := by rw [hk0]; rfl
      obtain rfl : some ⟨D, N0.map (·.s), E0⟩ = R := (if_pos hk0).symm.trans HR.out
      have HF : Hid (AllOut B ts w bp a c (some ⟨D, N0.map (·.s), E0⟩) (.returned (.tuple #[])) y1) := ⟨HS1.out.ks.kp, rfl, vd, vs0, ve0, DX, N0, j, HS1.out.pb, ⟨HDM.out, rfl, row_low HD1.out HS1.out.le0, HS1.out.rs, HS1.out.re, HDR1.out, HS1.out.rr⟩⟩
      clear hk0 HS1 HD1 HDR1 HDM HR
      go_wp2_with fail
      refine bodyPost_end (results_none rfl _ _ _) rfl ?_
      exact HF.out
    have e0 : (((tk ts j).kind : Int) != 0) = true := by
      have : ((tk ts j).kind : Int) ≠ 0 := fun e => hk0 (by omega)
      simpa using this
    have HR : Hid (_ = R) := (if_neg hk0).symm.trans HR.out
    obtain ⟨Z, hZ⟩ : ∃ Z, y1.drew = Z := ⟨_, rfl⟩
    have HBZ : Hid (Below y1.heap.size y1 Z) := by show Below _ _ _; rw [← hZ]; exact (Below.refl _ _).drew
    have HSX : Hid (ST B ts w (.slice none 0 0) [] bp a c j vd vs0 ve0 0 N0 E0 Z) := HS1.out.bel HBZ.out
    have HDX : Hid (Z.ownsRow w.heap.size 54 9 vd DX.length (DX.flatMap dcC)) := row_thru' HD1.out HBZ.out
    have HDRX : Hid (∀ p ∈ DX, DxR B Z p) := fun p hp => (HDR1.out p hp).bel HBZ.out
    have HC : Hid (Calls Tryz.prog 54 #[.pointer (some ⟨bp, 0, none⟩)] Z (DOut B ts Z bp a c vd vs0 N0 (dcl ts F j E0 (N0.map (·.s))))) := decl_any G hB (f := F) (by omega) hj HSX.out.base hle hln (HE.out _ HSX.out.ks.kp)
    clear hk0 HS1 HD1 HDR1 HBZ
    go_wp2_with fail
    refine wp_region_held_drew (S := (fun w' : World => True)) (by kernel_rfl) trivial (fun hHeld => ?_)
    rw [hZ]
    clear hZ e0
    refine tj 0 ?_
    simp only [Act.put, zA, zB, zC]
    refine tj 1 ?_
    simp only [Act.put, zA, zB, zC]
    refine tj 2 ?_
    simp only [Act.put, zA, zB, zC]
    refine tj 3 ?_
    simp only [Act.put, zA, zB, zC]
    refine tj 4 ?_
    simp only [Act.put, zA, zB, zC]
    refine tj 6 ?_
    simp only [Act.put, zA, zB, zC]
    refine tr [5, 7] ?_
    refine AllReadyH.cons (tA rfl) (fun K hK => ?_) (AllReadyH.cons (tA rfl) (fun K hK => ?_) AllReadyH.nil)
    · have m4 := HSX.out.pb.c2
      go_simp
      refine hK.out _ _ trivial (fun hHeld => ?_)
      clear hK K m4
      try simp only [Act.put, zA, zB, zC]
      refine tr [7] ?_
      refine AllReadyH.cons (tA rfl) (fun K hK => ?_) AllReadyH.nil
      go_simp
      refine Calls.mono HC.out ?_
      intro e y2 hy
      have HY : Hid (DOut B ts Z bp a c vd vs0 N0 (dcl ts F j E0 (N0.map (·.s))) e y2) := hy
      clear hy HC
      cases hr : dcl ts F j E0 (N0.map (·.s)) with
      | none =>
        have h2 := HY.out
        rw [hr] at h2
        obtain ⟨hk, h3⟩ := h2
        have hR1 := HR.out
        rw [hr] at hR1
        obtain rfl : none = R := hR1
        have h3' : e = _ := h3
        subst h3'
        have HF : Hid (AllOut B ts w bp a c none _ y2) := ⟨HSX.out.ks.kp.trans hk, h3⟩
        clear HY hk hr HR HSX HDX HDRX HDM h3
        try go_wp2_with fail
        exact ⟨rfl, HF.out⟩
      | some r =>
        obtain ⟨s0, j0, E', S0⟩ := r
        have hlen := dcl_len G hr
        have hml : (N0.map (·.s)).length = N0.length := List.length_map ..
        have h2 := HY.out
        rw [hr] at h2
        obtain ⟨hk, vs', ve', N', ⟨s1, vp1, vb1⟩, hst, hS, hs1, rfl, hrow⟩ := h2
        have hR1 := HR.out
        rw [hr, Option.bind_some] at hR1
        dsimp only at hR1 hs1
        subst hs1
        obtain ⟨aa, ca, ab, cb, rfl, rfl⟩ := dxform hrow
        obtain ⟨N, hNN⟩ : ∃ N, N0 ++ N' = N := ⟨_, rfl⟩
        have hnl : N.length ≤ j0 := by
          have : (N.map (·.s)).length = S0.length := by rw [← hNN, hS]
          rw [List.length_map] at this
          omega
        have hS2 : ST B ts w (.slice none 0 0) [] bp a c j0 vd vs' ve' 0 N E' y2 := by
          have := HSX.out.call (vs2 := vs') (by rw [List.nil_append]; exact hst)
          rwa [hNN] at this
        have HSY : Hid (ST B ts w (.slice none 0 0) [] bp a c j0 vd vs' ve' 0 N E' y2) := hS2
        have HR5 : Hid (dl ts F fl j0 (D ++ [s1]) E' (N.map (·.s)) = R) := by
          show _ = R
          rw [← hNN, hS]; exact hR1
        obtain ⟨W5, hW5⟩ : ∃ W5, y2.alloc (.cells #[.int .i64 s1.kind, .string (X.str s1.name), .bool s1.ext, .int .i64 s1.n, (.string (X.str s1.by')), .slice aa s1.params.length ca, .int .i64 s1.count, .int .i64 s1.rank, .slice ab s1.body.length cb] 54) = W5 := ⟨_, rfl⟩
        have HS5 : Hid (ST B ts w (.slice none 0 0) [] bp a c j0 vd vs' ve' 0 N E' W5) := by show ST _ _ _ _ _ _ _ _ _ _ _ _ _ _ _ _; rw [← hW5]; exact hS2.bel (bl1 _ _)
        have HD5 : Hid (W5.ownsRow w.heap.size 54 9 vd DX.length (DX.flatMap dcC)) := by show World.ownsRow _ _ _ _ _ _ _; rw [← hW5]; exact row_thru' (row_kp HDX.out hk (by decide)) (bl1 _ _)
        have HDR5 : Hid (∀ p ∈ DX ++ [(⟨s1, .slice aa s1.params.length ca, .slice ab s1.body.length cb⟩ : Dx)], DxR B W5 p) := fun p hp => by
          rw [← hW5]
          rcases List.mem_append.1 hp with hp | hp
          · exact ((HDRX.out p hp).kp hk (by decide) (by decide)).bel (bl1 _ _)
          · rw [List.mem_singleton] at hp
            subst hp
            exact hrow.bel (bl1 _ _)
        have HN5 : Hid (∀ (q : Nat) u, (dcC ⟨s1, .slice aa s1.params.length ca, .slice ab s1.body.length cb⟩)[q]? = some u → W5.cell? ((⟨y2.heap.size, 0, none⟩ : Addr).add q) = some u) := fun q u hu => by
          rw [Addr.add_lit, Nat.zero_add, ← hW5]
          exact ncell_at (by simpa [dcC] using hu)
        have HONE : Hid (∀ u ∈ dcC ⟨s1, .slice aa s1.params.length ca, .slice ab s1.body.length cb⟩, u.oneCell' = true) := by
          intro u hu
          unfold dcC at hu
          simp only [List.mem_cons, List.not_mem_nil, or_false] at hu
          rcases hu with rfl | rfl | rfl | rfl | rfl | rfl | rfl | rfl | rfl <;> rfl
        have HW5 : Hid (w.heap.size ≤ W5.heap.size) := HS5.out.ks.kp.low.size
        clear HY hk hst hS hrow hR1 hr HR HSX HDX HDRX hNN hS2 hml
        unfold dcV
        try go_wp2_with fail
        refine hK.out _ _ trivial (fun hHeld => ?_)
        clear hK K
        try simp only [Act.put, zA, zB, zC]
        refine tr [8] ?_
        refine AllReadyH.cons (tA rfl) (fun K hK => ?_) AllReadyH.nil
        go_simp
        try rw [hW5]
        refine hK.out _ _ trivial (fun hHeld => ?_)
        clear hK K
        try simp only [Act.put, zA, zB, zC]
        clear hW5 HSY
        refine tr [9] ?_
        refine AllReadyH.cons (tA rfl) (fun K hK => ?_) AllReadyH.nil
        refine step_append_lies _ (by rfl) _ _ 22 (by rfl) w.heap.size 54 i0 _ 9 120 Tryz.underlying22 hi0 hz0 hz1 hz2 rfl (by decide) vd DX.length _ (by rfl) HD5.out ⟨y2.heap.size, 0, none⟩ 1 1 (dcC ⟨s1, .slice aa s1.params.length ca, .slice ab s1.body.length cb⟩) (by rfl) rfl HN5.out HONE.out (by decide) (by unfold maxLen; omega) (by omega) HW5.out _ rfl ?_
        intro g cp w6 hown hgrow hgat hglt
        have HW6 : Hid (w6.ownsRow w.heap.size 54 9 (.slice (some ⟨g, 0, none⟩) (DX.length + 1) cp) (DX.length + 1) (DX.flatMap dcC ++ dcC ⟨s1, .slice aa s1.params.length ca, .slice ab s1.body.length cb⟩)) := hown
        have HKP : Hid (Kp [54] w.heap.size W5 w6) := Kp.grown HD5.out hgrow (by decide) HW5.out
        have HS6 : Hid (ST B ts w (.slice none 0 0) [] bp a c j0 vd vs' ve' 0 N E' w6) := HS5.out.kpd HKP.out
        have HDR6 : Hid (∀ p ∈ DX ++ [(⟨s1, .slice aa s1.params.length ca, .slice ab s1.body.length cb⟩ : Dx)], DxR B w6 p) := fun p hp => (HDR5.out p hp).kp2 HKP.out (by decide) (by decide)
        clear hown hgrow hgat hglt
        refine hK.out _ _ trivial (fun hHeld => ?_)
        clear hK K
        try simp only [Act.put, zA, zB, zC]
        refine tj 10 ?_
        simp only [Act.put, zA, zB, zC]
        refine tj 11 ?_
        simp only [Act.put, zA, zB, zC]
        refine tj 12 ?_
        simp only [Act.put, zA, zB, zC]
        have b4 := HS6.out.pb.c2
        have z4 := HS6.out.pb.fro 2
        have HS7 : Hid (ST B ts w (.slice none 0 0) [] bp a c j0 (.slice (some ⟨g, 0, none⟩) (DX.length + 1) cp) vs' ve' 0 N E' (w6.setCell ⟨bp, 2, none⟩ (.slice (some ⟨g, 0, none⟩) (DX.length + 1) cp))) := HS6.out.vd _
        have HK7 : Hid (Kp [69] B w6 (w6.setCell ⟨bp, 2, none⟩ (.slice (some ⟨g, 0, none⟩) (DX.length + 1) cp))) := Kp.set HS6.out.pb.blk (by decide) HS6.out.pb.ge _
        obtain ⟨V, hV⟩ : ∃ V, w6.setCell ⟨bp, 2, none⟩ (.slice (some ⟨g, 0, none⟩) (DX.length + 1) cp) = V := ⟨_, rfl⟩
        rw [hV] at HS7 HK7
        refine tr [13] ?_
        refine AllReadyH.cons (tA rfl) (fun K hK => ?_) AllReadyH.nil
        go_simp
        try rw [hV]
        refine hK.out _ _ trivial (fun hHeld => ?_)
        clear hK K
        try simp only [Act.put, zA, zB, zC]
        refine wpAnyH_done (by kernel_rfl) ?_ _
        clear hHeld hV b4 z4
        have HD8 : Hid (V.ownsRow w.heap.size 54 9 (.slice (some ⟨g, 0, none⟩) (DX.length + 1) cp) (DX ++ [(⟨s1, .slice aa s1.params.length ca, .slice ab s1.body.length cb⟩ : Dx)]).length ((DX ++ [(⟨s1, .slice aa s1.params.length ca, .slice ab s1.body.length cb⟩ : Dx)]).flatMap dcC)) := by
          show World.ownsRow _ _ _ _ _ _ _
          rw [List.length_append, List.flatMap_append]
          have := row_kp HW6.out HK7.out (by decide)
          simpa using this
        have HDR8 : Hid (∀ p ∈ DX ++ [(⟨s1, .slice aa s1.params.length ca, .slice ab s1.body.length cb⟩ : Dx)], DxR B V p) := fun p hp => (HDR6.out p hp).kp HK7.out (by decide) (by decide)
        have HMP : Hid ((DX ++ [(⟨s1, .slice aa s1.params.length ca, .slice ab s1.body.length cb⟩ : Dx)]).map (·.d) = D ++ [s1]) := by
          show _ = _
          rw [List.map_append, HDM.out]; rfl
        have hdl : (DX ++ [(⟨s1, .slice aa s1.params.length ca, .slice ab s1.body.length cb⟩ : Dx)]).length ≤ j0 := by rw [List.length_append]; simp only [List.length_cons, List.length_nil]; omega
        clear HW6 HKP HS6 HDR6 HK7 HD5 HN5 HONE HW5 HS5 HDR5 HDM
        try go_wp2_with fail
        go_roundg (ts.length - j0)
        case measure => omega
        case rel => exact ⟨j0, D ++ [s1], E', N, DX ++ [(⟨s1, .slice aa s1.params.length ca, .slice ab s1.body.length cb⟩ : Dx)], _, vs', ve', fl, rfl, by omega, by omega, by omega, hdl, by omega, HD8, HDR8, HMP, HS7, HR5⟩
    · go_simp
      refine Calls.mono HC.out ?_
      intro e y2 hy
      have HY : Hid (DOut B ts Z bp a c vd vs0 N0 (dcl ts F j E0 (N0.map (·.s))) e y2) := hy
      clear hy HC
      cases hr : dcl ts F j E0 (N0.map (·.s)) with
      | none =>
        have h2 := HY.out
        rw [hr] at h2
        obtain ⟨hk, h3⟩ := h2
        have hR1 := HR.out
        rw [hr] at hR1
        obtain rfl : none = R := hR1
        have h3' : e = _ := h3
        subst h3'
        have HF : Hid (AllOut B ts w bp a c none _ y2) := ⟨HSX.out.ks.kp.trans hk, h3⟩
        clear HY hk hr HR HSX HDX HDRX HDM h3
        try go_wp2_with fail
        exact ⟨rfl, HF.out⟩
      | some r =>
        obtain ⟨s0, j0, E', S0⟩ := r
        have hlen := dcl_len G hr
        have hml : (N0.map (·.s)).length = N0.length := List.length_map ..
        have h2 := HY.out
        rw [hr] at h2
        obtain ⟨hk, vs', ve', N', ⟨s1, vp1, vb1⟩, hst, hS, hs1, rfl, hrow⟩ := h2
        have hR1 := HR.out
        rw [hr, Option.bind_some] at hR1
        dsimp only at hR1 hs1
        subst hs1
        obtain ⟨aa, ca, ab, cb, rfl, rfl⟩ := dxform hrow
        obtain ⟨N, hNN⟩ : ∃ N, N0 ++ N' = N := ⟨_, rfl⟩
        have hnl : N.length ≤ j0 := by
          have : (N.map (·.s)).length = S0.length := by rw [← hNN, hS]
          rw [List.length_map] at this
          omega
        have hS2 : ST B ts w (.slice none 0 0) [] bp a c j0 vd vs' ve' 0 N E' y2 := by
          have := HSX.out.call (vs2 := vs') (by rw [List.nil_append]; exact hst)
          rwa [hNN] at this
        have HSY : Hid (ST B ts w (.slice none 0 0) [] bp a c j0 vd vs' ve' 0 N E' y2) := hS2
        have HR5 : Hid (dl ts F fl j0 (D ++ [s1]) E' (N.map (·.s)) = R) := by
          show _ = R
          rw [← hNN, hS]; exact hR1
        obtain ⟨W5, hW5⟩ : ∃ W5, y2.alloc (.cells #[.int .i64 s1.kind, .string (X.str s1.name), .bool s1.ext, .int .i64 s1.n, (.string (X.str s1.by')), .slice aa s1.params.length ca, .int .i64 s1.count, .int .i64 s1.rank, .slice ab s1.body.length cb] 54) = W5 := ⟨_, rfl⟩
        have HS5 : Hid (ST B ts w (.slice none 0 0) [] bp a c j0 vd vs' ve' 0 N E' W5) := by show ST _ _ _ _ _ _ _ _ _ _ _ _ _ _ _ _; rw [← hW5]; exact hS2.bel (bl1 _ _)
        have HD5 : Hid (W5.ownsRow w.heap.size 54 9 vd DX.length (DX.flatMap dcC)) := by show World.ownsRow _ _ _ _ _ _ _; rw [← hW5]; exact row_thru' (row_kp HDX.out hk (by decide)) (bl1 _ _)
        have HDR5 : Hid (∀ p ∈ DX ++ [(⟨s1, .slice aa s1.params.length ca, .slice ab s1.body.length cb⟩ : Dx)], DxR B W5 p) := fun p hp => by
          rw [← hW5]
          rcases List.mem_append.1 hp with hp | hp
          · exact ((HDRX.out p hp).kp hk (by decide) (by decide)).bel (bl1 _ _)
          · rw [List.mem_singleton] at hp
            subst hp
            exact hrow.bel (bl1 _ _)
        have HN5 : Hid (∀ (q : Nat) u, (dcC ⟨s1, .slice aa s1.params.length ca, .slice ab s1.body.length cb⟩)[q]? = some u → W5.cell? ((⟨y2.heap.size, 0, none⟩ : Addr).add q) = some u) := fun q u hu => by
          rw [Addr.add_lit, Nat.zero_add, ← hW5]
          exact ncell_at (by simpa [dcC] using hu)
        have HONE : Hid (∀ u ∈ dcC ⟨s1, .slice aa s1.params.length ca, .slice ab s1.body.length cb⟩, u.oneCell' = true) := by
          intro u hu
          unfold dcC at hu
          simp only [List.mem_cons, List.not_mem_nil, or_false] at hu
          rcases hu with rfl | rfl | rfl | rfl | rfl | rfl | rfl | rfl | rfl <;> rfl
        have HW5 : Hid (w.heap.size ≤ W5.heap.size) := HS5.out.ks.kp.low.size
        clear HY hk hst hS hrow hR1 hr HR HSX HDX HDRX hNN hS2 hml
        unfold dcV
        try go_wp2_with fail
        refine hK.out _ _ trivial (fun hHeld => ?_)
        clear hK K
        try simp only [Act.put, zA, zB, zC]
        refine tr [5, 8] ?_
        refine AllReadyH.cons (tA rfl) (fun K hK => ?_) (AllReadyH.cons (tA rfl) (fun K hK => ?_) AllReadyH.nil)
        · have m4 := HSY.out.pb.c2
          go_simp
          refine hK.out _ _ trivial (fun hHeld => ?_)
          clear hK K m4
          try simp only [Act.put, zA, zB, zC]
          refine tr [8] ?_
          refine AllReadyH.cons (tA rfl) (fun K hK => ?_) AllReadyH.nil
          go_simp
          try rw [hW5]
          refine hK.out _ _ trivial (fun hHeld => ?_)
          clear hK K
          try simp only [Act.put, zA, zB, zC]
          clear hW5 HSY
          refine tr [9] ?_
          refine AllReadyH.cons (tA rfl) (fun K hK => ?_) AllReadyH.nil
          refine step_append_lies _ (by rfl) _ _ 22 (by rfl) w.heap.size 54 i0 _ 9 120 Tryz.underlying22 hi0 hz0 hz1 hz2 rfl (by decide) vd DX.length _ (by rfl) HD5.out ⟨y2.heap.size, 0, none⟩ 1 1 (dcC ⟨s1, .slice aa s1.params.length ca, .slice ab s1.body.length cb⟩) (by rfl) rfl HN5.out HONE.out (by decide) (by unfold maxLen; omega) (by omega) HW5.out _ rfl ?_
          intro g cp w6 hown hgrow hgat hglt
          have HW6 : Hid (w6.ownsRow w.heap.size 54 9 (.slice (some ⟨g, 0, none⟩) (DX.length + 1) cp) (DX.length + 1) (DX.flatMap dcC ++ dcC ⟨s1, .slice aa s1.params.length ca, .slice ab s1.body.length cb⟩)) := hown
          have HKP : Hid (Kp [54] w.heap.size W5 w6) := Kp.grown HD5.out hgrow (by decide) HW5.out
          have HS6 : Hid (ST B ts w (.slice none 0 0) [] bp a c j0 vd vs' ve' 0 N E' w6) := HS5.out.kpd HKP.out
          have HDR6 : Hid (∀ p ∈ DX ++ [(⟨s1, .slice aa s1.params.length ca, .slice ab s1.body.length cb⟩ : Dx)], DxR B w6 p) := fun p hp => (HDR5.out p hp).kp2 HKP.out (by decide) (by decide)
          clear hown hgrow hgat hglt
          refine hK.out _ _ trivial (fun hHeld => ?_)
          clear hK K
          try simp only [Act.put, zA, zB, zC]
          refine tj 10 ?_
          simp only [Act.put, zA, zB, zC]
          refine tj 11 ?_
          simp only [Act.put, zA, zB, zC]
          refine tj 12 ?_
          simp only [Act.put, zA, zB, zC]
          have b4 := HS6.out.pb.c2
          have z4 := HS6.out.pb.fro 2
          have HS7 : Hid (ST B ts w (.slice none 0 0) [] bp a c j0 (.slice (some ⟨g, 0, none⟩) (DX.length + 1) cp) vs' ve' 0 N E' (w6.setCell ⟨bp, 2, none⟩ (.slice (some ⟨g, 0, none⟩) (DX.length + 1) cp))) := HS6.out.vd _
          have HK7 : Hid (Kp [69] B w6 (w6.setCell ⟨bp, 2, none⟩ (.slice (some ⟨g, 0, none⟩) (DX.length + 1) cp))) := Kp.set HS6.out.pb.blk (by decide) HS6.out.pb.ge _
          obtain ⟨V, hV⟩ : ∃ V, w6.setCell ⟨bp, 2, none⟩ (.slice (some ⟨g, 0, none⟩) (DX.length + 1) cp) = V := ⟨_, rfl⟩
          rw [hV] at HS7 HK7
          refine tr [13] ?_
          refine AllReadyH.cons (tA rfl) (fun K hK => ?_) AllReadyH.nil
          go_simp
          try rw [hV]
          refine hK.out _ _ trivial (fun hHeld => ?_)
          clear hK K
          try simp only [Act.put, zA, zB, zC]
          refine wpAnyH_done (by kernel_rfl) ?_ _
          clear hHeld hV b4 z4
          have HD8 : Hid (V.ownsRow w.heap.size 54 9 (.slice (some ⟨g, 0, none⟩) (DX.length + 1) cp) (DX ++ [(⟨s1, .slice aa s1.params.length ca, .slice ab s1.body.length cb⟩ : Dx)]).length ((DX ++ [(⟨s1, .slice aa s1.params.length ca, .slice ab s1.body.length cb⟩ : Dx)]).flatMap dcC)) := by
            show World.ownsRow _ _ _ _ _ _ _
            rw [List.length_append, List.flatMap_append]
            have := row_kp HW6.out HK7.out (by decide)
            simpa using this
          have HDR8 : Hid (∀ p ∈ DX ++ [(⟨s1, .slice aa s1.params.length ca, .slice ab s1.body.length cb⟩ : Dx)], DxR B V p) := fun p hp => (HDR6.out p hp).kp HK7.out (by decide) (by decide)
          have HMP : Hid ((DX ++ [(⟨s1, .slice aa s1.params.length ca, .slice ab s1.body.length cb⟩ : Dx)]).map (·.d) = D ++ [s1]) := by
            show _ = _
            rw [List.map_append, HDM.out]; rfl
          have hdl : (DX ++ [(⟨s1, .slice aa s1.params.length ca, .slice ab s1.body.length cb⟩ : Dx)]).length ≤ j0 := by rw [List.length_append]; simp only [List.length_cons, List.length_nil]; omega
          clear HW6 HKP HS6 HDR6 HK7 HD5 HN5 HONE HW5 HS5 HDR5 HDM
          try go_wp2_with fail
          go_roundg (ts.length - j0)
          case measure => omega
          case rel => exact ⟨j0, D ++ [s1], E', N, DX ++ [(⟨s1, .slice aa s1.params.length ca, .slice ab s1.body.length cb⟩ : Dx)], _, vs', ve', fl, rfl, by omega, by omega, by omega, hdl, by omega, HD8, HDR8, HMP, HS7, HR5⟩
        · go_simp
          try rw [hW5]
          refine hK.out _ _ trivial (fun hHeld => ?_)
          clear hK K
          try simp only [Act.put, zA, zB, zC]
          clear hW5
          refine tr [5] ?_
          refine AllReadyH.cons (tA rfl) (fun K hK => ?_) AllReadyH.nil
          have m4 := HS5.out.pb.c2
          go_simp
          refine hK.out _ _ trivial (fun hHeld => ?_)
          clear hK K m4
          try simp only [Act.put, zA, zB, zC]
          clear HSY
          refine tr [9] ?_
          refine AllReadyH.cons (tA rfl) (fun K hK => ?_) AllReadyH.nil
          refine step_append_lies _ (by rfl) _ _ 22 (by rfl) w.heap.size 54 i0 _ 9 120 Tryz.underlying22 hi0 hz0 hz1 hz2 rfl (by decide) vd DX.length _ (by rfl) HD5.out ⟨y2.heap.size, 0, none⟩ 1 1 (dcC ⟨s1, .slice aa s1.params.length ca, .slice ab s1.body.length cb⟩) (by rfl) rfl HN5.out HONE.out (by decide) (by unfold maxLen; omega) (by omega) HW5.out _ rfl ?_
          intro g cp w6 hown hgrow hgat hglt
          have HW6 : Hid (w6.ownsRow w.heap.size 54 9 (.slice (some ⟨g, 0, none⟩) (DX.length + 1) cp) (DX.length + 1) (DX.flatMap dcC ++ dcC ⟨s1, .slice aa s1.params.length ca, .slice ab s1.body.length cb⟩)) := hown
          have HKP : Hid (Kp [54] w.heap.size W5 w6) := Kp.grown HD5.out hgrow (by decide) HW5.out
          have HS6 : Hid (ST B ts w (.slice none 0 0) [] bp a c j0 vd vs' ve' 0 N E' w6) := HS5.out.kpd HKP.out
          have HDR6 : Hid (∀ p ∈ DX ++ [(⟨s1, .slice aa s1.params.length ca, .slice ab s1.body.length cb⟩ : Dx)], DxR B w6 p) := fun p hp => (HDR5.out p hp).kp2 HKP.out (by decide) (by decide)
          clear hown hgrow hgat hglt
          refine hK.out _ _ trivial (fun hHeld => ?_)
          clear hK K
          try simp only [Act.put, zA, zB, zC]
          refine tj 10 ?_
          simp only [Act.put, zA, zB, zC]
          refine tj 11 ?_
          simp only [Act.put, zA, zB, zC]
          refine tj 12 ?_
          simp only [Act.put, zA, zB, zC]
          have b4 := HS6.out.pb.c2
          have z4 := HS6.out.pb.fro 2
          have HS7 : Hid (ST B ts w (.slice none 0 0) [] bp a c j0 (.slice (some ⟨g, 0, none⟩) (DX.length + 1) cp) vs' ve' 0 N E' (w6.setCell ⟨bp, 2, none⟩ (.slice (some ⟨g, 0, none⟩) (DX.length + 1) cp))) := HS6.out.vd _
          have HK7 : Hid (Kp [69] B w6 (w6.setCell ⟨bp, 2, none⟩ (.slice (some ⟨g, 0, none⟩) (DX.length + 1) cp))) := Kp.set HS6.out.pb.blk (by decide) HS6.out.pb.ge _
          obtain ⟨V, hV⟩ : ∃ V, w6.setCell ⟨bp, 2, none⟩ (.slice (some ⟨g, 0, none⟩) (DX.length + 1) cp) = V := ⟨_, rfl⟩
          rw [hV] at HS7 HK7
          refine tr [13] ?_
          refine AllReadyH.cons (tA rfl) (fun K hK => ?_) AllReadyH.nil
          go_simp
          try rw [hV]
          refine hK.out _ _ trivial (fun hHeld => ?_)
          clear hK K
          try simp only [Act.put, zA, zB, zC]
          refine wpAnyH_done (by kernel_rfl) ?_ _
          clear hHeld hV b4 z4
          have HD8 : Hid (V.ownsRow w.heap.size 54 9 (.slice (some ⟨g, 0, none⟩) (DX.length + 1) cp) (DX ++ [(⟨s1, .slice aa s1.params.length ca, .slice ab s1.body.length cb⟩ : Dx)]).length ((DX ++ [(⟨s1, .slice aa s1.params.length ca, .slice ab s1.body.length cb⟩ : Dx)]).flatMap dcC)) := by
            show World.ownsRow _ _ _ _ _ _ _
            rw [List.length_append, List.flatMap_append]
            have := row_kp HW6.out HK7.out (by decide)
            simpa using this
          have HDR8 : Hid (∀ p ∈ DX ++ [(⟨s1, .slice aa s1.params.length ca, .slice ab s1.body.length cb⟩ : Dx)], DxR B V p) := fun p hp => (HDR6.out p hp).kp HK7.out (by decide) (by decide)
          have HMP : Hid ((DX ++ [(⟨s1, .slice aa s1.params.length ca, .slice ab s1.body.length cb⟩ : Dx)]).map (·.d) = D ++ [s1]) := by
            show _ = _
            rw [List.map_append, HDM.out]; rfl
          have hdl : (DX ++ [(⟨s1, .slice aa s1.params.length ca, .slice ab s1.body.length cb⟩ : Dx)]).length ≤ j0 := by rw [List.length_append]; simp only [List.length_cons, List.length_nil]; omega
          clear HW6 HKP HS6 HDR6 HK7 HD5 HN5 HONE HW5 HS5 HDR5 HDM
          try go_wp2_with fail
          go_roundg (ts.length - j0)
          case measure => omega
          case rel => exact ⟨j0, D ++ [s1], E', N, DX ++ [(⟨s1, .slice aa s1.params.length ca, .slice ab s1.body.length cb⟩ : Dx)], _, vs', ve', fl, rfl, by omega, by omega, by omega, hdl, by omega, HD8, HDR8, HMP, HS7, HR5⟩
end Go.Proofs.YtikknlkdbjaonaaGreatDoor.Y

/- What read comes to: a parser of its own, all, and the panic that is recovered. -/
namespace Go.Proofs.YtikknlkdbjaonaaGreatDoor.Y
open Go.RowKit Go.Maps
set_option linter.unusedVariables false
set_option linter.unusedSimpArgs false
theorem catch_idle (b0 b1 : Nat) (w : World) :
    CallsD Tryz.prog 26 #[.pointer (some ⟨b0, 0, none⟩), .pointer (some ⟨b1, 0, none⟩)] .returning w fun e u' w' => e = .returned (.tuple #[]) ∧ u' = .returning ∧ w' = w := by
  refine callsD_of_wpS Tryz.func26 rfl fun c₀ cs hu => ?_
  apply wpS_seq
  apply wpS_region
  simp [wpOpsS, go_sem, recoverD, hu, Tryz.ntmps26, Exit.thenS]
  apply wpS_seq
  apply wpS_region
  simp [wpOpsS, go_sem, Tryz.ntmps26, Exit.thenS]
  refine wpS_cond (t := false) (by simp [Act.eval, Array.replicate]) ?_
  simp only [Bool.false_eq_true, if_false]
  refine wpS_of_wp (wp_skip ?_)
  cases c₀
  simp_all [bodyPostS, results, Tryz.results26]
theorem hTA (w : World) : (Instr.typeAssert (.iface 27 (.int .i64 2)) 20 27 false).run Tryz.prog w = .ok (.int .i64 2) w := by kernel_rfl
set_option maxRecDepth 100000 in
theorem catch_panicking (b0 b1 : Nat) (hne : b0 ≠ b1) (older : List PanicEntry) (w : World) (v0 v1 v2 v4 : Value) (c0 : w.cell? ⟨b0, 0, none⟩ = some v0) (c1 : w.cell? ⟨b0, 1, none⟩ = some v1) (c2 : w.cell? ⟨b0, 2, none⟩ = some v2) (c4 : w.cell? ⟨b1, 0, none⟩ = some v4) (z0 : ∀ o, w.frozen? ⟨b0, o, none⟩ = false) (z1 : ∀ o, w.frozen? ⟨b1, o, none⟩ = false) :
    CallsD Tryz.prog 26 #[.pointer (some ⟨b0, 0, none⟩), .pointer (some ⟨b1, 0, none⟩)] (.panicking ({ v := .iface 27 (.int .i64 2), recovered := false } :: older)) w fun e u' w' =>
      e = .returned (.tuple #[]) ∧ u' = .panicking ({ v := .iface 27 (.int .i64 2), recovered := true } :: older) ∧ w' = (((w.drew.setCell ⟨b0, 0, none⟩ (.slice none 0 0)).setCell ⟨b0, 1, none⟩ (.slice none 0 0)).setCell ⟨b0, 2, none⟩ (.slice none 0 0)).setCell ⟨b1, 0, none⟩ (.int .i64 2) := by
  have hta := hTA
  have hne' : b1 ≠ b0 := hne.symm
  have d0 : ∀ o v, w.cell? ⟨b0, o, none⟩ = some v → w.drew.cell? ⟨b0, o, none⟩ = some v := fun o v h => by rw [World.cell?_drew]; exact h
  have e0 := d0 0 v0 c0
  have e1 := d0 1 v1 c1
  have e2 := d0 2 v2 c2
  have e4 : w.drew.cell? ⟨b1, 0, none⟩ = some v4 := by rw [World.cell?_drew]; exact c4
  have f0 : ∀ o, w.drew.frozen? ⟨b0, o, none⟩ = false := z0
  have f1 : ∀ o, w.drew.frozen? ⟨b1, o, none⟩ = false := z1
  refine callsD_of_wpS Tryz.func26 rfl fun k₀ cs hu => ?_
  apply wpS_seq
  apply wpS_region
  simp [wpOpsS, go_sem, recoverD, hu, Tryz.ntmps26, Exit.thenS]
  apply wpS_seq
  apply wpS_region
  simp [wpOpsS, go_sem, Tryz.ntmps26, Exit.thenS]
  refine wpS_cond (t := true) (by simp [Act.eval, Array.replicate]) ?_
  simp only [if_true]
  refine wpS_of_wp ?_
  simp only [Array.replicate_succ, Array.replicate_zero, List.push_toArray, List.append_toArray, List.setIfInBounds_toArray, List.set_cons_zero, List.set_cons_succ, List.nil_append, List.cons_append]
  refine wp_region_held_drew (S := (fun w' : World => True)) (by kernel_rfl) trivial (fun hHeld => ?_)
  refine tj 0 ?_
  simp only [Act.put, zA, zB, zC]
  refine tj 1 ?_
  simp only [Act.put, zA, zB, zC]
  refine tj 2 ?_
  simp only [Act.put, zA, zB, zC]
  refine tr [3] ?_
  refine AllReadyH.cons (tA rfl) (fun K hK => ?_) AllReadyH.nil
  go_simp
  refine hK.out _ _ trivial (fun hHeld => ?_)
  clear hK K
  try simp only [Act.put, zA, zB, zC]
  refine tr [4] ?_
  refine AllReadyH.cons (tA rfl) (fun K hK => ?_) AllReadyH.nil
  go_simp
  refine hK.out _ _ trivial (fun hHeld => ?_)
  clear hK K
  try simp only [Act.put, zA, zB, zC]
  refine wpAnyH_done (by kernel_rfl) ?_ _
  simp [bodyPostS, results, Tryz.results26]
theorem MD.kp {Ts : List TypeId} {B C : Nat} {w y : World} {vd vs ve : Value} {M : Mod} {DX : List Dx} {XS : List Sx} (h : MD B w vd vs ve M DX XS) (hk : Kp Ts C w y) (h1 : 54 ∉ Ts) (h2 : 35 ∉ Ts) (h3 : 32 ∉ Ts) (h4 : 3 ∉ Ts) (h5 : 9 ∉ Ts) : MD B y vd vs ve M DX XS :=
  ⟨h.hd, h.hs, row_kp h.rd hk h1, row_kp h.rs hk h2, row_kp h.re hk h3, fun p hp => (h.dr p hp).kp2 hk h4 h5, fun p hp => (h.sr p hp).kp2 hk h4⟩
theorem MD.bel {B : Nat} {w y : World} {vd vs ve : Value} {M : Mod} {DX : List Dx} {XS : List Sx} (h : MD B w vd vs ve M DX XS) (hb : Below w.heap.size w y) : MD B y vd vs ve M DX XS := h.kp (Ts := []) (Kp.of hb (Nat.le_refl _)) (by simp) (by simp) (by simp) (by simp) (by simp)
def noMod : Value := .agg #[.slice none 0 0, .slice none 0 0, .slice none 0 0]
/-- What reading tokens, and a source, comes to. -/
def ROut (B : Nat) (w : World) (r : Option Mod) (e : Ending) (w' : World) : Prop :=
  Kp T3 B w w' ∧ match r with
    | none => e = .returned (.tuple #[noMod, .int .i64 2])
    | some M => ∃ vd vs ve DX XS, e = .returned (.tuple #[.agg #[vd, vs, ve], .int .i64 0]) ∧ MD B w' vd vs ve M DX XS
abbrev setM (y : World) (b0 b1 : Nat) (v0 v1 v2 v3 : Value) : World := (((y.setCell ⟨b0, 0, none⟩ v0).setCell ⟨b0, 1, none⟩ v1).setCell ⟨b0, 2, none⟩ v2).setCell ⟨b1, 0, none⟩ v3
theorem setM_kp {B b0 b1 : Nat} {y : World} {c0 c1 : Array Value} (h0 : y.heap[b0]? = some (Obj.cells c0 26 (0, 0))) (h1 : y.heap[b1]? = some (Obj.cells c1 27 (0, 0))) (hB0 : B ≤ b0) (hB1 : B ≤ b1) (v0 v1 v2 v3 : Value) : Kp [26, 27] B y (setM y b0 b1 v0 v1 v2 v3) := by
  have hne : b0 ≠ b1 := blk_ne h0 h1 (by decide)
  have k0 : Kp [26, 27] B y _ := Kp.set (i := 0) h0 (by decide) hB0 v0
  have g0 := blk_set (i := 0) h0 v0
  have k1 : Kp [26, 27] B _ _ := Kp.set (i := 1) g0 (by decide) hB0 v1
  have g1 := blk_set (i := 1) g0 v1
  have k2 : Kp [26, 27] B _ _ := Kp.set (i := 2) g1 (by decide) hB0 v2
  have e0 := blk_far (k := 2) (u := v2) (blk_far (k := 1) (u := v1) (blk_far (k := 0) (u := v0) h1 hne) hne) hne
  have k3 : Kp [26, 27] B _ _ := Kp.set (i := 0) e0 (by decide) hB1 v3
  exact ((k0.trans k1).trans k2).trans k3
set_option maxRecDepth 100000 in
set_option maxHeartbeats 4000000 in
theorem read_any {B : Nat} {ts : List X.Tok} {a : Option Addr} {c : Nat} (G : Good ts) (hB : 8 ≤ B) {w : World} (he : Env w) (ht : w.ownsRow B 48 4 (.slice a ts.length c) ts.length (ts.flatMap tokC)) (hBw : B ≤ w.heap.size) : Calls Tryz.prog 16 #[.slice a ts.length c] w (ROut B w (modOf ts)) := by
  have HMF := hmf Tryz.prog
  obtain ⟨R, hR⟩ : ∃ R, modOf ts = R := ⟨_, rfl⟩
  obtain ⟨W1, hW1⟩ : ∃ W1, w.alloc (.cells #[.slice none 0 0, .slice none 0 0, .slice none 0 0] 26) = W1 := ⟨_, rfl⟩
  have s1 : W1.heap.size = w.heap.size + 1 := by rw [← hW1]; simp
  have b1 : Below w.heap.size w W1 := by rw [← hW1]; exact bl1 _ _
  obtain ⟨W2, hW2⟩ : ∃ W2, W1.alloc (.cells #[.int .i64 0] 27) = W2 := ⟨_, rfl⟩
  have s2 : W2.heap.size = w.heap.size + 2 := by rw [← hW2]; simp; omega
  have b2 : Below W1.heap.size W1 W2 := by rw [← hW2]; exact bl1 _ _
  obtain ⟨W3, hW3⟩ : ∃ W3, W2.alloc (.cells #[.slice a ts.length c, .int .i64 0, .slice none 0 0, .slice none 0 0, .slice none 0 0, .int .i64 0] 69) = W3 := ⟨_, rfl⟩
  have s3 : W3.heap.size = w.heap.size + 3 := by rw [← hW3]; simp; omega
  have b3 : Below W2.heap.size W2 W3 := by rw [← hW3]; exact bl1 _ _
  have HBL : Hid (Below w.heap.size w W3) := (b1.trans (b2.mono (by omega))).trans (b3.mono (by omega))
  have HM0 : Hid (W3.heap[w.heap.size]? = some (.cells #[.slice none 0 0, .slice none 0 0, .slice none 0 0] 26)) := by
    show _ = _
    rw [b3.block _ (by omega), b2.block _ (by omega), ← hW1]
    exact heap_new _ _
  have HE0 : Hid (W3.heap[W1.heap.size]? = some (.cells #[.int .i64 0] 27)) := by
    show _ = _
    rw [b3.block _ (by omega), ← hW2]
    exact heap_new _ _
  have HS : Hid (ST B ts W3 (.slice none 0 0) [] W2.heap.size a c 0 (.slice none 0 0) (.slice none 0 0) (.slice none 0 0) 0 [] [] W3) := by
    refine ⟨⟨by omega, ?_, row_thru' ht HBL.out⟩, World.ownsRow_nil _ _ _ _, World.ownsRow_nil _ _ _ _, fun p hp => (by cases hp), Ks.refl _ _ _, fun p hp => (by cases hp), by omega⟩
    rw [← hW3]
    exact heap_new _ _
  have HEV : Hid (Env W3) := he.below (HBL.out.mono (by omega))
  have HAL : Hid (Calls Tryz.prog 27 #[.pointer (some ⟨W2.heap.size, 0, none⟩)] W3 (AllOut B ts W3 W2.heap.size a c R)) := by rw [← hR]; exact all_any G hB HS.out HEV.out
  have HSZ : Hid (W1.heap.size = w.heap.size + 1 ∧ W2.heap.size = w.heap.size + 2) := ⟨s1, s2⟩
  have HBW : Hid (B ≤ w.heap.size) := hBw
  rw [hR]
  clear he ht hR b1 b2 b3 s1 s2 s3 hBw
  go_enter_defers Tryz.func16, Tryz.ntmps16
  go_wp2_with fail
  refine Calls.mono HAL.out ?_
  intro e y hy
  have HY : Hid (AllOut B ts W3 W2.heap.size a c R e y) := hy
  have q0 := HY.out.1.keep _ _ _ _ HM0.out (by decide)
  have q4 := HY.out.1.keep _ _ _ _ HE0.out (by decide)
  have HQ : Hid (y.heap[w.heap.size]? = some (Obj.cells #[.slice none 0 0, .slice none 0 0, .slice none 0 0] 26 (0, 0)) ∧ y.heap[W1.heap.size]? = some (Obj.cells #[.int .i64 0] 27 (0, 0))) := ⟨q0, q4⟩
  have m0 := cell_blk q0 0 (v := .slice none 0 0) rfl
  have m1 := cell_blk q0 1 (v := .slice none 0 0) rfl
  have m2 := cell_blk q0 2 (v := .slice none 0 0) rfl
  have m4 := cell_blk q4 0 (v := .int .i64 0) rfl
  have z0 : ∀ o, y.frozen? ⟨w.heap.size, o, none⟩ = false := fun o => blk_fro q0
  have z1 : ∀ o, y.frozen? ⟨W1.heap.size, o, none⟩ = false := fun o => blk_fro q4
  have hne : w.heap.size ≠ W1.heap.size := by have := HSZ.out; omega
  have HB1 : Hid (B ≤ w.heap.size ∧ B ≤ W1.heap.size ∧ w.heap.size < y.heap.size ∧ W1.heap.size < y.heap.size) := ⟨HBW.out, by have := HSZ.out; have := HBW.out; omega, blk_lt q0, blk_lt q4⟩
  clear hy q0 q4 HAL HS HEV HM0 HE0 hW1 hW2 hW3
  cases R with
  | none =>
    have h3' : e = _ := HY.out.2
    subst h3'
    have HF : Hid (ROut B w none (.returned (.tuple #[noMod, .int .i64 2])) (setM y.drew w.heap.size W1.heap.size (.slice none 0 0) (.slice none 0 0) (.slice none 0 0) (.int .i64 2))) := by
      have hd : Below y.heap.size y y.drew := (Below.refl _ _).drew
      exact ⟨((Kp.of HBL.out HBW.out).trans HY.out.1).then ((hd.mono (by have := HB1.out; omega)).trans (setM_kp (blk_thru hd HQ.out.1) (blk_thru hd HQ.out.2) (Nat.le_refl _) (by have := HSZ.out; omega) _ _ _ _).low) HBW.out, rfl⟩
    clear HY
    go_wp2
    refine leaves_cons (f := 26) (args := #[.pointer (some ⟨w.heap.size, 0, none⟩), .pointer (some ⟨W1.heap.size, 0, none⟩)]) (by simp) (by simp [go_sem]) ?_
    refine (catch_panicking w.heap.size W1.heap.size hne [] _ _ _ _ _ m0 m1 m2 m4 z0 z1).mono ?_
    rintro e u' w'' ⟨rfl, rfl, rfl⟩
    simp [Leaves, settle, results, Tryz.results16, go_sem, m0, m1, m2, m4, hne, hne.symm]
    exact HF.out
  | some M =>
    obtain ⟨hk, rfl, vd, vs, ve, DX, XS, j, hp, hm⟩ := HY.out
    obtain ⟨ad, cd, rfl⟩ := row_form hm.rd
    obtain ⟨as', cs, rfl⟩ := row_form hm.rs
    obtain ⟨ae, ce, rfl⟩ := row_form hm.re
    have p2 := hp.c2
    have p3 := hp.c3
    have p4 := hp.c4
    have HF : Hid (ROut B w (some M) (.returned (.tuple #[.agg #[.slice ad DX.length cd, .slice as' XS.length cs, .slice ae M.exps.length ce], .int .i64 0])) (setM y w.heap.size W1.heap.size (.slice ad DX.length cd) (.slice as' XS.length cs) (.slice ae M.exps.length ce) (.int .i64 0))) := by
      have hkk := setM_kp (B := w.heap.size) HQ.out.1 HQ.out.2 (Nat.le_refl _) (by have := HSZ.out; omega) (.slice ad DX.length cd) (.slice as' XS.length cs) (.slice ae M.exps.length ce) (.int .i64 0)
      exact ⟨((Kp.of HBL.out HBW.out).trans hk).then hkk.low HBW.out, _, _, _, DX, XS, rfl, hm.kp hkk (by decide) (by decide) (by decide) (by decide) (by decide)⟩
    clear HY hk hm hp
    go_wp2
    refine leaves_cons (f := 26) (args := #[.pointer (some ⟨w.heap.size, 0, none⟩), .pointer (some ⟨W1.heap.size, 0, none⟩)]) (by simp) (by simp [go_sem]) ?_
    refine (catch_idle w.heap.size W1.heap.size _).mono ?_
    rintro e u' w'' ⟨rfl, rfl, rfl⟩
    simp [Leaves, settle, results, Tryz.results16, go_sem, m0, m1, m2, m4, hne, hne.symm]
    exact HF.out
end Go.Proofs.YtikknlkdbjaonaaGreatDoor.Y

/- What lex cuts is good for the parser. -/
namespace Go.Proofs.YtikknlkdbjaonaaGreatDoor.Y
open X
structure OkT (t : Tok) : Prop where
  k0 : t.kind ≠ 0
  n63 : t.n < 9223372036854775808
  inn : t.kind ≠ 4 → inn (first t.text) = true
theorem first_takeWhile {p : UInt8 → Bool} {l : By} (h : l.takeWhile p ≠ []) : first (l.takeWhile p) = first l := by
  cases l with
  | nil => exact absurd rfl h
  | cons c r =>
    rw [List.takeWhile_cons] at h ⊢
    split
    · rfl
    · rename_i hc; rw [if_neg hc] at h; exact absurd rfl h
theorem words_inn : ∀ w ∈ words, inn (first w) = true := by decide
theorem ops_inn : ∀ o ∈ ops, inn (first o.1) = false := by decide
theorem step_ok {l : By} {k n v : Nat} (h : X.step l = some (k, n, v)) (hk : k ≠ 0) : v < 9223372036854775808 ∧ (k ≠ 4 → inn (first (l.take n)) = true) := by
  unfold X.step at h
  simp only at h
  split at h
  · simp at h; omega
  split at h
  · simp only [Option.some.injEq, Prod.mk.injEq] at h; obtain ⟨rfl, -, rfl⟩ := h; exact ⟨by decide, fun e => absurd rfl e⟩
  split at h
  · simp only [Option.some.injEq, Prod.mk.injEq] at h; obtain ⟨rfl, -, rfl⟩ := h; exact ⟨by decide, fun e => absurd rfl e⟩
  split at h
  · simp only [Option.some.injEq, Prod.mk.injEq] at h; obtain ⟨rfl, -, rfl⟩ := h; exact ⟨by decide, fun e => absurd rfl e⟩
  split at h
  · split at h
    · simp at h; omega
    · simp only [Option.some.injEq, Prod.mk.injEq] at h; obtain ⟨rfl, -, rfl⟩ := h; exact ⟨by decide, fun e => absurd rfl e⟩
  split at h
  · simp only [Option.some.injEq, Prod.mk.injEq] at h; obtain ⟨rfl, -, rfl⟩ := h; exact ⟨by decide, fun e => absurd rfl e⟩
  split at h
  · rename_i hd
    unfold number at h
    split at h
    · rename_i hn
      simp only [Option.some.injEq, Prod.mk.injEq] at h
      obtain ⟨rfl, rfl, rfl⟩ := h
      refine ⟨?_, fun _ => ?_⟩
      · have := hn.1
        unfold numOk at this
        rw [Bool.and_eq_true, decide_eq_true_eq] at this
        exact this.1
      · rw [← takeWhile_eq]
        have hne : l.takeWhile pd ≠ [] := by
          cases l with
          | nil => simp [first, dg] at hd
          | cons c r =>
            rw [List.takeWhile_cons, if_pos (show pd c = true from hd)]
            simp
        rw [first_takeWhile hne]
        exact inn_of_dg hd
    · cases h
  · unfold wordOrName at h
    split at h
    · rename_i hw
      simp only [Option.some.injEq, Prod.mk.injEq] at h
      obtain ⟨rfl, rfl, rfl⟩ := h
      refine ⟨by decide, fun _ => ?_⟩
      rw [← takeWhile_eq]
      unfold isWord at hw
      rw [List.contains_iff_mem] at hw
      exact words_inn _ hw
    · split at h
      · rename_i hw
        simp only [Option.some.injEq, Prod.mk.injEq] at h
        obtain ⟨rfl, rfl, rfl⟩ := h
        refine ⟨by decide, fun _ => ?_⟩
        rw [← takeWhile_eq]
        unfold name at hw
        simp only [Bool.and_eq_true] at hw
        exact inn_of_lt hw.1.1.2
      · cases h
theorem toks_ok : ∀ (f i : Nat) (l : By) (ts : List Tok), lexF f i l = some ts → ∀ t ∈ ts, OkT t
  | f, i, [], ts, h => by unfold lexF at h; cases h; intro t ht; cases ht
  | 0, i, c :: l, ts, h => by simp [lexF] at h
  | f + 1, i, c :: l, ts, h => by
    unfold lexF at h
    cases e : X.step (c :: l) with
    | none => rw [e] at h; simp at h
    | some q =>
      obtain ⟨k, n, v⟩ := q
      rw [e] at h
      simp only at h
      obtain ⟨us, h1, h2⟩ := Option.map_eq_some_iff.1 h
      have ih := toks_ok f (i + n) _ us h1
      by_cases hk : k = 0
      · rw [if_pos hk] at h2; subst h2; exact ih
      · rw [if_neg hk] at h2
        subst h2
        intro t ht
        rcases List.mem_cons.1 ht with rfl | ht
        · have := step_ok e hk
          exact ⟨hk, this.1, this.2⟩
        · exact ih t ht
theorem lev_inn {s : By} (h : 0 < lev s) : inn (first s) = false := by
  unfold lev at h
  cases e : ops.find? (fun o => decide (o.1 = s)) with
  | none => rw [e] at h; simp at h
  | some o =>
    have hm := List.mem_of_find?_eq_some e
    have hp := List.find?_some e
    have : o.1 = s := by simpa using hp
    rw [← this]
    exact ops_inn o hm
theorem good_lex {l : By} {L : List Tok} (h : lex l = (L, 0)) : Y.Good L := by
  unfold lex at h
  split at h
  · cases h
  · split at h
    · cases h
    · rename_i ts hts
      split at h
      · cases h
      · rename_i hlen
        injection h with h _
        subst h
        have hok := toks_ok _ _ _ _ hts
        have hin : ∀ i, i < ts.length → OkT (tk (ts ++ [⟨0, [], 0, l.length⟩]) i) := fun i hi => by
          have : tk (ts ++ [(⟨0, [], 0, l.length⟩ : Tok)]) i = ts[i] := by unfold tk; rw [List.getD_eq_getElem?_getD, List.getElem?_append_left hi, List.getElem?_eq_getElem hi]; rfl
          rw [this]
          exact hok _ (List.getElem_mem hi)
        have hend : ∀ i, ts.length ≤ i → (tk (ts ++ [(⟨0, [], 0, l.length⟩ : Tok)]) i).kind = 0 ∧ (tk (ts ++ [(⟨0, [], 0, l.length⟩ : Tok)]) i).text = [] ∧ (tk (ts ++ [(⟨0, [], 0, l.length⟩ : Tok)]) i).n = 0 := fun i hi => by
          unfold tk
          rw [List.getD_eq_getElem?_getD, List.getElem?_append_right hi]
          cases hq : i - ts.length with
          | zero => exact ⟨rfl, rfl, rfl⟩
          | succ q => exact ⟨rfl, rfl, rfl⟩
        have hl : (ts ++ [(⟨0, [], 0, l.length⟩ : Tok)]).length = ts.length + 1 := by simp
        refine ⟨by rw [hl]; omega, fun i hi hk => ?_, fun i hk => ?_, by rw [hl]; omega, fun i => ?_, fun i hv => ?_, fun i hv => ?_⟩
        · rw [hl] at hi ⊢
          by_cases e : i < ts.length
          · omega
          · exact absurd (hend i (by omega)).1 hk
        · by_cases e : i < ts.length
          · exact absurd hk (hin i e).k0
          · exact (hend i (by omega)).2.1
        · by_cases e : i < ts.length
          · exact (hin i e).n63
          · rw [(hend i (by omega)).2.2]; decide
        · by_cases e : i < ts.length
          · by_cases h4 : (tk (ts ++ [(⟨0, [], 0, l.length⟩ : Tok)]) i).kind = 4
            · exact h4
            · have := (hin i e).inn h4
              rw [lev_inn hv] at this
              cases this
          · rw [(hend i (by omega)).2.1, lev_nil] at hv
            omega
        · by_cases e : i < ts.length
          · by_cases h4 : (tk (ts ++ [(⟨0, [], 0, l.length⟩ : Tok)]) i).kind = 4
            · exact h4
            · have := (hin i e).inn h4
              rw [hv] at this
              exact absurd this (by decide)
          · rw [(hend i (by omega)).2.1] at hv
            cases hv
end Go.Proofs.YtikknlkdbjaonaaGreatDoor.Y

/- The program's Parse. -/
namespace Go.Proofs.YtikknlkdbjaonaaGreatDoor.Y
open Go.RowKit Go.Maps
set_option linter.unusedVariables false
set_option linter.unusedSimpArgs false
/-- A source's module, and what is told beside it. -/
def parse (l : By) : Option Mod × Nat := if (X.lex l).2 = 0 then (match modOf (X.lex l).1 with
    | none => (none, 2)
    | some M => (some M, 0)) else (none, (X.lex l).2)
/-- What Parse comes to. -/
def PSOut (w : World) (r : Option Mod × Nat) (e : Ending) (w' : World) : Prop :=
  Below w.heap.size w w' ∧ match r.1 with
    | none => e = .returned (.tuple #[noMod, .int .i64 (r.2 : Int)])
    | some M => ∃ vd vs ve DX XS, e = .returned (.tuple #[.agg #[vd, vs, ve], .int .i64 0]) ∧ MD w.heap.size w' vd vs ve M DX XS
theorem setN_kp {B b0 : Nat} {y : World} {c0 : Array Value} (h0 : y.heap[b0]? = some (Obj.cells c0 26 (0, 0))) (hB0 : B ≤ b0) (v0 v1 v2 : Value) : Kp [26] B y (((y.setCell ⟨b0, 0, none⟩ v0).setCell ⟨b0, 1, none⟩ v1).setCell ⟨b0, 2, none⟩ v2) := by
  have k0 : Kp [26] B y _ := Kp.set (i := 0) h0 (by decide) hB0 v0
  have g0 := blk_set (i := 0) h0 v0
  have k1 : Kp [26] B _ _ := Kp.set (i := 1) g0 (by decide) hB0 v1
  have g1 := blk_set (i := 1) g0 v1
  have k2 : Kp [26] B _ _ := Kp.set (i := 2) g1 (by decide) hB0 v2
  exact (k0.trans k1).trans k2
set_option maxRecDepth 100000 in
set_option maxHeartbeats 4000000 in
theorem parse_any (s : ByteArray) (hs : s.size ≤ maxLen) (w : World) (he : Env w) : Calls Tryz.prog 7 #[.string s] w (PSOut w (parse s.data.toList)) := by
  obtain ⟨L, hL⟩ : ∃ L, X.lex s.data.toList = L := ⟨_, rfl⟩
  obtain ⟨R, hR⟩ : ∃ R, parse s.data.toList = R := ⟨_, rfl⟩
  have hR0 := hR
  unfold parse at hR0
  rw [hL] at hR0
  have HR : Hid _ := hR0
  obtain ⟨W0, hW0⟩ : ∃ W0, w.alloc (.cells #[.slice none 0 0, .slice none 0 0, .slice none 0 0] 26) = W0 := ⟨_, rfl⟩
  have HB0 : Hid (Below w.heap.size w W0) := by show Below _ _ _; rw [← hW0]; exact bl1 _ _
  have HM0 : Hid (W0.heap[w.heap.size]? = some (.cells #[.slice none 0 0, .slice none 0 0, .slice none 0 0] 26)) := by show _ = _; rw [← hW0]; exact heap_new _ _
  have h8 : 8 ≤ w.heap.size := he.hz
  have HE0 : Hid (Env W0) := he.below (HB0.out.mono h8)
  have HLX : Hid (Calls Tryz.prog 15 #[.string s] W0 (LexOut W0 L)) := by rw [← hL]; exact lex_any s hs W0 HE0.out.tab
  have HGD : Hid (L.2 = 0 → Good L.1) := fun h => good_lex (l := s.data.toList) (by rw [hL, ← h])
  rw [hR]
  clear he hR hR0 hL
  go_enter Tryz.func7, Tryz.ntmps7
  go_wp2_with fail
  try rw [hW0]
  clear hW0
  refine Calls.mono HLX.out ?_
  rintro e y1 ⟨a, n, c, rfl, hrow, hn, hb1⟩
  subst hn
  have HROW : Hid (y1.ownsRow w.heap.size 48 4 (.slice a L.1.length c) L.1.length (L.1.flatMap tokC)) := row_low hrow HB0.out.size
  have HB1 : Hid (Below w.heap.size w y1) := HB0.out.trans (hb1.mono HB0.out.size)
  have HE1 : Hid (Env y1) := HE0.out.below (hb1.mono (by have := HB0.out.size; omega))
  have hm1 := blk_thru hb1 HM0.out
  have HM1 : Hid (y1.heap[w.heap.size]? = some (Obj.cells #[.slice none 0 0, .slice none 0 0, .slice none 0 0] 26 (0, 0))) := hm1
  clear hrow hb1 HLX HE0 HM0 HB0
  obtain ⟨ts, z⟩ := L
  by_cases hz : z = 0
  · subst hz
    have e0 : (((0 : Nat) : Int) != 0) = false := rfl
    have HR2 : Hid ((match modOf ts with
      | none => (none, 2)
      | some M => (some M, 0)) = R) := by
      show _ = R
      have := HR.out
      rw [if_pos rfl] at this
      exact this
    have HRD : Hid (Calls Tryz.prog 16 #[.slice a ts.length c] y1 (ROut w.heap.size y1 (modOf ts))) := read_any (HGD.out rfl) h8 HE1.out HROW.out HB1.out.size
    clear HR HROW HGD HE1 hm1
    go_wp2_with fail
    refine Calls.mono HRD.out ?_
    intro e y2 hy
    have HY : Hid (ROut w.heap.size y1 (modOf ts) e y2) := hy
    have hm2 := HY.out.1.keep _ _ _ _ HM1.out (by decide)
    have HM2 : Hid (y2.heap[w.heap.size]? = some (Obj.cells #[.slice none 0 0, .slice none 0 0, .slice none 0 0] 26 (0, 0))) := hm2
    have m0 := cell_blk hm2 0 (v := .slice none 0 0) rfl
    have m1 := cell_blk hm2 1 (v := .slice none 0 0) rfl
    have m2 := cell_blk hm2 2 (v := .slice none 0 0) rfl
    have zz : ∀ o, y2.frozen? ⟨w.heap.size, o, none⟩ = false := fun o => blk_fro hm2
    clear hy HRD hm2
    cases hq : modOf ts with
    | none =>
      have h2 := HY.out
      rw [hq] at h2
      obtain ⟨hk, rfl⟩ := h2
      obtain rfl : R = (none, 2) := by rw [← HR2.out, hq]
      have HF : Hid (PSOut w (none, 2) (.returned (.tuple #[noMod, .int .i64 2])) (((y2.setCell ⟨w.heap.size, 0, none⟩ (.slice none 0 0)).setCell ⟨w.heap.size, 1, none⟩ (.slice none 0 0)).setCell ⟨w.heap.size, 2, none⟩ (.slice none 0 0))) := ⟨(HB1.out.trans hk.low).trans (setN_kp HM2.out (Nat.le_refl _) _ _ _).low, rfl⟩
      clear HY hk hq HR2
      unfold noMod
      go_wp2_with fail
      refine bodyPost_ret (v := .tuple #[noMod, .int .i64 2]) ?_ rfl ?_
      · simp [results, Tryz.results7, go_sem, m0, m1, m2, zz, noMod]
      · exact HF.out
    | some M =>
      have h2 := HY.out
      rw [hq] at h2
      obtain ⟨hk, vd, vs, ve, DX, XS, rfl, hm⟩ := h2
      obtain rfl : R = (some M, 0) := by rw [← HR2.out, hq]
      obtain ⟨ad, cd, rfl⟩ := row_form hm.rd
      obtain ⟨as', cs, rfl⟩ := row_form hm.rs
      obtain ⟨ae, ce, rfl⟩ := row_form hm.re
      have HF : Hid (PSOut w (some M, 0) (.returned (.tuple #[.agg #[.slice ad DX.length cd, .slice as' XS.length cs, .slice ae M.exps.length ce], .int .i64 0])) (((y2.setCell ⟨w.heap.size, 0, none⟩ (.slice ad DX.length cd)).setCell ⟨w.heap.size, 1, none⟩ (.slice as' XS.length cs)).setCell ⟨w.heap.size, 2, none⟩ (.slice ae M.exps.length ce))) := by
        have hkk := setN_kp HM2.out (Nat.le_refl _) (.slice ad DX.length cd) (.slice as' XS.length cs) (.slice ae M.exps.length ce)
        exact ⟨(HB1.out.trans hk.low).trans hkk.low, _, _, _, DX, XS, rfl, hm.kp hkk (by decide) (by decide) (by decide) (by decide) (by decide)⟩
      clear HY hk hq HR2 hm
      go_wp2_with fail
      refine bodyPost_ret (v := .tuple #[.agg #[.slice ad DX.length cd, .slice as' XS.length cs, .slice ae M.exps.length ce], .int .i64 0]) ?_ rfl ?_
      · simp [results, Tryz.results7, go_sem, m0, m1, m2, zz]
      · exact HF.out
  · have e0 : ((z : Int) != 0) = true := by
      have : (z : Int) ≠ 0 := fun e => hz (by omega)
      simpa using this
    have hRR : R = (none, z) := by
      have := HR.out
      rw [if_neg hz] at this
      exact this.symm
    subst hRR
    have m0 := cell_blk hm1 0 (v := .slice none 0 0) rfl
    have m1 := cell_blk hm1 1 (v := .slice none 0 0) rfl
    have m2 := cell_blk hm1 2 (v := .slice none 0 0) rfl
    have zz : ∀ o, y1.frozen? ⟨w.heap.size, o, none⟩ = false := fun o => blk_fro hm1
    have HF : Hid (PSOut w (none, z) (.returned (.tuple #[noMod, .int .i64 (z : Int)])) (((y1.setCell ⟨w.heap.size, 0, none⟩ (.slice none 0 0)).setCell ⟨w.heap.size, 1, none⟩ (.slice none 0 0)).setCell ⟨w.heap.size, 2, none⟩ (.slice none 0 0))) := ⟨HB1.out.trans (setN_kp HM1.out (Nat.le_refl _) _ _ _).low, rfl⟩
    clear HR HROW HGD HE1 hm1
    go_wp2_with fail
    refine bodyPost_ret (v := .tuple #[noMod, .int .i64 (z : Int)]) ?_ rfl ?_
    · simp [results, Tryz.results7, go_sem, m0, m1, m2, zz, noMod]
    · exact HF.out
end Go.Proofs.YtikknlkdbjaonaaGreatDoor.Y
