/- What is written of what was read is read again: statements and blocks. -/
import Derived.Test.YtikknlkdbjaonaaGreatDoorPKb
import Derived.Test.YtikknlkdbjaonaaGreatDoorPKa
namespace Go.Proofs.YtikknlkdbjaonaaGreatDoor.Y
open X
set_option linter.unusedVariables false
set_option linter.unusedSimpArgs false
variable {ts : List X.Tok}
/-- A statement that is written and read again. -/
structure TP (ts : List X.Tok) (f d i j : Nat) (E : List Exp) (S : List Stmt) (s : Stmt) (E' : List Exp) (S' : List Stmt) (u : List By) : Prop where
  sub : List.Sublist u (txs ts i j)
  hd : ∃ v, u = (tk ts i).text :: v
  ne : (tk ts i).text ≠ kElse
  wr : ∀ (M : List Exp) (P : List Stmt) (g : Nat) (T : By), 21 ≤ g + d → 1 ≤ g → wstmt (E' ++ M) (S' ++ P) g s T = puts T u
  rd : ∀ (t2 : List X.Tok) (i2 g : Nat), Rd t2 i2 u → (tk t2 (i2 + u.length)).text ≠ kElse → 3 * u.length + 1 ≤ g → stm t2 g d i2 E S = some (s, i2 + u.length, E', S')
theorem txt_ne (G : Lx ts) {i : Nat} (hk : (tk ts i).kind = 2) {s : By} {k n v : Nat} (hs : X.step s = some (k, n, v)) (h2 : k ≠ 2) (hne : s ≠ []) : (tk ts i).text ≠ s := fun e => h2 (by rw [← kind_of hs G e hne, hk])
theorem bk_setS (G : Lx ts) {d i j : Nat} {s : Stmt} {E E' : List Exp} {S S' : List Stmt} (hl : j ≤ ts.length) (h : setS ts d i E S = some (s, j, E', S')) : ∃ u N, E' = E ++ N ∧ S' = S ∧ (tk ts i).kind = 2 ∧ List.Sublist u (txs ts i j) ∧ (∃ v, u = (tk ts i).text :: v) ∧ (∀ (M : List Exp) (P : List Stmt) (g : Nat) (T : By), 1 ≤ g → wstmt (E' ++ M) P g s T = puts T u) ∧ ∀ (t2 : List X.Tok) (i2 : Nat) (S2 : List Stmt), Rd t2 i2 u → setS t2 d i2 E S2 = some (s, i2 + u.length, E', S2) ∧ isC t2 i2 = false := by
  have hij := setS_on h
  unfold setS at h
  split at h
  · rename_i h0
    have hne : (tk ts i).text ≠ [] := fun e => by rw [G.nul i e] at h0; exact absurd h0 (by decide)
    have hisC : ∀ {t2 : List X.Tok} {i2 : Nat} {s : By}, Lx t2 → (tk t2 i2).text = (tk ts i).text → (tk t2 (i2 + 1)).text = s → s ≠ [40] → isC t2 i2 = false := by
      intro t2 i2 s hl2 e1 e2 hs
      unfold isC
      rw [e1, e2]
      have n1 : (tk ts i).text ≠ kGet := txt_ne G h0 (k := 3) (n := 3) (v := 0) (by decide) (by decide) (by decide)
      have n2 : (tk ts i).text ≠ kPut := txt_ne G h0 (k := 3) (n := 3) (v := 0) (by decide) (by decide) (by decide)
      simp [n1, n2, hs]
    split at h
    · rename_i h1
      rw [Option.bind_eq_some_iff] at h
      obtain ⟨⟨y, k, E1⟩, hb, h⟩ := h
      have ho := Ix_on hb
      dsimp only at h
      split at h
      · rename_i h2
        have hv := val_on h
        obtain ⟨u, N, hE, hp⟩ := bk_Ix G (by omega) h1 hb
        obtain ⟨x, v, N2, hs, hS, hE2, hq⟩ := bk_val G hl h
        subst hs hS hE hE2
        refine ⟨(tk ts i).text :: (([91] :: (u ++ [[93]])) ++ ([61] :: v)), N ++ N2, List.append_assoc _ _ _, rfl, h0, ?_, ⟨_, rfl⟩, fun M P g T hg => ?_, fun t2 i2 S2 hr => ?_⟩
        · rw [txs_add (show i ≤ i + 1 by omega) (by omega), txs_one (by omega), txs_add (show i + 1 ≤ k by omega) (by omega), txs_add (show k ≤ k + 1 by omega) (by omega), txs_one (i := k) (by omega), h2]
          exact (hp.sub.append (hq.sub.cons_cons _)).cons_cons _
        · obtain ⟨g, rfl⟩ : ∃ m, g = m + 1 := ⟨g - 1, by omega⟩
          rw [wstmt]
          simp only
          rw [if_neg (by decide), if_neg (by decide), if_pos trivial, show (tk ts i).text :: (([91] :: (u ++ [[93]])) ++ ([61] :: v)) = [(tk ts i).text, [91]] ++ (u ++ ([93] :: ([61] :: v))) by simp, puts_app T]
          congr 1
          funext T1
          rw [List.append_assoc (E ++ N), hp.wr, puts_app]
          congr 1
          funext T2
          rw [puts_cons T2 [93] ([61] :: v)]
          congr 1
          funext T3
          rw [← List.append_assoc (E ++ N)]
          exact hq.wr M [61] T3
        · obtain ⟨a0, r0⟩ := hr.hd
          obtain ⟨r1, r2⟩ := r0.app
          obtain ⟨a1, -⟩ := r1.hd
          obtain ⟨a2, r3⟩ := r2.hd
          refine ⟨?_, hisC hr.lx a0 a1 (by decide)⟩
          unfold setS
          rw [if_pos ((G.kind hr.lx a0).trans h0), if_pos a1, hp.rd t2 _ r1, Option.bind_some]
          dsimp only
          rw [if_pos a2, a0, (hq.rd t2 _ _ S2 r3).1]
          simp only [List.length_cons, List.length_append, List.length_nil]
          rw [show i2 + 1 + (u.length + (0 + 1) + 1) + 1 + v.length = i2 + (u.length + (0 + 1) + 1 + (v.length + 1) + 1) by omega]
      · cases h
    · rename_i h1
      split at h
      · rename_i h2
        split at h
        · rename_i h3
          have hc := cl_on h
          obtain ⟨u, N, hE, hS, hp⟩ := bk_cl G hl h
          refine ⟨(tk ts i).text :: [61] :: u, N, hE, hS, h0, ?_, ⟨_, rfl⟩, fun M P g T hg => ?_, fun t2 i2 S2 hr => ?_⟩
          · rw [txs_add (show i ≤ i + 1 by omega) (by omega), txs_one (by omega), txs_add (show i + 1 ≤ i + 2 by omega) (by omega), txs_one (i := i + 1) (by omega), h2]
            exact (hp.sub.cons_cons _).cons_cons _
          · obtain ⟨g, rfl⟩ : ∃ m, g = m + 1 := ⟨g - 1, by omega⟩
            have hw : wcall (E' ++ M) s T = puts T ((tk ts i).text :: [61] :: u) := by
              unfold wcall
              rw [hp.name, if_neg hne, show (tk ts i).text :: [61] :: u = [(tk ts i).text, [61]] ++ u from rfl, puts_app T]
              congr 1
              funext T1
              exact hp.wr M T1
            rw [wstmt]
            rcases hp.kind with e | e | e <;> rw [e] <;> simp <;> exact hw
          · obtain ⟨a0, r0⟩ := hr.hd
            obtain ⟨a1, r1⟩ := r0.hd
            have hq := hp.rd t2 _ S2 r1
            refine ⟨?_, hisC hr.lx a0 a1 (by decide)⟩
            unfold setS
            rw [if_pos ((G.kind hr.lx a0).trans h0), if_neg (by rw [a1]; decide), if_pos a1, show i2 + 2 = i2 + 1 + 1 by omega, if_pos hq.2, a0, hq.1]
            simp only [List.length_cons]
            rw [show i2 + 1 + 1 + u.length = i2 + (u.length + 1 + 1) by omega]
        · rename_i h3
          have hv := val_on h
          obtain ⟨x, v, N, hs, hS, hE, hq⟩ := bk_val G hl h
          subst hs hS hE
          refine ⟨(tk ts i).text :: [61] :: v, N, rfl, rfl, h0, ?_, ⟨_, rfl⟩, fun M P g T hg => ?_, fun t2 i2 S2 hr => ?_⟩
          · rw [txs_add (show i ≤ i + 1 by omega) (by omega), txs_one (by omega), txs_add (show i + 1 ≤ i + 2 by omega) (by omega), txs_one (i := i + 1) (by omega), h2]
            exact (hq.sub.cons_cons _).cons_cons _
          · obtain ⟨g, rfl⟩ : ∃ m, g = m + 1 := ⟨g - 1, by omega⟩
            rw [wstmt]
            simp only
            rw [if_neg (by decide), if_pos trivial, puts_cons T (tk ts i).text ([61] :: v)]
            congr 1
            funext T1
            exact hq.wr M [61] T1
          · obtain ⟨a0, r0⟩ := hr.hd
            obtain ⟨a1, r1⟩ := r0.hd
            have hq2 := hq.rd t2 _ ⟨2, (tk ts i).text, [], 0, 0, [], [], []⟩ S2 r1
            refine ⟨?_, hisC hr.lx a0 a1 (by decide)⟩
            unfold setS
            rw [if_pos ((G.kind hr.lx a0).trans h0), if_neg (by rw [a1]; decide), if_pos a1, show i2 + 2 = i2 + 1 + 1 by omega, if_neg (by rw [hq2.2]; decide), a0, hq2.1]
            simp only [List.length_cons]
            rw [show i2 + 1 + 1 + v.length = i2 + (v.length + 1 + 1) by omega]
      · cases h
  · cases h
/-- A block that is written and read again. -/
structure QP (ts : List X.Tok) (f d i j : Nat) (E : List Exp) (S : List Stmt) (V : List Int) (E' : List Exp) (S' : List Stmt) (u : List By) : Prop where
  sub : List.Sublist u (txs ts i j)
  deep : d < 20
  none : V = [] → E' = E ∧ S' = S
  wr : ∀ (M : List Exp) (P : List Stmt) (g : Nat) (T : By), 20 ≤ g + d → wblk (S' ++ P) (wstmt (E' ++ M) (S' ++ P) g) V T = puts T u
  rd : ∀ (t2 : List X.Tok) (i2 g : Nat), Rd t2 i2 u → 3 * u.length + 2 ≤ g → blk t2 g d i2 E S = some (V, i2 + u.length, E', S')
theorem stm_head (G : Lx ts) {f d i j : Nat} {s : Stmt} {E E' : List Exp} {S S' : List Stmt} (h : stm ts f d i E S = some (s, j, E', S')) : (tk ts i).text ≠ kElse := by
  intro e
  have hk := kind_of (k := 3) (n := 4) (v := 0) (by decide) G e (by decide)
  cases f with
  | zero => simp [stm] at h
  | succ f =>
    rw [stm, e, if_neg (by decide), if_neg (by decide), if_neg (by decide), if_neg (by decide), if_neg (by decide), if_neg (by decide)] at h
    have hc : isC ts i = false := by unfold isC; rw [e, hk]; simp; decide
    rw [hc, if_neg (by decide)] at h
    unfold setS at h
    rw [hk, if_neg (by decide)] at h
    cases h
end Go.Proofs.YtikknlkdbjaonaaGreatDoor.Y

/- What is written of what was read is read again: blocks, by induction. -/
namespace Go.Proofs.YtikknlkdbjaonaaGreatDoor.Y
open X
set_option linter.unusedVariables false
set_option linter.unusedSimpArgs false
variable {ts : List X.Tok}
theorem getD_mid (S1 : List Stmt) (s : Stmt) (P : List Stmt) : ((S1 ++ [s]) ++ P).getD S1.length noS = s := by
  rw [List.append_assoc, List.getD_eq_getElem?_getD, List.getElem?_append_right (Nat.le_refl _), Nat.sub_self]; rfl
theorem bk_blk (G : Lx ts) : ∀ f,
    (∀ d i E S V j E' S', j ≤ ts.length → blk ts f d i E S = some (V, j, E', S') → ∃ u N P, E' = E ++ N ∧ S' = S ++ P ∧ QP ts f d i j E S V E' S' u ∧ ∃ v, u = [123] :: v) ∧
    (∀ d i l E S l' j E' S', d ≤ 20 → j ≤ ts.length → sl ts f d i l E S = some (l', j, E', S') → ∃ V u N P, l' = l ++ V ∧ E' = E ++ N ∧ S' = S ++ P ∧ List.Sublist (u ++ [[125]]) (txs ts i j) ∧ (V = [] → E' = E ∧ S' = S) ∧ (∃ h v, u ++ [[125]] = h :: v ∧ h ≠ kElse) ∧ (∀ (M : List Exp) (Q : List Stmt) (g : Nat) (T : By), 21 ≤ g + d → 1 ≤ g → wlist (S' ++ Q) (wstmt (E' ++ M) (S' ++ Q) g) V T = puts T u) ∧ ∀ (t2 : List X.Tok) (i2 g : Nat) (l2 : List Int), Rd t2 i2 (u ++ [[125]]) → 3 * (u ++ [[125]]).length + 2 ≤ g → sl t2 g d i2 l2 E S = some (l2 ++ V, i2 + (u ++ [[125]]).length, E', S')) ∧
    (∀ d i E S s j E' S', d ≤ 20 → j ≤ ts.length → stm ts f d i E S = some (s, j, E', S') → ∃ u N P, E' = E ++ N ∧ S' = S ++ P ∧ TP ts f d i j E S s E' S' u)
  | 0 => ⟨fun _ _ _ _ _ _ _ _ _ h => by simp [blk] at h, fun _ _ _ _ _ _ _ _ _ _ _ h => by simp [sl] at h, fun _ _ _ _ _ _ _ _ _ _ h => by simp [stm] at h⟩
  | f + 1 => by
    obtain ⟨h1, h2, h3⟩ := bk_blk G f
    refine ⟨fun d i E S V j E' S' hl h => ?_, fun d i l E S l' j E' S' hd hl h => ?_, fun d i E S s j E' S' hd hl h => ?_⟩
    · have hij := (blk_on ts _).1 _ _ _ _ _ _ _ _ h
      rw [blk] at h
      split at h
      · rename_i h0
        split at h
        · cases h
        · rename_i h4
          obtain ⟨W, u, N, P, e1, e2, e3, e4, e5, e6, e7, e8⟩ := h2 _ _ _ _ _ _ _ _ _ (by omega) hl h
          rw [List.nil_append] at e1
          subst e1
          refine ⟨[123] :: (u ++ [[125]]), N, P, e2, e3, ⟨?_, by omega, e5, fun M Q g T hg => ?_, fun t2 i2 g hr hg => ?_⟩, _, rfl⟩
          · rw [txs_add (show i ≤ i + 1 by omega) (by omega), txs_one (by omega), h0]
            exact e4.cons_cons _
          · unfold wblk
            rw [puts_cons T [123] (u ++ [[125]])]
            congr 1
            funext T1
            rw [e7 M Q g T1 (by omega) (by omega), puts_app]
          · obtain ⟨a0, r0⟩ := hr.hd
            obtain ⟨g, rfl⟩ : ∃ m, g = m + 1 := ⟨g - 1, by omega⟩
            try simp only [List.length_cons, List.length_append, List.length_nil] at hg
            try simp only [List.length_cons, List.length_append, List.length_nil] at hg
            rw [blk, if_pos a0, if_neg h4, e8 t2 _ g [] r0 (by rw [List.length_append]; simp only [List.length_cons, List.length_nil]; omega), List.nil_append, List.length_cons]
            rw [show ∀ n, i2 + 1 + n = i2 + (n + 1) from fun n => by omega]
      · cases h
    · have hij := (blk_on ts _).2.1 _ _ _ _ _ _ _ _ _ h
      rw [sl] at h
      split at h
      · rename_i h0
        injection h with h; injection h with h5 h; injection h with h h'; injection h' with h' h''; subst h5 h h' h''
        refine ⟨[], [], [], [], by simp, by simp, by simp, ?_, fun _ => ⟨rfl, rfl⟩, ⟨_, _, rfl, by decide⟩, fun M Q g T _ _ => by simp [wlist, puts], fun t2 i2 g l2 hr hg => ?_⟩
        · rw [txs_one (by omega), h0]
          exact List.Sublist.refl _
        · obtain ⟨a0, -⟩ := hr.hd
          obtain ⟨g, rfl⟩ : ∃ m, g = m + 1 := ⟨g - 1, by omega⟩
          try simp only [List.length_cons, List.length_append, List.length_nil] at hg
          rw [sl, if_pos a0]
          simp
      · rename_i h0
        rw [Option.bind_eq_some_iff] at h
        obtain ⟨⟨s, k, E1, S1⟩, hb, h⟩ := h
        have hk := (blk_on ts _).2.1 _ _ _ _ _ _ _ _ _ h
        have hk2 := (blk_on ts _).2.2 _ _ _ _ _ _ _ _ hb
        dsimp only at h hk
        obtain ⟨v, N, P, rfl, rfl, hp⟩ := h3 _ _ _ _ _ _ _ _ hd (by omega) hb
        obtain ⟨W, u, N2, P2, e1, rfl, rfl, e4, e5, e6, e7, e8⟩ := h2 _ _ _ _ _ _ _ _ _ hd hl h
        obtain ⟨v', hv⟩ := hp.hd
        obtain ⟨h9, v9, e9, e10⟩ := e6
        refine ⟨((S ++ P).length : Int) :: W, v ++ u, N ++ N2, P ++ ([s] ++ P2), by rw [e1, List.append_assoc]; rfl, by rw [List.append_assoc], by simp only [List.append_assoc], ?_, fun e => (by cases e), ⟨_, v' ++ (u ++ [[125]]), by rw [hv]; simp, hp.ne⟩, fun M Q g T hg hg1 => ?_, fun t2 i2 g l2 hr hg => ?_⟩
        · rw [txs_add (show i ≤ k by omega) (by omega), List.append_assoc]
          exact hp.sub.append e4
        · rw [wlist, if_neg (by simp only [List.length_append, List.length_singleton]; omega)]
          rw [show (((S ++ P).length : Nat) : Int).toNat = (S ++ P).length by omega, List.append_assoc (S ++ P ++ [s]) P2 Q, getD_mid, puts_app]
          have hw := hp.wr (N2 ++ M) ([s] ++ (P2 ++ Q)) g T hg hg1
          rw [← List.append_assoc (E ++ N), ← List.append_assoc (S ++ P) [s]] at hw
          rw [hw]
          congr 1
          funext T1
          have hw2 := e7 M Q g T1 hg hg1
          rw [List.append_assoc (S ++ P ++ [s]) P2 Q] at hw2
          exact hw2
        · obtain ⟨g, rfl⟩ : ∃ m, g = m + 1 := ⟨g - 1, by omega⟩
          try simp only [List.length_cons, List.length_append, List.length_nil] at hg
          have hr' : Rd t2 i2 (v ++ (u ++ [[125]])) := by rw [← List.append_assoc]; exact hr
          obtain ⟨r1, r2⟩ := hr'.app
          have a0 : (tk t2 i2).text = (tk ts i).text := by have := r1.at'; rw [hv] at this; exact this.1
          have hv1 : 1 ≤ v.length := by rw [hv]; simp
          have a1 : (tk t2 (i2 + v.length)).text ≠ kElse := by have := r2.at'; rw [e9] at this; rw [this.1]; exact e10
          rw [sl, if_neg (by rw [a0]; exact h0), hp.rd t2 i2 g r1 a1 (by omega), Option.bind_some]
          dsimp only
          rw [e8 t2 _ g _ r2 (by rw [List.length_append]; simp only [List.length_cons, List.length_nil]; omega)]
          simp only [List.append_assoc, List.length_append, List.singleton_append]
          rw [Nat.add_assoc i2 v.length]
    · have hhead := stm_head G h
      have hij := (blk_on ts _).2.2 _ _ _ _ _ _ _ _ h
      rw [stm] at h
      by_cases c1 : (tk ts i).text = kVar
      · rw [if_pos c1] at h
        split at h
        · rename_i c2
          split at h
          · rename_i c3
            have hv := val_on h
            obtain ⟨x, v, N, hs, hS, hE, hq⟩ := bk_val G hl h
            subst hs hS hE
            refine ⟨[kVar, (tk ts (i + 1)).text] ++ ([61] :: v), N, [], rfl, by simp, ?_, ⟨_, by rw [c1]; rfl⟩, hhead, fun M P g T hg hg1 => ?_, fun t2 i2 g hr hn hg => ?_⟩
            · rw [txs_add (show i ≤ i + 1 by omega) (by omega), txs_one (by omega), txs_add (show i + 1 ≤ i + 2 by omega) (by omega), txs_one (i := i + 1) (by omega), txs_add (show i + 2 ≤ i + 3 by omega) (by omega), txs_one (i := i + 2) (by omega), c1, c3]
              exact ((hq.sub.cons_cons _).cons_cons _).cons_cons _
            · obtain ⟨g, rfl⟩ : ∃ m, g = m + 1 := ⟨g - 1, by omega⟩
              try simp only [List.length_cons, List.length_append, List.length_nil] at hg
              rw [wstmt]
              simp only
              rw [if_pos trivial, puts_app T]
              congr 1
              funext T1
              exact hq.wr M [61] T1
            · obtain ⟨g, rfl⟩ : ∃ m, g = m + 1 := ⟨g - 1, by omega⟩
              obtain ⟨a0, r0⟩ := hr.hd
              obtain ⟨a1, r1⟩ := r0.hd
              have r1' : Rd t2 (i2 + 1 + 1) ([61] :: v) := r1
              obtain ⟨a2, r2⟩ := r1'.hd
              try simp only [List.length_cons, List.length_append, List.length_nil] at hg
              rw [stm, if_pos a0, if_pos ((G.kind hr.lx a1).trans c2), if_pos a2, a1, show i2 + 3 = i2 + 1 + 1 + 1 by omega, (hq.rd t2 _ _ _ r2).1]
              simp only [List.length_append, List.length_cons, List.length_nil]
              rw [show i2 + 1 + 1 + 1 + v.length = i2 + (0 + 1 + 1 + (v.length + 1)) by omega]
          · cases h
        · cases h
      rw [if_neg c1] at h
      by_cases c2 : (tk ts i).text = kIf
      · rw [if_pos c2] at h
        rw [Option.bind_eq_some_iff] at h
        obtain ⟨⟨x, k, E1⟩, hb, h⟩ := h
        dsimp only at h
        rw [Option.bind_eq_some_iff] at h
        obtain ⟨⟨V, k2, E2, S2⟩, hb2, h⟩ := h
        have g1 := cnd_on hb
        have g2 := (blk_on ts _).1 _ _ _ _ _ _ _ _ hb2
        dsimp only at h
        have wif : ∀ {E9 : List Exp} {S9 : List Stmt} {g : Nat} {W : List Int} {T : By}, wstmt E9 S9 (g + 1) ⟨7, [], [], (x : Int), 0, [], V, W⟩ T = (wcond E9 kIf x T).bind fun T1 => (wblk S9 (wstmt E9 S9 g) V T1).bind fun T2 => if W = [] then some T2 else (puts T2 [kElse]).bind fun T3 => wblk S9 (wstmt E9 S9 g) W T3 := by
          intro E9 S9 g W T
          rw [wstmt]
          simp only
          rw [if_neg (by decide), if_neg (by decide), if_neg (by decide), if_neg (by decide), if_neg (by decide), if_neg (by decide), if_pos trivial]
          rfl
        by_cases he : (tk ts k2).text = kElse
        · rw [if_pos he] at h
          rw [Option.bind_eq_some_iff] at h
          obtain ⟨⟨W, k3, E3, S3⟩, hb3, h⟩ := h
          have g3 := (blk_on ts _).1 _ _ _ _ _ _ _ _ hb3
          injection h with h; injection h with h0 h; injection h with h h'; injection h' with h' h''; subst h0 h h' h''
          dsimp only at hl hij
          obtain ⟨u1, N1, rfl, q1⟩ := bk_cnd G (by omega) hb
          obtain ⟨u2, N2, P2, rfl, rfl, q2, hd2⟩ := h1 _ _ _ _ _ _ _ _ (by omega) hb2
          obtain ⟨u3, N3, P3, rfl, rfl, q3, hd3⟩ := h1 _ _ _ _ _ _ _ _ hl hb3
          have hdd := q2.deep
          by_cases hW : W = []
          · obtain ⟨n1, n2⟩ := q3.none hW
            subst hW
            dsimp only
            rw [n1, n2]
            refine ⟨kIf :: (u1 ++ u2), N1 ++ N2, P2, List.append_assoc _ _ _, rfl, ?_, ⟨_, by rw [c2]⟩, hhead, fun M P g T hg hg1 => ?_, fun t2 i2 g hr hn hg => ?_⟩
            · rw [txs_add (show i ≤ i + 1 by omega) (by omega), txs_one (by omega), txs_add (show i + 1 ≤ k by omega) (by omega), txs_add (show k ≤ k2 by omega) (by omega), c2]
              exact (q1.sub.append (q2.sub.trans (List.sublist_append_left _ _))).cons_cons _
            · obtain ⟨g, rfl⟩ : ∃ m, g = m + 1 := ⟨g - 1, by omega⟩
              try simp only [List.length_cons, List.length_append, List.length_nil] at hg
              rw [wif, List.append_assoc (E ++ N1), q1.wr, show kIf :: (u1 ++ u2) = (kIf :: u1) ++ u2 from rfl, puts_app T]
              congr 1
              funext T1
              rw [← List.append_assoc (E ++ N1), q2.wr M P g T1 (by omega)]
              cases puts T1 u2 with
              | none => rfl
              | some T2 => rw [Option.bind_some, if_pos rfl]
            · obtain ⟨g, rfl⟩ : ∃ m, g = m + 1 := ⟨g - 1, by omega⟩
              obtain ⟨a0, r0⟩ := hr.hd
              obtain ⟨r1, r2⟩ := r0.app
              have hn' : (tk t2 (i2 + 1 + u1.length + u2.length)).text ≠ kElse := by
                simp only [List.length_cons, List.length_append] at hn
                rw [show i2 + 1 + u1.length + u2.length = i2 + (u1.length + u2.length + 1) by omega]; exact hn
              try simp only [List.length_cons, List.length_append, List.length_nil] at hg
              rw [stm, a0, if_neg (by decide), if_pos rfl, q1.rd t2 _ r1, Option.bind_some]
              dsimp only
              rw [q2.rd t2 _ g r2 (by omega), Option.bind_some]
              dsimp only
              rw [if_neg hn']
              simp only [List.length_cons, List.length_append]
              rw [show i2 + 1 + u1.length + u2.length = i2 + (u1.length + u2.length + 1) by omega]
          · dsimp only
            refine ⟨kIf :: (u1 ++ (u2 ++ (kElse :: u3))), N1 ++ (N2 ++ N3), P2 ++ P3, by simp only [List.append_assoc], by simp only [List.append_assoc], ?_, ⟨_, by rw [c2]⟩, hhead, fun M P g T hg hg1 => ?_, fun t2 i2 g hr hn hg => ?_⟩
            · rw [txs_add (show i ≤ i + 1 by omega) (by omega), txs_one (by omega), txs_add (show i + 1 ≤ k by omega) (by omega), txs_add (show k ≤ k2 by omega) (by omega), txs_add (show k2 ≤ k2 + 1 by omega) (by omega), txs_one (i := k2) (by omega), c2, he]
              exact (q1.sub.append (q2.sub.append (q3.sub.cons_cons _))).cons_cons _
            · obtain ⟨g, rfl⟩ : ∃ m, g = m + 1 := ⟨g - 1, by omega⟩
              try simp only [List.length_cons, List.length_append, List.length_nil] at hg
              rw [wif, List.append_assoc (E ++ N1 ++ N2), List.append_assoc (E ++ N1), q1.wr, show kIf :: (u1 ++ (u2 ++ (kElse :: u3))) = (kIf :: u1) ++ (u2 ++ (kElse :: u3)) from rfl, puts_app T]
              congr 1
              funext T1
              rw [← List.append_assoc (E ++ N1), List.append_assoc (S ++ P2), q2.wr (N3 ++ M) (P3 ++ P) g T1 (by omega), puts_app T1]
              congr 1
              funext T2
              rw [if_neg hW, puts_cons T2 kElse u3]
              congr 1
              funext T3
              rw [← List.append_assoc (E ++ N1 ++ N2), ← List.append_assoc (S ++ P2)]
              exact q3.wr M P g T3 (by omega)
            · obtain ⟨g, rfl⟩ : ∃ m, g = m + 1 := ⟨g - 1, by omega⟩
              obtain ⟨a0, r0⟩ := hr.hd
              obtain ⟨r1, r2⟩ := r0.app
              obtain ⟨r2, r3⟩ := r2.app
              obtain ⟨a3, r4⟩ := r3.hd
              try simp only [List.length_cons, List.length_append, List.length_nil] at hg
              rw [stm, a0, if_neg (by decide), if_pos rfl, q1.rd t2 _ r1, Option.bind_some]
              dsimp only
              rw [q2.rd t2 _ g r2 (by omega), Option.bind_some]
              dsimp only
              rw [if_pos a3, q3.rd t2 _ g r4 (by omega), Option.bind_some]
              simp only [List.length_cons, List.length_append]
              rw [show i2 + 1 + u1.length + u2.length + 1 + u3.length = i2 + (u1.length + (u2.length + (u3.length + 1)) + 1) by omega]
        · rw [if_neg he] at h
          injection h with h; injection h with h0 h; injection h with h h'; injection h' with h' h''; subst h0 h h' h''
          obtain ⟨u1, N1, rfl, q1⟩ := bk_cnd G (by omega) hb
          obtain ⟨u2, N2, P2, rfl, rfl, q2, hd2⟩ := h1 _ _ _ _ _ _ _ _ (by omega) hb2
          have hdd := q2.deep
          refine ⟨kIf :: (u1 ++ u2), N1 ++ N2, P2, List.append_assoc _ _ _, rfl, ?_, ⟨_, by rw [c2]⟩, hhead, fun M P g T hg hg1 => ?_, fun t2 i2 g hr hn hg => ?_⟩
          · rw [txs_add (show i ≤ i + 1 by omega) (by omega), txs_one (by omega), txs_add (show i + 1 ≤ k by omega) (by omega), c2]
            exact (q1.sub.append q2.sub).cons_cons _
          · obtain ⟨g, rfl⟩ : ∃ m, g = m + 1 := ⟨g - 1, by omega⟩
            try simp only [List.length_cons, List.length_append, List.length_nil] at hg
            rw [wif, List.append_assoc (E ++ N1), q1.wr, show kIf :: (u1 ++ u2) = (kIf :: u1) ++ u2 from rfl, puts_app T]
            congr 1
            funext T1
            rw [← List.append_assoc (E ++ N1), q2.wr M P g T1 (by omega)]
            cases puts T1 u2 with
            | none => rfl
            | some T2 => rw [Option.bind_some, if_pos rfl]
          · obtain ⟨g, rfl⟩ : ∃ m, g = m + 1 := ⟨g - 1, by omega⟩
            obtain ⟨a0, r0⟩ := hr.hd
            obtain ⟨r1, r2⟩ := r0.app
            have hn' : (tk t2 (i2 + 1 + u1.length + u2.length)).text ≠ kElse := by
              simp only [List.length_cons, List.length_append] at hn
              rw [show i2 + 1 + u1.length + u2.length = i2 + (u1.length + u2.length + 1) by omega]; exact hn
            try simp only [List.length_cons, List.length_append, List.length_nil] at hg
            rw [stm, a0, if_neg (by decide), if_pos rfl, q1.rd t2 _ r1, Option.bind_some]
            dsimp only
            rw [q2.rd t2 _ g r2 (by omega), Option.bind_some]
            dsimp only
            rw [if_neg hn']
            simp only [List.length_cons, List.length_append]
            rw [show i2 + 1 + u1.length + u2.length = i2 + (u1.length + u2.length + 1) by omega]
      rw [if_neg c2] at h
      by_cases c3 : (tk ts i).text = kWhile
      · rw [if_pos c3] at h
        rw [Option.bind_eq_some_iff] at h
        obtain ⟨⟨x, k, E1⟩, hb, h⟩ := h
        dsimp only at h
        rw [Option.bind_eq_some_iff] at h
        obtain ⟨⟨V, k2, E2, S2⟩, hb2, h⟩ := h
        have g1 := cnd_on hb
        have g2 := (blk_on ts _).1 _ _ _ _ _ _ _ _ hb2
        injection h with h; injection h with h0 h; injection h with h h'; injection h' with h' h''; subst h0 h h' h''
        dsimp only at hl hij g2
        obtain ⟨u1, N1, rfl, q1⟩ := bk_cnd G (by omega) hb
        obtain ⟨u2, N2, P2, rfl, rfl, q2, hd2⟩ := h1 _ _ _ _ _ _ _ _ (by omega) hb2
        have hdd := q2.deep
        dsimp only
        refine ⟨kWhile :: (u1 ++ u2), N1 ++ N2, P2, List.append_assoc _ _ _, rfl, ?_, ⟨_, by rw [c3]⟩, hhead, fun M P g T hg hg1 => ?_, fun t2 i2 g hr hn hg => ?_⟩
        · rw [txs_add (show i ≤ i + 1 by omega) (by omega), txs_one (by omega), txs_add (show i + 1 ≤ k by omega) (by omega), c3]
          exact (q1.sub.append q2.sub).cons_cons _
        · obtain ⟨g, rfl⟩ : ∃ m, g = m + 1 := ⟨g - 1, by omega⟩
          try simp only [List.length_cons, List.length_append, List.length_nil] at hg
          rw [wstmt]
          simp only
          rw [if_neg (by decide), if_neg (by decide), if_neg (by decide), if_neg (by decide), if_neg (by decide), if_neg (by decide), if_neg (by decide), if_pos trivial]
          rw [show ([119, 104, 105, 108, 101] : By) = kWhile from rfl, List.append_assoc (E ++ N1), q1.wr, show kWhile :: (u1 ++ u2) = (kWhile :: u1) ++ u2 from rfl, puts_app T]
          congr 1
          funext T1
          rw [← List.append_assoc (E ++ N1)]
          exact q2.wr M P g T1 (by omega)
        · obtain ⟨g, rfl⟩ : ∃ m, g = m + 1 := ⟨g - 1, by omega⟩
          obtain ⟨a0, r0⟩ := hr.hd
          obtain ⟨r1, r2⟩ := r0.app
          try simp only [List.length_cons, List.length_append, List.length_nil] at hg
          rw [stm, a0, if_neg (by decide), if_neg (by decide), if_pos rfl, q1.rd t2 _ r1, Option.bind_some]
          dsimp only
          rw [q2.rd t2 _ g r2 (by omega), Option.bind_some]
          simp only [List.length_cons, List.length_append]
          rw [show i2 + 1 + u1.length + u2.length = i2 + (u1.length + u2.length + 1) by omega]
      rw [if_neg c3] at h
      by_cases c4 : (tk ts i).text = kWith
      · rw [if_pos c4] at h
        split at h
        · rename_i c5
          rw [Option.bind_eq_some_iff] at h
          obtain ⟨⟨V, k2, E2, S2⟩, hb2, h⟩ := h
          have g2 := (blk_on ts _).1 _ _ _ _ _ _ _ _ hb2
          injection h with h; injection h with h0 h; injection h with h h'; injection h' with h' h''; subst h0 h h' h''
          dsimp only at hl hij g2
          obtain ⟨u2, N2, P2, rfl, rfl, q2, hd2⟩ := h1 _ _ _ _ _ _ _ _ (by omega) hb2
          have hdd := q2.deep
          dsimp only
          refine ⟨[kWith, (tk ts (i + 1)).text] ++ u2, N2, P2, rfl, rfl, ?_, ⟨_, by rw [c4]; rfl⟩, hhead, fun M P g T hg hg1 => ?_, fun t2 i2 g hr hn hg => ?_⟩
          · rw [txs_add (show i ≤ i + 1 by omega) (by omega), txs_one (by omega), txs_add (show i + 1 ≤ i + 2 by omega) (by omega), txs_one (i := i + 1) (by omega), c4]
            exact (q2.sub.cons_cons _).cons_cons _
          · obtain ⟨g, rfl⟩ : ∃ m, g = m + 1 := ⟨g - 1, by omega⟩
            try simp only [List.length_cons, List.length_append, List.length_nil] at hg
            rw [wstmt]
            simp only
            rw [if_neg (by decide), if_neg (by decide), if_neg (by decide), if_neg (by decide), if_neg (by decide), if_neg (by decide), if_neg (by decide), if_neg (by decide), if_pos trivial, puts_app T]
            congr 1
            funext T1
            exact q2.wr M P g T1 (by omega)
          · obtain ⟨g, rfl⟩ : ∃ m, g = m + 1 := ⟨g - 1, by omega⟩
            obtain ⟨a0, r0⟩ := hr.hd
            obtain ⟨a1, r1⟩ := r0.hd
            have r1' : Rd t2 (i2 + 1 + 1) u2 := r1
            try simp only [List.length_cons, List.length_append, List.length_nil] at hg
            rw [stm, a0, if_neg (by decide), if_neg (by decide), if_neg (by decide), if_pos rfl, if_pos ((G.kind hr.lx a1).trans c5), a1, show i2 + 2 = i2 + 1 + 1 by omega, q2.rd t2 _ g r1' (by omega), Option.bind_some]
            simp only [List.length_cons, List.length_append, List.length_nil]
            rw [show i2 + 1 + 1 + u2.length = i2 + (0 + 1 + 1 + u2.length) by omega]
        · cases h
      rw [if_neg c4] at h
      by_cases c5 : (tk ts i).text = kPrint
      · rw [if_pos c5] at h
        have hv := val_on h
        obtain ⟨x, v, N, hs, hS, hE, hq⟩ := bk_val G hl h
        subst hs hS hE
        refine ⟨kPrint :: v, N, [], rfl, by simp, ?_, ⟨_, by rw [c5]⟩, hhead, fun M P g T hg hg1 => ?_, fun t2 i2 g hr hn hg => ?_⟩
        · rw [txs_add (show i ≤ i + 1 by omega) (by omega), txs_one (by omega), c5]
          exact hq.sub.cons_cons _
        · obtain ⟨g, rfl⟩ : ∃ m, g = m + 1 := ⟨g - 1, by omega⟩
          try simp only [List.length_cons, List.length_append, List.length_nil] at hg
          rw [wstmt]
          simp only
          rw [if_neg (by decide), if_neg (by decide), if_neg (by decide), if_neg (by decide), if_neg (by decide), if_neg (by decide), if_neg (by decide), if_neg (by decide), if_neg (by decide), if_pos trivial]
          exact hq.wr M kPrint T
        · obtain ⟨g, rfl⟩ : ∃ m, g = m + 1 := ⟨g - 1, by omega⟩
          obtain ⟨a0, r0⟩ := hr.hd
          try simp only [List.length_cons, List.length_append, List.length_nil] at hg
          rw [stm, a0, if_neg (by decide), if_neg (by decide), if_neg (by decide), if_neg (by decide), if_pos rfl, (hq.rd t2 _ _ _ r0).1]
          simp only [List.length_cons]
          rw [show i2 + 1 + v.length = i2 + (v.length + 1) by omega]
      rw [if_neg c5] at h
      by_cases c6 : (tk ts i).text = kReturn
      · rw [if_pos c6] at h
        have hv := val_on h
        obtain ⟨x, v, N, hs, hS, hE, hq⟩ := bk_val G hl h
        subst hs hS hE
        refine ⟨kReturn :: v, N, [], rfl, by simp, ?_, ⟨_, by rw [c6]⟩, hhead, fun M P g T hg hg1 => ?_, fun t2 i2 g hr hn hg => ?_⟩
        · rw [txs_add (show i ≤ i + 1 by omega) (by omega), txs_one (by omega), c6]
          exact hq.sub.cons_cons _
        · obtain ⟨g, rfl⟩ : ∃ m, g = m + 1 := ⟨g - 1, by omega⟩
          try simp only [List.length_cons, List.length_append, List.length_nil] at hg
          rw [wstmt]
          simp only
          rw [if_neg (by decide), if_neg (by decide), if_neg (by decide), if_neg (by decide), if_neg (by decide), if_neg (by decide), if_neg (by decide), if_neg (by decide), if_neg (by decide), if_neg (by decide), if_pos trivial]
          exact hq.wr M kReturn T
        · obtain ⟨g, rfl⟩ : ∃ m, g = m + 1 := ⟨g - 1, by omega⟩
          obtain ⟨a0, r0⟩ := hr.hd
          try simp only [List.length_cons, List.length_append, List.length_nil] at hg
          rw [stm, a0, if_neg (by decide), if_neg (by decide), if_neg (by decide), if_neg (by decide), if_neg (by decide), if_pos rfl, (hq.rd t2 _ _ _ r0).1]
          simp only [List.length_cons]
          rw [show i2 + 1 + v.length = i2 + (v.length + 1) by omega]
      rw [if_neg c6] at h
      by_cases c7 : isC ts i = true
      · rw [if_pos c7] at h
        obtain ⟨u, N, hE, hS, hp⟩ := bk_cl G hl h
        subst hE hS
        refine ⟨u, N, [], rfl, by simp, hp.sub, hp.hd, hhead, fun M P g T hg hg1 => ?_, fun t2 i2 g hr hn hg => ?_⟩
        · obtain ⟨g, rfl⟩ : ∃ m, g = m + 1 := ⟨g - 1, by omega⟩
          try simp only [List.length_cons, List.length_append, List.length_nil] at hg
          have hw : wcall ((E ++ N) ++ M) s T = puts T u := by
            unfold wcall
            rw [hp.name, if_pos rfl]
            exact hp.wr M T
          rw [wstmt]
          rcases hp.kind with e | e | e <;> rw [e] <;> simp only <;> simp <;> simpa using hw
        · obtain ⟨g, rfl⟩ : ∃ m, g = m + 1 := ⟨g - 1, by omega⟩
          obtain ⟨v, hv⟩ := hp.hd
          have a0 : (tk t2 i2).text = (tk ts i).text := by have := hr.at'; rw [hv] at this; exact this.1
          have hq := hp.rd t2 i2 S' hr
          try simp only [List.length_cons, List.length_append, List.length_nil] at hg
          rw [stm, a0, if_neg c1, if_neg c2, if_neg c3, if_neg c4, if_neg c5, if_neg c6, if_pos hq.2]
          exact hq.1
      · rw [if_neg c7] at h
        obtain ⟨u, N, hE, hS, hk, hsub, hhd, hwr, hrd⟩ := bk_setS G hl h
        subst hE hS
        refine ⟨u, N, [], rfl, by simp, hsub, hhd, hhead, fun M P g T hg hg1 => hwr M _ g T hg1, fun t2 i2 g hr hn hg => ?_⟩
        obtain ⟨g, rfl⟩ : ∃ m, g = m + 1 := ⟨g - 1, by omega⟩
        try simp only [List.length_cons, List.length_append, List.length_nil] at hg
        obtain ⟨v, hv⟩ := hhd
        have a0 : (tk t2 i2).text = (tk ts i).text := by have := hr.at'; rw [hv] at this; exact this.1
        have hq := hrd t2 i2 S' hr
        try simp only [List.length_cons, List.length_append, List.length_nil] at hg
        rw [stm, a0, if_neg c1, if_neg c2, if_neg c3, if_neg c4, if_neg c5, if_neg c6, hq.2, if_neg (by decide)]
        exact hq.1
end Go.Proofs.YtikknlkdbjaonaaGreatDoor.Y

/- What is written of what was read is read again: declarations. -/
namespace Go.Proofs.YtikknlkdbjaonaaGreatDoor.Y
open X
set_option linter.unusedVariables false
set_option linter.unusedSimpArgs false
variable {ts : List X.Tok}
/-- Texts that take no more room. -/
structure Fit (u v : List By) : Prop where
  cnt : u.length ≤ v.length
  byt : (u.map List.length).sum ≤ (v.map List.length).sum
  tx : ∀ t ∈ u, t ∈ v ∨ t = kLock
theorem sum_sub {u v : List By} (h : List.Sublist u v) : (u.map List.length).sum ≤ (v.map List.length).sum := by
  induction h with
  | slnil => exact Nat.le_refl _
  | cons a _ ih => simp only [List.map_cons, List.sum_cons]; omega
  | cons_cons a _ ih => simp only [List.map_cons, List.sum_cons]; omega
theorem Fit.of {u v : List By} (h : List.Sublist u v) : Fit u v := ⟨h.length_le, sum_sub h, fun t ht => .inl (h.subset ht)⟩
theorem Fit.app {u v u' v' : List By} (h : Fit u v) (k : Fit u' v') : Fit (u ++ u') (v ++ v') := by
  refine ⟨?_, ?_, fun t ht => ?_⟩
  · rw [List.length_append, List.length_append]; have := h.cnt; have := k.cnt; omega
  · rw [List.map_append, List.map_append, List.sum_append, List.sum_append]; have := h.byt; have := k.byt; omega
  · rcases List.mem_append.1 ht with ht | ht
    · rcases h.tx t ht with h | h
      · exact .inl (List.mem_append.2 (.inl h))
      · exact .inr h
    · rcases k.tx t ht with h | h
      · exact .inl (List.mem_append.2 (.inr h))
      · exact .inr h
theorem Fit.cons {u v : List By} (s : By) (h : Fit u v) : Fit (s :: u) (s :: v) := (Fit.of (List.Sublist.refl [s])).app h
theorem num_tok (G : Lx ts) {i : Nat} (hk : (tk ts i).kind = 1) : Go.Lib.itoa ((tk ts i).n : Int) = (tk ts i).text := by
  have hne : (tk ts i).text ≠ [] := fun e => by rw [G.nul i e] at hk; exact absurd hk (by decide)
  have := G.self i hne
  rw [hk] at this
  exact num_text this
theorem bk_fnc3 (G : Lx ts) {f : Nat} {x x' : Decl} {i j : Nat} {E E' : List Exp} {S S' : List Stmt} (hl : j ≤ ts.length) (h : fnc3 ts f x i E S = some (x', j, E', S')) : ∃ u N P r b, x' = { x with rank := r, body := b } ∧ E' = E ++ N ∧ S' = S ++ P ∧ List.Sublist u (txs ts i j) ∧ (∀ (M : List Exp) (Q : List Stmt) (T : By), wfR (E' ++ M) (S' ++ Q) x' T = puts T u) ∧ ∀ (t2 : List X.Tok) (i2 g : Nat), Rd t2 i2 u → 3 * u.length + 2 ≤ g → fnc3 t2 g x i2 E S = some (x', i2 + u.length, E', S') := by
  have hij := fnc3_on h
  unfold fnc3 at h
  split at h
  · rename_i h0
    split at h
    · rename_i h1
      split at h
      · rename_i h2
        have hnum := num_tok G h1
        split at h
        · rename_i h3
          split at h
          · rename_i h4
            injection h with h; injection h with h5 h; injection h with h h'; injection h' with h' h''; subst h5 h h' h''
            refine ⟨[kRank, (tk ts (i + 1)).text, [59]], [], [], _, x.body, rfl, by simp, by simp, ?_, fun M Q T => ?_, fun t2 i2 g hr hg => ?_⟩
            · rw [txs_add (show i ≤ i + 1 by omega) (by omega), txs_one (by omega), txs_add (show i + 1 ≤ i + 2 by omega) (by omega), txs_one (i := i + 1) (by omega), txs_one (i := i + 2) (by omega), h0, h4]
              exact List.Sublist.refl _
            · unfold wfR
              simp only [if_pos h3]
              rw [hnum, show [kRank, (tk ts (i + 1)).text, [59]] = [kRank, (tk ts (i + 1)).text] ++ [[59]] from rfl, puts_app T]
              rfl
            · obtain ⟨a0, r0⟩ := hr.hd
              obtain ⟨a1, r1⟩ := r0.hd
              obtain ⟨a2, -⟩ := r1.hd
              have k1 := (G.kind hr.lx a1).trans h1
              have n1 := G.num hr.lx a1 (by rw [h1]; decide)
              unfold fnc3
              rw [if_pos a0, if_pos k1, n1, if_pos h2, if_pos h3, if_pos a2]
              rfl
          · cases h
        · rename_i h3
          rw [Option.bind_eq_some_iff] at h
          obtain ⟨⟨V, k, E1, S1⟩, hb, h⟩ := h
          injection h with h; injection h with h5 h; injection h with h h'; injection h' with h' h''; subst h5 h h' h''
          dsimp only at hl
          have g2 := (blk_on ts _).1 _ _ _ _ _ _ _ _ hb
          obtain ⟨u, N, P, rfl, rfl, q, -⟩ := (bk_blk G f).1 _ _ _ _ _ _ _ _ hl hb
          refine ⟨[kRank, (tk ts (i + 1)).text] ++ u, N, P, _, V, rfl, rfl, rfl, ?_, fun M Q T => ?_, fun t2 i2 g hr hg => ?_⟩
          · dsimp only
            rw [txs_add (show i ≤ i + 1 by omega) (by omega), txs_one (by omega), txs_add (show i + 1 ≤ i + 2 by omega) (by omega), txs_one (i := i + 1) (by omega), h0]
            exact (q.sub.cons_cons _).cons_cons _
          · unfold wfR
            simp only [if_neg h3]
            rw [hnum, puts_app T]
            congr 1
            funext T1
            exact q.wr M Q 20002 T1 (by omega)
          · obtain ⟨a0, r0⟩ := hr.hd
            obtain ⟨a1, r1⟩ := r0.hd
            have r1' : Rd t2 (i2 + 1 + 1) u := r1
            have k1 := (G.kind hr.lx a1).trans h1
            have n1 := G.num hr.lx a1 (by rw [h1]; decide)
            unfold fnc3
            rw [if_pos a0, if_pos k1, n1, if_pos h2, if_neg h3, show i2 + 2 = i2 + 1 + 1 by omega, q.rd t2 _ g r1' (by simp only [List.length_cons, List.length_append, List.length_nil] at hg; omega), Option.bind_some]
            simp only [List.length_append, List.length_cons, List.length_nil]
            rw [show i2 + 1 + 1 + u.length = i2 + (0 + 1 + 1 + u.length) by omega]
      · cases h
    · cases h
  · cases h
theorem bk_fnc2 (G : Lx ts) {f : Nat} {x x' : Decl} {i j : Nat} {E E' : List Exp} {S S' : List Stmt} (hx : x.by' = []) (hl : j ≤ ts.length) (h : fnc2 ts f x i E S = some (x', j, E', S')) : ∃ u N P y r b, x' = { x with by' := y, rank := r, body := b } ∧ E' = E ++ N ∧ S' = S ++ P ∧ List.Sublist u (txs ts i j) ∧ (∃ v, u = [41] :: v) ∧ (∀ (M : List Exp) (Q : List Stmt) (T : By), wfT (E' ++ M) (S' ++ Q) x' T = puts T u) ∧ ∀ (t2 : List X.Tok) (i2 g : Nat), Rd t2 i2 u → 3 * u.length + 2 ≤ g → fnc2 t2 g x i2 E S = some (x', i2 + u.length, E', S') := by
  have hij := fnc2_on h
  unfold fnc2 at h
  split at h
  · rename_i h0
    split at h
    · rename_i h1
      split at h
      · rename_i h2
        have hne : (tk ts (i + 2)).text ≠ [] := fun e => by rw [G.nul _ e] at h2; exact absurd h2 (by decide)
        obtain ⟨u, N, P, r, b, e1, e2, e3, e4, e5, e6⟩ := bk_fnc3 G hl h
        refine ⟨[[41], kWith, (tk ts (i + 2)).text] ++ u, N, P, (tk ts (i + 2)).text, r, b, e1, e2, e3, ?_, ⟨_, rfl⟩, fun M Q T => ?_, fun t2 i2 g hr hg => ?_⟩
        · rw [txs_add (show i ≤ i + 1 by omega) (by omega), txs_one (by omega), txs_add (show i + 1 ≤ i + 2 by omega) (by omega), txs_one (i := i + 1) (by omega), txs_add (show i + 2 ≤ i + 3 by omega) (by omega), txs_one (i := i + 2) (by omega), h0, h1]
          exact ((e4.cons_cons _).cons_cons _).cons_cons _
        · have hy : x'.by' = (tk ts (i + 2)).text := by rw [e1]
          unfold wfT
          rw [hy]
          simp only [if_neg hne]
          rw [show [[41], kWith, (tk ts (i + 2)).text] ++ u = [[41]] ++ ([kWith, (tk ts (i + 2)).text] ++ u) from rfl, puts_app T]
          congr 1
          funext T1
          rw [puts_app T1]
          congr 1
          funext T2
          exact e5 M Q T2
        · obtain ⟨a0, r0⟩ := hr.hd
          obtain ⟨a1, r1⟩ := r0.hd
          obtain ⟨a2, r2⟩ := r1.hd
          have r2' : Rd t2 (i2 + 1 + 1 + 1) u := r2
          unfold fnc2
          rw [if_pos a0, if_pos a1, if_pos ((G.kind hr.lx a2).trans h2), a2, show i2 + 3 = i2 + 1 + 1 + 1 by omega, e6 t2 _ g r2' (by simp only [List.length_cons, List.length_append, List.length_nil] at hg; omega)]
          simp only [List.length_append, List.length_cons, List.length_nil]
          rw [show i2 + 1 + 1 + 1 + u.length = i2 + (0 + 1 + 1 + 1 + u.length) by omega]
      · cases h
    · rename_i h1
      obtain ⟨u, N, P, r, b, e1, e2, e3, e4, e5, e6⟩ := bk_fnc3 G hl h
      have hon := fnc3_on h
      refine ⟨[41] :: u, N, P, [], r, b, by rw [e1, ← hx], e2, e3, ?_, ⟨_, rfl⟩, fun M Q T => ?_, fun t2 i2 g hr hg => ?_⟩
      · rw [txs_add (show i ≤ i + 1 by omega) (by omega), txs_one (by omega), h0]
        exact e4.cons_cons _
      · have hy : x'.by' = [] := by rw [e1]; exact hx
        unfold wfT
        rw [hy]
        simp only [if_pos]
        rw [puts_cons T [41] u]
        congr 1
        funext T1
        exact e5 M Q T1
      · obtain ⟨a0, r0⟩ := hr.hd
        have hw : (tk t2 (i2 + 1)).text ≠ kWith := by
          have hh : (tk ts (i + 1)).text = kRank := by
            unfold fnc3 at h
            split at h
            · assumption
            · cases h
          have h6 := e6 t2 _ g r0 (by simp only [List.length_cons, List.length_append, List.length_nil] at hg; omega)
          unfold fnc3 at h6
          split at h6
          · rename_i h7; rw [h7]; decide
          · cases h6
        unfold fnc2
        rw [if_pos a0, if_neg hw, e6 t2 _ g r0 (by simp only [List.length_cons, List.length_append, List.length_nil] at hg; omega)]
        simp only [List.length_cons]
        rw [show i2 + 1 + u.length = i2 + (u.length + 1) by omega]
  · cases h
theorem bk_pl (G : Lx ts) : ∀ (f i : Nat) (l l' : List By) (j : Nat), j ≤ ts.length → pl ts f i l = some (l', j) → ∃ V u, l' = l ++ V ∧ List.Sublist u (txs ts i j) ∧ (u = [] ∨ ∃ v, u = [44] :: v) ∧ (∀ T, wparams false V T = puts T u) ∧ ∀ (t2 : List X.Tok) (i2 g : Nat) (l2 : List By), Rd t2 i2 (u ++ [[41]]) → u.length < g → pl t2 g i2 l2 = some (l2 ++ V, i2 + u.length)
  | 0, _, _, _, _, _, h => by simp [pl] at h
  | f + 1, i, l, l', j, hl, h => by
    rw [pl] at h
    split at h
    · rename_i h0
      split at h
      · rename_i h1
        have hon := pl_on _ _ _ _ _ h
        obtain ⟨V, u, e1, e2, e3, e4, e5⟩ := bk_pl G f _ _ _ _ hl h
        refine ⟨(tk ts (i + 1)).text :: V, [44] :: (tk ts (i + 1)).text :: u, by rw [e1]; simp, ?_, .inr ⟨_, rfl⟩, fun T => ?_, fun t2 i2 g l2 hr hg => ?_⟩
        · rw [txs_add (show i ≤ i + 1 by omega) (by omega), txs_one (by omega), txs_add (show i + 1 ≤ i + 2 by omega) (by omega), txs_one (i := i + 1) (by omega), h0]
          exact (e2.cons_cons _).cons_cons _
        · rw [wparams, puts_cons T [44] ((tk ts (i + 1)).text :: u)]
          congr 1
          funext T1
          rw [puts_cons T1 (tk ts (i + 1)).text u]
          congr 1
          funext T2
          exact e4 T2
        · obtain ⟨a0, r0⟩ := hr.hd
          obtain ⟨a1, r1⟩ := r0.hd
          have r1' : Rd t2 (i2 + 1 + 1) (u ++ [[41]]) := r1
          obtain ⟨g, rfl⟩ : ∃ m, g = m + 1 := ⟨g - 1, by omega⟩
          simp only [List.length_cons] at hg
          rw [pl, if_pos a0, if_pos ((G.kind hr.lx a1).trans h1), a1, show i2 + 2 = i2 + 1 + 1 by omega, e5 t2 _ g _ r1' (by omega)]
          simp only [List.length_cons, List.append_assoc, List.singleton_append]
          rw [show i2 + 1 + 1 + u.length = i2 + (u.length + 1 + 1) by omega]
      · cases h
    · rename_i h0
      injection h with h; injection h with h1 h; subst h1 h
      refine ⟨[], [], by simp, List.nil_sublist _, .inl rfl, fun T => by simp [wparams, puts], fun t2 i2 g l2 hr hg => ?_⟩
      obtain ⟨g, rfl⟩ : ∃ m, g = m + 1 := ⟨g - 1, by simp at hg; omega⟩
      have := hr.hd.1
      rw [pl, if_neg (by rw [this]; decide)]
      simp
theorem bk_prm (G : Lx ts) {i j : Nat} {l : List By} (hl : j ≤ ts.length) (h : prm ts i = some (l, j)) : ∃ u, List.Sublist u (txs ts i j) ∧ (∀ T, wparams true l T = puts T u) ∧ ∀ (t2 : List X.Tok) (i2 : Nat), Rd t2 i2 (u ++ [[41]]) → prm t2 i2 = some (l, i2 + u.length) := by
  unfold prm at h
  split at h
  · injection h with h; injection h with h1 h; subst h1 h
    refine ⟨[], List.nil_sublist _, fun T => by simp [wparams, puts], fun t2 i2 hr => ?_⟩
    have := hr.hd.1
    unfold prm
    rw [if_pos this]
    rfl
  · rename_i h0
    split at h
    · rename_i h1
      have hon := pl_on _ _ _ _ _ h
      obtain ⟨V, u, e1, e2, e3, e4, e5⟩ := bk_pl G _ _ _ _ _ hl h
      refine ⟨(tk ts i).text :: u, ?_, fun T => ?_, fun t2 i2 hr => ?_⟩
      · rw [txs_add (show i ≤ i + 1 by omega) (by omega), txs_one (by omega)]
        exact e2.cons_cons _
      · rw [e1]
        show wparams true ((tk ts i).text :: V) T = _
        rw [wparams, puts_cons T (tk ts i).text u]
        congr 1
        funext T1
        exact e4 T1
      · have hle := hr.le
        obtain ⟨a0, r0⟩ := hr.hd
        have r0' : Rd t2 (i2 + 1) (u ++ [[41]]) := r0
        simp only [List.length_append, List.length_cons, List.length_nil] at hle
        unfold prm
        rw [a0, if_neg h0, if_pos ((G.kind hr.lx a0).trans h1), e5 t2 _ _ _ r0' (by omega), e1]
        simp only [List.length_cons]
        rw [show i2 + 1 + u.length = i2 + (u.length + 1) by omega]
    · cases h
theorem bk_fnc (G : Lx ts) {f : Nat} {x x' : Decl} {i j : Nat} {E E' : List Exp} {S S' : List Stmt} (hx : x.by' = []) (hl : j ≤ ts.length) (h : fnc ts f x i E S = some (x', j, E', S')) : ∃ u N P c pp y r b, x' = { x with by' := y, rank := r, body := b, params := pp, count := c } ∧ E' = E ++ N ∧ S' = S ++ P ∧ List.Sublist u (txs ts i j) ∧ (∀ (M : List Exp) (Q : List Stmt) (T : By), (if x'.ext = true then (puts T [Go.Lib.itoa x'.count]).bind fun T2 => wfT (E' ++ M) (S' ++ Q) x' T2 else (wparams true x'.params T).bind fun T2 => wfT (E' ++ M) (S' ++ Q) x' T2) = puts T u) ∧ ∀ (t2 : List X.Tok) (i2 g : Nat), Rd t2 i2 u → 3 * u.length + 2 ≤ g → fnc t2 g x i2 E S = some (x', i2 + u.length, E', S') := by
  unfold fnc at h
  split at h
  · rename_i h0
    split at h
    · rename_i h1
      split at h
      · rename_i h2
        have hnum := num_tok G h1
        have hon := fnc2_on h
        obtain ⟨u, N, P, y, r, b, e1, e2, e3, e4, -, e5, e6⟩ := bk_fnc2 G (by exact hx) hl h
        refine ⟨(tk ts i).text :: u, N, P, _, x.params, y, r, b, e1, e2, e3, ?_, fun M Q T => ?_, fun t2 i2 g hr hg => ?_⟩
        · rw [txs_add (show i ≤ i + 1 by omega) (by omega), txs_one (by omega)]
          exact e4.cons_cons _
        · rw [if_pos (by rw [e1]; exact h0), puts_cons T (tk ts i).text u, show x'.count = ((tk ts i).n : Int) by rw [e1], hnum]
          congr 1
          funext T1
          exact e5 M Q T1
        · obtain ⟨a0, r0⟩ := hr.hd
          unfold fnc
          rw [if_pos h0, if_pos ((G.kind hr.lx a0).trans h1), G.num hr.lx a0 (by rw [h1]; decide), if_pos h2, e6 t2 _ g r0 (by simp only [List.length_cons, List.length_append, List.length_nil] at hg; omega)]
          simp only [List.length_cons]
          rw [show i2 + 1 + u.length = i2 + (u.length + 1) by omega]
      · cases h
    · cases h
  · rename_i h0
    rw [Option.bind_eq_some_iff] at h
    obtain ⟨⟨l, k⟩, hb, h⟩ := h
    have hon := fnc2_on h
    have hpn := prm_on hb
    dsimp only at h hon
    obtain ⟨u, N, P, y, r, b, e1, e2, e3, e4, ⟨v, ev⟩, e5, e6⟩ := bk_fnc2 G (by exact hx) hl h
    obtain ⟨w, p1, p2, p3⟩ := bk_prm G (by omega) hb
    refine ⟨w ++ u, N, P, _, l, y, r, b, e1, e2, e3, ?_, fun M Q T => ?_, fun t2 i2 g hr hg => ?_⟩
    · rw [txs_add hpn (show k ≤ j by omega)]
      exact p1.append e4
    · rw [if_neg (by rw [e1]; exact h0), puts_app, show x'.params = l by rw [e1], p2]
      congr 1
      funext T1
      exact e5 M Q T1
    · obtain ⟨r1, r2⟩ := hr.app
      have r3 : Rd t2 i2 (w ++ [[41]]) := by
        have := hr
        rw [ev, show w ++ [41] :: v = (w ++ [[41]]) ++ v by simp] at this
        exact this.app.1
      unfold fnc
      rw [if_neg h0, p3 t2 i2 r3, Option.bind_some]
      dsimp only
      rw [e6 t2 _ g r2 (by simp only [List.length_cons, List.length_append, List.length_nil] at hg; omega), List.length_append, Nat.add_assoc]
end Go.Proofs.YtikknlkdbjaonaaGreatDoor.Y
