/- What is written of what was read is read again: whole modules. -/
import Derived.Test.YtikknlkdbjaonaaGreatDoorPKc
import Derived.Test.YtikknlkdbjaonaaGreatDoorPKa
import Derived.Test.YtikknlkdbjaonaaGreatDoorPBAt
import Derived.Test.YtikknlkdbjaonaaGreatDoorPBAv
namespace Go.Proofs.YtikknlkdbjaonaaGreatDoor.Y
open X
set_option linter.unusedVariables false
set_option linter.unusedSimpArgs false
variable {ts : List X.Tok}
theorem bk_nmb (G : Lx ts) {f : Nat} {nm : By} {b : Bool} {x' : Decl} {i j : Nat} {E E' : List Exp} {S S' : List Stmt} (hl : j ≤ ts.length) (h : nmb ts f ⟨0, nm, b, 0, [], [], 0, 0, []⟩ i E S = some (x', j, E', S')) : ∃ u N P, x'.ext = b ∧ E' = E ++ N ∧ S' = S ++ P ∧ List.Sublist u (txs ts i j) ∧ (∀ (M : List Exp) (Q : List Stmt) (T : By), wdK (E' ++ M) (S' ++ Q) x' T = puts T (kInt :: nm :: u)) ∧ ∀ (t2 : List X.Tok) (i2 g : Nat), Rd t2 i2 u → 3 * u.length + 2 ≤ g → nmb t2 g ⟨0, nm, b, 0, [], [], 0, 0, []⟩ i2 E S = some (x', i2 + u.length, E', S') := by
  have hn2 : ∀ {x x' : Decl} {i : Nat}, nmb2 ts x i E S = some (x', j, E', S') → ∃ y, x' = { x with by' := y } ∧ j = i + 3 ∧ E' = E ∧ S' = S ∧ List.Sublist [kBy, y, [59]] (txs ts i j) ∧ ∀ (t2 : List X.Tok) (i2 : Nat), Rd t2 i2 [kBy, y, [59]] → nmb2 t2 x i2 E S = some (x', i2 + 3, E, S) := by
    intro x x' i h
    unfold nmb2 at h
    split at h
    · rename_i h0
      split at h
      · rename_i h1
        split at h
        · rename_i h2
          injection h with h; injection h with h5 h; injection h with h h'; injection h' with h' h''; subst h5 h h' h''
          refine ⟨_, rfl, rfl, rfl, rfl, ?_, fun t2 i2 hr => ?_⟩
          · rw [txs_add (show i ≤ i + 1 by omega) (by omega), txs_one (by omega), txs_add (show i + 1 ≤ i + 2 by omega) (by omega), txs_one (i := i + 1) (by omega), txs_one (i := i + 2) (by omega), h0, h2]
            exact List.Sublist.refl _
          · obtain ⟨a0, r0⟩ := hr.hd
            obtain ⟨a1, r1⟩ := r0.hd
            obtain ⟨a2, -⟩ := r1.hd
            unfold nmb2
            rw [if_pos a0, if_pos ((G.kind hr.lx a1).trans h1), if_pos a2, a1]
        · cases h
      · cases h
    · cases h
  have hij := nmb_on h
  unfold nmb at h
  split at h
  · rename_i h0
    obtain ⟨u, N, P, c, pp, y, r, bd, e1, e2, e3, e4, e5, e6⟩ := bk_fnc G (by rfl) hl h
    refine ⟨[40] :: u, N, P, by rw [e1], e2, e3, ?_, fun M Q T => ?_, fun t2 i2 g hr hg => ?_⟩
    · rw [txs_add (show i ≤ i + 1 by omega) (by omega), txs_one (by omega), h0]
      exact e4.cons_cons _
    · unfold wdK
      rw [show x'.kind = 5 by rw [e1], if_neg (by decide), if_neg (by decide), if_neg (by decide), if_neg (by decide), if_pos rfl]
      unfold wfunction
      rw [show kInt :: nm :: [40] :: u = [kInt, nm, [40]] ++ u from rfl, puts_app T, show x'.name = nm by rw [e1]]
      congr 1
      funext T1
      exact e5 M Q T1
    · obtain ⟨a0, r0⟩ := hr.hd
      unfold nmb
      rw [if_pos a0, e6 t2 _ g r0 (by simp only [List.length_cons, List.length_append, List.length_nil] at hg; omega), List.length_cons, show ∀ n, i2 + 1 + n = i2 + (n + 1) from fun n => by omega]
  · rename_i h0
    split at h
    · rename_i h1
      split at h
      · rename_i h2
        split at h
        · rename_i h3
          split at h
          · cases h
          · rename_i h4
            split at h
            · rename_i h5
              have hnum := num_tok G h2
              obtain ⟨y, e1, e2, e3, e4, e5, e6⟩ := hn2 h
              refine ⟨[[91], (tk ts (i + 1)).text, [93]] ++ [kBy, y, [59]], [], [], by rw [e1], by rw [e3]; simp, by rw [e4]; simp, ?_, fun M Q T => ?_, fun t2 i2 g hr hg => ?_⟩
              · rw [txs_add (show i ≤ i + 1 by omega) (by omega), txs_one (by omega), txs_add (show i + 1 ≤ i + 2 by omega) (by omega), txs_one (i := i + 1) (by omega), txs_add (show i + 2 ≤ i + 3 by omega) (by omega), txs_one (i := i + 2) (by omega), h1, h5]
                exact ((e5.cons_cons _).cons_cons _).cons_cons _
              · unfold wdK
                rw [show x'.kind = 4 by rw [e1], if_neg (by decide), if_neg (by decide), if_neg (by decide), if_pos rfl]
                unfold wglobal
                have hx : x'.n ≠ 0 := by rw [e1]; simp only; omega
                simp only [if_neg hx]
                rw [show kInt :: nm :: ([[91], (tk ts (i + 1)).text, [93]] ++ [kBy, y, [59]]) = [kInt, nm] ++ ([[91], (tk ts (i + 1)).text, [93]] ++ [kBy, y, [59]]) from rfl, puts_app T, show x'.name = nm by rw [e1]]
                congr 1
                funext T1
                rw [puts_app T1, show x'.n = ((tk ts (i + 1)).n : Int) by rw [e1], hnum, show x'.by' = y by rw [e1]]
                rfl
              · obtain ⟨a0, r0⟩ := hr.hd
                obtain ⟨a1, r1⟩ := r0.hd
                obtain ⟨a2, r2⟩ := r1.hd
                have r2' : Rd t2 (i2 + 1 + 1 + 1) [kBy, y, [59]] := r2
                have k1 := (G.kind hr.lx a1).trans h2
                have n1 := G.num hr.lx a1 (by rw [h2]; decide)
                unfold nmb
                rw [if_neg (by rw [a0]; decide), if_pos a0, if_pos k1, n1, if_pos h3, if_neg h4, if_pos a2, show i2 + 3 = i2 + 1 + 1 + 1 by omega]
                have := e6 t2 _ r2'
                rw [this, e3, e4]
                rfl
            · cases h
        · cases h
      · cases h
    · rename_i h1
      obtain ⟨y, e1, e2, e3, e4, e5, e6⟩ := hn2 h
      refine ⟨[kBy, y, [59]], [], [], by rw [e1], by rw [e3]; simp, by rw [e4]; simp, e5, fun M Q T => ?_, fun t2 i2 g hr hg => ?_⟩
      · unfold wdK
        rw [show x'.kind = 4 by rw [e1], if_neg (by decide), if_neg (by decide), if_neg (by decide), if_pos rfl]
        unfold wglobal
        have hx : x'.n = 0 := by rw [e1]
        simp only [if_pos hx]
        rw [show kInt :: nm :: [kBy, y, [59]] = [kInt, nm] ++ [kBy, y, [59]] from rfl, puts_app T, show x'.name = nm by rw [e1], show x'.by' = y by rw [e1]]
        rfl
      · obtain ⟨a0, r0⟩ := hr.hd
        unfold nmb
        rw [if_neg (by rw [a0]; decide), if_neg (by rw [a0]; decide), e6 t2 _ hr, e3, e4]
        rfl
theorem bk_dcl2 (G : Lx ts) {f : Nat} {b : Bool} {x' : Decl} {i j : Nat} {E E' : List Exp} {S S' : List Stmt} (hl : j ≤ ts.length) (h : dcl2 ts f b i E S = some (x', j, E', S')) : ∃ u N P, x'.ext = b ∧ E' = E ++ N ∧ S' = S ++ P ∧ Fit u (txs ts i j) ∧ (∃ h v, u = h :: v ∧ h ≠ [] ∧ (b = false → h = (tk ts i).text)) ∧ (∀ (M : List Exp) (Q : List Stmt) (T : By), wdK (E' ++ M) (S' ++ Q) x' T = puts T u) ∧ ∀ (t2 : List X.Tok) (i2 g : Nat), Rd t2 i2 u → 3 * u.length + 2 ≤ g → dcl2 t2 g b i2 E S = some (x', i2 + u.length, E', S') := by
  have hij := dcl2_on h
  unfold dcl2 at h
  split at h
  · rename_i h0
    split at h
    · rename_i h1
      obtain ⟨u, N, P, e1, e2, e3, e4, e5, e6⟩ := bk_nmb G hl h
      refine ⟨kInt :: (tk ts (i + 1)).text :: u, N, P, e1, e2, e3, ?_, ⟨_, _, rfl, by decide, fun _ => h0.symm⟩, e5, fun t2 i2 g hr hg => ?_⟩
      · rw [txs_add (show i ≤ i + 1 by omega) (by omega), txs_one (by omega), txs_add (show i + 1 ≤ i + 2 by omega) (by omega), txs_one (i := i + 1) (by omega), h0]
        exact Fit.of ((e4.cons_cons _).cons_cons _)
      · obtain ⟨a0, r0⟩ := hr.hd
        obtain ⟨a1, r1⟩ := r0.hd
        unfold dcl2
        rw [if_pos a0, if_pos ((G.kind hr.lx a1).trans h1), a1, show i2 + 2 = i2 + 1 + 1 by omega, e6 t2 _ g r1 (by simp only [List.length_cons, List.length_append, List.length_nil] at hg; omega)]
        simp only [List.length_cons]
        rw [show i2 + 1 + 1 + u.length = i2 + (u.length + 1 + 1) by omega]
    · cases h
  · rename_i h0
    rw [Option.bind_eq_some_iff] at h
    obtain ⟨⟨k, i1⟩, hb, h⟩ := h
    have hi1 := obj_on hb
    subst hi1
    dsimp only at h
    obtain ⟨w, w1, w2, w3, w4, w5⟩ : ∃ w : By, Fit [w] [(tk ts i).text] ∧ w ≠ [] ∧ w ≠ kInt ∧ (b = false → w = (tk ts i).text) ∧ ((k = 1 ∧ w = kLock) ∨ (k = 2 ∧ w = kTicket ∧ b = false) ∨ (k = 3 ∧ w = kQueue)) := by
      unfold obj at hb
      split at hb
      · rename_i c1
        injection hb with hb; injection hb with hb _; subst hb
        exact ⟨kQueue, by rw [c1]; exact Fit.of (List.Sublist.refl _), by decide, by decide, fun _ => c1.symm, .inr (.inr ⟨rfl, rfl⟩)⟩
      · split at hb
        · rename_i c1
          split at hb
          · rename_i c2
            injection hb with hb; injection hb with hb _; subst hb
            refine ⟨kLock, ⟨by simp, by rw [c1]; decide, fun t ht => .inr (by simpa using ht)⟩, by decide, by decide, fun e => ?_, .inl ⟨rfl, rfl⟩⟩
            rw [c2] at e; cases e
          · rename_i c2
            injection hb with hb; injection hb with hb _; subst hb
            exact ⟨kTicket, by rw [c1]; exact Fit.of (List.Sublist.refl _), by decide, by decide, fun _ => c1.symm, .inr (.inl ⟨rfl, rfl, by simpa using c2⟩)⟩
        · split at hb
          · rename_i c1
            injection hb with hb; injection hb with hb _; subst hb
            exact ⟨kLock, by rw [c1]; exact Fit.of (List.Sublist.refl _), by decide, by decide, fun _ => c1.symm, .inl ⟨rfl, rfl⟩⟩
          · cases hb
    have hob : ∀ {t2 : List X.Tok} {i2 : Nat}, (tk t2 i2).text = w → obj t2 b i2 = some (k, i2 + 1) := by
      intro t2 i2 e
      unfold obj
      rw [e]
      rcases w5 with ⟨rfl, rfl⟩ | ⟨rfl, rfl, rfl⟩ | ⟨rfl, rfl⟩
      · rw [if_neg (by decide), if_neg (by decide), if_pos rfl]
      · rw [if_neg (by decide), if_pos rfl, if_neg (by decide)]
      · rw [if_pos rfl]
    split at h
    · rename_i h1
      split at h
      · rename_i h2
        split at h
        · rename_i h3
          split at h
          · rename_i h4
            split at h
            · rename_i h5
              have hnum := num_tok G h3
              injection h with h; injection h with h6 h; injection h with h h'; injection h' with h' h''; subst h6 h h' h''
              obtain rfl : w = kQueue := by rcases w5 with ⟨e, _⟩ | ⟨e, _⟩ | ⟨_, e⟩ <;> first | exact e | omega
              refine ⟨[kQueue, (tk ts (i + 1)).text, (tk ts (i + 1 + 1)).text, [59]], [], [], rfl, by simp, by simp, ?_, ⟨_, _, rfl, w2, w4⟩, fun M Q T => ?_, fun t2 i2 g hr hg => ?_⟩
              · rw [txs_add (show i ≤ i + 1 by omega) (by omega), txs_one (by omega), txs_add (show i + 1 ≤ i + 1 + 1 by omega) (by omega), txs_one (i := i + 1) (by omega), txs_add (show i + 1 + 1 ≤ i + 1 + 2 by omega) (by omega), txs_one (i := i + 1 + 1) (by omega), txs_one (i := i + 1 + 2) (by omega), h5]
                exact w1.app (Fit.of (List.Sublist.refl [(tk ts (i + 1)).text, (tk ts (i + 1 + 1)).text, [59]]))
              · unfold wdK
                simp only
                rw [if_neg (by omega), if_neg (by omega), if_pos h2, hnum]
                rfl
              · obtain ⟨a0, r0⟩ := hr.hd
                obtain ⟨a1, r1⟩ := r0.hd
                obtain ⟨a2, r2⟩ := r1.hd
                obtain ⟨a3, -⟩ := r2.hd
                have k1 := (G.kind hr.lx a2).trans h3
                have n1 := G.num hr.lx a2 (by rw [h3]; decide)
                unfold dcl2
                rw [if_neg (by rw [a0]; exact w3), hob a0, Option.bind_some]
                dsimp only
                rw [if_pos ((G.kind hr.lx a1).trans h1), if_pos h2, if_pos k1, n1, if_pos h4, if_pos a3, a1]
                rfl
            · cases h
          · cases h
        · cases h
      · rename_i h2
        split at h
        · rename_i h3
          injection h with h; injection h with h6 h; injection h with h h'; injection h' with h' h''; subst h6 h h' h''
          refine ⟨[w, (tk ts (i + 1)).text, [59]], [], [], rfl, by simp, by simp, ?_, ⟨_, _, rfl, w2, w4⟩, fun M Q T => ?_, fun t2 i2 g hr hg => ?_⟩
          · rw [txs_add (show i ≤ i + 1 by omega) (by omega), txs_one (by omega), txs_add (show i + 1 ≤ i + 1 + 1 by omega) (by omega), txs_one (i := i + 1) (by omega), txs_one (i := i + 1 + 1) (by omega), h3]
            exact w1.app (Fit.of (List.Sublist.refl [(tk ts (i + 1)).text, [59]]))
          · unfold wdK
            simp only
            rcases w5 with ⟨e, rfl⟩ | ⟨e, rfl, -⟩ | ⟨e, -⟩
            · rw [if_pos e]; rfl
            · rw [if_neg (by omega), if_pos e]; rfl
            · exact absurd e h2
          · obtain ⟨a0, r0⟩ := hr.hd
            obtain ⟨a1, r1⟩ := r0.hd
            obtain ⟨a2, -⟩ := r1.hd
            unfold dcl2
            rw [if_neg (by rw [a0]; exact w3), hob a0, Option.bind_some]
            dsimp only
            rw [if_pos ((G.kind hr.lx a1).trans h1), if_neg h2, if_pos a2, a1]
            rfl
        · cases h
    · cases h
theorem bk_dcl (G : Lx ts) {f : Nat} {x' : Decl} {i j : Nat} {E E' : List Exp} {S S' : List Stmt} (hl : j ≤ ts.length) (h : dcl ts f i E S = some (x', j, E', S')) : ∃ u N P, E' = E ++ N ∧ S' = S ++ P ∧ Fit u (txs ts i j) ∧ (∃ h v, u = h :: v ∧ h ≠ []) ∧ (∀ (M : List Exp) (Q : List Stmt) (T : By), wdecl (E' ++ M) (S' ++ Q) x' T = puts T u) ∧ ∀ (t2 : List X.Tok) (i2 g : Nat), Rd t2 i2 u → 3 * u.length + 2 ≤ g → dcl t2 g i2 E S = some (x', i2 + u.length, E', S') := by
  have hij := dcl_on h
  unfold dcl at h
  split at h
  · rename_i h0
    split at h
    · rename_i h1
      rw [Option.bind_eq_some_iff] at h
      obtain ⟨⟨V, k, E1, S1⟩, hb, h⟩ := h
      injection h with h; injection h with h5 h; injection h with h h'; injection h' with h' h''; subst h5 h h' h''
      dsimp only at hl
      have g2 := (blk_on ts _).1 _ _ _ _ _ _ _ _ hb
      obtain ⟨u, N, P, rfl, rfl, q, -⟩ := (bk_blk G f).1 _ _ _ _ _ _ _ _ hl hb
      refine ⟨[kThread, (tk ts (i + 1)).text] ++ u, N, P, rfl, rfl, ?_, ⟨_, _, rfl, by decide⟩, fun M Q T => ?_, fun t2 i2 g hr hg => ?_⟩
      · dsimp only
        rw [txs_add (show i ≤ i + 1 by omega) (by omega), txs_one (by omega), txs_add (show i + 1 ≤ i + 2 by omega) (by omega), txs_one (i := i + 1) (by omega), h0]
        exact Fit.of ((q.sub.cons_cons _).cons_cons _)
      · unfold wdecl wdK
        simp only
        rw [if_neg (by decide), if_neg (by decide), if_neg (by decide), if_neg (by decide), if_neg (by decide), if_neg (by decide), if_pos trivial, puts_app T]
        congr 1
        funext T1
        exact q.wr M Q 20002 T1 (by omega)
      · obtain ⟨a0, r0⟩ := hr.hd
        obtain ⟨a1, r1⟩ := r0.hd
        have r1' : Rd t2 (i2 + 1 + 1) u := r1
        unfold dcl
        rw [if_pos a0, if_pos ((G.kind hr.lx a1).trans h1), a1, show i2 + 2 = i2 + 1 + 1 by omega, q.rd t2 _ g r1' (by simp only [List.length_cons, List.length_append, List.length_nil] at hg; omega), Option.bind_some]
        simp only [List.length_append, List.length_cons, List.length_nil]
        rw [show i2 + 1 + 1 + u.length = i2 + (0 + 1 + 1 + u.length) by omega]
    · cases h
  · rename_i h0
    split at h
    · rename_i h1
      obtain ⟨u, N, P, e1, e2, e3, e4, e5, e6, e7⟩ := bk_dcl2 G hl h
      have hon := dcl2_on h
      refine ⟨kExtern :: u, N, P, e2, e3, ?_, ⟨_, _, rfl, by decide⟩, fun M Q T => ?_, fun t2 i2 g hr hg => ?_⟩
      · rw [txs_add (show i ≤ i + 1 by omega) (by omega), txs_one (by omega), h1]
        exact e4.cons _
      · unfold wdecl
        rw [if_pos e1, puts_cons T kExtern u]
        congr 1
        funext T1
        exact e6 M Q T1
      · obtain ⟨a0, r0⟩ := hr.hd
        unfold dcl
        rw [if_neg (by rw [a0]; decide), if_pos a0, e7 t2 _ g r0 (by simp only [List.length_cons, List.length_append, List.length_nil] at hg; omega)]
        simp only [List.length_cons]
        rw [show i2 + 1 + u.length = i2 + (u.length + 1) by omega]
    · rename_i h1
      obtain ⟨u, N, P, e1, e2, e3, e4, ⟨hh, v, e5, e8, e9⟩, e6, e7⟩ := bk_dcl2 G hl h
      refine ⟨u, N, P, e2, e3, e4, ⟨_, _, e5, e8⟩, fun M Q T => ?_, fun t2 i2 g hr hg => ?_⟩
      · unfold wdecl
        rw [if_neg (by rw [e1]; decide)]
        exact e6 M Q T
      · have a0 : (tk t2 i2).text = (tk ts i).text := by have := hr.at'; rw [e5, e9 rfl] at this; exact this.1
        unfold dcl
        rw [if_neg (by rw [a0]; exact h0), if_neg (by rw [a0]; exact h1)]
        exact e7 t2 _ g hr hg
theorem bk_dl (G : Lx ts) (K : Good ts) {p : Nat} (hp : ts.length = p + 1) (hk : ∀ i, i < p → (tk ts i).kind ≠ 0) {F : Nat} : ∀ (f i : Nat) (D : List Decl) (E : List Exp) (S : List Stmt) (M : Mod), i ≤ p → dl ts F f i D E S = some M → ∃ ds U N P, M = ⟨D ++ ds, S ++ P, E ++ N⟩ ∧ Fit U (txs ts i p) ∧ N.length + i ≤ p ∧ (∀ T, wdecls M.exps M.stmts ds T = puts T U) ∧ ∀ (t2 : List X.Tok) (i2 G2 g : Nat), Rd t2 i2 U → (tk t2 (i2 + U.length)).kind = 0 → 3 * U.length + 2 ≤ G2 → U.length < g → dl t2 G2 g i2 D E S = some M
  | 0, _, _, _, _, _, _, h => by simp [dl] at h
  | f + 1, i, D, E, S, M, hi, h => by
    rw [dl] at h
    split at h
    · rename_i h0
      injection h with h
      subst h
      obtain rfl : i = p := by
        rcases Nat.lt_or_ge i p with h1 | h1
        · exact absurd h0 (hk i h1)
        · omega
      refine ⟨[], [], [], [], by simp, Fit.of (List.nil_sublist _), by simp, fun T => by simp [wdecls, puts], fun t2 i2 G2 g hr h1 h2 h3 => ?_⟩
      obtain ⟨g, rfl⟩ : ∃ m, g = m + 1 := ⟨g - 1, by simp at h3; omega⟩
      rw [dl, if_pos (by simpa using h1)]
    · rename_i h0
      rw [Option.bind_eq_some_iff] at h
      obtain ⟨⟨x, j, E1, S1⟩, hb, h⟩ := h
      have hon := dcl_on hb
      have hlen := dcl_len K hb
      obtain ⟨u, N, P, rfl, rfl, e4, ⟨hh, v, e5, e8⟩, e6, e7⟩ := bk_dcl G (by omega) hb
      dsimp only at h
      obtain ⟨ds, U, N2, P2, rfl, f2, f3, f4, f5⟩ := bk_dl G K hp hk f j _ _ _ M (by omega) h
      refine ⟨x :: ds, u ++ U, N ++ N2, P ++ P2, by simp, ?_, ?_, fun T => ?_, fun t2 i2 G2 g hr h1 h2 h3 => ?_⟩
      · rw [txs_add (show i ≤ j by omega) (show j ≤ p by omega)]
        exact e4.app f2
      · have := hlen.2.2.1
        rw [List.length_append] at this ⊢
        omega
      · rw [wdecls, puts_app]
        dsimp only at f4 ⊢
        rw [e6 N2 P2 T]
        congr 1
        funext T1
        exact f4 T1
      · obtain ⟨g, rfl⟩ : ∃ m, g = m + 1 := ⟨g - 1, by omega⟩
        obtain ⟨r1, r2⟩ := hr.app
        have a0 : (tk t2 i2).text ≠ [] := by have := r1.at'; rw [e5] at this; rw [this.1]; exact e8
        rw [List.length_append] at h1 h3
        have hu : 1 ≤ u.length := by rw [e5]; simp
        rw [dl, if_neg (hr.lx.pos _ a0), e7 t2 i2 G2 r1 (by rw [List.length_append] at h2; omega), Option.bind_some]
        dsimp only
        exact f5 t2 _ G2 g r2 (by rw [Nat.add_assoc]; exact h1) (by rw [List.length_append] at h2; omega) (by omega)
end Go.Proofs.YtikknlkdbjaonaaGreatDoor.Y

/- What a module that was read is good for: its texts are tokens' texts, its numbers are small. -/
namespace Go.Proofs.YtikknlkdbjaonaaGreatDoor.Y
open X
set_option linter.unusedVariables false
set_option linter.unusedSimpArgs false
variable {ts : List X.Tok}
structure Tb (ts : List X.Tok) : Prop where
  tx : ∀ i, (tk ts i).text.length ≤ 140737488355328
  nm : ∀ i, (tk ts i).n < 9223372036854775808
structure O1 (x : Exp) : Prop where
  op : x.op.length ≤ 140737488355328
  name : x.name.length ≤ 140737488355328
  n0 : -9223372036854775808 ≤ x.n
  n1 : x.n ≤ 9223372036854775807
structure O2 (s : Stmt) : Prop where
  name : s.name.length ≤ 140737488355328
  fn : s.fn.length ≤ 140737488355328
def A1 (E : List Exp) : Prop := ∀ e ∈ E, O1 e
def A2 (S : List Stmt) : Prop := ∀ s ∈ S, O2 s
theorem A1.one {E : List Exp} (h : A1 E) {e : Exp} (he : O1 e) : A1 (E ++ [e]) := fun x hx => by
  rcases List.mem_append.1 hx with hx | hx
  · exact h x hx
  · obtain rfl : x = e := by simpa using hx
    exact he
theorem A2.one {S : List Stmt} (h : A2 S) {s : Stmt} (hs : O2 s) : A2 (S ++ [s]) := fun x hx => by
  rcases List.mem_append.1 hx with hx | hx
  · exact h x hx
  · obtain rfl : x = s := by simpa using hx
    exact hs
theorem ok_un (B : Tb ts) : ∀ f,
    (∀ d i E x j E', A1 E → un ts f d i E = some (x, j, E') → A1 E') ∧
    (∀ lv d i E x j E', A1 E → bin ts f lv d i E = some (x, j, E') → A1 E') ∧
    (∀ lv d y i E x j E', A1 E → lp ts f lv d y i E = some (x, j, E') → A1 E')
  | 0 => ⟨fun _ _ _ _ _ _ _ h => by simp [un] at h, fun _ _ _ _ _ _ _ _ h => by simp [bin] at h, fun _ _ _ _ _ _ _ _ _ h => by simp [lp] at h⟩
  | f + 1 => by
    obtain ⟨h1, h2, h3⟩ := ok_un B f
    refine ⟨fun d i E x j E' hE h => ?_, fun lv d i E x j E' hE h => ?_, fun lv d y i E x j E' hE h => ?_⟩
    · have ht := B.tx i
      have hn := B.nm i
      rw [un] at h
      split at h
      · split at h
        · cases h
        · split at h
          · cases h
          · rename_i he
            injection h with h; injection h with h0 h; injection h with h h'; subst h'
            exact (h1 _ _ _ _ _ _ hE he).one ⟨ht, by simp, by simp, by simp⟩
      · split at h
        · split at h
          · cases h
          · split at h
            · cases h
            · rename_i he
              split at h
              · injection h with h; injection h with h0 h; injection h with h h'; subst h'
                exact h2 _ _ _ _ _ _ _ hE he
              · cases h
        · split at h
          · injection h with h; injection h with h0 h; injection h with h h'; subst h'
            exact hE.one ⟨by simp, by simp, by dsimp only; omega, by dsimp only; omega⟩
          · split at h
            · split at h
              · split at h
                · cases h
                · split at h
                  · cases h
                  · rename_i he
                    split at h
                    · injection h with h; injection h with h0 h; injection h with h h'; subst h'
                      exact (h2 _ _ _ _ _ _ _ hE he).one ⟨by simp, ht, by simp, by simp⟩
                    · cases h
              · injection h with h; injection h with h0 h; injection h with h h'; subst h'
                exact hE.one ⟨by simp, ht, by simp, by simp⟩
            · cases h
    · rw [bin] at h
      split at h
      · cases h
      · rename_i he
        exact h3 _ _ _ _ _ _ _ _ (h1 _ _ _ _ _ _ hE he) h
    · rw [lp] at h
      split at h
      · split at h
        · cases h
        · rename_i he
          exact h3 _ _ _ _ _ _ _ _ ((h2 _ _ _ _ _ _ _ hE he).one ⟨B.tx i, by simp, by simp, by simp⟩) h
      · injection h with h; injection h with h0 h; injection h with h h'; subst h'
        exact hE
theorem ok_Bin (B : Tb ts) {lv d i x j : Nat} {E E' : List Exp} (hE : A1 E) (h : Bin ts lv d i E = some (x, j, E')) : A1 E' := (ok_un B _).2.1 _ _ _ _ _ _ _ hE h
theorem ok_val (B : Tb ts) {s s' : Stmt} {d i j : Nat} {E E' : List Exp} {S S' : List Stmt} (hE : A1 E) (hS : A2 S) (hs : O2 s) (h : val ts s d i E S = some (s', j, E', S')) : A1 E' ∧ A2 S' ∧ O2 s' := by
  unfold val at h
  rw [Option.bind_eq_some_iff] at h
  obtain ⟨⟨x, k, E1⟩, hb, h⟩ := h
  dsimp only at h
  split at h
  · injection h with h; injection h with h0 h; injection h with h h'; injection h' with h' h''; subst h0 h h' h''
    exact ⟨ok_Bin B hE hb, hS, hs.name, hs.fn⟩
  · cases h
theorem ok_cnd (B : Tb ts) {d i x j : Nat} {E E' : List Exp} (hE : A1 E) (h : cnd ts d i E = some (x, j, E')) : A1 E' := by
  unfold cnd at h
  split at h
  · rw [Option.bind_eq_some_iff] at h
    obtain ⟨⟨y, k, E1⟩, hb, h⟩ := h
    dsimp only at h
    split at h
    · injection h with h; injection h with h0 h; injection h with h h'; subst h'
      exact ok_Bin B hE hb
    · cases h
  · cases h
theorem ok_al (B : Tb ts) : ∀ (f d i : Nat) (l : List Int) (E : List Exp) (l' : List Int) (j : Nat) (E' : List Exp), A1 E → al ts f d i l E = some (l', j, E') → A1 E'
  | 0, _, _, _, _, _, _, _, _, h => by simp [al] at h
  | f + 1, d, i, l, E, l', j, E', hE, h => by
    rw [al] at h
    split at h
    · rw [Option.bind_eq_some_iff] at h
      obtain ⟨⟨y, k, E1⟩, hb, h⟩ := h
      exact ok_al B f _ _ _ _ _ _ _ (ok_Bin B hE hb) h
    · injection h with h; injection h with h0 h; injection h with h h'; subst h'
      exact hE
theorem ok_ag (B : Tb ts) {d i j : Nat} {l : List Int} {E E' : List Exp} (hE : A1 E) (h : ag ts d i E = some (l, j, E')) : A1 E' := by
  unfold ag at h
  split at h
  · injection h with h; injection h with h0 h; injection h with h h'; subst h'
    exact hE
  · rw [Option.bind_eq_some_iff] at h
    obtain ⟨⟨y, k, E1⟩, hb, h⟩ := h
    exact ok_al B _ _ _ _ _ _ _ _ (ok_Bin B hE hb) h
theorem ok_fin {s s' : Stmt} {i j : Nat} {E E' : List Exp} {S S' : List Stmt} (h : fin ts s i E S = some (s', j, E', S')) : E' = E ∧ S' = S ∧ s' = s := by
  unfold fin at h
  split at h
  · split at h
    · injection h with h; injection h with h0 h; injection h with h h'; injection h' with h' h''
      exact ⟨h'.symm, h''.symm, h0.symm⟩
    · cases h
  · cases h
theorem ok_cl (B : Tb ts) {d i j : Nat} {nm : By} {s : Stmt} {E E' : List Exp} {S S' : List Stmt} (hE : A1 E) (hS : A2 S) (hn : nm.length ≤ 140737488355328) (h : cl ts d nm i E S = some (s, j, E', S')) : A1 E' ∧ A2 S' ∧ O2 s := by
  unfold cl at h
  split at h
  · split at h
    · split at h
      · obtain ⟨rfl, rfl, rfl⟩ := ok_fin h
        exact ⟨hE, hS, hn, B.tx _⟩
      · cases h
    · cases h
  · split at h
    · split at h
      · split at h
        · split at h
          · rw [Option.bind_eq_some_iff] at h
            obtain ⟨⟨y, k, E1⟩, hb, h⟩ := h
            obtain ⟨rfl, rfl, rfl⟩ := ok_fin h
            exact ⟨ok_Bin B hE hb, hS, hn, B.tx _⟩
          · cases h
        · cases h
      · cases h
    · split at h
      · split at h
        · rw [Option.bind_eq_some_iff] at h
          obtain ⟨⟨y, k, E1⟩, hb, h⟩ := h
          obtain ⟨rfl, rfl, rfl⟩ := ok_fin h
          exact ⟨ok_ag B hE hb, hS, hn, B.tx _⟩
        · cases h
      · cases h
theorem ok_setS (B : Tb ts) {d i j : Nat} {s : Stmt} {E E' : List Exp} {S S' : List Stmt} (hE : A1 E) (hS : A2 S) (h : setS ts d i E S = some (s, j, E', S')) : A1 E' ∧ A2 S' ∧ O2 s := by
  unfold setS at h
  split at h
  · split at h
    · rw [Option.bind_eq_some_iff] at h
      obtain ⟨⟨y, k, E1⟩, hb, h⟩ := h
      dsimp only at h
      have h1 : A1 E1 := by
        unfold Ix at hb
        split at hb
        · cases hb
        · split at hb
          · cases hb
          · rename_i he
            split at hb
            · injection hb with hb; injection hb with h0 hb; injection hb with hb h'; subst h'
              exact ok_Bin B hE he
            · cases hb
      split at h
      · exact ok_val B h1 hS ⟨B.tx _, by simp⟩ h
      · cases h
    · split at h
      · split at h
        · exact ok_cl B hE hS (B.tx _) h
        · exact ok_val B hE hS ⟨B.tx _, by simp⟩ h
      · cases h
  · cases h
theorem ok_blk (B : Tb ts) : ∀ f,
    (∀ d i E S V j E' S', A1 E → A2 S → blk ts f d i E S = some (V, j, E', S') → A1 E' ∧ A2 S') ∧
    (∀ d i l E S l' j E' S', A1 E → A2 S → sl ts f d i l E S = some (l', j, E', S') → A1 E' ∧ A2 S') ∧
    (∀ d i E S s j E' S', A1 E → A2 S → stm ts f d i E S = some (s, j, E', S') → A1 E' ∧ A2 S' ∧ O2 s)
  | 0 => ⟨fun _ _ _ _ _ _ _ _ _ _ h => by simp [blk] at h, fun _ _ _ _ _ _ _ _ _ _ _ h => by simp [sl] at h, fun _ _ _ _ _ _ _ _ _ _ h => by simp [stm] at h⟩
  | f + 1 => by
    obtain ⟨h1, h2, h3⟩ := ok_blk B f
    refine ⟨fun d i E S V j E' S' hE hS h => ?_, fun d i l E S l' j E' S' hE hS h => ?_, fun d i E S s j E' S' hE hS h => ?_⟩
    · rw [blk] at h
      split at h
      · split at h
        · cases h
        · exact h2 _ _ _ _ _ _ _ _ _ hE hS h
      · cases h
    · rw [sl] at h
      split at h
      · injection h with h; injection h with h5 h; injection h with h h'; injection h' with h' h''; subst h' h''
        exact ⟨hE, hS⟩
      · rw [Option.bind_eq_some_iff] at h
        obtain ⟨⟨s, k, E1, S1⟩, hb, h⟩ := h
        obtain ⟨a, b, c⟩ := h3 _ _ _ _ _ _ _ _ hE hS hb
        exact h2 _ _ _ _ _ _ _ _ _ a (b.one c) h
    · rw [stm] at h
      split at h
      · split at h
        · split at h
          · exact ok_val B hE hS ⟨B.tx _, by simp⟩ h
          · cases h
        · cases h
      · split at h
        · rw [Option.bind_eq_some_iff] at h
          obtain ⟨⟨x, k, E1⟩, hb, h⟩ := h
          have h4 := ok_cnd B hE hb
          rw [Option.bind_eq_some_iff] at h
          obtain ⟨⟨l, k2, E2, S2⟩, hb2, h⟩ := h
          obtain ⟨a, b⟩ := h1 _ _ _ _ _ _ _ _ h4 hS hb2
          dsimp only at h
          split at h
          · rw [Option.bind_eq_some_iff] at h
            obtain ⟨⟨l3, k3, E3, S3⟩, hb3, h⟩ := h
            obtain ⟨a, b⟩ := h1 _ _ _ _ _ _ _ _ a b hb3
            injection h with h; injection h with h0 h; injection h with h h'; injection h' with h' h''; subst h0 h' h''
            exact ⟨a, b, by simp, by simp⟩
          · injection h with h; injection h with h0 h; injection h with h h'; injection h' with h' h''; subst h0 h' h''
            exact ⟨a, b, by simp, by simp⟩
        · split at h
          · rw [Option.bind_eq_some_iff] at h
            obtain ⟨⟨x, k, E1⟩, hb, h⟩ := h
            have h4 := ok_cnd B hE hb
            rw [Option.bind_eq_some_iff] at h
            obtain ⟨⟨l, k2, E2, S2⟩, hb2, h⟩ := h
            obtain ⟨a, b⟩ := h1 _ _ _ _ _ _ _ _ h4 hS hb2
            injection h with h; injection h with h0 h; injection h with h h'; injection h' with h' h''; subst h0 h' h''
            exact ⟨a, b, by simp, by simp⟩
          · split at h
            · split at h
              · rw [Option.bind_eq_some_iff] at h
                obtain ⟨⟨l, k2, E2, S2⟩, hb2, h⟩ := h
                obtain ⟨a, b⟩ := h1 _ _ _ _ _ _ _ _ hE hS hb2
                injection h with h; injection h with h0 h; injection h with h h'; injection h' with h' h''; subst h0 h' h''
                exact ⟨a, b, B.tx _, by simp⟩
              · cases h
            · split at h
              · exact ok_val B hE hS ⟨by simp, by simp⟩ h
              · split at h
                · exact ok_val B hE hS ⟨by simp, by simp⟩ h
                · split at h
                  · exact ok_cl B hE hS (by simp) h
                  · exact ok_setS B hE hS h
theorem ok_fnc3 (B : Tb ts) {f : Nat} {x x' : Decl} {i j : Nat} {E E' : List Exp} {S S' : List Stmt} (hE : A1 E) (hS : A2 S) (hx : D1 x) (h : fnc3 ts f x i E S = some (x', j, E', S')) : A1 E' ∧ A2 S' ∧ D1 x' := by
  have hn := B.nm (i + 1)
  unfold fnc3 at h
  split at h
  · split at h
    · split at h
      · split at h
        · split at h
          · injection h with h; injection h with h0 h; injection h with h h'; injection h' with h' h''; subst h0 h' h''
            exact ⟨hE, hS, hx.name, hx.by', hx.params, hx.n0, hx.n1, hx.c0, hx.c1, by dsimp only; omega, by dsimp only; omega⟩
          · cases h
        · rw [Option.bind_eq_some_iff] at h
          obtain ⟨⟨l, k, E1, S1⟩, hb, h⟩ := h
          obtain ⟨a, b⟩ := (ok_blk B f).1 _ _ _ _ _ _ _ _ hE hS hb
          injection h with h; injection h with h0 h; injection h with h h'; injection h' with h' h''; subst h0 h' h''
          exact ⟨a, b, hx.name, hx.by', hx.params, hx.n0, hx.n1, hx.c0, hx.c1, by dsimp only; omega, by dsimp only; omega⟩
      · cases h
    · cases h
  · cases h
theorem ok_fnc2 (B : Tb ts) {f : Nat} {x x' : Decl} {i j : Nat} {E E' : List Exp} {S S' : List Stmt} (hE : A1 E) (hS : A2 S) (hx : D1 x) (h : fnc2 ts f x i E S = some (x', j, E', S')) : A1 E' ∧ A2 S' ∧ D1 x' := by
  unfold fnc2 at h
  split at h
  · split at h
    · split at h
      · exact ok_fnc3 B hE hS (by exact ⟨hx.name, B.tx _, hx.params, hx.n0, hx.n1, hx.c0, hx.c1, hx.r0, hx.r1⟩) h
      · cases h
    · exact ok_fnc3 B hE hS hx h
  · cases h
theorem ok_pl (B : Tb ts) : ∀ (f i : Nat) (l l' : List By) (j : Nat), (∀ s ∈ l, s.length ≤ 140737488355328) → l.length ≤ i → pl ts f i l = some (l', j) → (∀ s ∈ l', s.length ≤ 140737488355328) ∧ l'.length ≤ j
  | 0, _, _, _, _, _, _, h => by simp [pl] at h
  | f + 1, i, l, l', j, hl, hi, h => by
    rw [pl] at h
    split at h
    · split at h
      · refine ok_pl B f _ _ _ _ (fun s hs => ?_) (by simp; omega) h
        rcases List.mem_append.1 hs with hs | hs
        · exact hl s hs
        · obtain rfl : s = (tk ts (i + 1)).text := by simpa using hs
          exact B.tx _
      · cases h
    · injection h with h; injection h with h1 h; subst h1 h
      exact ⟨hl, hi⟩
theorem ok_prm (B : Tb ts) {i j : Nat} {l : List By} (h : prm ts i = some (l, j)) : (∀ s ∈ l, s.length ≤ 140737488355328) ∧ l.length ≤ j := by
  unfold prm at h
  split at h
  · injection h with h; injection h with h1 h; subst h1 h
    exact ⟨fun s hs => by simp at hs, by simp⟩
  · split at h
    · exact ok_pl B _ _ _ _ _ (fun s hs => by obtain rfl : s = (tk ts i).text := by simpa using hs
                                              exact B.tx _) (by simp) h
    · cases h
theorem ok_dcl (B : Tb ts) (K : Good ts) {f : Nat} {x' : Decl} {i j : Nat} {E E' : List Exp} {S S' : List Stmt} (hE : A1 E) (hS : A2 S) (h : dcl ts f i E S = some (x', j, E', S')) : A1 E' ∧ A2 S' ∧ D1 x' := by
  have hdl := dcl_len K h
  have hk4 := K.len
  have hn2 : ∀ {x : Decl} {i : Nat}, D1 x → nmb2 ts x i E S = some (x', j, E', S') → A1 E' ∧ A2 S' ∧ D1 x' := by
    intro x i hx h
    unfold nmb2 at h
    split at h
    · split at h
      · split at h
        · injection h with h; injection h with h0 h; injection h with h h'; injection h' with h' h''; subst h0 h' h''
          exact ⟨hE, hS, hx.name, B.tx _, hx.params, hx.n0, hx.n1, hx.c0, hx.c1, hx.r0, hx.r1⟩
        · cases h
      · cases h
    · cases h
  have hd2 : ∀ {b : Bool} {i : Nat}, dcl2 ts f b i E S = some (x', j, E', S') → A1 E' ∧ A2 S' ∧ D1 x' := by
    intro b i h
    unfold dcl2 at h
    split at h
    · split at h
      · have h0 : D1 ⟨0, (tk ts (i + 1)).text, b, 0, [], [], 0, 0, []⟩ := ⟨B.tx _, by simp, by simp, by simp, by simp, by simp, by simp, by simp, by simp⟩
        unfold nmb at h
        split at h
        · unfold fnc at h
          split at h
          · split at h
            · split at h
              · have hn := B.nm (i + 2 + 1)
                exact ok_fnc2 B hE hS (by exact ⟨h0.name, h0.by', h0.params, h0.n0, h0.n1, by dsimp only; omega, by dsimp only; omega, h0.r0, h0.r1⟩) h
              · cases h
            · cases h
          · rw [Option.bind_eq_some_iff] at h
            obtain ⟨⟨l, k⟩, hb, h⟩ := h
            obtain ⟨p1, p2⟩ := ok_prm B hb
            have hon := fnc2_on h
            dsimp only at h hon
            exact ok_fnc2 B hE hS (by exact ⟨h0.name, h0.by', p1, h0.n0, h0.n1, by dsimp only; omega, by dsimp only; omega, h0.r0, h0.r1⟩) h
        · split at h
          · split at h
            · split at h
              · split at h
                · cases h
                · split at h
                  · have hn := B.nm (i + 2 + 1)
                    exact hn2 (by exact ⟨h0.name, h0.by', h0.params, by dsimp only; omega, by dsimp only; omega, h0.c0, h0.c1, h0.r0, h0.r1⟩) h
                  · cases h
              · cases h
            · cases h
          · exact hn2 (by exact ⟨h0.name, h0.by', h0.params, h0.n0, h0.n1, h0.c0, h0.c1, h0.r0, h0.r1⟩) h
      · cases h
    · rw [Option.bind_eq_some_iff] at h
      obtain ⟨⟨k, i1⟩, hb, h⟩ := h
      dsimp only at h
      split at h
      · split at h
        · split at h
          · split at h
            · split at h
              · injection h with h; injection h with h0 h; injection h with h h'; injection h' with h' h''; subst h0 h' h''
                have hn := B.nm (i1 + 1)
                exact ⟨hE, hS, B.tx _, by simp, by simp, by dsimp only; omega, by dsimp only; omega, by simp, by simp, by simp, by simp⟩
              · cases h
            · cases h
          · cases h
        · split at h
          · injection h with h; injection h with h0 h; injection h with h h'; injection h' with h' h''; subst h0 h' h''
            exact ⟨hE, hS, B.tx _, by simp, by simp, by simp, by simp, by simp, by simp, by simp, by simp⟩
          · cases h
      · cases h
  unfold dcl at h
  split at h
  · split at h
    · rw [Option.bind_eq_some_iff] at h
      obtain ⟨⟨l, k, E1, S1⟩, hb, h⟩ := h
      obtain ⟨a, b⟩ := (ok_blk B f).1 _ _ _ _ _ _ _ _ hE hS hb
      injection h with h; injection h with h0 h; injection h with h h'; injection h' with h' h''; subst h0 h' h''
      exact ⟨a, b, B.tx _, by simp, by simp, by simp, by simp, by simp, by simp, by simp, by simp⟩
    · cases h
  · split at h
    · exact hd2 h
    · exact hd2 h
theorem ok_dl (B : Tb ts) (K : Good ts) {F : Nat} : ∀ (f i : Nat) (D : List Decl) (E : List Exp) (S : List Stmt) (M : Mod), A1 E → A2 S → (∀ d ∈ D, D1 d) → dl ts F f i D E S = some M → A1 M.exps ∧ A2 M.stmts ∧ ∀ d ∈ M.decls, D1 d
  | 0, _, _, _, _, _, _, _, _, h => by simp [dl] at h
  | f + 1, i, D, E, S, M, hE, hS, hD, h => by
    rw [dl] at h
    split at h
    · injection h with h
      subst h
      exact ⟨hE, hS, hD⟩
    · rw [Option.bind_eq_some_iff] at h
      obtain ⟨⟨x, j, E1, S1⟩, hb, h⟩ := h
      obtain ⟨a, b, c⟩ := ok_dcl B K hE hS hb
      refine ok_dl B K f _ _ _ _ M a b (fun d hd => ?_) h
      rcases List.mem_append.1 hd with hd | hd
      · exact hD d hd
      · obtain rfl : d = x := by simpa using hd
        exact c
end Go.Proofs.YtikknlkdbjaonaaGreatDoor.Y

/- A module that was read has a text, and is read from it again. -/
namespace Go.Proofs.YtikknlkdbjaonaaGreatDoor.Y
open X
set_option linter.unusedVariables false
set_option linter.unusedSimpArgs false
/-- What lex gives of a source. -/
theorem toks_of {l : By} {L : List X.Tok} (h : X.lex l = (L, 0)) : Lx L ∧ Tb L := by
  have hg := good_lex h
  obtain ⟨h20, us, h1, rfl, -⟩ := X.lex_parts h
  have hs := X.self_of _ _ _ _ h1
  have hst := X.std_of h
  have hin : ∀ i, i < us.length → tk (us ++ [⟨0, [], 0, l.length⟩]) i ∈ us := fun i hi => by
    unfold tk
    rw [List.getD_eq_getElem?_getD, List.getElem?_append_left hi, List.getElem?_eq_getElem hi]
    exact List.getElem_mem hi
  have hout : ∀ i, us.length ≤ i → (tk (us ++ [⟨0, [], 0, l.length⟩]) i).text = [] ∧ (tk (us ++ [⟨0, [], 0, l.length⟩]) i).kind = 0 := fun i hi => by
    rcases Nat.lt_or_ge us.length i with h2 | h2
    · rw [tk_out (by simp; omega)]; exact ⟨rfl, rfl⟩
    · obtain rfl : i = us.length := by omega
      unfold tk
      rw [List.getD_eq_getElem?_getD, List.getElem?_append_right (Nat.le_refl _), Nat.sub_self]
      exact ⟨rfl, rfl⟩
  refine ⟨⟨fun i hi => ?_, fun i hi => ?_, fun i hi => ?_⟩, fun i => ?_, hg.num⟩
  · rcases Nat.lt_or_ge i us.length with h2 | h2
    · exact (hs _ (hin i h2)).2.2
    · exact absurd (hout i h2).1 hi
  · rcases Nat.lt_or_ge i us.length with h2 | h2
    · exact absurd hi (hs _ (hin i h2)).1
    · exact (hout i h2).2
  · rcases Nat.lt_or_ge i us.length with h2 | h2
    · exact (hs _ (hin i h2)).2.1
    · exact absurd (hout i h2).1 hi
  · rcases Nat.lt_or_ge i us.length with h2 | h2
    · have : (tk (us ++ [⟨0, [], 0, l.length⟩]) i).at' + (tk (us ++ [⟨0, [], 0, l.length⟩]) i).text.length ≤ l.length := (hst.each i (by simp; omega)).2.1
      omega
    · rw [(hout i h2).1]; simp
theorem lexF_bytes : ∀ (f i : Nat) (l : By) (ts : List X.Tok), lexF f i l = some ts → ((ts.map (·.text)).map List.length).sum ≤ l.length
  | f, i, [], ts, h => by rw [X.lexF_nil] at h; cases h; simp
  | 0, i, c :: l, ts, h => by simp [lexF] at h
  | f + 1, i, c :: l, ts, h => by
    unfold lexF at h
    cases e : X.step (c :: l) with
    | none => rw [e] at h; simp at h
    | some q =>
      obtain ⟨k, n, v⟩ := q
      rw [e] at h
      simp only at h
      obtain ⟨us, h1, h2⟩ := Option.map_eq_some_iff.1 h
      obtain ⟨hn, hm⟩ := X.step_size (by simp) e
      have := lexF_bytes f (i + n) _ us h1
      rw [List.length_drop] at this
      split at h2
      · subst h2; omega
      · subst h2
        simp only [List.map_cons, List.sum_cons]
        rw [List.length_take]
        omega
/-- Texts with a blank ahead of each. -/
def bl (U : List By) : By := U.flatMap fun t => 32 :: t
theorem bl_len (U : List By) : (bl U).length = U.length + (U.map List.length).sum := by
  induction U with
  | nil => rfl
  | cons s U ih =>
    have : bl (s :: U) = 32 :: (s ++ bl U) := by simp [bl]
    rw [this]
    simp only [List.length_cons, List.length_append, List.map_cons, List.sum_cons]
    omega
theorem puts_bl : ∀ (U : List By) (T : By), T ≠ [] → T.length + (bl U).length ≤ 20000 → puts T U = some (T ++ bl U)
  | [], T, _, _ => by simp [puts, bl]
  | s :: U, T, hT, h => by
    have hb : bl (s :: U) = 32 :: (s ++ bl U) := by simp [bl]
    rw [hb] at h ⊢
    simp only [List.length_cons, List.length_append] at h
    show (put1 T s).bind _ = _
    unfold put1
    rw [if_neg (by omega), Option.bind_some, if_neg hT, puts_bl U _ (by simp) (by simp only [List.length_append, List.length_cons]; omega)]
    simp
/-- The token that a text is. -/
def tkOf (t : By) : X.Tok := match X.step t with
  | some (k, _, v) => ⟨k, t, v, 0⟩
  | none => ⟨0, t, 0, 0⟩
def Sf (t : By) : Prop := t ≠ [] ∧ ∃ k v, k ≠ 0 ∧ X.step t = some (k, t.length, v)
theorem Sf.self {t : By} (h : Sf t) : X.Self (tkOf t) ∧ (tkOf t).text = t := by
  obtain ⟨h1, k, v, h2, h3⟩ := h
  unfold tkOf
  rw [h3]
  exact ⟨⟨h1, h2, h3⟩, rfl⟩
theorem lexF_bl : ∀ (U : List By) (i : Nat), (∀ t ∈ U, Sf t) → ∃ us, lexF (bl U).length i (bl U) = some us ∧ us.map (·.text) = U
  | [], i, _ => ⟨[], by show lexF 0 i [] = _; rw [X.lexF_nil], rfl⟩
  | t :: U, i, h => by
    obtain ⟨hs, ht⟩ := (h t (by simp)).self
    obtain ⟨us, h1, h2⟩ := lexF_bl U (i + 1 + t.length) (fun u hu => h u (by simp [hu]))
    have hst : X.step t = some ((tkOf t).kind, t.length, (tkOf t).n) := by have := hs.2.2; rw [ht] at this; exact this
    have hne : t ≠ [] := (h t (by simp)).1
    have hb : bl (t :: U) = 32 :: (t ++ bl U) := by simp [bl]
    have hst2 : X.step (t ++ bl U) = some ((tkOf t).kind, t.length, (tkOf t).n) := by
      cases U with
      | nil => simpa [bl] using hst
      | cons s U =>
        have hb2 : bl (s :: U) = 32 :: (s ++ bl U) := by simp [bl]
        have hn := X.self_note hs
        rw [ht] at hn
        rw [hb2, X.step_sep hne (Or.inr ⟨rfl, hn⟩)]
        exact hst
    refine ⟨⟨(tkOf t).kind, t, (tkOf t).n, i + 1⟩ :: us, ?_, by rw [List.map_cons, h2]⟩
    rw [hb, X.lexF_blank (Or.inr (Or.inl rfl)), X.lexF_step (by simp [hne]), hst2]
    simp only
    rw [List.drop_left, List.take_left, h1]
    simp [hs.2.1]
theorem At_map : ∀ (us vs : List X.Tok) (i : Nat), us.length = us.length → (∀ k, k < us.length → tk vs (i + k) = us.getD k noTok) → At (us.map (·.text)) vs i
  | [], _, _, _, _ => trivial
  | u :: us, vs, i, _, h => by
    refine ⟨?_, At_map us vs (i + 1) rfl fun k hk => ?_⟩
    · have := h 0 (by simp)
      rw [Nat.add_zero] at this
      rw [this]; rfl
    · have := h (k + 1) (by simp; omega)
      rw [show i + 1 + k = i + (k + 1) by omega, this]
      rfl
/-- The text of texts. -/
theorem lex_texts (U : List By) (hU : ∀ t ∈ U, Sf t) (hb : (bl U).length ≤ 20000) (hn : U.length + 1 ≤ 4000) : ∃ T L, puts [] U = some T ∧ T.length ≤ 20000 ∧ X.lex T = (L, 0) ∧ L.length = U.length + 1 ∧ At U L 0 ∧ (tk L U.length).kind = 0 := by
  obtain ⟨us, h1, h2⟩ := lexF_bl U 0 hU
  cases U with
  | nil =>
    refine ⟨[], _, rfl, by simp, X.lex_make (ts := []) (by simp) (by rw [X.lexF_nil]) (by simp), rfl, trivial, rfl⟩
  | cons t U =>
    have hb2 : bl (t :: U) = 32 :: (t ++ bl U) := by simp [bl]
    have hne : t ≠ [] := (hU t (by simp)).1
    rw [hb2] at h1 hb
    simp only [List.length_cons, List.length_append] at hb
    rw [X.lexF_blank (Or.inr (Or.inl rfl))] at h1
    have hsh := X.lexF_shift 1 (t ++ bl U).length 0 (t ++ bl U)
    rw [show 0 + 1 = 1 by rfl] at h1 hsh
    rw [h1] at hsh
    obtain ⟨vs, h3, h4⟩ := Option.map_eq_some_iff.1 hsh.symm
    have htx : vs.map (·.text) = t :: U := by
      rw [← h2, ← h4, List.map_map]
      rfl
    have hlen : vs.length = U.length + 1 := by have := congrArg List.length htx; simpa using this
    have hp : puts [] (t :: U) = some (t ++ bl U) := by
      show (put1 [] t).bind _ = _
      unfold put1
      rw [if_neg (by simp; omega), Option.bind_some, if_pos rfl, puts_bl U t hne (by omega)]
    refine ⟨_, _, hp, by rw [List.length_append]; omega, X.lex_make (by rw [List.length_append]; omega) h3 (by rw [hlen]; simpa using hn), by simp [hlen], ?_, ?_⟩
    · rw [← htx]
      refine At_map vs _ 0 rfl fun k hk => ?_
      unfold tk
      rw [Nat.zero_add, List.getD_eq_getElem?_getD, List.getElem?_append_left hk, ← List.getD_eq_getElem?_getD]
    · unfold tk
      rw [List.length_cons, ← hlen, List.getD_eq_getElem?_getD, List.getElem?_append_right (Nat.le_refl _), Nat.sub_self]
      rfl
/-- What was read has a text, and is read from it again. -/
theorem back_mod {s : By} {M : Mod} {z : Nat} (h : parse s = (some M, z)) (hs : s.length ≤ 4000) : ∃ T, wall M [] = some T ∧ parse T = (some M, 0) ∧ A1 M.exps ∧ A2 M.stmts ∧ (∀ d ∈ M.decls, D1 d) ∧ M.exps.length ≤ 4000 := by
  obtain ⟨-, A, hA, hm⟩ : z = 0 ∧ ∃ A, X.lex s = (A, 0) ∧ modOf A = some M := by
    unfold parse at h
    by_cases e : (X.lex s).2 = 0
    · rw [if_pos e] at h
      cases hm : modOf (X.lex s).1 with
      | none => rw [hm] at h; injection h with h; cases h
      | some K =>
        rw [hm] at h
        injection h with h h2
        injection h with h
        subst h
        exact ⟨h2.symm, _, by rw [← e], hm⟩
    · rw [if_neg e] at h
      injection h with h; cases h
  obtain ⟨G, B⟩ := toks_of hA
  have K := good_lex hA
  obtain ⟨p, hp, hk, hz⟩ := ends_of hA
  obtain ⟨us, hu⟩ : ∃ us, lexF s.length 0 s = some us ∧ A = us ++ [⟨0, [], 0, s.length⟩] := by
    obtain ⟨-, us, h1, h2, -⟩ := X.lex_parts hA
    exact ⟨us, h1, h2⟩
  have hK4 := K.len
  have hup : us.length = p := by have := hp; rw [hu.2, List.length_append] at this; simpa using this
  have htx : txs A 0 p = us.map (·.text) := by
    unfold txs
    rw [hu.2, List.drop_zero, List.take_left' hup]
  obtain ⟨b1, b2, b3⟩ := ok_dl B K _ 0 [] [] [] M (fun e he => by cases he) (fun e he => by cases he) (fun e he => by cases he) hm
  obtain ⟨ds, U, N, P, hM, hf, hN, hw, hr⟩ := bk_dl G K hp hk _ 0 [] [] [] M (Nat.zero_le _) hm
  have hbytes := lexF_bytes _ _ _ _ hu.1
  have hf1 := hf.cnt
  have hf2 := hf.byt
  rw [htx] at hf1 hf2
  rw [List.length_map, hup] at hf1
  have hSf : ∀ t ∈ U, Sf t := fun t ht => by
    rcases hf.tx t ht with h1 | h1
    · rw [htx] at h1
      obtain ⟨x, hx, rfl⟩ := List.mem_map.1 h1
      have := X.self_of _ _ _ _ hu.1 x hx
      exact ⟨this.1, _, _, this.2.1, this.2.2⟩
    · subst h1
      exact ⟨by decide, 3, 0, by decide, by decide⟩
  obtain ⟨T, L, t1, t2, t3, t4, t5, t6⟩ := lex_texts U hSf (by rw [bl_len]; omega) (by omega)
  obtain ⟨G2, -⟩ := toks_of t3
  have hexp : M.exps.length ≤ 4000 := by rw [hM]; dsimp only; rw [List.nil_append]; omega
  have hde : M.decls = ds := by rw [hM]; rfl
  refine ⟨T, ?_, ?_, b1, b2, b3, hexp⟩
  · unfold wall
    rw [if_neg (by omega), hde, hw, t1]
  · unfold parse
    rw [t3, if_pos rfl]
    have hmo : modOf L = some M := by
      unfold modOf
      exact hr L 0 _ _ ⟨G2, t5, by omega⟩ (by rw [Nat.zero_add]; exact t6) (by omega) (by omega)
    rw [hmo]
end Go.Proofs.YtikknlkdbjaonaaGreatDoor.Y
