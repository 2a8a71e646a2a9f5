/- A list of tokens that stands in another one: declarations, and sources one behind the other. -/
import Derived.Test.YtikknlkdbjaonaaGreatDoorPJa
import Derived.Test.YtikknlkdbjaonaaGreatDoorPBAn
import Derived.Test.YtikknlkdbjaonaaGreatDoorPBAw
namespace Go.Proofs.YtikknlkdbjaonaaGreatDoor.Y
open X
set_option linter.unusedVariables false
set_option linter.unusedSimpArgs false
variable {A C : List X.Tok} {o p : Nat}
/-- What was read goes on alike. -/
abbrev JD (r : DR) (o j : Nat) (E E' : List Exp) (S S' : List Stmt) (F : List Exp) (T : List Stmt) : Prop := ∃ x2 F' T', r = some (x2, j + o, F', T') ∧ Gw E E' F F' ∧ T'.length + S.length = T.length + S'.length
theorem fnc3_on {ts : List X.Tok} {f : Nat} {x x' : Decl} {i j : Nat} {E E' : List Exp} {S S' : List Stmt} (h : fnc3 ts f x i E S = some (x', j, E', S')) : i + 3 ≤ j := by
  unfold fnc3 at h
  split at h
  · split at h
    · split at h
      · split at h
        · split at h
          · injection h with h; injection h with _ h; injection h with h _; omega
          · cases h
        · rw [Option.bind_eq_some_iff] at h
          obtain ⟨⟨l, k, E1, S1⟩, hb, h⟩ := h
          have := (blk_on ts _).1 _ _ _ _ _ _ _ _ hb
          injection h with h; injection h with _ h; injection h with h _
          dsimp only at h
          omega
      · cases h
    · cases h
  · cases h
theorem lie_fnc3 (L : Lie A C o p) {f g : Nat} (hf : f ≤ g) {x x' x2 : Decl} (hx : x2.ext = x.ext) {i j : Nat} {E E' : List Exp} {S S' : List Stmt} (F : List Exp) (T : List Stmt) (h : fnc3 A f x i E S = some (x', j, E', S')) (hj : j ≤ p) : JD (fnc3 C g x2 (i + o) F T) o j E E' S S' F T := by
  have hij := fnc3_on h
  unfold fnc3 at h ⊢
  rw [L.tx (k := i) (by omega) rfl, L.kd (k := i + 1) (by omega) (show i + o + 1 = i + 1 + o by omega), L.nm (k := i + 1) (by omega) (show i + o + 1 = i + 1 + o by omega), L.tx (k := i + 2) (by omega) (show i + o + 2 = i + 2 + o by omega), hx]
  split at h
  · rename_i h0
    rw [if_pos h0]
    split at h
    · rename_i h1
      rw [if_pos h1]
      split at h
      · rename_i h2
        rw [if_pos h2]
        split at h
        · rename_i h3
          rw [if_pos h3]
          split at h
          · rename_i h4
            rw [if_pos h4]
            injection h with h; injection h with h0 h; injection h with h h'; injection h' with h' h''; subst h h' h''
            exact ⟨_, _, _, by rw [show i + 3 + o = i + o + 3 by omega], Gw.refl _ _, by omega⟩
          · cases h
        · rename_i h3
          rw [if_neg h3]
          rw [Option.bind_eq_some_iff] at h
          obtain ⟨⟨l, k, E1, S1⟩, hb, h⟩ := h
          injection h with h; injection h with h0 h; injection h with h h'; injection h' with h' h''; subst h h' h''
          dsimp only at hj
          obtain ⟨l2, F2, T2, e2, hg2, ht2⟩ := (lie_blk L f g hf).1 _ _ _ _ _ _ _ _ F T hb hj
          rw [show i + o + 2 = i + 2 + o by omega, e2, Option.bind_some]
          exact ⟨_, _, _, rfl, hg2, ht2⟩
      · cases h
    · cases h
  · cases h
theorem fnc2_on {ts : List X.Tok} {f : Nat} {x x' : Decl} {i j : Nat} {E E' : List Exp} {S S' : List Stmt} (h : fnc2 ts f x i E S = some (x', j, E', S')) : i + 4 ≤ j := by
  unfold fnc2 at h
  split at h
  · split at h
    · split at h
      · have := fnc3_on h; omega
      · cases h
    · have := fnc3_on h; omega
  · cases h
theorem lie_fnc2 (L : Lie A C o p) {f g : Nat} (hf : f ≤ g) {x x' x2 : Decl} (hx : x2.ext = x.ext) {i j : Nat} {E E' : List Exp} {S S' : List Stmt} (F : List Exp) (T : List Stmt) (h : fnc2 A f x i E S = some (x', j, E', S')) (hj : j ≤ p) : JD (fnc2 C g x2 (i + o) F T) o j E E' S S' F T := by
  have hij := fnc2_on h
  unfold fnc2 at h ⊢
  rw [L.tx (k := i) (by omega) rfl, L.tx (k := i + 1) (by omega) (show i + o + 1 = i + 1 + o by omega), L.kd (k := i + 2) (by omega) (show i + o + 2 = i + 2 + o by omega)]
  split at h
  · rename_i h0
    rw [if_pos h0]
    split at h
    · rename_i h1
      rw [if_pos h1]
      split at h
      · rename_i h2
        rw [if_pos h2, show i + o + 3 = i + 3 + o by omega]
        refine lie_fnc3 L hf ?_ F T h hj
        exact hx
      · cases h
    · rename_i h1
      rw [if_neg h1, show i + o + 1 = i + 1 + o by omega]
      exact lie_fnc3 L hf hx F T h hj
  · cases h
theorem pl_on {ts : List X.Tok} : ∀ (f i : Nat) (l l' : List By) (j : Nat), pl ts f i l = some (l', j) → i ≤ j
  | 0, _, _, _, _, h => by simp [pl] at h
  | f + 1, i, l, l', j, h => by
    rw [pl] at h
    split at h
    · split at h
      · have := pl_on f _ _ _ _ h; omega
      · cases h
    · injection h with h; injection h with _ h; omega
theorem lie_pl (L : Lie A C o p) : ∀ (f g i : Nat) (l l' l2 : List By) (j : Nat), f ≤ g → pl A f i l = some (l', j) → j < p → ∃ l3, pl C g (i + o) l2 = some (l3, j + o)
  | 0, _, _, _, _, _, _, _, h, _ => by simp [pl] at h
  | f + 1, 0, _, _, _, _, _, h, _, _ => by omega
  | f + 1, g + 1, i, l, l', l2, j, hf, h, hj => by
    have hij := pl_on _ _ _ _ _ h
    rw [pl] at h ⊢
    rw [L.tx (k := i) (by omega) rfl]
    split at h
    · rename_i h0
      rw [if_pos h0]
      split at h
      · rename_i h1
        have hij := pl_on _ _ _ _ _ h
        rw [if_pos (by rw [L.kd (k := i + 1) (by omega) (by omega)]; exact h1), show i + o + 2 = i + 2 + o by omega]
        exact lie_pl L f g _ _ _ _ _ (by omega) h hj
      · cases h
    · rename_i h0
      rw [if_neg h0]
      injection h with h; injection h with h0 h; subst h
      exact ⟨_, rfl⟩
theorem prm_on {ts : List X.Tok} {i j : Nat} {l : List By} (h : prm ts i = some (l, j)) : i ≤ j := by
  unfold prm at h
  split at h
  · injection h with h; injection h with _ h; omega
  · split at h
    · have := pl_on _ _ _ _ _ h; omega
    · cases h
theorem lie_prm (L : Lie A C o p) {i j : Nat} {l : List By} (h : prm A i = some (l, j)) (hj : j < p) : ∃ l3, prm C (i + o) = some (l3, j + o) := by
  have hij := prm_on h
  unfold prm at h ⊢
  rw [L.tx (k := i) (by omega) rfl, L.kd (k := i) (by omega) rfl]
  split at h
  · rename_i h0
    rw [if_pos h0]
    injection h with h; injection h with h0 h; subst h
    exact ⟨_, rfl⟩
  · rename_i h0
    rw [if_neg h0]
    split at h
    · rename_i h1
      rw [if_pos h1, show i + o + 1 = i + 1 + o by omega]
      exact lie_pl L _ _ _ _ _ _ _ (by have := L.len; omega) h hj
    · cases h
theorem lie_fnc (L : Lie A C o p) {f g : Nat} (hf : f ≤ g) {x x' x2 : Decl} (hx : x2.ext = x.ext) {i j : Nat} {E E' : List Exp} {S S' : List Stmt} (F : List Exp) (T : List Stmt) (h : fnc A f x i E S = some (x', j, E', S')) (hj : j ≤ p) : JD (fnc C g x2 (i + o) F T) o j E E' S S' F T := by
  unfold fnc at h ⊢
  rw [hx]
  split at h
  · rename_i h0
    rw [if_pos h0]
    split at h
    · rename_i h1
      split at h
      · rename_i h2
        have hij := fnc2_on h
        rw [if_pos (by rw [L.kd (k := i) (by omega) rfl]; exact h1), if_pos (by rw [L.nm (k := i) (by omega) rfl]; exact h2), show i + o + 1 = i + 1 + o by omega]
        refine lie_fnc2 L hf ?_ F T h hj
        rfl
      · cases h
    · cases h
  · rename_i h0
    rw [if_neg h0]
    rw [Option.bind_eq_some_iff] at h
    obtain ⟨⟨l, k⟩, hb, h⟩ := h
    have hij := fnc2_on h
    dsimp only at h hij
    obtain ⟨l3, e⟩ := lie_prm L hb (by omega)
    rw [e, Option.bind_some]
    dsimp only
    refine lie_fnc2 L hf ?_ F T h hj
    rfl
theorem lie_nmb2 (L : Lie A C o p) {x x' x2 : Decl} {i j : Nat} {E E' : List Exp} {S S' : List Stmt} (F : List Exp) (T : List Stmt) (h : nmb2 A x i E S = some (x', j, E', S')) (hj : j ≤ p) : JD (nmb2 C x2 (i + o) F T) o j E E' S S' F T ∧ j = i + 3 := by
  unfold nmb2 at h ⊢
  split at h
  · rename_i h0
    split at h
    · rename_i h1
      split at h
      · rename_i h2
        injection h with h; injection h with h0 h; injection h with h h'; injection h' with h' h''; subst h h' h''
        rw [if_pos (by rw [L.tx (k := i) (by omega) rfl]; assumption), if_pos (by rw [L.kd (k := i + 1) (by omega) (by omega)]; exact h1), if_pos (by rw [L.tx (k := i + 2) (by omega) (by omega)]; exact h2)]
        exact ⟨⟨_, _, _, by rw [show i + 3 + o = i + o + 3 by omega], Gw.refl _ _, by omega⟩, rfl⟩
      · cases h
    · cases h
  · cases h
theorem lie_nmb (L : Lie A C o p) {f g : Nat} (hf : f ≤ g) {x x' x2 : Decl} (hx : x2.ext = x.ext) {i j : Nat} {E E' : List Exp} {S S' : List Stmt} (F : List Exp) (T : List Stmt) (h : nmb A f x i E S = some (x', j, E', S')) (hij : i + 1 < j) (hj : j ≤ p) : JD (nmb C g x2 (i + o) F T) o j E E' S S' F T := by
  unfold nmb at h ⊢
  rw [L.tx (k := i) (by omega) rfl]
  split at h
  · rename_i h0
    rw [if_pos h0, show i + o + 1 = i + 1 + o by omega]
    refine lie_fnc L hf ?_ F T h hj
    exact hx
  · rename_i h0
    rw [if_neg h0]
    split at h
    · rename_i h1
      rw [if_pos h1]
      split at h
      · rename_i h2
        split at h
        · rename_i h3
          split at h
          · cases h
          · rename_i h4
            split at h
            · rename_i h5
              have hn := (lie_nmb2 (x2 := { x2 with kind := 4, n := ((tk C (i + o + 1)).n : Int) }) L F T h hj)
              have e1 := hn.2
              rw [if_pos (by rw [L.kd (k := i + 1) (by omega) (by omega)]; exact h2), if_pos (by rw [L.nm (k := i + 1) (by omega) (by omega)]; exact h3), if_neg (by rw [L.nm (k := i + 1) (by omega) (by omega)]; exact h4), if_pos (by rw [L.tx (k := i + 2) (by omega) (by omega)]; exact h5), show i + o + 3 = i + 3 + o by omega]
              exact hn.1
            · cases h
        · cases h
      · cases h
    · rename_i h1
      rw [if_neg h1]
      exact (lie_nmb2 L F T h hj).1
theorem obj_on {ts : List X.Tok} {b : Bool} {i j : Nat} {k : Int} (h : obj ts b i = some (k, j)) : j = i + 1 := by
  unfold obj at h
  split at h
  · injection h with h; injection h with _ h; omega
  · split at h
    · split at h <;> (injection h with h; injection h with _ h; omega)
    · split at h
      · injection h with h; injection h with _ h; omega
      · cases h
theorem lie_obj (L : Lie A C o p) {b : Bool} {i j : Nat} {k : Int} (h : obj A b i = some (k, j)) (hj : j ≤ p) : obj C b (i + o) = some (k, j + o) := by
  have hij := obj_on h
  unfold obj at h ⊢
  rw [L.tx (k := i) (by omega) rfl]
  subst hij
  rw [show i + 1 + o = i + o + 1 by omega]
  split at h
  · rename_i h0
    rw [if_pos h0]
    injection h with h; injection h with h _; subst h; rfl
  · rename_i h0
    rw [if_neg h0]
    split at h
    · rename_i h1
      rw [if_pos h1]
      split at h
      · rename_i h2
        rw [if_pos h2]
        injection h with h; injection h with h _; subst h; rfl
      · rename_i h2
        rw [if_neg h2]
        injection h with h; injection h with h _; subst h; rfl
    · rename_i h1
      rw [if_neg h1]
      split at h
      · rename_i h2
        rw [if_pos h2]
        injection h with h; injection h with h _; subst h; rfl
      · cases h
theorem nmb_on {ts : List X.Tok} {f : Nat} {x x' : Decl} {i j : Nat} {E E' : List Exp} {S S' : List Stmt} (h : nmb ts f x i E S = some (x', j, E', S')) : i + 2 ≤ j := by
  have hn2 : ∀ {x : Decl} {i : Nat}, nmb2 ts x i E S = some (x', j, E', S') → i + 3 ≤ j := by
    intro x i h
    unfold nmb2 at h
    split at h
    · split at h
      · split at h
        · injection h with h; injection h with _ h; injection h with h _; omega
        · cases h
      · cases h
    · cases h
  unfold nmb at h
  split at h
  · unfold fnc at h
    split at h
    · split at h
      · split at h
        · have := fnc2_on h; omega
        · cases h
      · cases h
    · rw [Option.bind_eq_some_iff] at h
      obtain ⟨⟨l, k⟩, hb, h⟩ := h
      have := prm_on hb
      have := fnc2_on h
      dsimp only at this
      omega
  · split at h
    · split at h
      · split at h
        · split at h
          · cases h
          · split at h
            · have := hn2 h; omega
            · cases h
        · cases h
      · cases h
    · have := hn2 h; omega
theorem dcl2_on {ts : List X.Tok} {f : Nat} {b : Bool} {x' : Decl} {i j : Nat} {E E' : List Exp} {S S' : List Stmt} (h : dcl2 ts f b i E S = some (x', j, E', S')) : i + 3 ≤ j := by
  unfold dcl2 at h
  split at h
  · split at h
    · have := nmb_on h; omega
    · cases h
  · rw [Option.bind_eq_some_iff] at h
    obtain ⟨⟨k, i1⟩, hb, h⟩ := h
    have := obj_on hb
    dsimp only at h
    split at h
    · split at h
      · split at h
        · split at h
          · split at h
            · injection h with h; injection h with _ h; injection h with h _; omega
            · cases h
          · cases h
        · cases h
      · split at h
        · injection h with h; injection h with _ h; injection h with h _; omega
        · cases h
    · cases h
theorem lie_dcl2 (L : Lie A C o p) {f g : Nat} (hf : f ≤ g) {b : Bool} {x' : Decl} {i j : Nat} {E E' : List Exp} {S S' : List Stmt} (F : List Exp) (T : List Stmt) (h : dcl2 A f b i E S = some (x', j, E', S')) (hj : j ≤ p) : JD (dcl2 C g b (i + o) F T) o j E E' S S' F T := by
  have hij := dcl2_on h
  unfold dcl2 at h ⊢
  rw [L.tx (k := i) (by omega) rfl, L.kd (k := i + 1) (by omega) (show i + o + 1 = i + 1 + o by omega)]
  split at h
  · rename_i h0
    rw [if_pos h0]
    split at h
    · rename_i h1
      rw [if_pos h1, show i + o + 2 = i + 2 + o by omega]
      have hn := nmb_on h
      refine lie_nmb L hf ?_ F T h (by omega) hj
      rfl
    · cases h
  · rename_i h0
    rw [if_neg h0]
    rw [Option.bind_eq_some_iff] at h
    obtain ⟨⟨k, i1⟩, hb, h⟩ := h
    have hi1 := obj_on hb
    subst hi1
    dsimp only at h
    rw [lie_obj L hb (by omega), Option.bind_some]
    dsimp only
    split at h
    · rename_i h1
      rw [if_pos (by rw [L.kd (k := i + 1) (by omega) (by omega)]; exact h1)]
      split at h
      · rename_i h2
        rw [if_pos h2]
        split at h
        · rename_i h3
          split at h
          · rename_i h4
            split at h
            · rename_i h5
              injection h with h; injection h with h0 h; injection h with h h'; injection h' with h' h''; subst h h' h''
              rw [if_pos (by rw [L.kd (k := i + 1 + 1) (by omega) (by omega)]; exact h3), if_pos (by rw [L.nm (k := i + 1 + 1) (by omega) (by omega)]; exact h4), if_pos (by rw [L.tx (k := i + 1 + 2) (by omega) (by omega)]; exact h5)]
              exact ⟨_, _, _, by rw [show i + 1 + 3 + o = i + 1 + o + 3 by omega], Gw.refl _ _, by omega⟩
            · cases h
          · cases h
        · cases h
      · rename_i h2
        rw [if_neg h2]
        split at h
        · rename_i h3
          injection h with h; injection h with h0 h; injection h with h h'; injection h' with h' h''; subst h h' h''
          rw [if_pos (by rw [L.tx (k := i + 1 + 1) (by omega) (by omega)]; exact h3)]
          exact ⟨_, _, _, by rw [show i + 1 + 2 + o = i + 1 + o + 2 by omega], Gw.refl _ _, by omega⟩
        · cases h
    · cases h
theorem dcl_on {ts : List X.Tok} {f : Nat} {x' : Decl} {i j : Nat} {E E' : List Exp} {S S' : List Stmt} (h : dcl ts f i E S = some (x', j, E', S')) : i + 3 ≤ j := by
  unfold dcl at h
  split at h
  · split at h
    · rw [Option.bind_eq_some_iff] at h
      obtain ⟨⟨l, k, E1, S1⟩, hb, h⟩ := h
      have := (blk_on ts _).1 _ _ _ _ _ _ _ _ hb
      injection h with h; injection h with _ h; injection h with h _
      dsimp only at h
      omega
    · cases h
  · split at h
    · have := dcl2_on h; omega
    · exact dcl2_on h
theorem lie_dcl (L : Lie A C o p) {f g : Nat} (hf : f ≤ g) {x' : Decl} {i j : Nat} {E E' : List Exp} {S S' : List Stmt} (F : List Exp) (T : List Stmt) (h : dcl A f i E S = some (x', j, E', S')) (hj : j ≤ p) : JD (dcl C g (i + o) F T) o j E E' S S' F T := by
  have hij := dcl_on h
  unfold dcl at h ⊢
  rw [L.tx (k := i) (by omega) rfl, L.kd (k := i + 1) (by omega) (show i + o + 1 = i + 1 + o by omega)]
  split at h
  · rename_i h0
    rw [if_pos h0]
    split at h
    · rename_i h1
      rw [if_pos h1]
      rw [Option.bind_eq_some_iff] at h
      obtain ⟨⟨l, k, E1, S1⟩, hb, h⟩ := h
      injection h with h; injection h with h0 h; injection h with h h'; injection h' with h' h''; subst h h' h''
      dsimp only at hj
      obtain ⟨l2, F2, T2, e2, hg2, ht2⟩ := (lie_blk L f g hf).1 _ _ _ _ _ _ _ _ F T hb hj
      rw [show i + o + 2 = i + 2 + o by omega, e2, Option.bind_some]
      exact ⟨_, _, _, rfl, hg2, ht2⟩
    · cases h
  · rename_i h0
    rw [if_neg h0]
    split at h
    · rename_i h1
      rw [if_pos h1, show i + o + 1 = i + 1 + o by omega]
      exact lie_dcl2 L hf F T h hj
    · rename_i h1
      rw [if_neg h1]
      exact lie_dcl2 L hf F T h hj
/-- How much fuel there is tells nothing. -/
theorem dl_fuel (ts : List X.Tok) (F : Nat) : ∀ (f g i : Nat) (D : List Decl) (E : List Exp) (S : List Stmt), ts.length + 1 ≤ f + i → ts.length + 1 ≤ g + i → 1 ≤ f → 1 ≤ g → dl ts F f i D E S = dl ts F g i D E S
  | 0, _, _, _, _, _, _, _, h, _ => by omega
  | _, 0, _, _, _, _, _, _, _, h => by omega
  | f + 1, g + 1, i, D, E, S, h1, h2, _, _ => by
    rw [dl, dl]
    by_cases h0 : (tk ts i).kind = 0
    · rw [if_pos h0, if_pos h0]
    · rw [if_neg h0, if_neg h0]
      have hi := in_of_kind h0
      cases hd : dcl ts F i E S with
      | none => rfl
      | some q =>
        obtain ⟨x, j, E', S'⟩ := q
        have := dcl_on hd
        rw [Option.bind_some, Option.bind_some]
        exact dl_fuel ts F f g _ _ _ _ (by dsimp only; omega) (by dsimp only; omega) (by omega) (by omega)
/-- All declarations that stand ahead of the end. -/
theorem lie_dl (L : Lie A C o p) (G : Good A) (hA : A.length = p + 1) (hp : ∀ i, i < p → (tk A i).kind ≠ 0) (h0 : (tk A p).kind = 0) {fA fC : Nat} (hf : fA ≤ fC) : ∀ (f i : Nat) (D : List Decl) (E : List Exp) (S : List Stmt) (M : Mod) (g : Nat) (D2 : List Decl) (F : List Exp) (T : List Stmt), i ≤ p → C.length + 1 ≤ g + (i + o) → 1 ≤ g → dl A fA f i D E S = some M → ∃ g' D' F' T', dl C fC g (i + o) D2 F T = dl C fC g' (p + o) D' F' T' ∧ C.length + 1 ≤ g' + (p + o) ∧ 1 ≤ g' ∧ Gw E M.exps F F' ∧ D'.length + D.length = D2.length + M.decls.length ∧ T'.length + S.length = T.length + M.stmts.length
  | 0, _, _, _, _, _, _, _, _, _, _, _, _, h => by simp [dl] at h
  | f + 1, i, D, E, S, M, 0, D2, F, T, _, _, h, _ => by omega
  | f + 1, i, D, E, S, M, g + 1, D2, F, T, hi, hg, _, h => by
    rw [dl] at h
    by_cases he : i = p
    · subst he
      rw [if_pos h0] at h
      injection h with h
      subst h
      exact ⟨g + 1, D2, F, T, rfl, hg, by omega, Gw.refl _ _, by simp only [Nat.add_comm], by simp only [Nat.add_comm]⟩
    · rw [if_neg (hp i (by omega))] at h
      rw [Option.bind_eq_some_iff] at h
      obtain ⟨⟨x, j, E1, S1⟩, hb, h⟩ := h
      dsimp only at h
      have hon := dcl_on hb
      have hlen := dcl_len G hb
      have hjp : j ≤ p := by omega
      obtain ⟨x2, F1, T1, e1, hg1, ht1⟩ := lie_dcl L hf F T hb hjp
      rw [dl, if_neg (by rw [L.kd (k := i) (by omega) rfl]; exact hp i (by omega)), e1, Option.bind_some]
      dsimp only
      obtain ⟨g', D', F', T', e2, a1, a2, a3, a4, a5⟩ := lie_dl L G hA hp h0 hf f j _ E1 S1 M g (D2 ++ [x2]) F1 T1 hjp (by omega) (by
        have := L.kd (k := i) (by omega) rfl
        have hk := in_of_kind (ts := C) (i := i + o) (by rw [this]; exact hp i (by omega))
        rcases Nat.eq_zero_or_pos g with hz | hz
        · exfalso; subst hz; omega
        · exact hz) h
      rw [List.length_append, List.length_append] at a4
      simp only [List.length_cons, List.length_nil] at a4
      exact ⟨g', D', F', T', e2, a1, a2, hg1.trans a3, by omega, by omega⟩
theorem lexF_count : ∀ (f i : Nat) (l : By) (ts : List X.Tok), lexF f i l = some ts → ts.length ≤ l.length
  | f, i, [], ts, h => by rw [X.lexF_nil] at h; cases h; simp
  | 0, i, c :: l, ts, h => by simp [lexF] at h
  | f + 1, i, c :: l, ts, h => by
    unfold lexF at h
    cases e : X.step (c :: l) with
    | none => rw [e] at h; simp at h
    | some q =>
      obtain ⟨k, n, v⟩ := q
      rw [e] at h
      simp only at h
      obtain ⟨us, h1, h2⟩ := Option.map_eq_some_iff.1 h
      obtain ⟨hn, hm⟩ := X.step_size (by simp) e
      have := lexF_count f (i + n) _ us h1
      rw [List.length_drop] at this
      split at h2
      · subst h2; omega
      · subst h2; simp only [List.length_cons] at *; omega
theorem lex_count {l : By} {L : List X.Tok} (h : X.lex l = (L, 0)) : L.length ≤ l.length + 1 := by
  obtain ⟨-, ts, h1, rfl, -⟩ := X.lex_parts h
  have := lexF_count _ _ _ _ h1
  rw [List.length_append]
  simp only [List.length_cons, List.length_nil]
  omega
theorem ends_of {l : By} {L : List X.Tok} (h : X.lex l = (L, 0)) : ∃ p, L.length = p + 1 ∧ (∀ i, i < p → (tk L i).kind ≠ 0) ∧ (tk L p).kind = 0 := by
  have hs := X.std_of h
  have hn := hs.ne
  refine ⟨L.length - 1, by omega, fun i hi => ?_, ?_⟩
  · intro e
    exact absurd ((hs.each i (by omega)).2.2.2.1 e) (by omega)
  · exact (hs.each (L.length - 1) (by omega)).2.2.2.2 rfl
theorem joined_mod {s t : By} {A B : List X.Tok} {M N : Mod} (hs : X.lex s = (A, 0)) (ht : X.lex t = (B, 0)) (h1 : s.length ≤ 1500) (h2 : t.length ≤ 1500) (hM : modOf A = some M) (hN : modOf B = some N) : ∃ K N2, parse (s ++ 10 :: t) = (some K, 0) ∧ K.decls.length = M.decls.length + N.decls.length ∧ K.stmts.length = M.stmts.length + N.stmts.length ∧ K.exps = M.exps ++ N2 ∧ N2.length = N.exps.length := by
  have cA := lex_count hs
  have cB := lex_count ht
  have hj := X.lex_joined hs ht (by omega) (by omega) (by omega) (by omega)
  obtain ⟨p, pA, kA, eA⟩ := ends_of hs
  obtain ⟨q, pB, kB, eB⟩ := ends_of ht
  have gA := good_lex hs
  have gB := good_lex ht
  unfold parse
  rw [hj, if_pos rfl]
  obtain ⟨C, hC⟩ : ∃ C, A.take (A.length - 1) ++ B.map (X.shift (s.length + 1)) = C := ⟨_, rfl⟩
  rw [hC]
  have hlen : C.length = p + (q + 1) := by rw [← hC, List.length_append, List.length_take, List.length_map]; omega
  have htl : (A.take (A.length - 1)).length = p := by rw [List.length_take]; omega
  have cl : ∀ k, k < p → tk C k = tk A k := fun k hk => by
    unfold tk
    rw [← hC, List.getD_eq_getElem?_getD, List.getElem?_append_left (by omega), List.getElem?_take, if_pos (by omega), ← List.getD_eq_getElem?_getD]
  have cr : ∀ k, k < q + 1 → tk C (k + p) = X.shift (s.length + 1) (tk B k) := fun k hk => by
    unfold tk
    rw [← hC, List.getD_eq_getElem?_getD, List.getElem?_append_right (by omega), htl, show k + p - p = k by omega, List.getElem?_map, List.getD_eq_getElem?_getD, List.getElem?_eq_getElem (by omega)]
    rfl
  have LA : Lie A C 0 p := ⟨by omega, fun hk e => by rw [e, Nat.add_zero, cl _ hk], fun hk e => by rw [e, Nat.add_zero, cl _ hk], fun hk e => by rw [e, Nat.add_zero, cl _ hk]⟩
  have LB : Lie B C p q := ⟨by omega, fun hk e => by subst e; rw [cr _ (by omega)]; rfl, fun hk e => by subst e; rw [cr _ (by omega)]; rfl, fun hk e => by subst e; rw [cr _ (by omega)]; rfl⟩
  obtain ⟨g1, D1, E1, S1, e1, a1, a2, a3, a4, a5⟩ := lie_dl LA gA pA kA eA (show 3 * A.length + 4 ≤ 3 * C.length + 4 by omega) _ 0 [] [] [] M (C.length + 1) [] [] [] (by omega) (by omega) (by omega) hM
  obtain ⟨g2, D2, E2, S2, e2, b1, b2, b3, b4, b5⟩ := lie_dl LB gB pB kB eB (show 3 * B.length + 4 ≤ 3 * C.length + 4 by omega) _ 0 [] [] [] N g1 D1 E1 S1 (by omega) (by omega) a2 hN
  have hend : (tk C (q + p)).kind = 0 := by rw [cr q (by omega)]; exact eB
  have hK : modOf C = some ⟨D2, S2, E2⟩ := by
    unfold modOf
    rw [show (0 : Nat) = 0 + 0 from rfl, e1, show p + 0 = 0 + p by omega, e2]
    obtain ⟨g2, rfl⟩ : ∃ g, g2 = g + 1 := ⟨g2 - 1, by omega⟩
    rw [dl, if_pos hend]
  rw [hK]
  obtain ⟨U, V, u1, u2, u3, u4⟩ := a3
  obtain ⟨U2, V2, v1, v2, v3, v4⟩ := b3
  have hUV := u4 rfl
  simp only [List.nil_append] at u1 u2 v1
  refine ⟨_, V2, rfl, ?_, ?_, ?_, ?_⟩
  · dsimp only; simp only [List.length_nil] at a4 b4; omega
  · dsimp only; simp only [List.length_nil] at a5 b5; omega
  · dsimp only; rw [v2, u2, ← hUV, u1]
  · rw [v1]; omega
end Go.Proofs.YtikknlkdbjaonaaGreatDoor.Y

/- The walk of ParseJoined. -/
namespace Go.Proofs.YtikknlkdbjaonaaGreatDoor.Y
open Go.RowKit Go.Maps Go.Lib
set_option linter.unusedVariables false
set_option linter.unusedSimpArgs false
theorem app_list' (a b : ByteArray) : (a ++ b).data.toList = a.data.toList ++ b.data.toList := by
  rw [ByteArray.data_append, Array.toList_append]
theorem WT.bel {w y : World} (h : WT w) (hb : Below w.heap.size w y) : WT y := ⟨h.1.below (hb.mono h.1.hz), pw_below h.2 hb h.1.hz⟩
theorem eqSelfE (k l r n : Int) (s t : ByteArray) (w : World) : (Op.equalIn 10000 32 (.agg #[.int .i64 k, .string s, .string t, .int .i64 n, .int .i64 l, .int .i64 r]) (.agg #[.int .i64 k, .string s, .string t, .int .i64 n, .int .i64 l, .int .i64 r])).run Tryz.prog w = .ok true w := by
  go_simp
/-- What a module is good for that was read. -/
theorem parse_parts {l : By} {M : Mod} {z : Nat} (h : parse l = (some M, z)) : z = 0 ∧ ∃ A, X.lex l = (A, 0) ∧ modOf A = some M := by
  unfold parse at h
  by_cases e : (X.lex l).2 = 0
  · rw [if_pos e] at h
    cases hm : modOf (X.lex l).1 with
    | none => rw [hm] at h; injection h with h; cases h
    | some K =>
      rw [hm] at h
      injection h with h h2
      injection h with h
      subst h
      exact ⟨h2.symm, _, by rw [← e], hm⟩
  · rw [if_neg e] at h
    injection h with h; cases h
/-- What Parse hands back, whatever the source. -/
structure PF (w y : World) (r : Option Mod × Nat) (ad : Option Addr) (nd cd : Nat) (as' : Option Addr) (ns cs : Nat) (ae : Option Addr) (ne ce : Nat) : Prop where
  bel : Below w.heap.size w y
  mod : ∀ M, r.1 = some M → ∃ DX XS, MD w.heap.size y (.slice ad nd cd) (.slice as' ns cs) (.slice ae ne ce) M DX XS ∧ nd = M.decls.length ∧ ns = M.stmts.length ∧ ne = M.exps.length
  non : r.1 = none → nd = 0 ∧ ns = 0 ∧ ne = 0
theorem PSOut.form {w y : World} {r : Option Mod × Nat} {e : Ending} (hr : r.1.isSome = true → r.2 = 0) (h : PSOut w r e y) : ∃ ad nd cd as' ns cs ae ne ce, e = .returned (.tuple #[.agg #[.slice ad nd cd, .slice as' ns cs, .slice ae ne ce], .int .i64 (r.2 : Int)]) ∧ PF w y r ad nd cd as' ns cs ae ne ce := by
  obtain ⟨hb, h⟩ := h
  obtain ⟨q, z⟩ := r
  cases q with
  | none => exact ⟨none, 0, 0, none, 0, 0, none, 0, 0, h, ⟨hb, fun M e => (by cases e), fun _ => ⟨rfl, rfl, rfl⟩⟩⟩
  | some M =>
    obtain ⟨vd, vs, ve, DX, XS, h1, hm⟩ := h
    obtain rfl : z = 0 := hr rfl
    obtain ⟨ad, cd, e1⟩ := row_form hm.rd
    obtain ⟨as', cs, e2⟩ := row_form hm.rs
    obtain ⟨ae, ce, e3⟩ := row_form hm.re
    refine ⟨ad, _, cd, as', _, cs, ae, _, ce, (by rw [h1, e1, e2, e3]; rfl), ⟨hb, fun K e => ?_, fun e => (by cases e)⟩⟩
    injection e with e
    subst e
    refine ⟨DX, XS, ?_, by rw [← hm.hd, List.length_map], by rw [← hm.hs, List.length_map], rfl⟩
    rw [← e1, ← e2, ← e3]
    exact hm
theorem parse_zero (l : By) : (parse l).1.isSome = true → (parse l).2 = 0 := by
  unfold parse
  split
  · split
    · intro h; cases h
    · intro _; rfl
  · intro h; cases h
theorem parse_some {l : By} (h : (parse l).2 = 0) : ∃ M, parse l = (some M, 0) := by
  cases hm : (parse l).1 with
  | none => exact absurd (by rw [h]; rfl) (parse_code hm)
  | some M => exact ⟨M, by rw [← h, ← hm]⟩
/-- The cells of a row of expressions. -/
theorem exp_at {B : Nat} {w : World} {ae : Option Addr} {ne ce : Nat} {E : List Exp} (h : w.ownsRow B 32 6 (.slice ae ne ce) E.length (E.flatMap expC)) (hn : ne = E.length) {j : Nat} (hj : j < E.length) : ∃ g, ae = some ⟨g, 0, none⟩ ∧ w.cell? ⟨g, j * 6, none⟩ = some (.int .i64 (E.getD j noE).kind) ∧ w.cell? ⟨g, j * 6 + 1, none⟩ = some (.string (X.str (E.getD j noE).op)) ∧ w.cell? ⟨g, j * 6 + 2, none⟩ = some (.string (X.str (E.getD j noE).name)) ∧ w.cell? ⟨g, j * 6 + 3, none⟩ = some (.int .i64 (E.getD j noE).n) ∧ w.cell? ⟨g, j * 6 + 4, none⟩ = some (.int .i64 (E.getD j noE).l) ∧ w.cell? ⟨g, j * 6 + 5, none⟩ = some (.int .i64 (E.getD j noE).r) := by
  subst hn
  rcases h.2 with ⟨e1, e2⟩ | ⟨g, cap, cur, e1, -⟩
  · omega
  · injection e1 with e1 _ e3
    subst e1 e3
    have hf := fun q (hq : q < 6) => h.cellAt (j * 6 + q) (by omega)
    have hl := fun q (hq : q < 6) => flat_at expC 6 noE (fun x => rfl) E j q hj hq
    exact ⟨g, rfl, (hf 0 (by decide)).trans (hl 0 (by decide)), (hf 1 (by decide)).trans (hl 1 (by decide)), (hf 2 (by decide)).trans (hl 2 (by decide)), (hf 3 (by decide)).trans (hl 3 (by decide)), (hf 4 (by decide)).trans (hl 4 (by decide)), (hf 5 (by decide)).trans (hl 5 (by decide))⟩
theorem getD_pre {E N : List Exp} {k : Nat} (h : k < E.length) : (E ++ N).getD k noE = E.getD k noE := by
  rw [List.getD_eq_getElem?_getD, List.getElem?_append_left h, ← List.getD_eq_getElem?_getD]
set_option maxRecDepth 100000 in
set_option maxHeartbeats 8000000 in
theorem joined_any (s t : ByteArray) (hs : s.size ≤ maxLen) (ht : t.size ≤ maxLen) (w : World) (hT : WT w) :
    Calls Tryz.prog 6 #[.string s, .string t] w fun e w' => e = .returned (.bool true) ∧ Below w.heap.size w w' := by
  have hL : s.data.toList.length = s.size := by simp
  have hN : t.data.toList.length = t.size := by simp
  have hmx : maxLen = 9223372036854775807 := rfl
  have HT : Hid (WT w) := hT
  have hlive := live_any w hT
  clear hT
  by_cases h1 : 1500 < s.size
  · go_enter Tryz.func6, Tryz.ntmps6
    go_wp2_with (first | (go_at_call 10; refine hlive.mono ?_; rintro e w2 ⟨rfl, hb2⟩))
    go_ret
    exact ⟨rfl, hb2⟩
  have h1' : decide ((1500 : Int) < s.size) = false := by simp; omega
  by_cases h2 : 1500 < t.size
  · go_enter Tryz.func6, Tryz.ntmps6
    go_wp2_with (first | (go_at_call 10; refine hlive.mono ?_; rintro e w2 ⟨rfl, hb2⟩))
    go_ret
    exact ⟨rfl, hb2⟩
  have h2' : decide ((1500 : Int) < t.size) = false := by simp; omega
  obtain ⟨U, hU⟩ : ∃ U, s ++ { data := #[10] } ++ t = U := ⟨_, rfl⟩
  have hUL : U.data.toList = s.data.toList ++ 10 :: t.data.toList := by
    rw [← hU, app_list', app_list']
    simp
  have hUs : U.size = s.size + t.size + 1 := by
    rw [← len_list, hUL]
    simp
    omega
  have c1 := fun w h => parse_any s hs w h
  have c2 := fun w h => parse_any t ht w h
  have c3 := fun w h => parse_any U (by omega) w h
  clear hlive
  go_enter Tryz.func6, Tryz.ntmps6
  go_wp2_with fail
  refine (c1 _ HT.out.1).mono ?_
  intro e y1 hy1
  obtain ⟨ad, nd, cd, as', ns, cs, ae, ne, ce, rfl, hf⟩ := hy1.form (parse_zero _)
  have HF1 : Hid _ := hf
  have HB1 : Hid (Below w.heap.size w (y1.alloc (.cells #[.slice ad nd cd, .slice as' ns cs, .slice ae ne ce] 26))) := hf.bel.trans ((bl1 _ _).mono hf.bel.size)
  obtain ⟨x1, hX1⟩ : ∃ Y, y1.alloc (.cells #[.slice ad nd cd, .slice as' ns cs, .slice ae ne ce] 26) = Y := ⟨_, rfl⟩
  have HX1 : Hid _ := hX1
  obtain ⟨z1, hz1⟩ : ∃ z, (parse s.data.toList).2 = z := ⟨_, rfl⟩
  rw [hz1]
  clear hy1 hf hX1 c1
  go_wp2_with fail
  rw [HX1.out]
  refine (c2 _ (HT.out.bel (by have := HB1.out; rw [HX1.out] at this; exact this)).1).mono ?_
  intro e y2 hy2
  obtain ⟨ad2, nd2, cd2, as2, ns2, cs2, ae2, ne2, ce2, rfl, hf⟩ := hy2.form (parse_zero _)
  have HF2 : Hid _ := hf
  have HB2 : Hid (Below w.heap.size w y2) := by have := HB1.out; rw [HX1.out] at this; exact this.trans (hf.bel.mono this.size)
  obtain ⟨x2, hX2⟩ : ∃ Y, y2.alloc (.cells #[.slice ad2 nd2 cd2, .slice as2 ns2 cs2, .slice ae2 ne2 ce2] 26) = Y := ⟨_, rfl⟩
  have HX2 : Hid _ := hX2
  obtain ⟨z2, hz2⟩ : ∃ z, (parse t.data.toList).2 = z := ⟨_, rfl⟩
  rw [hz2]
  have HB2' : Hid (Below w.heap.size w x2) := HB2.out.trans ((by rw [← hX2]; exact bl1 _ _ : Below y2.heap.size y2 x2).mono HB2.out.size)
  clear hy2 hf hX2 c2
  go_wp2_with fail
  rw [HX2.out]
  refine (c3 _ (HT.out.bel HB2'.out).1).mono ?_
  intro e y3 hy3
  obtain ⟨ad3, nd3, cd3, as3, ns3, cs3, ae3, ne3, ce3, rfl, hf⟩ := hy3.form (parse_zero _)
  have HF3 : Hid _ := hf
  have HB3 : Hid (Below w.heap.size w y3) := HB2'.out.trans (hf.bel.mono HB2'.out.size)
  obtain ⟨x3, hX3⟩ : ∃ Y, y3.alloc (.cells #[.slice ad3 nd3 cd3, .slice as3 ns3 cs3, .slice ae3 ne3 ce3] 26) = Y := ⟨_, rfl⟩
  have HX3 : Hid _ := hX3
  obtain ⟨z3, hz3⟩ : ∃ z, (parse U.data.toList).2 = z := ⟨_, rfl⟩
  rw [hz3]
  have HB3' : Hid (Below w.heap.size w x3) := HB3.out.trans ((by rw [← hX3]; exact bl1 _ _ : Below y3.heap.size y3 x3).mono HB3.out.size)
  have hlive := live_any x3 (HT.out.bel HB3'.out)
  clear hy3 hf hX3 c3
  have HZ : Hid _ := And.intro hz1 (And.intro hz2 hz3)
  by_cases e1 : z1 = 0
  rotate_left
  · have hz : ((z1 : Int) != 0) = true := by simp; omega
    have hzz : ¬ (z1 : Int) = 0 := by omega
    go_wp2_with (first | (go_at_call 10; rw [HX3.out]; refine hlive.mono ?_; rintro e w3 ⟨rfl, hb3⟩))
    go_ret
    exact ⟨rfl, HB3'.out.trans (hb3.mono HB3'.out.size)⟩
  by_cases e2 : z2 = 0
  rotate_left
  · subst e1
    have hz : ((z2 : Int) != 0) = true := by simp; omega
    have hzz : ¬ (z2 : Int) = 0 := by omega
    go_wp2_with (first | (go_at_call 10; rw [HX3.out]; refine hlive.mono ?_; rintro e w3 ⟨rfl, hb3⟩))
    go_ret
    exact ⟨rfl, HB3'.out.trans (hb3.mono HB3'.out.size)⟩
  obtain ⟨z1f, z2f⟩ : ((z1 : Int) != 0) = false ∧ ((z2 : Int) != 0) = false := by subst e1 e2; exact ⟨rfl, rfl⟩
  obtain ⟨M, hM⟩ := parse_some (HZ.out.1.trans e1)
  obtain ⟨N, hN'⟩ := parse_some (HZ.out.2.1.trans e2)
  obtain ⟨-, A, hA1, hA2⟩ := parse_parts hM
  obtain ⟨-, B, hB1', hB2x⟩ := parse_parts hN'
  obtain ⟨K, N2, hK, k1, k2, k3, k4⟩ := joined_mod hA1 hB1' (by omega) (by omega) hA2 hB2x
  have hK' : parse U.data.toList = (some K, 0) := by rw [hUL]; exact hK
  have z3f : ((z3 : Int) != 0) = false := by have := HZ.out.2.2; rw [hK'] at this; subst this; rfl
  obtain ⟨DX1, XS1, m1, n1, n2, n3⟩ := HF1.out.mod M (by rw [hM])
  obtain ⟨DX2, XS2, m2, n4, n5, n6⟩ := HF2.out.mod N (by rw [hN'])
  obtain ⟨DX3, XS3, m3, n7, n8, n9⟩ := HF3.out.mod K (by rw [hK'])
  have q1 : ((nd3 : Int) != (nd : Int) + nd2) = false := by simp; omega
  have q2 : ((ns3 : Int) != (ns : Int) + ns2) = false := by simp; omega
  have q3 : ((ne3 : Int) != (ne : Int) + ne2) = false := by
    have : K.exps.length = M.exps.length + N2.length := by rw [k3, List.length_append]
    simp; omega
  have hne3 : ne ≤ ne3 := by
    have : K.exps.length = M.exps.length + N2.length := by rw [k3, List.length_append]
    omega
  have hxx1 : Below y1.heap.size y1 x1 := by rw [← HX1.out]; exact bl1 _ _
  have hxx2 : Below y2.heap.size y2 x2 := by rw [← HX2.out]; exact bl1 _ _
  have hxx3 : Below y3.heap.size y3 x3 := by rw [← HX3.out]; exact bl1 _ _
  have b1 : x1.heap[y1.heap.size]? = some (.cells #[.slice ad nd cd, .slice as' ns cs, .slice ae ne ce] 26 (0, 0)) := by rw [← HX1.out]; exact heap_new _ _
  have b2 : x2.heap[y2.heap.size]? = some (.cells #[.slice ad2 nd2 cd2, .slice as2 ns2 cs2, .slice ae2 ne2 ce2] 26 (0, 0)) := by rw [← HX2.out]; exact heap_new _ _
  have b3 : x3.heap[y3.heap.size]? = some (.cells #[.slice ad3 nd3 cd3, .slice as3 ns3 cs3, .slice ae3 ne3 ce3] 26 (0, 0)) := by rw [← HX3.out]; exact heap_new _ _
  have b1' := blk_thru hxx3 (blk_thru HF3.out.bel (blk_thru hxx2 (blk_thru HF2.out.bel b1)))
  have b2' := blk_thru hxx3 (blk_thru HF3.out.bel b2)
  have r1 := row_thru' (row_thru' (row_thru' (row_thru' (row_thru' m1.re hxx1) HF2.out.bel) hxx2) HF3.out.bel) hxx3
  have r3 := row_thru' m3.re hxx3
  have R1 : Hid _ := r1
  have R3 : Hid _ := r3
  have HN : Hid (ne = M.exps.length ∧ ne3 = K.exps.length ∧ K.exps = M.exps ++ N2) := ⟨n3, n9, k3⟩
  have HBX : Hid (Below w.heap.size w x3) := HB3'.out
  have v10 := cell_blk b1' 0 (v := .slice ad nd cd) rfl
  have v11 := cell_blk b1' 1 (v := .slice as' ns cs) rfl
  have v12 := cell_blk b1' 2 (v := .slice ae ne ce) rfl
  have v20 := cell_blk b2' 0 (v := .slice ad2 nd2 cd2) rfl
  have v21 := cell_blk b2' 1 (v := .slice as2 ns2 cs2) rfl
  have v22 := cell_blk b2' 2 (v := .slice ae2 ne2 ce2) rfl
  have v30 := cell_blk b3 0 (v := .slice ad3 nd3 cd3) rfl
  have v31 := cell_blk b3 1 (v := .slice as3 ns3 cs3) rfl
  have v32 := cell_blk b3 2 (v := .slice ae3 ne3 ce3) rfl
  have hX3 := HX3.out
  have l1 : DX3.length ≤ maxLen := by rcases m3.rd.2 with ⟨e1, e2⟩ | ⟨g, cap, cur, e1, e2, e3, e4, e5, -⟩ <;> omega
  have l2 : XS3.length ≤ maxLen := by rcases m3.rs.2 with ⟨e1, e2⟩ | ⟨g, cap, cur, e1, e2, e3, e4, e5, -⟩ <;> omega
  have l3 : K.exps.length ≤ maxLen := by rcases m3.re.2 with ⟨e1, e2⟩ | ⟨g, cap, cur, e1, e2, e3, e4, e5, -⟩ <;> omega
  have l1' : DX3.length = K.decls.length := by rw [← m3.hd, List.length_map]
  have l2' : XS3.length = K.stmts.length := by rw [← m3.hs, List.length_map]
  have l3' : K.exps.length = M.exps.length + N2.length := by rw [k3, List.length_append]
  have w1 : (nd : Int) + nd2 ≤ 9223372036854775807 := by omega
  have w2 : (ns : Int) + ns2 ≤ 9223372036854775807 := by omega
  have w3 : (ne : Int) + ne2 ≤ 9223372036854775807 := by omega
  have p1 : (nd3 : Int) = nd + nd2 := by omega
  have p2 : (ns3 : Int) = ns + ns2 := by omega
  have p3 : (ne3 : Int) = ne + ne2 := by omega
  clear q1 q2 q3 l1 l2 l3 l1' l2' l3'
  clear r1 r3 b1' b2' b3 b1 b2 hxx1 hxx2 hxx3 HF1 HF2 HF3 m1 m2 m3 n1 n2 n3 n4 n5 n6 n7 n8 n9 k1 k2 k3 k4 hK hK' hM hN' hA1 hA2 hB1' hB2x HZ hz1 hz2 hz3 hlive HX1 HX2 HB1 HB2 HB2' HB3 HB3' hU hUL hUs e1 e2
  go_wp2_with fail
  clear hX3 w1 w2 p1 p2
  have HV : Hid _ := And.intro v12 v32
  have HW3 : Hid _ := And.intro w3 (And.intro p3 hne3)
  clear v10 v11 v12 v20 v21 v22 v30 v31 v32 w3 p3 hne3
  go_loopg [11] ne (fun r iv wq => ∃ (k : Nat), iv = .int .i64 k ∧ k ≤ ne ∧ ne - k ≤ r ∧ Hid (Below x3.heap.size x3 wq))
  case atStart => exact ⟨0, rfl, Nat.zero_le _, by omega, Below.refl _ _⟩
  case round =>
    obtain ⟨k, rfl, hk, hr, HB⟩ := hrel
    have HBr : Hid (Below w.heap.size w wr) := HBX.out.trans (HB.out.mono HBX.out.size)
    have u1 := cell_thru HB.out HV.out.1
    have u3 := cell_thru HB.out HV.out.2
    obtain ⟨w3, p3, hne3⟩ := HW3.out
    by_cases hlt : k < ne
    · obtain ⟨g, hg, g0, g1, g2, g3, g4, g5⟩ := exp_at R1.out HN.out.1 (j := k) (by have := HN.out.1; omega)
      obtain ⟨g', hg', q0, q1, q2, q3, q4, q5⟩ := exp_at R3.out HN.out.2.1 (j := k) (by have := HN.out.2.1; omega)
      rw [HN.out.2.2, getD_pre (by have := HN.out.1; omega)] at q0 q1 q2 q3 q4 q5
      subst hg hg'
      have g0 := cell_thru HB.out g0
      have g1 := cell_thru HB.out g1
      have g2 := cell_thru HB.out g2
      have g3 := cell_thru HB.out g3
      have g4 := cell_thru HB.out g4
      have g5 := cell_thru HB.out g5
      have q0 := cell_thru HB.out q0
      have q1 := cell_thru HB.out q1
      have q2 := cell_thru HB.out q2
      have q3 := cell_thru HB.out q3
      have q4 := cell_thru HB.out q4
      have q5 := cell_thru HB.out q5
      have hin : 0 ≤ (k : Int) := by omega
      have hii : (k : Int) < (ne : Int) := by omega
      have hij : (k : Int) < (ne3 : Int) := by omega
      generalize M.exps.getD k noE = x at *
      have hEq := eqSelfE x.kind x.l x.r x.n (X.str x.op) (X.str x.name)
      go_wp2_with fail
      go_quiet (fail)
      go_wp2
      go_roundg (ne - (k + 1))
      case measure => omega
      case rel => exact ⟨k + 1, by go_num, by omega, Nat.le_refl _, below_drew' HB.out _⟩
    · obtain rfl : k = ne := by omega
      have hii : ¬ (k : Int) < (k : Int) := by omega
      go_wp2_with (first | (go_at_call 10; refine (live_any _ (HT.out.bel HBr.out)).mono ?_; rintro e w4 ⟨rfl, hb4⟩))
      go_ret
      exact ⟨rfl, HBr.out.trans (hb4.mono HBr.out.size)⟩
end Go.Proofs.YtikknlkdbjaonaaGreatDoor.Y
