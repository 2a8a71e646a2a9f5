/- What an operation of one object comes to, where the objects are the call's own. -/
import Derived.Test.YtafdjmccgijmnaaAtClone
namespace Go.Proofs.Ytafdjmccgijmnaa.A
open Go.RowKit Go.Maps Go.Lib
set_option linter.unusedVariables false
set_option linter.unusedSimpArgs false

/-- Nothing of it lies below B, nor in g, and all of it may be written. -/
def New (B g : Nat) (w : World) (a : Option Addr) : Prop := ∀ ad, a = some ad → B ≤ ad.block ∧ ad.block ≠ g ∧ ∀ j, w.frozen? ⟨ad.block, j, none⟩ = false
/-- Objects in a row of the call's own: what is handed back. -/
structure Res (B : Nat) (w : World) (g n : Nat) (os : List At) : Prop where
  row : ∃ xs, w.ownsRow B 49 4 (.slice (some ⟨g, 0, none⟩) n n) n xs
  len : os.length = n
  cell : ∀ i, i < n → w.cell? ⟨g, i * 4, none⟩ = some (.string (os.getD i noAt).name) ∧ w.cell? ⟨g, i * 4 + 1, none⟩ = some (.int .i64 (os.getD i noAt).cap) ∧ w.cell? ⟨g, i * 4 + 2, none⟩ = some (.int .i64 (os.getD i noAt).owner) ∧ ∃ a1 l1 c1, w.cell? ⟨g, i * 4 + 3, none⟩ = some (.slice a1 l1 c1) ∧ IntsV w a1 l1 c1 (os.getD i noAt).items ∧ New B g w a1
theorem own_form {w : World} {B : Nat} {e : TypeId} {s n : Nat} {v : Value} {xs : List Value} (h : w.ownsRow B e s v n xs) : ∃ a c, v = .slice a n c := by
  rcases h.2 with ⟨rfl, rfl⟩ | ⟨g, cap, cur, rfl, -⟩
  · exact ⟨none, 0, rfl⟩
  · exact ⟨_, _, rfl⟩
theorem own_new {w : World} {B g : Nat} {e : TypeId} {s n c : Nat} {a : Option Addr} {xs : List Value} (h : w.ownsRow B e s (.slice a n c) n xs) (hg : (Value.slice a n c).ownBlock ≠ some g) : New B g w a := by
  intro ad ha
  subst ha
  refine ⟨(h.lt ad.block rfl).1, fun e => hg (by rw [← e]; rfl), fun j => ?_⟩
  rcases h.2 with ⟨e1, -⟩ | ⟨g', cap, cur, e1, -⟩
  · cases e1
  · cases e1; exact h.frozenAt j
theorem Nx.res {B : Nat} {w : World} {g n : Nat} {os : List At} {vs : List Value} (h : Nx B w g n os vs n) (hl : os.length = n) (hf : ∀ x ∈ os, AtFit x) : Res B w g n os := by
  refine ⟨h.row, hl, fun i hi => ?_⟩
  obtain ⟨c0, c1, c2, c3⟩ := h.cell i hi
  have ho := h.own i hi
  have hfar := h.far i hi
  obtain ⟨a, c, e⟩ := own_form ho
  rw [e] at c3 ho hfar
  have hff := hf (os.getD i noAt) (by simp [List.getD, show i < os.length by omega])
  exact ⟨c0, c1, c2, a, _, c, c3, intsV_own hff.2.2.2 rfl ho, own_new ho hfar⟩
theorem set1 (X : World) (g o : Nat) (v : Value) {u : Value} (r : X.cell? ⟨g, o, none⟩ = some u) : (X.setCell ⟨g, o, none⟩ v).cell? ⟨g, o, none⟩ = some v ∧ ∀ j, j ≠ o → (X.setCell ⟨g, o, none⟩ v).cell? ⟨g, j, none⟩ = X.cell? ⟨g, j, none⟩ :=
  ⟨World.cell?_setCell_same' _ _ _ (by rw [r]; rfl), fun j hj => World.cell?_setCell_other _ _ _ _ (fun e => hj (by have := congrArg Addr.off e; simpa using this.symm))⟩
theorem IntsV.set {w : World} {a : Option Addr} {l c : Nat} {zs : List Int} (h : IntsV w a l c zs) (p : Addr) (hp : ∀ ad, a = some ad → ad.block ≠ p.block) (v : Value) : IntsV (w.setCell p v) a l c zs := by
  refine ⟨h.count, h.fits, h.nilOf, h.room, ?_⟩
  rcases h.cells with h0 | ⟨b, off, ha, hc⟩
  · exact .inl h0
  · exact .inr ⟨b, off, ha, fun i hi => by rw [World.cell?_setCell_far _ _ _ _ (show p.block ≠ b from fun e => hp _ ha e.symm)]; exact hc i hi⟩
theorem New.set {B g : Nat} {w : World} {a : Option Addr} (h : New B g w a) (p : Addr) (v : Value) : New B g (w.setCell p v) a := fun ad ha => ⟨(h ad ha).1, (h ad ha).2.1, fun j => by rw [World.frozen?_setCell]; exact (h ad ha).2.2 j⟩
theorem getD_set_eq {α : Type} (l : List α) (x d : α) {i : Nat} (h : i < l.length) : (l.set i x).getD i d = x := by simp [List.getD, h]
theorem getD_set_ne {α : Type} (l : List α) (x d : α) {i j : Nat} (h : i ≠ j) : (l.set i x).getD j d = l.getD j d := by simp [List.getD, List.getElem?_set_ne h]
/-- A new owner. -/
theorem Res.owner {B : Nat} {w : World} {g n : Nat} {os : List At} (h : Res B w g n os) {k : Nat} (hk : k < n) (o : Int) : Res B (w.setCell ⟨g, k * 4 + 2, none⟩ (.int .i64 o)) g n (os.set k { os.getD k noAt with owner := o }) := by
  obtain ⟨xs, hx⟩ := h.row
  refine ⟨⟨_, (hx.stored (k * 4 + 2) (.int .i64 o)).1⟩, by rw [List.length_set]; exact h.len, fun i hi => ?_⟩
  obtain ⟨c0, c1, c2, a1, l1, c1', c3, V, N⟩ := h.cell i hi
  obtain ⟨-, -, r2, -⟩ := h.cell k hk
  obtain ⟨e, eo⟩ := set1 w g (k * 4 + 2) (.int .i64 o) r2
  have hV := V.set ⟨g, k * 4 + 2, none⟩ (fun ad ha => (N ad ha).2.1) (.int .i64 o)
  have hN := N.set ⟨g, k * 4 + 2, none⟩ (.int .i64 o)
  by_cases hik : k = i
  · subst hik
    rw [getD_set_eq _ _ _ (by rw [h.len]; exact hk)]
    exact ⟨(eo _ (by omega)).trans c0, (eo _ (by omega)).trans c1, e, a1, l1, c1', (eo _ (by omega)).trans c3, hV, hN⟩
  · rw [getD_set_ne _ _ _ hik, eo _ (by omega), eo _ (by omega), eo _ (by omega), eo _ (by omega)]
    exact ⟨c0, c1, c2, a1, l1, c1', c3, hV, hN⟩
/-- New items. -/
theorem Res.items {B : Nat} {w : World} {g n : Nat} {os : List At} (h : Res B w g n os) {k : Nat} (hk : k < n) {a : Option Addr} {l c : Nat} {zs : List Int} (V0 : IntsV w a l c zs) (N0 : New B g w a) : Res B (w.setCell ⟨g, k * 4 + 3, none⟩ (.slice a l c)) g n (os.set k { os.getD k noAt with items := zs }) := by
  obtain ⟨xs, hx⟩ := h.row
  refine ⟨⟨_, (hx.stored (k * 4 + 3) (.slice a l c)).1⟩, by rw [List.length_set]; exact h.len, fun i hi => ?_⟩
  obtain ⟨c0, c1, c2, a1, l1, c1', c3, V, N⟩ := h.cell i hi
  obtain ⟨-, -, -, _, _, _, r3, -⟩ := h.cell k hk
  obtain ⟨e, eo⟩ := set1 w g (k * 4 + 3) (.slice a l c) r3
  have hV := V.set ⟨g, k * 4 + 3, none⟩ (fun ad ha => (N ad ha).2.1) (.slice a l c)
  have hN := N.set ⟨g, k * 4 + 3, none⟩ (.slice a l c)
  have hV0 := V0.set ⟨g, k * 4 + 3, none⟩ (fun ad ha => (N0 ad ha).2.1) (.slice a l c)
  have hN0 := N0.set ⟨g, k * 4 + 3, none⟩ (.slice a l c)
  by_cases hik : k = i
  · subst hik
    rw [getD_set_eq _ _ _ (by rw [h.len]; exact hk), eo _ (by omega), eo _ (by omega), eo _ (by omega)]
    exact ⟨c0, c1, c2, a, l, c, e, hV0, hN0⟩
  · rw [getD_set_ne _ _ _ hik, eo _ (by omega), eo _ (by omega), eo _ (by omega), eo _ (by omega)]
    exact ⟨c0, c1, c2, a1, l1, c1', c3, hV, hN⟩
theorem set_same (os : List At) (k : Nat) : os.set k (os.getD k noAt) = os := by
  by_cases h : k < os.length
  · apply List.ext_getElem?
    intro i
    by_cases e : k = i
    · subst e; simp [List.getD, h]
    · rw [List.getElem?_set_ne e]
  · exact List.set_eq_of_length_le (by omega)
/-- Number k's row of items grows. -/
theorem Nx.grow {B : Nat} {w w1 : World} {g n : Nat} {os : List At} {vs : List Value} (h : Nx B w g n os vs n) (hl : os.length = n) (hf : ∀ x ∈ os, AtFit x) {k : Nat} (hk : k < n) (hg : w.grownBy w1 (vs.getD k nilV).ownBlock) {a : Option Addr} {l c : Nat} {zs : List Int} (V0 : IntsV w1 a l c zs) (N0 : New B g w1 a) :
    Res B (w1.setCell ⟨g, k * 4 + 3, none⟩ (.slice a l c)) g n (os.set k { os.getD k noAt with items := zs }) := by
  obtain ⟨xs, hx⟩ := h.row
  have hkg : (vs.getD k nilV).ownBlock ≠ some g := h.far k hk
  have hx1 : w1.ownsRow B 49 4 (.slice (some ⟨g, 0, none⟩) n n) n xs := hx.kept hg (.inr fun e => hkg e.symm)
  have key : ∀ i, i < n → w1.cell? ⟨g, i * 4, none⟩ = some (.string (os.getD i noAt).name) ∧ w1.cell? ⟨g, i * 4 + 1, none⟩ = some (.int .i64 (os.getD i noAt).cap) ∧ w1.cell? ⟨g, i * 4 + 2, none⟩ = some (.int .i64 (os.getD i noAt).owner) ∧ ∃ a1 l1 c1, w1.cell? ⟨g, i * 4 + 3, none⟩ = some (.slice a1 l1 c1) ∧ (i ≠ k → IntsV w1 a1 l1 c1 (os.getD i noAt).items ∧ New B g w1 a1) := by
    intro i hi
    obtain ⟨c0, c1, c2, c3⟩ := h.cell i hi
    obtain ⟨a1, c1', e⟩ := own_form (h.own i hi)
    have ne : some g ≠ (vs.getD k nilV).ownBlock := fun e => hkg e.symm
    refine ⟨hg.cell c0 ne, hg.cell c1 ne, hg.cell c2 ne, a1, _, c1', by rw [← e]; exact hg.cell c3 ne, fun hik => ?_⟩
    have ho := (h.own i hi).kept hg (by
      cases e2 : (vs.getD i nilV).ownBlock with
      | none => exact .inl rfl
      | some b => exact .inr (fun e3 => h.dis i k hi hk hik b e2 e3.symm))
    have hfar := h.far i hi
    have hff := hf (os.getD i noAt) (by simp [List.getD, show i < os.length by omega])
    rw [e] at ho hfar
    exact ⟨intsV_own hff.2.2.2 rfl ho, own_new ho hfar⟩
  refine ⟨⟨_, (hx1.stored (k * 4 + 3) (.slice a l c)).1⟩, by rw [List.length_set]; exact hl, fun i hi => ?_⟩
  obtain ⟨c0, c1, c2, a1, l1, c1', c3, hVN⟩ := key i hi
  obtain ⟨-, -, -, _, _, _, r3, -⟩ := key k hk
  obtain ⟨e, eo⟩ := set1 w1 g (k * 4 + 3) (.slice a l c) r3
  have hV0 := V0.set ⟨g, k * 4 + 3, none⟩ (fun ad ha => (N0 ad ha).2.1) (.slice a l c)
  have hN0 := N0.set ⟨g, k * 4 + 3, none⟩ (.slice a l c)
  by_cases hik : k = i
  · subst hik
    rw [getD_set_eq _ _ _ (by rw [hl]; exact hk), eo _ (by omega), eo _ (by omega), eo _ (by omega)]
    exact ⟨c0, c1, c2, a, l, c, e, hV0, hN0⟩
  · obtain ⟨V, N⟩ := hVN (fun e => hik e.symm)
    rw [getD_set_ne _ _ _ hik, eo _ (by omega), eo _ (by omega), eo _ (by omega), eo _ (by omega)]
    exact ⟨c0, c1, c2, a1, l1, c1', c3, V.set ⟨g, k * 4 + 3, none⟩ (fun ad ha => (N ad ha).2.1) (.slice a l c), N.set ⟨g, k * 4 + 3, none⟩ (.slice a l c)⟩

theorem New.below {B g : Nat} {w w' : World} {a : Option Addr} (h : New B g w a) (hlt : ∀ ad, a = some ad → ad.block < w.heap.size) (hb : Below w.heap.size w w') : New B g w' a := fun ad ha => ⟨(h ad ha).1, (h ad ha).2.1, fun j => (hb.frozen (p := ⟨ad.block, j, none⟩) (hlt ad ha)).trans ((h ad ha).2.2 j)⟩

theorem acq_any {B : Nat} {w : World} {g n : Nat} {os : List At} (h : Res B w g n os) {k : Nat} (hk : k < n) (hB : B ≤ g) (own : Int) :
    Calls Try.prog 78 #[.pointer (some ⟨g, k * 4, none⟩), .int .i64 own] w fun e w' => e = .returned (.int .i64 (if (os.getD k noAt).owner ≠ 0 then 1 else 0)) ∧ Res B w' g n (if (os.getD k noAt).owner ≠ 0 then os else os.set k { os.getD k noAt with owner := own }) ∧ Below B w w' := by
  have HR : Hid _ := h
  obtain ⟨xs, hx⟩ := h.row
  have fz := hx.frozenAt (k * 4 + 2)
  obtain ⟨-, -, q2, -⟩ := h.cell k hk
  have HO : Hid _ := h.owner hk own
  have HBX : Hid (Below B w (w.setCell ⟨g, k * 4 + 2, none⟩ (.int .i64 own))) := (Below.refl _ _).setCell hB _
  clear h hx
  by_cases hz : (os.getD k noAt).owner = 0
  · rw [if_neg (by simpa using hz), if_neg (by simpa using hz)]
    rw [hz] at q2
    clear hz
    go_enter Try.func78, Try.ntmps78
    go_wp2
    go_ret
    exact ⟨rfl, HO.out, HBX.out⟩
  · rw [if_pos hz, if_pos hz]
    generalize (os.getD k noAt).owner = z at q2 hz
    clear HO HBX
    go_enter Try.func78, Try.ntmps78
    go_wp2
    go_ret
    exact ⟨rfl, HR.out, Below.refl _ _⟩
theorem rel_any {B : Nat} {w : World} {g n : Nat} {os : List At} (h : Res B w g n os) {k : Nat} (hk : k < n) (hB : B ≤ g) (own : Int) :
    Calls Try.prog 79 #[.pointer (some ⟨g, k * 4, none⟩), .int .i64 own] w fun e w' => e = .returned (.int .i64 (if (os.getD k noAt).owner ≠ own then 2 else 0)) ∧ Res B w' g n (if (os.getD k noAt).owner ≠ own then os else os.set k { os.getD k noAt with owner := 0 }) ∧ Below B w w' := by
  have HR : Hid _ := h
  obtain ⟨xs, hx⟩ := h.row
  have fz := hx.frozenAt (k * 4 + 2)
  obtain ⟨-, -, q2, -⟩ := h.cell k hk
  have HO : Hid _ := h.owner hk 0
  have HBX : Hid (Below B w (w.setCell ⟨g, k * 4 + 2, none⟩ (.int .i64 0))) := (Below.refl _ _).setCell hB _
  clear h hx
  by_cases hz : (os.getD k noAt).owner = own
  · rw [if_neg (by simpa using hz), if_neg (by simpa using hz)]
    rw [hz] at q2
    clear hz
    go_enter Try.func79, Try.ntmps79
    go_wp2
    go_ret
    exact ⟨rfl, HO.out, HBX.out⟩
  · rw [if_pos hz, if_pos hz]
    generalize (os.getD k noAt).owner = z at q2 hz
    clear HO HBX
    go_enter Try.func79, Try.ntmps79
    go_wp2
    go_ret
    exact ⟨rfl, HR.out, Below.refl _ _⟩

theorem below_yes {n : Int} (h : n < 0) (w : World) : Calls Try.prog 63 #[.int .i64 n] w fun e w' => e = .returned (.bool true) ∧ w' = w := by
  have := below_any n w
  rwa [decide_eq_true h] at this
theorem below_no {n : Int} (h : ¬ n < 0) (w : World) : Calls Try.prog 63 #[.int .i64 n] w fun e w' => e = .returned (.bool false) ∧ w' = w := by
  have := below_any n w
  rwa [decide_eq_false h] at this
theorem Nx.drew {B : Nat} {w : World} {g n : Nat} {os : List At} {vs : List Value} {k : Nat} (h : Nx B w g n os vs k) : Nx B w.drew g n os vs k := h.below (Below.refl _ _).drew

set_option maxRecDepth 100000 in
set_option maxHeartbeats 8000000 in
theorem put_any {B : Nat} {w : World} {g n : Nat} {os : List At} {vs : List Value} (h : Nx B w g n os vs n) (hl : os.length = n) (hf : ∀ x ∈ os, AtFit x) {k : Nat} (hk : k < n) (hB : B ≤ g) (arg : Int) (ha : (Lit.int .i64 arg).wf = true) (hs : (os.getD k noAt).items.length ≤ 1048576) :
    Calls Try.prog 80 #[.pointer (some ⟨g, k * 4, none⟩), .int .i64 arg] w fun e w' => e = .returned (.int .i64 (if arg < 0 ∨ ((os.getD k noAt).items.length : Int) = (os.getD k noAt).cap then 0 else 1)) ∧ Res B w' g n (if arg < 0 ∨ ((os.getD k noAt).items.length : Int) = (os.getD k noAt).cap then os else os.set k { os.getD k noAt with items := (os.getD k noAt).items ++ [arg] }) ∧ Below B w w' := by
  obtain ⟨i1, hi1, hz10, hz11, hz12⟩ := info_parts infoI
  have HN : Hid _ := h
  have HR : Hid _ := h.res hl hf
  obtain ⟨xs, hx⟩ := h.row
  have fz := hx.frozenAt (k * 4 + 3)
  obtain ⟨-, q1, -, q3⟩ := h.cell k hk
  have HOW : Hid _ := h.own k hk
  obtain ⟨a1, c1, e1⟩ := own_form HOW.out
  have HF : Hid _ := hf
  have HL : Hid _ := hl
  have HA : Hid _ := ha
  have HLT : Hid _ := h.lt
  have hgw := h.lt
  have HFAR : Hid _ := h.far k hk
  have HE1 : Hid _ := e1
  rw [e1] at q3 HOW HFAR
  obtain ⟨x, hx'⟩ : ∃ x, os.getD k noAt = x := ⟨_, rfl⟩
  have HX : Hid _ := hx'
  rw [hx'] at q1 q3 HOW hs HFAR
  rw [hx']
  obtain ⟨l1, hl1⟩ : ∃ l1, x.items.length = l1 := ⟨_, rfl⟩
  have HL1 : Hid _ := hl1
  rw [hl1] at q3 HOW hs HFAR ⊢
  clear h hx hf hl ha e1 hx' hl1
  have HRD : Hid (Res B w.drew g n os) := HN.out.drew.res HL.out HF.out
  have HBD : Hid (Below B w w.drew) := (Below.refl _ _).drew
  by_cases hneg : arg < 0
  · rw [if_pos (Or.inl hneg), if_pos (Or.inl hneg)]
    have HNEG : Hid _ := hneg
    clear hneg
    go_enter Try.func80, Try.ntmps80
    go_wp2_with fail
    refine wp_region_held_drew (S := (fun w' : World => w' = w.drew)) (by kernel_rfl) rfl (fun hHeld => ?_)
    refine wpAnyH_take (i := 0) (v := ?_) (get0 _ _) (by kernel_rfl) (by kernel_rfl) (by kernel_rfl) (fun _ _ _ h => h) (Or.inl ⟨by rfl, ?_⟩) (by assumption) ?_
    rotate_left
    · (intro w hSw; (try dsimp only at hSw); go_simp <;> with_reducible rfl)
    simp only [Act.put, List.setIfInBounds_toArray, List.set_cons_zero, List.set_cons_succ]
    refine wpAnyH_ready (rs := [1]) (by kernel_rfl) (by simp) ?_
    refine AllReadyH.cons (get1 (get0 _ _)) (fun K hK => ?_) AllReadyH.nil
    go_simp
    refine (below_yes HNEG.out _).mono ?_
    rintro e y1 ⟨rfl, rfl⟩
    clear hHeld
    try go_wp2_with fail
    refine hK.out _ _ rfl (fun hHeld => ?_)
    clear hK K
    try simp only [Act.put, List.setIfInBounds_toArray, List.set_cons_zero, List.set_cons_succ]
    refine wpAnyH_take (i := 2) (v := ?_) (get1 (get1 (get0 _ _))) (by kernel_rfl) (by kernel_rfl) (by kernel_rfl) (fun _ _ _ h => h) (Or.inl ⟨by rfl, ?_⟩) (by assumption) ?_
    rotate_left
    · (intro w hSw; (try dsimp only at hSw); go_simp <;> with_reducible rfl)
    simp only [Act.put, List.setIfInBounds_toArray, List.set_cons_zero, List.set_cons_succ]
    refine wpAnyH_take (i := 3) (v := undef) (get1 (get1 (get1 (get0 _ _)))) (by kernel_rfl) (by kernel_rfl) (by kernel_rfl) (fun _ _ _ h => h) (Or.inr ⟨by rfl, rfl⟩) (by assumption) ?_
    simp only [Act.put, List.setIfInBounds_toArray, List.set_cons_zero, List.set_cons_succ]
    refine wpAnyH_take (i := 4) (v := undef) (get1 (get1 (get1 (get1 (get0 _ _))))) (by kernel_rfl) (by kernel_rfl) (by kernel_rfl) (fun _ _ _ h => h) (Or.inr ⟨by rfl, rfl⟩) (by assumption) ?_
    simp only [Act.put, List.setIfInBounds_toArray, List.set_cons_zero, List.set_cons_succ]
    refine wpAnyH_take (i := 5) (v := undef) (get1 (get1 (get1 (get1 (get1 (get0 _ _)))))) (by kernel_rfl) (by kernel_rfl) (by kernel_rfl) (fun _ _ _ h => h) (Or.inr ⟨by rfl, rfl⟩) (by assumption) ?_
    simp only [Act.put, List.setIfInBounds_toArray, List.set_cons_zero, List.set_cons_succ]
    refine wpAnyH_take (i := 6) (v := undef) (get1 (get1 (get1 (get1 (get1 (get1 (get0 _ _))))))) (by kernel_rfl) (by kernel_rfl) (by kernel_rfl) (fun _ _ _ h => h) (Or.inr ⟨by rfl, rfl⟩) (by assumption) ?_
    simp only [Act.put, List.setIfInBounds_toArray, List.set_cons_zero, List.set_cons_succ]
    refine wpAnyH_take (i := 7) (v := undef) (get1 (get1 (get1 (get1 (get1 (get1 (get1 (get0 _ _)))))))) (by kernel_rfl) (by kernel_rfl) (by kernel_rfl) (fun _ _ _ h => h) (Or.inr ⟨by rfl, rfl⟩) (by assumption) ?_
    simp only [Act.put, List.setIfInBounds_toArray, List.set_cons_zero, List.set_cons_succ]
    refine wpAnyH_take (i := 8) (v := undef) (get1 (get1 (get1 (get1 (get1 (get1 (get1 (get1 (get0 _ _))))))))) (by kernel_rfl) (by kernel_rfl) (by kernel_rfl) (fun _ _ _ h => h) (Or.inr ⟨by rfl, rfl⟩) (by assumption) ?_
    simp only [Act.put, List.setIfInBounds_toArray, List.set_cons_zero, List.set_cons_succ]
    refine wpAnyH_take (i := 9) (v := undef) (get1 (get1 (get1 (get1 (get1 (get1 (get1 (get1 (get1 (get0 _ _)))))))))) (by kernel_rfl) (by kernel_rfl) (by kernel_rfl) (fun _ _ _ h => h) (Or.inr ⟨by rfl, rfl⟩) (by assumption) ?_
    simp only [Act.put, List.setIfInBounds_toArray, List.set_cons_zero, List.set_cons_succ]
    refine wpAnyH_take (i := 10) (v := undef) (get1 (get1 (get1 (get1 (get1 (get1 (get1 (get1 (get1 (get1 (get0 _ _))))))))))) (by kernel_rfl) (by kernel_rfl) (by kernel_rfl) (fun _ _ _ h => h) (Or.inr ⟨by rfl, rfl⟩) (by assumption) ?_
    simp only [Act.put, List.setIfInBounds_toArray, List.set_cons_zero, List.set_cons_succ]
    refine wpAnyH_take (i := 11) (v := undef) (get1 (get1 (get1 (get1 (get1 (get1 (get1 (get1 (get1 (get1 (get1 (get0 _ _)))))))))))) (by kernel_rfl) (by kernel_rfl) (by kernel_rfl) (fun _ _ _ h => h) (Or.inr ⟨by rfl, rfl⟩) (by assumption) ?_
    simp only [Act.put, List.setIfInBounds_toArray, List.set_cons_zero, List.set_cons_succ]
    refine wpAnyH_take (i := 12) (v := undef) (get1 (get1 (get1 (get1 (get1 (get1 (get1 (get1 (get1 (get1 (get1 (get1 (get0 _ _))))))))))))) (by kernel_rfl) (by kernel_rfl) (by kernel_rfl) (fun _ _ _ h => h) (Or.inr ⟨by rfl, rfl⟩) (by assumption) ?_
    simp only [Act.put, List.setIfInBounds_toArray, List.set_cons_zero, List.set_cons_succ]
    refine wpAnyH_take (i := 13) (v := ?_) (get1 (get1 (get1 (get1 (get1 (get1 (get1 (get1 (get1 (get1 (get1 (get1 (get1 (get0 _ _)))))))))))))) (by kernel_rfl) (by kernel_rfl) (by kernel_rfl) (fun _ _ _ h => h) (Or.inl ⟨by rfl, ?_⟩) (by assumption) ?_
    rotate_left
    · (intro w hSw; (try dsimp only at hSw); go_simp <;> with_reducible rfl)
    simp only [Act.put, List.setIfInBounds_toArray, List.set_cons_zero, List.set_cons_succ]
    refine wpAnyH_done (by kernel_rfl) ?_ _
    clear hHeld
    go_wp2
    go_ret
    exact ⟨rfl, HRD.out, HBD.out⟩
  · by_cases hfull : (l1 : Int) = x.cap
    · rw [if_pos (Or.inr hfull), if_pos (Or.inr hfull)]
      rw [← hfull] at q1
      clear hfull
      go_enter Try.func80, Try.ntmps80
      go_wp2_with fail
      go_region_held3 (fun w' : World => w' = w.drew) (first | rfl | assumption) ((go_at_call 63; refine (below_no (by omega) _).mono ?_; rintro e y ⟨rfl, rfl⟩))
      go_wp2
      go_ret
      exact ⟨rfl, HRD.out, HBD.out⟩
    · rw [if_neg (by simp [hneg, hfull]), if_neg (by simp [hneg, hfull])]
      have hd : decide ((l1 : Int) = x.cap) = false := decide_eq_false hfull
      generalize x.cap = cp at q1 hd hfull
      obtain ⟨Z, hZ⟩ : ∃ Z, (w.alloc (.cells #[.int .i64 arg] 2)).drew = Z := ⟨_, rfl⟩
      have bZ : Below w.heap.size w Z := by subst hZ; exact (bl_one _ _).drew
      have sZ : Hid (Z.heap.size = w.heap.size + 1) := by show _ = _; subst hZ; simp
      have HOZ : Hid (Z.ownsRow B 2 1 (.slice a1 l1 c1) l1 (x.items.flatMap intC)) := row_thru HOW.out bZ
      have HNC : Hid (∀ j u, ([.int .i64 arg] : List Value)[j]? = some u → Z.cell? ((⟨w.heap.size, 0, none⟩ : Addr).add j) = some u) := by
        intro j u hu
        match j, hu with
        | 0, hu => subst hZ; simp at hu; subst hu; rw [World.cell?_drew]; exact cell_last (by simp) (by simp)
        | j + 1, hu => simp at hu
      go_enter Try.func80, Try.ntmps80
      go_wp2_with fail
      go_region_held3 (fun w' : World => w' = w.drew) (first | rfl | assumption) ((go_at_call 63; refine (below_no (by omega) _).mono ?_; rintro e y ⟨rfl, rfl⟩))
      go_wp2_with (first | (at_builtin; go_loud (refine wpList_append_lies _ rfl _ _ 47 rfl B 2 i1 _ 1 8 Try.underlying47 hi1 hz10 hz11 hz12 rfl (by decide) (.slice a1 l1 c1) l1 (x.items.flatMap intC) rfl HOZ.out ⟨w.heap.size, 0, none⟩ 1 1 [.int .i64 arg] rfl rfl HNC.out (by intro u hu; simp at hu; subst hu; rfl) (by decide) (by unfold maxLen; omega) (by omega) (by rw [sZ.out]; omega) Z.heap.size rfl ?_; intro ga ca w1 ho1 hg1 hat1 hlt1; have q3' := hg1.cell (cell_thru bZ q3) (fun e => HFAR.out e.symm); have fz' := (hg1.frozen_far ⟨g, k * 4 + 3, none⟩ (by show g < _; rw [sZ.out]; omega) (fun e => HFAR.out e.symm)).trans ((bZ.frozen (p := ⟨g, k * 4 + 3, none⟩) hgw).trans fz))) | fail)
      go_ret
      have hx1 : (x.items ++ [arg]).flatMap intC = x.items.flatMap intC ++ [.int .i64 arg] := by simp [intC]
      have HOV : w1.ownsRow B 2 1 (.slice (some ⟨ga, 0, none⟩) (l1 + 1) ca) (l1 + 1) ((x.items ++ [arg]).flatMap intC) := by rw [hx1]; exact ho1
      have hgag : (Value.slice (some ⟨ga, 0, none⟩) (l1 + 1) ca).ownBlock ≠ some g := by
        rcases hat1 with e | e
        · intro e2; simp [Value.ownBlock] at e2; subst e2; exact HFAR.out e
        · intro e2; simp [Value.ownBlock] at e2; rw [sZ.out] at e; omega
      have hfit := HF.out (os.getD k noAt) (by have := HL.out; simp [List.getD, show k < os.length by omega])
      rw [HX.out] at hfit
      have V0 : IntsV w1 (some ⟨ga, 0, none⟩) (l1 + 1) ca (x.items ++ [arg]) := intsV_own (fun z hz => by
        rcases List.mem_append.1 hz with h | h
        · exact hfit.2.2.2 z h
        · simp at h; subst h; exact HA.out) (by rw [List.length_append, HL1.out]; rfl) HOV
      have N0 := own_new HOV hgag
      have R := (HN.out.below bZ).grow HL.out HF.out hk (by rw [HE1.out, HX.out, HL1.out]; exact hg1) V0 N0
      rw [HX.out] at R
      refine ⟨rfl, R, ?_⟩
      refine Below.setCell ?_ hB _
      have hZB : Below B w Z := bZ.mono (by have := hB; omega)
      refine ⟨hg1.os.trans hZB.os, hg1.tape.trans hZB.tape, hg1.output.trans hZB.output, Nat.le_trans hZB.size hg1.size, fun i hi => (hg1.block i (by rw [sZ.out]; omega) ?_).trans (hZB.block i hi)⟩
      intro e
      have := ((show w.ownsRow B 2 1 (.slice a1 l1 c1) l1 (x.items.flatMap intC) from HOW.out).lt i e.symm).1
      omega

set_option maxRecDepth 100000 in
set_option maxHeartbeats 8000000 in
theorem get_any {B : Nat} {w : World} {g n : Nat} {os : List At} (h : Res B w g n os) (hf : ∀ x ∈ os, AtFit x) {k : Nat} (hk : k < n) (hB : B ≤ g) :
    Calls Try.prog 81 #[.pointer (some ⟨g, k * 4, none⟩)] w fun e w' => e = .returned (.int .i64 (if (os.getD k noAt).items.length = 0 then -1 else (os.getD k noAt).items.getD 0 0)) ∧ Res B w' g n (if (os.getD k noAt).items.length = 0 then os else os.set k { os.getD k noAt with items := (os.getD k noAt).items.drop 1 }) ∧ Below B w w' := by
  have HR : Hid _ := h
  obtain ⟨xs, hx⟩ := h.row
  have fz := hx.frozenAt (k * 4 + 3)
  obtain ⟨-, -, -, a1, l1, c1, q3, V, N⟩ := h.cell k hk
  have HV : Hid _ := V
  have HN : Hid _ := N
  have hl1 := V.count
  rw [hl1]
  by_cases h0 : l1 = 0
  · rw [if_pos h0, if_pos h0]
    subst h0
    clear h hx V N hl1
    go_enter Try.func81, Try.ntmps81
    go_wp2
    go_ret
    exact ⟨rfl, HR.out, Below.refl _ _⟩
  · rw [if_neg h0, if_neg h0]
    rcases V.cells with h1 | ⟨b, off, ha, hc⟩
    · exact absurd h1 h0
    subst ha
    have c0 := hc 0 (by omega)
    rw [Nat.add_zero] at c0
    have hroom := V.room
    generalize hz : (os.getD k noAt).items.getD 0 0 = z at c0 ⊢
    have HZ : Hid _ := hz
    have HC : Hid _ := hc
    have HL : Hid _ := hl1
    have hp : 0 < l1 := by omega
    have HR1 : Hid (c1 = 1 → Res B (w.setCell ⟨g, k * 4 + 3, none⟩ (.slice (some ⟨b, off, none⟩) 0 0)) g n (os.set k { os.getD k noAt with items := (os.getD k noAt).items.drop 1 })) := fun hc1 => by
      have e1 : l1 = 1 := by omega
      refine HR.out.items hk ⟨by rw [List.length_drop, hl1, e1], fun z hz => V.fits z (List.mem_of_mem_drop hz), fun e => (by cases e), ⟨by omega, Nat.zero_le _⟩, .inl rfl⟩ (fun ad ha => by cases ha; exact N _ rfl)
    have HR2 : Hid (¬ c1 = 1 → Res B (w.setCell ⟨g, k * 4 + 3, none⟩ (.slice (some ⟨b, off + 1, none⟩) (l1 - 1) (c1 - 1))) g n (os.set k { os.getD k noAt with items := (os.getD k noAt).items.drop 1 })) := fun hc1 => by
      refine HR.out.items hk ⟨by rw [List.length_drop, hl1], fun z hz => V.fits z (List.mem_of_mem_drop hz), fun e => (by cases e), ⟨by omega, by omega⟩, .inr ⟨b, off + 1, rfl, fun i hi => ?_⟩⟩ (fun ad ha => by cases ha; exact N ⟨b, off, none⟩ rfl)
      rw [show off + 1 + i = off + (1 + i) by omega, hc (1 + i) (by omega)]
      simp [List.getD, Nat.add_comm]
    have HB1 : Hid (∀ v, Below B w (w.setCell ⟨g, k * 4 + 3, none⟩ v)) := fun v => (Below.refl _ _).setCell hB _
    generalize os.set k { os.getD k noAt with items := (os.getD k noAt).items.drop 1 } = os2 at HR1 HR2 ⊢
    clear h hx V N hl1 hz h0 hc HC HL HZ
    by_cases hc1 : c1 = 1
    · have HRX : Hid _ := HR1.out hc1
      clear HR1 HR2
      subst hc1
      go_enter Try.func81, Try.ntmps81
      go_wp2
      go_ret
      exact ⟨rfl, HRX.out, HB1.out _⟩
    · have HRX : Hid _ := HR2.out hc1
      clear HR1 HR2
      go_enter Try.func81, Try.ntmps81
      go_wp2
      go_ret
      exact ⟨rfl, HRX.out, HB1.out _⟩

theorem acq_step {B : Nat} {w : World} {g n : Nat} {os : List At} {vs : List Value} (h : Nx B w g n os vs n) (hl : os.length = n) (hf : ∀ x ∈ os, AtFit x) {k : Nat} (hk : k < n) (hB : B ≤ g) (own arg : Int) (ha : (Lit.int .i64 arg).wf = true) (hs : (os.getD k noAt).items.length ≤ 1048576)  :
    Calls Try.prog 78 #[.pointer (some ⟨g, k * 4, none⟩), .int .i64 own] w fun e w' => e = .returned (.int .i64 (stepA (os.getD k noAt) own 1 arg).2.2) ∧ Res B w' g n (os.set k (stepA (os.getD k noAt) own 1 arg).1) ∧ Below B w w' := by
  refine (acq_any (h.res hl hf) hk hB own).mono ?_
  rintro e y ⟨rfl, hr, hb⟩
  refine ⟨?_, ?_, hb⟩
  · by_cases e : (os.getD k noAt).owner = 0 <;> simp only [stepA, if_true, if_false, if_pos, if_neg, ne_eq, not_true_eq_false, not_false_eq_true, e, or_self, show ¬ ((2 : Int) = 1) by decide, show ¬ ((3 : Int) = 1) by decide, show ¬ ((3 : Int) = 2) by decide]
  · by_cases e : (os.getD k noAt).owner = 0
    · simp only [e, ne_eq, not_true_eq_false, not_false_eq_true, if_true, if_false] at hr
      simpa only [stepA, e, ne_eq, not_true_eq_false, not_false_eq_true, if_true, if_false, set_same, show ¬ ((2 : Int) = 1) by decide, show ¬ ((3 : Int) = 1) by decide, show ¬ ((3 : Int) = 2) by decide] using hr
    · simp only [e, ne_eq, not_true_eq_false, not_false_eq_true, if_true, if_false] at hr
      simpa only [stepA, e, ne_eq, not_true_eq_false, not_false_eq_true, if_true, if_false, set_same, show ¬ ((2 : Int) = 1) by decide, show ¬ ((3 : Int) = 1) by decide, show ¬ ((3 : Int) = 2) by decide] using hr

theorem rel_step {B : Nat} {w : World} {g n : Nat} {os : List At} {vs : List Value} (h : Nx B w g n os vs n) (hl : os.length = n) (hf : ∀ x ∈ os, AtFit x) {k : Nat} (hk : k < n) (hB : B ≤ g) (own arg : Int) (ha : (Lit.int .i64 arg).wf = true) (hs : (os.getD k noAt).items.length ≤ 1048576)  :
    Calls Try.prog 79 #[.pointer (some ⟨g, k * 4, none⟩), .int .i64 own] w fun e w' => e = .returned (.int .i64 (stepA (os.getD k noAt) own 2 arg).2.2) ∧ Res B w' g n (os.set k (stepA (os.getD k noAt) own 2 arg).1) ∧ Below B w w' := by
  refine (rel_any (h.res hl hf) hk hB own).mono ?_
  rintro e y ⟨rfl, hr, hb⟩
  refine ⟨?_, ?_, hb⟩
  · by_cases e : (os.getD k noAt).owner = own <;> simp only [stepA, if_true, if_false, if_pos, if_neg, ne_eq, not_true_eq_false, not_false_eq_true, e, or_self, show ¬ ((2 : Int) = 1) by decide, show ¬ ((3 : Int) = 1) by decide, show ¬ ((3 : Int) = 2) by decide]
  · by_cases e : (os.getD k noAt).owner = own
    · simp only [e, ne_eq, not_true_eq_false, not_false_eq_true, if_true, if_false] at hr
      simpa only [stepA, e, ne_eq, not_true_eq_false, not_false_eq_true, if_true, if_false, set_same, show ¬ ((2 : Int) = 1) by decide, show ¬ ((3 : Int) = 1) by decide, show ¬ ((3 : Int) = 2) by decide] using hr
    · simp only [e, ne_eq, not_true_eq_false, not_false_eq_true, if_true, if_false] at hr
      simpa only [stepA, e, ne_eq, not_true_eq_false, not_false_eq_true, if_true, if_false, set_same, show ¬ ((2 : Int) = 1) by decide, show ¬ ((3 : Int) = 1) by decide, show ¬ ((3 : Int) = 2) by decide] using hr

theorem put_step {B : Nat} {w : World} {g n : Nat} {os : List At} {vs : List Value} (h : Nx B w g n os vs n) (hl : os.length = n) (hf : ∀ x ∈ os, AtFit x) {k : Nat} (hk : k < n) (hB : B ≤ g) (own arg : Int) (ha : (Lit.int .i64 arg).wf = true) (hs : (os.getD k noAt).items.length ≤ 1048576)  :
    Calls Try.prog 80 #[.pointer (some ⟨g, k * 4, none⟩), .int .i64 arg] w fun e w' => e = .returned (.int .i64 (stepA (os.getD k noAt) own 3 arg).2.1) ∧ Res B w' g n (os.set k (stepA (os.getD k noAt) own 3 arg).1) ∧ Below B w w' := by
  refine (put_any h hl hf hk hB arg ha hs).mono ?_
  rintro e y ⟨rfl, hr, hb⟩
  refine ⟨?_, ?_, hb⟩
  · by_cases e : (arg < 0 ∨ ((os.getD k noAt).items.length : Int) = (os.getD k noAt).cap) <;> simp only [stepA, if_true, if_false, if_pos, if_neg, ne_eq, not_true_eq_false, not_false_eq_true, e, or_self, show ¬ ((2 : Int) = 1) by decide, show ¬ ((3 : Int) = 1) by decide, show ¬ ((3 : Int) = 2) by decide]
  · by_cases e : (arg < 0 ∨ ((os.getD k noAt).items.length : Int) = (os.getD k noAt).cap)
    · simp only [e, ne_eq, not_true_eq_false, not_false_eq_true, if_true, if_false] at hr
      simpa only [stepA, e, ne_eq, not_true_eq_false, not_false_eq_true, if_true, if_false, set_same, show ¬ ((2 : Int) = 1) by decide, show ¬ ((3 : Int) = 1) by decide, show ¬ ((3 : Int) = 2) by decide] using hr
    · simp only [e, ne_eq, not_true_eq_false, not_false_eq_true, if_true, if_false] at hr
      simpa only [stepA, e, ne_eq, not_true_eq_false, not_false_eq_true, if_true, if_false, set_same, show ¬ ((2 : Int) = 1) by decide, show ¬ ((3 : Int) = 1) by decide, show ¬ ((3 : Int) = 2) by decide] using hr

theorem get_step {B : Nat} {w : World} {g n : Nat} {os : List At} {vs : List Value} (h : Nx B w g n os vs n) (hl : os.length = n) (hf : ∀ x ∈ os, AtFit x) {k : Nat} (hk : k < n) (hB : B ≤ g) (own arg : Int) (ha : (Lit.int .i64 arg).wf = true) (hs : (os.getD k noAt).items.length ≤ 1048576) (d : Int) (h1 : ¬ d = 1) (h2 : ¬ d = 2) (h3 : ¬ d = 3) :
    Calls Try.prog 81 #[.pointer (some ⟨g, k * 4, none⟩)] w fun e w' => e = .returned (.int .i64 (stepA (os.getD k noAt) own d arg).2.1) ∧ Res B w' g n (os.set k (stepA (os.getD k noAt) own d arg).1) ∧ Below B w w' := by
  refine (get_any (h.res hl hf) hf hk hB).mono ?_
  rintro e y ⟨rfl, hr, hb⟩
  refine ⟨?_, ?_, hb⟩
  · by_cases e : (os.getD k noAt).items.length = 0 <;> simp only [stepA, h1, h2, h3, if_true, if_false, if_pos, if_neg, ne_eq, not_true_eq_false, not_false_eq_true, e, or_self, show ¬ ((2 : Int) = 1) by decide, show ¬ ((3 : Int) = 1) by decide, show ¬ ((3 : Int) = 2) by decide]
  · by_cases e : (os.getD k noAt).items.length = 0
    · simp only [e, ne_eq, not_true_eq_false, not_false_eq_true, if_true, if_false] at hr
      simpa only [stepA, h1, h2, h3, e, ne_eq, not_true_eq_false, not_false_eq_true, if_true, if_false, set_same, show ¬ ((2 : Int) = 1) by decide, show ¬ ((3 : Int) = 1) by decide, show ¬ ((3 : Int) = 2) by decide] using hr
    · simp only [e, ne_eq, not_true_eq_false, not_false_eq_true, if_true, if_false] at hr
      simpa only [stepA, h1, h2, h3, e, ne_eq, not_true_eq_false, not_false_eq_true, if_true, if_false, set_same, show ¬ ((2 : Int) = 1) by decide, show ¬ ((3 : Int) = 1) by decide, show ¬ ((3 : Int) = 2) by decide] using hr

theorem step_z1 (x : At) (own arg : Int) : (stepA x own 1 arg).2.1 = 0 ∧ (stepA x own 2 arg).2.1 = 0 := by
  constructor
  · unfold stepA; simp only [if_true]; split <;> rfl
  · unfold stepA; simp only [show ¬ ((2 : Int) = 1) by decide, if_false, if_true]; split <;> rfl
theorem step_z2 (x : At) (own d arg : Int) (h1 : ¬ d = 1) (h2 : ¬ d = 2) : (stepA x own d arg).2.2 = 0 := by
  unfold stepA
  simp only [h1, h2, if_false]
  split <;> split <;> rfl

set_option maxRecDepth 100000 in
set_option maxHeartbeats 8000000 in
theorem op_any {B : Nat} {w : World} {g n : Nat} {os : List At} {vs : List Value} (h : Nx B w g n os vs n) (hl : os.length = n) (hf : ∀ x ∈ os, AtFit x) {k : Nat} (hk : k < n) (hB : B ≤ g) (own d arg : Int) (ha : (Lit.int .i64 arg).wf = true) (hs : (os.getD k noAt).items.length ≤ 1048576) :
    Calls Try.prog 74 #[.pointer (some ⟨g, k * 4, none⟩), .int .i64 own, .int .i64 d, .int .i64 arg] w fun e w' => e = .returned (.tuple #[.int .i64 (stepA (os.getD k noAt) own d arg).2.1, .int .i64 (stepA (os.getD k noAt) own d arg).2.2]) ∧ Res B w' g n (os.set k (stepA (os.getD k noAt) own d arg).1) ∧ Below B w w' := by
  have HN : Hid _ := h
  have HF : Hid _ := hf
  have HL : Hid _ := hl
  have HA : Hid _ := ha
  have HS : Hid _ := hs
  obtain ⟨n1, hn1⟩ : ∃ n1, (stepA (os.getD k noAt) own d arg).2.1 = n1 := ⟨_, rfl⟩
  obtain ⟨n2, hn2⟩ : ∃ n2, (stepA (os.getD k noAt) own d arg).2.2 = n2 := ⟨_, rfl⟩
  obtain ⟨n3, hn3⟩ : ∃ n3, os.set k (stepA (os.getD k noAt) own d arg).1 = n3 := ⟨_, rfl⟩
  rw [hn1, hn2, hn3]
  have H1 : Hid _ := hn1
  have H2 : Hid _ := hn2
  have H3 : Hid _ := hn3
  clear h hl hf ha hs hn1 hn2 hn3
  rcases (show d = 1 ∨ d = 2 ∨ d = 3 ∨ (¬ d = 1 ∧ ¬ d = 2 ∧ ¬ d = 3) by omega) with rfl | rfl | rfl | ⟨d1, d2, d3⟩
  · have HZ1 : Hid (n1 = 0) := H1.out.symm.trans (step_z1 _ _ _).1
    go_enter Try.func74, Try.ntmps74
    go_wp2_with fail
    refine (acq_step HN.out HL.out HF.out hk hB own arg HA.out HS.out).mono ?_
    rintro e y ⟨rfl, hr, hb⟩
    have R : Hid _ := hr
    have BB : Hid _ := hb
    rw [H2.out]
    clear hr hb
    go_wp2
    go_ret2
    exact ⟨by rw [HZ1.out]; rfl, by rw [← H3.out]; exact R.out, BB.out⟩
  · have HZ1 : Hid (n1 = 0) := H1.out.symm.trans (step_z1 _ _ _).2
    go_enter Try.func74, Try.ntmps74
    go_wp2_with fail
    refine (rel_step HN.out HL.out HF.out hk hB own arg HA.out HS.out).mono ?_
    rintro e y ⟨rfl, hr, hb⟩
    have R : Hid _ := hr
    have BB : Hid _ := hb
    rw [H2.out]
    clear hr hb
    go_wp2
    go_ret2
    exact ⟨by rw [HZ1.out]; rfl, by rw [← H3.out]; exact R.out, BB.out⟩
  · have HZ2 : Hid (n2 = 0) := H2.out.symm.trans (step_z2 _ _ _ _ (by decide) (by decide))
    go_enter Try.func74, Try.ntmps74
    go_wp2_with fail
    refine (put_step HN.out HL.out HF.out hk hB own arg HA.out HS.out).mono ?_
    rintro e y ⟨rfl, hr, hb⟩
    have R : Hid _ := hr
    have BB : Hid _ := hb
    rw [H1.out]
    clear hr hb
    go_wp2
    go_ret2
    exact ⟨by rw [HZ2.out]; rfl, by rw [← H3.out]; exact R.out, BB.out⟩
  · have HZ2 : Hid (n2 = 0) := H2.out.symm.trans (step_z2 _ _ _ _ d1 d2)
    go_enter Try.func74, Try.ntmps74
    go_wp2_with fail
    refine (get_step HN.out HL.out HF.out hk hB own arg HA.out HS.out d d1 d2 d3).mono ?_
    rintro e y ⟨rfl, hr, hb⟩
    have R : Hid _ := hr
    have BB : Hid _ := hb
    rw [H1.out]
    clear hr hb
    go_wp2
    go_ret2
    exact ⟨by rw [HZ2.out]; rfl, by rw [← H3.out]; exact R.out, BB.out⟩
end Go.Proofs.Ytafdjmccgijmnaa.A
