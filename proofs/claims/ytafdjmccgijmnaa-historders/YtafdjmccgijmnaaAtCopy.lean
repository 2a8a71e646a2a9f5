/- What the document's Copy comes to. (Written by gen_copy.py.) -/
import Derived.Test.YtafdjmccgijmnaaAtDo
namespace Go.Proofs.Ytafdjmccgijmnaa.A
open Go.RowKit Go.Maps Go.Lib
set_option linter.unusedVariables false
set_option linter.unusedSimpArgs false

/-- The first k of n objects, in a row of the call's own, each with its items in a row of their own. -/
structure Nc (B : Nat) (w : World) (g n cp : Nat) (os : List At) (vs : List Value) (k : Nat) : Prop where
  row : ∃ xs, w.ownsRow B 49 4 (.slice (some ⟨g, 0, none⟩) n cp) n xs
  cell : ∀ i, i < k → w.cell? ⟨g, i * 4, none⟩ = some (.string (os.getD i noAt).name) ∧ w.cell? ⟨g, i * 4 + 1, none⟩ = some (.int .i64 (os.getD i noAt).cap) ∧ w.cell? ⟨g, i * 4 + 2, none⟩ = some (.int .i64 (os.getD i noAt).owner) ∧ w.cell? ⟨g, i * 4 + 3, none⟩ = some (vs.getD i nilV)
  len : vs.length = k
  own : ∀ i, i < k → w.ownsRow B 2 1 (vs.getD i nilV) (os.getD i noAt).items.length ((os.getD i noAt).items.flatMap intC)
  far : ∀ i, i < k → (vs.getD i nilV).ownBlock ≠ some g
  dis : ∀ i j, i < k → j < k → i ≠ j → ∀ b, (vs.getD i nilV).ownBlock = some b → (vs.getD j nilV).ownBlock ≠ some b

theorem Nc.lt {B : Nat} {w : World} {g n cp : Nat} {os : List At} {vs : List Value} {k : Nat} (h : Nc B w g n cp os vs k) : g < w.heap.size := by
  obtain ⟨xs, hx⟩ := h.row
  exact (hx.lt g rfl).2

theorem Nc.below {B : Nat} {w w' : World} {g n cp : Nat} {os : List At} {vs : List Value} {k : Nat} (h : Nc B w g n cp os vs k) (hb : Below w.heap.size w w') : Nc B w' g n cp os vs k := by
  obtain ⟨xs, hx⟩ := h.row
  exact ⟨⟨xs, row_thru hx hb⟩, fun i hi => ⟨cell_thru hb (h.cell i hi).1, cell_thru hb (h.cell i hi).2.1, cell_thru hb (h.cell i hi).2.2.1, cell_thru hb (h.cell i hi).2.2.2⟩, h.len, fun i hi => row_thru (h.own i hi) hb, h.far, h.dis⟩
/-- Objects in a row of the call's own: what is handed back. -/
structure Rc (B : Nat) (w : World) (g n cp : Nat) (os : List At) : Prop where
  row : ∃ xs, w.ownsRow B 49 4 (.slice (some ⟨g, 0, none⟩) n cp) n xs
  len : os.length = n
  cell : ∀ i, i < n → w.cell? ⟨g, i * 4, none⟩ = some (.string (os.getD i noAt).name) ∧ w.cell? ⟨g, i * 4 + 1, none⟩ = some (.int .i64 (os.getD i noAt).cap) ∧ w.cell? ⟨g, i * 4 + 2, none⟩ = some (.int .i64 (os.getD i noAt).owner) ∧ ∃ a1 l1 c1, w.cell? ⟨g, i * 4 + 3, none⟩ = some (.slice a1 l1 c1) ∧ IntsV w a1 l1 c1 (os.getD i noAt).items ∧ New B g w a1
theorem Nc.res {B : Nat} {w : World} {g n cp : Nat} {os : List At} {vs : List Value} (h : Nc B w g n cp os vs n) (hl : os.length = n) (hf : ∀ x ∈ os, AtFit x) : Rc B w g n cp os := by
  refine ⟨h.row, hl, fun i hi => ?_⟩
  obtain ⟨c0, c1, c2, c3⟩ := h.cell i hi
  have ho := h.own i hi
  have hfar := h.far i hi
  obtain ⟨a, c, e⟩ := own_form ho
  rw [e] at c3 ho hfar
  have hff := hf (os.getD i noAt) (by simp [List.getD, show i < os.length by omega])
  exact ⟨c0, c1, c2, a, _, c, c3, intsV_own hff.2.2.2 rfl ho, own_new ho hfar⟩
/-- A new owner. -/
theorem Rc.owner {B : Nat} {w : World} {g n cp : Nat} {os : List At} (h : Rc B w g n cp os) {k : Nat} (hk : k < n) (o : Int) : Rc B (w.setCell ⟨g, k * 4 + 2, none⟩ (.int .i64 o)) g n cp (os.set k { os.getD k noAt with owner := o }) := by
  obtain ⟨xs, hx⟩ := h.row
  refine ⟨⟨_, (hx.stored (k * 4 + 2) (.int .i64 o)).1⟩, by rw [List.length_set]; exact h.len, fun i hi => ?_⟩
  obtain ⟨c0, c1, c2, a1, l1, c1', c3, V, N⟩ := h.cell i hi
  obtain ⟨-, -, r2, -⟩ := h.cell k hk
  obtain ⟨e, eo⟩ := set1 w g (k * 4 + 2) (.int .i64 o) r2
  have hV := V.set ⟨g, k * 4 + 2, none⟩ (fun ad ha => (N ad ha).2.1) (.int .i64 o)
  have hN := N.set ⟨g, k * 4 + 2, none⟩ (.int .i64 o)
  by_cases hik : k = i
  · subst hik
    rw [getD_set_eq _ _ _ (by rw [h.len]; exact hk)]
    exact ⟨(eo _ (by omega)).trans c0, (eo _ (by omega)).trans c1, e, a1, l1, c1', (eo _ (by omega)).trans c3, hV, hN⟩
  · rw [getD_set_ne _ _ _ hik, eo _ (by omega), eo _ (by omega), eo _ (by omega), eo _ (by omega)]
    exact ⟨c0, c1, c2, a1, l1, c1', c3, hV, hN⟩
/-- New items. -/
theorem Rc.items {B : Nat} {w : World} {g n cp : Nat} {os : List At} (h : Rc B w g n cp os) {k : Nat} (hk : k < n) {a : Option Addr} {l c : Nat} {zs : List Int} (V0 : IntsV w a l c zs) (N0 : New B g w a) : Rc B (w.setCell ⟨g, k * 4 + 3, none⟩ (.slice a l c)) g n cp (os.set k { os.getD k noAt with items := zs }) := by
  obtain ⟨xs, hx⟩ := h.row
  refine ⟨⟨_, (hx.stored (k * 4 + 3) (.slice a l c)).1⟩, by rw [List.length_set]; exact h.len, fun i hi => ?_⟩
  obtain ⟨c0, c1, c2, a1, l1, c1', c3, V, N⟩ := h.cell i hi
  obtain ⟨-, -, -, _, _, _, r3, -⟩ := h.cell k hk
  obtain ⟨e, eo⟩ := set1 w g (k * 4 + 3) (.slice a l c) r3
  have hV := V.set ⟨g, k * 4 + 3, none⟩ (fun ad ha => (N ad ha).2.1) (.slice a l c)
  have hN := N.set ⟨g, k * 4 + 3, none⟩ (.slice a l c)
  have hV0 := V0.set ⟨g, k * 4 + 3, none⟩ (fun ad ha => (N0 ad ha).2.1) (.slice a l c)
  have hN0 := N0.set ⟨g, k * 4 + 3, none⟩ (.slice a l c)
  by_cases hik : k = i
  · subst hik
    rw [getD_set_eq _ _ _ (by rw [h.len]; exact hk), eo _ (by omega), eo _ (by omega), eo _ (by omega)]
    exact ⟨c0, c1, c2, a, l, c, e, hV0, hN0⟩
  · rw [getD_set_ne _ _ _ hik, eo _ (by omega), eo _ (by omega), eo _ (by omega), eo _ (by omega)]
    exact ⟨c0, c1, c2, a1, l1, c1', c3, hV, hN⟩
/-- Number k's row of items grows. -/
theorem Nc.grow {B : Nat} {w w1 : World} {g n cp : Nat} {os : List At} {vs : List Value} (h : Nc B w g n cp os vs n) (hl : os.length = n) (hf : ∀ x ∈ os, AtFit x) {k : Nat} (hk : k < n) (hg : w.grownBy w1 (vs.getD k nilV).ownBlock) {a : Option Addr} {l c : Nat} {zs : List Int} (V0 : IntsV w1 a l c zs) (N0 : New B g w1 a) :
    Rc B (w1.setCell ⟨g, k * 4 + 3, none⟩ (.slice a l c)) g n cp (os.set k { os.getD k noAt with items := zs }) := by
  obtain ⟨xs, hx⟩ := h.row
  have hkg : (vs.getD k nilV).ownBlock ≠ some g := h.far k hk
  have hx1 : w1.ownsRow B 49 4 (.slice (some ⟨g, 0, none⟩) n cp) n xs := hx.kept hg (.inr fun e => hkg e.symm)
  have key : ∀ i, i < n → w1.cell? ⟨g, i * 4, none⟩ = some (.string (os.getD i noAt).name) ∧ w1.cell? ⟨g, i * 4 + 1, none⟩ = some (.int .i64 (os.getD i noAt).cap) ∧ w1.cell? ⟨g, i * 4 + 2, none⟩ = some (.int .i64 (os.getD i noAt).owner) ∧ ∃ a1 l1 c1, w1.cell? ⟨g, i * 4 + 3, none⟩ = some (.slice a1 l1 c1) ∧ (i ≠ k → IntsV w1 a1 l1 c1 (os.getD i noAt).items ∧ New B g w1 a1) := by
    intro i hi
    obtain ⟨c0, c1, c2, c3⟩ := h.cell i hi
    obtain ⟨a1, c1', e⟩ := own_form (h.own i hi)
    have ne : some g ≠ (vs.getD k nilV).ownBlock := fun e => hkg e.symm
    refine ⟨hg.cell c0 ne, hg.cell c1 ne, hg.cell c2 ne, a1, _, c1', by rw [← e]; exact hg.cell c3 ne, fun hik => ?_⟩
    have ho := (h.own i hi).kept hg (by
      cases e2 : (vs.getD i nilV).ownBlock with
      | none => exact .inl rfl
      | some b => exact .inr (fun e3 => h.dis i k hi hk hik b e2 e3.symm))
    have hfar := h.far i hi
    have hff := hf (os.getD i noAt) (by simp [List.getD, show i < os.length by omega])
    rw [e] at ho hfar
    exact ⟨intsV_own hff.2.2.2 rfl ho, own_new ho hfar⟩
  refine ⟨⟨_, (hx1.stored (k * 4 + 3) (.slice a l c)).1⟩, by rw [List.length_set]; exact hl, fun i hi => ?_⟩
  obtain ⟨c0, c1, c2, a1, l1, c1', c3, hVN⟩ := key i hi
  obtain ⟨-, -, -, _, _, _, r3, -⟩ := key k hk
  obtain ⟨e, eo⟩ := set1 w1 g (k * 4 + 3) (.slice a l c) r3
  have hV0 := V0.set ⟨g, k * 4 + 3, none⟩ (fun ad ha => (N0 ad ha).2.1) (.slice a l c)
  have hN0 := N0.set ⟨g, k * 4 + 3, none⟩ (.slice a l c)
  by_cases hik : k = i
  · subst hik
    rw [getD_set_eq _ _ _ (by rw [hl]; exact hk), eo _ (by omega), eo _ (by omega), eo _ (by omega)]
    exact ⟨c0, c1, c2, a, l, c, e, hV0, hN0⟩
  · obtain ⟨V, N⟩ := hVN (fun e => hik e.symm)
    rw [getD_set_ne _ _ _ hik, eo _ (by omega), eo _ (by omega), eo _ (by omega), eo _ (by omega)]
    exact ⟨c0, c1, c2, a1, l1, c1', c3, V.set ⟨g, k * 4 + 3, none⟩ (fun ad ha => (N ad ha).2.1) (.slice a l c), N.set ⟨g, k * 4 + 3, none⟩ (.slice a l c)⟩

theorem Rc.ats {B : Nat} {w : World} {g n cp : Nat} {os : List At} (h : Rc B w g n cp os) (hf : ∀ x ∈ os, AtFit x) : AtsV w (some ⟨g, 0, none⟩) n cp os := by
  obtain ⟨xs, hx⟩ := h.row
  refine ⟨h.len, hf, fun e => (by cases e), own_room hx, .inr ⟨g, 0, rfl, fun i hi => ?_⟩⟩
  obtain ⟨c0, c1, c2, a1, l1, c1', c3, V, -⟩ := h.cell i hi
  simp only [Nat.zero_add]
  exact ⟨c0, c1, c2, a1, l1, c1', c3, V⟩

/-- The cells of the first k objects. -/
def quads (os : List At) (vs : List Value) (k : Nat) : List Value := (List.range k).flatMap fun i => [.string (os.getD i noAt).name, .int .i64 (os.getD i noAt).cap, .int .i64 (os.getD i noAt).owner, vs.getD i nilV]
theorem quads_len (os : List At) (vs : List Value) (k : Nat) : (quads os vs k).length = k * 4 := by
  have := flat_len' (m := 4) (f := fun i => [.string (os.getD i noAt).name, .int .i64 (os.getD i noAt).cap, .int .i64 (os.getD i noAt).owner, vs.getD i nilV]) (fun _ => rfl) (List.range k)
  rwa [List.length_range] at this
theorem quads_at (os : List At) (vs : List Value) {k i j : Nat} (hi : i < k) (hj : j < 4) : (quads os vs k)[i * 4 + j]? = [.string (os.getD i noAt).name, .int .i64 (os.getD i noAt).cap, .int .i64 (os.getD i noAt).owner, vs.getD i nilV][j]? := by
  have := flat_at (fun i => [.string (os.getD i noAt).name, .int .i64 (os.getD i noAt).cap, .int .i64 (os.getD i noAt).owner, vs.getD i nilV]) 4 0 (fun _ => rfl) (List.range k) i j (by simpa using hi) hj
  unfold quads
  rw [this]
  simp [List.getD, hi]
theorem flat_ext {α β : Type} {f g : α → List β} : ∀ {l : List α}, (∀ x ∈ l, f x = g x) → l.flatMap f = l.flatMap g
  | [], _ => rfl
  | x :: l, h => by rw [List.flatMap_cons, List.flatMap_cons, h x (by simp), flat_ext (fun y hy => h y (by simp [hy]))]
theorem quads_snoc (os : List At) (vs : List Value) (v : Value) {k : Nat} (hk : vs.length = k) : quads os (vs ++ [v]) (k + 1) = quads os vs k ++ [.string (os.getD k noAt).name, .int .i64 (os.getD k noAt).cap, .int .i64 (os.getD k noAt).owner, v] := by
  unfold quads
  rw [List.range_succ, List.flatMap_append]
  congr 1
  · refine flat_ext (fun i hi => ?_)
    have : i < k := by simpa using hi
    rw [getD_snoc_lt _ _ _ (by omega)]
  · simp only [List.flatMap_cons, List.flatMap_nil, List.append_nil]
    rw [getD_snoc_eq _ _ _ hk.symm]
/-- The first k objects, copied: a row that grows. -/
structure Cx (B : Nat) (w : World) (lv : Value) (os : List At) (vs : List Value) (k : Nat) : Prop where
  row : w.ownsRow B 49 4 lv k (quads os vs k)
  len : vs.length = k
  own : ∀ i, i < k → w.ownsRow B 2 1 (vs.getD i nilV) (os.getD i noAt).items.length ((os.getD i noAt).items.flatMap intC)
  far : ∀ i, i < k → ∀ b, lv.ownBlock = some b → (vs.getD i nilV).ownBlock ≠ some b
  dis : ∀ i j, i < k → j < k → i ≠ j → ∀ b, (vs.getD i nilV).ownBlock = some b → (vs.getD j nilV).ownBlock ≠ some b
theorem Cx.below {B : Nat} {w w' : World} {lv : Value} {os : List At} {vs : List Value} {k : Nat} (h : Cx B w lv os vs k) (hb : Below w.heap.size w w') : Cx B w' lv os vs k :=
  ⟨row_thru h.row hb, h.len, fun i hi => row_thru (h.own i hi) hb, h.far, h.dis⟩
theorem Cx.push {B C : Nat} {w w1 : World} {lv : Value} {os : List At} {vs : List Value} {k : Nat} (h : Cx B w lv os vs k) {v : Value} (ho : w.ownsRow C 2 1 v (os.getD k noAt).items.length ((os.getD k noAt).items.flatMap intC)) (hC : ∀ i, i < k → ∀ b, (vs.getD i nilV).ownBlock = some b → b < C) (hgC : ∀ b, lv.ownBlock = some b → b < C) (hBC : B ≤ C)
    {g cp : Nat} (hr : w1.ownsRow B 49 4 (.slice (some ⟨g, 0, none⟩) (k + 1) cp) (k + 1) (quads os vs k ++ [.string (os.getD k noAt).name, .int .i64 (os.getD k noAt).cap, .int .i64 (os.getD k noAt).owner, v])) (hg : w.grownBy w1 lv.ownBlock) (hat : lv.ownBlock = some g ∨ g = w.heap.size) :
    Cx B w1 (.slice (some ⟨g, 0, none⟩) (k + 1) cp) os (vs ++ [v]) (k + 1) := by
  have hl := h.len
  have hvl : v.ownBlock ≠ lv.ownBlock ∨ v.ownBlock = none := by
    cases e : v.ownBlock with
    | none => exact .inr rfl
    | some b => exact .inl (fun e2 => by have := (ho.lt b e).1; have := hgC b e2.symm; omega)
  refine ⟨by rw [quads_snoc _ _ _ hl]; exact hr, by simp [hl], fun i hi => ?_, fun i hi b hb => ?_, fun i j hi hj hne b hb => ?_⟩
  · by_cases e : i = k
    · subst e
      rw [getD_snoc_eq _ _ _ hl.symm]
      exact own_base (ho.kept hg hvl.symm) hBC
    · rw [getD_snoc_lt _ _ _ (by omega)]
      refine (h.own i (by omega)).kept hg ?_
      cases e2 : (vs.getD i nilV).ownBlock with
      | none => exact .inl rfl
      | some b => exact .inr (fun e3 => h.far i (by omega) b e3.symm e2)
  · simp [Value.ownBlock] at hb
    subst hb
    by_cases e : i = k
    · subst e
      rw [getD_snoc_eq _ _ _ hl.symm]
      rcases hat with e2 | e2
      · exact fun e3 => by have := (ho.lt _ e3).1; have := hgC _ e2; omega
      · exact fun e3 => by have := (ho.lt _ e3).2; omega
    · rw [getD_snoc_lt _ _ _ (by omega)]
      rcases hat with e2 | e2
      · exact h.far i (by omega) _ e2
      · exact fun e3 => by have := ((h.own i (by omega)).lt _ e3).2; omega
  · by_cases e : i = k
    · subst e
      rw [getD_snoc_eq _ _ _ hl.symm] at hb
      rw [getD_snoc_lt _ _ _ (by omega)]
      intro hb2
      have := hC j (by omega) b hb2
      have := (ho.lt b hb).1
      omega
    · rw [getD_snoc_lt _ _ _ (by omega)] at hb
      by_cases e2 : j = k
      · subst e2
        rw [getD_snoc_eq _ _ _ hl.symm]
        intro hb2
        have := hC i (by omega) b hb
        have := (ho.lt b hb2).1
        omega
      · rw [getD_snoc_lt _ _ _ (by omega)]
        exact h.dis i j (by omega) (by omega) hne b hb
theorem Cx.nc {B : Nat} {w : World} {g cp : Nat} {os : List At} {vs : List Value} {k : Nat} (h : Cx B w (.slice (some ⟨g, 0, none⟩) k cp) os vs k) : Nc B w g k cp os vs k := by
  refine ⟨⟨_, h.row⟩, fun i hi => ?_, h.len, h.own, fun i hi => h.far i hi g rfl, h.dis⟩
  have key : ∀ j u, j < 4 → [.string (os.getD i noAt).name, .int .i64 (os.getD i noAt).cap, .int .i64 (os.getD i noAt).owner, vs.getD i nilV][j]? = some u → w.cell? ⟨g, i * 4 + j, none⟩ = some u := fun j u hj hu => by
    rw [h.row.cellAt _ (by omega), quads_at _ _ hi hj]; exact hu
  exact ⟨key 0 _ (by decide) rfl, key 1 _ (by decide) rfl, key 2 _ (by decide) rfl, key 3 _ (by decide) rfl⟩
theorem Cx.form {B : Nat} {w : World} {lv : Value} {os : List At} {vs : List Value} {k : Nat} (h : Cx B w lv os vs k) : (lv = .slice none 0 0 ∧ k = 0) ∨ ∃ g cp, lv = .slice (some ⟨g, 0, none⟩) k cp := by
  rcases h.row.2 with h1 | ⟨g, cap, cur, rfl, -⟩
  · exact .inl h1
  · exact .inr ⟨g, cap, rfl⟩
theorem Cx.ats {B : Nat} {w : World} {lv : Value} {os : List At} {vs : List Value} (h : Cx B w lv os vs os.length) (hf : ∀ x ∈ os, AtFit x) : ∃ a c, lv = .slice a os.length c ∧ AtsV w a os.length c os := by
  rcases h.form with ⟨rfl, h0⟩ | ⟨g, cp, rfl⟩
  · refine ⟨none, 0, by rw [h0], ?_⟩
    have : os = [] := List.eq_nil_of_length_eq_zero h0
    subst this
    exact ⟨rfl, by simp, fun _ => ⟨rfl, rfl⟩, ⟨Nat.le_refl _, Nat.zero_le _⟩, .inl rfl⟩
  · exact ⟨_, cp, rfl, (h.nc.res rfl hf).ats hf⟩
theorem step_append_copy {ops : Array Oper} {o : Oper} {ac : Act} {w : World} {K : Act → World → Prop} {Q : Exit → Act → World → Prop} {E : Prop} (hgd : o.guard = none) (s x : Operand) (t : TypeId)
    (ho : o.op = .call { callee := .builtin .append, args := #[s, x], argTypes := #[t, t] }) (e : TypeId) (i0 : TypeInfo) (z : Value) (size bytes : Nat) (ht : Try.prog.underlying t = some (.slice e)) (hi : Try.prog.info? e = some i0) (hz : i0.zero = some z) (hsize : i0.size = size) (hby : i0.bytes = bytes) (hzs : z.cells.size = size) (hsz : 0 < size)
    {a : Option Addr} {l c : Nat} {cs : List Value} (hs : ac.eval s = .slice none 0 0) (hx : ac.eval x = .slice a l c) (hnil : a = none → l = 0 ∧ c = 0) (hlen : cs.length = l * size) (hcells : ∀ ad, a = some ad → ∀ j u, cs[j]? = some u → w.cell? (ad.add j) = some u) (h1 : ∀ u ∈ cs, u.oneCell' = true) (hb : l * bytes ≤ 140737488355328) (hm : l ≤ 140737488355328)
    (hk : ∀ a' c' w', w'.ownsRow w.heap.size e size (.slice a' l c') l cs → Below w.heap.size w w' → K (ac.put o.dst (.slice a' l c')) w') :
    if Region.wanted o (yielded ops ac.tmps) = true then Oper.wp Try.prog o ac w K Q else E := by
  have hw : Region.wanted o (yielded ops ac.tmps) = true := by simp [Region.wanted, hgd]
  rw [if_pos hw]
  obtain ⟨a', c', w', hr, h2, h3⟩ := run_append_copy w t e i0 z size bytes ht hi hz hsize hby hzs hsz hnil hlen hcells h1 hb hm o.type
  unfold Oper.wp execOp
  simp only [ho, resolve, invoke, builtin, Sem.run_bind, Sem.run_pure, Result.andThen_ok, List.map_toArray, List.map_cons, List.map_nil, hs, hx, hr]
  exact hk a' c' w' h2 h3

set_option maxRecDepth 100000 in
set_option maxHeartbeats 8000000 in
theorem rcopy_any {w : World} {a : Option Addr} {l c : Nat} {os : List At} (h : AtsV w a l c os) (hl : l ≤ 1048576) (hi : ∀ x ∈ os, x.items.length * 8 ≤ 140737488355328) :
    Calls Try.prog 10 #[.slice a l c] w fun e w' => (∃ lv, e = .returned lv ∧ ∃ vs, Cx w.heap.size w' lv os vs l) ∧ Below w.heap.size w w' := by
  obtain ⟨i1, hi1, hz10, hz11, hz12⟩ := info_parts infoI
  obtain ⟨i2, hi2, hz20, hz21, hz22⟩ := info_parts infoA
  have HV : Hid _ := h
  have HI : Hid _ := hi
  have HC : Hid _ := h.count
  have hm := h.room
  have hmax : maxLen = 9223372036854775807 := rfl
  clear h hi
  go_enter Try.func10, Try.ntmps10
  go_wp2_with fail
  go_loopg [3, 4] l (fun r lv iv wq => ∃ (k : Nat) (vs : List Value), iv = .int .i64 k ∧ k ≤ l ∧ l - k ≤ r ∧ Hid (Cx w.heap.size wq lv os vs k) ∧ Hid (Below w.heap.size w wq))
  case atStart => exact ⟨0, [], rfl, Nat.zero_le _, by omega, ⟨World.ownsRow_nil _ _ _ _, rfl, fun i hi => by omega, fun i hi => by omega, fun i j hi => by omega⟩, Below.refl _ _⟩
  case round =>
    obtain ⟨k, vs, rfl, hk, hr, HN, HBL⟩ := hrel
    by_cases hlt : k < l
    · rcases HV.out.cells with h0 | ⟨b, off, hA, hcl⟩
      · omega
      obtain ⟨q0, q1, q2, a1, l1, c1, q3, V⟩ := hcl k hlt
      have hbw : b < w.heap.size := World.block_lt_of_cell? w ⟨b, off + k * 4, none⟩ q0
      have HVW : Hid _ := V
      have HQ3 : Hid _ := q3
      have q0 := cell_thru HBL.out q0
      have q1 := cell_thru HBL.out q1
      have q2 := cell_thru HBL.out q2
      have q3 := cell_thru HBL.out q3
      have HL1 : Hid _ := HI.out (os.getD k noAt) (by have := HC.out; simp [List.getD, show k < os.length by omega])
      obtain ⟨x, hx⟩ : ∃ x, os.getD k noAt = x := ⟨_, rfl⟩
      have HX : Hid _ := hx
      rw [hx] at q0 q1 q2 HVW HL1
      cases hA
      have hii : (k : Int) < l := by omega
      have hin : 0 ≤ (k : Int) := by omega
      have hww : w.heap.size ≤ wr.heap.size := HBL.out.size
      clear hcl hx V
      obtain ⟨Y0, hY0⟩ : ∃ Y0, wr.alloc (.cells #[.string x.name, .int .i64 x.cap, .int .i64 x.owner, .slice a1 l1 c1] 49) = Y0 := ⟨_, rfl⟩
      have f3 : Y0.cell? ⟨wr.heap.size, 3, none⟩ = some (.slice a1 l1 c1) := by subst hY0; exact cell_last rfl rfl
      have z3 : Y0.frozen? ⟨wr.heap.size, 3, none⟩ = false := by subst hY0; exact World.frozen?_alloc_at _ _ _ _ (by simp)
      have bY0 : Below wr.heap.size wr Y0 := by subst hY0; exact bl_one _ _
      have f0 : Y0.cell? ⟨wr.heap.size, 0, none⟩ = some (.string x.name) := by subst hY0; exact cell_last rfl rfl
      have f1' : Y0.cell? ⟨wr.heap.size, 1, none⟩ = some (.int .i64 x.cap) := by subst hY0; exact cell_last rfl rfl
      have f2 : Y0.cell? ⟨wr.heap.size, 2, none⟩ = some (.int .i64 x.owner) := by subst hY0; exact cell_last rfl rfl
      have SY0 : Hid (Y0.heap.size = wr.heap.size + 1) := by show _ = _; subst hY0; simp
      go_wp2_with fail
      obtain ⟨Y1, hY1⟩ : ∃ Y1, Y0.setCell ⟨wr.heap.size, 3, none⟩ (.slice none 0 0) = Y1 := ⟨_, rfl⟩
      rw [hY1]
      have bY : Below wr.heap.size wr Y1 := by subst hY1; exact bY0.setCell (Nat.le_refl _) _
      have SY : Hid (Y1.heap.size = wr.heap.size + 1) := by show _ = _; subst hY1; rw [World.size_setCell]; exact SY0.out
      have g0 : Y1.cell? ⟨wr.heap.size, 0, none⟩ = some (.string x.name) := by subst hY1; rw [World.cell?_setCell_other _ _ _ _ (by simp)]; exact f0
      have g1 : Y1.cell? ⟨wr.heap.size, 1, none⟩ = some (.int .i64 x.cap) := by subst hY1; rw [World.cell?_setCell_other _ _ _ _ (by simp)]; exact f1'
      have g2 : Y1.cell? ⟨wr.heap.size, 2, none⟩ = some (.int .i64 x.owner) := by subst hY1; rw [World.cell?_setCell_other _ _ _ _ (by simp)]; exact f2
      have g3 : Y1.cell? ⟨wr.heap.size, 3, none⟩ = some (.slice none 0 0) := by subst hY1; exact World.cell?_setCell_same' _ _ _ (by rw [f3]; rfl)
      have zY1 : Y1.frozen? ⟨wr.heap.size, 3, none⟩ = false := by subst hY1; rw [World.frozen?_setCell]; exact z3
      have hbwY : Below w.heap.size w Y1 := HBL.out.trans (bY.mono hww)
      have HVD : Hid _ := HVW.out.below hbwY.drew
      have HSR : Hid _ := HVD.out.src
      have hl1 : l1 * 8 ≤ 140737488355328 := by have := HVW.out.count; have := HL1.out; omega
      have qs : Y1.drew.cell? ⟨b, off + k * 4 + 3, none⟩ = some (.slice a1 l1 c1) := cell_thru hbwY.drew HQ3.out
      have nb : wr.heap.size ≠ b := by omega
      clear f0 f1' f2 f3 z3 q0 q1 q2 q3
      refine wp_region_held_drew (S := (fun w' : World => w'.cell? ⟨b, off + k * 4 + 3, none⟩ = some (.slice a1 l1 c1))) (by kernel_rfl) qs (fun hHeld => ?_)
      refine wpAnyH_take (i := 0) (v := ?_) (get0 _ _) (by kernel_rfl) (by kernel_rfl) (by kernel_rfl) (fun _ _ _ h => h) (Or.inl ⟨by rfl, ?_⟩) (by assumption) ?_
      rotate_left
      · (intro w hSw; (try dsimp only at hSw); go_simp <;> with_reducible rfl)
      simp only [Act.put, List.setIfInBounds_toArray, List.set_cons_zero, List.set_cons_succ]
      refine wpAnyH_take (i := 2) (v := ?_) (get1 (get1 (get0 _ _))) (by kernel_rfl) (by kernel_rfl) (by kernel_rfl) (fun _ _ _ h => h) (Or.inl ⟨by rfl, ?_⟩) (by assumption) ?_
      rotate_left
      · (intro w hSw; (try dsimp only at hSw); go_simp <;> with_reducible rfl)
      simp only [Act.put, List.setIfInBounds_toArray, List.set_cons_zero, List.set_cons_succ]
      refine wpAnyH_take (i := 3) (v := ?_) (get1 (get1 (get1 (get0 _ _)))) (by kernel_rfl) (by kernel_rfl) (by kernel_rfl) (fun _ _ _ h => h) (Or.inl ⟨by rfl, ?_⟩) (by assumption) ?_
      rotate_left
      · (intro w hSw; (try dsimp only at hSw); go_simp <;> with_reducible rfl)
      simp only [Act.put, List.setIfInBounds_toArray, List.set_cons_zero, List.set_cons_succ]
      refine wpAnyH_take (i := 4) (v := ?_) (get1 (get1 (get1 (get1 (get0 _ _))))) (by kernel_rfl) (by kernel_rfl) (by kernel_rfl) (fun _ _ _ h => h) (Or.inl ⟨by rfl, ?_⟩) (by assumption) ?_
      rotate_left
      · (intro w hSw; (try dsimp only at hSw); go_simp <;> with_reducible rfl)
      simp only [Act.put, List.setIfInBounds_toArray, List.set_cons_zero, List.set_cons_succ]
      refine wpAnyH_take (i := 5) (v := ?_) (get1 (get1 (get1 (get1 (get1 (get0 _ _)))))) (by kernel_rfl) (by kernel_rfl) (by kernel_rfl) (fun _ _ _ h => h) (Or.inl ⟨by rfl, ?_⟩) (by assumption) ?_
      rotate_left
      · (intro w hSw; (try dsimp only at hSw); go_simp <;> with_reducible rfl)
      simp only [Act.put, List.setIfInBounds_toArray, List.set_cons_zero, List.set_cons_succ]
      refine wpAnyH_take (i := 6) (v := ?_) (get1 (get1 (get1 (get1 (get1 (get1 (get0 _ _))))))) (by kernel_rfl) (by kernel_rfl) (by kernel_rfl) (fun _ _ _ h => h) (Or.inl ⟨by rfl, ?_⟩) (by assumption) ?_
      rotate_left
      · (intro w hSw; (try dsimp only at hSw); go_simp <;> with_reducible rfl)
      simp only [Act.put, List.setIfInBounds_toArray, List.set_cons_zero, List.set_cons_succ]
      refine wpAnyH_ready (rs := [1]) (by kernel_rfl) (by simp) ?_
      refine AllReadyH.cons (get1 (get0 _ _)) (fun K hK => ?_) AllReadyH.nil
      go_simp
      refine hK.out _ _ hHeld (fun hHeld => ?_)
      clear hK K
      try simp only [Act.put, List.setIfInBounds_toArray, List.set_cons_zero, List.set_cons_succ]
      refine wpAnyH_ready (rs := [7]) (by kernel_rfl) (by simp) ?_
      refine AllReadyH.cons (get1 (get1 (get1 (get1 (get1 (get1 (get1 (get0 _ _)))))))) (fun K hK => ?_) AllReadyH.nil
      refine step_append_copy (by rfl) _ _ 47 (by rfl) 2 i1 _ 1 8 Try.underlying47 hi1 hz10 hz11 hz12 rfl (by decide) (a := a1) (l := l1) (c := c1) (cs := x.items.flatMap intC) (by rfl) (by rfl) HVD.out.nilOf HSR.out.1 HSR.out.2.1 HSR.out.2.2 (by omega) (by omega) ?_
      intro e1 f1 Y2 hoY2 hbY2
      have HY2 : Hid _ := hoY2
      have HB2 : Hid (Below Y1.heap.size Y1 Y2) := ⟨hbY2.os, hbY2.tape, hbY2.output, hbY2.size, hbY2.block⟩
      have gY2 := cell_thru HB2.out g3
      have zY2 : Y2.frozen? ⟨wr.heap.size, 3, none⟩ = false := (HB2.out.frozen (p := ⟨wr.heap.size, 3, none⟩) (by show wr.heap.size < Y1.heap.size; rw [SY.out]; exact Nat.lt_succ_self _)).trans zY1
      have tY2 : Y2.cell? ⟨b, off + k * 4 + 3, none⟩ = some (.slice a1 l1 c1) := cell_thru hbY2 qs
      refine hK.out _ _ tY2 (fun hHeld => ?_)
      clear hK K
      try simp only [Act.put, List.setIfInBounds_toArray, List.set_cons_zero, List.set_cons_succ]
      refine wpAnyH_take (i := 8) (v := ?_) (get1 (get1 (get1 (get1 (get1 (get1 (get1 (get1 (get0 _ _))))))))) (by kernel_rfl) (by kernel_rfl) (by kernel_rfl) (fun _ _ _ h => h) (Or.inl ⟨by rfl, ?_⟩) (by assumption) ?_
      rotate_left
      · (intro w hSw; (try dsimp only at hSw); go_simp <;> with_reducible rfl)
      simp only [Act.put, List.setIfInBounds_toArray, List.set_cons_zero, List.set_cons_succ]
      refine wpAnyH_ready (rs := [9]) (by kernel_rfl) (by simp) ?_
      refine AllReadyH.cons (get1 (get1 (get1 (get1 (get1 (get1 (get1 (get1 (get1 (get0 _ _)))))))))) (fun K hK => ?_) AllReadyH.nil
      go_simp
      refine hK.out _ _ ((World.cell?_setCell_far Y2 ⟨wr.heap.size, 3, none⟩ ⟨b, off + k * 4 + 3, none⟩ _ nb).trans tY2) (fun hHeld => ?_)
      clear hK K
      try simp only [Act.put, List.setIfInBounds_toArray, List.set_cons_zero, List.set_cons_succ]
      refine wpAnyH_done (by kernel_rfl) ?_ _
      clear hHeld
      obtain ⟨Y3, hY3⟩ : ∃ Y3, Y2.setCell ⟨wr.heap.size, 3, none⟩ (.slice e1 l1 f1) = Y3 := ⟨_, rfl⟩
      have p0 : Y3.cell? ⟨wr.heap.size, 0, none⟩ = some (.string x.name) := by subst hY3; rw [World.cell?_setCell_other _ _ _ _ (by simp)]; exact cell_thru HB2.out g0
      have p1 : Y3.cell? ⟨wr.heap.size, 1, none⟩ = some (.int .i64 x.cap) := by subst hY3; rw [World.cell?_setCell_other _ _ _ _ (by simp)]; exact cell_thru HB2.out g1
      have p2 : Y3.cell? ⟨wr.heap.size, 2, none⟩ = some (.int .i64 x.owner) := by subst hY3; rw [World.cell?_setCell_other _ _ _ _ (by simp)]; exact cell_thru HB2.out g2
      have p3 : Y3.cell? ⟨wr.heap.size, 3, none⟩ = some (.slice e1 l1 f1) := by subst hY3; exact World.cell?_setCell_same' _ _ _ (by rw [gY2]; rfl)
      have B3 : Hid (Below wr.heap.size wr Y3) := by
        show Below _ _ _
        subst hY3
        exact (bY.trans (HB2.out.mono (by rw [SY.out]; omega))).setCell (Nat.le_refl _) _
      have O3 : Hid (Y3.ownsRow (wr.heap.size + 1) 2 1 (.slice e1 l1 f1) l1 (x.items.flatMap intC)) := by
        show World.ownsRow _ _ _ _ _ _ _
        have h1 : Y2.ownsRow (wr.heap.size + 1) 2 1 (.slice e1 l1 f1) l1 (x.items.flatMap intC) := own_base HY2.out (by simp only [World.size_drew]; rw [SY.out]; exact Nat.le_refl _)
        subst hY3
        exact h1.kept (gb_setO _ _ _) (.inr fun e => by have := (h1.lt _ e).1; simp at this; omega)
      obtain ⟨Z, hZ⟩ : ∃ Z, Y3.alloc (.cells #[.string x.name, .int .i64 x.cap, .int .i64 x.owner, .slice e1 l1 f1] 49) = Z := ⟨_, rfl⟩
      have bZ : Below Y3.heap.size Y3 Z := by subst hZ; exact bl_one _ _
      have hz3 : wr.heap.size + 1 ≤ Y3.heap.size := by subst hY3; rw [World.size_setCell]; have := HB2.out.size; rw [SY.out] at this; exact this
      have BZ : Hid (Below wr.heap.size wr Z) := B3.out.trans (bZ.mono (by omega))
      have NZ : Hid (Cx w.heap.size Z u3 os vs k) := HN.out.below BZ.out
      have OZ : Hid (Z.ownsRow (wr.heap.size + 1) 2 1 (.slice e1 l1 f1) x.items.length (x.items.flatMap intC)) := by show World.ownsRow _ _ _ _ _ _ _; rw [HVW.out.count]; exact row_thru O3.out bZ
      have HWZ : Hid (w.heap.size ≤ Z.heap.size) := by show _ ≤ _; have := BZ.out.size; omega
      have HNC : Hid (∀ j u, ([.string x.name, .int .i64 x.cap, .int .i64 x.owner, .slice e1 l1 f1] : List Value)[j]? = some u → Z.cell? ((⟨Y3.heap.size, 0, none⟩ : Addr).add j) = some u) := by
        intro j u hu
        subst hZ
        rw [Addr.add_lit, Nat.zero_add]
        exact cell_last rfl (by simpa using hu)
      clear bZ g0 g1 g2 g3 gY2 zY2 tY2 hoY2 hbY2 qs nb zY1
      rw [hY3]
      go_wp2_with (first | (at_builtin; refine wpList_append_lies _ rfl _ _ 22 rfl w.heap.size 49 i2 _ 4 56 Try.underlying22 hi2 hz20 hz21 hz22 rfl (by decide) u3 k (quads os vs k) rfl NZ.out.row ⟨Y3.heap.size, 0, none⟩ 1 1 [.string x.name, .int .i64 x.cap, .int .i64 x.owner, .slice e1 l1 f1] rfl rfl HNC.out (by intro u hu; simp at hu; rcases hu with rfl | rfl | rfl | rfl <;> rfl) (by decide) (by omega) (by omega) HWZ.out Z.heap.size rfl ?_; intro ga ca w1 ho1 hg1 hat1 hlt1; have HO1 : Hid _ := ho1; have HG1 : Hid _ := hg1; have HAT1 : Hid _ := hat1; clear ho1 hg1 hat1) | fail)
      have CX : Hid (Cx w.heap.size w1 (.slice (some ⟨ga, 0, none⟩) (k + 1) ca) os (vs ++ [.slice e1 l1 f1]) (k + 1)) := by
        refine NZ.out.push (C := wr.heap.size + 1) (by rw [HX.out]; exact OZ.out) (fun i hi b hb => by have := ((HN.out.own i hi).lt b hb).2; omega) (fun b hb => by have := (HN.out.row.lt b hb).2; omega) (by omega) (by rw [HX.out]; exact HO1.out) HG1.out HAT1.out
      have B4 : Hid (Below w.heap.size w w1) := by
        have hb := HBL.out.trans (BZ.out.mono HBL.out.size)
        refine ⟨HG1.out.os.trans hb.os, HG1.out.tape.trans hb.tape, HG1.out.output.trans hb.output, Nat.le_trans hb.size HG1.out.size, fun i hi => (HG1.out.block i (by have := hb.size; omega) ?_).trans (hb.block i hi)⟩
        intro e
        have := (HN.out.row.lt i e.symm).1
        omega
      go_roundg (l - (k + 1))
      case measure => omega
      case rel => exact ⟨k + 1, _, by first | rfl | (congr 1; omega), by omega, Nat.le_refl _, CX.out, B4.out⟩
    · obtain rfl : k = l := by omega
      have hii : ¬ (k : Int) < k := by omega
      go_wp2_with fail
      go_ret
      exact ⟨⟨_, rfl, _, HN.out⟩, HBL.out⟩
end Go.Proofs.Ytafdjmccgijmnaa.A
