/- Objects in a row of one's own, one of them laid over by copy. -/
import Derived.Test.YtafdjmccgijmnaaHiClone
import Derived.Test.YtafdjmccgijmnaaHiPlace
import Derived.Test.YtafdjmccgijmnaaHiObj
namespace Go
variable {P : Program}
theorem run_copy_wide (w : World) (dT sT ty elem : TypeId) (s b o dLen dCap : Nat) (a : Addr) (sLen sCap : Nat) (cs : List Value)
    (hu : P.underlying dT = some (.slice elem)) (hs : (P.info? elem).map (·.size) = some s) (hn : cs.length = Nat.min sLen dLen * s)
    (hsrc : ∀ j v, cs[j]? = some v → w.cell? (a.add j) = some v) (hc : ∀ j, j < cs.length → (w.cell? ⟨b, o + j, none⟩).isSome = true) (hf : ∀ j, j < cs.length → w.frozen? ⟨b, o + j, none⟩ = false) (h1 : ∀ v ∈ cs, v.oneCell' = true) :
    (Builtin.copy_ #[dT, sT] ty #[.slice (some ⟨b, o, none⟩) dLen dCap, .slice (some a) sLen sCap]).run P w = .ok (goInt (Nat.min sLen dLen)) (w.setCells b o cs) := by
  have hl := run_loadCells_list (P := P) w a cs hsrc
  have hst := run_storeCells_cells (P := P) b o cs 0 w (by simpa using hc) (by simpa using hf) h1
  cases hq : P.info? elem with
  | none => simp [hq] at hs
  | some i =>
    have hi : i.size = s := by simpa [hq] using hs
    simp [Builtin.copy_, run_underlying hu, Builtin.lenOf, Builtin.firstCells, sizeOf, typeInfo, hq, hi, ← hn, hl, hst]
theorem run_copy_wide0 (w : World) (dT sT ty elem : TypeId) (d a : Option Addr) (dLen dCap sLen sCap : Nat) (hu : P.underlying dT = some (.slice elem)) (hs : ((P.info? elem).map (·.size)).isSome = true) (hn : Nat.min sLen dLen = 0) :
    (Builtin.copy_ #[dT, sT] ty #[.slice d dLen dCap, .slice a sLen sCap]).run P w = .ok (goInt 0) w := by
  cases hq : P.info? elem with
  | none => simp [hq] at hs
  | some i =>
    have hl : ∀ (x : Addr), (loadCells x 0).run P w = .ok #[] w := fun x => by simpa using run_loadCells_list (P := P) w x [] (by simp)
    cases d <;> cases a <;> simp [Builtin.copy_, run_underlying hu, Builtin.lenOf, Builtin.firstCells, sizeOf, typeInfo, hq, hn, storeCells, hl]
end Go
namespace Go.Proofs.Ytafdjmccgijmnaa
open Go.RowKit A Go.Maps
set_option linter.unusedVariables false
set_option linter.unusedSimpArgs false
/-- Objects in a row of one's own, with items that stay whatever becomes of the row. -/
structure OB (B : Nat) (W : World) (g n : Nat) (s : List At) : Prop where
  ge : B ≤ g
  lt : g < W.heap.size
  len : s.length = n
  fits : ∀ x ∈ s, AtFit x
  room : n ≤ maxLen
  fro : ∀ j, W.frozen? ⟨g, j, none⟩ = false
  cell : ∀ i, i < n → W.cell? ⟨g, i * 4, none⟩ = some (.string (s.getD i noAt).name) ∧ W.cell? ⟨g, i * 4 + 1, none⟩ = some (.int .i64 (s.getD i noAt).cap) ∧ W.cell? ⟨g, i * 4 + 2, none⟩ = some (.int .i64 (s.getD i noAt).owner) ∧ ∃ a1 l1 c1, W.cell? ⟨g, i * 4 + 3, none⟩ = some (.slice a1 l1 c1) ∧ ∀ W1 : World, (∀ b o v, B ≤ b → b ≠ g → W.cell? ⟨b, o, none⟩ = some v → W1.cell? ⟨b, o, none⟩ = some v) → IntsV W1 a1 l1 c1 (s.getD i noAt).items
theorem OB.stay {B : Nat} {W : World} {g n : Nat} {s : List At} (h : OB B W g n s) : Stay B W (some ⟨g, 0, none⟩) n n s := by
  intro W1 hk
  refine ⟨h.len, h.fits, fun e => (by cases e), ⟨Nat.le_refl _, h.room⟩, .inr ⟨g, 0, rfl, fun i hi => ?_⟩⟩
  obtain ⟨c0, c1, c2, a1, l1, c1', c3, V⟩ := h.cell i hi
  simp only [Nat.zero_add]
  exact ⟨hk _ _ _ h.ge c0, hk _ _ _ h.ge c1, hk _ _ _ h.ge c2, a1, l1, c1', hk _ _ _ h.ge c3, V W1 fun b o v hb _ hc => hk b o v hb hc⟩
theorem OB.view {B : Nat} {W : World} {g n : Nat} {s : List At} (h : OB B W g n s) : AtsV W (some ⟨g, 0, none⟩) n n s := h.stay.ats
theorem OB.below {B : Nat} {W y : World} {g n : Nat} {s : List At} (h : OB B W g n s) (hb : Below W.heap.size W y) : OB B y g n s := by
  refine ⟨h.ge, Nat.lt_of_lt_of_le h.lt hb.size, h.len, h.fits, h.room, fun j => ?_, fun i hi => ?_⟩
  · have := h.fro j
    unfold World.frozen? at this ⊢
    simp only at this ⊢
    rw [hb.block g h.lt]
    exact this
  · obtain ⟨c0, c1, c2, a1, l1, c1', c3, V⟩ := h.cell i hi
    exact ⟨hcell_thru hb c0, hcell_thru hb c1, hcell_thru hb c2, a1, l1, c1', hcell_thru hb c3, fun W1 hk => V W1 fun b o v h1 h2 h3 => hk b o v h1 h2 (hcell_thru hb h3)⟩
theorem OB.of {B : Nat} {W : World} {g n : Nat} {s : List At} {vs : List Value} (h : Nx B W g n s vs n) (hl : s.length = n) (hf : ∀ x ∈ s, AtFit x) (hB : B ≤ g) : OB B W g n s := by
  have hr := h.res hl hf
  obtain ⟨xs, hx⟩ := h.row
  refine ⟨hB, h.lt, hl, hf, (own_room hx).2, fun j => hx.frozenAt j, fun i hi => ?_⟩
  obtain ⟨c0, c1, c2, a1, l1, c1', c3, V, N⟩ := hr.cell i hi
  refine ⟨c0, c1, c2, a1, l1, c1', c3, fun W1 hk => ⟨V.count, V.fits, V.nilOf, V.room, ?_⟩⟩
  rcases V.cells with h0 | ⟨b, off, ha, hc⟩
  · exact .inl h0
  · exact .inr ⟨b, off, ha, fun j hj => hk _ _ _ (N _ ha).1 (fun e => (N _ ha).2.1 e) (hc j hj)⟩
/-- One object laid over. -/
theorem OB.copy {B B2 : Nat} {W : World} {g n : Nat} {s : List At} (h : OB B W g n s) {j h2 c : Nat} {x : At} (hj : j < n) (hs : Stay B2 W (some ⟨h2, 0, none⟩) 1 c [x]) (hB : B ≤ B2) (hg : g < B2) (hh : B2 ≤ h2) (dc : Nat) :
    ∃ y, (∀ ty, (Builtin.copy_ #[22, 22] ty #[.slice (some ⟨g, 0 + j * 4, none⟩) 1 dc, .slice (some ⟨h2, 0, none⟩) 1 c]).run Try.prog W = .ok (goInt 1) y) ∧ OB B y g n (s.set j x) ∧ Below B W y := by
  have hinf : ((Try.prog.info? 49).map (·.size)) = some 4 := by kernel_rfl
  have hv := hs.ats
  obtain ⟨b0, off0, e0, hc0⟩ : ∃ b off, (some ⟨h2, 0, none⟩ : Option Addr) = some ⟨b, off, none⟩ ∧ _ := by
    rcases hv.cells with h0 | hx
    · cases h0
    · exact hx
  cases e0
  have hx := hc0 0 (by omega)
  simp only [Nat.zero_mul, Nat.zero_add, Nat.add_zero, List.getD_cons_zero] at hx
  obtain ⟨x0, x1, x2, a1, l1, c1, x3, V⟩ := hx
  obtain ⟨cs, hcs⟩ : ∃ cs : List Value, cs = [.string x.name, .int .i64 x.cap, .int .i64 x.owner, .slice a1 l1 c1] := ⟨_, rfl⟩
  have hl4 : cs.length = 4 := by rw [hcs]; rfl
  obtain ⟨o0, o1, o2, u1, u2, u3, o3, -⟩ := h.cell j hj
  have hsome : ∀ q, q < cs.length → (W.cell? ⟨g, j * 4 + q, none⟩).isSome = true := fun q hq => by
    rcases (show q = 0 ∨ q = 1 ∨ q = 2 ∨ q = 3 by omega) with rfl | rfl | rfl | rfl
    · rw [Nat.add_zero, o0]; rfl
    · rw [o1]; rfl
    · rw [o2]; rfl
    · rw [o3]; rfl
  have hin : ∀ q v, cs[q]? = some v → (W.setCells g (j * 4) cs).cell? ⟨g, j * 4 + q, none⟩ = some v := fun q v hq => by
    have hql : q < cs.length := (List.getElem?_eq_some_iff.1 hq).1
    rw [World.cell?_setCells_in _ _ _ _ hsome q hql, ← hq, List.getElem?_eq_getElem hql]
  have hout : ∀ q, (q < j * 4 ∨ j * 4 + 4 ≤ q) → (W.setCells g (j * 4) cs).cell? ⟨g, q, none⟩ = W.cell? ⟨g, q, none⟩ := fun q hq => World.cell?_setCells_out _ _ _ _ _ (fun _ _ => by rw [hl4]; exact hq)
  have hfar : ∀ b o, b ≠ g → (W.setCells g (j * 4) cs).cell? ⟨b, o, none⟩ = W.cell? ⟨b, o, none⟩ := fun b o hb => World.cell?_setCells_out _ _ _ _ _ (fun e => absurd e hb)
  have hsiz : ∀ (vs : List Value) (o : Nat) (X : World), (X.setCells g o vs).heap.size = X.heap.size := by
    intro vs
    induction vs with
    | nil => intro o X; rfl
    | cons v r ih => intro o X; rw [World.setCells, ih, World.size_setCell]
  refine ⟨W.setCells g (j * 4) cs, fun ty => ?_, ⟨h.ge, by rw [hsiz]; exact h.lt, by rw [List.length_set]; exact h.len, fun z hz => ?_, h.room, fun q => by rw [World.frozen?_setCells]; exact h.fro q, fun i hi => ?_⟩, ?_⟩
  · rw [Nat.zero_add]
    refine run_copy_wide (P := Try.prog) W 22 22 ty 49 4 g (j * 4) 1 dc ⟨h2, 0, none⟩ 1 c cs Try.underlying22 hinf (by rw [hl4]; rfl) (fun q v hq => ?_) hsome (fun q _ => h.fro _) (fun v hv => ?_)
    · have hql : q < cs.length := (List.getElem?_eq_some_iff.1 hq).1
      rw [show (⟨h2, 0, none⟩ : Addr).add q = ⟨h2, q, none⟩ from by unfold Addr.add; split <;> simp_all]
      rw [hcs] at hq
      rcases (show q = 0 ∨ q = 1 ∨ q = 2 ∨ q = 3 by omega) with rfl | rfl | rfl | rfl
      · cases hq; exact x0
      · cases hq; exact x1
      · cases hq; exact x2
      · cases hq; exact x3
    · rw [hcs] at hv
      simp at hv
      rcases hv with rfl | rfl | rfl | rfl <;> rfl
  · rcases List.mem_or_eq_of_mem_set hz with hz | rfl
    · exact h.fits z hz
    · exact hv.fits _ (List.mem_singleton.2 rfl)
  · by_cases e : j = i
    · subst e
      rw [A.getD_set_eq _ _ _ (by rw [h.len]; exact hj)]
      refine ⟨by have := hin 0 _ (by rw [hcs]; rfl); simpa using this, hin 1 _ (by rw [hcs]; rfl), hin 2 _ (by rw [hcs]; rfl), a1, l1, c1, hin 3 _ (by rw [hcs]; rfl), fun W1 hk => ?_⟩
      have hW : ∀ b o v, B2 ≤ b → W.cell? ⟨b, o, none⟩ = some v → W1.cell? ⟨b, o, none⟩ = some v := fun b o v hb hc => hk b o v (by omega) (by omega) (by rw [hfar b o (by omega)]; exact hc)
      have hv1 := hs W1 hW
      obtain ⟨b3, o3', e3, hc3⟩ : ∃ b off, (some ⟨h2, 0, none⟩ : Option Addr) = some ⟨b, off, none⟩ ∧ _ := by
        rcases hv1.cells with h0 | hx
        · cases h0
        · exact hx
      cases e3
      have hx := hc3 0 (by omega)
      simp only [Nat.zero_mul, Nat.zero_add, Nat.add_zero, List.getD_cons_zero] at hx
      obtain ⟨-, -, -, a4, l4, c4, y3, V4⟩ := hx
      have := hW _ _ _ hh x3
      rw [this] at y3
      cases y3
      exact V4
    · rw [A.getD_set_ne _ _ _ e]
      obtain ⟨c0, c1, c2, a5, l5, c5, c3, V5⟩ := h.cell i hi
      refine ⟨by rw [hout _ (by omega)]; exact c0, by rw [hout _ (by omega)]; exact c1, by rw [hout _ (by omega)]; exact c2, a5, l5, c5, by rw [hout _ (by omega)]; exact c3, fun W1 hk => V5 W1 fun b o v h1 h2 h3 => hk b o v h1 h2 (by rw [hfar b o h2]; exact h3)⟩
  · have hgo : ∀ (vs : List Value) (o : Nat) (X : World), Below B W X → Below B W (X.setCells g o vs) := by
      intro vs
      induction vs with
      | nil => intro o X hX; exact hX
      | cons v r ih => intro o X hX; exact ih _ _ (hX.setCell h.ge v)
    exact hgo _ _ _ (Below.refl _ _)
end Go.Proofs.Ytafdjmccgijmnaa
