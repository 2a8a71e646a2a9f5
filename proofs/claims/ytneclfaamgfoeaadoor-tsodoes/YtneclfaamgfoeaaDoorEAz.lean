/- The document's machine: the oldest store leaves; all leave; what a thread sees. -/
import Derived.Test.YtneclfaamgfoeaaDoorEAy
namespace Go.Proofs.YtneclfaamgfoeaaDoor
open Go.RowKit Go.Maps
set_option linter.unusedVariables false
set_option linter.unusedSimpArgs false

section
variable {B : Nat} {w : World} {b : Nat} {M : T.Mach} {t : Nat → Nat} {D Sk : List Int} {vd vs : Value} {g cap : Nat} {ev : Value} {us : List Value}

set_option maxRecDepth 100000 in
set_option maxHeartbeats 4000000 in
theorem xleave_no (h : XV B w b M t D Sk vd vs g cap ev us) {k : Nat} (hk : k < M.ts.length) (he : (M.th k).ws = []) :
    Calls Tryd.prog 34 #[.pointer (some ⟨b, 0, none⟩), .int .i64 k] w fun e w' => e = .returned (.bool false) ∧ w' = w := by
  obtain ⟨u, hu⟩ := h.u hk
  have d11 := h.cell hk hu 11 _ rfl
  have hr := h.ws k _ u (T.th_at hk) hu
  rw [he] at hr
  obtain ⟨a, c, rfl, hnc, hcm⟩ := own_sl hr
  simp only [List.length_nil] at d11
  have c3 := h.c3
  have hro := h.room
  obtain ⟨n, hn⟩ : ∃ n, M.ts.length = n := ⟨_, rfl⟩
  rw [hn] at c3 hro hk
  obtain ⟨r1, r2, r3, r4⟩ := hro
  unfold maxLen at r2
  have i1 : (k : Int) < (n : Int) := by omega
  have i0 : (0 : Int) ≤ (k : Int) := by omega
  clear h hr hu hn
  go_enter Tryd.func34, Tryd.ntmps34
  go_wp2
  go_ret
  exact ⟨rfl, rfl⟩

set_option maxRecDepth 100000 in
set_option maxHeartbeats 4000000 in
theorem xleave_yes (h : XV B w b M t D Sk vd vs g cap ev us) {k : Nat} (hk : k < M.ts.length) {y v : Int} {r : List T.Wait} (he : (M.th k).ws = (y, v) :: r) (hy : (Lit.int .i64 y).wf = true) (hr8 : r.length ≤ 1000) :
    Calls Tryd.prog 34 #[.pointer (some ⟨b, 0, none⟩), .int .i64 k] w fun e w' => e = .returned (.bool true) ∧ XGone B w w' b (M.put k (T.upd M.mem y v) ⟨(M.th k).c, r⟩) t vd vs g cap := by
  obtain ⟨u, hu⟩ := h.u hk
  have d11 := h.cell hk hu 11 _ rfl
  have hr := h.ws k _ u (T.th_at hk) hu
  rw [he] at hr
  obtain ⟨a, c, rfl, hnc, hcm⟩ := own_sl hr
  rcases hr.2 with ⟨hn, -⟩ | ⟨x, c', cur, hsl, -⟩
  · cases hn
  obtain ⟨rfl, -, rfl⟩ : a = some ⟨x, 0, none⟩ ∧ True ∧ c = c' := by cases hsl; exact ⟨rfl, trivial, rfl⟩
  have x0 := hr.cellAt 0 (by simp)
  have x1 := hr.cellAt 1 (by simp; omega)
  simp only [List.length_cons, List.flatMap_cons, wC] at d11 x0 x1 hnc hr
  simp at x0 x1
  have c3 := h.c3
  have hro := h.room
  obtain ⟨n, hn⟩ : ∃ n, M.ts.length = n := ⟨_, rfl⟩
  have HTL : Hid (M.ts.length = n) := hn
  rw [hn] at c3 hro hk
  obtain ⟨r1, r2, r3, r4⟩ := hro
  unfold maxLen at r2 hcm
  have i1 : (k : Int) < (n : Int) := by omega
  have i0 : (0 : Int) ≤ (k : Int) := by omega
  obtain ⟨iw, hiw, hp0, hp1, hp2⟩ := info_partsL infoW
  have HV : Hid (XV B w b M t D Sk vd vs g cap ev us) := h
  have HV1 : Hid (XV B w.drew b M t D Sk vd vs g cap ev us) := h.below (Below.refl _ _).drew
  have HE : Hid ((M.th k).ws = (y, v) :: r) := he
  have HU : Hid (us[k]? = some (.slice (some ⟨x, 0, none⟩) (r.length + 1) c)) := hu
  have HKK : Hid (∀ (y2 : World) (D' S' : List Int), XV B y2 b { M with mem := T.upd M.mem y v } t D' S' vd vs g cap ev us → y2.cell? ⟨x, 0, none⟩ = some (.int .i64 y) ∧ y2.cell? ⟨x, 1, none⟩ = some (.int .i64 v) ∧ y2.ownsRow B 52 2 (.slice (some ⟨x, 0, none⟩) (r.length + 1) c) (r.length + 1) ([.int .i64 y, .int .i64 v] ++ r.flatMap wC)) := fun y2 D' S' hv => by
    have h1 : y2.ownsRow B 52 2 (.slice (some ⟨x, 0, none⟩) (r.length + 1) c) (r.length + 1) ([.int .i64 y, .int .i64 v] ++ r.flatMap wC) := by
      have h0 := hv.ws k (M.th k) _ (T.th_at (by rw [HTL.out]; exact hk)) HU.out
      rw [HE.out] at h0
      exact h0
    exact ⟨h1.cellAt 0 (by omega), h1.cellAt 1 (by omega), h1⟩
  have HST : Hid _ := xset_any HV1.out hy v
  clear h hr hsl he hu hn
  go_enter Tryd.func34, Tryd.ntmps34
  go_wp2_with fail
  go_region_held3 (fun w' : World => w'.cell? ⟨x, 0, none⟩ = some (.int .i64 y) ∧ w'.cell? ⟨x, 1, none⟩ = some (.int .i64 v)) (first | exact ⟨x0, x1⟩ | exact ⟨(HKK.out _ _ _ hv2).1, (HKK.out _ _ _ hv2).2.1⟩) ((go_at_call 48; refine Calls.mono HST.out ?_; rintro e y2 ⟨rfl, D2, S2, hv2, hs2⟩))
  obtain ⟨-, -, hr2⟩ := HKK.out _ _ _ hv2
  have d2 : y2.cell? ⟨g, k * 12 + 11, none⟩ = some (.slice (some ⟨x, 0, none⟩) (r.length + 1) c) := hv2.tc k (M.th k) _ (T.th_at (by rw [HTL.out]; exact hk)) HU.out 11 _ rfl
  have c32 : y2.cell? ⟨b, 3, none⟩ = some (.slice (some ⟨g, 0, none⟩) n cap) := by have := hv2.c3; rw [show (({ M with mem := T.upd M.mem y v } : T.Mach)).ts.length = n from HTL.out] at this; exact this
  have g2 := hv2.gz (k * 12 + 11)
  have hone : (1 : Int) ≤ (r.length : Int) + 1 := by omega
  obtain ⟨o, hif, ho2⟩ : ∃ o : Nat, (if c = 1 then (some ⟨x, 0, none⟩ : Option Addr) else some ⟨x, 2, none⟩) = some ⟨x, o, none⟩ ∧ (r = [] ∨ o = 2) := by
    by_cases e : c = 1
    · refine ⟨0, if_pos e, .inl (List.eq_nil_of_length_eq_zero (by omega))⟩
    · exact ⟨2, if_neg e, .inr rfl⟩
  have HNC : Hid (∀ ad : Addr, (some ⟨x, o, none⟩ : Option Addr) = some ad → ∀ j u, (r.flatMap wC)[j]? = some u → y2.drew.cell? (ad.add j) = some u) := fun ad had j u hj => by
    cases had
    rcases ho2 with rfl | rfl
    · simp at hj
    · have hjl := (List.getElem?_eq_some_iff.1 hj).1
      rw [flat_len' (m := 2) (fun _ => rfl)] at hjl
      have := hr2.cellAt (2 + j) (by omega)
      rw [Addr.add_lit]
      refine this.trans ?_
      rw [List.getElem?_append_right (by simp)]
      simpa using hj
  have HLN : Hid ((r.flatMap wC).length = r.length * 2) := flat_len' (m := 2) (fun _ => rfl) r
  have HON : Hid (∀ u ∈ r.flatMap wC, u.oneCell' = true) := fun u hu => by
    obtain ⟨p, -, hp⟩ := List.mem_flatMap.1 hu
    simp [wC] at hp
    rcases hp with rfl | rfl <;> rfl
  have HV2 : Hid (XV B y2 b { M with mem := T.upd M.mem y v } t D2 S2 vd vs g cap ev us) := hv2
  have HS2 : Hid (St t t w.drew y2) := hs2
  have HNIL : Hid (y2.drew.ownsRow B 52 2 (.slice none 0 0) 0 []) := World.ownsRow_nil _ _ _ _
  have HB2 : Hid (B ≤ y2.drew.heap.size) := hv2.hB
  have hgl2 := hv2.gl
  clear hv2 hs2 hr2 x0 x1 c3 d11 HST HKK HV1
  go_wp2_with fail
  go_region_law ((refine step_append_more (by rfl) _ _ 45 (by rfl) B 52 iw _ 2 16 Tryd.underlying45 hiw hp0 hp1 hp2 (by rfl) (by decide) (by rfl) HNIL.out HB2.out (by rfl) (fun e => by cases e) HLN.out HNC.out HON.out (by omega) (by omega) ?_; intro v6 Y6 ho6 hg6 hat6; obtain ⟨a6, c6, rfl, -⟩ := own_sl ho6; have m6 : Y6.cell? ⟨g, k * 12 + 11, none⟩ = some (.slice (some ⟨x, 0, none⟩) (r.length + 1) c) := hg6.cell d2 (by simp [Value.ownBlock]); have m36 : Y6.cell? ⟨b, 3, none⟩ = some (.slice (some ⟨g, 0, none⟩) n cap) := hg6.cell c32 (by simp [Value.ownBlock]); have z6 : Y6.frozen? ⟨g, k * 12 + 11, none⟩ = false := (hg6.frozen_far ⟨g, k * 12 + 11, none⟩ hgl2 (by simp [Value.ownBlock])).trans g2))
  all_goals
    go_wp2
    go_ret
    rw [Nat.zero_add, List.nil_append] at ho6
    obtain ⟨r1, r2⟩ := HV2.out.wait (k := k) (by show k < M.ts.length; rw [HTL.out]; exact hk) HU.out (X := y2.drew) (Below.refl _ _).drew ho6 hg6 (.inl rfl) (fun x hx => (hat6 x (by simpa using hx)).imp (fun e => by cases e) id)
    exact ⟨rfl, _, _, _, _, _, r1, (St.ofBelow t (Below.refl _ _).drew).trans (HS2.out.trans r2)⟩

end

end Go.Proofs.YtneclfaamgfoeaaDoor
