/- What the lists, form and Write come to. (Written by gen_form.py.) -/
import Derived.Test.YtcfdfnghaigkjaaObjSymPut
import Derived.Test.YtcfdfnghaigkjaaObjCheckB
namespace Go.Proofs.Ytcfdfnghaigkjaa
open Go.RowKit Go.Maps Go.Lib
set_option linter.unusedVariables false

theorem flat_snoc {α : Type} (f : α → List Int) (zs : List α) (d : α) (k : Nat) (h : k < zs.length) : (zs.take (k + 1)).flatMap f = (zs.take k).flatMap f ++ f (zs.getD k d) := by
  rw [List.take_succ_eq_append_getElem h, List.flatMap_append]; simp [List.getD, h]
theorem symB_len {s : Sym} (h : s.name.size ≤ 1000) : (symB s).length ≤ 1100 := by
  have h1 := W.put_length (s.name.size : Int)
  have h2 := W.put_length s.pos
  have h3 := nums_len s.name
  simp only [symB, txt, List.length_append, List.length_cons, List.length_nil]
  omega
theorem relB_len {r : Rel} (h : r.name.size ≤ 1000) (ha : (Lit.int .i64 r.add).wf = true) : (relB r).length ≤ 1100 := by
  have h1 := W.put_length (r.name.size : Int)
  have h2 := W.put_length r.pos
  have h3 := nums_len r.name
  have h4 := (long_len ha).1
  simp only [relB, txt, List.length_append, List.length_cons, List.length_nil]
  omega
def Apart (v : Value) (a : Option Addr) : Prop := ∀ b off, a = some ⟨b, off, none⟩ → v.ownBlock ≠ some b
theorem Gr.apart {w w' : World} {v v' : Value} (h : Gr w w' v v') {b : Nat} (hb : b < w.heap.size) (hne : v.ownBlock ≠ some b) : v'.ownBlock ≠ some b := fun e => by
  rcases h.lies b e with h1 | h1
  · exact hne h1
  · omega
/-- What a piece of a form needs. -/
def SymFit (s : Sym) : Prop := s.name.size ≤ 1000 ∧ 0 ≤ s.kind ∧ s.kind ≤ 255 ∧ 0 ≤ s.pos ∧ s.pos ≤ 9223372036854775807
def RelFit (r : Rel) : Prop := r.name.size ≤ 1000 ∧ 0 ≤ r.kind ∧ r.kind ≤ 255 ∧ 0 ≤ r.pos ∧ r.pos ≤ 9223372036854775807 ∧ (Lit.int .i64 r.add).wf = true

set_option maxRecDepth 100000 in
set_option maxHeartbeats 4000000 in
theorem listI_any {w : World} {B : Nat} {v : Value} {xs : List Int} (ho : RowB w B v xs) (hB : B ≤ w.heap.size) {a : Option Addr} {l c : Nat} {zs : List Int} (h : IntsV w a l c zs) (hv : 0 < l → Apart v a) (hf : ∀ z ∈ zs, (Lit.int .i64 z).wf = true) (hl : l ≤ 8000) (hm : xs.length ≤ 20000000) :
    Calls Try.prog 36 #[v, .slice a l c, .func (.func 37) #[] #[]] w fun e w' => ∃ v', e = .returned v' ∧ RowB w' B v' (xs ++ (W.put l ++ zs.flatMap long)) ∧ Gr w w' v v' := by
  have HV : Hid _ := h
  have HO : Hid _ := ho
  have HF : Hid _ := hf
  have HAP : Hid _ := hv
  have hcnt := h.count
  have hpl := W.put_length (l : Int)
  clear h ho hf hv
  go_enter Try.func36, Try.ntmps36
  go_wp2_with fail
  refine (number_any' HO.out hB (l : Int) (by omega) (by omega) (by omega)).mono ?_
  rintro e w1 ⟨v1, rfl, ho1, g1⟩
  have HO1 : Hid _ := ho1
  have G1 : Hid _ := g1
  have hl1 : (xs ++ W.put (l : Int)).length ≤ 20000010 := by rw [List.length_append]; omega
  clear ho1 g1
  go_wp2_with fail
  go_loopg [0, 15] l (fun r bv iv wq => ∃ (k : Nat) (ys : List Int), iv = .int .i64 k ∧ k ≤ l ∧ l - k ≤ r ∧ ys.length ≤ 20000010 + 1100 * k ∧ Hid (ys = xs ++ (W.put l ++ (zs.take k).flatMap long)) ∧ Hid (RowB wq B bv ys) ∧ Hid (Gr w wq v bv))
  case atStart => exact ⟨0, xs ++ W.put (l : Int), rfl, Nat.zero_le _, by omega, by omega, (by simp : xs ++ W.put (l : Int) = xs ++ (W.put l ++ (zs.take 0).flatMap long)), HO1.out, G1.out⟩
  case round =>
    obtain ⟨k, ys, rfl, hk, hr, hyl, HY, HR, G⟩ := hrel
    have hBr : B ≤ wr.heap.size := Nat.le_trans hB G.out.grown.size
    by_cases hlt : k < l
    · rcases HV.out.cells with h0 | ⟨b, off, hA, hc⟩
      · omega
      have k0 := hc k hlt
      have hne : v.ownBlock ≠ some b := HAP.out (by omega) b off hA
      have q0 := G.out.cell k0 hne
      have HFL : Hid _ := flat_snoc long zs 0 k (by omega)
      have hfit := HF.out (zs.getD k 0) (by simp [List.getD, show k < zs.length by omega])
      have HPC : Hid ((long (zs.getD k 0)).length ≤ 1100) := by show _ ≤ _; rw [(long_len hfit).1]; decide
      subst hA
      have hii : (k : Int) < l := by omega
      have hin : 0 ≤ (k : Int) := by omega
      clear hc k0
      obtain ⟨x, hx⟩ : ∃ x, zs.getD k 0 = x := ⟨_, rfl⟩
      rw [hx] at q0 HFL hfit HPC
      have HX : Hid _ := hfit
      clear hx hfit
      go_wp2_with fail
      refine (long_any HR.out hBr x HX.out (by omega)).mono ?_
      rintro e w2 ⟨v2, rfl, ho2, g2⟩
      have HO2 : Hid (RowB w2 B v2 (ys ++ long x)) := ho2
      have G2 : Hid (Gr w w2 v v2) := G.out.trans g2
      have HY2 : Hid (ys ++ long x = xs ++ (W.put l ++ (zs.take (k + 1)).flatMap long)) := by
        show _ = _
        rw [HFL.out, HY.out]
        simp
      have hyl2 : (ys ++ long x).length ≤ 20000010 + 1100 * (k + 1) := by rw [List.length_append]; have := HPC.out; omega
      clear ho2 g2
      go_wp2_with fail
      go_roundg (l - (k + 1))
      case measure => omega
      case rel => exact ⟨k + 1, _, by first | rfl | (congr 1; omega), by omega, Nat.le_refl _, hyl2, HY2.out, HO2.out, G2.out⟩
    · obtain rfl : k = l := by omega
      have HE : Hid (RowB wr B u0 (xs ++ (W.put k ++ zs.flatMap long))) := by
        have := HR.out
        rw [HY.out, List.take_of_length_le (by omega)] at this
        exact this
      go_wp2_with fail
      go_ret
      exact ⟨_, rfl, HE.out, G.out⟩

set_option maxRecDepth 100000 in
set_option maxHeartbeats 4000000 in
theorem listS_any {w : World} {B : Nat} {v : Value} {xs : List Int} (ho : RowB w B v xs) (hB : B ≤ w.heap.size) {a : Option Addr} {l c : Nat} {zs : List Sym} (h : SymsV w a l c zs) (hv : 0 < l → Apart v a) (hf : ∀ z ∈ zs, SymFit z) (hl : l ≤ 8000) (hm : xs.length ≤ 20000000) :
    Calls Try.prog 38 #[v, .slice a l c, .func (.func 39) #[] #[]] w fun e w' => ∃ v', e = .returned v' ∧ RowB w' B v' (xs ++ (W.put l ++ zs.flatMap symB)) ∧ Gr w w' v v' := by
  have HV : Hid _ := h
  have HO : Hid _ := ho
  have HF : Hid _ := hf
  have HAP : Hid _ := hv
  have hcnt := h.count
  have hpl := W.put_length (l : Int)
  clear h ho hf hv
  go_enter Try.func38, Try.ntmps38
  go_wp2_with fail
  refine (number_any' HO.out hB (l : Int) (by omega) (by omega) (by omega)).mono ?_
  rintro e w1 ⟨v1, rfl, ho1, g1⟩
  have HO1 : Hid _ := ho1
  have G1 : Hid _ := g1
  have hl1 : (xs ++ W.put (l : Int)).length ≤ 20000010 := by rw [List.length_append]; omega
  clear ho1 g1
  go_wp2_with fail
  go_loopg [0, 15] l (fun r bv iv wq => ∃ (k : Nat) (ys : List Int), iv = .int .i64 k ∧ k ≤ l ∧ l - k ≤ r ∧ ys.length ≤ 20000010 + 1100 * k ∧ Hid (ys = xs ++ (W.put l ++ (zs.take k).flatMap symB)) ∧ Hid (RowB wq B bv ys) ∧ Hid (Gr w wq v bv))
  case atStart => exact ⟨0, xs ++ W.put (l : Int), rfl, Nat.zero_le _, by omega, by omega, (by simp : xs ++ W.put (l : Int) = xs ++ (W.put l ++ (zs.take 0).flatMap symB)), HO1.out, G1.out⟩
  case round =>
    obtain ⟨k, ys, rfl, hk, hr, hyl, HY, HR, G⟩ := hrel
    have hBr : B ≤ wr.heap.size := Nat.le_trans hB G.out.grown.size
    by_cases hlt : k < l
    · rcases HV.out.cells with h0 | ⟨b, off, hA, hc⟩
      · omega
      have ⟨k0, k1, k2⟩ := hc k hlt
      have hne : v.ownBlock ≠ some b := HAP.out (by omega) b off hA
      have q0 := G.out.cell k0 hne
      have q1 := G.out.cell k1 hne
      have q2 := G.out.cell k2 hne
      have HFL : Hid _ := flat_snoc symB zs noSym k (by omega)
      have hfit := HF.out (zs.getD k noSym) (by simp [List.getD, show k < zs.length by omega])
      have HPC : Hid ((symB (zs.getD k noSym)).length ≤ 1100) := symB_len hfit.1
      subst hA
      have hii : (k : Int) < l := by omega
      have hin : 0 ≤ (k : Int) := by omega
      clear hc k0 k1 k2
      obtain ⟨z, hz⟩ : ∃ z, zs.getD k noSym = z := ⟨_, rfl⟩
      rw [hz] at q0 q1 q2 HFL hfit HPC
      obtain ⟨nm, kd, ps⟩ := z
      simp only at q0 q1 q2
      have HX : Hid _ := hfit
      clear hz hfit
      obtain ⟨WA, hWA⟩ : ∃ WA, wr.alloc (.cells #[.string nm, .int .i64 kd, .int .i64 ps] 41) = WA := ⟨_, rfl⟩
      have bA : Below wr.heap.size wr WA := by subst hWA; exact bl_one _ _
      have j0 : WA.cell? ⟨wr.heap.size, 0, none⟩ = some (.string nm) := by subst hWA; exact cell_last rfl rfl
      have j1 : WA.cell? ⟨wr.heap.size, 1, none⟩ = some (.int .i64 kd) := by subst hWA; exact cell_last rfl rfl
      have j2 : WA.cell? ⟨wr.heap.size, 2, none⟩ = some (.int .i64 ps) := by subst hWA; exact cell_last rfl rfl
      go_wp2_with fail
      refine (symput_any (own_kept HR.out bA) (Nat.le_trans hBr bA.size) nm kd ps HX.out.1 HX.out.2.1 HX.out.2.2.1 HX.out.2.2.2.1 HX.out.2.2.2.2 (by omega)).mono ?_
      rintro e w2 ⟨v2, rfl, ho2, g2⟩
      have HO2 : Hid (RowB w2 B v2 (ys ++ symB ⟨nm, kd, ps⟩)) := ho2
      have G2 : Hid (Gr w w2 v v2) := G.out.trans ((Gr.below _ bA).trans g2)
      have HY2 : Hid (ys ++ symB ⟨nm, kd, ps⟩ = xs ++ (W.put l ++ (zs.take (k + 1)).flatMap symB)) := by
        show _ = _
        rw [HFL.out, HY.out]
        simp
      have hyl2 : (ys ++ symB ⟨nm, kd, ps⟩).length ≤ 20000010 + 1100 * (k + 1) := by rw [List.length_append]; have := HPC.out; omega
      clear ho2 g2 j0 j1 j2
      go_wp2_with fail
      go_roundg (l - (k + 1))
      case measure => omega
      case rel => exact ⟨k + 1, _, by first | rfl | (congr 1; omega), by omega, Nat.le_refl _, hyl2, HY2.out, HO2.out, G2.out⟩
    · obtain rfl : k = l := by omega
      have HE : Hid (RowB wr B u0 (xs ++ (W.put k ++ zs.flatMap symB))) := by
        have := HR.out
        rw [HY.out, List.take_of_length_le (by omega)] at this
        exact this
      go_wp2_with fail
      go_ret
      exact ⟨_, rfl, HE.out, G.out⟩

set_option maxRecDepth 100000 in
set_option maxHeartbeats 4000000 in
theorem listR_any {w : World} {B : Nat} {v : Value} {xs : List Int} (ho : RowB w B v xs) (hB : B ≤ w.heap.size) {a : Option Addr} {l c : Nat} {zs : List Rel} (h : RelsV w a l c zs) (hv : 0 < l → Apart v a) (hf : ∀ z ∈ zs, RelFit z) (hl : l ≤ 8000) (hm : xs.length ≤ 20000000) :
    Calls Try.prog 40 #[v, .slice a l c, .func (.func 41) #[] #[]] w fun e w' => ∃ v', e = .returned v' ∧ RowB w' B v' (xs ++ (W.put l ++ zs.flatMap relB)) ∧ Gr w w' v v' := by
  have HV : Hid _ := h
  have HO : Hid _ := ho
  have HF : Hid _ := hf
  have HAP : Hid _ := hv
  have hcnt := h.count
  have hpl := W.put_length (l : Int)
  clear h ho hf hv
  go_enter Try.func40, Try.ntmps40
  go_wp2_with fail
  refine (number_any' HO.out hB (l : Int) (by omega) (by omega) (by omega)).mono ?_
  rintro e w1 ⟨v1, rfl, ho1, g1⟩
  have HO1 : Hid _ := ho1
  have G1 : Hid _ := g1
  have hl1 : (xs ++ W.put (l : Int)).length ≤ 20000010 := by rw [List.length_append]; omega
  clear ho1 g1
  go_wp2_with fail
  go_loopg [0, 15] l (fun r bv iv wq => ∃ (k : Nat) (ys : List Int), iv = .int .i64 k ∧ k ≤ l ∧ l - k ≤ r ∧ ys.length ≤ 20000010 + 1100 * k ∧ Hid (ys = xs ++ (W.put l ++ (zs.take k).flatMap relB)) ∧ Hid (RowB wq B bv ys) ∧ Hid (Gr w wq v bv))
  case atStart => exact ⟨0, xs ++ W.put (l : Int), rfl, Nat.zero_le _, by omega, by omega, (by simp : xs ++ W.put (l : Int) = xs ++ (W.put l ++ (zs.take 0).flatMap relB)), HO1.out, G1.out⟩
  case round =>
    obtain ⟨k, ys, rfl, hk, hr, hyl, HY, HR, G⟩ := hrel
    have hBr : B ≤ wr.heap.size := Nat.le_trans hB G.out.grown.size
    by_cases hlt : k < l
    · rcases HV.out.cells with h0 | ⟨b, off, hA, hc⟩
      · omega
      have ⟨k0, k1, k2, k3⟩ := hc k hlt
      have hne : v.ownBlock ≠ some b := HAP.out (by omega) b off hA
      have q0 := G.out.cell k0 hne
      have q1 := G.out.cell k1 hne
      have q2 := G.out.cell k2 hne
      have q3 := G.out.cell k3 hne
      have HFL : Hid _ := flat_snoc relB zs noRel k (by omega)
      have hfit := HF.out (zs.getD k noRel) (by simp [List.getD, show k < zs.length by omega])
      have HPC : Hid ((relB (zs.getD k noRel)).length ≤ 1100) := relB_len hfit.1 hfit.2.2.2.2.2
      subst hA
      have hii : (k : Int) < l := by omega
      have hin : 0 ≤ (k : Int) := by omega
      clear hc k0 k1 k2 k3
      obtain ⟨z, hz⟩ : ∃ z, zs.getD k noRel = z := ⟨_, rfl⟩
      rw [hz] at q0 q1 q2 q3 HFL hfit HPC
      obtain ⟨ps, kd, nm, ad⟩ := z
      simp only at q0 q1 q2 q3
      have HX : Hid _ := hfit
      clear hz hfit
      obtain ⟨WA, hWA⟩ : ∃ WA, wr.alloc (.cells #[.int .i64 ps, .int .i64 kd, .string nm, .int .i64 ad] 43) = WA := ⟨_, rfl⟩
      have bA : Below wr.heap.size wr WA := by subst hWA; exact bl_one _ _
      have j0 : WA.cell? ⟨wr.heap.size, 0, none⟩ = some (.int .i64 ps) := by subst hWA; exact cell_last rfl rfl
      have j1 : WA.cell? ⟨wr.heap.size, 1, none⟩ = some (.int .i64 kd) := by subst hWA; exact cell_last rfl rfl
      have j2 : WA.cell? ⟨wr.heap.size, 2, none⟩ = some (.string nm) := by subst hWA; exact cell_last rfl rfl
      have j3 : WA.cell? ⟨wr.heap.size, 3, none⟩ = some (.int .i64 ad) := by subst hWA; exact cell_last rfl rfl
      go_wp2_with fail
      refine (relput_any (own_kept HR.out bA) (Nat.le_trans hBr bA.size) ps kd nm ad HX.out.1 HX.out.2.1 HX.out.2.2.1 HX.out.2.2.2.1 HX.out.2.2.2.2.1 HX.out.2.2.2.2.2 (by omega)).mono ?_
      rintro e w2 ⟨v2, rfl, ho2, g2⟩
      have HO2 : Hid (RowB w2 B v2 (ys ++ relB ⟨ps, kd, nm, ad⟩)) := ho2
      have G2 : Hid (Gr w w2 v v2) := G.out.trans ((Gr.below _ bA).trans g2)
      have HY2 : Hid (ys ++ relB ⟨ps, kd, nm, ad⟩ = xs ++ (W.put l ++ (zs.take (k + 1)).flatMap relB)) := by
        show _ = _
        rw [HFL.out, HY.out]
        simp
      have hyl2 : (ys ++ relB ⟨ps, kd, nm, ad⟩).length ≤ 20000010 + 1100 * (k + 1) := by rw [List.length_append]; have := HPC.out; omega
      clear ho2 g2 j0 j1 j2 j3
      go_wp2_with fail
      go_roundg (l - (k + 1))
      case measure => omega
      case rel => exact ⟨k + 1, _, by first | rfl | (congr 1; omega), by omega, Nat.le_refl _, hyl2, HY2.out, HO2.out, G2.out⟩
    · obtain rfl : k = l := by omega
      have HE : Hid (RowB wr B u0 (xs ++ (W.put k ++ zs.flatMap relB))) := by
        have := HR.out
        rw [HY.out, List.take_of_length_le (by omega)] at this
        exact this
      go_wp2_with fail
      go_ret
      exact ⟨_, rfl, HE.out, G.out⟩

end Go.Proofs.Ytcfdfnghaigkjaa
