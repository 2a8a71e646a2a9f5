/- How the sizes grow. -/
import Derived.Test.YtaoklmphcgigeaaLinkSmall
import Derived.Deep.RegionHeld3
namespace Go.Proofs.Ytaoklmphcgigeaa
open Go.RowKit
set_option linter.unusedVariables false
set_option linter.unusedSimpArgs false

/-- The sizes as they lie at the head of a block, in a world that is the elder one but for that block and new ones; the block's other cells are as they were. -/
structure GS (w x : World) (b : Nat) (z : L.Sz) : Prop where
  c0 : x.cell? ⟨b, 0, none⟩ = some (.int .i64 z.b)
  c1 : x.cell? ⟨b, 1, none⟩ = some (.int .i64 z.d)
  c2 : x.cell? ⟨b, 2, none⟩ = some (.int .i64 z.s)
  c3 : x.cell? ⟨b, 3, none⟩ = some (.int .i64 z.t)
  fz : ∀ o, x.frozen? ⟨b, o, none⟩ = w.frozen? ⟨b, o, none⟩
  rest : ∀ o, 4 ≤ o → x.cell? ⟨b, o, none⟩ = w.cell? ⟨b, o, none⟩
  gr : w.grownBy x (some b)
  lt : b < w.heap.size
theorem gbt {w w1 w2 : World} {b : Nat} (h : w.grownBy w1 (some b)) (k : w1.grownBy w2 (some b)) : w.grownBy w2 (some b) :=
  ⟨k.os.trans h.os, k.tape.trans h.tape, k.output.trans h.output, Nat.le_trans h.size k.size, fun i hi hne => (k.block i (Nat.lt_of_lt_of_le hi h.size) hne).trans (h.block i hi hne)⟩
theorem gb_set (w : World) (a : Addr) (u : Value) : w.grownBy (w.setCell a u) (some a.block) :=
  ⟨rfl, rfl, rfl, by rw [World.size_setCell]; exact Nat.le_refl _, fun k _ hk => Below.heap_setCell _ _ _ _ (fun e => hk (by rw [e]))⟩
theorem gb_of_below {w x : World} (h : Below w.heap.size w x) (r : Option Nat) : w.grownBy x r := ⟨h.os, h.tape, h.output, h.size, fun k hk _ => h.block k hk⟩
theorem GS.below {w x y : World} {b : Nat} {z : L.Sz} (h : GS w x b z) (hb : Below x.heap.size x y) : GS w y b z := by
  have hlt : b < x.heap.size := Nat.lt_of_lt_of_le h.lt h.gr.size
  have hc : ∀ o, y.cell? ⟨b, o, none⟩ = x.cell? ⟨b, o, none⟩ := fun o => hb.cell (p := ⟨b, o, none⟩) hlt
  have hf : ∀ o, y.frozen? ⟨b, o, none⟩ = x.frozen? ⟨b, o, none⟩ := fun o => hb.frozen (p := ⟨b, o, none⟩) hlt
  exact ⟨(hc 0).trans h.c0, (hc 1).trans h.c1, (hc 2).trans h.c2, (hc 3).trans h.c3, fun o => (hf o).trans (h.fz o), fun o ho => (hc o).trans (h.rest o ho), gbt h.gr (gb_of_below hb _), h.lt⟩
theorem GS.set {w x : World} {b : Nat} {z z' : L.Sz} (h : GS w x b z) (k : Nat) (hk : k < 4) (v : Int) (hz : ∀ o : Nat, o < 4 → ([z'.b, z'.d, z'.s, z'.t].map (Int.ofNat ·)).getD o 0 = if o = k then v else ([z.b, z.d, z.s, z.t].map (Int.ofNat ·)).getD o 0) :
    GS w (x.setCell ⟨b, k, none⟩ (.int .i64 v)) b z' := by
  have hsome : ∀ o : Nat, o < 4 → x.cell? ⟨b, o, none⟩ = some (.int .i64 (([z.b, z.d, z.s, z.t].map (Int.ofNat ·)).getD o 0)) := fun o ho => by
    rcases (show o = 0 ∨ o = 1 ∨ o = 2 ∨ o = 3 by omega) with rfl | rfl | rfl | rfl
    · exact h.c0
    · exact h.c1
    · exact h.c2
    · exact h.c3
  have hall : ∀ o : Nat, o < 4 → (x.setCell ⟨b, k, none⟩ (.int .i64 v)).cell? ⟨b, o, none⟩ = some (.int .i64 (([z'.b, z'.d, z'.s, z'.t].map (Int.ofNat ·)).getD o 0)) := fun o ho => by
    rw [hz o ho]
    by_cases e : o = k
    · subst e
      rw [if_pos rfl]
      exact World.cell?_setCell_same' _ _ _ (by rw [hsome o ho]; rfl)
    · rw [if_neg e, World.cell?_setCell_other _ _ _ _ (fun e' => e (by have := congrArg Addr.off e'; simpa using this.symm))]
      exact hsome o ho
  exact ⟨hall 0 (by omega), hall 1 (by omega), hall 2 (by omega), hall 3 (by omega), fun o => by rw [World.frozen?_setCell]; exact h.fz o, fun o ho => by rw [World.cell?_setCell_other _ _ _ _ (fun e' => by have := congrArg Addr.off e'; simp at this; omega)]; exact h.rest o ho, gbt h.gr (gb_set _ _ _), h.lt⟩

theorem thr_snoc (ss : List Sym) (k : Nat) (hk : k < ss.length) : L.thr (ss.take (k + 1)) = L.thr (ss.take k) + if (ss.getD k noSym).kind = 3 then 1 else 0 := by
  unfold L.thr
  rw [List.take_succ_eq_append_getElem hk, List.filter_append, List.length_append]
  have hg : ss.getD k noSym = ss[k] := by simp [List.getD, hk]
  rw [hg]
  by_cases h : ss[k].kind = 3 <;> simp [h]
theorem thr_le (ss : List Sym) : L.thr ss ≤ ss.length := List.length_filter_le _ _
theorem GS.far {w x : World} {b : Nat} {z : L.Sz} (h : GS w x b z) {c o : Nat} {u : Value} (hc : w.cell? ⟨c, o, none⟩ = some u) (hne : c ≠ b) : x.cell? ⟨c, o, none⟩ = some u := h.gr.cell hc (by simpa using hne)

set_option maxRecDepth 100000 in
set_option maxHeartbeats 4000000 in
theorem grow_any {w : World} {b : Nat} (z : L.Sz) {o : ObjD} {a1 a2 a3 : Option Addr} {l1 c1 l2 c2 l3 c3 : Nat} (hV : SymsV w a2 l2 c2 o.syms) (hD : o.data.length = l1)
    (h0 : w.cell? ⟨b, 0, none⟩ = some (.int .i64 z.b)) (h1 : w.cell? ⟨b, 1, none⟩ = some (.int .i64 z.d)) (h2 : w.cell? ⟨b, 2, none⟩ = some (.int .i64 z.s)) (h3 : w.cell? ⟨b, 3, none⟩ = some (.int .i64 z.t))
    (f0 : w.frozen? ⟨b, 0, none⟩ = false) (f1 : w.frozen? ⟨b, 1, none⟩ = false) (f2 : w.frozen? ⟨b, 2, none⟩ = false) (f3 : w.frozen? ⟨b, 3, none⟩ = false) (hb : z.b + o.code.size < 9223372036854775807) (hd : z.d + l1 < 9223372036854775807) (hs : z.s + l2 < 9223372036854775807) (ht : z.t + l2 < 9223372036854775807) (hne : 0 < l2 → ∀ ad, a2 = some ad → ad.block ≠ b) :
    Calls Try.prog 41 #[.pointer (some ⟨b, 0, none⟩), .agg #[.string o.code, .slice a1 l1 c1, .slice a2 l2 c2, .slice a3 l3 c3]] w fun e w' => e = .returned (.tuple #[]) ∧ GS w w' b (L.grow z o) := by
  have hbw : b < w.heap.size := World.block_lt_of_cell? w ⟨b, 0, none⟩ h0
  have HV : Hid _ := hV
  have HG0 : Hid (GS w w b z) := ⟨h0, h1, h2, h3, fun _ => rfl, fun _ _ => rfl, gb_of_below (Below.refl _ _) _, hbw⟩
  clear hV
  go_enter Try.func41, Try.ntmps41
  go_wp2_with fail
  go_region
  go_wp2_with fail
  go_region
  go_wp2_with fail
  go_region
  go_wp2_with fail
  go_loopg [5, 39] l2 (fun r bx iv wq => ∃ (k : Nat), iv = .int .i64 k ∧ k ≤ l2 ∧ l2 - k ≤ r ∧ Hid (GS w wq b ⟨z.b + o.code.size, z.d + l1, z.s + l2, z.t + L.thr (o.syms.take k)⟩))
  case atStart =>
    refine ⟨0, rfl, Nat.zero_le _, by omega, ?_⟩
    have g1 := HG0.out.set (z' := ⟨z.b + o.code.size, z.d, z.s, z.t⟩) 0 (by omega) ((z.b : Int) + o.code.size) (by intro q hq; rcases (show q = 0 ∨ q = 1 ∨ q = 2 ∨ q = 3 by omega) with rfl | rfl | rfl | rfl <;> simp)
    have g2 := g1.set (z' := ⟨z.b + o.code.size, z.d + l1, z.s, z.t⟩) 1 (by omega) ((z.d : Int) + l1) (by intro q hq; rcases (show q = 0 ∨ q = 1 ∨ q = 2 ∨ q = 3 by omega) with rfl | rfl | rfl | rfl <;> simp)
    have g3 := g2.set (z' := ⟨z.b + o.code.size, z.d + l1, z.s + l2, z.t⟩) 2 (by omega) ((z.s : Int) + l2) (by intro q hq; rcases (show q = 0 ∨ q = 1 ∨ q = 2 ∨ q = 3 by omega) with rfl | rfl | rfl | rfl <;> simp)
    exact g3.below ((((bl_one _ _).drew).drew).drew)
  case round =>
    obtain ⟨k, rfl, hk, hr, HG⟩ := hrel
    by_cases hlt : k < l2
    · rcases HV.out.cells with h0' | ⟨c, off, hA, hc⟩
      · omega
      obtain ⟨q0, q1, q2⟩ := hc k hlt
      subst hA
      have hcb : c ≠ b := hne (by omega) _ rfl
      have q0 := HG.out.far q0 hcb
      have q1 := HG.out.far q1 hcb
      have q2 := HG.out.far q2 hcb
      have HTH : Hid _ := thr_snoc o.syms k (by rw [HV.out.count]; exact hlt)
      have htl : L.thr (o.syms.take k) ≤ k := by have := thr_le (o.syms.take k); rw [List.length_take] at this; omega
      obtain ⟨th, hth⟩ : ∃ th, L.thr (o.syms.take k) = th := ⟨_, rfl⟩
      rw [hth] at HG HTH htl
      have p3 := HG.out.c3
      simp only at p3
      have pf : wr.frozen? ⟨b, 3, none⟩ = false := (HG.out.fz 3).trans f3
      have hbx : b < wr.heap.size := Nat.lt_of_lt_of_le HG.out.lt HG.out.gr.size
      have hin : 0 ≤ (k : Int) := by omega
      have hii : (k : Int) < l2 := by omega
      generalize o.syms.getD k noSym = y at *
      clear hc h0 h1 h2 h3 hth
      by_cases h3k : y.kind = 3
      · have hd3 : (y.kind == 3) = true := by simpa using h3k
        rw [if_pos h3k] at HTH
        clear h3k
        go_wp2_with fail
        go_roundg (l2 - (k + 1))
        case measure => omega
        case rel =>
          refine ⟨k + 1, by go_num, by omega, Nat.le_refl _, ?_⟩
          rw [HTH.out]
          have g4 := HG.out.set (z' := ⟨z.b + o.code.size, z.d + l1, z.s + l2, z.t + (th + 1)⟩) 3 (by omega) ((z.t : Int) + th + 1) (by intro q hq; rcases (show q = 0 ∨ q = 1 ∨ q = 2 ∨ q = 3 by omega) with rfl | rfl | rfl | rfl <;> simp; omega)
          exact g4.below (bl_one _ _)
      · have hd3 : (y.kind == 3) = false := by simpa using h3k
        rw [if_neg h3k] at HTH
        clear h3k
        go_wp2_with fail
        go_roundg (l2 - (k + 1))
        case measure => omega
        case rel =>
          refine ⟨k + 1, by go_num, by omega, Nat.le_refl _, ?_⟩
          rw [HTH.out]
          exact HG.out.below (bl_one _ _)
    · obtain rfl : k = l2 := by omega
      have hfull : o.syms.take k = o.syms := List.take_of_length_le (by rw [HV.out.count]; exact Nat.le_refl _)
      have HGF : Hid (GS w wr b (L.grow z o)) := by
        have := HG.out
        rw [hfull] at this
        show GS _ _ _ _
        unfold L.grow
        rw [hD, HV.out.count]
        exact this
      have hii : ¬ (k : Int) < k := by omega
      go_wp2
      go_end0
      exact ⟨rfl, HGF.out⟩

end Go.Proofs.Ytaoklmphcgigeaa
