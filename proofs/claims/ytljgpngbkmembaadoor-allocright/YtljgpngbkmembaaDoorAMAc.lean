/- The table of shapes, and what reads one of its rows. -/
import Derived.Test.YtljgpngbkmembaaDoorAMAa
import Derived.Test.YtljgpngbkmembaaDoorAMAb
import Derived.RangeFuncNested
import Derived.RangeFuncBound
import Derived.RangeFuncCalls
import Derived.RangeFuncLeaves
import Derived.Shelf.RegionOpen
import Derived.OwnWalkIn
import Derived.TacticsInMore
import Derived.LoopNIn
import Derived.LoopIn
namespace Go.Proofs.YtljgpngbkmembaaDoor
open Go.RowKit Go.Maps
set_option linter.unusedVariables false
set_option linter.unusedSimpArgs false
namespace F
structure Sh where
  d : Int
  a : Int
  b : Int
  what : Bool
  name : Bool
  n : Bool
  args : Bool
  dest : Bool
  ends : Bool
def sh : Nat → Sh
  | 1 => ⟨1, 0, 0, false, false, true, false, false, false⟩
  | 2 => ⟨1, 1, 0, false, false, false, false, false, false⟩
  | 3 => ⟨1, 1, 1, true, false, false, false, false, false⟩
  | 4 => ⟨1, 2, 0, false, true, false, false, false, false⟩
  | 5 => ⟨0, 2, 1, false, true, false, false, false, false⟩
  | 6 => ⟨2, 0, 0, false, true, false, true, false, false⟩
  | 7 => ⟨2, 0, 0, false, true, false, false, false, false⟩
  | 8 => ⟨2, 0, 1, false, true, false, false, false, false⟩
  | 9 => ⟨0, 0, 0, false, true, false, false, false, false⟩
  | 10 => ⟨0, 0, 0, false, true, false, false, false, false⟩
  | 11 => ⟨0, 0, 0, false, false, false, false, true, true⟩
  | 12 => ⟨0, 1, 0, false, false, false, false, true, false⟩
  | 13 => ⟨0, 1, 0, false, false, false, false, false, false⟩
  | 14 => ⟨0, 1, 0, false, false, false, false, false, true⟩
  | 15 => ⟨0, 0, 0, false, false, false, false, false, true⟩
  | 16 => ⟨0, 0, 0, false, false, true, false, false, true⟩
  | _ => ⟨0, 0, 0, false, false, false, false, false, false⟩
theorem cases17 {k : Nat} (h : k < 17) : k = 0 ∨ k = 1 ∨ k = 2 ∨ k = 3 ∨ k = 4 ∨ k = 5 ∨ k = 6 ∨ k = 7 ∨ k = 8 ∨ k = 9 ∨ k = 10 ∨ k = 11 ∨ k = 12 ∨ k = 13 ∨ k = 14 ∨ k = 15 ∨ k = 16 := by omega
theorem sh_falls {x : Op} {k : Nat} (h : k < 17) (hx : x.op = (k : Int)) : falls x = !(sh k).ends := by
  unfold falls
  rw [hx]
  rcases cases17 h with rfl | rfl | rfl | rfl | rfl | rfl | rfl | rfl | rfl | rfl | rfl | rfl | rfl | rfl | rfl | rfl | rfl <;> rfl
theorem sh_leads {x : Op} {k : Nat} (h : k < 17) (hx : x.op = (k : Int)) : leads x = (sh k).dest := by
  unfold leads
  rw [hx]
  rcases cases17 h with rfl | rfl | rfl | rfl | rfl | rfl | rfl | rfl | rfl | rfl | rfl | rfl | rfl | rfl | rfl | rfl | rfl <;> rfl
theorem sh_wr {x : Op} {k : Nat} (h : k < 17) (hx : x.op = (k : Int)) : wr x = if (sh k).d = 0 then -1 else x.d := by
  unfold wr
  rw [hx]
  rcases cases17 h with rfl | rfl | rfl | rfl | rfl | rfl | rfl | rfl | rfl | rfl | rfl | rfl | rfl | rfl | rfl | rfl | rfl <;> rfl
theorem sh_kinds {k : Nat} (h : k < 17) : ((sh k).d = 0 ∨ (sh k).d = 1 ∨ (sh k).d = 2) ∧ ((sh k).a = 0 ∨ (sh k).a = 1 ∨ (sh k).a = 2) ∧ ((sh k).b = 0 ∨ (sh k).b = 1) := by
  rcases cases17 h with rfl | rfl | rfl | rfl | rfl | rfl | rfl | rfl | rfl | rfl | rfl | rfl | rfl | rfl | rfl | rfl | rfl <;> decide
end F
/-- The table lies in the first block. -/
structure Shp (w : World) : Prop where
  cells : ∀ k, k < 17 → w.cell? ⟨0, k * 9, none⟩ = some (.int .i64 (F.sh k).d) ∧ w.cell? ⟨0, k * 9 + 1, none⟩ = some (.int .i64 (F.sh k).a) ∧ w.cell? ⟨0, k * 9 + 2, none⟩ = some (.int .i64 (F.sh k).b) ∧ w.cell? ⟨0, k * 9 + 3, none⟩ = some (.bool (F.sh k).what) ∧ w.cell? ⟨0, k * 9 + 4, none⟩ = some (.bool (F.sh k).name) ∧ w.cell? ⟨0, k * 9 + 5, none⟩ = some (.bool (F.sh k).n) ∧ w.cell? ⟨0, k * 9 + 6, none⟩ = some (.bool (F.sh k).args) ∧ w.cell? ⟨0, k * 9 + 7, none⟩ = some (.bool (F.sh k).dest) ∧ w.cell? ⟨0, k * 9 + 8, none⟩ = some (.bool (F.sh k).ends)
theorem Shp.sub {w y : World} (h : Shp w) (hs : Sub w y) : Shp y := ⟨fun k hk => by
  obtain ⟨h0, h1, h2, h3, h4, h5, h6, h7, h8⟩ := h.cells k hk
  exact ⟨hs _ _ _ h0, hs _ _ _ h1, hs _ _ _ h2, hs _ _ _ h3, hs _ _ _ h4, hs _ _ _ h5, hs _ _ _ h6, hs _ _ _ h7, hs _ _ _ h8⟩⟩
theorem Shp.below {w y : World} (h : Shp w) (hb : Below w.heap.size w y) : Shp y := h.sub (below_sub hb)
set_option maxRecDepth 100000 in
theorem falls_any (x : F.Op) (r : Ar) {k : Nat} (hk : k < 17) (hx : x.op = (k : Int)) (w : World) (ht : Shp w) : Calls Tryd.prog 38 #[opV x r] w fun e w' => e = .returned (.bool (F.falls x)) ∧ Below w.heap.size w w' := by
  rw [F.sh_falls hk hx]
  obtain ⟨-, -, -, -, -, -, -, -, g⟩ := (ht.below (bl1 w (.cells #[.int .i64 (k : Int), .int .i64 x.what, .string x.nm, .int .i64 x.d, .int .i64 x.a, .int .i64 x.b, .int .i64 x.n, .slice r.a r.l r.c, .int .i64 x.dest] 46))).cells k hk
  obtain ⟨op, what, nm, d, a, b, n, args, dest⟩ := x
  obtain ⟨ra, rl, rc⟩ := r
  unfold opV
  simp only at hx g ⊢
  subst hx
  obtain ⟨B, hB⟩ : ∃ B, (F.sh k).ends = B := ⟨_, rfl⟩
  rw [hB] at g ⊢
  clear hB ht
  have hk0 : 0 ≤ (k : Int) := by omega
  have hk17 : (k : Int) < 17 := by omega
  cases B
  all_goals
    go_enter Tryd.func38, Tryd.ntmps38
    go_wp2
    go_ret
    exact ⟨rfl, bl1 _ _⟩
end Go.Proofs.YtljgpngbkmembaaDoor

/- The document's op: may an operation be? -/
namespace Go.Proofs.YtljgpngbkmembaaDoor
open Go.RowKit Go.Maps
set_option linter.unusedVariables false
set_option linter.unusedSimpArgs false
theorem tk {P : Program} {ops : Array Oper} {Q : Exit → Act → World → Prop} {md : Region.Mode} {S : World → Prop} {i : Nat} {oi : Oper} {v : Value} {fuel : Nat} {listed : Array Bool} {a : Act} {w : World} (hi : ops[i]? = some oi) (hb : (Region.noSelect ops && (Region.free md ops listed i && (Region.ready md ops listed).contains i)) = true)
    (hQ : ∀ c a w, Q (.panic c) (a.put oi.dst v) w → Q (.panic c) a w) (hy : YieldsIf P ops S oi v a) (hS : S w) (h : wpAnyH P md ops Q S fuel (listed.setIfInBounds i true) (a.put oi.dst v) w) : wpAnyH P md ops Q S (fuel + 1) listed a w :=
  wpAnyH_take hi (Bool.and_eq_true_iff.1 hb).1 (Bool.and_eq_true_iff.1 (Bool.and_eq_true_iff.1 hb).2).1 (Bool.and_eq_true_iff.1 (Bool.and_eq_true_iff.1 hb).2).2 hQ hy hS h
def F.opB (T : Int) (D A B TO : Bool) (x : F.Op) : Bool :=
  if x.op = 1 then D
  else if x.op = 2 then D && A
  else if x.op = 3 then D && (A && (B && (decide (3 ≤ x.what) && decide (x.what ≤ 16))))
  else if x.op = 4 then D && (A || decide (x.a = -1))
  else if x.op = 5 then B && (A || decide (x.a = -1))
  else if x.op = 6 then (x.args.all (F.inT T)) && (D || decide (x.d = -1))
  else if x.op = 7 then D || decide (x.d = -1)
  else if x.op = 8 then (D || decide (x.d = -1)) && B
  else if x.op = 9 ∨ x.op = 10 ∨ x.op = 15 then true
  else if x.op = 11 then TO
  else if x.op = 12 then A && TO
  else if x.op = 13 ∨ x.op = 14 then A
  else if x.op = 16 then decide (1 ≤ x.n) && decide (x.n ≤ 127)
  else false
theorem F.opB_eq (T L : Int) (x : F.Op) : F.opOk T L x = F.opB T (F.inT T x.d) (F.inT T x.a) (F.inT T x.b) (F.inT L x.dest) x := by
  unfold F.opOk F.opB F.orNo
  rfl
theorem all_no {T : Int} {zs : List Int} {k : Nat} (hk : k < zs.length) (h : F.inT T (zs.getD k 0) = false) : zs.all (F.inT T) = false := by
  rw [← Bool.not_eq_true, List.all_eq_true]
  intro h'
  have := h' (zs.getD k 0) (by simp [List.getD, hk])
  rw [h] at this
  cases this
theorem all_yes {T : Int} {zs : List Int} (h : ∀ k, k < zs.length → F.inT T (zs.getD k 0) = true) : zs.all (F.inT T) = true := by
  rw [List.all_eq_true]
  intro x hx
  obtain ⟨i, hi, rfl⟩ := List.mem_iff_getElem.1 hx
  have := h i hi
  simpa [List.getD, hi] using this
set_option maxRecDepth 100000 in
set_option maxHeartbeats 16000000 in
theorem rop_any {w : World} {f : F.Fn} {a : Option Addr} {l c : Nat} (x : F.Op) (r : Ar) (hrm : l ≤ c ∧ c ≤ maxLen) (ha : NumV w r.a r.l r.c x.args) : Calls Tryd.prog 32 #[fnV f a l c, opV x r] w fun e w' => e = .returned (.bool (F.opOk f.temps l x)) ∧ Below w.heap.size w w' := by
  rw [F.opB_eq]
  have hmax : maxLen = 9223372036854775807 := rfl
  have HA : Hid (NumV w r.a r.l r.c x.args) := ha
  obtain ⟨nm0, params, T, code⟩ := f
  obtain ⟨op, what, nm, d, aa, bb, n, args, dest⟩ := x
  obtain ⟨ra, rl, rc⟩ := r
  unfold fnV opV
  simp only at HA ha ⊢
  have har := ha.room
  have HAC : Hid (args.length = rl) := ha.count
  clear ha
  have HB : Hid (Below w.heap.size w ((w.alloc (.cells #[.string nm0, .int .i64 params, .int .i64 T, .slice a l c] 24)).alloc (.cells #[.int .i64 op, .int .i64 what, .string nm, .int .i64 d, .int .i64 aa, .int .i64 bb, .int .i64 n, .slice ra rl rc, .int .i64 dest] 46))) := (bl1 _ _).alloc (by simp) _
  obtain ⟨R, hR⟩ : ∃ R, F.opB T (F.inT T d) (F.inT T aa) (F.inT T bb) (F.inT (l : Int) dest) ⟨op, what, nm, d, aa, bb, n, args, dest⟩ = R := ⟨_, rfl⟩
  have HR : Hid (R = F.opB T (F.inT T d) (F.inT T aa) (F.inT T bb) (F.inT (l : Int) dest) ⟨op, what, nm, d, aa, bb, n, args, dest⟩) := hR.symm
  rw [hR]
  clear hR
  go_enter Tryd.func32, Tryd.ntmps32
  go_upto_region 1 with fail
  go_cut [5] from 10 (fun v wx => v = .bool (F.inT T d) ∧ wx = (w.alloc (.cells #[.string nm0, .int .i64 params, .int .i64 T, .slice a l c] 24)).alloc (.cells #[.int .i64 op, .int .i64 what, .string nm, .int .i64 d, .int .i64 aa, .int .i64 bb, .int .i64 n, .slice ra rl rc, .int .i64 dest] 46))
  case first =>
    by_cases h1 : 0 ≤ d
    · by_cases h2 : d < T
      · go_wp2_with fail
        go_meet
        exact ⟨by unfold F.inT; first | (simp [h1, h2]; done) | (simp [h1, h2]; omega), rfl⟩
      · go_wp2_with fail
        go_meet
        exact ⟨by unfold F.inT; first | (simp [h1, h2]; done) | (simp [h1, h2]; omega), rfl⟩
    · go_wp2_with fail
      go_meet
      exact ⟨by unfold F.inT; first | (simp [h1]; done) | (simp [h1]; omega), rfl⟩
  obtain ⟨rfl, rfl⟩ := hcut
  obtain ⟨D, hD⟩ : ∃ q, F.inT T d = q := ⟨_, rfl⟩
  rw [hD]
  go_upto_region 2 with fail
  go_cut [6] from 20 (fun v wx => v = .bool (F.inT T aa) ∧ wx = (w.alloc (.cells #[.string nm0, .int .i64 params, .int .i64 T, .slice a l c] 24)).alloc (.cells #[.int .i64 op, .int .i64 what, .string nm, .int .i64 d, .int .i64 aa, .int .i64 bb, .int .i64 n, .slice ra rl rc, .int .i64 dest] 46))
  case first =>
    by_cases h1 : 0 ≤ aa
    · by_cases h2 : aa < T
      · go_wp2_with fail
        go_meet
        exact ⟨by unfold F.inT; first | (simp [h1, h2]; done) | (simp [h1, h2]; omega), rfl⟩
      · go_wp2_with fail
        go_meet
        exact ⟨by unfold F.inT; first | (simp [h1, h2]; done) | (simp [h1, h2]; omega), rfl⟩
    · go_wp2_with fail
      go_meet
      exact ⟨by unfold F.inT; first | (simp [h1]; done) | (simp [h1]; omega), rfl⟩
  obtain ⟨rfl, rfl⟩ := hcut
  obtain ⟨A, hA⟩ : ∃ q, F.inT T aa = q := ⟨_, rfl⟩
  rw [hA]
  go_upto_region 3 with fail
  go_cut [7] from 30 (fun v wx => v = .bool (F.inT T bb) ∧ wx = (w.alloc (.cells #[.string nm0, .int .i64 params, .int .i64 T, .slice a l c] 24)).alloc (.cells #[.int .i64 op, .int .i64 what, .string nm, .int .i64 d, .int .i64 aa, .int .i64 bb, .int .i64 n, .slice ra rl rc, .int .i64 dest] 46))
  case first =>
    by_cases h1 : 0 ≤ bb
    · by_cases h2 : bb < T
      · go_wp2_with fail
        go_meet
        exact ⟨by unfold F.inT; first | (simp [h1, h2]; done) | (simp [h1, h2]; omega), rfl⟩
      · go_wp2_with fail
        go_meet
        exact ⟨by unfold F.inT; first | (simp [h1, h2]; done) | (simp [h1, h2]; omega), rfl⟩
    · go_wp2_with fail
      go_meet
      exact ⟨by unfold F.inT; first | (simp [h1]; done) | (simp [h1]; omega), rfl⟩
  obtain ⟨rfl, rfl⟩ := hcut
  obtain ⟨B, hB⟩ : ∃ q, F.inT T bb = q := ⟨_, rfl⟩
  rw [hB]
  go_upto_region 4 with fail
  go_cut [8] from 40 (fun v wx => v = .bool (F.inT (l : Int) dest) ∧ wx = (w.alloc (.cells #[.string nm0, .int .i64 params, .int .i64 T, .slice a l c] 24)).alloc (.cells #[.int .i64 op, .int .i64 what, .string nm, .int .i64 d, .int .i64 aa, .int .i64 bb, .int .i64 n, .slice ra rl rc, .int .i64 dest] 46))
  case first =>
    by_cases h1 : 0 ≤ dest
    · by_cases h2 : dest < (l : Int)
      · go_wp2_with fail
        go_meet
        exact ⟨by unfold F.inT; first | (simp [h1, h2]; done) | (simp [h1, h2]; omega), rfl⟩
      · go_wp2_with fail
        go_meet
        exact ⟨by unfold F.inT; first | (simp [h1, h2]; done) | (simp [h1, h2]; omega), rfl⟩
    · go_wp2_with fail
      go_meet
      exact ⟨by unfold F.inT; first | (simp [h1]; done) | (simp [h1]; omega), rfl⟩
  obtain ⟨rfl, rfl⟩ := hcut
  obtain ⟨TO, hTO⟩ : ∃ q, F.inT (l : Int) dest = q := ⟨_, rfl⟩
  rw [hTO]
  rw [hD, hA, hB, hTO] at HR
  clear hD hA hB hTO
  by_cases h1 : op = 1
  · subst h1
    cases D with
    | false =>
      have HV : R = false := by rw [HR.out]; unfold F.opB; simp [*]
      try clear hv
      go_wp2_with fail
      go_ret
      exact ⟨by first | rfl | (rw [HV]; rfl), HB.out⟩
    | true =>
      have HV : R = true := by rw [HR.out]; unfold F.opB; simp [*]
      try clear hv
      go_wp2_with fail
      go_ret
      exact ⟨by first | rfl | (rw [HV]; rfl), HB.out⟩
  by_cases h2 : op = 2
  · subst h2
    cases D with
    | false =>
      have HV : R = false := by rw [HR.out]; unfold F.opB; simp [*]
      try clear hv
      go_wp2_with fail
      go_ret
      exact ⟨by first | rfl | (rw [HV]; rfl), HB.out⟩
    | true =>
      cases A with
      | false =>
        have HV : R = false := by rw [HR.out]; unfold F.opB; simp [*]
        try clear hv
        go_wp2_with fail
        go_ret
        exact ⟨by first | rfl | (rw [HV]; rfl), HB.out⟩
      | true =>
        have HV : R = true := by rw [HR.out]; unfold F.opB; simp [*]
        try clear hv
        go_wp2_with fail
        go_ret
        exact ⟨by first | rfl | (rw [HV]; rfl), HB.out⟩
  by_cases h3 : op = 3
  · subst h3
    cases D with
    | false =>
      have HV : R = false := by rw [HR.out]; unfold F.opB; simp [*]
      try clear hv
      go_wp2_with fail
      go_ret
      exact ⟨by first | rfl | (rw [HV]; rfl), HB.out⟩
    | true =>
      cases A with
      | false =>
        have HV : R = false := by rw [HR.out]; unfold F.opB; simp [*]
        try clear hv
        go_wp2_with fail
        go_ret
        exact ⟨by first | rfl | (rw [HV]; rfl), HB.out⟩
      | true =>
        cases B with
        | false =>
          have HV : R = false := by rw [HR.out]; unfold F.opB; simp [*]
          try clear hv
          go_wp2_with fail
          go_ret
          exact ⟨by first | rfl | (rw [HV]; rfl), HB.out⟩
        | true =>
          by_cases h1 : 3 ≤ what
          · by_cases h2 : what ≤ 16
            · have HV : R = true := by rw [HR.out]; unfold F.opB; simp [*]
              try clear hv
              go_wp2_with fail
              go_ret
              exact ⟨by first | rfl | (rw [HV]; rfl), HB.out⟩
            · have HV : R = false := by rw [HR.out]; unfold F.opB; simp [*]
              try clear hv
              go_wp2_with fail
              go_ret
              exact ⟨by first | rfl | (rw [HV]; rfl), HB.out⟩
          · have HV : R = false := by rw [HR.out]; unfold F.opB; simp [*]
            try clear hv
            go_wp2_with fail
            go_ret
            exact ⟨by first | rfl | (rw [HV]; rfl), HB.out⟩
  by_cases h4 : op = 4
  · subst h4
    cases D with
    | false =>
      have HV : R = false := by rw [HR.out]; unfold F.opB; simp [*]
      try clear hv
      go_wp2_with fail
      go_ret
      exact ⟨by first | rfl | (rw [HV]; rfl), HB.out⟩
    | true =>
      cases A with
      | false =>
        by_cases hv : aa = -1
        · have ev : (aa == -1) = true := by simpa using hv
          have HV : R = true := by rw [HR.out]; unfold F.opB; simp [*]
          try clear hv
          go_wp2_with fail
          go_ret
          exact ⟨by first | rfl | (rw [HV]; rfl), HB.out⟩
        · have ev : (aa == -1) = false := by simpa using hv
          have HV : R = false := by rw [HR.out]; unfold F.opB; simp [*]
          try clear hv
          go_wp2_with fail
          go_ret
          exact ⟨by first | rfl | (rw [HV]; rfl), HB.out⟩
      | true =>
        have HV : R = true := by rw [HR.out]; unfold F.opB; simp [*]
        try clear hv
        go_wp2_with fail
        go_ret
        exact ⟨by first | rfl | (rw [HV]; rfl), HB.out⟩
  by_cases h5 : op = 5
  · subst h5
    cases B with
    | false =>
      have HV : R = false := by rw [HR.out]; unfold F.opB; simp [*]
      try clear hv
      go_wp2_with fail
      go_ret
      exact ⟨by first | rfl | (rw [HV]; rfl), HB.out⟩
    | true =>
      cases A with
      | false =>
        by_cases hv : aa = -1
        · have ev : (aa == -1) = true := by simpa using hv
          have HV : R = true := by rw [HR.out]; unfold F.opB; simp [*]
          try clear hv
          go_wp2_with fail
          go_ret
          exact ⟨by first | rfl | (rw [HV]; rfl), HB.out⟩
        · have ev : (aa == -1) = false := by simpa using hv
          have HV : R = false := by rw [HR.out]; unfold F.opB; simp [*]
          try clear hv
          go_wp2_with fail
          go_ret
          exact ⟨by first | rfl | (rw [HV]; rfl), HB.out⟩
      | true =>
        have HV : R = true := by rw [HR.out]; unfold F.opB; simp [*]
        try clear hv
        go_wp2_with fail
        go_ret
        exact ⟨by first | rfl | (rw [HV]; rfl), HB.out⟩
  by_cases h7 : op = 7
  · subst h7
    cases D with
    | false =>
      by_cases hv : d = -1
      · have ev : (d == -1) = true := by simpa using hv
        have HV : R = true := by rw [HR.out]; unfold F.opB; simp [*]
        try clear hv
        go_wp2_with fail
        go_ret
        exact ⟨by first | rfl | (rw [HV]; rfl), HB.out⟩
      · have ev : (d == -1) = false := by simpa using hv
        have HV : R = false := by rw [HR.out]; unfold F.opB; simp [*]
        try clear hv
        go_wp2_with fail
        go_ret
        exact ⟨by first | rfl | (rw [HV]; rfl), HB.out⟩
    | true =>
      have HV : R = true := by rw [HR.out]; unfold F.opB; simp [*]
      try clear hv
      go_wp2_with fail
      go_ret
      exact ⟨by first | rfl | (rw [HV]; rfl), HB.out⟩
  by_cases h8 : op = 8
  · subst h8
    cases D with
    | false =>
      by_cases hv : d = -1
      · have ev : (d == -1) = true := by simpa using hv
        cases B with
        | false =>
          have HV : R = false := by rw [HR.out]; unfold F.opB; simp [*]
          try clear hv
          go_wp2_with fail
          go_ret
          exact ⟨by first | rfl | (rw [HV]; rfl), HB.out⟩
        | true =>
          have HV : R = true := by rw [HR.out]; unfold F.opB; simp [*]
          try clear hv
          go_wp2_with fail
          go_ret
          exact ⟨by first | rfl | (rw [HV]; rfl), HB.out⟩
      · have ev : (d == -1) = false := by simpa using hv
        have HV : R = false := by rw [HR.out]; unfold F.opB; simp [*]
        try clear hv
        go_wp2_with fail
        go_ret
        exact ⟨by first | rfl | (rw [HV]; rfl), HB.out⟩
    | true =>
      cases B with
      | false =>
        have HV : R = false := by rw [HR.out]; unfold F.opB; simp [*]
        try clear hv
        go_wp2_with fail
        go_ret
        exact ⟨by first | rfl | (rw [HV]; rfl), HB.out⟩
      | true =>
        have HV : R = true := by rw [HR.out]; unfold F.opB; simp [*]
        try clear hv
        go_wp2_with fail
        go_ret
        exact ⟨by first | rfl | (rw [HV]; rfl), HB.out⟩
  by_cases h9 : op = 9
  · subst h9
    have HV : R = true := by rw [HR.out]; unfold F.opB; simp [*]
    try clear hv
    go_wp2_with fail
    go_ret
    exact ⟨by first | rfl | (rw [HV]; rfl), HB.out⟩
  by_cases h10 : op = 10
  · subst h10
    have HV : R = true := by rw [HR.out]; unfold F.opB; simp [*]
    try clear hv
    go_wp2_with fail
    go_ret
    exact ⟨by first | rfl | (rw [HV]; rfl), HB.out⟩
  by_cases h15 : op = 15
  · subst h15
    have HV : R = true := by rw [HR.out]; unfold F.opB; simp [*]
    try clear hv
    go_wp2_with fail
    go_ret
    exact ⟨by first | rfl | (rw [HV]; rfl), HB.out⟩
  by_cases h11 : op = 11
  · subst h11
    cases TO with
    | false =>
      have HV : R = false := by rw [HR.out]; unfold F.opB; simp [*]
      try clear hv
      go_wp2_with fail
      go_ret
      exact ⟨by first | rfl | (rw [HV]; rfl), HB.out⟩
    | true =>
      have HV : R = true := by rw [HR.out]; unfold F.opB; simp [*]
      try clear hv
      go_wp2_with fail
      go_ret
      exact ⟨by first | rfl | (rw [HV]; rfl), HB.out⟩
  by_cases h12 : op = 12
  · subst h12
    cases A with
    | false =>
      have HV : R = false := by rw [HR.out]; unfold F.opB; simp [*]
      try clear hv
      go_wp2_with fail
      go_ret
      exact ⟨by first | rfl | (rw [HV]; rfl), HB.out⟩
    | true =>
      cases TO with
      | false =>
        have HV : R = false := by rw [HR.out]; unfold F.opB; simp [*]
        try clear hv
        go_wp2_with fail
        go_ret
        exact ⟨by first | rfl | (rw [HV]; rfl), HB.out⟩
      | true =>
        have HV : R = true := by rw [HR.out]; unfold F.opB; simp [*]
        try clear hv
        go_wp2_with fail
        go_ret
        exact ⟨by first | rfl | (rw [HV]; rfl), HB.out⟩
  by_cases h13 : op = 13
  · subst h13
    cases A with
    | false =>
      have HV : R = false := by rw [HR.out]; unfold F.opB; simp [*]
      try clear hv
      go_wp2_with fail
      go_ret
      exact ⟨by first | rfl | (rw [HV]; rfl), HB.out⟩
    | true =>
      have HV : R = true := by rw [HR.out]; unfold F.opB; simp [*]
      try clear hv
      go_wp2_with fail
      go_ret
      exact ⟨by first | rfl | (rw [HV]; rfl), HB.out⟩
  by_cases h14 : op = 14
  · subst h14
    cases A with
    | false =>
      have HV : R = false := by rw [HR.out]; unfold F.opB; simp [*]
      try clear hv
      go_wp2_with fail
      go_ret
      exact ⟨by first | rfl | (rw [HV]; rfl), HB.out⟩
    | true =>
      have HV : R = true := by rw [HR.out]; unfold F.opB; simp [*]
      try clear hv
      go_wp2_with fail
      go_ret
      exact ⟨by first | rfl | (rw [HV]; rfl), HB.out⟩
  by_cases h16 : op = 16
  · subst h16
    by_cases h1 : 1 ≤ n
    · by_cases h2 : n ≤ 127
      · have HV : R = true := by rw [HR.out]; unfold F.opB; simp [*]
        try clear hv
        go_wp2_with fail
        go_ret
        exact ⟨by first | rfl | (rw [HV]; rfl), HB.out⟩
      · have HV : R = false := by rw [HR.out]; unfold F.opB; simp [*]
        try clear hv
        go_wp2_with fail
        go_ret
        exact ⟨by first | rfl | (rw [HV]; rfl), HB.out⟩
    · have HV : R = false := by rw [HR.out]; unfold F.opB; simp [*]
      try clear hv
      go_wp2_with fail
      go_ret
      exact ⟨by first | rfl | (rw [HV]; rfl), HB.out⟩
  by_cases h6 : op = 6
  · subst h6
    have HV : R = (args.all (F.inT T) && (D || decide (d = -1))) := by rw [HR.out]; unfold F.opB; simp
    obtain ⟨WA, hWA⟩ : ∃ WA, (w.alloc (.cells #[.string nm0, .int .i64 params, .int .i64 T, .slice a l c] 24)).alloc (.cells #[.int .i64 6, .int .i64 what, .string nm, .int .i64 d, .int .i64 aa, .int .i64 bb, .int .i64 n, .slice ra rl rc, .int .i64 dest] 46) = WA := ⟨_, rfl⟩
    have HBA : Hid (Below w.heap.size w WA) := by rw [← hWA]; exact HB
    have e0 : WA.cell? ⟨w.heap.size + 1, 0, none⟩ = some (.int .i64 6) := by rw [← hWA]; simp
    have e7 : WA.cell? ⟨w.heap.size + 1, 7, none⟩ = some (.slice ra rl rc) := by rw [← hWA]; simp
    have e3 : WA.cell? ⟨w.heap.size + 1, 3, none⟩ = some (.int .i64 d) := by rw [← hWA]; simp
    have e2 : WA.cell? ⟨w.heap.size, 2, none⟩ = some (.int .i64 T) := by rw [← hWA]; simp
    have HE : Hid (∀ y, Below WA.heap.size WA y → y.cell? ⟨w.heap.size + 1, 7, none⟩ = some (.slice ra rl rc) ∧ y.cell? ⟨w.heap.size + 1, 3, none⟩ = some (.int .i64 d) ∧ y.cell? ⟨w.heap.size, 2, none⟩ = some (.int .i64 T)) := fun y hy => ⟨cell_thru hy e7, cell_thru hy e3, cell_thru hy e2⟩
    go_wp2_with fail
    try rw [hWA]
    clear e0 e7 e3 e2 hWA HB
    go_loopg [9] rl (fun g iv wq => ∃ (k : Nat), g = rl - k ∧ iv = .int .i64 k ∧ k ≤ rl ∧ Hid (∀ i, i < k → F.inT T (args.getD i 0) = true) ∧ Hid (Below WA.heap.size WA wq))
    case atStart => exact ⟨0, rfl, rfl, Nat.zero_le _, (fun i hi => by omega : ∀ i, i < 0 → F.inT T (args.getD i 0) = true), Below.refl _ _⟩
    case round =>
      obtain ⟨k, rfl, rfl, hk, HAL, HBK⟩ := hrel
      have HBW : Hid (Below w.heap.size w wr) := HBA.out.trans (HBK.out.mono HBA.out.size)
      have HBWD : Hid (Below w.heap.size w wr.drew) := HBW.out.drew
      have HBKD : Hid (Below WA.heap.size WA wr.drew) := HBK.out.drew
      obtain ⟨e7, e3, e2⟩ := HE.out wr HBK.out
      by_cases hkl : k < rl
      · have hki : (k : Int) < rl := by omega
        have hk0 : 0 ≤ (k : Int) := by omega
        obtain ⟨b, off, hab, ck⟩ := (HA.out.below HBW.out).at hkl
        subst hab
        have HKL : Hid (k < args.length) := by rw [HAC.out]; exact hkl
        obtain ⟨z, hz⟩ : ∃ z, args.getD k 0 = z := ⟨_, rfl⟩
        have HZ : Hid (args.getD k 0 = z) := hz
        rw [hz] at ck
        clear hz
        have HS : Hid (wr.drew.cell? ⟨w.heap.size + 1, 7, none⟩ = some (.slice (some ⟨b, off, none⟩) rl rc) ∧ wr.drew.cell? ⟨w.heap.size, 2, none⟩ = some (.int .i64 T) ∧ wr.drew.cell? ⟨b, off + k, none⟩ = some (.int .i64 z)) := by
          simp only [World.cell?_drew]
          exact ⟨e7, e2, ck⟩
        by_cases h1 : z < 0
        · have HRF : R = false := by
            rw [HV, all_no HKL.out (by rw [HZ.out]; unfold F.inT; simp; omega)]; rfl
          subst HRF
          clear HV
          go_wp2_with fail
          refine wp_region_held_drew (S := (fun w' : World => w'.cell? ⟨w.heap.size + 1, 7, none⟩ = some (.slice (some ⟨b, off, none⟩) rl rc) ∧ w'.cell? ⟨w.heap.size, 2, none⟩ = some (.int .i64 T) ∧ w'.cell? ⟨b, off + k, none⟩ = some (.int .i64 z))) (by kernel_rfl) HS.out (fun hHeld => ?_)
          refine tk (i := 0) (v := ?_) (tA rfl) (by kernel_rfl) (fun _ _ _ h => h) (Or.inl ⟨by rfl, ?_⟩) (by assumption) ?_
          rotate_left
          · (intro w hSw; (try dsimp only at hSw); go_simp <;> with_reducible rfl)
          simp only [Act.put, List.setIfInBounds_toArray, List.set_cons_zero, List.set_cons_succ]
          refine tk (i := 1) (v := ?_) (tA rfl) (by kernel_rfl) (fun _ _ _ h => h) (Or.inl ⟨by rfl, ?_⟩) (by assumption) ?_
          rotate_left
          · (intro w hSw; (try dsimp only at hSw); go_simp <;> with_reducible rfl)
          simp only [Act.put, List.setIfInBounds_toArray, List.set_cons_zero, List.set_cons_succ]
          refine tk (i := 2) (v := ?_) (tA rfl) (by kernel_rfl) (fun _ _ _ h => h) (Or.inl ⟨by rfl, ?_⟩) (by assumption) ?_
          rotate_left
          · (intro w hSw; (try dsimp only at hSw); go_simp <;> with_reducible rfl)
          simp only [Act.put, List.setIfInBounds_toArray, List.set_cons_zero, List.set_cons_succ]
          refine tk (i := 3) (v := ?_) (tA rfl) (by kernel_rfl) (fun _ _ _ h => h) (Or.inl ⟨by rfl, ?_⟩) (by assumption) ?_
          rotate_left
          · (intro w hSw; (try dsimp only at hSw); go_simp <;> with_reducible rfl)
          simp only [Act.put, List.setIfInBounds_toArray, List.set_cons_zero, List.set_cons_succ]
          refine tk (i := 4) (v := ?_) (tA rfl) (by kernel_rfl) (fun _ _ _ h => h) (Or.inl ⟨by rfl, ?_⟩) (by assumption) ?_
          rotate_left
          · (intro w hSw; (try dsimp only at hSw); go_simp <;> with_reducible rfl)
          simp only [Act.put, List.setIfInBounds_toArray, List.set_cons_zero, List.set_cons_succ]
          refine tk (i := 5) (v := ?_) (tA rfl) (by kernel_rfl) (fun _ _ _ h => h) (Or.inl ⟨by rfl, ?_⟩) (by assumption) ?_
          rotate_left
          · (intro w hSw; (try dsimp only at hSw); go_simp <;> with_reducible rfl)
          simp only [Act.put, List.setIfInBounds_toArray, List.set_cons_zero, List.set_cons_succ]
          refine tk (i := 6) (v := ?_) (tA rfl) (by kernel_rfl) (fun _ _ _ h => h) (Or.inl ⟨by rfl, ?_⟩) (by assumption) ?_
          rotate_left
          · (intro w hSw; (try dsimp only at hSw); go_simp <;> with_reducible rfl)
          simp only [Act.put, List.setIfInBounds_toArray, List.set_cons_zero, List.set_cons_succ]
          refine tk (i := 7) (v := undef) (tA rfl) (by kernel_rfl) (fun _ _ _ h => h) (Or.inr ⟨by rfl, rfl⟩) (by assumption) ?_
          simp only [Act.put, List.setIfInBounds_toArray, List.set_cons_zero, List.set_cons_succ]
          refine tk (i := 8) (v := undef) (tA rfl) (by kernel_rfl) (fun _ _ _ h => h) (Or.inr ⟨by rfl, rfl⟩) (by assumption) ?_
          simp only [Act.put, List.setIfInBounds_toArray, List.set_cons_zero, List.set_cons_succ]
          refine tk (i := 9) (v := undef) (tA rfl) (by kernel_rfl) (fun _ _ _ h => h) (Or.inr ⟨by rfl, rfl⟩) (by assumption) ?_
          simp only [Act.put, List.setIfInBounds_toArray, List.set_cons_zero, List.set_cons_succ]
          refine tk (i := 10) (v := undef) (tA rfl) (by kernel_rfl) (fun _ _ _ h => h) (Or.inr ⟨by rfl, rfl⟩) (by assumption) ?_
          simp only [Act.put, List.setIfInBounds_toArray, List.set_cons_zero, List.set_cons_succ]
          refine tk (i := 11) (v := undef) (tA rfl) (by kernel_rfl) (fun _ _ _ h => h) (Or.inr ⟨by rfl, rfl⟩) (by assumption) ?_
          simp only [Act.put, List.setIfInBounds_toArray, List.set_cons_zero, List.set_cons_succ]
          refine tk (i := 12) (v := undef) (tA rfl) (by kernel_rfl) (fun _ _ _ h => h) (Or.inr ⟨by rfl, rfl⟩) (by assumption) ?_
          simp only [Act.put, List.setIfInBounds_toArray, List.set_cons_zero, List.set_cons_succ]
          refine tk (i := 13) (v := undef) (tA rfl) (by kernel_rfl) (fun _ _ _ h => h) (Or.inr ⟨by rfl, rfl⟩) (by assumption) ?_
          simp only [Act.put, List.setIfInBounds_toArray, List.set_cons_zero, List.set_cons_succ]
          refine tk (i := 14) (v := undef) (tA rfl) (by kernel_rfl) (fun _ _ _ h => h) (Or.inr ⟨by rfl, rfl⟩) (by assumption) ?_
          simp only [Act.put, List.setIfInBounds_toArray, List.set_cons_zero, List.set_cons_succ]
          refine tk (i := 15) (v := ?_) (tA rfl) (by kernel_rfl) (fun _ _ _ h => h) (Or.inl ⟨by rfl, ?_⟩) (by assumption) ?_
          rotate_left
          · (intro w hSw; (try dsimp only at hSw); go_simp <;> with_reducible rfl)
          simp only [Act.put, List.setIfInBounds_toArray, List.set_cons_zero, List.set_cons_succ]
          refine wpAnyH_done (by kernel_rfl) ?_ _
          clear hHeld
          go_wp2_with fail
          go_ret
          exact ⟨rfl, HBWD.out⟩
        have hd1 : decide (z < 0) = false := decide_eq_false h1
        by_cases h2 : T ≤ z
        · have HRF : R = false := by
            rw [HV, all_no HKL.out (by rw [HZ.out]; unfold F.inT; simp; omega)]; rfl
          subst HRF
          have hd2 : decide (T ≤ z) = true := decide_eq_true h2
          clear HV h1 h2
          go_wp2_with fail
          refine wp_region_held_drew (S := (fun w' : World => w'.cell? ⟨w.heap.size + 1, 7, none⟩ = some (.slice (some ⟨b, off, none⟩) rl rc) ∧ w'.cell? ⟨w.heap.size, 2, none⟩ = some (.int .i64 T) ∧ w'.cell? ⟨b, off + k, none⟩ = some (.int .i64 z))) (by kernel_rfl) HS.out (fun hHeld => ?_)
          refine tk (i := 0) (v := ?_) (tA rfl) (by kernel_rfl) (fun _ _ _ h => h) (Or.inl ⟨by rfl, ?_⟩) (by assumption) ?_
          rotate_left
          · (intro w hSw; (try dsimp only at hSw); go_simp <;> with_reducible rfl)
          simp only [Act.put, List.setIfInBounds_toArray, List.set_cons_zero, List.set_cons_succ]
          refine tk (i := 1) (v := ?_) (tA rfl) (by kernel_rfl) (fun _ _ _ h => h) (Or.inl ⟨by rfl, ?_⟩) (by assumption) ?_
          rotate_left
          · (intro w hSw; (try dsimp only at hSw); go_simp <;> with_reducible rfl)
          simp only [Act.put, List.setIfInBounds_toArray, List.set_cons_zero, List.set_cons_succ]
          refine tk (i := 2) (v := ?_) (tA rfl) (by kernel_rfl) (fun _ _ _ h => h) (Or.inl ⟨by rfl, ?_⟩) (by assumption) ?_
          rotate_left
          · (intro w hSw; (try dsimp only at hSw); go_simp <;> with_reducible rfl)
          simp only [Act.put, List.setIfInBounds_toArray, List.set_cons_zero, List.set_cons_succ]
          refine tk (i := 3) (v := ?_) (tA rfl) (by kernel_rfl) (fun _ _ _ h => h) (Or.inl ⟨by rfl, ?_⟩) (by assumption) ?_
          rotate_left
          · (intro w hSw; (try dsimp only at hSw); go_simp <;> with_reducible rfl)
          simp only [Act.put, List.setIfInBounds_toArray, List.set_cons_zero, List.set_cons_succ]
          refine tk (i := 4) (v := ?_) (tA rfl) (by kernel_rfl) (fun _ _ _ h => h) (Or.inl ⟨by rfl, ?_⟩) (by assumption) ?_
          rotate_left
          · (intro w hSw; (try dsimp only at hSw); go_simp <;> with_reducible rfl)
          simp only [Act.put, List.setIfInBounds_toArray, List.set_cons_zero, List.set_cons_succ]
          refine tk (i := 5) (v := ?_) (tA rfl) (by kernel_rfl) (fun _ _ _ h => h) (Or.inl ⟨by rfl, ?_⟩) (by assumption) ?_
          rotate_left
          · (intro w hSw; (try dsimp only at hSw); go_simp <;> with_reducible rfl)
          simp only [Act.put, List.setIfInBounds_toArray, List.set_cons_zero, List.set_cons_succ]
          refine tk (i := 6) (v := ?_) (tA rfl) (by kernel_rfl) (fun _ _ _ h => h) (Or.inl ⟨by rfl, ?_⟩) (by assumption) ?_
          rotate_left
          · (intro w hSw; (try dsimp only at hSw); go_simp <;> with_reducible rfl)
          simp only [Act.put, List.setIfInBounds_toArray, List.set_cons_zero, List.set_cons_succ]
          refine tk (i := 7) (v := ?_) (tA rfl) (by kernel_rfl) (fun _ _ _ h => h) (Or.inl ⟨by rfl, ?_⟩) (by assumption) ?_
          rotate_left
          · (intro w hSw; (try dsimp only at hSw); go_simp <;> with_reducible rfl)
          simp only [Act.put, List.setIfInBounds_toArray, List.set_cons_zero, List.set_cons_succ]
          refine tk (i := 8) (v := ?_) (tA rfl) (by kernel_rfl) (fun _ _ _ h => h) (Or.inl ⟨by rfl, ?_⟩) (by assumption) ?_
          rotate_left
          · (intro w hSw; (try dsimp only at hSw); go_simp <;> with_reducible rfl)
          simp only [Act.put, List.setIfInBounds_toArray, List.set_cons_zero, List.set_cons_succ]
          refine tk (i := 9) (v := ?_) (tA rfl) (by kernel_rfl) (fun _ _ _ h => h) (Or.inl ⟨by rfl, ?_⟩) (by assumption) ?_
          rotate_left
          · (intro w hSw; (try dsimp only at hSw); go_simp <;> with_reducible rfl)
          simp only [Act.put, List.setIfInBounds_toArray, List.set_cons_zero, List.set_cons_succ]
          refine tk (i := 10) (v := ?_) (tA rfl) (by kernel_rfl) (fun _ _ _ h => h) (Or.inl ⟨by rfl, ?_⟩) (by assumption) ?_
          rotate_left
          · (intro w hSw; (try dsimp only at hSw); go_simp <;> with_reducible rfl)
          simp only [Act.put, List.setIfInBounds_toArray, List.set_cons_zero, List.set_cons_succ]
          refine tk (i := 11) (v := ?_) (tA rfl) (by kernel_rfl) (fun _ _ _ h => h) (Or.inl ⟨by rfl, ?_⟩) (by assumption) ?_
          rotate_left
          · (intro w hSw; (try dsimp only at hSw); go_simp <;> with_reducible rfl)
          simp only [Act.put, List.setIfInBounds_toArray, List.set_cons_zero, List.set_cons_succ]
          refine tk (i := 12) (v := ?_) (tA rfl) (by kernel_rfl) (fun _ _ _ h => h) (Or.inl ⟨by rfl, ?_⟩) (by assumption) ?_
          rotate_left
          · (intro w hSw; (try dsimp only at hSw); go_simp <;> with_reducible rfl)
          simp only [Act.put, List.setIfInBounds_toArray, List.set_cons_zero, List.set_cons_succ]
          refine tk (i := 13) (v := ?_) (tA rfl) (by kernel_rfl) (fun _ _ _ h => h) (Or.inl ⟨by rfl, ?_⟩) (by assumption) ?_
          rotate_left
          · (intro w hSw; (try dsimp only at hSw); go_simp <;> with_reducible rfl)
          simp only [Act.put, List.setIfInBounds_toArray, List.set_cons_zero, List.set_cons_succ]
          refine tk (i := 14) (v := ?_) (tA rfl) (by kernel_rfl) (fun _ _ _ h => h) (Or.inl ⟨by rfl, ?_⟩) (by assumption) ?_
          rotate_left
          · (intro w hSw; (try dsimp only at hSw); go_simp <;> with_reducible rfl)
          simp only [Act.put, List.setIfInBounds_toArray, List.set_cons_zero, List.set_cons_succ]
          refine tk (i := 15) (v := ?_) (tA rfl) (by kernel_rfl) (fun _ _ _ h => h) (Or.inl ⟨by rfl, ?_⟩) (by assumption) ?_
          rotate_left
          · (intro w hSw; (try dsimp only at hSw); go_simp <;> with_reducible rfl)
          simp only [Act.put, List.setIfInBounds_toArray, List.set_cons_zero, List.set_cons_succ]
          refine wpAnyH_done (by kernel_rfl) ?_ _
          clear hHeld
          go_wp2_with fail
          go_ret
          exact ⟨rfl, HBWD.out⟩
        · have HN : Hid (∀ i, i < k + 1 → F.inT T (args.getD i 0) = true) := fun i hi => by
            by_cases e : i = k
            · subst e; rw [HZ.out]; unfold F.inT; simp; omega
            · exact HAL.out i (by omega)
          have hd2 : decide (T ≤ z) = false := decide_eq_false h2
          clear HV h1 h2
          go_wp2_with fail
          refine wp_region_held_drew (S := (fun w' : World => w'.cell? ⟨w.heap.size + 1, 7, none⟩ = some (.slice (some ⟨b, off, none⟩) rl rc) ∧ w'.cell? ⟨w.heap.size, 2, none⟩ = some (.int .i64 T) ∧ w'.cell? ⟨b, off + k, none⟩ = some (.int .i64 z))) (by kernel_rfl) HS.out (fun hHeld => ?_)
          refine tk (i := 0) (v := ?_) (tA rfl) (by kernel_rfl) (fun _ _ _ h => h) (Or.inl ⟨by rfl, ?_⟩) (by assumption) ?_
          rotate_left
          · (intro w hSw; (try dsimp only at hSw); go_simp <;> with_reducible rfl)
          simp only [Act.put, List.setIfInBounds_toArray, List.set_cons_zero, List.set_cons_succ]
          refine tk (i := 1) (v := ?_) (tA rfl) (by kernel_rfl) (fun _ _ _ h => h) (Or.inl ⟨by rfl, ?_⟩) (by assumption) ?_
          rotate_left
          · (intro w hSw; (try dsimp only at hSw); go_simp <;> with_reducible rfl)
          simp only [Act.put, List.setIfInBounds_toArray, List.set_cons_zero, List.set_cons_succ]
          refine tk (i := 2) (v := ?_) (tA rfl) (by kernel_rfl) (fun _ _ _ h => h) (Or.inl ⟨by rfl, ?_⟩) (by assumption) ?_
          rotate_left
          · (intro w hSw; (try dsimp only at hSw); go_simp <;> with_reducible rfl)
          simp only [Act.put, List.setIfInBounds_toArray, List.set_cons_zero, List.set_cons_succ]
          refine tk (i := 3) (v := ?_) (tA rfl) (by kernel_rfl) (fun _ _ _ h => h) (Or.inl ⟨by rfl, ?_⟩) (by assumption) ?_
          rotate_left
          · (intro w hSw; (try dsimp only at hSw); go_simp <;> with_reducible rfl)
          simp only [Act.put, List.setIfInBounds_toArray, List.set_cons_zero, List.set_cons_succ]
          refine tk (i := 4) (v := ?_) (tA rfl) (by kernel_rfl) (fun _ _ _ h => h) (Or.inl ⟨by rfl, ?_⟩) (by assumption) ?_
          rotate_left
          · (intro w hSw; (try dsimp only at hSw); go_simp <;> with_reducible rfl)
          simp only [Act.put, List.setIfInBounds_toArray, List.set_cons_zero, List.set_cons_succ]
          refine tk (i := 5) (v := ?_) (tA rfl) (by kernel_rfl) (fun _ _ _ h => h) (Or.inl ⟨by rfl, ?_⟩) (by assumption) ?_
          rotate_left
          · (intro w hSw; (try dsimp only at hSw); go_simp <;> with_reducible rfl)
          simp only [Act.put, List.setIfInBounds_toArray, List.set_cons_zero, List.set_cons_succ]
          refine tk (i := 6) (v := ?_) (tA rfl) (by kernel_rfl) (fun _ _ _ h => h) (Or.inl ⟨by rfl, ?_⟩) (by assumption) ?_
          rotate_left
          · (intro w hSw; (try dsimp only at hSw); go_simp <;> with_reducible rfl)
          simp only [Act.put, List.setIfInBounds_toArray, List.set_cons_zero, List.set_cons_succ]
          refine tk (i := 7) (v := ?_) (tA rfl) (by kernel_rfl) (fun _ _ _ h => h) (Or.inl ⟨by rfl, ?_⟩) (by assumption) ?_
          rotate_left
          · (intro w hSw; (try dsimp only at hSw); go_simp <;> with_reducible rfl)
          simp only [Act.put, List.setIfInBounds_toArray, List.set_cons_zero, List.set_cons_succ]
          refine tk (i := 8) (v := ?_) (tA rfl) (by kernel_rfl) (fun _ _ _ h => h) (Or.inl ⟨by rfl, ?_⟩) (by assumption) ?_
          rotate_left
          · (intro w hSw; (try dsimp only at hSw); go_simp <;> with_reducible rfl)
          simp only [Act.put, List.setIfInBounds_toArray, List.set_cons_zero, List.set_cons_succ]
          refine tk (i := 9) (v := ?_) (tA rfl) (by kernel_rfl) (fun _ _ _ h => h) (Or.inl ⟨by rfl, ?_⟩) (by assumption) ?_
          rotate_left
          · (intro w hSw; (try dsimp only at hSw); go_simp <;> with_reducible rfl)
          simp only [Act.put, List.setIfInBounds_toArray, List.set_cons_zero, List.set_cons_succ]
          refine tk (i := 10) (v := ?_) (tA rfl) (by kernel_rfl) (fun _ _ _ h => h) (Or.inl ⟨by rfl, ?_⟩) (by assumption) ?_
          rotate_left
          · (intro w hSw; (try dsimp only at hSw); go_simp <;> with_reducible rfl)
          simp only [Act.put, List.setIfInBounds_toArray, List.set_cons_zero, List.set_cons_succ]
          refine tk (i := 11) (v := ?_) (tA rfl) (by kernel_rfl) (fun _ _ _ h => h) (Or.inl ⟨by rfl, ?_⟩) (by assumption) ?_
          rotate_left
          · (intro w hSw; (try dsimp only at hSw); go_simp <;> with_reducible rfl)
          simp only [Act.put, List.setIfInBounds_toArray, List.set_cons_zero, List.set_cons_succ]
          refine tk (i := 12) (v := ?_) (tA rfl) (by kernel_rfl) (fun _ _ _ h => h) (Or.inl ⟨by rfl, ?_⟩) (by assumption) ?_
          rotate_left
          · (intro w hSw; (try dsimp only at hSw); go_simp <;> with_reducible rfl)
          simp only [Act.put, List.setIfInBounds_toArray, List.set_cons_zero, List.set_cons_succ]
          refine tk (i := 13) (v := ?_) (tA rfl) (by kernel_rfl) (fun _ _ _ h => h) (Or.inl ⟨by rfl, ?_⟩) (by assumption) ?_
          rotate_left
          · (intro w hSw; (try dsimp only at hSw); go_simp <;> with_reducible rfl)
          simp only [Act.put, List.setIfInBounds_toArray, List.set_cons_zero, List.set_cons_succ]
          refine tk (i := 14) (v := ?_) (tA rfl) (by kernel_rfl) (fun _ _ _ h => h) (Or.inl ⟨by rfl, ?_⟩) (by assumption) ?_
          rotate_left
          · (intro w hSw; (try dsimp only at hSw); go_simp <;> with_reducible rfl)
          simp only [Act.put, List.setIfInBounds_toArray, List.set_cons_zero, List.set_cons_succ]
          refine tk (i := 15) (v := ?_) (tA rfl) (by kernel_rfl) (fun _ _ _ h => h) (Or.inl ⟨by rfl, ?_⟩) (by assumption) ?_
          rotate_left
          · (intro w hSw; (try dsimp only at hSw); go_simp <;> with_reducible rfl)
          simp only [Act.put, List.setIfInBounds_toArray, List.set_cons_zero, List.set_cons_succ]
          refine wpAnyH_done (by kernel_rfl) ?_ _
          clear hHeld
          go_wp2_with fail
          go_roundg (rl - (k + 1))
          case measure => omega
          case rel => exact ⟨k + 1, rfl, by go_num, by omega, HN, HBKD⟩
      · have hkk : ¬ (k : Int) < rl := by omega
        have hk2 : k = rl := by omega
        have HALL : Hid (args.all (F.inT T) = true) := all_yes fun i hi => HAL.out i (by rw [HAC.out] at hi; omega)
        clear hk2
        rw [HALL.out, Bool.true_and] at HV
        cases D with
        | false =>
          by_cases hv : d = -1
          · have ev : (d == -1) = true := by simpa using hv
            have HV2 : R = true := by rw [HV]; simp [*]
            (try clear hv); clear HV
            go_wp2_with fail
            go_ret
            exact ⟨by first | rfl | (rw [HV2]; rfl), HBW.out⟩
          · have ev : (d == -1) = false := by simpa using hv
            have HV2 : R = false := by rw [HV]; simp [*]
            (try clear hv); clear HV
            go_wp2_with fail
            go_ret
            exact ⟨by first | rfl | (rw [HV2]; rfl), HBW.out⟩
        | true =>
          have HV2 : R = true := by rw [HV]; simp [*]
          (try clear hv); clear HV
          go_wp2_with fail
          go_ret
          exact ⟨by first | rfl | (rw [HV2]; rfl), HBW.out⟩
  have HV : R = false := by rw [HR.out]; unfold F.opB; simp [*]
  have e1 : (op == 1) = false := by simpa using h1
  have e2 : (op == 2) = false := by simpa using h2
  have e3 : (op == 3) = false := by simpa using h3
  have e4 : (op == 4) = false := by simpa using h4
  have e5 : (op == 5) = false := by simpa using h5
  have e6 : (op == 6) = false := by simpa using h6
  have e7 : (op == 7) = false := by simpa using h7
  have e8 : (op == 8) = false := by simpa using h8
  have e9 : (op == 9) = false := by simpa using h9
  have e10 : (op == 10) = false := by simpa using h10
  have e15 : (op == 15) = false := by simpa using h15
  have e11 : (op == 11) = false := by simpa using h11
  have e12 : (op == 12) = false := by simpa using h12
  have e13 : (op == 13) = false := by simpa using h13
  have e14 : (op == 14) = false := by simpa using h14
  have e16 : (op == 16) = false := by simpa using h16
  clear h1 h2 h3 h4 h5 h6 h7 h8 h9 h10 h11 h12 h13 h14 h15 h16
  go_wp2_with fail
  go_ret
  exact ⟨by first | rfl | (rw [HV]; rfl), HB.out⟩
end Go.Proofs.YtljgpngbkmembaaDoor

/- What reads a row of the table of shapes; what may stand. -/
namespace Go.Proofs.YtljgpngbkmembaaDoor
open Go.RowKit Go.Maps
set_option linter.unusedVariables false
set_option linter.unusedSimpArgs false
set_option maxRecDepth 100000 in
theorem leads_any (x : F.Op) (r : Ar) {k : Nat} (hk : k < 17) (hx : x.op = (k : Int)) (w : World) (ht : Shp w) : Calls Tryd.prog 72 #[opV x r] w fun e w' => e = .returned (.bool (F.leads x)) ∧ Below w.heap.size w w' := by
  rw [F.sh_leads hk hx]
  obtain ⟨-, -, -, -, -, -, -, g, -⟩ := (ht.below (bl1 w (.cells #[.int .i64 (k : Int), .int .i64 x.what, .string x.nm, .int .i64 x.d, .int .i64 x.a, .int .i64 x.b, .int .i64 x.n, .slice r.a r.l r.c, .int .i64 x.dest] 46))).cells k hk
  obtain ⟨op, what, nm, d, a, b, n, args, dest⟩ := x
  obtain ⟨ra, rl, rc⟩ := r
  unfold opV
  simp only at hx g ⊢
  subst hx
  obtain ⟨B, hB⟩ : ∃ B, (F.sh k).dest = B := ⟨_, rfl⟩
  rw [hB] at g ⊢
  clear hB ht
  have hk0 : 0 ≤ (k : Int) := by omega
  have hk17 : (k : Int) < 17 := by omega
  go_enter Tryd.func72, Tryd.ntmps72
  go_wp2
  go_ret
  exact ⟨rfl, bl1 _ _⟩
set_option maxRecDepth 100000 in
theorem writes_any (x : F.Op) (r : Ar) {k : Nat} (hk : k < 17) (hx : x.op = (k : Int)) (w : World) (ht : Shp w) : Calls Tryd.prog 64 #[opV x r] w fun e w' => e = .returned (.int .i64 (F.wr x)) ∧ Below w.heap.size w w' := by
  rw [F.sh_wr hk hx]
  obtain ⟨g, -⟩ := (ht.below (bl1 w (.cells #[.int .i64 (k : Int), .int .i64 x.what, .string x.nm, .int .i64 x.d, .int .i64 x.a, .int .i64 x.b, .int .i64 x.n, .slice r.a r.l r.c, .int .i64 x.dest] 46))).cells k hk
  obtain ⟨hd, -⟩ := F.sh_kinds hk
  obtain ⟨op, what, nm, d, a, b, n, args, dest⟩ := x
  obtain ⟨ra, rl, rc⟩ := r
  unfold opV
  simp only at hx g ⊢
  subst hx
  obtain ⟨B, hB⟩ : ∃ B, (F.sh k).d = B := ⟨_, rfl⟩
  rw [hB] at g hd ⊢
  clear hB ht
  have hk0 : 0 ≤ (k : Int) := by omega
  have hk17 : (k : Int) < 17 := by omega
  rcases hd with rfl | rfl | rfl
  all_goals
    go_enter Tryd.func64, Tryd.ntmps64
    go_wp2
    go_ret
    exact ⟨rfl, bl1 _ _⟩
set_option maxRecDepth 100000 in
theorem isTemp_any (f : F.Fn) (a : Option Addr) (l c : Nat) (t : Int) (w : World) : Calls Tryd.prog 70 #[fnV f a l c, .int .i64 t] w fun e w' => e = .returned (.bool (F.inT f.temps t)) ∧ Below w.heap.size w w' := by
  have HR : Hid (F.inT f.temps t = (decide (0 ≤ t) && decide (t < f.temps))) := rfl
  obtain ⟨R, hR⟩ : ∃ R, F.inT f.temps t = R := ⟨_, rfl⟩
  rw [hR] at HR ⊢
  clear hR
  obtain ⟨nm0, params, T, code⟩ := f
  unfold fnV
  simp only at HR ⊢
  by_cases h1 : 0 ≤ t
  · by_cases h2 : t < T
    · have HV : R = true := by rw [HR.out, decide_eq_true h1, decide_eq_true h2]; rfl
      subst HV
      go_enter Tryd.func70, Tryd.ntmps70
      go_wp2
      go_ret
      exact ⟨rfl, bl1 _ _⟩
    · have HV : R = false := by rw [HR.out, decide_eq_true h1, decide_eq_false h2]; rfl
      subst HV
      go_enter Tryd.func70, Tryd.ntmps70
      go_wp2
      go_ret
      exact ⟨rfl, bl1 _ _⟩
  · have HV : R = false := by rw [HR.out, decide_eq_false h1]; rfl
    subst HV
    go_enter Tryd.func70, Tryd.ntmps70
    go_wp2
    go_ret
    exact ⟨rfl, bl1 _ _⟩
/-- May a field stand there? -/
def F.stand (T kind t : Int) : Bool := decide (kind = 0) || ((decide (kind = 2) && decide (t = -1)) || F.inT T t)
set_option maxRecDepth 100000 in
theorem mayStand_any (f : F.Fn) (a : Option Addr) (l c : Nat) (kind t : Int) (w : World) : Calls Tryd.prog 54 #[fnV f a l c, .int .i64 kind, .int .i64 t] w fun e w' => e = .returned (.bool (F.stand f.temps kind t)) ∧ Below w.heap.size w w' := by
  have HR : Hid (F.stand f.temps kind t = (decide (kind = 0) || ((decide (kind = 2) && decide (t = -1)) || F.inT f.temps t))) := rfl
  have HCALL : Hid (∀ y, Calls Tryd.prog 70 #[fnV f a l c, .int .i64 t] y fun e w' => e = .returned (.bool (F.inT f.temps t)) ∧ Below y.heap.size y w') := fun y => isTemp_any f a l c t y
  obtain ⟨R, hR⟩ : ∃ R, F.stand f.temps kind t = R := ⟨_, rfl⟩
  obtain ⟨I, hI⟩ : ∃ I, F.inT f.temps t = I := ⟨_, rfl⟩
  rw [hR] at HR ⊢
  rw [hI] at HR HCALL
  clear hR hI
  obtain ⟨nm0, params, T, code⟩ := f
  unfold fnV at HCALL ⊢
  simp only at HR HCALL ⊢
  have HB0 : Hid (Below w.heap.size w (w.alloc (.cells #[.string nm0, .int .i64 params, .int .i64 T, .slice a l c] 24))) := bl1 _ _
  by_cases h1 : kind = 0
  · have HV : R = true := by rw [HR.out, decide_eq_true h1]; rfl
    subst HV
    have e1 : (kind == 0) = true := by simpa using h1
    subst h1
    go_enter Tryd.func54, Tryd.ntmps54
    go_wp2_with fail
    go_ret
    exact ⟨rfl, HB0.out⟩
  · have e1 : (kind == 0) = false := by simpa using h1
    by_cases h2 : kind = 2
    · have e2 : (kind == 2) = true := by simpa using h2
      by_cases h3 : t = -1
      · have HV : R = true := by rw [HR.out, decide_eq_true h2, decide_eq_true h3]; simp
        have e3 : (t == -1) = true := by simpa using h3
        subst HV
        clear h1 h2 h3
        go_enter Tryd.func54, Tryd.ntmps54
        go_wp2_with fail
        go_ret
        exact ⟨rfl, HB0.out⟩
      · have HV : R = I := by rw [HR.out, decide_eq_false h1, decide_eq_false h3]; simp
        have e3 : (t == -1) = false := by simpa using h3
        subst HV
        clear h1 h2 h3
        go_enter Tryd.func54, Tryd.ntmps54
        go_wp2_with fail
        refine (HCALL.out _).mono ?_
        rintro e y ⟨rfl, hy⟩
        have HBY : Hid _ := HB0.out.trans (hy.mono HB0.out.size)
        clear hy
        go_wp2_with fail
        go_ret
        exact ⟨rfl, HBY.out⟩
    · have e2 : (kind == 2) = false := by simpa using h2
      have HV : R = I := by rw [HR.out, decide_eq_false h1, decide_eq_false h2]; simp
      subst HV
      clear h1 h2
      go_enter Tryd.func54, Tryd.ntmps54
      go_wp2_with fail
      refine (HCALL.out _).mono ?_
      rintro e y ⟨rfl, hy⟩
      have HBY : Hid _ := HB0.out.trans (hy.mono HB0.out.size)
      clear hy
      go_wp2_with fail
      go_ret
      exact ⟨rfl, HBY.out⟩
set_option maxRecDepth 100000 in
set_option maxHeartbeats 4000000 in
theorem areTemps_any (f : F.Fn) (a : Option Addr) (l c : Nat) {zs : List Int} {av : Option Addr} {nv cv : Nat} (w : World) (h : NumV w av nv cv zs) : Calls Tryd.prog 55 #[fnV f a l c, .slice av nv cv] w fun e w' => e = .returned (.bool (zs.all (F.inT f.temps))) ∧ Below w.heap.size w w' := by
  have hmax : maxLen = 9223372036854775807 := rfl
  have HCALL : Hid (∀ t y, Calls Tryd.prog 70 #[fnV f a l c, .int .i64 t] y fun e w' => e = .returned (.bool (F.inT f.temps t)) ∧ Below y.heap.size y w') := fun t y => isTemp_any f a l c t y
  have hrm := h.room
  have HC : Hid (zs.length = nv) := h.count
  obtain ⟨R, hR⟩ : ∃ R, zs.all (F.inT f.temps) = R := ⟨_, rfl⟩
  have HNO : Hid (∀ i, i < nv → F.inT f.temps (zs.getD i 0) = false → R = false) := fun i hi e => by rw [← hR]; exact all_no (by rw [HC.out]; exact hi) e
  have HYES : Hid ((∀ i, i < nv → F.inT f.temps (zs.getD i 0) = true) → R = true) := fun hh => by rw [← hR]; exact all_yes fun k hk => hh k (by rw [← HC.out]; exact hk)
  rw [hR]
  clear hR
  obtain ⟨nm0, params, T, code⟩ := f
  unfold fnV at HCALL ⊢
  simp only at HNO HYES HCALL ⊢
  obtain ⟨W0, hW0⟩ : ∃ W0, w.alloc (.cells #[.string nm0, .int .i64 params, .int .i64 T, .slice a l c] 24) = W0 := ⟨_, rfl⟩
  have HB0 : Hid (Below w.heap.size w W0) := by show Below _ _ _; rw [← hW0]; exact bl1 _ _
  have HV0 : Hid (NumV W0 av nv cv zs) := h.below HB0.out
  clear h
  have HWB : Hid (∀ y, Below W0.heap.size W0 y → Below w.heap.size w y) := fun y hy => HB0.out.trans (hy.mono HB0.out.size)
  have d0 : W0.cell? ⟨w.heap.size, 0, none⟩ = some (.string nm0) := by rw [← hW0]; exact ncell_at rfl
  have d1 : W0.cell? ⟨w.heap.size, 1, none⟩ = some (.int .i64 params) := by rw [← hW0]; exact ncell_at rfl
  have d2 : W0.cell? ⟨w.heap.size, 2, none⟩ = some (.int .i64 T) := by rw [← hW0]; exact ncell_at rfl
  have d3 : W0.cell? ⟨w.heap.size, 3, none⟩ = some (.slice a l c) := by rw [← hW0]; exact ncell_at rfl
  have HD : Hid (∀ y, Below W0.heap.size W0 y → y.cell? ⟨w.heap.size, 0, none⟩ = some (.string nm0) ∧ y.cell? ⟨w.heap.size, 1, none⟩ = some (.int .i64 params) ∧ y.cell? ⟨w.heap.size, 2, none⟩ = some (.int .i64 T) ∧ y.cell? ⟨w.heap.size, 3, none⟩ = some (.slice a l c)) := fun y hy => ⟨cell_thru hy d0, cell_thru hy d1, cell_thru hy d2, cell_thru hy d3⟩
  go_enter Tryd.func55, Tryd.ntmps55
  go_wp2_with fail
  skip
  clear hW0 d0 d1 d2 d3
  go_loopg [6, 9] nv (fun g z6 iv wq => ∃ (i : Nat), g = nv - i ∧ iv = .int .i64 i ∧ i ≤ nv ∧ Hid (∀ k, k < i → F.inT T (zs.getD k 0) = true) ∧ Hid (Below W0.heap.size W0 wq))
  case atStart => exact ⟨0, rfl, rfl, Nat.zero_le _, (fun k hk => by omega : ∀ k, k < 0 → F.inT T (zs.getD k 0) = true), Below.refl _ _⟩
  case round =>
    obtain ⟨i, rfl, rfl, hi, HAI, HBI⟩ := hrel
    by_cases hin : i < nv
    · have hii : (i : Int) < nv := by omega
      have hi0 : 0 ≤ (i : Int) := by omega
      have HN : Hid (F.inT T (zs.getD i 0) = true → ∀ k, k < i + 1 → F.inT T (zs.getD k 0) = true) := fun e k hk => by
        by_cases e2 : k = i
        · subst e2; exact e
        · exact HAI.out k (by omega)
      have HF := fun e => HNO.out i hin e
      obtain ⟨d0, d1, d2, d3⟩ := HD.out wr HBI.out
      obtain ⟨bz, oz, habz, cz⟩ := (HV0.out.below HBI.out).at hin
      subst habz
      obtain ⟨z, hz⟩ : ∃ z, zs.getD i 0 = z := ⟨_, rfl⟩
      rw [hz] at cz HN HF
      obtain ⟨b, hb⟩ : ∃ b, F.inT T z = b := ⟨_, rfl⟩
      have hc := HCALL.out z wr
      rw [hb] at HN HF hc
      have HFF : Hid (b = false → R = false) := HF
      clear hz hb HF
      go_wp2_with fail
      refine hc.mono ?_
      rintro e y ⟨rfl, hy⟩
      have HBY : Hid (Below W0.heap.size W0 y) := HBI.out.trans (hy.mono HBI.out.size)
      clear hy hc d0 d1 d2 d3 cz
      cases b with
      | false =>
        have HR := HFF.out rfl
        subst HR
        have HBX : Hid (Below w.heap.size w y) := HWB.out _ HBY.out
        clear HN HFF
        go_wp2_with fail
        go_ret
        exact ⟨rfl, HBX.out⟩
      | true =>
        have HN2 : Hid _ := HN.out rfl
        clear HN HFF
        go_wp2_with fail
        go_roundg (nv - (i + 1))
        case measure => omega
        case rel => exact ⟨i + 1, rfl, by go_num, by omega, HN2, HBY⟩
    · have hnn : ¬ (i : Int) < nv := by omega
      have HR := HYES.out (fun k hk => HAI.out k (by omega))
      subst HR
      have HBX : Hid (Below w.heap.size w wr) := HWB.out _ HBI.out
      clear HNO HYES
      go_wp2_with fail
      go_ret
      exact ⟨rfl, HBX.out⟩
end Go.Proofs.YtljgpngbkmembaaDoor

/- The places behind one, one by one. -/
namespace Go.Proofs.YtljgpngbkmembaaDoor
open Go.RowKit Go.Maps Go.Shelf
attribute [local go_sem] Oper.semAt_some
set_option linter.unusedVariables false
set_option linter.unusedSimpArgs false
theorem cell_blk {W : World} {q : Nat} {cs : Array Value} {T : TypeId} {fr : Nat × Nat} (h : W.heap[q]? = some (.cells cs T fr)) (j : Nat) {v : Value} (hv : cs[j]? = some v) : W.cell? ⟨q, j, none⟩ = some v := by
  unfold World.cell?
  simp only [h]
  simpa using hv
/-- What Next's closure reads. -/
def NxtRd (Bc Bi : Nat) (a : Option Addr) (l c i : Nat) (xs : List F.Op) (W : World) : Prop := W.cell? ⟨Bc, 0, none⟩ = some (.slice a l c) ∧ W.cell? ⟨Bi, 0, none⟩ = some (.int .i64 (i : Int)) ∧ OpsV W a l c xs ∧ Shp W
set_option maxRecDepth 100000 in
set_option maxHeartbeats 8000000 in
theorem next_goes (Bc Bi : Nat) (a : Option Addr) (l c i : Nat) (xs : List F.Op) (hi : i < l) (hop : 0 ≤ (xs.getD i F.noOp).op ∧ (xs.getD i F.noOp).op ≤ 16) (hde : F.leads (xs.getD i F.noOp) = true → 0 ≤ (xs.getD i F.noOp).dest) :
    GoesL Tryd.prog 71 #[.pointer (some ⟨Bc, 0, none⟩), .pointer (some ⟨Bi, 0, none⟩)] (fun x : Nat => #[.int .i64 (x : Int)]) (F.nxt (xs.getD i F.noOp) i) (NxtRd Bc Bi a l c i xs) 46 := by
  intro lp n J Jx W1 hn hJb hJr hY h0
  obtain ⟨r1, r2, r3, r4⟩ := hJr _ _ h0
  obtain ⟨b, off, r, rfl, ho, hr⟩ := r3.at hi
  have hrm := r3.room
  have HSH : Hid (Shp W1) := r4
  obtain ⟨x, hx⟩ : ∃ x, xs.getD i F.noOp = x := ⟨_, rfl⟩
  rw [hx] at ho hr hop hde hY ⊢
  have HFA : Hid (∀ W, Shp W → Calls Tryd.prog 38 #[opV x r] W fun e w' => e = .returned (.bool (F.falls x)) ∧ Below W.heap.size W w') := fun W hW => falls_any x r (k := x.op.toNat) (by omega) (by omega) W hW
  have HLE : Hid (∀ W, Shp W → Calls Tryd.prog 72 #[opV x r] W fun e w' => e = .returned (.bool (F.leads x)) ∧ Below W.heap.size W w') := fun W hW => leads_any x r (k := x.op.toNat) (by omega) (by omega) W hW
  obtain ⟨o0, o1, o2, o3, o4, o5, o6, o7, o8⟩ := ho
  have hii : (i : Int) < l := by omega
  have hi0 : 0 ≤ (i : Int) := by omega
  have HI1 : Hid ((i : Int) + 1 ≤ 9223372036854775807) := by show _ ≤ _; have h1 := hrm.1; have h2 := hrm.2; unfold maxLen at h2; omega
  clear hrm
  refine (callsIn_wide (n := 6)).1 ?_
  refine callsIn_of_wp Tryd.func71 rfl trivial ?_ rfl
  simp only [Tryd.ntmps71, List.size_toArray, List.length_cons, List.length_nil, Nat.reduceAdd, Nat.reduceSub, Array.replicate_succ, Array.replicate_zero, List.push_toArray, List.append_toArray, List.nil_append, List.cons_append]
  obtain ⟨W2, hW2⟩ : ∃ W2, W1.alloc (.cells #[.int .i64 x.op, .int .i64 x.what, .string x.nm, .int .i64 x.d, .int .i64 x.a, .int .i64 x.b, .int .i64 x.n, .slice r.a r.l r.c, .int .i64 x.dest] 46) = W2 := ⟨_, rfl⟩
  have HP : Hid (W2.heap[W1.heap.size]? = some (.cells #[.int .i64 x.op, .int .i64 x.what, .string x.nm, .int .i64 x.d, .int .i64 x.a, .int .i64 x.b, .int .i64 x.n, .slice r.a r.l r.c, .int .i64 x.dest] 46)) := by show _ = _; rw [← hW2]; exact World.alloc_heap_new _ _
  have HJ2 : Hid (J 0 W2) := by rw [← hW2]; exact hJb _ _ _ h0 (bl1 _ _)
  have HRD : Hid (∀ k A, J k A → A.cell? ⟨Bi, 0, none⟩ = some (.int .i64 (i : Int)) ∧ Shp A) := fun k A h => ⟨(hJr k A h).2.1, (hJr k A h).2.2.2⟩
  have HJB : Hid _ := hJb
  have HS2 : Hid (Shp W2) := (HRD.out _ _ HJ2.out).2
  have p0 := cell_blk HP.out 0 rfl
  have p1 := cell_blk HP.out 1 rfl
  have p2 := cell_blk HP.out 2 rfl
  have p3 := cell_blk HP.out 3 rfl
  have p4 := cell_blk HP.out 4 rfl
  have p5 := cell_blk HP.out 5 rfl
  have p6 := cell_blk HP.out 6 rfl
  have p7 := cell_blk HP.out 7 rfl
  have p8 := cell_blk HP.out 8 rfl
  clear hx hr r3 r4 h0 hJb hJr
  gi_wp2
  refine ⟨trivial, (callsIn_wide.2 (HFA.out _ HS2.out)).mono ?_⟩
  rintro e w3 ⟨rfl, hb3⟩
  have HJ3 : Hid (J 0 w3) := HJB.out _ _ _ HJ2.out hb3
  have HP3 : Hid (w3.heap[W1.heap.size]? = some (.cells #[.int .i64 x.op, .int .i64 x.what, .string x.nm, .int .i64 x.d, .int .i64 x.a, .int .i64 x.b, .int .i64 x.n, .slice r.a r.l r.c, .int .i64 x.dest] 46)) := (hb3.block _ (Array.getElem?_eq_some_iff.1 HP.out).1).trans HP.out
  have c1 := (HRD.out _ _ HJ3.out).1
  clear hb3 p0 p1 p2 p3 p4 p5 p6 p7 p8
  cases hf : F.falls x with
  | false =>
    have HS5 : Hid (Shp w3) := (HRD.out _ _ HJ3.out).2
    have p0 := cell_blk HP3.out 0 rfl
    have p1 := cell_blk HP3.out 1 rfl
    have p2 := cell_blk HP3.out 2 rfl
    have p3 := cell_blk HP3.out 3 rfl
    have p4 := cell_blk HP3.out 4 rfl
    have p5 := cell_blk HP3.out 5 rfl
    have p6 := cell_blk HP3.out 6 rfl
    have p7 := cell_blk HP3.out 7 rfl
    have p8 := cell_blk HP3.out 8 rfl
    dsimp only
    iterate 40 (try (first | go_values | gi_guarded | gi_step | gi_upon | gi_in | gi_back))
    refine ⟨fun _ _ => trivial, ?_⟩
    gi_wp2
    refine ⟨trivial, (callsIn_wide.2 (HLE.out _ HS5.out)).mono ?_⟩
    rintro e w5 ⟨rfl, hb5⟩
    have HJ5 : Hid (J 0 w5) := HJB.out _ _ _ HJ3.out hb5
    have HP5 : Hid (w5.heap[W1.heap.size]? = some (.cells #[.int .i64 x.op, .int .i64 x.what, .string x.nm, .int .i64 x.d, .int .i64 x.a, .int .i64 x.b, .int .i64 x.n, .slice r.a r.l r.c, .int .i64 x.dest] 46)) := (hb5.block _ (Array.getElem?_eq_some_iff.1 HP3.out).1).trans HP3.out
    clear hb5 p0 p1 p2 p3 p4 p5 p6 p7 p8
    have p8 := cell_blk HP5.out 8 rfl
    cases hl : F.leads x with
    | false =>
      have HK : Hid (J (F.nxt x i).length w5) := by
        have h := HJ5.out
        unfold F.nxt
        rw [hf, hl]
        exact h
      gi_wp2
      go_end0
      exact ⟨⟨_, rfl⟩, .inl HK.out⟩
    | true =>
      have hde2 := hde hl
      obtain ⟨dn, hdn⟩ : ∃ dn : Nat, x.dest = (dn : Int) := ⟨x.dest.toNat, by omega⟩
      have hx2 : (F.nxt x i)[0]? = some dn := by
        unfold F.nxt
        rw [hf, hl, hdn]
        rfl
      have HL2 : Hid ((F.nxt x i).length = 0 + 1) := by
        show _ = _
        unfold F.nxt
        rw [hf, hl]
        rfl
      obtain ⟨fn, tmps, assign, body, hy, hR⟩ := hY 0 _ w5 hx2 HJ5.out
      have hR' := RoundIn.any (m' := 5) hR
      rw [hdn] at p8
      clear hR hx2 hY hde hde2 hdn HJ5 HP5 hW2 c1 o0 o1 o2 o3 o4 o5 o6 o7 o8
      gi_wp2
      refine hR'.mono ?_
      rintro e w6 ⟨-, ⟨rfl, hJ6⟩ | ⟨rfl, hJ6⟩⟩
      · have HJ6 : Hid (J (F.nxt x i).length w6) := by show J _ _; rw [HL2.out]; exact hJ6
        clear hJ6 hR' hy
        gi_wp2
        go_end0
        exact ⟨⟨_, rfl⟩, .inl HJ6.out⟩
      · have HJ6 : Hid (Jx w6) := hJ6
        clear hJ6 hR' hy
        gi_wp2
        go_end0
        exact ⟨⟨_, rfl⟩, .inr HJ6.out⟩
  | true =>
    have hx1 : (F.nxt x i)[0]? = some (i + 1) := by
      unfold F.nxt
      rw [hf]
      rfl
    obtain ⟨fn, tmps, assign, body, hy, hR⟩ := hY 0 _ w3 hx1 HJ3.out
    have hR' := RoundIn.any (m' := 5) hR
    rw [show ((i + 1 : Nat) : Int) = (i : Int) + 1 by omega] at hy
    clear hR hx1 hW2 o0 o1 o2 o3 o4 o5 o6 o7 o8
    have hi1 := HI1.out
    gi_wp2
    clear hi1
    refine hR'.mono ?_
    rintro e w4 ⟨hk4, ⟨rfl, hJ4⟩ | ⟨rfl, hJ4⟩⟩
    · have HJ4 : Hid (J 1 w4) := hJ4
      have HP4 : Hid (w4.heap[W1.heap.size]? = some (.cells #[.int .i64 x.op, .int .i64 x.what, .string x.nm, .int .i64 x.d, .int .i64 x.a, .int .i64 x.b, .int .i64 x.n, .slice r.a r.l r.c, .int .i64 x.dest] 46)) := hk4 _ _ _ (by omega) HP3.out
      clear hJ4 hk4 hR' hy HJ3 HP3 c1
      have HS5 : Hid (Shp w4) := (HRD.out _ _ HJ4.out).2
      have p0 := cell_blk HP4.out 0 rfl
      have p1 := cell_blk HP4.out 1 rfl
      have p2 := cell_blk HP4.out 2 rfl
      have p3 := cell_blk HP4.out 3 rfl
      have p4 := cell_blk HP4.out 4 rfl
      have p5 := cell_blk HP4.out 5 rfl
      have p6 := cell_blk HP4.out 6 rfl
      have p7 := cell_blk HP4.out 7 rfl
      have p8 := cell_blk HP4.out 8 rfl
      gi_wp2
      refine ⟨trivial, (callsIn_wide.2 (HLE.out _ HS5.out)).mono ?_⟩
      rintro e w5 ⟨rfl, hb5⟩
      have HJ5 : Hid (J 1 w5) := HJB.out _ _ _ HJ4.out hb5
      have HP5 : Hid (w5.heap[W1.heap.size]? = some (.cells #[.int .i64 x.op, .int .i64 x.what, .string x.nm, .int .i64 x.d, .int .i64 x.a, .int .i64 x.b, .int .i64 x.n, .slice r.a r.l r.c, .int .i64 x.dest] 46)) := (hb5.block _ (Array.getElem?_eq_some_iff.1 HP4.out).1).trans HP4.out
      clear hb5 p0 p1 p2 p3 p4 p5 p6 p7 p8
      have p8 := cell_blk HP5.out 8 rfl
      cases hl : F.leads x with
      | false =>
        have HK : Hid (J (F.nxt x i).length w5) := by
          have h := HJ5.out
          unfold F.nxt
          rw [hf, hl]
          exact h
        gi_wp2
        go_end0
        exact ⟨⟨_, rfl⟩, .inl HK.out⟩
      | true =>
        have hde2 := hde hl
        obtain ⟨dn, hdn⟩ : ∃ dn : Nat, x.dest = (dn : Int) := ⟨x.dest.toNat, by omega⟩
        have hx2 : (F.nxt x i)[1]? = some dn := by
          unfold F.nxt
          rw [hf, hl, hdn]
          rfl
        have HL2 : Hid ((F.nxt x i).length = 1 + 1) := by
          show _ = _
          unfold F.nxt
          rw [hf, hl]
          rfl
        obtain ⟨fn, tmps, assign, body, hy, hR⟩ := hY 1 _ w5 hx2 HJ5.out
        have hR' := RoundIn.any (m' := 5) hR
        rw [hdn] at p8
        clear hR hx2 hY hde hde2 hdn HJ5 HP5
        gi_wp2
        refine hR'.mono ?_
        rintro e w6 ⟨-, ⟨rfl, hJ6⟩ | ⟨rfl, hJ6⟩⟩
        · have HJ6 : Hid (J (F.nxt x i).length w6) := by show J _ _; rw [HL2.out]; exact hJ6
          clear hJ6 hR' hy
          gi_wp2
          go_end0
          exact ⟨⟨_, rfl⟩, .inl HJ6.out⟩
        · have HJ6 : Hid (Jx w6) := hJ6
          clear hJ6 hR' hy
          gi_wp2
          go_end0
          exact ⟨⟨_, rfl⟩, .inr HJ6.out⟩
    · have HJ4 : Hid (Jx w4) := hJ4
      clear hJ4 hk4 hR' hy
      gi_wp2
      refine bodyPost_ret (results_none rfl _ _ _) rfl ?_
      exact ⟨⟨_, rfl⟩, .inr HJ4.out⟩
end Go.Proofs.YtljgpngbkmembaaDoor
