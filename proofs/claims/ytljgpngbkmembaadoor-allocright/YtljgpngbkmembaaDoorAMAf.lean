/- The temps that an operation reads, one by one. -/
import Derived.Test.YtljgpngbkmembaaDoorAMAb
import Derived.Test.YtljgpngbkmembaaDoorAMAc
import Derived.Test.YtljgpngbkmembaaDoorAMAd
namespace Go.Proofs.YtljgpngbkmembaaDoor
open Go.RowKit Go.Maps Go.Shelf
attribute [local go_sem] Oper.semAt_some
set_option linter.unusedVariables false
set_option linter.unusedSimpArgs false
namespace F
/-- The temps that an operation reads, by its kind's row. -/
def rdS (x : Op) (k : Nat) : List Int := (if (sh k).a = 0 then [] else if x.a = -1 then [] else [x.a]) ++ ((if (sh k).b = 0 then [] else [x.b]) ++ (if (sh k).args = true then x.args else []))
theorem rdS_rd {x : Op} {k : Nat} (h : k < 17) (hx : x.op = (k : Int)) {T L : Int} (ho : opOk T L x = true) : rdS x k = rd x := by
  have hk := op_kind ho
  unfold rdS rd
  rcases cases17 h with rfl | rfl | rfl | rfl | rfl | rfl | rfl | rfl | rfl | rfl | rfl | rfl | rfl | rfl | rfl | rfl | rfl
  all_goals first | (exfalso; omega) | skip
  all_goals (unfold opOk at ho; simp [hx, sh, inT, orNo] at ho ⊢)
  all_goals first | done | omega | (by_cases h1 : x.a = -1 <;> simp [h1] <;> first | done | omega | (rw [if_pos (by omega)]) | (rw [if_neg (by omega)]) | (intro h2; omega))
theorem sh_combos {k : Nat} (h : k < 17) : ((sh k).a = 0 ∧ (sh k).b = 0 ∧ (sh k).args = false) ∨ ((sh k).a ≠ 0 ∧ (sh k).b = 0 ∧ (sh k).args = false) ∨ ((sh k).a ≠ 0 ∧ (sh k).b ≠ 0 ∧ (sh k).args = false) ∨ ((sh k).a = 0 ∧ (sh k).b ≠ 0 ∧ (sh k).args = false) ∨ ((sh k).a = 0 ∧ (sh k).b = 0 ∧ (sh k).args = true) := by
  rcases cases17 h with rfl | rfl | rfl | rfl | rfl | rfl | rfl | rfl | rfl | rfl | rfl | rfl | rfl | rfl | rfl | rfl | rfl <;> decide
end F
/-- What Reads's closure reads. -/
def RdsRd (Bo : Nat) (x : F.Op) (r : Ar) (W : World) : Prop := OpAt W Bo 0 x r ∧ NumV W r.a r.l r.c x.args ∧ Shp W
set_option maxRecDepth 100000 in
set_option maxHeartbeats 8000000 in
theorem reads_none (Bo : Nat) (x : F.Op) (r : Ar) {k : Nat} (hk : k < 17) (hx : x.op = (k : Int)) (ha : (F.sh k).a = 0) (hb : (F.sh k).b = 0) (hg : (F.sh k).args = false) :
    GoesL Tryd.prog 73 #[.pointer (some ⟨Bo, 0, none⟩)] (fun t : Int => #[.int .i64 t]) ([] : List Int) (RdsRd Bo x r) 95 := by
  intro lp n J Jx W1 hn hJb hJr hY h0
  obtain ⟨r1, r2, r3⟩ := hJr _ _ h0
  obtain ⟨g0, g1, g2, g3, g4, g5, g6, g7, g8⟩ := r3.cells k hk
  obtain ⟨o0, o1, o2, o3, o4, o5, o6, o7, o8⟩ := r1
  simp only [Nat.zero_add] at o0 o1 o2 o3 o4 o5 o6 o7 o8
  rw [hx] at o0
  have HRD : Hid (∀ k A, J k A → A.cell? ⟨Bo, 4, none⟩ = some (.int .i64 x.a) ∧ A.cell? ⟨Bo, 5, none⟩ = some (.int .i64 x.b) ∧ A.cell? ⟨Bo, 7, none⟩ = some (.slice r.a r.l r.c) ∧ NumV A r.a r.l r.c x.args) := fun k A h => by
    obtain ⟨⟨-, -, -, -, o4, o5, -, o7, -⟩, h2, -⟩ := hJr k A h
    simp only [Nat.zero_add] at o4 o5 o7
    exact ⟨o4, o5, o7, h2⟩
  have HJB : Hid _ := hJb
  have hk0 : 0 ≤ (k : Int) := by omega
  have hk17 : (k : Int) < 17 := by omega
  obtain ⟨sd, hsd⟩ : ∃ q, (F.sh k).d = q := ⟨_, rfl⟩
  obtain ⟨sa, hsa⟩ : ∃ q, (F.sh k).a = q := ⟨_, rfl⟩
  obtain ⟨sb, hsb⟩ : ∃ q, (F.sh k).b = q := ⟨_, rfl⟩
  obtain ⟨s3, hs3⟩ : ∃ q, (F.sh k).what = q := ⟨_, rfl⟩
  obtain ⟨s4, hs4⟩ : ∃ q, (F.sh k).name = q := ⟨_, rfl⟩
  obtain ⟨s5, hs5⟩ : ∃ q, (F.sh k).n = q := ⟨_, rfl⟩
  obtain ⟨s6, hs6⟩ : ∃ q, (F.sh k).args = q := ⟨_, rfl⟩
  obtain ⟨s7, hs7⟩ : ∃ q, (F.sh k).dest = q := ⟨_, rfl⟩
  obtain ⟨s8, hs8⟩ : ∃ q, (F.sh k).ends = q := ⟨_, rfl⟩
  rw [hsd] at g0
  rw [hsa] at g1 ha
  rw [hsb] at g2 hb
  rw [hs3] at g3
  rw [hs4] at g4
  rw [hs5] at g5
  rw [hs6] at g6 hg
  rw [hs7] at g7
  rw [hs8] at g8
  subst ha
  subst hb
  subst hg
  clear hsd hsa hsb hs3 hs4 hs5 hs6 hs7 hs8 hx hk r3
  refine (callsIn_wide (n := 6)).1 ?_
  refine callsIn_of_wp Tryd.func73 rfl trivial ?_ rfl
  simp only [Tryd.ntmps73, List.size_toArray, List.length_cons, List.length_nil, Nat.reduceAdd, Nat.reduceSub, Array.replicate_succ, Array.replicate_zero, List.push_toArray, List.append_toArray, List.nil_append, List.cons_append]
  obtain ⟨W2, hW2⟩ : ∃ W2, W1.alloc (.cells #[.int .i64 sd, .int .i64 0, .int .i64 0, .bool s3, .bool s4, .bool s5, .bool false, .bool s7, .bool s8] 95) = W2 := ⟨_, rfl⟩
  have HP : Hid (W2.heap[W1.heap.size]? = some (.cells #[.int .i64 sd, .int .i64 0, .int .i64 0, .bool s3, .bool s4, .bool s5, .bool false, .bool s7, .bool s8] 95)) := by show _ = _; rw [← hW2]; exact World.alloc_heap_new _ _
  have HJ2 : Hid (J 0 W2) := by rw [← hW2]; exact hJb _ _ _ h0 (bl1 _ _)
  have c1 := cell_blk HP.out 1 rfl
  have c2 := cell_blk HP.out 2 rfl
  have c6 := cell_blk HP.out 6 rfl
  obtain ⟨d4, d5, d7, -⟩ := HRD.out _ _ HJ2.out
  clear hJb hJr h0
  iterate 200 (try (first | go_values | gi_guarded | gi_step | gi_upon | gi_in | gi_back))
  refine ⟨fun _ _ => trivial, ?_⟩
  iterate 200 (try (first | go_values | gi_guarded | gi_step | gi_upon | gi_in | gi_back))
  refine ⟨fun _ _ => trivial, ?_⟩
  gi_wp2
  refine bodyPost_ret (results_none rfl _ _ _) rfl ?_
  exact ⟨⟨_, rfl⟩, .inl HJ2.out⟩
set_option maxRecDepth 100000 in
set_option maxHeartbeats 8000000 in
theorem reads_a (Bo : Nat) (x : F.Op) (r : Ar) {k : Nat} (hk : k < 17) (hx : x.op = (k : Int)) (ha : (F.sh k).a ≠ 0) (hm : x.a ≠ -1) (hb : (F.sh k).b = 0) (hg : (F.sh k).args = false) :
    GoesL Tryd.prog 73 #[.pointer (some ⟨Bo, 0, none⟩)] (fun t : Int => #[.int .i64 t]) ([x.a] : List Int) (RdsRd Bo x r) 95 := by
  intro lp n J Jx W1 hn hJb hJr hY h0
  obtain ⟨r1, r2, r3⟩ := hJr _ _ h0
  obtain ⟨g0, g1, g2, g3, g4, g5, g6, g7, g8⟩ := r3.cells k hk
  obtain ⟨o0, o1, o2, o3, o4, o5, o6, o7, o8⟩ := r1
  simp only [Nat.zero_add] at o0 o1 o2 o3 o4 o5 o6 o7 o8
  rw [hx] at o0
  have HRD : Hid (∀ k A, J k A → A.cell? ⟨Bo, 4, none⟩ = some (.int .i64 x.a) ∧ A.cell? ⟨Bo, 5, none⟩ = some (.int .i64 x.b) ∧ A.cell? ⟨Bo, 7, none⟩ = some (.slice r.a r.l r.c) ∧ NumV A r.a r.l r.c x.args) := fun k A h => by
    obtain ⟨⟨-, -, -, -, o4, o5, -, o7, -⟩, h2, -⟩ := hJr k A h
    simp only [Nat.zero_add] at o4 o5 o7
    exact ⟨o4, o5, o7, h2⟩
  have HJB : Hid _ := hJb
  have hk0 : 0 ≤ (k : Int) := by omega
  have hk17 : (k : Int) < 17 := by omega
  obtain ⟨sd, hsd⟩ : ∃ q, (F.sh k).d = q := ⟨_, rfl⟩
  obtain ⟨sa, hsa⟩ : ∃ q, (F.sh k).a = q := ⟨_, rfl⟩
  obtain ⟨sb, hsb⟩ : ∃ q, (F.sh k).b = q := ⟨_, rfl⟩
  obtain ⟨s3, hs3⟩ : ∃ q, (F.sh k).what = q := ⟨_, rfl⟩
  obtain ⟨s4, hs4⟩ : ∃ q, (F.sh k).name = q := ⟨_, rfl⟩
  obtain ⟨s5, hs5⟩ : ∃ q, (F.sh k).n = q := ⟨_, rfl⟩
  obtain ⟨s6, hs6⟩ : ∃ q, (F.sh k).args = q := ⟨_, rfl⟩
  obtain ⟨s7, hs7⟩ : ∃ q, (F.sh k).dest = q := ⟨_, rfl⟩
  obtain ⟨s8, hs8⟩ : ∃ q, (F.sh k).ends = q := ⟨_, rfl⟩
  rw [hsd] at g0
  rw [hsa] at g1 ha
  rw [hsb] at g2 hb
  rw [hs3] at g3
  rw [hs4] at g4
  rw [hs5] at g5
  rw [hs6] at g6 hg
  rw [hs7] at g7
  rw [hs8] at g8
  have e1 : (sa != 0) = true := by simpa using ha
  have e1b : (sa == 0) = false := by simpa using ha
  have e2 : (x.a != -1) = true := by simpa using hm
  have e2b : (x.a == -1) = false := by simpa using hm
  subst hb
  subst hg
  clear ha
  clear hm
  clear hsd hsa hsb hs3 hs4 hs5 hs6 hs7 hs8 hx hk r3
  refine (callsIn_wide (n := 6)).1 ?_
  refine callsIn_of_wp Tryd.func73 rfl trivial ?_ rfl
  simp only [Tryd.ntmps73, List.size_toArray, List.length_cons, List.length_nil, Nat.reduceAdd, Nat.reduceSub, Array.replicate_succ, Array.replicate_zero, List.push_toArray, List.append_toArray, List.nil_append, List.cons_append]
  obtain ⟨W2, hW2⟩ : ∃ W2, W1.alloc (.cells #[.int .i64 sd, .int .i64 sa, .int .i64 0, .bool s3, .bool s4, .bool s5, .bool false, .bool s7, .bool s8] 95) = W2 := ⟨_, rfl⟩
  have HP : Hid (W2.heap[W1.heap.size]? = some (.cells #[.int .i64 sd, .int .i64 sa, .int .i64 0, .bool s3, .bool s4, .bool s5, .bool false, .bool s7, .bool s8] 95)) := by show _ = _; rw [← hW2]; exact World.alloc_heap_new _ _
  have HJ2 : Hid (J 0 W2) := by rw [← hW2]; exact hJb _ _ _ h0 (bl1 _ _)
  have c1 := cell_blk HP.out 1 rfl
  have c2 := cell_blk HP.out 2 rfl
  have c6 := cell_blk HP.out 6 rfl
  obtain ⟨d4, d5, d7, -⟩ := HRD.out _ _ HJ2.out
  clear hJb hJr h0
  have hx0 : ([x.a] : List Int)[0]? = some x.a := rfl
  obtain ⟨fn, tmps, assign, body, hy, hR⟩ := hY 0 _ W2 hx0 HJ2.out
  have hR' := RoundIn.any (m' := 5) hR
  clear hR hx0
  gi_wp2
  refine hR'.mono ?_
  rintro e w4 ⟨hk4, hcase⟩
  have HQ4 : Hid ((e = .returned (.bool true) ∧ J (0 + 1) w4) ∨ (e = .returned (.bool false) ∧ Jx w4)) := hcase
  have HP4 : Hid (w4.heap[W1.heap.size]? = some (.cells #[.int .i64 sd, .int .i64 sa, .int .i64 0, .bool s3, .bool s4, .bool s5, .bool false, .bool s7, .bool s8] 95)) := hk4 _ _ _ (by omega) HP.out
  clear hR' hy hcase hk4 c1 c2 c6 d4 d5 d7
  rcases HQ4.out with ⟨rfl, hJ⟩ | ⟨rfl, hJ⟩
  rotate_left
  · have HJX : Hid (Jx w4) := hJ
    clear hJ HQ4
    gi_wp2
    refine bodyPost_ret (results_none rfl _ _ _) rfl ?_
    exact ⟨⟨_, rfl⟩, .inr HJX.out⟩
  have HJ4 : Hid (J 1 w4) := hJ
  clear hJ HQ4
  have c1 := cell_blk HP4.out 1 rfl
  have c2 := cell_blk HP4.out 2 rfl
  have c6 := cell_blk HP4.out 6 rfl
  obtain ⟨d4, d5, d7, -⟩ := HRD.out _ _ HJ4.out
  dsimp only
  iterate 200 (try (first | go_values | gi_guarded | gi_step | gi_upon | gi_in | gi_back))
  refine ⟨fun _ _ => trivial, ?_⟩
  gi_wp2
  refine bodyPost_ret (results_none rfl _ _ _) rfl ?_
  exact ⟨⟨_, rfl⟩, .inl HJ4.out⟩
set_option maxRecDepth 100000 in
set_option maxHeartbeats 8000000 in
theorem reads_na (Bo : Nat) (x : F.Op) (r : Ar) {k : Nat} (hk : k < 17) (hx : x.op = (k : Int)) (ha : (F.sh k).a ≠ 0) (hm : x.a = -1) (hb : (F.sh k).b = 0) (hg : (F.sh k).args = false) :
    GoesL Tryd.prog 73 #[.pointer (some ⟨Bo, 0, none⟩)] (fun t : Int => #[.int .i64 t]) ([] : List Int) (RdsRd Bo x r) 95 := by
  intro lp n J Jx W1 hn hJb hJr hY h0
  obtain ⟨r1, r2, r3⟩ := hJr _ _ h0
  obtain ⟨g0, g1, g2, g3, g4, g5, g6, g7, g8⟩ := r3.cells k hk
  obtain ⟨o0, o1, o2, o3, o4, o5, o6, o7, o8⟩ := r1
  simp only [Nat.zero_add] at o0 o1 o2 o3 o4 o5 o6 o7 o8
  rw [hx] at o0
  have HRD : Hid (∀ k A, J k A → A.cell? ⟨Bo, 4, none⟩ = some (.int .i64 x.a) ∧ A.cell? ⟨Bo, 5, none⟩ = some (.int .i64 x.b) ∧ A.cell? ⟨Bo, 7, none⟩ = some (.slice r.a r.l r.c) ∧ NumV A r.a r.l r.c x.args) := fun k A h => by
    obtain ⟨⟨-, -, -, -, o4, o5, -, o7, -⟩, h2, -⟩ := hJr k A h
    simp only [Nat.zero_add] at o4 o5 o7
    exact ⟨o4, o5, o7, h2⟩
  have HJB : Hid _ := hJb
  have hk0 : 0 ≤ (k : Int) := by omega
  have hk17 : (k : Int) < 17 := by omega
  obtain ⟨sd, hsd⟩ : ∃ q, (F.sh k).d = q := ⟨_, rfl⟩
  obtain ⟨sa, hsa⟩ : ∃ q, (F.sh k).a = q := ⟨_, rfl⟩
  obtain ⟨sb, hsb⟩ : ∃ q, (F.sh k).b = q := ⟨_, rfl⟩
  obtain ⟨s3, hs3⟩ : ∃ q, (F.sh k).what = q := ⟨_, rfl⟩
  obtain ⟨s4, hs4⟩ : ∃ q, (F.sh k).name = q := ⟨_, rfl⟩
  obtain ⟨s5, hs5⟩ : ∃ q, (F.sh k).n = q := ⟨_, rfl⟩
  obtain ⟨s6, hs6⟩ : ∃ q, (F.sh k).args = q := ⟨_, rfl⟩
  obtain ⟨s7, hs7⟩ : ∃ q, (F.sh k).dest = q := ⟨_, rfl⟩
  obtain ⟨s8, hs8⟩ : ∃ q, (F.sh k).ends = q := ⟨_, rfl⟩
  rw [hsd] at g0
  rw [hsa] at g1 ha
  rw [hsb] at g2 hb
  rw [hs3] at g3
  rw [hs4] at g4
  rw [hs5] at g5
  rw [hs6] at g6 hg
  rw [hs7] at g7
  rw [hs8] at g8
  have e1 : (sa != 0) = true := by simpa using ha
  have e1b : (sa == 0) = false := by simpa using ha
  have e2 : (x.a != -1) = false := by simpa using hm
  have e2b : (x.a == -1) = true := by simpa using hm
  subst hb
  subst hg
  clear ha
  clear hm
  clear hsd hsa hsb hs3 hs4 hs5 hs6 hs7 hs8 hx hk r3
  refine (callsIn_wide (n := 6)).1 ?_
  refine callsIn_of_wp Tryd.func73 rfl trivial ?_ rfl
  simp only [Tryd.ntmps73, List.size_toArray, List.length_cons, List.length_nil, Nat.reduceAdd, Nat.reduceSub, Array.replicate_succ, Array.replicate_zero, List.push_toArray, List.append_toArray, List.nil_append, List.cons_append]
  obtain ⟨W2, hW2⟩ : ∃ W2, W1.alloc (.cells #[.int .i64 sd, .int .i64 sa, .int .i64 0, .bool s3, .bool s4, .bool s5, .bool false, .bool s7, .bool s8] 95) = W2 := ⟨_, rfl⟩
  have HP : Hid (W2.heap[W1.heap.size]? = some (.cells #[.int .i64 sd, .int .i64 sa, .int .i64 0, .bool s3, .bool s4, .bool s5, .bool false, .bool s7, .bool s8] 95)) := by show _ = _; rw [← hW2]; exact World.alloc_heap_new _ _
  have HJ2 : Hid (J 0 W2) := by rw [← hW2]; exact hJb _ _ _ h0 (bl1 _ _)
  have c1 := cell_blk HP.out 1 rfl
  have c2 := cell_blk HP.out 2 rfl
  have c6 := cell_blk HP.out 6 rfl
  obtain ⟨d4, d5, d7, -⟩ := HRD.out _ _ HJ2.out
  clear hJb hJr h0
  iterate 200 (try (first | go_values | gi_guarded | gi_step | gi_upon | gi_in | gi_back))
  refine ⟨fun _ _ => trivial, ?_⟩
  iterate 200 (try (first | go_values | gi_guarded | gi_step | gi_upon | gi_in | gi_back))
  refine ⟨fun _ _ => trivial, ?_⟩
  gi_wp2
  refine bodyPost_ret (results_none rfl _ _ _) rfl ?_
  exact ⟨⟨_, rfl⟩, .inl HJ2.out⟩
set_option maxRecDepth 100000 in
set_option maxHeartbeats 8000000 in
theorem reads_ab (Bo : Nat) (x : F.Op) (r : Ar) {k : Nat} (hk : k < 17) (hx : x.op = (k : Int)) (ha : (F.sh k).a ≠ 0) (hm : x.a ≠ -1) (hb : (F.sh k).b ≠ 0) (hg : (F.sh k).args = false) :
    GoesL Tryd.prog 73 #[.pointer (some ⟨Bo, 0, none⟩)] (fun t : Int => #[.int .i64 t]) ([x.a, x.b] : List Int) (RdsRd Bo x r) 95 := by
  intro lp n J Jx W1 hn hJb hJr hY h0
  obtain ⟨r1, r2, r3⟩ := hJr _ _ h0
  obtain ⟨g0, g1, g2, g3, g4, g5, g6, g7, g8⟩ := r3.cells k hk
  obtain ⟨o0, o1, o2, o3, o4, o5, o6, o7, o8⟩ := r1
  simp only [Nat.zero_add] at o0 o1 o2 o3 o4 o5 o6 o7 o8
  rw [hx] at o0
  have HRD : Hid (∀ k A, J k A → A.cell? ⟨Bo, 4, none⟩ = some (.int .i64 x.a) ∧ A.cell? ⟨Bo, 5, none⟩ = some (.int .i64 x.b) ∧ A.cell? ⟨Bo, 7, none⟩ = some (.slice r.a r.l r.c) ∧ NumV A r.a r.l r.c x.args) := fun k A h => by
    obtain ⟨⟨-, -, -, -, o4, o5, -, o7, -⟩, h2, -⟩ := hJr k A h
    simp only [Nat.zero_add] at o4 o5 o7
    exact ⟨o4, o5, o7, h2⟩
  have HJB : Hid _ := hJb
  have hk0 : 0 ≤ (k : Int) := by omega
  have hk17 : (k : Int) < 17 := by omega
  obtain ⟨sd, hsd⟩ : ∃ q, (F.sh k).d = q := ⟨_, rfl⟩
  obtain ⟨sa, hsa⟩ : ∃ q, (F.sh k).a = q := ⟨_, rfl⟩
  obtain ⟨sb, hsb⟩ : ∃ q, (F.sh k).b = q := ⟨_, rfl⟩
  obtain ⟨s3, hs3⟩ : ∃ q, (F.sh k).what = q := ⟨_, rfl⟩
  obtain ⟨s4, hs4⟩ : ∃ q, (F.sh k).name = q := ⟨_, rfl⟩
  obtain ⟨s5, hs5⟩ : ∃ q, (F.sh k).n = q := ⟨_, rfl⟩
  obtain ⟨s6, hs6⟩ : ∃ q, (F.sh k).args = q := ⟨_, rfl⟩
  obtain ⟨s7, hs7⟩ : ∃ q, (F.sh k).dest = q := ⟨_, rfl⟩
  obtain ⟨s8, hs8⟩ : ∃ q, (F.sh k).ends = q := ⟨_, rfl⟩
  rw [hsd] at g0
  rw [hsa] at g1 ha
  rw [hsb] at g2 hb
  rw [hs3] at g3
  rw [hs4] at g4
  rw [hs5] at g5
  rw [hs6] at g6 hg
  rw [hs7] at g7
  rw [hs8] at g8
  have e1 : (sa != 0) = true := by simpa using ha
  have e1b : (sa == 0) = false := by simpa using ha
  have e2 : (x.a != -1) = true := by simpa using hm
  have e2b : (x.a == -1) = false := by simpa using hm
  have e3 : (sb != 0) = true := by simpa using hb
  have e3b : (sb == 0) = false := by simpa using hb
  subst hg
  clear ha
  clear hm
  clear hb
  clear hsd hsa hsb hs3 hs4 hs5 hs6 hs7 hs8 hx hk r3
  refine (callsIn_wide (n := 6)).1 ?_
  refine callsIn_of_wp Tryd.func73 rfl trivial ?_ rfl
  simp only [Tryd.ntmps73, List.size_toArray, List.length_cons, List.length_nil, Nat.reduceAdd, Nat.reduceSub, Array.replicate_succ, Array.replicate_zero, List.push_toArray, List.append_toArray, List.nil_append, List.cons_append]
  obtain ⟨W2, hW2⟩ : ∃ W2, W1.alloc (.cells #[.int .i64 sd, .int .i64 sa, .int .i64 sb, .bool s3, .bool s4, .bool s5, .bool false, .bool s7, .bool s8] 95) = W2 := ⟨_, rfl⟩
  have HP : Hid (W2.heap[W1.heap.size]? = some (.cells #[.int .i64 sd, .int .i64 sa, .int .i64 sb, .bool s3, .bool s4, .bool s5, .bool false, .bool s7, .bool s8] 95)) := by show _ = _; rw [← hW2]; exact World.alloc_heap_new _ _
  have HJ2 : Hid (J 0 W2) := by rw [← hW2]; exact hJb _ _ _ h0 (bl1 _ _)
  have c1 := cell_blk HP.out 1 rfl
  have c2 := cell_blk HP.out 2 rfl
  have c6 := cell_blk HP.out 6 rfl
  obtain ⟨d4, d5, d7, -⟩ := HRD.out _ _ HJ2.out
  clear hJb hJr h0
  have hx0 : ([x.a, x.b] : List Int)[0]? = some x.a := rfl
  obtain ⟨fn, tmps, assign, body, hy, hR⟩ := hY 0 _ W2 hx0 HJ2.out
  have hR' := RoundIn.any (m' := 5) hR
  clear hR hx0
  gi_wp2
  refine hR'.mono ?_
  rintro e w4 ⟨hk4, hcase⟩
  have HQ4 : Hid ((e = .returned (.bool true) ∧ J (0 + 1) w4) ∨ (e = .returned (.bool false) ∧ Jx w4)) := hcase
  have HP4 : Hid (w4.heap[W1.heap.size]? = some (.cells #[.int .i64 sd, .int .i64 sa, .int .i64 sb, .bool s3, .bool s4, .bool s5, .bool false, .bool s7, .bool s8] 95)) := hk4 _ _ _ (by omega) HP.out
  clear hR' hy hcase hk4 c1 c2 c6 d4 d5 d7
  rcases HQ4.out with ⟨rfl, hJ⟩ | ⟨rfl, hJ⟩
  rotate_left
  · have HJX : Hid (Jx w4) := hJ
    clear hJ HQ4
    gi_wp2
    refine bodyPost_ret (results_none rfl _ _ _) rfl ?_
    exact ⟨⟨_, rfl⟩, .inr HJX.out⟩
  have HJ4 : Hid (J 1 w4) := hJ
  clear hJ HQ4
  have c1 := cell_blk HP4.out 1 rfl
  have c2 := cell_blk HP4.out 2 rfl
  have c6 := cell_blk HP4.out 6 rfl
  obtain ⟨d4, d5, d7, -⟩ := HRD.out _ _ HJ4.out
  dsimp only
  have hx1 : ([x.a, x.b] : List Int)[1]? = some x.b := rfl
  obtain ⟨fn, tmps, assign, body, hy, hR⟩ := hY 1 _ w4 hx1 HJ4.out
  have hR' := RoundIn.any (m' := 5) hR
  clear hR hx1
  gi_wp2
  refine hR'.mono ?_
  rintro e w5 ⟨hk5, hcase⟩
  have HQ5 : Hid ((e = .returned (.bool true) ∧ J (1 + 1) w5) ∨ (e = .returned (.bool false) ∧ Jx w5)) := hcase
  have HP5 : Hid (w5.heap[W1.heap.size]? = some (.cells #[.int .i64 sd, .int .i64 sa, .int .i64 sb, .bool s3, .bool s4, .bool s5, .bool false, .bool s7, .bool s8] 95)) := hk5 _ _ _ (by omega) HP4.out
  clear hR' hy hcase hk5 c1 c2 c6 d4 d5 d7
  rcases HQ5.out with ⟨rfl, hJ⟩ | ⟨rfl, hJ⟩
  rotate_left
  · have HJX : Hid (Jx w5) := hJ
    clear hJ HQ5
    gi_wp2
    refine bodyPost_ret (results_none rfl _ _ _) rfl ?_
    exact ⟨⟨_, rfl⟩, .inr HJX.out⟩
  have HJ5 : Hid (J 2 w5) := hJ
  clear hJ HQ5
  have c1 := cell_blk HP5.out 1 rfl
  have c2 := cell_blk HP5.out 2 rfl
  have c6 := cell_blk HP5.out 6 rfl
  obtain ⟨d4, d5, d7, -⟩ := HRD.out _ _ HJ5.out
  dsimp only
  gi_wp2
  refine bodyPost_ret (results_none rfl _ _ _) rfl ?_
  exact ⟨⟨_, rfl⟩, .inl HJ5.out⟩
set_option maxRecDepth 100000 in
set_option maxHeartbeats 8000000 in
theorem reads_nab (Bo : Nat) (x : F.Op) (r : Ar) {k : Nat} (hk : k < 17) (hx : x.op = (k : Int)) (ha : (F.sh k).a ≠ 0) (hm : x.a = -1) (hb : (F.sh k).b ≠ 0) (hg : (F.sh k).args = false) :
    GoesL Tryd.prog 73 #[.pointer (some ⟨Bo, 0, none⟩)] (fun t : Int => #[.int .i64 t]) ([x.b] : List Int) (RdsRd Bo x r) 95 := by
  intro lp n J Jx W1 hn hJb hJr hY h0
  obtain ⟨r1, r2, r3⟩ := hJr _ _ h0
  obtain ⟨g0, g1, g2, g3, g4, g5, g6, g7, g8⟩ := r3.cells k hk
  obtain ⟨o0, o1, o2, o3, o4, o5, o6, o7, o8⟩ := r1
  simp only [Nat.zero_add] at o0 o1 o2 o3 o4 o5 o6 o7 o8
  rw [hx] at o0
  have HRD : Hid (∀ k A, J k A → A.cell? ⟨Bo, 4, none⟩ = some (.int .i64 x.a) ∧ A.cell? ⟨Bo, 5, none⟩ = some (.int .i64 x.b) ∧ A.cell? ⟨Bo, 7, none⟩ = some (.slice r.a r.l r.c) ∧ NumV A r.a r.l r.c x.args) := fun k A h => by
    obtain ⟨⟨-, -, -, -, o4, o5, -, o7, -⟩, h2, -⟩ := hJr k A h
    simp only [Nat.zero_add] at o4 o5 o7
    exact ⟨o4, o5, o7, h2⟩
  have HJB : Hid _ := hJb
  have hk0 : 0 ≤ (k : Int) := by omega
  have hk17 : (k : Int) < 17 := by omega
  obtain ⟨sd, hsd⟩ : ∃ q, (F.sh k).d = q := ⟨_, rfl⟩
  obtain ⟨sa, hsa⟩ : ∃ q, (F.sh k).a = q := ⟨_, rfl⟩
  obtain ⟨sb, hsb⟩ : ∃ q, (F.sh k).b = q := ⟨_, rfl⟩
  obtain ⟨s3, hs3⟩ : ∃ q, (F.sh k).what = q := ⟨_, rfl⟩
  obtain ⟨s4, hs4⟩ : ∃ q, (F.sh k).name = q := ⟨_, rfl⟩
  obtain ⟨s5, hs5⟩ : ∃ q, (F.sh k).n = q := ⟨_, rfl⟩
  obtain ⟨s6, hs6⟩ : ∃ q, (F.sh k).args = q := ⟨_, rfl⟩
  obtain ⟨s7, hs7⟩ : ∃ q, (F.sh k).dest = q := ⟨_, rfl⟩
  obtain ⟨s8, hs8⟩ : ∃ q, (F.sh k).ends = q := ⟨_, rfl⟩
  rw [hsd] at g0
  rw [hsa] at g1 ha
  rw [hsb] at g2 hb
  rw [hs3] at g3
  rw [hs4] at g4
  rw [hs5] at g5
  rw [hs6] at g6 hg
  rw [hs7] at g7
  rw [hs8] at g8
  have e1 : (sa != 0) = true := by simpa using ha
  have e1b : (sa == 0) = false := by simpa using ha
  have e2 : (x.a != -1) = false := by simpa using hm
  have e2b : (x.a == -1) = true := by simpa using hm
  have e3 : (sb != 0) = true := by simpa using hb
  have e3b : (sb == 0) = false := by simpa using hb
  subst hg
  clear ha
  clear hm
  clear hb
  clear hsd hsa hsb hs3 hs4 hs5 hs6 hs7 hs8 hx hk r3
  refine (callsIn_wide (n := 6)).1 ?_
  refine callsIn_of_wp Tryd.func73 rfl trivial ?_ rfl
  simp only [Tryd.ntmps73, List.size_toArray, List.length_cons, List.length_nil, Nat.reduceAdd, Nat.reduceSub, Array.replicate_succ, Array.replicate_zero, List.push_toArray, List.append_toArray, List.nil_append, List.cons_append]
  obtain ⟨W2, hW2⟩ : ∃ W2, W1.alloc (.cells #[.int .i64 sd, .int .i64 sa, .int .i64 sb, .bool s3, .bool s4, .bool s5, .bool false, .bool s7, .bool s8] 95) = W2 := ⟨_, rfl⟩
  have HP : Hid (W2.heap[W1.heap.size]? = some (.cells #[.int .i64 sd, .int .i64 sa, .int .i64 sb, .bool s3, .bool s4, .bool s5, .bool false, .bool s7, .bool s8] 95)) := by show _ = _; rw [← hW2]; exact World.alloc_heap_new _ _
  have HJ2 : Hid (J 0 W2) := by rw [← hW2]; exact hJb _ _ _ h0 (bl1 _ _)
  have c1 := cell_blk HP.out 1 rfl
  have c2 := cell_blk HP.out 2 rfl
  have c6 := cell_blk HP.out 6 rfl
  obtain ⟨d4, d5, d7, -⟩ := HRD.out _ _ HJ2.out
  clear hJb hJr h0
  iterate 200 (try (first | go_values | gi_guarded | gi_step | gi_upon | gi_in | gi_back))
  refine ⟨fun _ _ => trivial, ?_⟩
  have hx0 : ([x.b] : List Int)[0]? = some x.b := rfl
  obtain ⟨fn, tmps, assign, body, hy, hR⟩ := hY 0 _ W2 hx0 HJ2.out
  have hR' := RoundIn.any (m' := 5) hR
  clear hR hx0
  gi_wp2
  refine hR'.mono ?_
  rintro e w4 ⟨hk4, hcase⟩
  have HQ4 : Hid ((e = .returned (.bool true) ∧ J (0 + 1) w4) ∨ (e = .returned (.bool false) ∧ Jx w4)) := hcase
  have HP4 : Hid (w4.heap[W1.heap.size]? = some (.cells #[.int .i64 sd, .int .i64 sa, .int .i64 sb, .bool s3, .bool s4, .bool s5, .bool false, .bool s7, .bool s8] 95)) := hk4 _ _ _ (by omega) HP.out
  clear hR' hy hcase hk4 c1 c2 c6 d4 d5 d7
  rcases HQ4.out with ⟨rfl, hJ⟩ | ⟨rfl, hJ⟩
  rotate_left
  · have HJX : Hid (Jx w4) := hJ
    clear hJ HQ4
    gi_wp2
    refine bodyPost_ret (results_none rfl _ _ _) rfl ?_
    exact ⟨⟨_, rfl⟩, .inr HJX.out⟩
  have HJ4 : Hid (J 1 w4) := hJ
  clear hJ HQ4
  have c1 := cell_blk HP4.out 1 rfl
  have c2 := cell_blk HP4.out 2 rfl
  have c6 := cell_blk HP4.out 6 rfl
  obtain ⟨d4, d5, d7, -⟩ := HRD.out _ _ HJ4.out
  dsimp only
  gi_wp2
  refine bodyPost_ret (results_none rfl _ _ _) rfl ?_
  exact ⟨⟨_, rfl⟩, .inl HJ4.out⟩
set_option maxRecDepth 100000 in
set_option maxHeartbeats 8000000 in
theorem reads_b (Bo : Nat) (x : F.Op) (r : Ar) {k : Nat} (hk : k < 17) (hx : x.op = (k : Int)) (ha : (F.sh k).a = 0) (hb : (F.sh k).b ≠ 0) (hg : (F.sh k).args = false) :
    GoesL Tryd.prog 73 #[.pointer (some ⟨Bo, 0, none⟩)] (fun t : Int => #[.int .i64 t]) ([x.b] : List Int) (RdsRd Bo x r) 95 := by
  intro lp n J Jx W1 hn hJb hJr hY h0
  obtain ⟨r1, r2, r3⟩ := hJr _ _ h0
  obtain ⟨g0, g1, g2, g3, g4, g5, g6, g7, g8⟩ := r3.cells k hk
  obtain ⟨o0, o1, o2, o3, o4, o5, o6, o7, o8⟩ := r1
  simp only [Nat.zero_add] at o0 o1 o2 o3 o4 o5 o6 o7 o8
  rw [hx] at o0
  have HRD : Hid (∀ k A, J k A → A.cell? ⟨Bo, 4, none⟩ = some (.int .i64 x.a) ∧ A.cell? ⟨Bo, 5, none⟩ = some (.int .i64 x.b) ∧ A.cell? ⟨Bo, 7, none⟩ = some (.slice r.a r.l r.c) ∧ NumV A r.a r.l r.c x.args) := fun k A h => by
    obtain ⟨⟨-, -, -, -, o4, o5, -, o7, -⟩, h2, -⟩ := hJr k A h
    simp only [Nat.zero_add] at o4 o5 o7
    exact ⟨o4, o5, o7, h2⟩
  have HJB : Hid _ := hJb
  have hk0 : 0 ≤ (k : Int) := by omega
  have hk17 : (k : Int) < 17 := by omega
  obtain ⟨sd, hsd⟩ : ∃ q, (F.sh k).d = q := ⟨_, rfl⟩
  obtain ⟨sa, hsa⟩ : ∃ q, (F.sh k).a = q := ⟨_, rfl⟩
  obtain ⟨sb, hsb⟩ : ∃ q, (F.sh k).b = q := ⟨_, rfl⟩
  obtain ⟨s3, hs3⟩ : ∃ q, (F.sh k).what = q := ⟨_, rfl⟩
  obtain ⟨s4, hs4⟩ : ∃ q, (F.sh k).name = q := ⟨_, rfl⟩
  obtain ⟨s5, hs5⟩ : ∃ q, (F.sh k).n = q := ⟨_, rfl⟩
  obtain ⟨s6, hs6⟩ : ∃ q, (F.sh k).args = q := ⟨_, rfl⟩
  obtain ⟨s7, hs7⟩ : ∃ q, (F.sh k).dest = q := ⟨_, rfl⟩
  obtain ⟨s8, hs8⟩ : ∃ q, (F.sh k).ends = q := ⟨_, rfl⟩
  rw [hsd] at g0
  rw [hsa] at g1 ha
  rw [hsb] at g2 hb
  rw [hs3] at g3
  rw [hs4] at g4
  rw [hs5] at g5
  rw [hs6] at g6 hg
  rw [hs7] at g7
  rw [hs8] at g8
  subst ha
  have e3 : (sb != 0) = true := by simpa using hb
  have e3b : (sb == 0) = false := by simpa using hb
  subst hg
  clear hb
  clear hsd hsa hsb hs3 hs4 hs5 hs6 hs7 hs8 hx hk r3
  refine (callsIn_wide (n := 6)).1 ?_
  refine callsIn_of_wp Tryd.func73 rfl trivial ?_ rfl
  simp only [Tryd.ntmps73, List.size_toArray, List.length_cons, List.length_nil, Nat.reduceAdd, Nat.reduceSub, Array.replicate_succ, Array.replicate_zero, List.push_toArray, List.append_toArray, List.nil_append, List.cons_append]
  obtain ⟨W2, hW2⟩ : ∃ W2, W1.alloc (.cells #[.int .i64 sd, .int .i64 0, .int .i64 sb, .bool s3, .bool s4, .bool s5, .bool false, .bool s7, .bool s8] 95) = W2 := ⟨_, rfl⟩
  have HP : Hid (W2.heap[W1.heap.size]? = some (.cells #[.int .i64 sd, .int .i64 0, .int .i64 sb, .bool s3, .bool s4, .bool s5, .bool false, .bool s7, .bool s8] 95)) := by show _ = _; rw [← hW2]; exact World.alloc_heap_new _ _
  have HJ2 : Hid (J 0 W2) := by rw [← hW2]; exact hJb _ _ _ h0 (bl1 _ _)
  have c1 := cell_blk HP.out 1 rfl
  have c2 := cell_blk HP.out 2 rfl
  have c6 := cell_blk HP.out 6 rfl
  obtain ⟨d4, d5, d7, -⟩ := HRD.out _ _ HJ2.out
  clear hJb hJr h0
  iterate 200 (try (first | go_values | gi_guarded | gi_step | gi_upon | gi_in | gi_back))
  refine ⟨fun _ _ => trivial, ?_⟩
  have hx0 : ([x.b] : List Int)[0]? = some x.b := rfl
  obtain ⟨fn, tmps, assign, body, hy, hR⟩ := hY 0 _ W2 hx0 HJ2.out
  have hR' := RoundIn.any (m' := 5) hR
  clear hR hx0
  gi_wp2
  refine hR'.mono ?_
  rintro e w4 ⟨hk4, hcase⟩
  have HQ4 : Hid ((e = .returned (.bool true) ∧ J (0 + 1) w4) ∨ (e = .returned (.bool false) ∧ Jx w4)) := hcase
  have HP4 : Hid (w4.heap[W1.heap.size]? = some (.cells #[.int .i64 sd, .int .i64 0, .int .i64 sb, .bool s3, .bool s4, .bool s5, .bool false, .bool s7, .bool s8] 95)) := hk4 _ _ _ (by omega) HP.out
  clear hR' hy hcase hk4 c1 c2 c6 d4 d5 d7
  rcases HQ4.out with ⟨rfl, hJ⟩ | ⟨rfl, hJ⟩
  rotate_left
  · have HJX : Hid (Jx w4) := hJ
    clear hJ HQ4
    gi_wp2
    refine bodyPost_ret (results_none rfl _ _ _) rfl ?_
    exact ⟨⟨_, rfl⟩, .inr HJX.out⟩
  have HJ4 : Hid (J 1 w4) := hJ
  clear hJ HQ4
  have c1 := cell_blk HP4.out 1 rfl
  have c2 := cell_blk HP4.out 2 rfl
  have c6 := cell_blk HP4.out 6 rfl
  obtain ⟨d4, d5, d7, -⟩ := HRD.out _ _ HJ4.out
  dsimp only
  gi_wp2
  refine bodyPost_ret (results_none rfl _ _ _) rfl ?_
  exact ⟨⟨_, rfl⟩, .inl HJ4.out⟩
set_option maxRecDepth 100000 in
set_option maxHeartbeats 8000000 in
theorem reads_args (Bo : Nat) (x : F.Op) (r : Ar) {k : Nat} (hk : k < 17) (hx : x.op = (k : Int)) (ha : (F.sh k).a = 0) (hb : (F.sh k).b = 0) (hg : (F.sh k).args = true) :
    GoesL Tryd.prog 73 #[.pointer (some ⟨Bo, 0, none⟩)] (fun t : Int => #[.int .i64 t]) (x.args : List Int) (RdsRd Bo x r) 95 := by
  intro lp n J Jx W1 hn hJb hJr hY h0
  obtain ⟨r1, r2, r3⟩ := hJr _ _ h0
  obtain ⟨g0, g1, g2, g3, g4, g5, g6, g7, g8⟩ := r3.cells k hk
  obtain ⟨o0, o1, o2, o3, o4, o5, o6, o7, o8⟩ := r1
  simp only [Nat.zero_add] at o0 o1 o2 o3 o4 o5 o6 o7 o8
  rw [hx] at o0
  have HRD : Hid (∀ k A, J k A → A.cell? ⟨Bo, 4, none⟩ = some (.int .i64 x.a) ∧ A.cell? ⟨Bo, 5, none⟩ = some (.int .i64 x.b) ∧ A.cell? ⟨Bo, 7, none⟩ = some (.slice r.a r.l r.c) ∧ NumV A r.a r.l r.c x.args) := fun k A h => by
    obtain ⟨⟨-, -, -, -, o4, o5, -, o7, -⟩, h2, -⟩ := hJr k A h
    simp only [Nat.zero_add] at o4 o5 o7
    exact ⟨o4, o5, o7, h2⟩
  have HJB : Hid _ := hJb
  have hk0 : 0 ≤ (k : Int) := by omega
  have hk17 : (k : Int) < 17 := by omega
  obtain ⟨sd, hsd⟩ : ∃ q, (F.sh k).d = q := ⟨_, rfl⟩
  obtain ⟨sa, hsa⟩ : ∃ q, (F.sh k).a = q := ⟨_, rfl⟩
  obtain ⟨sb, hsb⟩ : ∃ q, (F.sh k).b = q := ⟨_, rfl⟩
  obtain ⟨s3, hs3⟩ : ∃ q, (F.sh k).what = q := ⟨_, rfl⟩
  obtain ⟨s4, hs4⟩ : ∃ q, (F.sh k).name = q := ⟨_, rfl⟩
  obtain ⟨s5, hs5⟩ : ∃ q, (F.sh k).n = q := ⟨_, rfl⟩
  obtain ⟨s6, hs6⟩ : ∃ q, (F.sh k).args = q := ⟨_, rfl⟩
  obtain ⟨s7, hs7⟩ : ∃ q, (F.sh k).dest = q := ⟨_, rfl⟩
  obtain ⟨s8, hs8⟩ : ∃ q, (F.sh k).ends = q := ⟨_, rfl⟩
  rw [hsd] at g0
  rw [hsa] at g1 ha
  rw [hsb] at g2 hb
  rw [hs3] at g3
  rw [hs4] at g4
  rw [hs5] at g5
  rw [hs6] at g6 hg
  rw [hs7] at g7
  rw [hs8] at g8
  subst ha
  subst hb
  subst hg
  clear hsd hsa hsb hs3 hs4 hs5 hs6 hs7 hs8 hx hk r3
  refine (callsIn_wide (n := 6)).1 ?_
  refine callsIn_of_wp Tryd.func73 rfl trivial ?_ rfl
  simp only [Tryd.ntmps73, List.size_toArray, List.length_cons, List.length_nil, Nat.reduceAdd, Nat.reduceSub, Array.replicate_succ, Array.replicate_zero, List.push_toArray, List.append_toArray, List.nil_append, List.cons_append]
  obtain ⟨W2, hW2⟩ : ∃ W2, W1.alloc (.cells #[.int .i64 sd, .int .i64 0, .int .i64 0, .bool s3, .bool s4, .bool s5, .bool true, .bool s7, .bool s8] 95) = W2 := ⟨_, rfl⟩
  have HP : Hid (W2.heap[W1.heap.size]? = some (.cells #[.int .i64 sd, .int .i64 0, .int .i64 0, .bool s3, .bool s4, .bool s5, .bool true, .bool s7, .bool s8] 95)) := by show _ = _; rw [← hW2]; exact World.alloc_heap_new _ _
  have HJ2 : Hid (J 0 W2) := by rw [← hW2]; exact hJb _ _ _ h0 (bl1 _ _)
  have c1 := cell_blk HP.out 1 rfl
  have c2 := cell_blk HP.out 2 rfl
  have c6 := cell_blk HP.out 6 rfl
  obtain ⟨d4, d5, d7, -⟩ := HRD.out _ _ HJ2.out
  clear hJb hJr h0
  iterate 200 (try (first | go_values | gi_guarded | gi_step | gi_upon | gi_in | gi_back))
  refine ⟨fun _ _ => trivial, ?_⟩
  iterate 200 (try (first | go_values | gi_guarded | gi_step | gi_upon | gi_in | gi_back))
  refine ⟨fun _ _ => trivial, ?_⟩
  have HNV : Hid (∀ k A, J k A → NumV A r.a r.l r.c x.args) := fun k A h => (HRD.out k A h).2.2.2
  have HN0 : Hid (x.args.length = r.l) := (HNV.out _ _ HJ2.out).count
  gi_wp2
  clear c1 c2 c6 d4 d5 d7 g0 g1 g2 g3 g4 g5 g6 g7 g8 o0 o1 o2 o3 o4 o5 o6 o7 o8 hW2 r2
  gi_loopw [5, 41] (fun tv xv wr => ∃ (i : Nat), xv = .int .i64 i ∧ i ≤ r.l ∧ Hid (J i wr)) (fun _ xv _ => r.l - (intOf xv).toNat)
  case atStart => exact ⟨0, rfl, Nat.zero_le _, HJ2⟩
  case round =>
    obtain ⟨i, rfl, hi, HJ⟩ := hrel
    by_cases hin : i < r.l
    · have hii : (i : Int) < r.l := by omega
      have hi0 : 0 ≤ (i : Int) := by omega
      have hrm := (HNV.out _ _ HJ.out).room
      have hmx : maxLen = 9223372036854775807 := rfl
      obtain ⟨b, off, hab, hcell⟩ := (HNV.out _ _ HJ.out).at hin
      rw [hab]
      have hx2 : x.args[i]? = some (x.args.getD i 0) := by
        have : i < x.args.length := by rw [HN0.out]; exact hin
        simp [List.getD, this]
      obtain ⟨fn, tmps, assign, body, hy, hR⟩ := hY i _ wr hx2 HJ.out
      have hR' := RoundIn.any (m' := 5) hR
      clear hR hx2
      generalize x.args.getD i 0 = z at hy hcell
      gi_wp2
      refine hR'.mono ?_
      rintro e w5 ⟨-, ⟨rfl, hJ⟩ | ⟨rfl, hJ⟩⟩
      · have HJ5 : Hid (J (i + 1) w5) := hJ
        clear hJ hR' hy hcell
        gi_wp2
        go_roundw
        case rel => exact ⟨i + 1, by go_num, by omega, HJ5⟩
        case measure => simp [intOf]; omega
      · have HJ5 : Hid (Jx w5) := hJ
        clear hJ hR' hy hcell
        gi_wp2
        refine bodyPost_ret (results_none rfl _ _ _) rfl ?_
        exact ⟨⟨_, rfl⟩, .inr HJ5.out⟩
    · have hei : i = r.l := by omega
      have hnn : ¬ (i : Int) < r.l := by omega
      have HE : Hid (J x.args.length wr) := by show J _ _; rw [HN0.out, ← hei]; exact HJ.out
      clear hei
      gi_wp2
      go_end0
      exact ⟨⟨_, rfl⟩, .inl HE.out⟩
theorem reads_goes (Bo : Nat) (x : F.Op) (r : Ar) {T L : Int} (ho : F.opOk T L x = true) : GoesL Tryd.prog 73 #[.pointer (some ⟨Bo, 0, none⟩)] (fun t : Int => #[.int .i64 t]) (F.rd x) (RdsRd Bo x r) 95 := by
  have hk := F.op_kind ho
  obtain ⟨k, hkx⟩ : ∃ k : Nat, x.op = (k : Int) := ⟨x.op.toNat, by omega⟩
  have hk17 : k < 17 := by omega
  rw [← F.rdS_rd hk17 hkx ho]
  unfold F.rdS
  rcases F.sh_combos hk17 with ⟨ha, hb, hg⟩ | ⟨ha, hb, hg⟩ | ⟨ha, hb, hg⟩ | ⟨ha, hb, hg⟩ | ⟨ha, hb, hg⟩
  · rw [if_pos ha, if_pos hb, if_neg (show ¬ (F.sh k).args = true by rw [hg]; decide)]; exact reads_none Bo x r hk17 hkx ha hb hg
  · rw [if_neg ha, if_pos hb, if_neg (show ¬ (F.sh k).args = true by rw [hg]; decide)]
    by_cases hm : x.a = -1
    · rw [if_pos hm]; exact reads_na Bo x r hk17 hkx ha hm hb hg
    · rw [if_neg hm]; exact reads_a Bo x r hk17 hkx ha hm hb hg
  · rw [if_neg ha, if_neg hb, if_neg (show ¬ (F.sh k).args = true by rw [hg]; decide)]
    by_cases hm : x.a = -1
    · rw [if_pos hm]; exact reads_nab Bo x r hk17 hkx ha hm hb hg
    · rw [if_neg hm]; exact reads_ab Bo x r hk17 hkx ha hm hb hg
  · rw [if_pos ha, if_neg hb, if_neg (show ¬ (F.sh k).args = true by rw [hg]; decide)]; exact reads_b Bo x r hk17 hkx ha hb hg
  · rw [if_pos ha, if_pos hb, if_pos hg]; exact reads_args Bo x r hk17 hkx ha hb hg
end Go.Proofs.YtljgpngbkmembaaDoor

/- What is live ahead of an operation. -/
namespace Go.Proofs.YtljgpngbkmembaaDoor
open Go.RowKit Go.Maps Go.Shelf
attribute [local go_sem] Oper.semAt_some
set_option linter.unusedVariables false
set_option linter.unusedSimpArgs false
theorem reads_any (x : F.Op) (r : Ar) (w : World) : Calls Tryd.prog 66 #[opV x r] w fun e w' => e = .returned (.func (.func 73) #[] #[.pointer (some ⟨w.heap.size, 0, none⟩)]) ∧ w' = w.alloc (.cells (opC x r).toArray 46) := by
  unfold opV opC
  go_enter Tryd.func66, Tryd.ntmps66
  go_wp2_with fail
  go_ret
  exact ⟨rfl, rfl⟩
theorem all_true (x : F.Op) (r : Ar) (u : Nat → Nat) (w : World) : Calls Tryd.prog 39 #[opV x r, .agg (setCs u)] w fun e w' => e = .returned (.bool true) ∧ Below w.heap.size w w' := by
  unfold opV setCs
  go_enter Tryd.func39, Tryd.ntmps39
  go_wp2_with fail
  go_ret
  exact ⟨rfl, (bl1 _ _).alloc (by simp) _⟩
theorem Bx.opAt {W : World} {b : Nat} {x : F.Op} {r : Ar} (h : Bx W b (opC x r)) : OpAt W b 0 x r :=
  ⟨h.c 0 _ rfl, h.c 1 _ rfl, h.c 2 _ rfl, h.c 3 _ rfl, h.c 4 _ rfl, h.c 5 _ rfl, h.c 6 _ rfl, h.c 7 _ rfl, h.c 8 _ rfl⟩
theorem Bx.cellSet {x : World} {b j : Nat} {u v : Nat → Nat} (h : Bx x b (setCs u).toList) (hj : j < 7) {z : Nat} (hv : ∀ q, q < 7 → v q = if q = j then z else u q) : Bx (x.setCell ⟨b, 0 + j, none⟩ (.int .u64 (z : Int))).drew b (setCs v).toList := by
  rw [Nat.zero_add]
  refine Bx.ofSet (fun q hq => ?_) (fun o => by rw [World.frozen?_drew, World.frozen?_setCell]; exact h.f o) (by show (x.setCell _ _).heap.size > b; rw [World.size_setCell]; exact h.lt)
  rw [World.cell?_drew, Nat.zero_add, hv q hq]
  have h0 := h.set q hq
  rw [Nat.zero_add] at h0
  by_cases e : q = j
  · subst e
    rw [if_pos rfl]
    exact World.cell?_setCell_same _ _ _ h0
  · rw [if_neg e, World.cell?_setCell_other _ _ _ _ (by first | (simp; done) | (simp; exact fun e' => absurd e'.symm e))]
    exact h0
theorem Bx.ins {x : World} {b t : Nat} {u : Nat → Nat} (h : Bx x b (setCs u).toList) (ht : t < 448) : Bx (x.setCell ⟨b, 0 + t / 64, none⟩ (.int .u64 ((u (t / 64) ||| 2 ^ (t % 64) : Nat) : Int))).drew b (setCs (F.ins u t)).toList :=
  h.cellSet (by omega) (fun q hq => by unfold F.ins; split <;> simp_all)
theorem Bx.del {x : World} {b t : Nat} {u : Nat → Nat} (h : Bx x b (setCs u).toList) (ht : t < 448) : Bx (x.setCell ⟨b, 0 + t / 64, none⟩ (.int .u64 ((u (t / 64) &&& (18446744073709551615 - 2 ^ (t % 64)) : Nat) : Int))).drew b (setCs (F.del u t)).toList :=
  h.cellSet (by omega) (fun q hq => by unfold F.del; split <;> simp_all)
/-- A set after Add, after Remove, at a box of one's own. -/
theorem add_bx {W : World} {b t : Nat} {u : Nat → Nat} (h : Bx W b (setCs u).toList) (hu : F.Set7 u) (ht : t < 448) : Calls Tryd.prog 47 #[.pointer (some ⟨b, 0, none⟩), .int .i64 (t : Int)] W fun e y => e = .returned (.tuple #[]) ∧ Bx y b (setCs (F.ins u t)).toList ∧ Upd W y b 0 := by
  refine (add_any b 0 t (u (t / 64)) ht (hu _ (by omega)) W (h.set _ (by omega)) (h.f _)).mono ?_
  rintro e y ⟨rfl, rfl⟩
  exact ⟨rfl, h.ins ht, Upd.put _ (by omega) _⟩
theorem remove_bx {W : World} {b t : Nat} {u : Nat → Nat} (h : Bx W b (setCs u).toList) (hu : F.Set7 u) (ht : t < 448) : Calls Tryd.prog 65 #[.pointer (some ⟨b, 0, none⟩), .int .i64 (t : Int)] W fun e y => e = .returned (.tuple #[]) ∧ Bx y b (setCs (F.del u t)).toList ∧ Upd W y b 0 := by
  refine (remove_any b 0 t (u (t / 64)) ht (hu _ (by omega)) W (h.set _ (by omega)) (h.f _)).mono ?_
  rintro e y ⟨rfl, rfl⟩
  exact ⟨rfl, h.del ht, Upd.put _ (by omega) _⟩
/-- The loop's state. -/
structure AhI (w : World) (u : Nat → Nat) (l : List Int) (Bo : Nat) (x : F.Op) (r : Ar) (k : Nat) (W : World) : Prop where
  low : Below w.heap.size w W
  b4 : Bx W (w.heap.size + 1) (setCs (F.insAll u (l.take k))).toList
  b6 : Bx W (w.heap.size + 2) (setCs F.zero7).toList
  bo : Bx W Bo (opC x r)
set_option maxRecDepth 100000 in
set_option maxHeartbeats 8000000 in
theorem ahead_any {w : World} {x : F.Op} {r : Ar} {u : Nat → Nat} {T L : Int} (ho : F.opOk T L x = true) (hT : T ≤ 400) (hr : NumV w r.a r.l r.c x.args) (hu : F.Set7 u) (ht : Shp w) :
    Calls Tryd.prog 57 #[opV x r, .agg (setCs u), .func (.func 39) #[] #[]] w fun e w' => e = .returned (.agg (setCs (F.aheadS x u))) ∧ Below w.heap.size w w' := by
  have hop := F.op_kind ho
  have hwr := F.wr_in ho
  have HIN : Hid (∀ t ∈ F.rd x, 0 ≤ t ∧ t < T) := F.rd_in ho
  have HR : Hid _ := hr
  have HT : Hid _ := ht
  have HU : Hid _ := hu
  have HWR : Hid (∀ W, Shp W → Calls Tryd.prog 64 #[opV x r] W fun e w' => e = .returned (.int .i64 (F.wr x)) ∧ Below W.heap.size W w') := fun W hW => writes_any x r (k := x.op.toNat) (by omega) (by omega) W hW
  have HGO : Hid (∀ Bo, Goes Tryd.prog 73 #[.pointer (some ⟨Bo, 0, none⟩)] (fun t : Int => #[.int .i64 t]) (F.rd x) (RdsRd Bo x r)) := fun Bo => (reads_goes Bo x r ho).goes
  have HRS : Hid (∀ W, _) := reads_any x r
  have HNL : Hid (∀ W, _) := all_true x r u
  clear hop hr ht hu ho
  refine (callsIn_wide (n := 6)).1 ?_
  refine callsIn_of_wp_marks Tryd.func57 rfl trivial ?_ rfl
  simp only [Tryd.ntmps57, List.size_toArray, List.length_cons, List.length_nil, Nat.reduceAdd, Nat.reduceSub, Array.replicate_succ, Array.replicate_zero, List.push_toArray, List.append_toArray, List.nil_append, List.cons_append]
  obtain ⟨W0, hW0⟩ : ∃ W0, (((w.alloc (.cells (opC x r).toArray 46)).alloc (.cells (setCs u) 54)).alloc (.cells (setCs F.zero7) 54)) = W0 := ⟨_, rfl⟩
  have HI0 : Hid (Below w.heap.size w W0 ∧ Bx W0 w.heap.size (opC x r) ∧ Bx W0 (w.heap.size + 1) (setCs u).toList ∧ Bx W0 (w.heap.size + 2) (setCs F.zero7).toList ∧ W0.heap.size = w.heap.size + 3) := by
    have x4 := Bx.new w (opC x r).toArray 46
    obtain ⟨A1, hA1⟩ : ∃ A1, w.alloc (.cells (opC x r).toArray 46) = A1 := ⟨_, rfl⟩
    have b1 : Below w.heap.size w A1 := by rw [← hA1]; exact bl1 _ _
    have s1 : A1.heap.size = w.heap.size + 1 := by rw [← hA1]; simp
    rw [hA1] at x4 hW0
    have x6 := Bx.new A1 (setCs u) 54
    have x4 := x4.below (bl1 A1 (.cells (setCs u) 54))
    have b2 := b1.alloc b1.size (.cells (setCs u) 54)
    obtain ⟨A2, hA2⟩ : ∃ A2, A1.alloc (.cells (setCs u) 54) = A2 := ⟨_, rfl⟩
    have s2 : A2.heap.size = w.heap.size + 2 := by rw [← hA2]; simp [s1]
    rw [hA2] at x4 x6 b2 hW0
    have x7 := Bx.new A2 (setCs F.zero7) 54
    have x4 := x4.below (bl1 A2 (.cells (setCs F.zero7) 54))
    have x6 := x6.below (bl1 A2 (.cells (setCs F.zero7) 54))
    have b3 := b2.alloc b2.size (.cells (setCs F.zero7) 54)
    have s3 : (A2.alloc (.cells (setCs F.zero7) 54)).heap.size = w.heap.size + 3 := by simp [s2]
    rw [hW0] at x4 x6 x7 b3 s3
    rw [s1] at x6
    rw [s2] at x7
    exact ⟨b3, x4, x6, x7, s3⟩
  change (((w.alloc (.cells #[.int .i64 x.op, .int .i64 x.what, .string x.nm, .int .i64 x.d, .int .i64 x.a, .int .i64 x.b, .int .i64 x.n, .slice r.a r.l r.c, .int .i64 x.dest] 46)).alloc (.cells #[.int .u64 (u 0 : Int), .int .u64 (u 1 : Int), .int .u64 (u 2 : Int), .int .u64 (u 3 : Int), .int .u64 (u 4 : Int), .int .u64 (u 5 : Int), .int .u64 (u 6 : Int)] 54)).alloc (.cells #[.int .u64 0, .int .u64 0, .int .u64 0, .int .u64 0, .int .u64 0, .int .u64 0, .int .u64 0] 54)) = W0 at hW0
  have p := HI0.out.2.1
  have q := HI0.out.2.2.1
  have p0 := p.c 0 _ rfl
  have p1 := p.c 1 _ rfl
  have p2 := p.c 2 _ rfl
  have p3 := p.c 3 _ rfl
  have p4 := p.c 4 _ rfl
  have p5 := p.c 5 _ rfl
  have p6 := p.c 6 _ rfl
  have p7 := p.c 7 _ rfl
  have p8 := p.c 8 _ rfl
  have q0 := q.c 0 _ rfl
  have q1 := q.c 1 _ rfl
  have q2 := q.c 2 _ rfl
  have q3 := q.c 3 _ rfl
  have q4 := q.c 4 _ rfl
  have q5 := q.c 5 _ rfl
  have q6 := q.c 6 _ rfl
  clear p q
  unfold opV
  unfold opV at HWR HRS HNL
  unfold setCs at HNL
  unfold setCs
  gi_wp2
  refine ⟨trivial, (callsIn_wide.2 (HNL.out _)).mono ?_⟩
  rintro e w1 ⟨rfl, hb1⟩
  have HI1 : Hid (Below w.heap.size w w1 ∧ Bx w1 w.heap.size (opC x r) ∧ Bx w1 (w.heap.size + 1) (setCs u).toList ∧ Bx w1 (w.heap.size + 2) (setCs F.zero7).toList) := ⟨HI0.out.1.trans (hb1.mono HI0.out.1.size), HI0.out.2.1.below hb1, HI0.out.2.2.1.below hb1, HI0.out.2.2.2.1.below hb1⟩
  clear hb1 hW0 p0 p1 p2 p3 p4 p5 p6 p7 p8 q0 q1 q2 q3 q4 q5 q6
  have p := HI1.out.2.1
  have p0 := p.c 0 _ rfl
  have p1 := p.c 1 _ rfl
  have p2 := p.c 2 _ rfl
  have p3 := p.c 3 _ rfl
  have p4 := p.c 4 _ rfl
  have p5 := p.c 5 _ rfl
  have p6 := p.c 6 _ rfl
  have p7 := p.c 7 _ rfl
  have p8 := p.c 8 _ rfl
  clear p
  gi_wp2
  refine ⟨trivial, (callsIn_wide.2 (HWR.out w1 (HT.out.below HI1.out.1))).mono ?_⟩
  rintro e w2 ⟨rfl, hb2⟩
  have HI2 : Hid (Below w.heap.size w w2 ∧ Bx w2 w.heap.size (opC x r) ∧ Bx w2 (w.heap.size + 1) (setCs u).toList ∧ Bx w2 (w.heap.size + 2) (setCs F.zero7).toList) := ⟨HI1.out.1.trans (hb2.mono HI1.out.1.size), HI1.out.2.1.below hb2, HI1.out.2.2.1.below hb2, HI1.out.2.2.2.below hb2⟩
  clear hb2 p0 p1 p2 p3 p4 p5 p6 p7 p8
  obtain ⟨v, hv⟩ : ∃ v, (if F.wr x = -1 then u else F.del u (F.wr x).toNat) = v := ⟨_, rfl⟩
  have HV : Hid (F.Set7 v) := by
    show F.Set7 _
    rw [← hv]
    split
    · exact HU.out
    · exact F.Set7.del HU.out _
  have HRES : Hid (F.aheadS x u = F.insAll v (F.rd x)) := by show _ = _; unfold F.aheadS; rw [hv]
  by_cases hw1 : F.wr x = -1
  · rw [if_pos hw1] at hv
    rw [hw1]
    have HI2v : Hid (Below w.heap.size w w2 ∧ Bx w2 w.heap.size (opC x r) ∧ Bx w2 (w.heap.size + 1) (setCs v).toList ∧ Bx w2 (w.heap.size + 2) (setCs F.zero7).toList) := by rw [← hv]; exact HI2.out
    have p := HI2.out.2.1
    have p0 := p.c 0 _ rfl
    have p1 := p.c 1 _ rfl
    have p2 := p.c 2 _ rfl
    have p3 := p.c 3 _ rfl
    have p4 := p.c 4 _ rfl
    have p5 := p.c 5 _ rfl
    have p6 := p.c 6 _ rfl
    have p7 := p.c 7 _ rfl
    have p8 := p.c 8 _ rfl
    clear p hw1 HI2 HI1 HI0 hv
    gi_wp2
    refine ⟨trivial, (callsIn_wide.2 (HRS.out w2)).mono ?_⟩
    rintro e y ⟨rfl, rfl⟩
    have hlo := HI2v.out.1.size
    have HI3 : Hid (AhI w v (F.rd x) w2.heap.size x r 0 (w2.alloc (.cells (opC x r).toArray 46))) := ⟨HI2v.out.1.alloc hlo _, HI2v.out.2.2.1.below (bl1 _ _), HI2v.out.2.2.2.below (bl1 _ _), Bx.new _ _ _⟩
    have HSZ : Hid (w2.heap.size + 1 = (w2.alloc (.cells (opC x r).toArray 46)).heap.size ∧ w.heap.size + 3 ≤ w2.heap.size) := ⟨by simp, HI2v.out.2.2.2.lt⟩
    clear p0 p1 p2 p3 p4 p5 p6 p7 p8 hlo
    generalize (w2.alloc (.cells (opC x r).toArray 46)) = W3 at HI3 HSZ ⊢
    obtain ⟨Bo, hBo⟩ : ∃ Bo, w2.heap.size = Bo := ⟨_, rfl⟩
    rw [hBo] at HI3 HSZ ⊢
    gi_wp2
    refine range_a1 (β := Int) (gf := 73) (lb := #[.pointer (some ⟨Bo, 0, none⟩)]) (HGO.out Bo) rfl (enters_of Tryd.func73 (by kernel_rfl) rfl)
      (AhI w v (F.rd x) Bo x r) (fun _ => False) .ret ?a1 (fun _ => rfl) ?assign ?I (fun _ _ h _ => h.elim) (fun k A h => ⟨h.bo.opAt, HR.out.below h.low, HT.out.below h.low⟩) HI3.out ?body ?done (fun _ _ _ h _ => h.elim)
    case assign =>
      intro l x W K hK
      gi_wp2
      exact hK
    case I =>
      intro k A B hA hB
      have hs := HSZ.out
      exact ⟨hA.low.trans (hB.mono (by omega)), hA.b4.bel hB (by omega), hA.b6.bel hB (by omega), hA.bo.bel hB (by omega)⟩
    case body =>
      rintro lp k j W hk hI hl1 hl2 -
      have hs := HSZ.out
      have hjm := HIN.out j (List.mem_of_getElem? hk)
      obtain ⟨jn, rfl⟩ : ∃ jn : Nat, j = (jn : Int) := ⟨j.toNat, by omega⟩
      have HK : Hid ((F.rd x)[k]? = some (jn : Int)) := hk
      have HI : Hid _ := hI
      have HAD := add_bx (t := jn) hI.b4 (F.insAll_set7 HV.out _) (by omega)
      clear hk HI3 hI
      gi_wp2
      refine ⟨trivial, (CallsIn.inRound lp (callsIn_wide.2 HAD)).mono ?_⟩
      rintro e y ⟨rfl, hx, hu⟩
      have HX : Hid _ := hx
      have HUP : Hid _ := hu
      clear hx hu HAD
      gi_wp2
      have hu := HUP.out
      have hI := HI.out
      refine ⟨Abv.upd hu (by omega), hI.low.trans (hu.below (by omega) hI.low.size), ?_, hI.b6.upd hu (by omega), hI.bo.upd hu (by omega)⟩
      rw [F.insAll_take v (F.rd x) HK.out]
      exact HX.out
    case done =>
      rintro D W hD hI hK
      have hs := HSZ.out
      have c0 := hI.b4.c 0 _ rfl
      have c1 := hI.b4.c 1 _ rfl
      have c2 := hI.b4.c 2 _ rfl
      have c3 := hI.b4.c 3 _ rfl
      have c4 := hI.b4.c 4 _ rfl
      have c5 := hI.b4.c 5 _ rfl
      have c6 := hI.b4.c 6 _ rfl
      have z0 := hI.b6.c 0 _ rfl
      have z1 := hI.b6.c 1 _ rfl
      have z2 := hI.b6.c 2 _ rfl
      have z3 := hI.b6.c 3 _ rfl
      have z4 := hI.b6.c 4 _ rfl
      have z5 := hI.b6.c 5 _ rfl
      have z6 := hI.b6.c 6 _ rfl
      have f0 := hI.b6.f 0
      have f1 := hI.b6.f 1
      have f2 := hI.b6.f 2
      have f3 := hI.b6.f 3
      have f4 := hI.b6.f 4
      have f5 := hI.b6.f 5
      have f6 := hI.b6.f 6
      have HI : Hid _ := hI
      have HK : Hid _ := hK
      rw [List.take_length] at c0 c1 c2 c3 c4 c5 c6
      clear hI hK HI3
      gi_wp2
      obtain ⟨e1, e2, e3⟩ := put7_fin (u := F.insAll v (F.rd x)) HI.out.b6 HK.out
      have g0 := e2.c 0 _ rfl
      have g1 := e2.c 1 _ rfl
      have g2 := e2.c 2 _ rfl
      have g3 := e2.c 3 _ rfl
      have g4 := e2.c 4 _ rfl
      have g5 := e2.c 5 _ rfl
      have g6 := e2.c 6 _ rfl
      refine ⟨by simp, .inl ⟨_, _, rfl, run_takeDeferred e1, ?_⟩⟩
      rw [HRES.out]
      refine ⟨.agg (setCs (F.insAll v (F.rd x))), ?_, rfl, HI.out.low.trans (e3 _ (by omega) (by omega))⟩
      unfold put7 at g0 g1 g2 g3 g4 g5 g6
      simp [results, Tryd.results57, go_sem, g0, g1, g2, g3, g4, g5, g6, put7, setCs]
  · rw [if_neg hw1] at hv
    have hwt := hwr.resolve_right hw1
    obtain ⟨tn, htn⟩ : ∃ tn : Nat, F.wr x = (tn : Int) := ⟨(F.wr x).toNat, by omega⟩
    rw [htn] at hv hw1 hwt ⊢
    rw [Int.toNat_natCast] at hv
    have e1 : ((tn : Int) != -1) = true := by simp
    have HRM := remove_bx (t := tn) HI2.out.2.2.1 HU.out (by omega)
    rw [hv] at HRM
    have p := HI2.out.2.1
    have p0 := p.c 0 _ rfl
    have p1 := p.c 1 _ rfl
    have p2 := p.c 2 _ rfl
    have p3 := p.c 3 _ rfl
    have p4 := p.c 4 _ rfl
    have p5 := p.c 5 _ rfl
    have p6 := p.c 6 _ rfl
    have p7 := p.c 7 _ rfl
    have p8 := p.c 8 _ rfl
    clear p hw1 hwt hwr htn
    gi_wp2
    refine ⟨trivial, (callsIn_wide.2 HRM).mono ?_⟩
    rintro e w3 ⟨rfl, hx, hu⟩
    have HI2v : Hid (Below w.heap.size w w3 ∧ Bx w3 w.heap.size (opC x r) ∧ Bx w3 (w.heap.size + 1) (setCs v).toList ∧ Bx w3 (w.heap.size + 2) (setCs F.zero7).toList) :=
      ⟨HI2.out.1.trans (hu.below (by omega) HI2.out.1.size), HI2.out.2.1.upd hu (by omega), hx, HI2.out.2.2.2.upd hu (by omega)⟩
    clear p0 p1 p2 p3 p4 p5 p6 p7 p8 hx hu HRM hv
    have p := HI2v.out.2.1
    have p0 := p.c 0 _ rfl
    have p1 := p.c 1 _ rfl
    have p2 := p.c 2 _ rfl
    have p3 := p.c 3 _ rfl
    have p4 := p.c 4 _ rfl
    have p5 := p.c 5 _ rfl
    have p6 := p.c 6 _ rfl
    have p7 := p.c 7 _ rfl
    have p8 := p.c 8 _ rfl
    clear p HI2 HI1 HI0
    gi_wp2
    refine ⟨trivial, (callsIn_wide.2 (HRS.out w3)).mono ?_⟩
    rintro e y ⟨rfl, rfl⟩
    have hlo := HI2v.out.1.size
    have HI3 : Hid (AhI w v (F.rd x) w3.heap.size x r 0 (w3.alloc (.cells (opC x r).toArray 46))) := ⟨HI2v.out.1.alloc hlo _, HI2v.out.2.2.1.below (bl1 _ _), HI2v.out.2.2.2.below (bl1 _ _), Bx.new _ _ _⟩
    have HSZ : Hid (w3.heap.size + 1 = (w3.alloc (.cells (opC x r).toArray 46)).heap.size ∧ w.heap.size + 3 ≤ w3.heap.size) := ⟨by simp, HI2v.out.2.2.2.lt⟩
    clear p0 p1 p2 p3 p4 p5 p6 p7 p8 hlo
    generalize (w3.alloc (.cells (opC x r).toArray 46)) = W3 at HI3 HSZ ⊢
    obtain ⟨Bo, hBo⟩ : ∃ Bo, w3.heap.size = Bo := ⟨_, rfl⟩
    rw [hBo] at HI3 HSZ ⊢
    gi_wp2
    refine range_a1 (β := Int) (gf := 73) (lb := #[.pointer (some ⟨Bo, 0, none⟩)]) (HGO.out Bo) rfl (enters_of Tryd.func73 (by kernel_rfl) rfl)
      (AhI w v (F.rd x) Bo x r) (fun _ => False) .ret ?a2 (fun _ => rfl) ?assign ?I (fun _ _ h _ => h.elim) (fun k A h => ⟨h.bo.opAt, HR.out.below h.low, HT.out.below h.low⟩) HI3.out ?body ?done (fun _ _ _ h _ => h.elim)
    case assign =>
      intro l x W K hK
      gi_wp2
      exact hK
    case I =>
      intro k A B hA hB
      have hs := HSZ.out
      exact ⟨hA.low.trans (hB.mono (by omega)), hA.b4.bel hB (by omega), hA.b6.bel hB (by omega), hA.bo.bel hB (by omega)⟩
    case body =>
      rintro lp k j W hk hI hl1 hl2 -
      have hs := HSZ.out
      have hjm := HIN.out j (List.mem_of_getElem? hk)
      obtain ⟨jn, rfl⟩ : ∃ jn : Nat, j = (jn : Int) := ⟨j.toNat, by omega⟩
      have HK : Hid ((F.rd x)[k]? = some (jn : Int)) := hk
      have HI : Hid _ := hI
      have HAD := add_bx (t := jn) hI.b4 (F.insAll_set7 HV.out _) (by omega)
      clear hk HI3 hI
      gi_wp2
      refine ⟨trivial, (CallsIn.inRound lp (callsIn_wide.2 HAD)).mono ?_⟩
      rintro e y ⟨rfl, hx, hu⟩
      have HX : Hid _ := hx
      have HUP : Hid _ := hu
      clear hx hu HAD
      gi_wp2
      have hu := HUP.out
      have hI := HI.out
      refine ⟨Abv.upd hu (by omega), hI.low.trans (hu.below (by omega) hI.low.size), ?_, hI.b6.upd hu (by omega), hI.bo.upd hu (by omega)⟩
      rw [F.insAll_take v (F.rd x) HK.out]
      exact HX.out
    case done =>
      rintro D W hD hI hK
      have hs := HSZ.out
      have c0 := hI.b4.c 0 _ rfl
      have c1 := hI.b4.c 1 _ rfl
      have c2 := hI.b4.c 2 _ rfl
      have c3 := hI.b4.c 3 _ rfl
      have c4 := hI.b4.c 4 _ rfl
      have c5 := hI.b4.c 5 _ rfl
      have c6 := hI.b4.c 6 _ rfl
      have z0 := hI.b6.c 0 _ rfl
      have z1 := hI.b6.c 1 _ rfl
      have z2 := hI.b6.c 2 _ rfl
      have z3 := hI.b6.c 3 _ rfl
      have z4 := hI.b6.c 4 _ rfl
      have z5 := hI.b6.c 5 _ rfl
      have z6 := hI.b6.c 6 _ rfl
      have f0 := hI.b6.f 0
      have f1 := hI.b6.f 1
      have f2 := hI.b6.f 2
      have f3 := hI.b6.f 3
      have f4 := hI.b6.f 4
      have f5 := hI.b6.f 5
      have f6 := hI.b6.f 6
      have HI : Hid _ := hI
      have HK : Hid _ := hK
      rw [List.take_length] at c0 c1 c2 c3 c4 c5 c6
      clear hI hK HI3
      gi_wp2
      obtain ⟨e1, e2, e3⟩ := put7_fin (u := F.insAll v (F.rd x)) HI.out.b6 HK.out
      have g0 := e2.c 0 _ rfl
      have g1 := e2.c 1 _ rfl
      have g2 := e2.c 2 _ rfl
      have g3 := e2.c 3 _ rfl
      have g4 := e2.c 4 _ rfl
      have g5 := e2.c 5 _ rfl
      have g6 := e2.c 6 _ rfl
      refine ⟨by simp, .inl ⟨_, _, rfl, run_takeDeferred e1, ?_⟩⟩
      rw [HRES.out]
      refine ⟨.agg (setCs (F.insAll v (F.rd x))), ?_, rfl, HI.out.low.trans (e3 _ (by omega) (by omega))⟩
      unfold put7 at g0 g1 g2 g3 g4 g5 g6
      simp [results, Tryd.results57, go_sem, g0, g1, g2, g3, g4, g5, g6, put7, setCs]
end Go.Proofs.YtljgpngbkmembaaDoor
