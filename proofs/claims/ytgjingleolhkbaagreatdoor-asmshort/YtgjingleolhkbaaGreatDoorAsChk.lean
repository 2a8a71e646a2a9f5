/- Whether an item may be; whether items may. -/
import Derived.Test.YtgjingleolhkbaaGreatDoorAsIns
import Derived.Laws.StructEq
namespace Go.Proofs.YtgjingleolhkbaaGreatDoor
open Go.RowKit
set_option linter.unusedVariables false
set_option linter.unusedSimpArgs false

set_option maxRecDepth 100000 in
theorem eqIns (op a b n : Int) (w : World) : (Op.equalIn 10000 42 (.agg #[.int .i64 op, .int .i64 a, .int .i64 b, .int .i64 n]) (.agg #[.int .i64 0, .int .i64 0, .int .i64 0, .int .i64 0])).run Tryz.prog w = .ok (decide (op = 0 ∧ a = 0 ∧ b = 0 ∧ n = 0)) w := by
  have e : decide (op = 0 ∧ a = 0 ∧ b = 0 ∧ n = 0) = ((op == 0) && ((a == 0) && ((b == 0) && (n == 0)))) := by
    rw [Bool.eq_iff_iff]; simp
  rw [e]
  cases h1 : (op == (0 : Int))
  · go_simp
  cases h2 : (a == (0 : Int))
  · go_simp
  cases h3 : (b == (0 : Int))
  · go_simp
  cases h4 : (n == (0 : Int))
  · go_simp
  · go_simp

set_option maxRecDepth 100000 in
set_option maxHeartbeats 40000000 in
theorem mayBe_any (k : Int) (nm : ByteArray) (op a b n : Int) (aw : Option Addr) (lw cw : Nat) (ws : List Int) (hlen : ws.length = lw) (hs : nm.size ≤ maxLen) (w : World) (ht : Tab w) :
    Calls Tryz.prog 44 #[.agg #[.int .i64 k, .string nm, .int .i64 op, .int .i64 a, .int .i64 b, .int .i64 n, .slice aw lw cw]] w fun e w' => e = .returned (.bool (X.itOk ⟨k, nm.data.toList, op, a, b, n, ws⟩)) ∧ Below w.heap.size w w' := by
  have hEq := eqIns op a b n
  obtain ⟨zI, hzI⟩ : ∃ zI, X.zeroIns ⟨k, nm.data.toList, op, a, b, n, ws⟩ = zI := ⟨_, rfl⟩
  have hEq' : ∀ w, (Op.equalIn 10000 42 (.agg #[.int .i64 op, .int .i64 a, .int .i64 b, .int .i64 n]) (.agg #[.int .i64 0, .int .i64 0, .int .i64 0, .int .i64 0])).run Tryz.prog w = .ok zI w := by rw [← hzI]; exact hEq
  clear hEq
  have HT : Hid _ := ht
  clear ht
  by_cases hk1 : k = 1
  · subst hk1
    have HR : Hid (X.itOk ⟨1, nm.data.toList, op, a, b, n, ws⟩ = (X.name nm.data.toList && (decide (ws = []) && zI))) := by show _ = _; rw [← hzI]; simp [X.itOk]
    cases hnm : X.name nm.data.toList
    · skip
      go_enter Tryz.func44, Tryz.ntmps44
      go_wp2_with (go_at_call 68; refine (nameMayBe_any nm hs _).mono ?_; rw [hnm]; rintro e y ⟨rfl, rfl⟩)
      go_ret
      exact ⟨ret_b (by rw [HR.out]; simp only [Bool.and_true, Bool.true_and, Bool.false_and, Bool.and_false, Bool.and_self, hnm]), bl1 _ _⟩
    · by_cases hl0 : lw = 0
      · have hl0' : decide (ws = []) = true := decide_eq_true (List.eq_nil_of_length_eq_zero (by omega))
        have hl1 : ((lw : Int) == 0) = true := by simp [hl0]
        clear hl0 hlen hzI
        cases zI
        · skip
          go_enter Tryz.func44, Tryz.ntmps44
          go_wp2_with (go_at_call 68; refine (nameMayBe_any nm hs _).mono ?_; rw [hnm]; rintro e y ⟨rfl, rfl⟩)
          go_ret
          exact ⟨ret_b (by rw [HR.out]; simp only [Bool.and_true, Bool.true_and, Bool.false_and, Bool.and_false, Bool.and_self, hnm, hl0']), bl1 _ _⟩
        · skip
          go_enter Tryz.func44, Tryz.ntmps44
          go_wp2_with (go_at_call 68; refine (nameMayBe_any nm hs _).mono ?_; rw [hnm]; rintro e y ⟨rfl, rfl⟩)
          go_ret
          exact ⟨ret_b (by rw [HR.out]; simp only [Bool.and_true, Bool.true_and, Bool.false_and, Bool.and_false, Bool.and_self, hnm, hl0']), bl1 _ _⟩
      · have hl0' : decide (ws = []) = false := decide_eq_false (fun e => hl0 (by rw [← hlen, e]; rfl))
        have hl1 : ((lw : Int) == 0) = false := by simp [hl0]
        clear hl0 hlen hzI
        go_enter Tryz.func44, Tryz.ntmps44
        go_wp2_with (go_at_call 68; refine (nameMayBe_any nm hs _).mono ?_; rw [hnm]; rintro e y ⟨rfl, rfl⟩)
        go_ret
        exact ⟨ret_b (by rw [HR.out]; simp only [Bool.and_true, Bool.true_and, Bool.false_and, Bool.and_false, Bool.and_self, hnm, hl0']), bl1 _ _⟩
  by_cases hk4 : k = 4
  · subst hk4
    have HR : Hid (X.itOk ⟨4, nm.data.toList, op, a, b, n, ws⟩ = (X.name nm.data.toList && (decide (ws = []) && zI))) := by show _ = _; rw [← hzI]; simp [X.itOk]
    cases hnm : X.name nm.data.toList
    · skip
      go_enter Tryz.func44, Tryz.ntmps44
      go_wp2_with (go_at_call 68; refine (nameMayBe_any nm hs _).mono ?_; rw [hnm]; rintro e y ⟨rfl, rfl⟩)
      go_ret
      exact ⟨ret_b (by rw [HR.out]; simp only [Bool.and_true, Bool.true_and, Bool.false_and, Bool.and_false, Bool.and_self, hnm]), bl1 _ _⟩
    · by_cases hl0 : lw = 0
      · have hl0' : decide (ws = []) = true := decide_eq_true (List.eq_nil_of_length_eq_zero (by omega))
        have hl1 : ((lw : Int) == 0) = true := by simp [hl0]
        clear hl0 hlen hzI
        cases zI
        · skip
          go_enter Tryz.func44, Tryz.ntmps44
          go_wp2_with (go_at_call 68; refine (nameMayBe_any nm hs _).mono ?_; rw [hnm]; rintro e y ⟨rfl, rfl⟩)
          go_ret
          exact ⟨ret_b (by rw [HR.out]; simp only [Bool.and_true, Bool.true_and, Bool.false_and, Bool.and_false, Bool.and_self, hnm, hl0']), bl1 _ _⟩
        · skip
          go_enter Tryz.func44, Tryz.ntmps44
          go_wp2_with (go_at_call 68; refine (nameMayBe_any nm hs _).mono ?_; rw [hnm]; rintro e y ⟨rfl, rfl⟩)
          go_ret
          exact ⟨ret_b (by rw [HR.out]; simp only [Bool.and_true, Bool.true_and, Bool.false_and, Bool.and_false, Bool.and_self, hnm, hl0']), bl1 _ _⟩
      · have hl0' : decide (ws = []) = false := decide_eq_false (fun e => hl0 (by rw [← hlen, e]; rfl))
        have hl1 : ((lw : Int) == 0) = false := by simp [hl0]
        clear hl0 hlen hzI
        go_enter Tryz.func44, Tryz.ntmps44
        go_wp2_with (go_at_call 68; refine (nameMayBe_any nm hs _).mono ?_; rw [hnm]; rintro e y ⟨rfl, rfl⟩)
        go_ret
        exact ⟨ret_b (by rw [HR.out]; simp only [Bool.and_true, Bool.true_and, Bool.false_and, Bool.and_false, Bool.and_self, hnm, hl0']), bl1 _ _⟩
  by_cases hk5 : k = 5
  · subst hk5
    have HR : Hid (X.itOk ⟨5, nm.data.toList, op, a, b, n, ws⟩ = (X.name nm.data.toList && (decide (ws = []) && zI))) := by show _ = _; rw [← hzI]; simp [X.itOk]
    cases hnm : X.name nm.data.toList
    · skip
      go_enter Tryz.func44, Tryz.ntmps44
      go_wp2_with (go_at_call 68; refine (nameMayBe_any nm hs _).mono ?_; rw [hnm]; rintro e y ⟨rfl, rfl⟩)
      go_ret
      exact ⟨ret_b (by rw [HR.out]; simp only [Bool.and_true, Bool.true_and, Bool.false_and, Bool.and_false, Bool.and_self, hnm]), bl1 _ _⟩
    · by_cases hl0 : lw = 0
      · have hl0' : decide (ws = []) = true := decide_eq_true (List.eq_nil_of_length_eq_zero (by omega))
        have hl1 : ((lw : Int) == 0) = true := by simp [hl0]
        clear hl0 hlen hzI
        cases zI
        · skip
          go_enter Tryz.func44, Tryz.ntmps44
          go_wp2_with (go_at_call 68; refine (nameMayBe_any nm hs _).mono ?_; rw [hnm]; rintro e y ⟨rfl, rfl⟩)
          go_ret
          exact ⟨ret_b (by rw [HR.out]; simp only [Bool.and_true, Bool.true_and, Bool.false_and, Bool.and_false, Bool.and_self, hnm, hl0']), bl1 _ _⟩
        · skip
          go_enter Tryz.func44, Tryz.ntmps44
          go_wp2_with (go_at_call 68; refine (nameMayBe_any nm hs _).mono ?_; rw [hnm]; rintro e y ⟨rfl, rfl⟩)
          go_ret
          exact ⟨ret_b (by rw [HR.out]; simp only [Bool.and_true, Bool.true_and, Bool.false_and, Bool.and_false, Bool.and_self, hnm, hl0']), bl1 _ _⟩
      · have hl0' : decide (ws = []) = false := decide_eq_false (fun e => hl0 (by rw [← hlen, e]; rfl))
        have hl1 : ((lw : Int) == 0) = false := by simp [hl0]
        clear hl0 hlen hzI
        go_enter Tryz.func44, Tryz.ntmps44
        go_wp2_with (go_at_call 68; refine (nameMayBe_any nm hs _).mono ?_; rw [hnm]; rintro e y ⟨rfl, rfl⟩)
        go_ret
        exact ⟨ret_b (by rw [HR.out]; simp only [Bool.and_true, Bool.true_and, Bool.false_and, Bool.and_false, Bool.and_self, hnm, hl0']), bl1 _ _⟩
  by_cases hk3 : k = 3
  · subst hk3
    have HR : Hid (X.itOk ⟨3, nm.data.toList, op, a, b, n, ws⟩ = (X.name nm.data.toList && (decide (1 ≤ lw) && (decide (lw ≤ 4096) && zI)))) := by show _ = _; rw [← hzI, ← hlen]; simp [X.itOk]
    cases hnm : X.name nm.data.toList
    · skip
      go_enter Tryz.func44, Tryz.ntmps44
      go_wp2_with (go_at_call 68; refine (nameMayBe_any nm hs _).mono ?_; rw [hnm]; rintro e y ⟨rfl, rfl⟩)
      go_ret
      exact ⟨ret_b (by rw [HR.out]; simp only [Bool.and_true, Bool.true_and, Bool.false_and, Bool.and_false, Bool.and_self, hnm]), bl1 _ _⟩
    · by_cases h1 : 1 ≤ lw
      · have h1' : decide (1 ≤ lw) = true := decide_eq_true h1
        have h1i : (1 : Int) ≤ lw := by omega
        by_cases h2 : lw ≤ 4096
        · have h2' : decide (lw ≤ 4096) = true := decide_eq_true h2
          have h2i : (lw : Int) ≤ 4096 := by omega
          clear hlen hzI
          cases zI
          · skip
            go_enter Tryz.func44, Tryz.ntmps44
            go_wp2_with (go_at_call 68; refine (nameMayBe_any nm hs _).mono ?_; rw [hnm]; rintro e y ⟨rfl, rfl⟩)
            go_ret
            exact ⟨ret_b (by rw [HR.out]; simp only [Bool.and_true, Bool.true_and, Bool.false_and, Bool.and_false, Bool.and_self, hnm, h1', h2']), bl1 _ _⟩
          · skip
            go_enter Tryz.func44, Tryz.ntmps44
            go_wp2_with (go_at_call 68; refine (nameMayBe_any nm hs _).mono ?_; rw [hnm]; rintro e y ⟨rfl, rfl⟩)
            go_ret
            exact ⟨ret_b (by rw [HR.out]; simp only [Bool.and_true, Bool.true_and, Bool.false_and, Bool.and_false, Bool.and_self, hnm, h1', h2']), bl1 _ _⟩
        · have h2' : decide (lw ≤ 4096) = false := decide_eq_false h2
          have h2i : ¬ (lw : Int) ≤ 4096 := by omega
          clear hlen hzI
          go_enter Tryz.func44, Tryz.ntmps44
          go_wp2_with (go_at_call 68; refine (nameMayBe_any nm hs _).mono ?_; rw [hnm]; rintro e y ⟨rfl, rfl⟩)
          go_ret
          exact ⟨ret_b (by rw [HR.out]; simp only [Bool.and_true, Bool.true_and, Bool.false_and, Bool.and_false, Bool.and_self, hnm, h1', h2']), bl1 _ _⟩
      · have h1' : decide (1 ≤ lw) = false := decide_eq_false h1
        have h1i : ¬ (1 : Int) ≤ lw := by omega
        clear hlen hzI
        go_enter Tryz.func44, Tryz.ntmps44
        go_wp2_with (go_at_call 68; refine (nameMayBe_any nm hs _).mono ?_; rw [hnm]; rintro e y ⟨rfl, rfl⟩)
        go_ret
        exact ⟨ret_b (by rw [HR.out]; simp only [Bool.and_true, Bool.true_and, Bool.false_and, Bool.and_false, Bool.and_self, hnm, h1']), bl1 _ _⟩
  by_cases hk2 : k = 2
  · subst hk2
    have HR : Hid (X.itOk ⟨2, nm.data.toList, op, a, b, n, ws⟩ = (X.insOk ⟨2, nm.data.toList, op, a, b, n, ws⟩ && decide (ws = []))) := by show _ = _; simp [X.itOk]
    have hi := fun w h => insMayBe_any 2 nm op a b n aw lw cw ws hs w h
    cases hI : X.insOk ⟨2, nm.data.toList, op, a, b, n, ws⟩
    · rw [hI] at hi
      go_enter Tryz.func44, Tryz.ntmps44
      go_wp2_with fail
      refine (hi _ (HT.out.alloc _)).mono ?_
      rintro e y ⟨rfl, hb⟩
      have HB : Hid _ := hb
      clear hb hEq' hi
      go_wp2_with fail
      go_ret
      exact ⟨ret_b (by rw [HR.out, hI]; rfl), (bl1 _ _).trans (HB.out.mono (bl1 _ _).size)⟩
    · rw [hI] at hi
      obtain ⟨z, hz⟩ : ∃ z, decide (ws = []) = z := ⟨_, rfl⟩
      have hl1 : ((lw : Int) == 0) = z := by rw [← hz, Bool.eq_iff_iff]; simp [← hlen]
      have HR : Hid (X.itOk ⟨2, nm.data.toList, op, a, b, n, ws⟩ = z) := by show _ = _; rw [HR.out, hI, hz]; rfl
      clear hz hlen hzI
      have HC : Hid (∀ y, Below (w.alloc (.cells #[.int .i64 2, .string nm, .int .i64 op, .int .i64 a, .int .i64 b, .int .i64 n, .slice aw lw cw] 44)).heap.size (w.alloc (.cells #[.int .i64 2, .string nm, .int .i64 op, .int .i64 a, .int .i64 b, .int .i64 n, .slice aw lw cw] 44)) y → y.cell? ⟨w.heap.size, 6, none⟩ = some (.slice aw lw cw)) := fun y hy => cell_thru hy (row_cell rfl)
      go_enter Tryz.func44, Tryz.ntmps44
      go_wp2_with fail
      refine (hi _ (HT.out.alloc _)).mono ?_
      rintro e y ⟨rfl, hb⟩
      have q6 := HC.out _ hb
      have HB : Hid _ := hb
      clear hb hEq' hi
      cases z <;> go_wp2_with fail
      all_goals
        go_ret
        exact ⟨ret_b (by rw [HR.out]), (bl1 _ _).trans (HB.out.mono (bl1 _ _).size)⟩
  have HR : Hid (X.itOk ⟨k, nm.data.toList, op, a, b, n, ws⟩ = false) := by show _ = _; simp [X.itOk, hk1, hk2, hk3, hk4, hk5]
  have h1 : (k == 1) = false := by simp [hk1]
  have h2 : (k == 2) = false := by simp [hk2]
  have h3 : (k == 3) = false := by simp [hk3]
  have h4 : (k == 4) = false := by simp [hk4]
  have h5 : (k == 5) = false := by simp [hk5]
  clear hk1 hk2 hk3 hk4 hk5 hEq' hlen hzI
  go_enter Tryz.func44, Tryz.ntmps44
  go_wp2_with fail
  go_ret
  exact ⟨ret_b HR.out.symm, bl1 _ _⟩

/-! ### Items as they lie -/
/-- Numbers as they lie. -/
structure IntsV (w : World) (a : Option Addr) (len cap : Nat) (zs : List Int) : Prop where
  count : zs.length = len
  room : len ≤ cap ∧ cap ≤ maxLen
  cells : len = 0 ∨ ∃ b off, a = some ⟨b, off, none⟩ ∧ ∀ i, i < len → w.cell? ⟨b, off + i, none⟩ = some (.int .i64 (zs.getD i 0))
theorem IntsV.below {w w1 : World} {a : Option Addr} {n c : Nat} {zs : List Int} (h : IntsV w a n c zs) (hb : Below w.heap.size w w1) : IntsV w1 a n c zs := by
  refine ⟨h.count, h.room, ?_⟩
  rcases h.cells with h0 | ⟨b, off, e, hc⟩
  · exact .inl h0
  · exact .inr ⟨b, off, e, fun i hi => cell_thru hb (hc i hi)⟩
/-- Items as they lie: their names and numbers fit. -/
structure ItsV (w : World) (a : Option Addr) (len cap : Nat) (ts : List X.It) : Prop where
  count : ts.length = len
  room : len ≤ cap ∧ cap ≤ maxLen
  fit : ∀ t ∈ ts, t.name.length ≤ maxLen ∧ X.fitsIt t
  cells : len = 0 ∨ ∃ b off, a = some ⟨b, off, none⟩ ∧ ∀ i, i < len → ∃ aw lw cw, w.cell? ⟨b, off + i * 7, none⟩ = some (.int .i64 (ts.getD i X.noIt).kind) ∧ w.cell? ⟨b, off + i * 7 + 1, none⟩ = some (.string (X.str (ts.getD i X.noIt).name)) ∧ w.cell? ⟨b, off + i * 7 + 2, none⟩ = some (.int .i64 (ts.getD i X.noIt).op) ∧ w.cell? ⟨b, off + i * 7 + 3, none⟩ = some (.int .i64 (ts.getD i X.noIt).a) ∧ w.cell? ⟨b, off + i * 7 + 4, none⟩ = some (.int .i64 (ts.getD i X.noIt).b) ∧ w.cell? ⟨b, off + i * 7 + 5, none⟩ = some (.int .i64 (ts.getD i X.noIt).n) ∧ w.cell? ⟨b, off + i * 7 + 6, none⟩ = some (.slice aw lw cw) ∧ IntsV w aw lw cw (ts.getD i X.noIt).words
theorem ItsV.below {w w1 : World} {a : Option Addr} {n c : Nat} {ts : List X.It} (h : ItsV w a n c ts) (hb : Below w.heap.size w w1) : ItsV w1 a n c ts := by
  refine ⟨h.count, h.room, h.fit, ?_⟩
  rcases h.cells with h0 | ⟨b, off, e, hc⟩
  · exact .inl h0
  · refine .inr ⟨b, off, e, fun i hi => ?_⟩
    obtain ⟨aw, lw, cw, h0, h1, h2, h3, h4, h5, h6, h7⟩ := hc i hi
    exact ⟨aw, lw, cw, cell_thru hb h0, cell_thru hb h1, cell_thru hb h2, cell_thru hb h3, cell_thru hb h4, cell_thru hb h5, cell_thru hb h6, h7.below hb⟩
theorem ItsV.at {w : World} {a : Option Addr} {n c : Nat} {ts : List X.It} (h : ItsV w a n c ts) {i : Nat} (hi : i < n) : ∃ b off t aw lw cw, a = some ⟨b, off, none⟩ ∧ ts.getD i X.noIt = t ∧ t ∈ ts ∧ w.cell? ⟨b, off + i * 7, none⟩ = some (.int .i64 t.kind) ∧ w.cell? ⟨b, off + i * 7 + 1, none⟩ = some (.string (X.str t.name)) ∧ w.cell? ⟨b, off + i * 7 + 2, none⟩ = some (.int .i64 t.op) ∧ w.cell? ⟨b, off + i * 7 + 3, none⟩ = some (.int .i64 t.a) ∧ w.cell? ⟨b, off + i * 7 + 4, none⟩ = some (.int .i64 t.b) ∧ w.cell? ⟨b, off + i * 7 + 5, none⟩ = some (.int .i64 t.n) ∧ w.cell? ⟨b, off + i * 7 + 6, none⟩ = some (.slice aw lw cw) ∧ IntsV w aw lw cw t.words := by
  rcases h.cells with h0 | ⟨b, off, e, hc⟩
  · omega
  · obtain ⟨aw, lw, cw, h7⟩ := hc i hi
    refine ⟨b, off, _, aw, lw, cw, e, rfl, ?_, h7⟩
    have : i < ts.length := by rw [h.count]; exact hi
    simp [List.getD, this]
theorem mem_take {ts : List X.It} {k : Nat} {p : X.It → Prop} (h : ∀ t ∈ ts.take k, p t) (hk : k < ts.length) (hp : p (ts.getD k X.noIt)) : ∀ t ∈ ts.take (k + 1), p t := by
  intro t ht
  rw [List.take_add_one, List.getElem?_eq_getElem hk] at ht
  rcases List.mem_append.1 ht with ht | ht
  · exact h t ht
  · simp at ht; subst ht; simpa [List.getD, hk] using hp

set_option maxRecDepth 100000 in
set_option maxHeartbeats 8000000 in
theorem check_any {w : World} {al : Option Addr} {l c : Nat} {ts : List X.It} (h : ItsV w al l c ts) (ht : Tab w) :
    Calls Tryz.prog 22 #[.slice al l c] w fun e w' => e = .returned (.int .i64 (if X.itsOk ts = true then 0 else 1)) ∧ Below w.heap.size w w' := by
  have H : Hid _ := h
  have HT : Hid _ := ht
  have hm : l ≤ 9223372036854775807 := by have := h.room; unfold maxLen at this; omega
  have hcount := h.count
  clear h ht
  generalize hz : (if X.itsOk ts = true then (0 : Int) else 1) = z
  have HZ : Hid _ := hz
  clear hz
  by_cases hbig : 20000 < l
  · have HR : Hid (¬ X.itsOk ts = true) := fun e => by have := (X.itsOk_iff.1 e).1; omega
    clear hcount
    go_enter Tryz.func22, Tryz.ntmps22
    go_wp2_with fail
    go_ret
    exact ⟨ret_i (by have := HZ.out; rw [if_neg HR.out] at this; exact this), Below.refl _ _⟩
  have hdec : ¬ (20000 : Int) < l := by omega
  have HCT : Hid (ts.length = l) := hcount
  clear hcount
  go_enter Tryz.func22, Tryz.ntmps22
  go_wp2_with fail
  go_loopg [10] l (fun r iv wq => ∃ (k : Nat), iv = .int .i64 k ∧ k ≤ l ∧ l - k ≤ r ∧ Hid (∀ t ∈ ts.take k, X.itOk t = true) ∧ Hid (Below w.heap.size w wq))
  case atStart => exact ⟨0, rfl, Nat.zero_le _, by omega, (fun t ht => by simp at ht : ∀ t ∈ ts.take 0, X.itOk t = true), Below.refl _ _⟩
  case round =>
    obtain ⟨k, rfl, hk, hr, HAL, HB⟩ := hrel
    by_cases hlt : k < l
    · obtain ⟨b, off, t, aw, lw, cw, rfl, hg, hmem, c0, c1, c2, c3, c4, c5, c6, hi⟩ := (H.out.below HB.out).at hlt
      have hfit := H.out.fit t hmem
      have hcall := fun w h => mayBe_any t.kind (X.str t.name) t.op t.a t.b t.n aw lw cw t.words hi.count (by rw [str_size]; exact hfit.1) w h
      simp only [str_list] at hcall
      have HG : Hid _ := hg
      have HM : Hid _ := hmem
      have HTR : Hid (Tab wr) := HT.out.below HB.out
      have hii : (k : Int) < l := by omega
      have hin : 0 ≤ (k : Int) := by omega
      clear hfit hi hg hmem
      obtain ⟨kd, nm, op, a, bb, n, ws⟩ := t
      simp only at c0 c1 c2 c3 c4 c5 hcall
      cases hok : X.itOk ⟨kd, nm, op, a, bb, n, ws⟩
      · rw [hok] at hcall
        have HR : Hid (¬ X.itsOk ts = true) := fun e => by have := (X.itsOk_iff.1 e).2 _ HM.out; rw [hok] at this; cases this
        go_wp2_with fail
        refine (hcall _ (HTR.out.alloc _)).mono ?_
        rintro e y ⟨rfl, hb⟩
        have HB2 : Hid _ := hb
        clear hb hcall c0 c1 c2 c3 c4 c5 c6
        go_wp2_with fail
        go_ret
        exact ⟨ret_i (by have := HZ.out; rw [if_neg HR.out] at this; exact this), HB.out.trans (((bl1 _ _).trans (HB2.out.mono (bl1 _ _).size)).mono HB.out.size)⟩
      · rw [hok] at hcall
        have HN : Hid (∀ t ∈ ts.take (k + 1), X.itOk t = true) := mem_take HAL.out (by rw [HCT.out]; exact hlt) (by rw [HG.out]; exact hok)
        go_wp2_with fail
        refine (hcall _ (HTR.out.alloc _)).mono ?_
        rintro e y ⟨rfl, hb⟩
        have HB2 : Hid _ := hb
        clear hb hcall c0 c1 c2 c3 c4 c5 c6
        go_wp2_with fail
        go_roundg (l - (k + 1))
        case measure => omega
        case rel => exact ⟨k + 1, by go_num, by omega, Nat.le_refl _, HN.out, HB.out.trans (((bl1 _ _).trans (HB2.out.mono (bl1 _ _).size)).mono HB.out.size)⟩
    · obtain rfl : k = l := by omega
      have HR : Hid (X.itsOk ts = true) := X.itsOk_iff.2 ⟨by rw [HCT.out]; omega, fun t ht => HAL.out t (by rw [← HCT.out, List.take_length]; exact ht)⟩
      have hii : ¬ (k : Int) < k := by omega
      go_wp2_with fail
      go_ret
      exact ⟨ret_i (by have := HZ.out; rw [if_pos HR.out] at this; exact this), HB.out⟩

end Go.Proofs.YtgjingleolhkbaaGreatDoor
