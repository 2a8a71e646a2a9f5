/- Rows of bytes as []byte(s) leaves them: seen by their cells; append of a string, and back to a string. -/
import Derived.Test.YtcfdfnghaigkjaaObjRefNum
import Derived.Lib.ConvBytes
import Derived.Laws.IdiomCopy
namespace Go.Proofs.Ytcfdfnghaigkjaa
open Go.RowKit Go.Maps Go.Lib
set_option linter.unusedVariables false

/-- A row of the call's own, with its room; whatever is marked lies behind it. -/
structure RM (w : World) (B : Nat) (v : Value) (xs : List Int) : Prop where
  ex : ∃ g cap, v = .slice (some ⟨g, 0, none⟩) xs.length cap ∧ B ≤ g ∧ g < w.heap.size ∧ xs.length ≤ cap ∧ cap ≤ maxLen ∧ (∀ j, j < cap → (w.cell? ⟨g, j, none⟩).isSome = true) ∧ (∀ j, j < cap → w.frozen? ⟨g, j, none⟩ = false) ∧ ∀ j u, (xs.map (Value.int .u8))[j]? = some u → w.cell? ⟨g, j, none⟩ = some u

theorem RM.lt {w : World} {B : Nat} {v : Value} {xs : List Int} (h : RM w B v xs) : ∀ g, v.ownBlock = some g → B ≤ g ∧ g < w.heap.size := by
  obtain ⟨g, cap, rfl, h1, h2, -⟩ := h.ex
  intro g' e
  simp [Value.ownBlock] at e
  subst e
  exact ⟨h1, h2⟩
theorem RM.below {w x : World} {B : Nat} {v : Value} {xs : List Int} (h : RM w B v xs) (hb : Below w.heap.size w x) : RM x B v xs := by
  obtain ⟨g, cap, rfl, h1, h2, h3, h4, h5, h6, h7⟩ := h.ex
  have hc : ∀ j, x.cell? ⟨g, j, none⟩ = w.cell? ⟨g, j, none⟩ := fun j => hb.cell (p := ⟨g, j, none⟩) h2
  exact ⟨⟨g, cap, rfl, h1, Nat.lt_of_lt_of_le h2 hb.size, h3, h4, fun j hj => by rw [hc]; exact h5 j hj, fun j hj => (hb.frozen (p := ⟨g, j, none⟩) h2).trans (h6 j hj), fun j u hu => (hc j).trans (h7 j u hu)⟩⟩
theorem setCells_block (b : Nat) : ∀ (vs : List Value) (o : Nat) (w : World) (k : Nat), k ≠ b → (w.setCells b o vs).heap[k]? = w.heap[k]?
  | [], o, w, k, _ => rfl
  | v :: r, o, w, k, hk => by
    rw [World.setCells, setCells_block b r (o + 1) _ k hk]
    exact Below.heap_setCell _ _ _ _ hk
theorem setCells_same (b : Nat) : ∀ (vs : List Value) (o : Nat) (w : World), (w.setCells b o vs).heap.size = w.heap.size ∧ (w.setCells b o vs).os = w.os ∧ (w.setCells b o vs).tape = w.tape ∧ (w.setCells b o vs).output = w.output
  | [], o, w => ⟨rfl, rfl, rfl, rfl⟩
  | v :: r, o, w => by
    obtain ⟨h1, h2, h3, h4⟩ := setCells_same b r (o + 1) (w.setCell ⟨b, o, none⟩ v)
    rw [World.setCells]
    exact ⟨by rw [h1, World.size_setCell], h2, h3, h4⟩
theorem rm_append {w : World} {B : Nat} {v : Value} {xs : List Int} (ty : TypeId) (h : RM w B v xs) (hB : B ≤ w.heap.size) (s : ByteArray) (hbytes : xs.length + s.size ≤ 140737488355328) :
    ∃ v' w', (Builtin.append_ #[44, 9] ty #[v, .string s]).run Try.prog w = .ok v' w' ∧ RM w' B v' (xs ++ nums s) ∧ Gr w w' v v' := by
  obtain ⟨i0, hi, hz0, hz1, hz2⟩ := info_parts infoB
  obtain ⟨g, cap, rfl, h1, h2, h3, h4, h5, h6, h7⟩ := h.ex
  have hsrc : Src Try.prog i0.size 9 (.string s) s.size (byteCells s) w := by rw [hz1]; exact Src.ofString w Try.underlying9 s
  have hbc : byteCells s = (nums s).map (Value.int .u8) := strCells_nums s
  have hbl : (byteCells s).length = s.size := by rw [hbc, List.length_map, nums_len]
  have hlen : (xs ++ nums s).length = xs.length + s.size := by rw [List.length_append, nums_len]
  by_cases hroom : xs.length + s.size ≤ cap
  · have hin : ∀ j, j < (byteCells s).length → (w.cell? ⟨g, xs.length + j, none⟩).isSome = true := fun j hj => h5 _ (by omega)
    have hr := run_append_room_src (P := Try.prog) w 44 9 ty 5 i0 Try.underlying44 hi g 0 xs.length cap (.string s) s.size (byteCells s) hsrc hroom (by
      intro j hj
      rw [hz1, Nat.zero_add, Nat.mul_one]
      exact hin j hj) (by
      intro j hj
      rw [hz1, Nat.zero_add, Nat.mul_one]
      exact h6 _ (by omega))
    rw [hz1, Nat.zero_add, Nat.mul_one] at hr
    obtain ⟨e1, e2, e3, e4⟩ := setCells_same g (byteCells s) xs.length w
    refine ⟨_, _, hr, ⟨⟨g, cap, by rw [hlen], h1, by rw [e1]; exact h2, by rw [hlen]; exact hroom, h4, fun j hj => ?_, fun j hj => by rw [World.frozen?_setCells]; exact h6 j hj, fun j u hu => ?_⟩⟩, ⟨⟨e2, e3, e4, by rw [e1]; exact Nat.le_refl _, fun k hk hne => setCells_block g _ _ _ k (fun e => hne (by rw [e]; rfl))⟩, fun g' hg' => .inl (by simpa [Value.ownBlock] using hg')⟩⟩
    · by_cases hj2 : xs.length ≤ j ∧ j < xs.length + s.size
      · have := World.cell?_setCells_in g (byteCells s) xs.length w hin (j - xs.length) (by omega)
        rw [show xs.length + (j - xs.length) = j by omega] at this
        rw [this]
        rfl
      · rw [World.cell?_setCells_out g _ _ _ _ (fun _ _ => by simp only; omega)]
        exact h5 j hj
    · rw [List.map_append] at hu
      by_cases hj2 : j < xs.length
      · rw [List.getElem?_append_left (by simpa using hj2)] at hu
        rw [World.cell?_setCells_out g _ _ _ _ (fun _ _ => by simp only; omega)]
        exact h7 j u hu
      · rw [List.getElem?_append_right (by simpa using hj2), List.length_map, ← hbc] at hu
        have hj3 : j - xs.length < (byteCells s).length := (List.getElem?_eq_some_iff.1 hu).1
        have := World.cell?_setCells_in g (byteCells s) xs.length w hin (j - xs.length) hj3
        rw [show xs.length + (j - xs.length) = j by omega] at this
        rw [this, ← hu]
        exact (List.getElem?_eq_getElem hj3).symm
  · have hold : (Builtin.firstCells i0.size xs.length (.slice (some ⟨g, 0, none⟩) xs.length cap)).run Try.prog w.drew = .ok (xs.map (Value.int .u8)).toArray w.drew := by
      rw [hz1]
      exact run_firstCells_some w.drew 1 xs.length ⟨g, 0, none⟩ xs.length cap (xs.map (Value.int .u8)) (by simp) (fun j u hu => by rw [Addr.add_lit, Nat.zero_add, World.cell?_drew]; exact h7 j u hu)
    have hr := run_append_grow_src (P := Try.prog) w 44 9 ty 5 i0 (.int .u8 0) Try.underlying44 hi hz0 (some ⟨g, 0, none⟩) xs.length cap (xs.map (Value.int .u8)) hold (.string s) s.size (byteCells s) hsrc (by omega) (by omega) (growslice_fits (by omega) (by rw [hz2]; omega))
    have hge := grownCap_ge w (xs.length + s.size) cap 5
    have hcm : grownCap w (xs.length + s.size) cap 5 ≤ maxLen := grownCap_le_maxLen w (xs.length + s.size) cap 5 (by unfold maxLen; omega)
    have hz : (Value.int IntKind.u8 0).cells.size = 1 := rfl
    have hL : (xs.map (Value.int .u8) ++ byteCells s).length = xs.length + s.size := by rw [List.length_append, List.length_map, hbl]
    refine ⟨_, _, hr, ⟨⟨w.heap.size, _, by rw [hlen], hB, by simp, by rw [hlen]; exact hge, hcm, fun j hj => ?_, fun j hj => World.frozen?_alloc_at _ _ _ _ (by simp), fun j u hu => ?_⟩⟩, Gr.mk ⟨rfl, rfl, rfl, by simp, fun k hk _ => ?_⟩ (fun g' hg' => .inr (by simp [Value.ownBlock] at hg'; omega))⟩
    · have hsz : ((xs.map (Value.int .u8) ++ byteCells s).toArray ++ Builtin.zeroCells (Value.int IntKind.u8 0).cells (grownCap w (xs.length + s.size) cap 5 - (xs.length + s.size))).size = grownCap w (xs.length + s.size) cap 5 := by
        simp only [Array.size_append, List.size_toArray, size_zeroCells, hz, hL]
        omega
      rw [cell_last (by simp) (Array.getElem?_eq_getElem (by rw [hsz]; exact hj))]
      rfl
    · refine cell_last (by simp) ?_
      rw [List.map_append, ← hbc] at hu
      have hj3 := (List.getElem?_eq_some_iff.1 hu).1
      rw [Array.getElem?_append_left (by simpa using hj3)]
      simpa using hu
    · exact ((Below.refl w.heap.size w).drew.alloc (by simp) _).block k hk

theorem wp_append_rm {o : Oper} {a : Act} {w : World} {K : Act → World → Prop} {Q : Exit → Act → World → Prop} (sl x : Operand)
    (ho : o.op = .call { callee := .builtin .append, args := #[sl, x], argTypes := #[44, 9] })
    {B : Nat} {v : Value} {xs : List Int} (hs : a.eval sl = v) (hr : RM w B v xs) (hB : B ≤ w.heap.size) (s : ByteArray) (hx : a.eval x = .string s) (hbytes : xs.length + s.size ≤ 140737488355328)
    (hk : ∀ v' w', RM w' B v' (xs ++ nums s) → Gr w w' v v' → K (a.put o.dst v') w') : o.wp Try.prog a w K Q := by
  obtain ⟨v', w', hr', h2, h3⟩ := rm_append o.type hr hB s hbytes
  unfold Oper.wp execOp
  simp only [ho, resolve, invoke, builtin, Sem.run_bind, Sem.run_pure, Result.andThen_ok, List.map_toArray, List.map_cons, List.map_nil, hs, hx, hr']
  exact hk v' w' h2 h3
theorem wpList_append_rm {ops : Array Oper} {rest : List Oper} {o : Oper} {a : Act} {Q : Exit → Act → World → Prop} {w : World} (hgd : o.guard = none) (sl x : Operand)
    (ho : o.op = .call { callee := .builtin .append, args := #[sl, x], argTypes := #[44, 9] })
    {B : Nat} {v : Value} {xs : List Int} (hs : a.eval sl = v) (hr : RM w B v xs) (hB : B ≤ w.heap.size) (s : ByteArray) (hx : a.eval x = .string s) (hbytes : xs.length + s.size ≤ 140737488355328)
    (hk : ∀ v' w', RM w' B v' (xs ++ nums s) → Gr w w' v v' → wpList Try.prog ops Q rest (a.put o.dst v') w') : wpList Try.prog ops Q (o :: rest) a w :=
  wpList_plain hgd fun _ hK => wp_append_rm sl x ho hs hr hB s hx hbytes fun v' w' h2 h3 => hK _ _ (hk v' w' h2 h3)
theorem step_append_rm {ops : Array Oper} {o : Oper} {a : Act} {K : Act → World → Prop} {Q : Exit → Act → World → Prop} {E : Prop} {w : World} (hgd : o.guard = none) (sl x : Operand)
    (ho : o.op = .call { callee := .builtin .append, args := #[sl, x], argTypes := #[44, 9] })
    {B : Nat} {v : Value} {xs : List Int} (hs : a.eval sl = v) (hr : RM w B v xs) (hB : B ≤ w.heap.size) (s : ByteArray) (hx : a.eval x = .string s) (hbytes : xs.length + s.size ≤ 140737488355328)
    (hk : ∀ v' w', RM w' B v' (xs ++ nums s) → Gr w w' v v' → K (a.put o.dst v') w') :
    if Region.wanted o (yielded ops a.tmps) = true then Oper.wp Try.prog o a w K Q else E := by
  have hw : Region.wanted o (yielded ops a.tmps) = true := by simp [Region.wanted, hgd]
  rw [if_pos hw]
  exact wp_append_rm sl x ho hs hr hB s hx hbytes hk
/-- The bytes of a string, as a row. -/
theorem rm_conv (w : World) (s : ByteArray) (hs : s.size ≤ 140737488355328) : ∃ v w', (convert 9 44 (.string s)).run Try.prog w = .ok v w' ∧ RM w' w.heap.size v (nums s) ∧ Below w.heap.size w w' := by
  have hr := _root_.Go.Lib.run_convert_string_bytes (P := Try.prog) w 9 44 5 s Try.underlying9 Try.underlying44 Try.underlying5
  have hge := grownCap_ge w s.size 0 5
  have hcm : grownCap w s.size 0 5 ≤ maxLen := grownCap_le_maxLen w s.size 0 5 (by unfold maxLen; omega)
  have hsz : (bytesCells w 5 s).size = grownCap w s.size 0 5 := by
    unfold bytesCells
    simp
    omega
  have hnew := bytesWorld_at_new w 5 s
  refine ⟨_, _, hr, ⟨⟨w.heap.size, _, by rw [nums_len], Nat.le_refl _, by rw [bytesWorld_size]; omega, by rw [nums_len]; exact hge, hcm, fun j hj => ?_, fun j hj => ?_, fun j u hu => ?_⟩⟩, ?_⟩
  · simp [World.cell?, hnew, hsz, hj]
  · unfold World.frozen?
    rw [hnew]
    simp
    omega
  · have hj : j < s.size := by have := (List.getElem?_eq_some_iff.1 hu).1; simpa [nums_len] using this
    rw [bytesWorld_cell w 5 s j hj, ← hu]
    simp [nums, W.tail, List.getD, hj]
  · refine ⟨?_, ?_, ?_, by rw [bytesWorld_size]; omega, fun k hk => bytesWorld_at_old w 5 s k hk⟩
    · rfl
    · rfl
    · rfl
theorem rm_back {w : World} {B : Nat} {v : Value} {xs : List Int} (h : RM w B v xs) : (convert 44 9 v).run Try.prog w = .ok (.string (strOfNums xs)) w := by
  obtain ⟨g, cap, rfl, h1, h2, h3, h4, h5, h6, h7⟩ := h.ex
  exact run_convert_bytes_arg (P := Try.prog) w 44 5 Try.underlying44 Try.underlying5 g 0 xs.length cap xs rfl (fun i hi => by
    rw [Nat.zero_add]
    refine h7 i _ ?_
    simp [List.getD, hi]) 9 Try.underlying9

end Go.Proofs.Ytcfdfnghaigkjaa
