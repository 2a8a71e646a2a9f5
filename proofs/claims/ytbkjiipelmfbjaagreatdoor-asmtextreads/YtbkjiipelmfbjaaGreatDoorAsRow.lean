/- Rows of bytes of a call's own, nil or with room: seen by their cells; append of a string, and back to a string. -/
import Derived.Test.YtbkjiipelmfbjaaGreatDoorAsRefB
import Derived.Lib.ConvBytes
import Derived.Lib.AppendStr
import Derived.Deep.AppendSrc
import Derived.Laws.IdiomCopy
namespace Go.Proofs.YtbkjiipelmfbjaaGreatDoor
open Go.RowKit Go.Maps Go.Lib
set_option linter.unusedVariables false
set_option linter.unusedSimpArgs false

theorem infoB8 : (Tryz.prog.info? 5).map (fun i => (i.zero, i.size, i.bytes)) = some (some (.int .u8 0), 1, 1) := by kernel_rfl
structure Gr (w w' : World) (v v' : Value) : Prop where
  grown : w.grownBy w' v.ownBlock
  lies : ∀ g, v'.ownBlock = some g → v.ownBlock = some g ∨ w.heap.size ≤ g
theorem Gr.toBelow {w w' : World} {v v' : Value} {B : Nat} (h : Gr w w' v v') (hB : B ≤ w.heap.size) (hv : ∀ g, v.ownBlock = some g → B ≤ g) : Below B w w' := (Below.refl B w).grown h.grown hB hv
/-- A row of the call's own, with its room, or nil; whatever is marked lies behind it. -/
structure RB (w : World) (B : Nat) (v : Value) (l : X.By) : Prop where
  ex : (v = .slice none 0 0 ∧ l = []) ∨ ∃ g cap, v = .slice (some ⟨g, 0, none⟩) l.length cap ∧ B ≤ g ∧ g < w.heap.size ∧ l.length ≤ cap ∧ cap ≤ maxLen ∧ (∀ j, j < cap → (w.cell? ⟨g, j, none⟩).isSome = true) ∧ (∀ j, j < cap → w.frozen? ⟨g, j, none⟩ = false) ∧ ∀ j u, (l.map byV)[j]? = some u → w.cell? ⟨g, j, none⟩ = some u
theorem RB.nil (w : World) (B : Nat) : RB w B (.slice none 0 0) [] := ⟨.inl ⟨rfl, rfl⟩⟩
theorem RB.lt {w : World} {B : Nat} {v : Value} {l : X.By} (h : RB w B v l) : ∀ g, v.ownBlock = some g → B ≤ g ∧ g < w.heap.size := by
  rcases h.ex with ⟨rfl, rfl⟩ | ⟨g, cap, rfl, h1, h2, -⟩
  · intro g e; simp [Value.ownBlock] at e
  · intro g' e
    simp [Value.ownBlock] at e
    subst e
    exact ⟨h1, h2⟩
theorem RB.below {w x : World} {B : Nat} {v : Value} {l : X.By} (h : RB w B v l) (hb : Below w.heap.size w x) : RB x B v l := by
  rcases h.ex with ⟨rfl, rfl⟩ | ⟨g, cap, rfl, h1, h2, h3, h4, h5, h6, h7⟩
  · exact ⟨.inl ⟨rfl, rfl⟩⟩
  · have hc : ∀ j, x.cell? ⟨g, j, none⟩ = w.cell? ⟨g, j, none⟩ := fun j => hb.cell (p := ⟨g, j, none⟩) h2
    exact ⟨.inr ⟨g, cap, rfl, h1, Nat.lt_of_lt_of_le h2 hb.size, h3, h4, fun j hj => by rw [hc]; exact h5 j hj, fun j hj => (hb.frozen (p := ⟨g, j, none⟩) h2).trans (h6 j hj), fun j u hu => (hc j).trans (h7 j u hu)⟩⟩
theorem RB.slice {w : World} {B : Nat} {v : Value} {l : X.By} (h : RB w B v l) : ∃ a c, v = .slice a l.length c := by
  rcases h.ex with ⟨rfl, rfl⟩ | ⟨g, cap, rfl, -⟩
  · exact ⟨_, _, rfl⟩
  · exact ⟨_, _, rfl⟩
theorem setCells_block (b : Nat) : ∀ (vs : List Value) (o : Nat) (w : World) (k : Nat), k ≠ b → (w.setCells b o vs).heap[k]? = w.heap[k]?
  | [], o, w, k, _ => rfl
  | v :: r, o, w, k, hk => by
    rw [World.setCells, setCells_block b r (o + 1) _ k hk]
    exact Below.heap_setCell _ _ _ _ hk
theorem setCells_same (b : Nat) : ∀ (vs : List Value) (o : Nat) (w : World), (w.setCells b o vs).heap.size = w.heap.size ∧ (w.setCells b o vs).os = w.os ∧ (w.setCells b o vs).tape = w.tape ∧ (w.setCells b o vs).output = w.output
  | [], o, w => ⟨rfl, rfl, rfl, rfl⟩
  | v :: r, o, w => by
    obtain ⟨h1, h2, h3, h4⟩ := setCells_same b r (o + 1) (w.setCell ⟨b, o, none⟩ v)
    rw [World.setCells]
    exact ⟨by rw [h1, World.size_setCell], h2, h3, h4⟩
theorem cell_last {w : World} {A : Array Value} {t g j : Nat} (hg : g = w.heap.size) {v : Value} (hv : A[j]? = some v) : (w.alloc (.cells A t)).cell? ⟨g, j, none⟩ = some v := by
  subst hg
  simp [hv]
theorem strCells_by (s : ByteArray) : strCells s = s.data.toList.map byV := rfl
theorem rb_append {w : World} {B : Nat} {v : Value} {l : X.By} (ty : TypeId) (h : RB w B v l) (hB : B ≤ w.heap.size) (s : ByteArray) (hs0 : 0 < s.size) (hbytes : l.length + s.size ≤ 140737488355328) :
    ∃ v' w', (Builtin.append_ #[45, 9] ty #[v, .string s]).run Tryz.prog w = .ok v' w' ∧ RB w' B v' (l ++ s.data.toList) ∧ Gr w w' v v' := by
  obtain ⟨i0, hi, hz0, hz1, hz2⟩ := info_parts infoB8
  have hsrc : Src Tryz.prog i0.size 9 (.string s) s.size (strCells s) w := by rw [hz1]; exact Src.ofString w Tryz.underlying9 s
  have hbl : (strCells s).length = s.size := by rw [strCells_by, List.length_map, len_list]
  have hlen : (l ++ s.data.toList).length = l.length + s.size := by rw [List.length_append, len_list]
  have grow : ∀ (a : Option Addr) (cap : Nat), v = .slice a l.length cap → cap ≤ maxLen → cap < l.length + s.size → ((Builtin.firstCells i0.size l.length v).run Tryz.prog w.drew = .ok (l.map byV).toArray w.drew) →
      ∃ v' w', (Builtin.append_ #[45, 9] ty #[v, .string s]).run Tryz.prog w = .ok v' w' ∧ RB w' B v' (l ++ s.data.toList) ∧ Gr w w' v v' := by
    rintro a cap rfl h4 hroom hold
    have hr := run_append_grow_src (P := Tryz.prog) w 45 9 ty 5 i0 (.int .u8 0) Tryz.underlying45 hi hz0 a l.length cap (l.map byV) hold (.string s) s.size (strCells s) hsrc (by omega) (by omega) (growslice_fits (by omega) (by rw [hz2]; omega))
    have hge := grownCap_ge w (l.length + s.size) cap 5
    have hcm : grownCap w (l.length + s.size) cap 5 ≤ maxLen := grownCap_le_maxLen w (l.length + s.size) cap 5 (by unfold maxLen; omega)
    have hz : (Value.int IntKind.u8 0).cells.size = 1 := rfl
    have hL : (l.map byV ++ strCells s).length = l.length + s.size := by rw [List.length_append, List.length_map, hbl]
    refine ⟨_, _, hr, ⟨.inr ⟨w.heap.size, _, by rw [hlen], hB, by simp, by rw [hlen]; exact hge, hcm, fun j hj => ?_, fun j hj => World.frozen?_alloc_at _ _ _ _ (by simp), fun j u hu => ?_⟩⟩, Gr.mk ⟨rfl, rfl, rfl, by simp, fun k hk _ => ?_⟩ (fun g' hg' => .inr (by simp [Value.ownBlock] at hg'; omega))⟩
    · have hsz : ((l.map byV ++ strCells s).toArray ++ Builtin.zeroCells (Value.int IntKind.u8 0).cells (grownCap w (l.length + s.size) cap 5 - (l.length + s.size))).size = grownCap w (l.length + s.size) cap 5 := by
        simp only [Array.size_append, List.size_toArray, size_zeroCells, hz, hL]
        omega
      rw [cell_last (by simp) (Array.getElem?_eq_getElem (by rw [hsz]; exact hj))]
      rfl
    · refine cell_last (by simp) ?_
      rw [List.map_append, ← strCells_by] at hu
      have hj3 := (List.getElem?_eq_some_iff.1 hu).1
      rw [Array.getElem?_append_left (by simpa using hj3)]
      simpa using hu
    · exact ((Below.refl w.heap.size w).drew.alloc (by simp) _).block k hk
  rcases h.ex with ⟨rfl, rfl⟩ | ⟨g, cap, rfl, h1, h2, h3, h4, h5, h6, h7⟩
  · exact grow none 0 rfl (by unfold maxLen; omega) (by simpa using hs0) (run_firstCells_none _ _ _ _ _)
  · by_cases hroom : l.length + s.size ≤ cap
    · have hin : ∀ j, j < (strCells s).length → (w.cell? ⟨g, l.length + j, none⟩).isSome = true := fun j hj => h5 _ (by omega)
      have hr := run_append_room_src (P := Tryz.prog) w 45 9 ty 5 i0 Tryz.underlying45 hi g 0 l.length cap (.string s) s.size (strCells s) hsrc hroom (by
        intro j hj
        rw [hz1, Nat.zero_add, Nat.mul_one]
        exact hin j hj) (by
        intro j hj
        rw [hz1, Nat.zero_add, Nat.mul_one]
        exact h6 _ (by omega))
      rw [hz1, Nat.zero_add, Nat.mul_one] at hr
      obtain ⟨e1, e2, e3, e4⟩ := setCells_same g (strCells s) l.length w
      refine ⟨_, _, hr, ⟨.inr ⟨g, cap, by rw [hlen], h1, by rw [e1]; exact h2, by rw [hlen]; exact hroom, h4, fun j hj => ?_, fun j hj => by rw [World.frozen?_setCells]; exact h6 j hj, fun j u hu => ?_⟩⟩, ⟨⟨e2, e3, e4, by rw [e1]; exact Nat.le_refl _, fun k hk hne => setCells_block g _ _ _ k (fun e => hne (by rw [e]; rfl))⟩, fun g' hg' => .inl (by simpa [Value.ownBlock] using hg')⟩⟩
      · by_cases hj2 : l.length ≤ j ∧ j < l.length + s.size
        · have := World.cell?_setCells_in g (strCells s) l.length w hin (j - l.length) (by omega)
          rw [show l.length + (j - l.length) = j by omega] at this
          rw [this]
          rfl
        · rw [World.cell?_setCells_out g _ _ _ _ (fun _ _ => by simp only; omega)]
          exact h5 j hj
      · rw [List.map_append] at hu
        by_cases hj2 : j < l.length
        · rw [List.getElem?_append_left (by simpa using hj2)] at hu
          rw [World.cell?_setCells_out g _ _ _ _ (fun _ _ => by simp only; omega)]
          exact h7 j u hu
        · rw [List.getElem?_append_right (by simpa using hj2), List.length_map, ← strCells_by] at hu
          have hj3 : j - l.length < (strCells s).length := (List.getElem?_eq_some_iff.1 hu).1
          have := World.cell?_setCells_in g (strCells s) l.length w hin (j - l.length) hj3
          rw [show l.length + (j - l.length) = j by omega] at this
          rw [this, ← hu]
          exact (List.getElem?_eq_getElem hj3).symm
    · refine grow _ cap rfl h4 (by omega) ?_
      rw [hz1]
      exact run_firstCells_some w.drew 1 l.length ⟨g, 0, none⟩ l.length cap (l.map byV) (by simp) (fun j u hu => by rw [Addr.add_lit, Nat.zero_add, World.cell?_drew]; exact h7 j u hu)

theorem wp_append_rb {o : Oper} {a : Act} {w : World} {K : Act → World → Prop} {Q : Exit → Act → World → Prop} (sl x : Operand)
    (ho : o.op = .call { callee := .builtin .append, args := #[sl, x], argTypes := #[45, 9] })
    {B : Nat} {v : Value} {l : X.By} (hs : a.eval sl = v) (hr : RB w B v l) (hB : B ≤ w.heap.size) (s : ByteArray) (hs0 : 0 < s.size) (hx : a.eval x = .string s) (hbytes : l.length + s.size ≤ 140737488355328)
    (hk : ∀ v' w', RB w' B v' (l ++ s.data.toList) → Gr w w' v v' → K (a.put o.dst v') w') : o.wp Tryz.prog a w K Q := by
  obtain ⟨v', w', hr', h2, h3⟩ := rb_append o.type hr hB s hs0 hbytes
  unfold Oper.wp execOp
  simp only [ho, resolve, invoke, builtin, Sem.run_bind, Sem.run_pure, Result.andThen_ok, List.map_toArray, List.map_cons, List.map_nil, hs, hx, hr']
  exact hk v' w' h2 h3
theorem wpList_append_rb {ops : Array Oper} {rest : List Oper} {o : Oper} {a : Act} {Q : Exit → Act → World → Prop} {w : World} (hgd : o.guard = none) (sl x : Operand)
    (ho : o.op = .call { callee := .builtin .append, args := #[sl, x], argTypes := #[45, 9] })
    {B : Nat} {v : Value} {l : X.By} (hs : a.eval sl = v) (hr : RB w B v l) (hB : B ≤ w.heap.size) (s : ByteArray) (hs0 : 0 < s.size) (hx : a.eval x = .string s) (hbytes : l.length + s.size ≤ 140737488355328)
    (hk : ∀ v' w', RB w' B v' (l ++ s.data.toList) → Gr w w' v v' → wpList Tryz.prog ops Q rest (a.put o.dst v') w') : wpList Tryz.prog ops Q (o :: rest) a w :=
  wpList_plain hgd fun _ hK => wp_append_rb sl x ho hs hr hB s hs0 hx hbytes fun v' w' h2 h3 => hK _ _ (hk v' w' h2 h3)
/-- The bytes of a string, as a row. -/
theorem rb_conv (w : World) (s : ByteArray) (hs : s.size ≤ 140737488355328) : ∃ v w', (convert 9 45 (.string s)).run Tryz.prog w = .ok v w' ∧ RB w' w.heap.size v s.data.toList ∧ Below w.heap.size w w' := by
  have hr := _root_.Go.Lib.run_convert_string_bytes (P := Tryz.prog) w 9 45 5 s Tryz.underlying9 Tryz.underlying45 Tryz.underlying5
  have hge := grownCap_ge w s.size 0 5
  have hcm : grownCap w s.size 0 5 ≤ maxLen := grownCap_le_maxLen w s.size 0 5 (by unfold maxLen; omega)
  have hsz : (bytesCells w 5 s).size = grownCap w s.size 0 5 := by
    unfold bytesCells
    simp
    omega
  have hnew := bytesWorld_at_new w 5 s
  refine ⟨_, _, hr, ⟨.inr ⟨w.heap.size, _, by rw [len_list], Nat.le_refl _, by rw [bytesWorld_size]; omega, by rw [len_list]; exact hge, hcm, fun j hj => ?_, fun j hj => ?_, fun j u hu => ?_⟩⟩, ?_⟩
  · simp [World.cell?, hnew, hsz, hj]
  · unfold World.frozen?
    rw [hnew]
    simp
    omega
  · have hj : j < s.size := by have := (List.getElem?_eq_some_iff.1 hu).1; simpa [len_list] using this
    rw [bytesWorld_cell w 5 s j hj, ← hu]
    simp [byV, List.getD, hj]
  · refine ⟨?_, ?_, ?_, by rw [bytesWorld_size]; omega, fun k hk => bytesWorld_at_old w 5 s k hk⟩
    · rfl
    · rfl
    · rfl
theorem rb_back {w : World} {B : Nat} {v : Value} {l : X.By} (h : RB w B v l) : (convert 45 9 v).run Tryz.prog w = .ok (.string (X.str l)) w := by
  rcases h.ex with ⟨rfl, rfl⟩ | ⟨g, cap, rfl, h1, h2, h3, h4, h5, h6, h7⟩
  · exact run_convert_bytes_nil (P := Tryz.prog) w 45 5 Tryz.underlying45 Tryz.underlying5 0 0 9 Tryz.underlying9
  · exact conv_row rfl h7

end Go.Proofs.YtbkjiipelmfbjaaGreatDoor
