/- append of a string's bytes onto a row of the call's own, and where the new row lies; rows that grow. -/
import Derived.Test.YtcfdfnghaigkjaaObjMath
import Derived.Test.YtcfdfnghaigkjaaWordOwn
import Derived.Lib.AppendStr
import Derived.Deep.AppendSrc
import Derived.Deep.AppendLies
namespace Go.Proofs.Ytcfdfnghaigkjaa
open Go.RowKit Go.Maps Go.Lib

/-- Nothing was turned but the row, and new blocks; the new row lies where the old one did, or behind all. -/
structure Gr (w w' : World) (v v' : Value) : Prop where
  grown : w.grownBy w' v.ownBlock
  lies : ∀ g, v'.ownBlock = some g → v.ownBlock = some g ∨ w.heap.size ≤ g
theorem Gr.refl (w : World) (v : Value) : Gr w w v v := ⟨⟨rfl, rfl, rfl, Nat.le_refl _, fun _ _ _ => rfl⟩, fun _ h => .inl h⟩
theorem Gr.trans {w w1 w2 : World} {v v1 v2 : Value} (h : Gr w w1 v v1) (k : Gr w1 w2 v1 v2) : Gr w w2 v v2 := by
  refine ⟨⟨k.grown.os.trans h.grown.os, k.grown.tape.trans h.grown.tape, k.grown.output.trans h.grown.output, Nat.le_trans h.grown.size k.grown.size, fun j hj hne => ?_⟩, fun g hg => ?_⟩
  · refine (k.grown.block j (Nat.lt_of_lt_of_le hj h.grown.size) (fun e => ?_)).trans (h.grown.block j hj hne)
    rcases h.lies j e.symm with h1 | h1
    · exact hne h1.symm
    · omega
  · rcases k.lies g hg with h1 | h1
    · exact h.lies g h1
    · exact .inr (Nat.le_trans h.grown.size h1)
theorem Gr.below {w w1 : World} (v : Value) (h : Below w.heap.size w w1) : Gr w w1 v v := ⟨⟨h.os, h.tape, h.output, h.size, fun k hk _ => h.block k hk⟩, fun _ h => .inl h⟩
theorem Gr.cell {w w' : World} {v v' : Value} (h : Gr w w' v v') {b o : Nat} {u : Value} (hc : w.cell? ⟨b, o, none⟩ = some u) (hne : v.ownBlock ≠ some b) : w'.cell? ⟨b, o, none⟩ = some u := h.grown.cell hc (fun e => hne e.symm)
theorem Gr.toBelow {w w' : World} {v v' : Value} {B : Nat} (h : Gr w w' v v') (hB : B ≤ w.heap.size) (hv : ∀ g, v.ownBlock = some g → B ≤ g) : Below B w w' := (Below.refl B w).grown h.grown hB hv

theorem str_lies {w : World} {B : Nat} {v : Value} {n : Nat} {xs : List Value} (ty : TypeId) (hown : w.ownsRow B 5 1 v n xs) (s : ByteArray) (hbytes : n + s.size ≤ 140737488355328) (hbase : B ≤ w.heap.size) :
    ∃ v' w', (Builtin.append_ #[44, 9] ty #[v, .string s]).run Try.prog w = .ok v' w' ∧ w'.ownsRow B 5 1 v' (n + s.size) (xs ++ strCells s) ∧ Gr w w' v v' := by
  obtain ⟨i0, hi, hz0, hz1, hz2⟩ := info_parts infoB
  obtain ⟨v', w', hr, ho, hg, hnil⟩ := run_append_own_string (P := Try.prog) w B 44 9 ty 5 i0 Try.underlying44 Try.underlying9 hi hz0 hz1 hz2 v n xs hown s (by unfold maxLen; omega) hbytes hbase
  refine ⟨v', w', hr, ho, hg, fun g hgv => ?_⟩
  have hsrc : Src Try.prog i0.size 9 (.string s) s.size (byteCells s) w := by rw [hz1]; exact Src.ofString w Try.underlying9 s
  have grow : ∀ (bs : Option Addr) (c : Nat) (olds : List Value), v = .slice bs n c → c < n + s.size → (Builtin.firstCells i0.size n (.slice bs n c)).run Try.prog w.drew = .ok olds.toArray w.drew → w.heap.size ≤ g := by
    intro bs c olds hv hc hold
    have hr2 := run_append_grow_src (P := Try.prog) w 44 9 ty 5 i0 (.int .u8 0) Try.underlying44 hi hz0 bs n c olds hold (.string s) s.size (byteCells s) hsrc hc (by omega) (growslice_fits hc (by rw [hz2]; omega))
    rw [← hv, hr] at hr2
    injection hr2 with e1 e2
    rw [e1] at hgv
    simp [Value.ownBlock] at hgv
    omega
  rcases hown.2 with ⟨rfl, rfl⟩ | ⟨g0, cap, cur, rfl, hb, hh, h1, h2, h3, h4⟩
  · by_cases hs : s.size = 0
    · have := hnil.2 ⟨rfl, hs⟩
      rw [this] at hgv
      simp [Value.ownBlock] at hgv
    · exact .inr (grow none 0 [] rfl (by omega) (run_firstCells_none w.drew i0.size 0 0 0))
  · by_cases hroom : n + s.size ≤ cap
    · have hr2 := run_append_room_src (P := Try.prog) w 44 9 ty 5 i0 Try.underlying44 hi g0 0 n cap (.string s) s.size (byteCells s) hsrc hroom (by
        intro j hj
        rw [byteCells_length] at hj
        rw [cell_of_row w g0 _ cur 5 (0, 0) hh, hz1]
        simp
        omega) (by
        intro j hj
        unfold World.frozen?
        rw [hh]
        simp)
      rw [hr] at hr2
      injection hr2 with e1 e2
      rw [e1] at hgv
      exact .inl hgv
    · refine .inr (grow _ cap xs rfl (by omega) ?_)
      rw [hz1]
      exact run_firstCells_some w.drew 1 n ⟨g0, 0, none⟩ n cap xs (by simpa using hown.1) (fun j u hu => by
        have hj : j < n := by have := (List.getElem?_eq_some_iff.1 hu).1; have := hown.1; omega
        rw [Addr.add_lit, Nat.zero_add, World.cell?_drew, hown.cellAt j (by omega)]
        exact hu)

theorem wpList_append_str {ops : Array Oper} {rest : List Oper} {o : Oper} {a : Act} {Q : Exit → Act → World → Prop} {w : World} (hgd : o.guard = none) (sl x : Operand)
    (ho : o.op = .call { callee := .builtin .append, args := #[sl, x], argTypes := #[44, 9] })
    {B : Nat} {v : Value} {n : Nat} {xs : List Value} (hs : a.eval sl = v) (hown : w.ownsRow B 5 1 v n xs) (s : ByteArray) (hx : a.eval x = .string s)
    (hbytes : n + s.size ≤ 140737488355328) (hbase : B ≤ w.heap.size)
    (h : ∀ v' w', w'.ownsRow B 5 1 v' (n + s.size) (xs ++ strCells s) → Gr w w' v v' → wpList Try.prog ops Q rest (a.put o.dst v') w') : wpList Try.prog ops Q (o :: rest) a w := by
  refine wpList_plain hgd fun K hK => ?_
  obtain ⟨v', w', hr, h2, h3⟩ := str_lies o.type hown s hbytes hbase
  unfold Oper.wp execOp
  simp only [ho, resolve, invoke, builtin, Sem.run_bind, Sem.run_pure, Result.andThen_ok, List.map_toArray, List.map_cons, List.map_nil, hs, hx, hr]
  exact hK _ _ (h v' w' h2 h3)

end Go.Proofs.Ytcfdfnghaigkjaa
