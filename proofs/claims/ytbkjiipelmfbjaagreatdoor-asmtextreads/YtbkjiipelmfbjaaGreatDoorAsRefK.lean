/- The document's item. (Written by gen_refk.py.) -/
import Derived.Test.YtbkjiipelmfbjaaGreatDoorAsRefJ
namespace Go.Proofs.YtbkjiipelmfbjaaGreatDoor
open Go.RowKit Go.Maps Go.Lib
set_option linter.unusedVariables false
set_option linter.unusedSimpArgs false

/-- The result's box and the item's. -/
structure Tx (w W : World) (t : X.It) (v : Value) : Prop where
  x : Bx W (w.heap.size + 1) (itC t v)
  r : Bx W w.heap.size [.int .i64 0, .string { data := #[] }, .int .i64 0, .int .i64 0, .int .i64 0, .int .i64 0, .slice none 0 0]
  b : Below w.heap.size w W
theorem Tx.new (w : World) (ty : TypeId) : Tx w ((w.alloc (.cells #[.int .i64 0, .string { data := #[] }, .int .i64 0, .int .i64 0, .int .i64 0, .int .i64 0, .slice none 0 0] ty)).alloc (.cells #[.int .i64 0, .string { data := #[] }, .int .i64 0, .int .i64 0, .int .i64 0, .int .i64 0, .slice none 0 0] ty)) X.noIt (.slice none 0 0) :=
  ⟨by have := Bx.new (w.alloc (.cells #[.int .i64 0, .string { data := #[] }, .int .i64 0, .int .i64 0, .int .i64 0, .int .i64 0, .slice none 0 0] ty)) #[.int .i64 0, .string { data := #[] }, .int .i64 0, .int .i64 0, .int .i64 0, .int .i64 0, .slice none 0 0] ty; rw [World.size_alloc] at this; exact this, (Bx.new _ _ _).below (bl1 _ _), bl2 _ _ _⟩
theorem Tx.below {w W W' : World} {t : X.It} {v : Value} (h : Tx w W t v) (hb : Below W.heap.size W W') : Tx w W' t v := ⟨h.x.below hb, h.r.below hb, h.b.trans (hb.mono h.b.size)⟩
theorem Tx.put {w W : World} {t t' : X.It} {v v' : Value} (h : Tx w W t v) (k : Nat) (u : Value) (hk : k < 7) (e : (itC t v).set k u = itC t' v') : Tx w (W.setCell ⟨w.heap.size + 1, k, none⟩ u) t' v' :=
  ⟨by rw [← e]; exact h.x.put k (by simpa [itC] using hk) u, h.r.gb (gb_set _ _ _) (Nat.ne_of_lt (Nat.lt_succ_self _)), h.b.setCell (Nat.le_succ _) _⟩
theorem Tx.put7 {w W : World} {t : X.It} {v : Value} (h : Tx w W t v) (t' : X.It) (v' : Value) : Tx w (((((((W.setCell ⟨w.heap.size + 1, 0, none⟩ (.int .i64 t'.kind)).setCell ⟨w.heap.size + 1, 1, none⟩ (.string (X.str t'.name))).setCell ⟨w.heap.size + 1, 2, none⟩ (.int .i64 t'.op)).setCell ⟨w.heap.size + 1, 3, none⟩ (.int .i64 t'.a)).setCell ⟨w.heap.size + 1, 4, none⟩ (.int .i64 t'.b)).setCell ⟨w.heap.size + 1, 5, none⟩ (.int .i64 t'.n)).setCell ⟨w.heap.size + 1, 6, none⟩ (v')) t' v' :=
  ⟨Bx.put7 h.x rfl _ _ _ _ _ _ _, Bx.far7 h.r (Nat.ne_of_lt (Nat.lt_succ_self _)), below_put7 h.b (Nat.le_succ _)⟩
theorem last_eq {s : ByteArray} {m : Nat} (hm : s.size = m + 1) : s.data.toList.getLast? = some (s[m]'(by omega)) := by
  have h1 := get_list s m (by omega)
  rw [List.getLast?_eq_getElem?, len_list, show s.size - 1 = m by omega]
  exact h1
theorem drop_last {s : ByteArray} {m : Nat} (hm : s.size = m + 1) : (s.extract 0 m).data.toList = s.data.toList.dropLast := by
  rw [extract_eq, str_list, List.drop_zero, List.dropLast_eq_take, len_list, hm, Nat.add_sub_cancel]

theorem cell_thru7 {x : World} {b d o : Nat} {v u0 u1 u2 u3 u4 u5 u6 : Value} (h : x.cell? ⟨b, o, none⟩ = some v) (hne : b ≠ d) : World.cell? (((((((x.setCell ⟨d, 0, none⟩ (u0)).setCell ⟨d, 1, none⟩ (u1)).setCell ⟨d, 2, none⟩ (u2)).setCell ⟨d, 3, none⟩ (u3)).setCell ⟨d, 4, none⟩ (u4)).setCell ⟨d, 5, none⟩ (u5)).setCell ⟨d, 6, none⟩ (u6)) ⟨b, o, none⟩ = some v := by
  have st : ∀ {y : World} {q : Nat} {u : Value}, y.cell? ⟨b, o, none⟩ = some v → (y.setCell ⟨d, q, none⟩ u).cell? ⟨b, o, none⟩ = some v := fun h => (World.cell?_setCell_far _ ⟨d, _, none⟩ ⟨b, o, none⟩ _ (fun e => hne e.symm)).trans h
  exact st (st (st (st (st (st (st h))))))
end Go.Proofs.YtbkjiipelmfbjaaGreatDoor
