/- The document's Same, of two lists that are the same. -/
import Derived.Test.YtcllbbdkihmpgaaDoorInsAllMath
import Derived.Deep.QuietTactic
import Derived.BigQuiet
import Derived.Laws.AppendOwnNone
namespace Go.Proofs.YtcllbbdkihmpgaaDoor
open Go.RowKit
set_option linter.unusedVariables false
attribute [local go_sem ↓] Go.wp_at_zero Go.wp_at_succ
attribute [local go_sem high] eqIns

/-- A slice value that holds these instructions. -/
def IView (w : World) (v : Value) (l : List I.Q) : Prop := ∃ ad cap, v = .slice ad l.length cap ∧ (ad = none → l.length = 0 ∧ cap = 0) ∧ (l.length = 0 ∨ ∃ g, ad = some ⟨g, 0, none⟩ ∧ ∀ k j, k < l.length → j < 4 → w.cell? ⟨g, k * 4 + j, none⟩ = (I.rows l)[k * 4 + j]?)
theorem IView.of_own {w : World} {B : Nat} {v : Value} {l : List I.Q} (h : w.ownsRow B 23 4 v l.length (I.rows l)) : IView w v l := by
  rcases Nat.eq_zero_or_pos l.length with h0 | h0
  · rcases h.2 with ⟨e, -⟩ | ⟨g, cap, cur, e, -⟩
    · exact ⟨none, 0, by rw [e, h0], fun _ => ⟨h0, rfl⟩, .inl h0⟩
    · exact ⟨_, cap, e, (by intro h; cases h), .inl h0⟩
  · obtain ⟨g, cap, rfl, -, -⟩ := World.ownsRow.form h h0
    exact ⟨_, cap, rfl, (by intro h; cases h), .inr ⟨g, rfl, fun k j hk hj => World.ownsRow.cellAt h _ (by omega)⟩⟩
theorem IView.nil (w : World) : IView w (.slice none 0 0) [] := ⟨none, 0, rfl, fun _ => ⟨rfl, rfl⟩, .inl rfl⟩
theorem IView.below {w w' : World} {v : Value} {l : List I.Q} (h : IView w v l) (hb : Below w.heap.size w w') : IView w' v l := by
  obtain ⟨ad, cap, rfl, hn, h⟩ := h
  refine ⟨ad, cap, rfl, hn, ?_⟩
  rcases h with h | ⟨g, rfl, hc⟩
  · exact .inl h
  · refine .inr ⟨g, rfl, fun k j hk hj => ?_⟩
    have h1 := hc k j hk hj
    have h2 : (I.rows l)[k * 4 + j]? = some ((I.rows l)[k * 4 + j]'(by rw [I.rows_len]; omega)) := List.getElem?_eq_getElem _
    exact (cell_thru hb (h1.trans h2)).trans h2.symm

set_option maxRecDepth 100000 in
set_option maxHeartbeats 8000000 in
theorem same_zero (a1 a2 : Option Addr) (c1 c2 : Nat) (w : World) :
    Calls Tryd.prog 18 #[.slice a1 0 c1, .slice a2 0 c2] w fun e w' => e = .returned (.bool true) ∧ Below w.heap.size w w' := by
  go_enter Tryd.func18, Tryd.ntmps18
  go_wp2
  refine wp_loop_rounds 1 ?_
  rw [rounds_succ]
  go_wp2
  go_ret
  exact ⟨rfl, Below.refl _ _⟩

set_option maxRecDepth 100000 in
set_option maxHeartbeats 8000000 in
theorem same_some (l : List I.Q) (hm : l.length ≤ 9223372036854775000) (g1 g2 c1 c2 : Nat) (w : World) (h1 : ∀ k j, k < l.length → j < 4 → w.cell? ⟨g1, k * 4 + j, none⟩ = (I.rows l)[k * 4 + j]?) (h2 : ∀ k j, k < l.length → j < 4 → w.cell? ⟨g2, k * 4 + j, none⟩ = (I.rows l)[k * 4 + j]?) :
    Calls Tryd.prog 18 #[.slice (some ⟨g1, 0, none⟩) l.length c1, .slice (some ⟨g2, 0, none⟩) l.length c2] w fun e w' => e = .returned (.bool true) ∧ Below w.heap.size w w' := by
  have H1 : Hid (∀ k j, k < l.length → j < 4 → w.cell? ⟨g1, k * 4 + j, none⟩ = (I.rows l)[k * 4 + j]?) := h1
  have H2 : Hid (∀ k j, k < l.length → j < 4 → w.cell? ⟨g2, k * 4 + j, none⟩ = (I.rows l)[k * 4 + j]?) := h2
  clear h1 h2
  go_enter Tryd.func18, Tryd.ntmps18
  go_wp2
  go_loopg [5] l.length (fun r kv wr => ∃ k : Nat, kv = .int .i64 k ∧ k ≤ l.length ∧ l.length - k ≤ r ∧ Below w.heap.size w wr)
  case atStart => exact ⟨0, rfl, Nat.zero_le _, Nat.le_refl _, Below.refl _ _⟩
  case round =>
    obtain ⟨k, rfl, hk, hr, hb⟩ := hrel
    by_cases hlt : k < l.length
    · have e0 : (I.rows l)[k * 4]? = _ := I.rows_at l k hlt 0 (by decide)
      have e1 := I.rows_at l k hlt 1 (by decide)
      have e2 := I.rows_at l k hlt 2 (by decide)
      have e3 := I.rows_at l k hlt 3 (by decide)
      generalize l[k] = q at *
      have a0 : wr.cell? ⟨g1, k * 4, none⟩ = some (.int .i64 q.op) := cell_thru hb ((H1.out k 0 hlt (by decide)).trans e0)
      have a1 : wr.cell? ⟨g1, k * 4 + 1, none⟩ = some (.int .i64 q.a) := cell_thru hb ((H1.out k 1 hlt (by decide)).trans e1)
      have a2 : wr.cell? ⟨g1, k * 4 + 2, none⟩ = some (.int .i64 q.b) := cell_thru hb ((H1.out k 2 hlt (by decide)).trans e2)
      have a3 : wr.cell? ⟨g1, k * 4 + 3, none⟩ = some (.int .i64 q.n) := cell_thru hb ((H1.out k 3 hlt (by decide)).trans e3)
      have b0 : wr.cell? ⟨g2, k * 4, none⟩ = some (.int .i64 q.op) := cell_thru hb ((H2.out k 0 hlt (by decide)).trans e0)
      have b1 : wr.cell? ⟨g2, k * 4 + 1, none⟩ = some (.int .i64 q.a) := cell_thru hb ((H2.out k 1 hlt (by decide)).trans e1)
      have b2 : wr.cell? ⟨g2, k * 4 + 2, none⟩ = some (.int .i64 q.b) := cell_thru hb ((H2.out k 2 hlt (by decide)).trans e2)
      have b3 : wr.cell? ⟨g2, k * 4 + 3, none⟩ = some (.int .i64 q.n) := cell_thru hb ((H2.out k 3 hlt (by decide)).trans e3)
      have sm := I.same_self q.op q.a q.b q.n
      have k0 : (0 : Int) ≤ (k : Int) := by omega
      have k1 : (k : Int) < (l.length : Int) := by omega
      clear e0 e1 e2 e3
      go_wp2_with fail
      go_quiet (fail)
      go_wp2
      go_roundg (l.length - (k + 1))
      case measure => omega
      case rel => exact ⟨k + 1, by first | rfl | (congr 1; omega), by omega, Nat.le_refl _, bl_drewNI hb _⟩
    · obtain rfl : k = l.length := by omega
      go_wp2
      go_ret
      exact ⟨rfl, hb⟩

theorem same_views {w : World} {v1 v2 : Value} {l : List I.Q} (h1 : IView w v1 l) (h2 : IView w v2 l) (hm : l.length ≤ 9223372036854775000) :
    Calls Tryd.prog 18 #[v1, v2] w fun e w' => e = .returned (.bool true) ∧ Below w.heap.size w w' := by
  obtain ⟨a1, c1, rfl, -, h1⟩ := h1
  obtain ⟨a2, c2, rfl, -, h2⟩ := h2
  by_cases h0 : l.length = 0
  · rw [h0]; exact same_zero a1 a2 c1 c2 w
  · rcases h1 with h1 | ⟨g1, rfl, h1⟩
    · exact absurd h1 h0
    · rcases h2 with h2 | ⟨g2, rfl, h2⟩
      · exact absurd h2 h0
      · exact same_some l hm g1 g2 c1 c2 w h1 h2

/-- 'own = append(own, l...)', own nil or the call's own, l a list of instructions. -/
theorem wpList_append_iview (w : World) {ops : Array Oper} {rest : List Oper} {o : Oper} {a : Act} {Q : Exit → Act → World → Prop} (hgd : o.guard = none) (s x : Operand)
    (ho : o.op = .call { callee := .builtin .append, args := #[s, x], argTypes := #[32, 32] })
    (B : Nat) (v : Value) (l1 : List I.Q) (hs : a.eval s = v) (hown : w.ownsRow B 23 4 v l1.length (I.rows l1))
    (xv : Value) (l2 : List I.Q) (hx : a.eval x = xv) (hv : IView w xv l2) (hbytes : (l1.length + l2.length) * 32 ≤ 140737488355328) (hB : B ≤ w.heap.size)
    (h : ∀ v' w', w'.ownsRow B 23 4 v' (l1 ++ l2).length (I.rows (l1 ++ l2)) → w.grownBy w' v.ownBlock → wpList Tryd.prog ops Q rest (a.put o.dst v') w') : wpList Tryd.prog ops Q (o :: rest) a w := by
  obtain ⟨i0, hi, hz0, hz1, hz2⟩ := info_parts infoIns
  obtain ⟨ad, cap, rfl, hn, hv⟩ := hv
  cases ad with
  | none =>
    obtain ⟨h0, rfl⟩ := hn rfl
    obtain rfl : l2 = [] := List.eq_nil_of_length_eq_zero h0
    refine wpList_append_own_none hgd s x 32 ho B 23 i0 4 Tryd.underlying32 hi v l1.length _ hs hown hx ?_
    exact h v w (by simpa using hown) (World.grownBy.refl _ _)
  | some ad =>
    refine wpList_append_own w hgd s x 32 ho B 23 i0 _ 4 32 Tryd.underlying32 hi hz0 hz1 hz2 rfl (by decide) v l1.length _ hs hown ad l2.length cap (I.rows l2) hx (I.rows_len l2) ?_ ?_ (by unfold maxLen; omega) hbytes hB ?_
    · intro j u hu
      have hj : j < (I.rows l2).length := (List.getElem?_eq_some_iff.1 hu).1
      rw [I.rows_len] at hj
      rcases hv with h0 | ⟨g, ha, hc⟩
      · omega
      · obtain rfl := Option.some.inj ha
        rw [Addr.add_lit, Nat.zero_add]
        have := hc (j / 4) (j % 4) (by omega) (by omega)
        rw [show j / 4 * 4 + j % 4 = j by omega] at this
        rw [this, hu]
    · intro u hu
      simp only [I.rows, List.mem_flatMap] at hu
      obtain ⟨q, -, hq⟩ := hu
      exact cs_one q u hq
    · intro v' w' h1 h2 _
      refine h v' w' ?_ h2
      have e : I.rows (l1 ++ l2) = I.rows l1 ++ I.rows l2 := by simp [I.rows]
      rw [e, List.length_append]
      exact h1

/-- Two lists of instructions, one behind the other. -/
theorem I.allI_flat (t : ByteArray) : ∀ (l : List I.Q) (s : ByteArray), (∀ q ∈ l, q.E = 0) → byts s = l.flatMap I.Q.V → I.allI (s ++ t) = (I.allI t).map (l ++ ·)
  | [], s, _, h => by
    have e : s ++ t = t := byts_inj (by rw [byts_append, h]; simp)
    rw [e]
    simp
  | q :: r, s, hE, h => by
    have hbd : ∀ n ∈ r.flatMap I.Q.V, 0 ≤ n ∧ n ≤ 255 := by
      intro n hn
      obtain ⟨x, -, hx⟩ := List.mem_flatMap.1 hn
      exact I.enc_bd n hx
    have h1 := I.allI_flat t r (strOfNums (r.flatMap I.Q.V)) (fun x hx => hE x (List.mem_cons_of_mem _ hx)) (byts_str _ hbd)
    rw [I.allI_enc (hE q List.mem_cons_self) (s ++ t) (strOfNums (r.flatMap I.Q.V) ++ t) (by rw [byts_append, h, byts_append, byts_str _ hbd, List.flatMap_cons, List.append_assoc]; rfl), h1, Option.map_map]
    congr 1
theorem I.allI_app {s t : ByteArray} {l1 l2 : List I.Q} (h1 : I.allI s = some l1) (h2 : I.allI t = some l2) : I.allI (s ++ t) = some (l1 ++ l2) := by
  obtain ⟨e1, e2⟩ := I.allI_some h1
  rw [I.allI_flat t l1 s e1 e2, h2]
  rfl
theorem I.all_len {s : ByteArray} {l : List I.Q} (h : I.allI s = some l) : l.length ≤ s.size := by
  obtain ⟨e1, e2⟩ := I.allI_some h
  rw [← byts_len, e2]
  exact I.flat_len l e1

end Go.Proofs.YtcllbbdkihmpgaaDoor
