/- A list of numbers that came in or that the call has made: what is told of it; one appended to another; All of one. -/
import Derived.Test.YtaajgmnhbcadpaaWordGroups
import Derived.Test.YtaajgmnhbcadpaaWordRefPut
import Derived.OpenShut
import Derived.LoopN
import Derived.Laws.AppendOwnNone
namespace Go.Proofs.Ytaajgmnhbcadpaa
open Go.RowKit

theorem infoU : (Try.prog.info? 31).map (fun i => (i.zero, i.size, i.bytes)) = some (some (.int .u64 0), 1, 8) := by kernel_rfl

/-- A slice value, and the numbers that it holds. -/
structure View (w : World) (a : Option Addr) (len cap : Nat) (zs : List Int) : Prop where
  count : zs.length = len
  fits : ∀ n ∈ zs, 0 ≤ n ∧ n ≤ 18446744073709551615
  nilOf : a = none → len = 0 ∧ cap = 0
  cells : len = 0 ∨ ∃ b off, a = some ⟨b, off, none⟩ ∧ ∀ i, i < len → w.cell? ⟨b, off + i, none⟩ = some (.int .u64 (zs.getD i 0))

theorem view_of {w : World} {a : Option Addr} {len cap : Nat} {zs : List Int} (h : (a = none ∧ len = 0 ∧ cap = 0 ∧ zs = []) ∨
    ∃ x, a = some x ∧ len ≤ cap ∧ cap ≤ maxLen ∧ zs.length = cap ∧ (∀ i, i < zs.length → w.cell? (x.add i) = some (.int .u64 (zs.getD i 0))) ∧ ∀ n ∈ zs, (Lit.int .u64 n).wf = true) : View w a len cap (zs.take len) := by
  rcases h with ⟨rfl, rfl, rfl, rfl⟩ | ⟨x, rfl, hl, hm, hz, hc, hf⟩
  · exact ⟨rfl, by simp, fun _ => ⟨rfl, rfl⟩, .inl rfl⟩
  · refine ⟨by simp; omega, ?_, by simp, ?_⟩
    · intro n hn
      have h := hf n (List.mem_of_mem_take hn)
      simp [Lit.wf, IntKind.min, IntKind.max, IntKind.signed, IntKind.bits] at h
      omega
    · by_cases h0 : len = 0
      · exact .inl h0
      · obtain ⟨b, off, rfl, hc'⟩ := ints_at hc (by omega)
        refine .inr ⟨b, off, rfl, fun i hi => ?_⟩
        rw [hc' i (by omega)]
        simp [List.getD, hi]

theorem View.below {w w1 : World} {a : Option Addr} {len cap : Nat} {zs : List Int} (h : View w a len cap zs) (hb : Below w.heap.size w w1) : View w1 a len cap zs := by
  refine ⟨h.count, h.fits, h.nilOf, ?_⟩
  rcases h.cells with h0 | ⟨b, off, ha, hc⟩
  · exact .inl h0
  · refine .inr ⟨b, off, ha, fun i hi => ?_⟩
    have hi' := hc i hi
    exact (hb.cell (p := ⟨b, off + i, none⟩) (World.block_lt_of_cell? w ⟨b, off + i, none⟩ hi')).trans hi'

theorem view_own {w : World} {B n : Nat} {v : Value} {zs : List Int} (hf : ∀ n ∈ zs, 0 ≤ n ∧ n ≤ 18446744073709551615) (h : w.ownsRow B 31 1 v n (zs.map (Value.int .u64))) : ∃ a cap, v = .slice a n cap ∧ View w a n cap zs := by
  have hl : zs.length = n := by simpa using h.1
  rcases h.2 with ⟨rfl, rfl⟩ | ⟨g, cap, cur, rfl, hb, hg, hnc, hcm, hcs, htake⟩
  · exact ⟨none, 0, rfl, hl, hf, fun _ => ⟨rfl, rfl⟩, .inl rfl⟩
  · refine ⟨some ⟨g, 0, none⟩, cap, rfl, hl, hf, by simp, .inr ⟨g, 0, rfl, fun i hi => ?_⟩⟩
    have hc := h.cellAt i (by omega)
    rw [Nat.zero_add, hc]
    simp [List.getD, show i < zs.length by omega]

/-- 'own = append(own, l...)', own nil or the call's own, l any list. -/
theorem wpList_append_view (w : World) {ops : Array Oper} {rest : List Oper} {o : Oper} {a : Act} {Q : Exit → Act → World → Prop} (hgd : o.guard = none) (s x : Operand)
    (ho : o.op = .call { callee := .builtin .append, args := #[s, x], argTypes := #[36, 36] })
    (B : Nat) (v : Value) (n : Nat) (xs : List Int) (hs : a.eval s = v) (hown : w.ownsRow B 31 1 v n (xs.map (Value.int .u64)))
    (ad : Option Addr) (m c : Nat) (zs : List Int) (hx : a.eval x = .slice ad m c) (hv : View w ad m c zs) (hbytes : (n + m) * 8 ≤ 140737488355328) (hB : B ≤ w.heap.size)
    (h : ∀ v' w', w'.ownsRow B 31 1 v' (n + m) ((xs ++ zs).map (Value.int .u64)) → w.grownBy w' v.ownBlock → wpList Try.prog ops Q rest (a.put o.dst v') w') : wpList Try.prog ops Q (o :: rest) a w := by
  obtain ⟨i0, hi, hz0, hz1, hz2⟩ := info_parts infoU
  cases ad with
  | none =>
    obtain ⟨rfl, rfl⟩ := hv.nilOf rfl
    have hz : zs = [] := List.eq_nil_of_length_eq_zero hv.count
    subst hz
    refine wpList_append_own_none hgd s x 36 ho B 31 i0 1 Try.underlying36 hi v n _ hs hown hx ?_
    exact h v w (by simpa using hown) (World.grownBy.refl _ _)
  | some ad =>
    refine wpList_append_own w hgd s x 36 ho B 31 i0 (.int .u64 0) 1 8 Try.underlying36 hi hz0 hz1 hz2 rfl (by decide) v n _ hs hown ad m c (zs.map (Value.int .u64)) hx (by simp [hv.count]) ?_ (ints_oneCell _ _) (by unfold maxLen; omega) hbytes hB ?_
    · intro j u hu
      have hj : j < m := by
        have := (List.getElem?_eq_some_iff.1 hu).1
        simpa [hv.count] using this
      rcases hv.cells with h0 | ⟨b, off, ha, hc⟩
      · omega
      · obtain rfl := Option.some.inj ha
        rw [Addr.add_lit, hc j hj]
        simp [show j < zs.length by have := hv.count; omega] at hu
        rw [← hu]
        simp [List.getD, show j < zs.length by have := hv.count; omega]
    · intro v' w' h1 h2 _
      exact h v' w' (by simpa using h1) h2

set_option maxHeartbeats 400000 in
theorem all_zero (a : Option Addr) (cap : Nat) (w : World) :
    Calls Try.prog 20 #[.slice a 0 cap] w fun e w' => e = .returned (.string (strOfNums [])) ∧ Below w.heap.size w w' := by
  have hcv : (convert 47 9 (.slice none 0 0)).run Try.prog w = .ok (.string (strOfNums [])) w := conv_own (World.ownsRow_nil w 0 _ _)
  go_enter Try.func20, Try.ntmps20
  go_wp2
  refine wp_loop_rounds 1 ?_
  rw [rounds_succ]
  go_wp2
  go_ret
  exact ⟨rfl, Below.refl _ _⟩

set_option maxHeartbeats 400000 in
theorem rall_zero (a : Option Addr) (cap : Nat) (w : World) :
    Calls Try.prog 21 #[.slice a 0 cap] w fun e w' => e = .returned (.string (strOfNums [])) ∧ Below w.heap.size w w' := by
  have hcv : (convert 47 9 (.slice none 0 0)).run Try.prog w = .ok (.string (strOfNums [])) w := conv_own (World.ownsRow_nil w 0 _ _)
  go_enter Try.func21, Try.ntmps21
  go_wp2
  refine wp_loop_rounds 1 ?_
  rw [rounds_succ]
  go_wp2
  go_ret
  exact ⟨rfl, Below.refl _ _⟩

theorem all_view {w : World} {a : Option Addr} {len cap : Nat} {zs : List Int} (h : View w a len cap zs) (hlen : len * 8 ≤ 140737488351232) :
    Calls Try.prog 20 #[.slice a len cap] w fun e w' => e = .returned (.string (strOfNums (W.putAll zs))) ∧ Below w.heap.size w w' := by
  rcases h.cells with h0 | ⟨b, off, rfl, hc⟩
  · have hz : zs = [] := List.eq_nil_of_length_eq_zero (by rw [h.count]; exact h0)
    subst hz
    subst h0
    exact all_zero a cap w
  · exact all_row b off len cap zs h.count h.fits w hc hlen

theorem rall_view {w : World} {a : Option Addr} {len cap : Nat} {zs : List Int} (h : View w a len cap zs) (hlen : len * 8 ≤ 140737488351232) :
    Calls Try.prog 21 #[.slice a len cap] w fun e w' => e = .returned (.string (strOfNums (W.putAll zs))) ∧ Below w.heap.size w w' := by
  rcases h.cells with h0 | ⟨b, off, rfl, hc⟩
  · have hz : zs = [] := List.eq_nil_of_length_eq_zero (by rw [h.count]; exact h0)
    subst hz
    subst h0
    exact rall_zero a cap w
  · exact rall_row b off len cap zs h.count h.fits w hc hlen

end Go.Proofs.Ytaajgmnhbcadpaa
