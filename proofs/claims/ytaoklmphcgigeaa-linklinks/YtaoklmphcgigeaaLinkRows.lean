/- Lists in rows of their own; append of a whole list, nil or not, onto such a row. -/
import Derived.Test.YtaoklmphcgigeaaLinkBoxes
import Derived.Laws.OwnMore
namespace Go.Proofs.Ytaoklmphcgigeaa
open Go.RowKit Go.Lib
set_option linter.unusedVariables false

def intC (x : Int) : List Value := [.int .i64 x]
def symC (x : Sym) : List Value := [.string x.name, .int .i64 x.kind, .int .i64 x.pos]
def relC (x : Rel) : List Value := [.int .i64 x.pos, .int .i64 x.kind, .string x.name, .int .i64 x.add]
theorem infoI : (Try.prog.info? 2).map (fun i => (i.zero, i.size, i.bytes)) = some (some (.int .i64 0), 1, 8) := by kernel_rfl
theorem infoS : (Try.prog.info? 36).map (fun i => (i.zero, i.size, i.bytes)) = some (some (.agg #[.string { data := #[] }, .int .i64 0, .int .i64 0]), 3, 32) := by kernel_rfl
theorem infoR : (Try.prog.info? 45).map (fun i => (i.zero, i.size, i.bytes)) = some (some (.agg #[.int .i64 0, .int .i64 0, .string { data := #[] }, .int .i64 0]), 4, 40) := by kernel_rfl
theorem flat_at {α : Type} (f : α → List Value) (m : Nat) (d : α) (hm : ∀ x, (f x).length = m) : ∀ (l : List α) (i j : Nat), i < l.length → j < m → (l.flatMap f)[i * m + j]? = (f (l.getD i d))[j]?
  | [], i, j, hi, _ => by simp at hi
  | x :: l, 0, j, hi, hj => by
    rw [List.flatMap_cons, Nat.zero_mul, Nat.zero_add, List.getElem?_append_left (by rw [hm]; exact hj)]
    rfl
  | x :: l, i + 1, j, hi, hj => by
    rw [List.flatMap_cons, List.getElem?_append_right (by rw [hm, Nat.succ_mul]; omega), hm, show (i + 1) * m + j - m = i * m + j by rw [Nat.succ_mul]; omega, flat_at f m d hm l i j (by simpa using hi) hj]
    rfl
theorem row_at {w : World} {B : Nat} {ty : TypeId} {m n : Nat} {v : Value} {α : Type} {f : α → List Value} {l : List α} (d : α) (hm : ∀ x, (f x).length = m) (h : w.ownsRow B ty m v n (l.flatMap f)) (hn : l.length = n) :
    ∃ a c, v = .slice a n c ∧ (a = none → n = 0 ∧ c = 0) ∧ (n = 0 ∨ ∃ b off, a = some ⟨b, off, none⟩ ∧ ∀ i, i < n → ∀ j u, j < m → (f (l.getD i d))[j]? = some u → w.cell? ⟨b, off + i * m + j, none⟩ = some u) := by
  rcases h.2 with ⟨rfl, rfl⟩ | ⟨g, cap, cur, rfl, hb, hh, h1, h2, h3, h4⟩
  · exact ⟨none, 0, rfl, fun _ => ⟨rfl, rfl⟩, .inl rfl⟩
  · refine ⟨_, _, rfl, fun e => (by cases e), .inr ⟨g, 0, rfl, fun i hi j u hj hu => ?_⟩⟩
    have hlt : i * m + j < n * m := by
      have : (i + 1) * m ≤ n * m := Nat.mul_le_mul_right m hi
      rw [Nat.succ_mul] at this
      omega
    rw [Nat.zero_add, h.cellAt _ hlt, flat_at f m d hm l i j (by omega) hj]
    exact hu

/-- append of a whole list, nil or not, onto a row of one's own. -/
theorem run_append_more (w : World) (B : Nat) (t e : TypeId) (i0 : TypeInfo) (z : Value) (size bytes : Nat) (ht : Try.prog.underlying t = some (.slice e)) (hi : Try.prog.info? e = some i0) (hz : i0.zero = some z) (hsize : i0.size = size) (hby : i0.bytes = bytes) (hzs : z.cells.size = size) (hsz : 0 < size)
    {v : Value} {n : Nat} {xs : List Value} (hown : w.ownsRow B e size v n xs) (hB : B ≤ w.heap.size)
    {a : Option Addr} {l c : Nat} {cs : List Value} (hnil : a = none → l = 0 ∧ c = 0) (hlen : cs.length = l * size) (hcells : ∀ ad, a = some ad → ∀ j u, cs[j]? = some u → w.cell? (ad.add j) = some u) (h1 : ∀ u ∈ cs, u.oneCell' = true) (hb : (n + l) * bytes ≤ 140737488355328) (hm : n + l ≤ 140737488355328) (ty : TypeId) :
    ∃ v' w', (Builtin.append_ #[t, t] ty #[v, .slice a l c]).run Try.prog w = .ok v' w' ∧ w'.ownsRow B e size v' (n + l) (xs ++ cs) ∧ w.grownBy w' v.ownBlock ∧ ∀ g, v'.ownBlock = some g → v.ownBlock = some g ∨ w.heap.size ≤ g := by
  cases a with
  | none =>
    obtain ⟨rfl, rfl⟩ := hnil rfl
    obtain rfl : cs = [] := List.eq_nil_of_length_eq_zero (by simpa using hlen)
    exact ⟨_, _, run_append_owned_none (P := Try.prog) w B t ty e i0 size ht hi v n xs hown, by simpa using hown, gb_of_below (Below.refl _ _) _, fun g hg => .inl hg⟩
  | some ad =>
    obtain ⟨v', w', hr, ho, hg, -, h5⟩ := run_append_own_at (P := Try.prog) w B t ty e i0 z size bytes ht hi hz hsize hby hzs hsz v n xs hown ad l c cs hlen (hcells ad rfl) h1 (by unfold maxLen; omega) hb hB
    refine ⟨v', w', hr, ho, hg, fun g hg' => ?_⟩
    rcases h5 with h5 | h5
    · exact .inl (h5 ▸ hg')
    · rw [h5] at hg'
      cases hg'
      exact .inr (Nat.le_refl _)
theorem wpList_append_more {ops : Array Oper} {rest : List Oper} {o : Oper} {ac : Act} {w : World} {Q : Exit → Act → World → Prop} (hgd : o.guard = none) (s x : Operand) (t : TypeId)
    (ho : o.op = .call { callee := .builtin .append, args := #[s, x], argTypes := #[t, t] }) (B : Nat) (e : TypeId) (i0 : TypeInfo) (z : Value) (size bytes : Nat) (ht : Try.prog.underlying t = some (.slice e)) (hi : Try.prog.info? e = some i0) (hz : i0.zero = some z) (hsize : i0.size = size) (hby : i0.bytes = bytes) (hzs : z.cells.size = size) (hsz : 0 < size)
    {v : Value} {n : Nat} {xs : List Value} (hs : ac.eval s = v) (hown : w.ownsRow B e size v n xs) (hB : B ≤ w.heap.size)
    {a : Option Addr} {l c : Nat} {cs : List Value} (hx : ac.eval x = .slice a l c) (hnil : a = none → l = 0 ∧ c = 0) (hlen : cs.length = l * size) (hcells : ∀ ad, a = some ad → ∀ j u, cs[j]? = some u → w.cell? (ad.add j) = some u) (h1 : ∀ u ∈ cs, u.oneCell' = true) (hb : (n + l) * bytes ≤ 140737488355328) (hm : n + l ≤ 140737488355328)
    (hk : ∀ v' w', w'.ownsRow B e size v' (n + l) (xs ++ cs) → w.grownBy w' v.ownBlock → (∀ g, v'.ownBlock = some g → v.ownBlock = some g ∨ w.heap.size ≤ g) → wpList Try.prog ops Q rest (ac.put o.dst v') w') : wpList Try.prog ops Q (o :: rest) ac w := by
  refine wpList_plain hgd fun K hK => ?_
  obtain ⟨v', w', hr, h2, h3, h4⟩ := run_append_more w B t e i0 z size bytes ht hi hz hsize hby hzs hsz hown hB hnil hlen hcells h1 hb hm o.type
  unfold Oper.wp execOp
  simp only [ho, resolve, invoke, builtin, Sem.run_bind, Sem.run_pure, Result.andThen_ok, List.map_toArray, List.map_cons, List.map_nil, hs, hx, hr]
  exact hK _ _ (hk v' w' h2 h3 h4)

theorem flat_cells {α : Type} {w : World} {f : α → List Value} {m : Nat} {l : List α} {d : α} {b off : Nat} (hm : ∀ x, (f x).length = m) (hm0 : 0 < m) (h : ∀ i, i < l.length → ∀ j u, j < m → (f (l.getD i d))[j]? = some u → w.cell? ⟨b, off + i * m + j, none⟩ = some u) : ∀ q u, (l.flatMap f)[q]? = some u → w.cell? ⟨b, off + q, none⟩ = some u := by
  intro q u hu
  have hl : (l.flatMap f).length = l.length * m := by
    clear h hu
    induction l with
    | nil => simp
    | cons x l ih => rw [List.flatMap_cons, List.length_append, hm, ih, List.length_cons, Nat.succ_mul]; omega
  have hq : q < l.length * m := by rw [← hl]; exact (List.getElem?_eq_some_iff.1 hu).1
  have hqd : q / m * m + q % m = q := by rw [Nat.mul_comm]; exact Nat.div_add_mod q m
  have hi : q / m < l.length := Nat.div_lt_of_lt_mul (by rw [Nat.mul_comm]; exact hq)
  have hj : q % m < m := Nat.mod_lt _ hm0
  have h2 := h (q / m) hi (q % m) u hj (by rw [← flat_at f m d hm l _ _ hi hj, hqd]; exact hu)
  rwa [Nat.add_assoc, hqd] at h2
theorem flat_len' {α : Type} {f : α → List Value} {m : Nat} (hm : ∀ x, (f x).length = m) (l : List α) : (l.flatMap f).length = l.length * m := by
  induction l with
  | nil => simp
  | cons x l ih => rw [List.flatMap_cons, List.length_append, hm, ih, List.length_cons, Nat.succ_mul]; omega
/-- Copied lists, as they lie. -/
theorem intsV_own {w : World} {B : Nat} {a : Option Addr} {n c : Nat} {zs : List Int} (hf : ∀ z ∈ zs, (Lit.int .i64 z).wf = true) (hn : zs.length = n) (h : w.ownsRow B 2 1 (.slice a n c) n (zs.flatMap intC)) : IntsV w a n c zs := by
  obtain ⟨a', c', e, n1, k1⟩ := row_at (m := 1) (f := intC) 0 (fun _ => rfl) h hn
  simp at e
  obtain ⟨rfl, rfl⟩ := e
  refine ⟨hn, hf, n1, ?_⟩
  rcases k1 with h0 | ⟨b, off, ha, hk⟩
  · exact .inl h0
  · exact .inr ⟨b, off, ha, fun i hi => by have := hk i hi 0 _ (by decide) rfl; simpa using this⟩
theorem symsV_own {w : World} {B : Nat} {a : Option Addr} {n c : Nat} {zs : List Sym} (hf : ∀ s ∈ zs, s.name.size ≤ maxLen ∧ (Lit.int .i64 s.kind).wf = true ∧ (Lit.int .i64 s.pos).wf = true) (hn : zs.length = n) (h : w.ownsRow B 36 3 (.slice a n c) n (zs.flatMap symC)) : SymsV w a n c zs := by
  obtain ⟨a', c', e, n1, k1⟩ := row_at (m := 3) (f := symC) noSym (fun _ => rfl) h hn
  simp at e
  obtain ⟨rfl, rfl⟩ := e
  refine ⟨hn, hf, n1, ?_⟩
  rcases k1 with h0 | ⟨b, off, ha, hk⟩
  · exact .inl h0
  · exact .inr ⟨b, off, ha, fun i hi => ⟨by have := hk i hi 0 _ (by decide) rfl; simpa using this, hk i hi 1 _ (by decide) rfl, hk i hi 2 _ (by decide) rfl⟩⟩
theorem relsV_own {w : World} {B : Nat} {a : Option Addr} {n c : Nat} {zs : List Rel} (hf : ∀ r ∈ zs, r.name.size ≤ maxLen ∧ (Lit.int .i64 r.kind).wf = true ∧ (Lit.int .i64 r.pos).wf = true ∧ (Lit.int .i64 r.add).wf = true) (hn : zs.length = n) (h : w.ownsRow B 45 4 (.slice a n c) n (zs.flatMap relC)) : RelsV w a n c zs := by
  obtain ⟨a', c', e, n1, k1⟩ := row_at (m := 4) (f := relC) noRel (fun _ => rfl) h hn
  simp at e
  obtain ⟨rfl, rfl⟩ := e
  refine ⟨hn, hf, n1, ?_⟩
  rcases k1 with h0 | ⟨b, off, ha, hk⟩
  · exact .inl h0
  · exact .inr ⟨b, off, ha, fun i hi => ⟨by have := hk i hi 0 _ (by decide) rfl; simpa using this, hk i hi 1 _ (by decide) rfl, hk i hi 2 _ (by decide) rfl, hk i hi 3 _ (by decide) rfl⟩⟩
theorem IntsV.src {w : World} {a : Option Addr} {n c : Nat} {zs : List Int} (h : IntsV w a n c zs) : (zs.flatMap intC).length = n * 1 ∧ (∀ ad, a = some ad → ∀ j u, (zs.flatMap intC)[j]? = some u → w.cell? (ad.add j) = some u) ∧ ∀ u ∈ zs.flatMap intC, u.oneCell' = true := by
  refine ⟨by rw [flat_len' (m := 1) (fun _ => rfl), h.count], fun ad ha j u hu => ?_, fun u hu => ?_⟩
  · rcases h.cells with h0 | ⟨b, off, hA, hc⟩
    · have := (List.getElem?_eq_some_iff.1 hu).1
      rw [flat_len' (m := 1) (fun _ => rfl), h.count, h0] at this
      omega
    · rw [ha] at hA
      cases hA
      rw [Addr.add_lit]
      refine flat_cells (m := 1) (d := 0) (fun _ => rfl) (by decide) (fun i hi j u hj hu => ?_) j u hu
      obtain rfl : j = 0 := by omega
      simp [intC] at hu
      subst hu
      simpa using hc i (by rw [← h.count]; exact hi)
  · obtain ⟨x, -, hx⟩ := List.mem_flatMap.1 hu
    simp [intC] at hx
    subst hx
    rfl
theorem SymsV.src {w : World} {a : Option Addr} {n c : Nat} {zs : List Sym} (h : SymsV w a n c zs) : (zs.flatMap symC).length = n * 3 ∧ (∀ ad, a = some ad → ∀ j u, (zs.flatMap symC)[j]? = some u → w.cell? (ad.add j) = some u) ∧ ∀ u ∈ zs.flatMap symC, u.oneCell' = true := by
  refine ⟨by rw [flat_len' (m := 3) (fun _ => rfl), h.count], fun ad ha j u hu => ?_, fun u hu => ?_⟩
  · rcases h.cells with h0 | ⟨b, off, hA, hc⟩
    · have := (List.getElem?_eq_some_iff.1 hu).1
      rw [flat_len' (m := 3) (fun _ => rfl), h.count, h0] at this
      omega
    · rw [ha] at hA
      cases hA
      rw [Addr.add_lit]
      refine flat_cells (m := 3) (d := noSym) (fun _ => rfl) (by decide) (fun i hi j u hj hu => ?_) j u hu
      obtain ⟨k0, k1, k2⟩ := hc i (by rw [← h.count]; exact hi)
      rcases (show j = 0 ∨ j = 1 ∨ j = 2 by omega) with rfl | rfl | rfl
      · cases hu; exact k0
      · cases hu; exact k1
      · cases hu; exact k2
  · obtain ⟨x, -, hx⟩ := List.mem_flatMap.1 hu
    simp [symC] at hx
    rcases hx with rfl | rfl | rfl <;> rfl
theorem RelsV.src {w : World} {a : Option Addr} {n c : Nat} {zs : List Rel} (h : RelsV w a n c zs) : (zs.flatMap relC).length = n * 4 ∧ (∀ ad, a = some ad → ∀ j u, (zs.flatMap relC)[j]? = some u → w.cell? (ad.add j) = some u) ∧ ∀ u ∈ zs.flatMap relC, u.oneCell' = true := by
  refine ⟨by rw [flat_len' (m := 4) (fun _ => rfl), h.count], fun ad ha j u hu => ?_, fun u hu => ?_⟩
  · rcases h.cells with h0 | ⟨b, off, hA, hc⟩
    · have := (List.getElem?_eq_some_iff.1 hu).1
      rw [flat_len' (m := 4) (fun _ => rfl), h.count, h0] at this
      omega
    · rw [ha] at hA
      cases hA
      rw [Addr.add_lit]
      refine flat_cells (m := 4) (d := noRel) (fun _ => rfl) (by decide) (fun i hi j u hj hu => ?_) j u hu
      obtain ⟨k0, k1, k2, k3⟩ := hc i (by rw [← h.count]; exact hi)
      rcases (show j = 0 ∨ j = 1 ∨ j = 2 ∨ j = 3 by omega) with rfl | rfl | rfl | rfl
      · cases hu; exact k0
      · cases hu; exact k1
      · cases hu; exact k2
      · cases hu; exact k3
  · obtain ⟨x, -, hx⟩ := List.mem_flatMap.1 hu
    simp [relC] at hx
    rcases hx with rfl | rfl | rfl | rfl <;> rfl


/-- The bytes of a block, as a string. -/
theorem cr_conv {w : World} {g : Nat} {l : List UInt8} (h : CR w g l) : (convert 58 9 (.slice (some ⟨g, 0, none⟩) l.length l.length)).run Try.prog w = .ok (.string ⟨l.toArray⟩) w := by
  have hr := run_convert_bytes_arg (P := Try.prog) w 58 5 Try.underlying58 Try.underlying5 g 0 l.length l.length (l.map fun c => (c.toNat : Int)) (by simp) (fun i hi => by
    have hi' : i < l.length := by simpa using hi
    unfold CR at h
    simp [World.cell?, h, byteCells, List.getD, hi']) 9 Try.underlying9
  rw [hr]
  congr 2
  unfold strOfNums
  have e : (List.map ((fun n : Int => UInt8.ofNat n.toNat) ∘ fun c : UInt8 => (c.toNat : Int)) l) = l := by
    apply List.ext_getElem (by simp)
    intro i h1 h2
    simp
  simpa using e
end Go.Proofs.Ytaoklmphcgigeaa
