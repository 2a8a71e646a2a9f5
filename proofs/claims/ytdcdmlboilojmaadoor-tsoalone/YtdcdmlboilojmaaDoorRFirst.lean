/- Stores that leave at once. No walk. -/
import Derived.Test.YtdcdmlboilojmaaDoorQAq
import Derived.Test.YtdcdmlboilojmaaDoorQAu
import Derived.Test.YtdcdmlboilojmaaDoorQAw
namespace Go.Proofs.YtdcdmlboilojmaaDoor
open Go.RowKit
set_option linter.unusedVariables false

namespace T
theorem pk_two (k : Nat) : pk (2 * (k : Int)) = 2 * (k : Int) := by unfold pk; rw [if_neg (by omega)]
theorem pk_two1 (k : Nat) : pk (2 * (k : Int) + 1) = 2 * (k : Int) + 1 := by unfold pk; rw [if_neg (by omega)]
theorem who_two {M : Mach} {k : Nat} (hk : k < M.ts.length) : who M (2 * (k : Int)) = k := by
  unfold who
  rw [pk_two, show 2 * (k : Int) / 2 = k by omega, Int.emod_eq_of_lt (by omega) (by omega)]
  simp
theorem who_two1 {M : Mach} {k : Nat} (hk : k < M.ts.length) : who M (2 * (k : Int) + 1) = k := by
  unfold who
  rw [pk_two1, show (2 * (k : Int) + 1) / 2 = k by omega, Int.emod_eq_of_lt (by omega) (by omega)]
  simp
theorem act_two {M : Mach} {k : Nat} (hk : k < M.ts.length) : act M (2 * (k : Int)) = goOn M k := by
  unfold act
  rw [who_two hk, pk_two, if_pos (by omega)]
theorem act_two1 {M : Mach} {k : Nat} (hk : k < M.ts.length) : act M (2 * (k : Int) + 1) = leave M k := by
  unfold act
  rw [who_two1 hk, pk_two1, if_neg (by omega)]
theorem did_two1 {M : Mach} {k : Nat} (hk : k < M.ts.length) : did M (2 * (k : Int) + 1) = leaves M k := by
  unfold did
  rw [who_two1 hk, pk_two1, if_neg (by omega)]
/-- Nothing waits. -/
def AllE (M : Mach) : Prop := ∀ k, k < M.ts.length → (M.th k).ws = []
theorem th_set {code : ByteArray} {mem : Memo} {ts : List Th} {es : List Ev} {k : Nat} {h : Th} (hk : k < ts.length) (j : Nat) : (Mach.mk code mem (ts.set k h) es).th j = if j = k then h else (Mach.mk code mem ts es).th j := by
  unfold Mach.th
  by_cases e : j = k
  · subst e
    rw [if_pos rfl]
    simp [List.getD, hk]
  · rw [if_neg e]
    simp [List.getD, List.getElem?_set_ne (fun q => e q.symm)]
/-- Behind a step of a machine on which nothing waits. -/
theorem now_step {M : Mach} (hE : AllE M) {k : Nat} (hk : k < M.ts.length) : ((goOn M k).th k).ws.length ≤ 1 ∧ (∀ j, j < M.ts.length → j ≠ k → ((goOn M k).th j).ws = []) ∧ ∀ p, ((goOn M k).th k).ws = [p] → ((goOn M k).mem p.1).isSome = true := by
  by_cases hs : (M.th k).c.st = 0
  · rw [goOn_eq hk hs]
    have h0 := hE k hk
    have hth : (Mach.mk M.code (insMem M k) (M.ts.set k ⟨insC M k, insW M k⟩) (insEs M k ++ endE k (insC M k))).th k = ⟨insC M k, insW M k⟩ := by rw [th_set hk, if_pos rfl]
    rw [hth]
    refine ⟨?_, fun j hj hne => ?_, fun p hp => ?_⟩
    · show (insW M k).length ≤ 1
      rcases insW_eq M k with h1 | h1 | ⟨a, v, -, -, h1⟩
      · rw [h1, h0]; simp
      · rw [h1]; simp
      · rw [h1, h0]; simp
    · rw [th_set hk, if_neg hne]
      exact hE j hj
    · show (insMem M k p.1).isSome = true
      change insW M k = [p] at hp
      rcases insW_eq M k with h1 | h1 | ⟨a, v, hq, hm, h1⟩
      · rw [h1, h0] at hp; cases hp
      · rw [h1] at hp; cases hp
      · rw [h1, h0] at hp
        simp at hp
        subst hp
        unfold insMem
        split
        · unfold ansMem
          rw [hq]
          simp only [if_true]
          show (has (M.mem a) (fullMem M k) M.mem a).isSome = true
          unfold fullMem
          rw [h0]
          cases e : M.mem a with
          | none => rw [e] at hm; cases hm
          | some x => show (M.mem a).isSome = true; rw [e]; rfl
        · exact hm
  · rw [goOn_no hs]
    have h0 := hE k hk
    refine ⟨by rw [h0]; simp, fun j hj _ => hE j hj, fun p hp => by rw [h0] at hp; cases hp⟩
theorem now_leave {M : Mach} {k : Nat} (hk : k < M.ts.length) (h1 : (M.th k).ws.length ≤ 1) (ho : ∀ j, j < M.ts.length → j ≠ k → (M.th j).ws = []) : AllE (leave M k) ∧ (leave M k).ts.length = M.ts.length ∧ ∀ p, (M.th k).ws = [p] → (M.mem p.1).isSome = true → (leave M k).mem p.1 = some p.2 := by
  cases hw : (M.th k).ws with
  | nil =>
    rw [leave_no hw]
    refine ⟨fun j hj => ?_, rfl, fun p hp => by cases hp⟩
    by_cases e : j = k
    · subst e; exact hw
    · exact ho j hj e
  | cons q r =>
    rw [hw] at h1
    have hr : r = [] := by simpa using h1
    subst hr
    rw [leave_eq hw]
    refine ⟨fun j hj => ?_, by simp, fun p hp hs => ?_⟩
    · simp at hj
      rw [th_set hk]
      by_cases e : j = k
      · rw [if_pos e]
      · rw [if_neg e]; exact ho j hj e
    · obtain rfl : q = p := by simpa using hp
      show upd M.mem q.1 q.2 q.1 = some q.2
      unfold upd
      rw [if_pos rfl, if_pos hs]
end T

theorem T.act_len4 {M : T.Mach} (h0 : 0 < M.ts.length) (p : Int) : (T.act M p).es.length ≤ M.es.length + 2 := by
  obtain ⟨-, -, l, h, hl⟩ := T.act_eq h0 p
  rw [h, List.length_append]; omega

end Go.Proofs.YtdcdmlboilojmaaDoor

/- Stores leave in their order. No walk. -/
namespace Go.Proofs.YtdcdmlboilojmaaDoor
open Go.RowKit
set_option linter.unusedVariables false

namespace T
theorem who_one {M : Mach} (h : M.ts.length = 1) (p : Int) : who M p = 0 := by
  unfold who
  rw [h]
  simp [Int.emod_one]
/-- What waits is what waited, less some of the oldest, and one at most more. -/
theorem order_step {M : Mach} (h : M.ts.length = 1) (p : Int) : ∃ k s, k ≤ (M.th 0).ws.length ∧ s.length ≤ 1 ∧ ((act M p).th 0).ws = (M.th 0).ws.drop k ++ s := by
  have hk : 0 < M.ts.length := by omega
  unfold act
  rw [who_one h]
  by_cases e : pk p % 2 = 0
  · rw [if_pos e]
    by_cases hs : (M.th 0).c.st = 0
    · rw [goOn_eq hk hs, th_set hk, if_pos rfl]
      show ∃ k s, _ ∧ _ ∧ insW M 0 = _
      rcases insW_eq M 0 with h1 | h1 | ⟨a, v, -, -, h1⟩
      · exact ⟨0, [], by omega, by simp, by rw [h1]; simp⟩
      · exact ⟨(M.th 0).ws.length, [], Nat.le_refl _, by simp, by rw [h1]; simp⟩
      · by_cases h8 : (M.th 0).ws.length = 8
        · exact ⟨1, [(a, v)], by omega, by simp, by rw [h1, if_pos h8, List.drop_one]⟩
        · exact ⟨0, [(a, v)], by omega, by simp, by rw [h1, if_neg h8]; simp⟩
    · rw [goOn_no hs]
      exact ⟨0, [], by omega, by simp, by simp⟩
  · rw [if_neg e]
    cases hw : (M.th 0).ws with
    | nil => rw [leave_no hw]; exact ⟨0, [], by simp, by simp, by rw [hw]; rfl⟩
    | cons q r =>
      rw [leave_eq hw, th_set hk, if_pos rfl]
      exact ⟨1, [], by simp, by simp, by simp⟩
/-- The stores that waited, less the j oldest, stand ahead of what waits now, and one at most behind them. -/
def ordJ (ws ws1 : List Wait) (j : Nat) : Bool := decide ((ws.drop j).length ≤ ws1.length) && (decide (ws1.length ≤ (ws.drop j).length + 1) && decide (ws1.take (ws.drop j).length = ws.drop j))
theorem ordJ_yes {ws ws1 s : List Wait} {k : Nat} (h : ws1 = ws.drop k ++ s) (hs : s.length ≤ 1) : ordJ ws ws1 k = true := by
  unfold ordJ
  subst h
  rw [List.length_append, List.take_left]
  simp
  omega
end T

end Go.Proofs.YtdcdmlboilojmaaDoor

/- Two lists of waiting stores, held against each other. -/
namespace Go.Proofs.YtdcdmlboilojmaaDoor
open Go.RowKit Go.Maps
set_option linter.unusedVariables false
set_option linter.unusedSimpArgs false

structure WaV (w : World) (a : Option Addr) (n c : Nat) (ws : List T.Wait) : Prop where
  count : ws.length = n
  room : n ≤ c ∧ c ≤ maxLen
  cells : n = 0 ∨ ∃ b off, a = some ⟨b, off, none⟩ ∧ ∀ i, i < n → w.cell? ⟨b, off + i * 2, none⟩ = some (.int .i64 (ws.getD i (0, 0)).1) ∧ w.cell? ⟨b, off + i * 2 + 1, none⟩ = some (.int .i64 (ws.getD i (0, 0)).2)
theorem WaV.below {w w1 : World} {a : Option Addr} {n c : Nat} {ws : List T.Wait} (h : WaV w a n c ws) (hb : Below w.heap.size w w1) : WaV w1 a n c ws := by
  refine ⟨h.count, h.room, ?_⟩
  rcases h.cells with h0 | ⟨b, off, ha, hc⟩
  · exact .inl h0
  · exact .inr ⟨b, off, ha, fun i hi => ⟨cell_up hb (hc i hi).1, cell_up hb (hc i hi).2⟩⟩
theorem wa_own {w : World} {B : Nat} {v : Value} {n : Nat} {ws : List T.Wait} (h : w.ownsRow B 52 2 v n (ws.flatMap wC)) (hn : ws.length = n) : ∃ a c, v = .slice a n c ∧ WaV w a n c ws := by
  obtain ⟨a, c, rfl, h1, h2⟩ := row_at (m := 2) (f := wC) (0, 0) (fun _ => rfl) h hn
  obtain ⟨a', c', e, h3, h4⟩ := own_sl h
  cases e
  refine ⟨a, c, rfl, ⟨hn, ⟨h3, h4⟩, ?_⟩⟩
  rcases h2 with h2 | ⟨b, off, rfl, h2⟩
  · exact .inl h2
  · exact .inr ⟨b, off, rfl, fun i hi => ⟨by have := h2 i hi 0 _ (by decide) rfl; simpa using this, h2 i hi 1 _ (by decide) rfl⟩⟩

theorem WaV.take {w : World} {a : Option Addr} {n c : Nat} {ws : List T.Wait} (h : WaV w a n c ws) (m : Nat) (hm : m ≤ n) : WaV w a m c (ws.take m) := by
  refine ⟨by rw [List.length_take, h.count]; omega, ⟨by have := h.room; omega, h.room.2⟩, ?_⟩
  rcases h.cells with h0 | ⟨b, off, ha, hc⟩
  · exact .inl (by omega)
  · refine .inr ⟨b, off, ha, fun i hi => ?_⟩
    have e : (ws.take m).getD i (0, 0) = ws.getD i (0, 0) := by simp [List.getD, List.getElem?_take, hi]
    rw [e]
    exact hc i (by omega)
theorem WaV.drop {w : World} {g n c : Nat} {ws : List T.Wait} (h : WaV w (some ⟨g, 0, none⟩) n c ws) (j : Nat) (hj : j ≤ n) : WaV w (some ⟨g, j * 2, none⟩) (n - j) (c - j) (ws.drop j) := by
  refine ⟨by rw [List.length_drop, h.count], ⟨by have := h.room; omega, by have := h.room; omega⟩, ?_⟩
  rcases h.cells with h0 | ⟨b, off, ha, hc⟩
  · exact .inl (by omega)
  · cases ha
    refine .inr ⟨g, j * 2, rfl, fun i hi => ?_⟩
    have e : (ws.drop j).getD i (0, 0) = ws.getD (j + i) (0, 0) := by simp [List.getD, List.getElem?_drop]
    rw [e]
    have := hc (j + i) (by omega)
    rw [show 0 + (j + i) * 2 = j * 2 + i * 2 by omega] at this
    exact this
theorem WaV.none' {w : World} {a : Option Addr} {c : Nat} (hc : c ≤ maxLen) : WaV w a 0 c [] := ⟨rfl, ⟨Nat.zero_le _, hc⟩, .inl rfl⟩
theorem eqWt (a b a' b' : Int) (w : World) : (Op.equalIn 10000 52 (.agg #[.int .i64 a, .int .i64 b]) (.agg #[.int .i64 a', .int .i64 b'])).run Tryd.prog w = .ok (decide (a = a' ∧ b = b')) w := by
  by_cases h1 : a = a'
  · subst h1
    by_cases h2 : b = b'
    · subst h2; go_simp
    · go_simp
  · go_simp

set_option maxRecDepth 100000 in
set_option maxHeartbeats 8000000 in
theorem sameW_any {w : World} {a a' : Option Addr} {n c n' c' : Nat} {us vs : List T.Wait} (h1 : WaV w a n c us) (h2 : WaV w a' n' c' vs) :
    Calls Tryd.prog 17 #[.slice a n c, .slice a' n' c'] w fun e w' => e = .returned (.bool (decide (us = vs))) ∧ Below w.heap.size w w' := by
  have hr1 := h1.room
  have hr2 := h2.room
  unfold maxLen at hr1 hr2
  by_cases hnn : n = n'
  · subst hnn
    obtain ⟨rb, hrb⟩ : ∃ rb, decide (us = vs) = rb := ⟨_, rfl⟩
    have HNO : Hid (∀ k, k < n → us.getD k (0, 0) ≠ vs.getD k (0, 0) → rb = false) := fun k hk e => by rw [← hrb]; exact decide_eq_false (fun e2 => e (by rw [e2]))
    have HYE : Hid ((∀ k, k < n → us.getD k (0, 0) = vs.getD k (0, 0)) → rb = true) := fun e => by
      rw [← hrb]
      refine decide_eq_true (List.ext_getElem (h1.count.trans h2.count.symm) fun i hi hj => ?_)
      have := e i (by rw [← h1.count]; exact hi)
      simpa [List.getD, hi, hj] using this
    rw [hrb]
    have HA : Hid _ := h1.cells
    have HA' : Hid _ := h2.cells
    have heq : ∀ (x y x' y' : Int) (w : World), (Op.equalIn 10000 52 (.agg #[.int .i64 x, .int .i64 y]) (.agg #[.int .i64 x', .int .i64 y'])).run Tryd.prog w = .ok (decide (x = x' ∧ y = y')) w := eqWt
    clear h1 h2 hrb
    go_enter Tryd.func17, Tryd.ntmps17
    go_wp2_with fail
    go_loopg [5] n (fun r iv wq => ∃ (k : Nat), iv = .int .i64 k ∧ k ≤ n ∧ n - k ≤ r ∧ Hid (∀ i, i < k → us.getD i (0, 0) = vs.getD i (0, 0)) ∧ Hid (Below w.heap.size w wq))
    case atStart => exact ⟨0, rfl, Nat.zero_le _, by omega, (fun i hi => absurd hi (by omega) : ∀ i, i < 0 → _), Below.refl _ _⟩
    case round =>
      obtain ⟨k, rfl, hk, hr, HE, HB⟩ := hrel
      by_cases hlt : k < n
      · rcases HA.out with h0 | ⟨g, o, hg, hc⟩
        · omega
        rcases HA'.out with h0 | ⟨g', o', hg', hc'⟩
        · omega
        obtain ⟨⟨x, y⟩, hx⟩ : ∃ x, us.getD k (0, 0) = x := ⟨_, rfl⟩
        obtain ⟨⟨x', y'⟩, hx'⟩ : ∃ x, vs.getD k (0, 0) = x := ⟨_, rfl⟩
        have f := hc k hlt
        have f' := hc' k hlt
        rw [hx] at f
        rw [hx'] at f'
        have d0 := cell_up HB.out f.1
        have d1 := cell_up HB.out f.2
        have d0' := cell_up HB.out f'.1
        have d1' := cell_up HB.out f'.2
        simp only at d0 d1 d0' d1'
        have HNK : Hid (¬ (x = x' ∧ y = y') → rb = false) := fun e => HNO.out k hlt (by rw [hx, hx']; intro q; cases q; exact e ⟨rfl, rfl⟩)
        have HEK : Hid (x = x' ∧ y = y' → ∀ i, i < k + 1 → us.getD i (0, 0) = vs.getD i (0, 0)) := fun e i hi => by
          by_cases q : i = k
          · subst q; rw [hx, hx', e.1, e.2]
          · exact HE.out i (by omega)
        cases hg
        cases hg'
        have hii : (k : Int) < n := by omega
        have hin : 0 ≤ (k : Int) := by omega
        have HB2 : Hid (Below w.heap.size w wr.drew) := HB.out.drew
        clear hc hc' f f' hx hx'
        by_cases hxy : x = x' ∧ y = y'
        · have hd : decide (x = x' ∧ y = y') = true := decide_eq_true hxy
          have HE2 : Hid _ := HEK.out hxy
          clear hxy HNK HEK
          go_wp2_with fail
          go_region
          go_wp2
          go_roundg (n - (k + 1))
          · exact ⟨k + 1, rfl, by omega, Nat.le_refl _, HE2, HB2⟩
          · omega
        · have hd : decide (x = x' ∧ y = y') = false := decide_eq_false hxy
          obtain rfl := HNK.out hxy
          clear hxy HNK HEK
          go_wp2_with fail
          go_region
          go_wp2
          go_ret
          exact ⟨rfl, HB2.out⟩
      · obtain rfl : k = n := by omega
        obtain rfl := HYE.out HE.out
        go_wp2
        go_ret
        exact ⟨rfl, HB.out⟩
  · have hd : decide (us = vs) = false := decide_eq_false (fun e => hnn (by rw [← h1.count, ← h2.count, e]))
    rw [hd]
    have hni : ¬ (n : Int) = n' := by omega
    clear h1 h2 hd hnn
    go_enter Tryd.func17, Tryd.ntmps17
    go_wp2
    go_ret
    exact ⟨rfl, Below.refl _ _⟩

end Go.Proofs.YtdcdmlboilojmaaDoor

/- TsoShifted, walked. -/
namespace Go.Proofs.YtdcdmlboilojmaaDoor
open Go.RowKit Go.Maps
set_option linter.unusedVariables false
set_option linter.unusedSimpArgs false

theorem T.didL_snoc : ∀ (l : List Int) (M : T.Mach) (p : Int), T.didL M (l ++ [p]) = T.didL M l ++ (if T.did (T.runs M l) p = true then [p] else [])
  | [], M, p => by
    show T.didL M [p] = [] ++ (if T.did M p = true then [p] else [])
    unfold T.didL
    cases T.did M p <;> rfl
  | q :: l, M, p => by
    rw [List.cons_append]
    unfold T.didL
    rw [T.didL_snoc l (T.act M q) p]
    show _ = _ ++ (if T.did (T.runs (T.act M q) l) p = true then [p] else [])
    cases T.did M q <;> rfl
theorem T.didL_mem : ∀ (l : List Int) (M : T.Mach) (z : Int), z ∈ T.didL M l → z ∈ l
  | [], M, z, h => by simp [T.didL] at h
  | q :: l, M, z, h => by
    unfold T.didL at h
    split at h
    · rcases List.mem_cons.1 h with rfl | h
      · exact List.mem_cons_self
      · exact List.mem_cons_of_mem _ (T.didL_mem l _ z h)
    · exact List.mem_cons_of_mem _ (T.didL_mem l _ z h)
theorem T.didL_len : ∀ (l : List Int) (M : T.Mach), (T.didL M l).length ≤ l.length
  | [], M => by simp [T.didL]
  | q :: l, M => by
    unfold T.didL
    have := T.didL_len l (T.act M q)
    split
    · simp; omega
    · simp; omega

/-- A machine, and a row beside it. -/
def RanR (B : Nat) (X wq : World) (b : Nat) (M : T.Mach) (K : Nat) (bm g cap : Nat) (ty : TypeId) (m : Nat) (v : Value) (n : Nat) (cs : List Value) : Prop := ∃ t ev us, TV B wq b M K t bm g cap ev us ∧ Below B X wq ∧ Tab wq ∧ wq.ownsRow B ty m v n cs ∧ ∀ x, v.ownBlock = some x → t x = 0
section
variable {B : Nat} {X wq y : World} {b : Nat} {M M' : T.Mach} {K K' : Nat} {bm g cap : Nat} {ty : TypeId} {m : Nat} {v : Value} {n : Nat} {cs : List Value} {t : Nat → Nat} {ev : Value} {us : List Value}
theorem RanR.do (h : TV B wq b M K t bm g cap ev us) (hb : Below B X wq) (ht : Tab wq) (hr : wq.ownsRow B ty m v n cs) (hv : ∀ x, v.ownBlock = some x → t x = 0) (h2 : 2 ≤ B) (hg : Gone B wq y b M' K' t bm g cap) : RanR B X y b M' K' bm g cap ty m v n cs := by
  obtain ⟨t', ev', us', h1, hs⟩ := hg
  have hlo : ∀ k, t k ≠ 0 → B ≤ k := fun k hk => (h.lt k hk).1
  refine ⟨t', ev', us', h1, hb.trans (hs.toBelow hlo h.hB), ht.of hs ?_ ?_, row_cong hr (fun x hx => hs.block x (own_lt hr hx) (hv x hx)), fun x hx => (hs.tag x (own_lt hr hx)).trans (hv x hx)⟩
  · exact Classical.byContradiction fun e => by have := hlo 0 e; omega
  · exact Classical.byContradiction fun e => by have := hlo 1 e; omega
theorem RanR.push (h : TV B wq b M K t bm g cap ev us) (hb : Below B X wq) (ht : Tab wq) (h2 : 2 ≤ B) {Z Y : World} {v' : Value} {n' : Nat} {cs' : List Value} (hr : wq.ownsRow B ty m v n cs) (hv : ∀ x, v.ownBlock = some x → t x = 0) (hz : Below wq.heap.size wq Z) (hg : Z.grownBy Y v.ownBlock) (ho : Y.ownsRow B ty m v' n' cs') (hat : ∀ x, v'.ownBlock = some x → v.ownBlock = some x ∨ wq.heap.size ≤ x) : RanR B X Y b M K bm g cap ty m v' n' cs' := by
  have hblk : ∀ k, k < wq.heap.size → t k ≠ 0 → Y.heap[k]? = wq.heap[k]? := fun k hk e => (hg.block k (Nat.lt_of_lt_of_le hk hz.size) (fun e2 => e (hv k e2.symm))).trans (hz.block k hk)
  have hs : wq.heap.size ≤ Y.heap.size := Nat.le_trans hz.size hg.size
  have hbb : Below B wq Y := ⟨hg.os.trans hz.os, hg.tape.trans hz.tape, hg.output.trans hz.output, hs, fun k hk => (hg.block k (Nat.lt_of_lt_of_le (Nat.lt_of_lt_of_le hk h.hB) hz.size) (fun e => by have := (hr.lt k e.symm).1; omega)).trans (hz.block k (Nat.lt_of_lt_of_le hk h.hB))⟩
  refine ⟨t, ev, us, h.keep hblk (fun _ _ _ => rfl) (fun k hk => ⟨(h.lt k hk).1, Nat.lt_of_lt_of_le (h.lt k hk).2 hs⟩), hb.trans hbb, ?_, ho, fun x hx => ?_⟩
  · refine ⟨fun o => (World.cell?_of_block (a := ⟨0, o, none⟩) (hbb.block 0 (by omega))).trans (ht.1 o), fun o => (World.cell?_of_block (a := ⟨1, o, none⟩) (hbb.block 1 (by omega))).trans (ht.2.1 o), Nat.le_trans ht.2.2 hs⟩
  · rcases hat x hx with h1 | h1
    · exact hv x h1
    · exact Classical.byContradiction fun e => by have := (h.lt x e).2; omega
end

set_option maxRecDepth 100000 in
set_option maxHeartbeats 8000000 in
theorem shifted_no {w : World} {v : Value} {m : ImgD} (h : ImgV w v m) (hl : m.syms.length ≤ 8796093022208) (hm : m.may = false) (p : Value) (ht : Tab w) :
    Calls Tryd.prog 7 #[v, p] w fun e w' => e = .returned (.bool true) ∧ Below w.heap.size w w' := by
  obtain ⟨a1, l1, c1, a2, l2, c2, rfl, hs, h1, h2⟩ := h.form
  obtain ⟨W1, hW1⟩ : ∃ W1, w.alloc (.cells #[.string m.code, .slice a1 l1 c1, .slice a2 l2 c2] 25) = W1 := ⟨_, rfl⟩
  have b1 : Below w.heap.size w W1 := by subst hW1; exact bl_one _ _
  have v0 : W1.cell? ⟨w.heap.size, 0, none⟩ = some (.string m.code) := by subst hW1; exact cell_last _ _ _ _ _ rfl rfl
  have v1 : W1.cell? ⟨w.heap.size, 1, none⟩ = some (.slice a1 l1 c1) := by subst hW1; exact cell_last _ _ _ _ _ rfl rfl
  have v2 : W1.cell? ⟨w.heap.size, 2, none⟩ = some (.slice a2 l2 c2) := by subst hW1; exact cell_last _ _ _ _ _ rfl rfl
  have HB1 : Hid (Below w.heap.size w W1) := b1
  have HN : Hid (Calls Tryd.prog 10 #[.agg #[.string m.code, .slice a1 l1 c1, .slice a2 l2 c2]] W1 fun e w' => e = .returned (.tuple #[.pointer none, .int .i64 1]) ∧ Below W1.heap.size W1 w') := tnew_no (h.below b1) hl hm
  have HT : Hid (Tab w) := ht
  clear h h1 h2 hl hm b1 ht
  go_enter Tryd.func7, Tryd.ntmps7
  go_wp2_with fail
  refine HN.out.mono ?_
  rintro e y1 ⟨rfl, hb1⟩
  have HB2 : Hid (Below w.heap.size w y1) := HB1.out.trans (hb1.mono HB1.out.size)
  have HLV : Hid (Calls Tryd.prog 12 #[] y1 fun e w' => e = .returned (.bool true) ∧ Below y1.heap.size y1 w') := live_any y1 (HT.out.below HB2.out)
  clear hb1 v0 v1 v2
  go_wp2_with fail
  refine HLV.out.mono ?_
  rintro e y2 ⟨rfl, hb2⟩
  have HB3 : Hid (Below w.heap.size w y2) := HB2.out.trans (hb2.mono HB2.out.size)
  clear hb2
  go_wp2
  go_ret
  exact ⟨rfl, HB3.out⟩

set_option maxRecDepth 100000 in
set_option maxHeartbeats 8000000 in
theorem shifted_yes {w : World} {v : Value} {m : ImgD} (h : ImgV w v m) (hl : m.syms.length ≤ 8796093022208) (hm : m.may = true) {a : Option Addr} {l c : Nat} {ps0 : List Int} (hp : IntsV w a l c ps0) (ht : Tab w) :
    Calls Tryd.prog 7 #[v, .slice a l c] w fun e w' => e = .returned (.bool true) ∧ Below w.heap.size w w' := by
  obtain ⟨a1, l1, c1, a2, l2, c2, rfl, hs, h1, h2⟩ := h.form
  obtain ⟨i1, hi1, hz10, hz11, hz12⟩ := info_partsL infoN
  obtain ⟨W1, hW1⟩ : ∃ W1, w.alloc (.cells #[.string m.code, .slice a1 l1 c1, .slice a2 l2 c2] 25) = W1 := ⟨_, rfl⟩
  have b1 : Below w.heap.size w W1 := by subst hW1; exact bl_one _ _
  have v0 : W1.cell? ⟨w.heap.size, 0, none⟩ = some (.string m.code) := by subst hW1; exact cell_last _ _ _ _ _ rfl rfl
  have v1 : W1.cell? ⟨w.heap.size, 1, none⟩ = some (.slice a1 l1 c1) := by subst hW1; exact cell_last _ _ _ _ _ rfl rfl
  have v2 : W1.cell? ⟨w.heap.size, 2, none⟩ = some (.slice a2 l2 c2) := by subst hW1; exact cell_last _ _ _ _ _ rfl rfl
  have hwW : w.heap.size < W1.heap.size := World.block_lt_of_cell? W1 ⟨w.heap.size, 0, none⟩ v0
  have HV012 : Hid (∀ y, Below W1.heap.size W1 y → y.cell? ⟨w.heap.size, 0, none⟩ = some (.string m.code) ∧ y.cell? ⟨w.heap.size, 1, none⟩ = some (.slice a1 l1 c1) ∧ y.cell? ⟨w.heap.size, 2, none⟩ = some (.slice a2 l2 c2)) := fun y hy => ⟨cell_up hy v0, cell_up hy v1, cell_up hy v2⟩
  have HB1 : Hid (Below w.heap.size w W1) := b1
  have HI : Hid (ImgV W1 (.agg #[.string m.code, .slice a1 l1 c1, .slice a2 l2 c2]) m) := h.below b1
  have HLS : Hid (m.syms.length ≤ 8796093022208) := hl
  have HMY : Hid (m.may = true) := hm
  have HN : Hid (Calls Tryd.prog 10 #[.agg #[.string m.code, .slice a1 l1 c1, .slice a2 l2 c2]] W1 fun e w' => NewIs W1.heap.size e w' m.mach ∧ Below W1.heap.size W1 w') := tnew_yes (h.below b1) hl hm
  have HP0 : Hid (IntsV W1 a l c ps0) := hp.below b1
  have HT1 : Hid (Tab W1) := ht.below b1
  have HML : Hid (0 < m.mach.ts.length ∧ m.mach.ts.length ≤ 4) := mach_len m hm
  have HMC : Hid (m.mach.code.size ≤ 65536) := mach_code m hm
  have HMO : Hid (MOk m.mach) := mach_ok m
  have HE0 : Hid (m.mach.es = []) := rfl
  have h2B : 2 ≤ W1.heap.size := HT1.out.2.2
  obtain ⟨M0, hM0⟩ : ∃ M0, m.mach = M0 := ⟨_, rfl⟩
  have HM0 : Hid (m.mach = M0) := hM0
  rw [hM0] at HN HML HMC HMO HE0
  clear h h1 h2 hl hm b1 hp ht hM0
  go_enter Tryd.func7, Tryd.ntmps7
  go_wp2_with fail
  refine HN.out.mono ?_
  rintro e y1 ⟨⟨b, t, bm, g, cap, us, rfl, htv⟩, hb1⟩
  have HFW : Hid (Calls Tryd.prog 13 #[.slice a l c, .int .i64 200] y1 fun e w' => (∃ l', e = .returned (.slice a l' c) ∧ IntsV y1 a l' c (ps0.take 200) ∧ l' ≤ 200) ∧ w' = y1) := few_any (HP0.out.below hb1) 200 (by decide)
  have HTV1 : Hid (TV W1.heap.size y1 b M0 0 t bm g cap (.slice none 0 0) us) := htv
  have HBY1 : Hid (Below W1.heap.size W1 y1) := hb1
  clear htv hb1 v0 v1 v2
  go_wp2_with fail
  refine HFW.out.mono ?_
  rintro e y1' ⟨⟨l', rfl, hp', hl'⟩, rfl⟩
  obtain ⟨ps, hps⟩ : ∃ ps, ps0.take 200 = ps := ⟨_, rfl⟩
  rw [hps] at hp'
  have HP : Hid (IntsV y1' a l' c ps) := hp'
  have HL : Hid (ps.length = l') := hp'.count
  have hro := hp'.room
  unfold maxLen at hro
  have HR0 : Hid (RanR W1.heap.size W1 y1' b (T.runs M0 (ps.take 0)) (11 * 0) bm g cap 3 1 (.slice none 0 0) (T.didL M0 (ps.take 0)).length ((T.didL M0 (ps.take 0)).flatMap intC)) := ⟨t, _, us, HTV1.out, HBY1.out, HT1.out.below HBY1.out, World.ownsRow_nil _ _ _ _, fun x hx => by simp [Value.ownBlock] at hx⟩
  have HPC : Hid (∀ wq, Below W1.heap.size W1 wq → l' = 0 ∨ ∃ zb zo, a = some ⟨zb, zo, none⟩ ∧ ∀ i, i < l' → wq.cell? ⟨zb, zo + i, none⟩ = some (.int .i64 (ps.getD i 0))) := fun wq hq => by
    rcases HP0.out.cells with h0 | ⟨zb, zo, hA, hcl⟩
    · left; have := HP0.out.count; have h3 := HL.out; rw [← hps, List.length_take] at h3; omega
    · refine .inr ⟨zb, zo, hA, fun i hi => ?_⟩
      have hc := HL.out
      rw [← hps, List.length_take, HP0.out.count] at hc
      have h4 := cell_up hq (hcl i (by omega))
      rw [h4, ← hps]
      simp [List.getD, List.getElem?_take, show i < 200 by omega]
  clear hp' hps
  go_wp2_with fail
  go_loopg [7, 8] l' (fun r dv iv wq => ∃ (k : Nat), iv = .int .i64 k ∧ k ≤ l' ∧ l' - k ≤ r ∧ Hid (RanR W1.heap.size W1 wq b (T.runs M0 (ps.take k)) (11 * k) bm g cap 3 1 dv (T.didL M0 (ps.take k)).length ((T.didL M0 (ps.take k)).flatMap intC)))
  case atStart => exact ⟨0, rfl, Nat.zero_le _, by omega, HR0⟩
  case round =>
    obtain ⟨k, rfl, hk, hr, HR⟩ := hrel
    obtain ⟨t1, ev1, us1, htv, hbx, htx, hrow, hrt⟩ := HR.out
    have hln := T.runs_len (ps.take k) M0 HML.out.1
    have hcd := T.runs_code (ps.take k) M0 HML.out.1
    obtain ⟨xs, hxs, hxl⟩ := T.runs_es (ps.take k) M0 HML.out.1
    have hes : (T.runs M0 (ps.take k)).es.length ≤ 800000 := by rw [hxs, HE0.out, List.nil_append]; rw [List.length_take] at hxl; omega
    by_cases hlt : k < l'
    · rcases HPC.out wr hbx with h0 | ⟨zb, zo, hA, hcl⟩
      · omega
      have q0 := hcl k hlt
      have hkl : k < ps.length := by rw [HL.out]; exact hlt
      obtain ⟨z, hz⟩ : ∃ z, ps.getD k 0 = z := ⟨_, rfl⟩
      rw [hz] at q0
      have hzf := HP.out.fits z (by rw [← hz]; simp [List.getD, hkl])
      have hpk : ps.take (k + 1) = ps.take k ++ [z] := by
        rw [List.take_succ_eq_append_getElem hkl, ← hz]
        simp [List.getD, hkl]
      have HTK : Hid (T.runs M0 (ps.take (k + 1)) = T.act (T.runs M0 (ps.take k)) z) := by
        show _ = _
        rw [hpk, T.runs_snoc]
      have HDK : Hid (T.didL M0 (ps.take (k + 1)) = T.didL M0 (ps.take k) ++ (if T.did (T.runs M0 (ps.take k)) z = true then [z] else [])) := by
        show _ = _
        rw [hpk, T.didL_snoc]
      have HDO0 := do_any htv (MOk.runs _ HMO.out HML.out.1) (by omega) (by unfold maxLen; omega) htx h2B (by rw [hcd]; exact HMC.out) (by rw [hln]; exact HML.out.2) z hzf
      obtain ⟨dd, hdd⟩ : ∃ dd, T.did (T.runs M0 (ps.take k)) z = dd := ⟨_, rfl⟩
      rw [hdd] at HDO0 HDK
      have HDO : Hid (Calls Tryd.prog 14 #[.pointer (some ⟨b, 0, none⟩), .int .i64 z] wr fun e w' => e = .returned (.bool dd) ∧ Gone W1.heap.size wr w' b (T.act (T.runs M0 (ps.take k)) z) (11 * k + 11) t1 bm g cap) := HDO0
      have HTV : Hid (TV W1.heap.size wr b (T.runs M0 (ps.take k)) (11 * k) t1 bm g cap ev1 us1) := htv
      have HBX : Hid (Below W1.heap.size W1 wr) := hbx
      have HTX : Hid (Tab wr) := htx
      have HRW : Hid (wr.ownsRow W1.heap.size 3 1 u7 (T.didL M0 (ps.take k)).length ((T.didL M0 (ps.take k)).flatMap intC)) := hrow
      have HRT : Hid (∀ x, u7.ownBlock = some x → t1 x = 0) := hrt
      have HDL : Hid ((T.didL M0 (ps.take k)).length ≤ k) := by show _ ≤ _; have := T.didL_len (ps.take k) M0; rw [List.length_take] at this; omega
      subst hA
      have hii : (k : Int) < l' := by omega
      have hin : 0 ≤ (k : Int) := by omega
      clear hcl hz hzf htv hbx htx hln hcd hxs hxl hes hrow hrt HDO0 hdd hpk
      go_wp2_with fail
      refine HDO.out.mono ?_
      rintro e y2 ⟨rfl, hg⟩
      have hR2 := RanR.do HTV.out HBX.out HTX.out HRW.out HRT.out h2B hg
      have q0' : y2.cell? ⟨zb, zo + k, none⟩ = some (.int .i64 z) := by
        obtain ⟨t3, ev3, us3, hv3, hb3, -⟩ := hR2
        rcases HPC.out y2 hb3 with h0 | ⟨zb', zo', hA', hcl'⟩
        · omega
        · cases hA'
          rw [hcl' k hlt]
          rcases HPC.out wr HBX.out with h0 | ⟨zb', zo', hA', hcl''⟩
          · omega
          · cases hA'
            rw [hcl'' k hlt] at q0
            exact q0
      cases dd with
      | false =>
        have HRN : Hid (RanR W1.heap.size W1 y2 b (T.runs M0 (ps.take (k + 1))) (11 * (k + 1)) bm g cap 3 1 u7 (T.didL M0 (ps.take (k + 1))).length ((T.didL M0 (ps.take (k + 1))).flatMap intC)) := by
          show RanR _ _ _ _ _ _ _ _ _ _ _ _ _ _
          rw [HTK.out, HDK.out, if_neg (by decide), List.append_nil]
          exact hR2
        clear hg hR2
        go_wp2
        go_roundg (l' - (k + 1))
        · exact ⟨k + 1, rfl, by omega, Nat.le_refl _, HRN⟩
        · omega
      | true =>
        obtain ⟨t3, ev3, us3, hv3, hb3, ht3, hr3, hx3⟩ := hR2
        obtain ⟨dn, hdn⟩ : ∃ dn, (T.didL M0 (ps.take k)).length = dn := ⟨_, rfl⟩
        have hdl : dn ≤ k := by rw [← hdn]; exact HDL.out
        have HDN : Hid ((T.didL M0 (ps.take k)).length = dn) := hdn
        have HB1' : Hid (Below y2.heap.size y2 (y2.alloc (.cells #[.int .i64 z] 3))) := bl_one _ _
        have HW1 : Hid ((y2.alloc (.cells #[.int .i64 z] 3)).ownsRow W1.heap.size 3 1 u7 dn ((T.didL M0 (ps.take k)).flatMap intC)) := by
          show World.ownsRow _ _ _ _ _ _ _
          rw [← hdn]
          exact own_below hr3 HB1'.out
        have HNC : Hid (∀ j u, (intC z)[j]? = some u → (y2.alloc (.cells #[.int .i64 z] 3)).cell? ((⟨y2.heap.size, 0, none⟩ : Addr).add j) = some u) := fun j u hu => by
          rw [Addr.add_lit, Nat.zero_add]
          exact cell_last _ _ _ _ _ rfl (by simpa [intC] using hu)
        have HV3 : Hid (TV W1.heap.size y2 b (T.act (T.runs M0 (ps.take k)) z) (11 * k + 11) t3 bm g cap ev3 us3) := hv3
        have HB3 : Hid (Below W1.heap.size W1 y2) := hb3
        have HT3 : Hid (Tab y2) := ht3
        have HR3 : Hid (y2.ownsRow W1.heap.size 3 1 u7 dn ((T.didL M0 (ps.take k)).flatMap intC)) := by
          show World.ownsRow _ _ _ _ _ _ _
          rw [← hdn]; exact hr3
        have HX3 : Hid (∀ x, u7.ownBlock = some x → t3 x = 0) := hx3
        have hys : W1.heap.size ≤ y2.heap.size := hb3.size
        clear hg hv3 hb3 ht3 hr3 hx3 hdn
        go_wp2_with (first | (at_builtin; refine wpList_append_lies _ rfl _ _ 26 rfl W1.heap.size 3 i1 _ 1 8 Tryd.underlying26 hi1 hz10 hz11 hz12 rfl (by decide) u7 dn _ rfl HW1.out ⟨y2.heap.size, 0, none⟩ 1 1 (intC z) rfl rfl HNC.out (by intro u hu; simp [intC] at hu; subst hu; rfl) (by decide) (by unfold maxLen; omega) (by omega) (by simp; omega) (y2.heap.size + 1) (by simp) ?_) | go_in)
        intro ga ca Y6 ho6 hg6 hat6 hlt6
        have HRN : Hid (RanR W1.heap.size W1 Y6 b (T.runs M0 (ps.take (k + 1))) (11 * (k + 1)) bm g cap 3 1 (.slice (some ⟨ga, 0, none⟩) (dn + 1) ca) (T.didL M0 (ps.take (k + 1))).length ((T.didL M0 (ps.take (k + 1))).flatMap intC)) := by
          show RanR _ _ _ _ _ _ _ _ _ _ _ _ _ _
          rw [HTK.out, HDK.out, if_pos trivial, List.length_append, HDN.out, List.flatMap_append, show ([z].flatMap intC) = intC z by simp [intC]]
          refine RanR.push HV3.out HB3.out HT3.out h2B HR3.out HX3.out HB1'.out hg6 ho6 (fun x hx => ?_)
          have hx' : ga = x := by simpa [Value.ownBlock] using hx
          rw [← hx']
          exact hat6.imp id (fun e => by omega)
        clear ho6 hg6 hat6 hlt6
        go_wp2
        go_roundg (l' - (k + 1))
        · exact ⟨k + 1, rfl, by omega, Nat.le_refl _, HRN⟩
        · omega
    · obtain rfl : k = l' := by omega
      have hpk : ps.take k = ps := by rw [← HL.out, List.take_length]
      rw [hpk] at htv hes hrow
      obtain ⟨da, dc, rfl, hdv⟩ := ints_own hrow rfl (fun z hz => HP.out.fits z (T.didL_mem ps M0 z hz))
      have hdl := T.didL_len ps M0
      rw [HL.out] at hdl
      obtain ⟨v0, v1, v2⟩ := HV012.out wr hbx
      have hrun := run_yes (HI.out.below hbx) HLS.out HMY.out hdv (by omega) htx
      rw [HM0.out, T.runs_did] at hrun
      obtain ⟨dn, hdn⟩ : ∃ dn, (T.didL M0 ps).length = dn := ⟨_, rfl⟩
      obtain ⟨es, hess⟩ : ∃ es, (T.runs M0 ps).es = es := ⟨_, rfl⟩
      rw [hdn, hess] at hrun
      rw [hdn]
      have HRU : Hid (Calls Tryd.prog 23 #[.agg #[.string m.code, .slice a1 l1 c1, .slice a2 l2 c2], .slice da dn dc] wr fun e w' => RunIs wr.heap.size e w' es ∧ Below wr.heap.size wr w') := hrun
      have HTV : Hid (TV W1.heap.size wr b (T.runs M0 ps) (11 * k) t1 bm g cap ev1 us1) := htv
      have HBX : Hid (Below w.heap.size w wr) := HB1.out.trans (hbx.mono HB1.out.size)
      have HTX : Hid (Tab wr) := htx
      have HES : Hid ((T.runs M0 ps).es = es ∧ es.length ≤ 800000) := ⟨hess, by rw [← hess]; exact hes⟩
      clear htv hbx htx hln hcd hxs hxl hes hrow hrt HR hrun hdv hdn hess hdl hpk
      go_wp2_with fail
      refine HRU.out.mono ?_
      rintro e y2 ⟨⟨va, rfl, hoa⟩, hb2⟩
      have HB2 : Hid (Below w.heap.size w y2) := HBX.out.trans (hb2.mono HBX.out.size)
      have HEV : Hid (Calls Tryd.prog 22 #[.pointer (some ⟨b, 0, none⟩)] y2 fun e w' => RowIs y2.heap.size 81 3 e w' es.length (es.flatMap eC) ∧ Below y2.heap.size y2 w') := by
        have h5 := events_any (HTV.out.below hb2) (by rw [HES.out.1]; have := HES.out.2; omega)
        rw [HES.out.1] at h5
        exact h5
      have HOA : Hid (y2.ownsRow wr.heap.size 81 3 va es.length (es.flatMap eC)) := hoa
      have HTY : Hid (Tab y2) := HTX.out.below hb2
      clear hoa hb2 v0 v1 v2
      go_wp2_with fail
      refine HEV.out.mono ?_
      rintro e y3 ⟨⟨vb, rfl, hob⟩, hb3⟩
      have HB3 : Hid (Below w.heap.size w y3) := HB2.out.trans (hb3.mono HB2.out.size)
      have HSE : Hid (Calls Tryd.prog 21 #[va, vb] y3 fun e w' => e = .returned (.bool true) ∧ Below y3.heap.size y3 w') := sameE_any (own_below HOA.out hb3) hob
      have HTZ : Hid (Tab y3) := HTY.out.below hb3
      clear hob hb3
      go_wp2_with fail
      refine HSE.out.mono ?_
      rintro e y4 ⟨rfl, hb4⟩
      have HB4 : Hid (Below w.heap.size w y4) := HB3.out.trans (hb4.mono HB3.out.size)
      have HLV : Hid (Calls Tryd.prog 12 #[] y4 fun e w' => e = .returned (.bool true) ∧ Below y4.heap.size y4 w') := live_any y4 (HTZ.out.below hb4)
      clear hb4
      go_wp2_with fail
      refine HLV.out.mono ?_
      rintro e y5 ⟨rfl, hb5⟩
      have HB5 : Hid (Below w.heap.size w y5) := HB4.out.trans (hb5.mono HB4.out.size)
      clear hb5
      go_wp2
      go_ret
      exact ⟨rfl, HB5.out⟩

theorem shifted_any {w : World} {v : Value} {m : ImgD} (h : ImgV w v m) (hl : m.syms.length ≤ 8796093022208) {a : Option Addr} {l c : Nat} {ps : List Int} (hp : IntsV w a l c ps) (ht : Tab w) :
    Calls Tryd.prog 7 #[v, .slice a l c] w fun e w' => e = .returned (.bool true) ∧ Below w.heap.size w w' := by
  cases hm : m.may with
  | false => exact shifted_no h hl hm _ ht
  | true => exact shifted_yes h hl hm hp ht

end Go.Proofs.YtdcdmlboilojmaaDoor

/- TsoOrder, walked. (Written by gen_order.py.) -/
namespace Go.Proofs.YtdcdmlboilojmaaDoor
open Go.RowKit Go.Maps
set_option linter.unusedVariables false
set_option linter.unusedSimpArgs false

/-- The first thread's symbol alone. -/
def fstT (ss : List Sym) : List Sym := (ss.filter fun s => decide (s.kind = 3)).take 1
theorem fstT_snoc (ss : List Sym) {k : Nat} (h : k < ss.length) (h0 : fstT (ss.take k) = []) : fstT (ss.take (k + 1)) = if (ss.getD k noSym).kind = 3 then [ss.getD k noSym] else [] := by
  rw [List.take_succ_eq_append_getElem h]
  have e : ss.getD k noSym = ss[k] := by simp [List.getD, h]
  rw [e]
  unfold fstT at *
  rw [List.filter_append]
  have h1 : (ss.take k).filter (fun s => decide (s.kind = 3)) = [] := by
    cases q : (ss.take k).filter (fun s => decide (s.kind = 3)) with
    | nil => rfl
    | cons x y => rw [q] at h0; simp at h0
  rw [h1, List.nil_append]
  by_cases hk : ss[k].kind = 3 <;> simp [hk]
theorem fstT_stay (ss : List Sym) {k : Nat} (h0 : (fstT (ss.take k)).length = 1) : fstT ss = fstT (ss.take k) := by
  have h1 : ss = ss.take k ++ ss.drop k := (List.take_append_drop k ss).symm
  unfold fstT at *
  rw [List.length_take] at h0
  conv => lhs; rw [h1]
  rw [List.filter_append, List.take_append_of_le_length (by omega)]
theorem fstT_len (ss : List Sym) : (fstT ss).length ≤ 1 := by unfold fstT; rw [List.length_take]; omega
theorem fstT_mem {ss : List Sym} {s : Sym} (h : s ∈ fstT ss) : s ∈ ss := (List.mem_filter.1 (List.mem_of_mem_take h)).1
def ImgD.one (m : ImgD) : ImgD := ⟨m.code, m.data, fstT m.syms⟩
theorem one_len (m : ImgD) (hm : m.one.may = true) : m.one.mach.ts.length = 1 := by
  have h1 := (mach_len m.one hm).1
  have h2 : m.one.mach.ts.length = (strt (fstT m.syms)).length := ths0_len _ _
  have h3 := strt_len (fstT m.syms)
  have h4 := fstT_len m.syms
  omega

theorem w_64 (j : Nat) (h : j ≤ 1000) : wrap64 ((j : Int) + 1) = ((j + 1 : Nat) : Int) := by unfold wrap64; omega
theorem w_i64 (a : Nat) (h : a ≤ 1000) : IntKind.i64.wrap ((a : Int) + 1) = (a : Int) + 1 := by rw [IntKind.wrap_i64]; omega
theorem RanR.of {B B' : Nat} {X y wq : World} {b : Nat} {M : T.Mach} {K : Nat} {bm g cap : Nat} {ty : TypeId} {m : Nat} {v : Value} {n : Nat} {cs : List Value} {t : Nat → Nat} {ev : Value} {us : List Value} (h : TV B y b M K t bm g cap ev us) (hb : Below B X y) (ht : Tab y) (hy : Below y.heap.size y wq) (hr : wq.ownsRow B' ty m v n cs) (hB : y.heap.size ≤ B') : RanR B X wq b M K bm g cap ty m v n cs :=
  ⟨t, ev, us, h.below hy, hb.trans (hy.mono h.hB), ht.below hy, own_mono hr (Nat.le_trans h.hB hB), fun x hx => Classical.byContradiction fun e => by have h1 := (h.lt x e).2; have h2 := (hr.lt x hx).1; omega⟩

set_option maxRecDepth 100000 in
set_option maxHeartbeats 16000000 in
theorem order_any {w : World} {v : Value} {m : ImgD} (h : ImgV w v m) {a : Option Addr} {l c : Nat} {ps0 : List Int} (hp : IntsV w a l c ps0) (ht : Tab w) :
    Calls Tryd.prog 6 #[v, .slice a l c] w fun e w' => e = .returned (.bool true) ∧ Below w.heap.size w w' := by
  obtain ⟨a1, l1, c1, a2, l2, c2, rfl, hs, h1, h2⟩ := h.form
  obtain ⟨is', his, hs0, hs1, hs2⟩ := info_partsL infoS
  obtain ⟨W1, hW1⟩ : ∃ W1, w.alloc (.cells #[.string m.code, .slice a1 l1 c1, .slice a2 l2 c2] 25) = W1 := ⟨_, rfl⟩
  have b1 : Below w.heap.size w W1 := by subst hW1; exact bl_one _ _
  have v0 : W1.cell? ⟨w.heap.size, 0, none⟩ = some (.string m.code) := by subst hW1; exact cell_last _ _ _ _ _ rfl rfl
  have v1 : W1.cell? ⟨w.heap.size, 1, none⟩ = some (.slice a1 l1 c1) := by subst hW1; exact cell_last _ _ _ _ _ rfl rfl
  have v2 : W1.cell? ⟨w.heap.size, 2, none⟩ = some (.slice a2 l2 c2) := by subst hW1; exact cell_last _ _ _ _ _ rfl rfl
  have HFZ : Hid (W1.frozen? ⟨w.heap.size, 2, none⟩ = false) := by subst hW1; exact World.frozen?_alloc_at _ _ _ _ rfl
  have hwW : w.heap.size < W1.heap.size := World.block_lt_of_cell? W1 ⟨w.heap.size, 0, none⟩ v0
  have HV012 : Hid (∀ y, Below W1.heap.size W1 y → y.cell? ⟨w.heap.size, 0, none⟩ = some (.string m.code) ∧ y.cell? ⟨w.heap.size, 1, none⟩ = some (.slice a1 l1 c1) ∧ y.cell? ⟨w.heap.size, 2, none⟩ = some (.slice a2 l2 c2) ∧ y.frozen? ⟨w.heap.size, 2, none⟩ = false) := fun y hy => ⟨cell_up hy v0, cell_up hy v1, cell_up hy v2, (hy.frozen (p := ⟨w.heap.size, 2, none⟩) hwW).trans HFZ.out⟩
  have HB1 : Hid (Below w.heap.size w W1) := b1
  have HD : Hid (IntsV w a1 l1 c1 m.data) := h1
  have HSY : Hid (SymsV W1 a2 l2 c2 m.syms) := h2.below b1
  have HSC : Hid (m.syms.length = l2) := h2.count
  have hro2 := h2.room
  have HSF : Hid _ := h2.fits
  have HCS : Hid (m.code.size ≤ maxLen) := hs
  have HT0 : Hid (Tab w) := ht
  have HR00 : Hid (W1.ownsRow W1.heap.size 64 3 (.slice none 0 0) (fstT (m.syms.take 0)).length ((fstT (m.syms.take 0)).flatMap sC)) := World.ownsRow_nil _ _ _ _
  unfold maxLen at hro2
  clear h h1 h2 b1 hs
  have HP0 : Hid (IntsV w a l c ps0) := hp
  clear hp ht
  go_enter Tryd.func6, Tryd.ntmps6
  go_wp2_with fail
  go_loopg [5, 6] l2 (fun r sv iv wq => ∃ (k : Nat), iv = .int .i64 k ∧ k ≤ l2 ∧ l2 - k ≤ r ∧ Hid (wq.ownsRow W1.heap.size 64 3 sv (fstT (m.syms.take k)).length ((fstT (m.syms.take k)).flatMap sC)) ∧ Hid (Below W1.heap.size W1 wq))
  case atStart => exact ⟨0, rfl, Nat.zero_le _, by omega, HR00, Below.refl _ _⟩
  case round =>
    obtain ⟨k, rfl, hk, hr, HRW, HBL⟩ := hrel
    obtain ⟨v0, v1, v2, fz⟩ := HV012.out wr HBL.out
    by_cases hgo : k < l2 ∧ (fstT (m.syms.take k)).length = 0
    · obtain ⟨hlt, hz⟩ := hgo
      have hkl : k < m.syms.length := by rw [HSC.out]; exact hlt
      have hnil : fstT (m.syms.take k) = [] := List.eq_nil_of_length_eq_zero hz
      have hrw0 := HRW.out
      rw [hnil] at hrw0
      obtain ⟨sa, sc, rfl, hnc, hcm⟩ := own_sl hrw0
      have HSN : Hid _ := fstT_snoc m.syms hkl hnil
      rcases (HSY.out.below HBL.out).cells with h0 | ⟨zb, zo, hA, hcl⟩
      · omega
      obtain ⟨q0, q1, q2⟩ := hcl k hlt
      obtain ⟨⟨nm, kd, ps'⟩, hx⟩ : ∃ x, m.syms.getD k noSym = x := ⟨_, rfl⟩
      rw [hx] at q0 q1 q2 HSN
      simp only at q0 q1 q2 HSN
      subst hA
      have hii : (k : Int) < l2 := by omega
      have hin : 0 ≤ (k : Int) := by omega
      simp only [List.length_nil] at hnc hrw0
      have HRZ0 : Hid (wr.ownsRow W1.heap.size 64 3 (.slice sa 0 sc) 0 []) := hrw0
      rw [List.length_nil]
      clear hcl hx hrw0 hnil hz hcm
      by_cases hkd : kd = 3
      · subst hkd
        rw [if_pos rfl] at HSN
        have HB1' : Hid (Below wr.heap.size wr (wr.alloc (.cells #[.string nm, .int .i64 3, .int .i64 ps'] 64))) := bl_one _ _
        have HW1' : Hid ((wr.alloc (.cells #[.string nm, .int .i64 3, .int .i64 ps'] 64)).ownsRow W1.heap.size 64 3 (.slice sa 0 sc) 0 []) := own_below HRZ0.out HB1'.out
        have HNC : Hid (∀ j u, ([.string nm, .int .i64 3, .int .i64 ps'] : List Value)[j]? = some u → (wr.alloc (.cells #[.string nm, .int .i64 3, .int .i64 ps'] 64)).cell? ((⟨wr.heap.size, 0, none⟩ : Addr).add j) = some u) := fun j u hu => by
          rw [Addr.add_lit, Nat.zero_add]
          exact cell_last _ _ _ _ _ rfl (by simpa using hu)
        have hws : W1.heap.size ≤ wr.heap.size := HBL.out.size
        go_wp2_with (first | (at_builtin; refine wpList_append_lies _ rfl _ _ 23 rfl W1.heap.size 64 is' _ 3 32 Tryd.underlying23 his hs0 hs1 hs2 rfl (by decide) (.slice sa 0 sc) 0 _ rfl HW1'.out ⟨wr.heap.size, 0, none⟩ 1 1 [.string nm, .int .i64 3, .int .i64 ps'] rfl rfl HNC.out (by intro u hu; simp at hu; rcases hu with rfl | rfl | rfl <;> rfl) (by decide) (by decide) (by decide) (by simp; omega) (wr.heap.size + 1) (by simp) ?_) | go_in)
        intro x cp Y6 ho6 hg6 hat6 hlt6
        have HRN : Hid (Y6.ownsRow W1.heap.size 64 3 (.slice (some ⟨x, 0, none⟩) 1 cp) (fstT (m.syms.take (k + 1))).length ((fstT (m.syms.take (k + 1))).flatMap sC)) := by
          show World.ownsRow _ _ _ _ _ _ _
          rw [HSN.out]
          exact ho6
        have HBN : Hid (Below W1.heap.size W1 Y6) := below_new (HBL.out.trans (HB1'.out.mono hws)) hg6 (fun q hq => (HW1'.out.lt q hq).1)
        clear ho6 hg6 hat6 hlt6
        go_wp2
        go_roundg (l2 - (k + 1))
        · exact ⟨k + 1, rfl, by omega, Nat.le_refl _, HRN, HBN⟩
        · omega
      · rw [if_neg hkd] at HSN
        have HRN : Hid (wr.ownsRow W1.heap.size 64 3 (.slice sa 0 sc) (fstT (m.syms.take (k + 1))).length ((fstT (m.syms.take (k + 1))).flatMap sC)) := by
          show World.ownsRow _ _ _ _ _ _ _
          rw [HSN.out]
          exact HRZ0.out
        go_wp2
        go_roundg (l2 - (k + 1))
        · exact ⟨k + 1, rfl, by omega, Nat.le_refl _, HRN, HBL⟩
        · omega
    · have hfs : fstT m.syms = fstT (m.syms.take k) := by
        by_cases hlt : k < l2
        · exact fstT_stay m.syms (by have := fstT_len (m.syms.take k); omega)
        · rw [List.take_of_length_le (by rw [HSC.out]; omega)]
      have hrw0 := HRW.out
      rw [← hfs] at hrw0
      obtain ⟨sn, hsn⟩ : ∃ sn, (fstT m.syms).length = sn := ⟨_, rfl⟩
      rw [hsn] at hrw0
      have hsl : sn ≤ 1 := by rw [← hsn]; exact fstT_len _
      have hexit : ¬ (k < l2 ∧ sn = 0) := by rw [← hsn, hfs]; exact hgo
      obtain ⟨sa, sc, rfl, hsv⟩ := syms_own (ss := fstT m.syms) hrw0 hsn (fun s hs => HSF.out s (fstT_mem hs))
      have hscr := hsv.room
      have HROW : Hid (wr.ownsRow W1.heap.size 64 3 (.slice sa sn sc) sn ((fstT m.syms).flatMap sC)) := hrw0
      have HSN : Hid ((fstT m.syms).length = sn) := hsn
      obtain ⟨X, hX⟩ : ∃ X, wr.setCell ⟨w.heap.size, 2, none⟩ (.slice sa sn sc) = X := ⟨_, rfl⟩
      have x0 : X.cell? ⟨w.heap.size, 0, none⟩ = some (.string m.code) := by rw [← hX, World.cell?_setCell_other _ _ _ _ (off_ne (by decide))]; exact v0
      have x1 : X.cell? ⟨w.heap.size, 1, none⟩ = some (.slice a1 l1 c1) := by rw [← hX, World.cell?_setCell_other _ _ _ _ (off_ne (by decide))]; exact v1
      have x2 : X.cell? ⟨w.heap.size, 2, none⟩ = some (.slice sa sn sc) := by rw [← hX]; exact World.cell?_setCell_same' _ _ _ (by rw [v2]; rfl)
      have HBX : Hid (Below w.heap.size w X) := by
        subst hX
        exact (HB1.out.trans (HBL.out.mono HB1.out.size)).setCell (Nat.le_refl _) _
      have HTX : Hid (Tab X) := HT0.out.below HBX.out
      have h2X : 2 ≤ X.heap.size := HTX.out.2.2
      have HIX : Hid (ImgV X (.agg #[.string m.code, .slice a1 l1 c1, .slice sa sn sc]) m.one) := by
        have h5 : X.ownsRow W1.heap.size 64 3 (.slice sa sn sc) sn ((fstT m.syms).flatMap sC) := by
          rw [← hX]
          exact ch1_own HROW.out hwW
        obtain ⟨a', c', e5, h6⟩ := syms_own (ss := fstT m.syms) h5 HSN.out (fun s hs => HSF.out s (fstT_mem hs))
        cases e5
        exact ⟨⟨_, _, _, _, _, _, rfl, HCS.out, HD.out.below HBX.out, h6⟩⟩
      have HLS : Hid (m.one.syms.length ≤ 8796093022208) := by show (fstT m.syms).length ≤ _; rw [HSN.out]; omega
      unfold maxLen at hscr
      by_cases hlt2 : k < l2
      · obtain rfl : sn = 1 := by omega
        have hii : (k : Int) < l2 := by omega
        have hdd : decide ((k : Int) < l2) = true := decide_eq_true hii
        clear hrw0 hsn hfs hsv HRW hgo hexit
        cases hm : m.one.may with
        | false =>
          have HN : Hid (Calls Tryd.prog 10 #[.agg #[.string m.code, .slice a1 l1 c1, .slice sa 1 sc]] X fun e w' => e = .returned (.tuple #[.pointer none, .int .i64 1]) ∧ Below X.heap.size X w') := tnew_no HIX.out HLS.out hm
          clear hm
          go_wp2_with fail
          refine HN.out.mono ?_
          rintro e y1 ⟨rfl, hb1⟩
          have HB2 : Hid (Below w.heap.size w y1) := HBX.out.trans (hb1.mono HBX.out.size)
          have HLV : Hid (Calls Tryd.prog 12 #[] y1 fun e w' => e = .returned (.bool true) ∧ Below y1.heap.size y1 w') := live_any y1 (HTX.out.below hb1)
          clear hb1 x0 x1 x2 v0 v1 v2 fz hX
          go_wp2_with fail
          refine HLV.out.mono ?_
          rintro e y2 ⟨rfl, hb2⟩
          have HB3 : Hid (Below w.heap.size w y2) := HB2.out.trans (hb2.mono HB2.out.size)
          clear hb2
          go_wp2
          go_ret
          exact ⟨rfl, HB3.out⟩
        | true =>
          have HN0 := tnew_yes HIX.out HLS.out hm
          have HML : Hid (m.one.mach.ts.length = 1) := one_len m hm
          have HMC : Hid (m.one.mach.code.size ≤ 65536) := mach_code m.one hm
          have HMO : Hid (MOk m.one.mach) := mach_ok m.one
          have HE0 : Hid (m.one.mach.es = []) := rfl
          have HW0 : Hid ((m.one.mach.th 0).ws = []) := by
            refine ths0_ws (strt m.one.syms) 0 _ ?_
            have : m.one.mach.ts[0]? = some (m.one.mach.th 0) := T.th_at (by rw [HML.out]; decide)
            exact List.mem_of_getElem? this
          obtain ⟨M0, hM0⟩ : ∃ M0, m.one.mach = M0 := ⟨_, rfl⟩
          rw [hM0] at HN0 HML HMC HMO HE0 HW0
          have HN : Hid (Calls Tryd.prog 10 #[.agg #[.string m.code, .slice a1 l1 c1, .slice sa 1 sc]] X fun e w' => NewIs X.heap.size e w' M0 ∧ Below X.heap.size X w') := HN0
          clear hm hM0 HN0
          go_wp2_with fail
          refine HN.out.mono ?_
          rintro e y1 ⟨⟨b, t, bm, g, cap, us, rfl, htv⟩, hb1⟩
          have hby : Below w.heap.size w y1 := HBX.out.trans (hb1.mono HBX.out.size)
          have HFW : Hid (Calls Tryd.prog 13 #[.slice a l c, .int .i64 200] y1 fun e w' => (∃ l', e = .returned (.slice a l' c) ∧ IntsV y1 a l' c (ps0.take 200) ∧ l' ≤ 200) ∧ w' = y1) := few_any (HP0.out.below hby) 200 (by decide)
          have HTV1 : Hid (TV X.heap.size y1 b M0 0 t bm g cap (.slice none 0 0) us) := htv
          have HBY1 : Hid (Below X.heap.size X y1) := hb1
          clear htv hb1 hby x0 x1 x2 v0 v1 v2 fz hX HBL HROW HN HIX HV012
          go_wp2_with fail
          refine HFW.out.mono ?_
          rintro e y1' ⟨⟨l', rfl, hp', hl'⟩, rfl⟩
          obtain ⟨ps, hps⟩ : ∃ ps, ps0.take 200 = ps := ⟨_, rfl⟩
          rw [hps] at hp'
          have HP : Hid (IntsV y1' a l' c ps) := hp'
          have HL : Hid (ps.length = l') := hp'.count
          have hro := hp'.room
          unfold maxLen at hro
          have HR0 : Hid (RanR X.heap.size X y1' b (T.runs M0 (ps.take 0)) (11 * 0) bm g cap 52 2 (.slice none 0 0) ((T.runs M0 (ps.take 0)).th 0).ws.length (((T.runs M0 (ps.take 0)).th 0).ws.flatMap wC)) := by
            refine ⟨t, _, us, HTV1.out, HBY1.out, HTX.out.below HBY1.out, ?_, fun x hx => by simp [Value.ownBlock] at hx⟩
            show World.ownsRow _ _ _ _ _ (M0.th 0).ws.length ((M0.th 0).ws.flatMap wC)
            rw [HW0.out]
            exact World.ownsRow_nil _ _ _ _
          have HPC : Hid (∀ wq, Below X.heap.size X wq → l' = 0 ∨ ∃ zb zo, a = some ⟨zb, zo, none⟩ ∧ ∀ i, i < l' → wq.cell? ⟨zb, zo + i, none⟩ = some (.int .i64 (ps.getD i 0))) := fun wq hq => by
            rcases HP0.out.cells with h0 | ⟨zb, zo, hA, hcl⟩
            · left; have := HP0.out.count; have h3 := HL.out; rw [← hps, List.length_take] at h3; omega
            · refine .inr ⟨zb, zo, hA, fun i hi => ?_⟩
              have hc := HL.out
              rw [← hps, List.length_take, HP0.out.count] at hc
              have h4 := cell_up (HBX.out.trans (hq.mono HBX.out.size)) (hcl i (by omega))
              rw [h4, ← hps]
              simp [List.getD, List.getElem?_take, show i < 200 by omega]
          clear hp' hps
          go_wp2_with fail
          go_loopg [9, 10] l' (fun r wv iv wq => ∃ (k2 : Nat), iv = .int .i64 k2 ∧ k2 ≤ l' ∧ l' - k2 ≤ r ∧ Hid (RanR X.heap.size X wq b (T.runs M0 (ps.take k2)) (11 * k2) bm g cap 52 2 wv ((T.runs M0 (ps.take k2)).th 0).ws.length (((T.runs M0 (ps.take k2)).th 0).ws.flatMap wC)))
          case atStart => exact ⟨0, rfl, Nat.zero_le _, by omega, HR0⟩
          case round =>
            obtain ⟨k2, rfl, hk2, hr2, HR⟩ := hrel
            obtain ⟨t1, ev1, us1, htv, hbx, htx, hrow, hrt⟩ := HR.out
            have hM1 : 0 < M0.ts.length := by rw [HML.out]; decide
            have hln := (T.runs_len (ps.take k2) M0 hM1).trans HML.out
            have hcd := T.runs_code (ps.take k2) M0 hM1
            have hok := MOk.runs (ps.take k2) HMO.out hM1
            obtain ⟨xs, hxs, hxl⟩ := T.runs_es (ps.take k2) M0 hM1
            have hes : (T.runs M0 (ps.take k2)).es.length ≤ 800000 := by rw [hxs, HE0.out, List.nil_append]; rw [List.length_take] at hxl; omega
            by_cases hlt : k2 < l'
            · rcases HPC.out wr hbx with h0 | ⟨zb, zo, hA, hcl⟩
              · omega
              have q0 := hcl k2 hlt
              have hkl : k2 < ps.length := by rw [HL.out]; exact hlt
              obtain ⟨z, hz⟩ : ∃ z, ps.getD k2 0 = z := ⟨_, rfl⟩
              rw [hz] at q0
              have hzf := HP.out.fits z (by rw [← hz]; simp [List.getD, hkl])
              have hpk : ps.take (k2 + 1) = ps.take k2 ++ [z] := by
                rw [List.take_succ_eq_append_getElem hkl, ← hz]
                simp [List.getD, hkl]
              have HTK : Hid (T.runs M0 (ps.take (k2 + 1)) = T.act (T.runs M0 (ps.take k2)) z) := by
                show _ = _
                rw [hpk, T.runs_snoc]
              have hdo := do_any htv hok (by omega) (by unfold maxLen; omega) htx h2X (by rw [hcd]; exact HMC.out) (by omega) z hzf
              obtain ⟨M, hM⟩ : ∃ M, T.runs M0 (ps.take k2) = M := ⟨_, rfl⟩
              rw [hM] at HTK hdo htv hrow hln hok
              obtain ⟨kk, s, hkk, hsl1, hnow⟩ := T.order_step hln z
              have hok1 := hok.act (p := z) (by omega)
              have hln1 := (T.act_len (M := M) (by omega) z).trans hln
              obtain ⟨dd, hdd⟩ : ∃ dd, T.did M z = dd := ⟨_, rfl⟩
              obtain ⟨M1, hM1'⟩ : ∃ M1, T.act M z = M1 := ⟨_, rfl⟩
              rw [hdd, hM1'] at hdo
              rw [hM1'] at hnow hok1 hln1 HTK
              have h80 := (hok1 0 (by omega)).2
              obtain ⟨ws, hws⟩ : ∃ ws, (M.th 0).ws = ws := ⟨_, rfl⟩
              obtain ⟨ws1, hws1⟩ : ∃ ws1, (M1.th 0).ws = ws1 := ⟨_, rfl⟩
              rw [hws] at hnow hkk hrow
              rw [hws1] at hnow h80
              have HOR : Hid (kk ≤ ws.length ∧ s.length ≤ 1 ∧ ws1 = ws.drop kk ++ s) := ⟨hkk, hsl1, hnow⟩
              have HDO : Hid (Calls Tryd.prog 14 #[.pointer (some ⟨b, 0, none⟩), .int .i64 z] wr fun e w' => e = .returned (.bool dd) ∧ Gone X.heap.size wr w' b M1 (11 * k2 + 11) t1 bm g cap) := hdo
              have HTV : Hid (TV X.heap.size wr b M (11 * k2) t1 bm g cap ev1 us1) := htv
              have HBXr : Hid (Below X.heap.size X wr) := hbx
              have HTXr : Hid (Tab wr) := htx
              have HRW2 : Hid (wr.ownsRow X.heap.size 52 2 u9 ws.length (ws.flatMap wC)) := hrow
              have HRT : Hid (∀ x, u9.ownBlock = some x → t1 x = 0) := hrt
              have HLN1 : Hid (M1.ts.length = 1) := hln1
              have HWS1 : Hid ((M1.th 0).ws = ws1) := hws1
              have HW8 : Hid (ws.length ≤ 8) := by show _ ≤ _; rw [← hws]; exact (hok 0 (by omega)).2
              subst hA
              have hii2 : (k2 : Int) < l' := by omega
              have hin2 : 0 ≤ (k2 : Int) := by omega
              clear hcl hz hzf htv hbx htx hln hcd hok hxs hxl hes hrow hrt hdo hdd hpk hM hM1' hnow hok1 hln1 hkk hsl1 hws hws1 HR
              go_wp2_with fail
              refine HDO.out.mono ?_
              rintro e y2 ⟨rfl, hg⟩
              obtain ⟨t2, ev2, us2, hv2, hb2, ht2, hr3, hx2⟩ := RanR.do HTV.out HBXr.out HTXr.out HRW2.out HRT.out h2X hg
              have HTH : Hid (Calls Tryd.prog 16 #[.pointer (some ⟨b, 0, none⟩), .int .i64 0] y2 fun e w' => ThIs y2.heap.size e w' (M1.th 0) ∧ Below y2.heap.size y2 w') := thread_any (k := 0) hv2 (by rw [HLN1.out]; decide) (by rw [HWS1.out]; omega)
              have HV2 : Hid (TV X.heap.size y2 b M1 (11 * k2 + 11) t2 bm g cap ev2 us2) := hv2
              have HB2 : Hid (Below X.heap.size X y2) := hb2
              have HT2 : Hid (Tab y2) := ht2
              have HR3 : Hid (y2.ownsRow X.heap.size 52 2 u9 ws.length (ws.flatMap wC)) := hr3
              clear hg hv2 hb2 ht2 hr3 hx2 q0 HTV HBXr HTXr HRW2 HRT
              go_wp2_with fail
              refine HTH.out.mono ?_
              rintro e y3 ⟨⟨nv, rfl, hon⟩, hb3⟩
              obtain ⟨Y4, hY4⟩ : ∃ Y4, y3.alloc (.cells #[.int .i64 (M1.th 0).c.r0, .int .i64 (M1.th 0).c.r1, .int .i64 (M1.th 0).c.r2, .int .i64 (M1.th 0).c.r3, .int .i64 (M1.th 0).c.r4, .int .i64 (M1.th 0).c.r5, .int .i64 (M1.th 0).c.r6, .int .i64 (M1.th 0).c.r7, .int .i64 (M1.th 0).c.pc, .int .i64 (M1.th 0).c.st, .int .i64 (M1.th 0).c.tr] 44) = Y4 := ⟨_, rfl⟩
              have hb4 : Below y2.heap.size y2 Y4 := by subst hY4; exact hb3.alloc hb3.size _
              have hb34 : Below y3.heap.size y3 Y4 := by subst hY4; exact bl_one _ _
              rw [HWS1.out] at hon
              have hon4 := own_below hon hb34
              have how4 := own_below HR3.out hb4
              obtain ⟨n, hn⟩ : ∃ n, ws.length = n := ⟨_, rfl⟩
              obtain ⟨n1, hn1⟩ : ∃ n1, ws1.length = n1 := ⟨_, rfl⟩
              rw [hn] at how4
              rw [hn1] at hon4 h80
              obtain ⟨na, nc, rfl, hnv⟩ := wa_own hon4 hn1
              obtain ⟨wa, wc, rfl, hwv⟩ := wa_own how4 hn
              have HNV : Hid (WaV Y4 na n1 nc ws1) := hnv
              have HWV : Hid (WaV Y4 wa n wc ws) := hwv
              have hnr := hnv.room
              have hwr := hwv.room
              unfold maxLen at hnr hwr
              have HRN : Hid (∀ wq, Below Y4.heap.size Y4 wq → RanR X.heap.size X wq b M1 (11 * k2 + 11) bm g cap 52 2 (.slice na n1 nc) (M1.th 0).ws.length ((M1.th 0).ws.flatMap wC)) := fun wq hq => by
                rw [HWS1.out, hn1]
                exact RanR.of HV2.out HB2.out HT2.out (hb4.trans (hq.mono hb4.size)) (own_below hon4 hq) (Nat.le_refl _)
              have HNN : Hid (ws.length = n ∧ ws1.length = n1) := ⟨hn, hn1⟩
              have HNIL : Hid (wa = none ∧ n = 0 ∧ wc = 0 ∨ ∃ gw, wa = some ⟨gw, 0, none⟩) := by
                rcases how4.2 with ⟨h0, -⟩ | ⟨gw, c', cur, hsl, -⟩
                · injection h0 with e1 e2 e3
                  exact .inl ⟨e1, e2, e3⟩
                · injection hsl with e1 e2 e3
                  exact .inr ⟨gw, e1⟩
              clear hon hon4 how4 hb3 hb4 hb34 hn hn1 hnv hwv
              have hn8 : ¬ (8 : Int) < n1 := by omega
              have hnw : n ≤ 8 := by have := HNN.out.1; have := HW8.out; omega
              have hw1 : IntKind.i64.wrap ((n : Int) + 1) = (n : Int) + 1 := w_i64 n (by omega)
              go_wp2_with fail
              clear hw1
              go_loopg [13, 14] (n + 1) (fun r gv jv wq => ∃ j : Nat, jv = .int .i64 j ∧ gv = .int .i64 ((n : Int) + 1) ∧ j ≤ n + 1 ∧ n + 1 - j ≤ r ∧ Hid (∀ i, i < j → T.ordJ ws ws1 i = false) ∧ Hid (Below Y4.heap.size Y4 wq))
              case atStart => exact ⟨0, rfl, rfl, by omega, by omega, (fun i hi => absurd hi (by omega) : ∀ i, i < 0 → _), Below.refl _ _⟩
              case round =>
                obtain ⟨j, rfl, rfl, hj, hrj, HJ, HBJ⟩ := hrel
                by_cases hjn : j ≤ n
                · have hdl : (ws.drop j).length = n - j := by rw [List.length_drop, HNN.out.1]
                  have HJN : Hid (T.ordJ ws ws1 j = (decide (n - j ≤ n1) && (decide (n1 ≤ n - j + 1) && decide (ws1.take (n - j) = ws.drop j)))) := by
                    show _ = _
                    unfold T.ordJ
                    rw [hdl, HNN.out.2]
                  have HJS : Hid (T.ordJ ws ws1 j = false → ∀ i, i < j + 1 → T.ordJ ws ws1 i = false) := fun e i hi => by
                    by_cases q : i = j
                    · subst q; exact e
                    · exact HJ.out i (by omega)
                  have hji : (j : Int) ≤ n := by omega
                  have hj0 : (0 : Int) ≤ j := by omega
                  have hjc : (j : Int) ≤ wc := by omega
                  have HWJ : Hid (wrap64 ((j : Int) + 1) = ((j + 1 : Nat) : Int)) := w_64 j (by omega)
                  have HWD : Hid (IntKind.i64.wrap (((n - j : Nat) : Int) + 1) = ((n - j : Nat) : Int) + 1) := w_i64 (n - j) (by omega)
                  rcases HNIL.out with ⟨rfl, rfl, rfl⟩ | ⟨gw, rfl⟩
                  · obtain rfl : j = 0 := by omega
                    by_cases c2 : (n1 : Int) ≤ 1
                    · have HSW : Hid (Calls Tryd.prog 17 #[.slice na 0 nc, .slice none 0 0] wr fun e w' => e = .returned (.bool true) ∧ Below wr.heap.size wr w') := sameW_any (us := []) (vs := []) (WaV.none' hnr.2) (WaV.none' (Nat.zero_le _))
                      have hgl : ¬ (0 : Int) < 0 := by omega
                      have hsc0 : (0 : Int) ≤ nc := by omega
                      go_wp2_with fail
                      refine HSW.out.mono ?_
                      rintro e yj ⟨rfl, hbj⟩
                      have HBN : Hid (Below Y4.heap.size Y4 yj) := HBJ.out.trans (hbj.mono HBJ.out.size)
                      clear hbj
                      have HRN2 : Hid (RanR X.heap.size X yj b (T.runs M0 (ps.take (k2 + 1))) (11 * (k2 + 1)) bm g cap 52 2 (.slice na n1 nc) ((T.runs M0 (ps.take (k2 + 1))).th 0).ws.length (((T.runs M0 (ps.take (k2 + 1))).th 0).ws.flatMap wC)) := by
                        show RanR _ _ _ _ _ _ _ _ _ _ _ _ _ _
                        rw [HTK.out]
                        exact HRN.out yj HBN.out
                      go_wp2
                      go_roundg (l' - (k2 + 1))
                      · exact ⟨k2 + 1, rfl, by omega, Nat.le_refl _, HRN2⟩
                      · omega
                    · have HJ2 : Hid (∀ i, i < 0 + 1 → T.ordJ ws ws1 i = false) := HJS.out (by rw [HJN.out]; simp; omega)
                      have HBN : Hid (Below Y4.heap.size Y4 wr) := HBJ.out
                      go_wp2
                      go_roundg (0 + 1 - (0 + 1))
                      · exact ⟨0 + 1, rfl, rfl, by omega, Nat.le_refl _, HJ2, HBN⟩
                      · omega
                  · by_cases c0 : wc = j
                    · obtain rfl : n = j := by omega
                      subst c0
                      by_cases c2 : (n1 : Int) ≤ 1
                      · have HSW : Hid (Calls Tryd.prog 17 #[.slice na 0 nc, .slice (some ⟨gw, 0, none⟩) 0 0] wr fun e w' => e = .returned (.bool true) ∧ Below wr.heap.size wr w') := sameW_any (us := []) (vs := []) (WaV.none' hnr.2) (WaV.none' (Nat.zero_le _))
                        have hgl : ¬ (wc : Int) < wc := by omega
                        have hsc0 : (0 : Int) ≤ nc := by omega
                        go_wp2_with fail
                        refine HSW.out.mono ?_
                        rintro e yj ⟨rfl, hbj⟩
                        have HBN : Hid (Below Y4.heap.size Y4 yj) := HBJ.out.trans (hbj.mono HBJ.out.size)
                        clear hbj
                        have HRN2 : Hid (RanR X.heap.size X yj b (T.runs M0 (ps.take (k2 + 1))) (11 * (k2 + 1)) bm g cap 52 2 (.slice na n1 nc) ((T.runs M0 (ps.take (k2 + 1))).th 0).ws.length (((T.runs M0 (ps.take (k2 + 1))).th 0).ws.flatMap wC)) := by
                          show RanR _ _ _ _ _ _ _ _ _ _ _ _ _ _
                          rw [HTK.out]
                          exact HRN.out yj HBN.out
                        go_wp2
                        go_roundg (l' - (k2 + 1))
                        · exact ⟨k2 + 1, rfl, by omega, Nat.le_refl _, HRN2⟩
                        · omega
                      · have HJ2 : Hid (∀ i, i < wc + 1 → T.ordJ ws ws1 i = false) := HJS.out (by rw [HJN.out]; simp; omega)
                        have HBN : Hid (Below Y4.heap.size Y4 wr) := HBJ.out
                        go_wp2
                        go_roundg (wc + 1 - (wc + 1))
                        · exact ⟨wc + 1, rfl, rfl, by omega, Nat.le_refl _, HJ2, HBN⟩
                        · omega
                    · by_cases c1 : n ≤ n1 + j
                      · by_cases c2 : (n1 : Int) ≤ ((n - j : Nat) : Int) + 1
                        · have HSW0 := sameW_any ((HNV.out.below HBJ.out).take (n - j) (by omega)) ((HWV.out.below HBJ.out).drop j hjn)
                          obtain ⟨sb, hsb⟩ : ∃ sb, decide (ws1.take (n - j) = ws.drop j) = sb := ⟨_, rfl⟩
                          rw [hsb] at HSW0 HJN
                          have HSW : Hid (Calls Tryd.prog 17 #[.slice na (n - j) nc, .slice (some ⟨gw, j * 2, none⟩) (n - j) (wc - j)] wr fun e w' => e = .returned (.bool sb) ∧ Below wr.heap.size wr w') := HSW0
                          have hsc : ((n - j : Nat) : Int) ≤ nc := by omega
                          have hgl : ¬ (n : Int) < j := by omega
                          clear HSW0 hsb
                          go_wp2_with fail
                          refine HSW.out.mono ?_
                          rintro e yj ⟨rfl, hbj⟩
                          have HBN : Hid (Below Y4.heap.size Y4 yj) := HBJ.out.trans (hbj.mono HBJ.out.size)
                          clear hbj
                          cases sb with
                          | false =>
                            have HJ2 : Hid (∀ i, i < j + 1 → T.ordJ ws ws1 i = false) := HJS.out (by rw [HJN.out]; simp)
                            go_wp2
                            go_roundg (n + 1 - (j + 1))
                            · exact ⟨j + 1, rfl, rfl, by omega, Nat.le_refl _, HJ2, HBN⟩
                            · omega
                          | true =>
                            have HRN2 : Hid (RanR X.heap.size X yj b (T.runs M0 (ps.take (k2 + 1))) (11 * (k2 + 1)) bm g cap 52 2 (.slice na n1 nc) ((T.runs M0 (ps.take (k2 + 1))).th 0).ws.length (((T.runs M0 (ps.take (k2 + 1))).th 0).ws.flatMap wC)) := by
                              show RanR _ _ _ _ _ _ _ _ _ _ _ _ _ _
                              rw [HTK.out]
                              exact HRN.out yj HBN.out
                            go_wp2
                            go_roundg (l' - (k2 + 1))
                            · exact ⟨k2 + 1, rfl, by omega, Nat.le_refl _, HRN2⟩
                            · omega
                        · have HBN : Hid (Below Y4.heap.size Y4 wr) := HBJ.out
                          have HJ2 : Hid (∀ i, i < j + 1 → T.ordJ ws ws1 i = false) := HJS.out (by rw [HJN.out]; simp; omega)
                          go_wp2
                          go_roundg (n + 1 - (j + 1))
                          · exact ⟨j + 1, rfl, rfl, by omega, Nat.le_refl _, HJ2, HBN⟩
                          · omega
                      · have HBN : Hid (Below Y4.heap.size Y4 wr) := HBJ.out
                        have HJ2 : Hid (∀ i, i < j + 1 → T.ordJ ws ws1 i = false) := HJS.out (by rw [HJN.out]; simp; omega)
                        go_wp2
                        go_roundg (n + 1 - (j + 1))
                        · exact ⟨j + 1, rfl, rfl, by omega, Nat.le_refl _, HJ2, HBN⟩
                        · omega
                · exfalso
                  have h1 := HJ.out kk (by have := HOR.out.1; rw [HNN.out.1] at this; omega)
                  rw [T.ordJ_yes HOR.out.2.2 HOR.out.2.1] at h1
                  cases h1
            · obtain rfl : k2 = l' := by omega
              have HBF : Hid (Below w.heap.size w wr) := HBX.out.trans (hbx.mono HBX.out.size)
              have HLV : Hid (Calls Tryd.prog 12 #[] wr fun e w' => e = .returned (.bool true) ∧ Below wr.heap.size wr w') := live_any wr htx
              clear htv hbx htx hrow hrt hln hcd hok hxs hxl hes HR
              go_wp2_with fail
              refine HLV.out.mono ?_
              rintro e y5 ⟨rfl, hb5⟩
              have HB5 : Hid (Below w.heap.size w y5) := HBF.out.trans (hb5.mono HBF.out.size)
              clear hb5
              go_wp2
              go_ret
              exact ⟨rfl, HB5.out⟩
      · have hii : ¬ (k : Int) < l2 := by omega
        have hdd : decide ((k : Int) < l2) = false := decide_eq_false hii
        clear hrw0 hsn hfs hsv HRW hgo hexit
        cases hm : m.one.may with
        | false =>
          have HN : Hid (Calls Tryd.prog 10 #[.agg #[.string m.code, .slice a1 l1 c1, .slice sa sn sc]] X fun e w' => e = .returned (.tuple #[.pointer none, .int .i64 1]) ∧ Below X.heap.size X w') := tnew_no HIX.out HLS.out hm
          clear hm
          go_wp2_with fail
          refine HN.out.mono ?_
          rintro e y1 ⟨rfl, hb1⟩
          have HB2 : Hid (Below w.heap.size w y1) := HBX.out.trans (hb1.mono HBX.out.size)
          have HLV : Hid (Calls Tryd.prog 12 #[] y1 fun e w' => e = .returned (.bool true) ∧ Below y1.heap.size y1 w') := live_any y1 (HTX.out.below hb1)
          clear hb1 x0 x1 x2 v0 v1 v2 fz hX
          go_wp2_with fail
          refine HLV.out.mono ?_
          rintro e y2 ⟨rfl, hb2⟩
          have HB3 : Hid (Below w.heap.size w y2) := HB2.out.trans (hb2.mono HB2.out.size)
          clear hb2
          go_wp2
          go_ret
          exact ⟨rfl, HB3.out⟩
        | true =>
          have HN0 := tnew_yes HIX.out HLS.out hm
          have HML : Hid (m.one.mach.ts.length = 1) := one_len m hm
          have HMC : Hid (m.one.mach.code.size ≤ 65536) := mach_code m.one hm
          have HMO : Hid (MOk m.one.mach) := mach_ok m.one
          have HE0 : Hid (m.one.mach.es = []) := rfl
          have HW0 : Hid ((m.one.mach.th 0).ws = []) := by
            refine ths0_ws (strt m.one.syms) 0 _ ?_
            have : m.one.mach.ts[0]? = some (m.one.mach.th 0) := T.th_at (by rw [HML.out]; decide)
            exact List.mem_of_getElem? this
          obtain ⟨M0, hM0⟩ : ∃ M0, m.one.mach = M0 := ⟨_, rfl⟩
          rw [hM0] at HN0 HML HMC HMO HE0 HW0
          have HN : Hid (Calls Tryd.prog 10 #[.agg #[.string m.code, .slice a1 l1 c1, .slice sa sn sc]] X fun e w' => NewIs X.heap.size e w' M0 ∧ Below X.heap.size X w') := HN0
          clear hm hM0 HN0
          go_wp2_with fail
          refine HN.out.mono ?_
          rintro e y1 ⟨⟨b, t, bm, g, cap, us, rfl, htv⟩, hb1⟩
          have hby : Below w.heap.size w y1 := HBX.out.trans (hb1.mono HBX.out.size)
          have HFW : Hid (Calls Tryd.prog 13 #[.slice a l c, .int .i64 200] y1 fun e w' => (∃ l', e = .returned (.slice a l' c) ∧ IntsV y1 a l' c (ps0.take 200) ∧ l' ≤ 200) ∧ w' = y1) := few_any (HP0.out.below hby) 200 (by decide)
          have HTV1 : Hid (TV X.heap.size y1 b M0 0 t bm g cap (.slice none 0 0) us) := htv
          have HBY1 : Hid (Below X.heap.size X y1) := hb1
          clear htv hb1 hby x0 x1 x2 v0 v1 v2 fz hX HBL HROW HN HIX HV012
          go_wp2_with fail
          refine HFW.out.mono ?_
          rintro e y1' ⟨⟨l', rfl, hp', hl'⟩, rfl⟩
          obtain ⟨ps, hps⟩ : ∃ ps, ps0.take 200 = ps := ⟨_, rfl⟩
          rw [hps] at hp'
          have HP : Hid (IntsV y1' a l' c ps) := hp'
          have HL : Hid (ps.length = l') := hp'.count
          have hro := hp'.room
          unfold maxLen at hro
          have HR0 : Hid (RanR X.heap.size X y1' b (T.runs M0 (ps.take 0)) (11 * 0) bm g cap 52 2 (.slice none 0 0) ((T.runs M0 (ps.take 0)).th 0).ws.length (((T.runs M0 (ps.take 0)).th 0).ws.flatMap wC)) := by
            refine ⟨t, _, us, HTV1.out, HBY1.out, HTX.out.below HBY1.out, ?_, fun x hx => by simp [Value.ownBlock] at hx⟩
            show World.ownsRow _ _ _ _ _ (M0.th 0).ws.length ((M0.th 0).ws.flatMap wC)
            rw [HW0.out]
            exact World.ownsRow_nil _ _ _ _
          have HPC : Hid (∀ wq, Below X.heap.size X wq → l' = 0 ∨ ∃ zb zo, a = some ⟨zb, zo, none⟩ ∧ ∀ i, i < l' → wq.cell? ⟨zb, zo + i, none⟩ = some (.int .i64 (ps.getD i 0))) := fun wq hq => by
            rcases HP0.out.cells with h0 | ⟨zb, zo, hA, hcl⟩
            · left; have := HP0.out.count; have h3 := HL.out; rw [← hps, List.length_take] at h3; omega
            · refine .inr ⟨zb, zo, hA, fun i hi => ?_⟩
              have hc := HL.out
              rw [← hps, List.length_take, HP0.out.count] at hc
              have h4 := cell_up (HBX.out.trans (hq.mono HBX.out.size)) (hcl i (by omega))
              rw [h4, ← hps]
              simp [List.getD, List.getElem?_take, show i < 200 by omega]
          clear hp' hps
          go_wp2_with fail
          go_loopg [9, 10] l' (fun r wv iv wq => ∃ (k2 : Nat), iv = .int .i64 k2 ∧ k2 ≤ l' ∧ l' - k2 ≤ r ∧ Hid (RanR X.heap.size X wq b (T.runs M0 (ps.take k2)) (11 * k2) bm g cap 52 2 wv ((T.runs M0 (ps.take k2)).th 0).ws.length (((T.runs M0 (ps.take k2)).th 0).ws.flatMap wC)))
          case atStart => exact ⟨0, rfl, Nat.zero_le _, by omega, HR0⟩
          case round =>
            obtain ⟨k2, rfl, hk2, hr2, HR⟩ := hrel
            obtain ⟨t1, ev1, us1, htv, hbx, htx, hrow, hrt⟩ := HR.out
            have hM1 : 0 < M0.ts.length := by rw [HML.out]; decide
            have hln := (T.runs_len (ps.take k2) M0 hM1).trans HML.out
            have hcd := T.runs_code (ps.take k2) M0 hM1
            have hok := MOk.runs (ps.take k2) HMO.out hM1
            obtain ⟨xs, hxs, hxl⟩ := T.runs_es (ps.take k2) M0 hM1
            have hes : (T.runs M0 (ps.take k2)).es.length ≤ 800000 := by rw [hxs, HE0.out, List.nil_append]; rw [List.length_take] at hxl; omega
            by_cases hlt : k2 < l'
            · rcases HPC.out wr hbx with h0 | ⟨zb, zo, hA, hcl⟩
              · omega
              have q0 := hcl k2 hlt
              have hkl : k2 < ps.length := by rw [HL.out]; exact hlt
              obtain ⟨z, hz⟩ : ∃ z, ps.getD k2 0 = z := ⟨_, rfl⟩
              rw [hz] at q0
              have hzf := HP.out.fits z (by rw [← hz]; simp [List.getD, hkl])
              have hpk : ps.take (k2 + 1) = ps.take k2 ++ [z] := by
                rw [List.take_succ_eq_append_getElem hkl, ← hz]
                simp [List.getD, hkl]
              have HTK : Hid (T.runs M0 (ps.take (k2 + 1)) = T.act (T.runs M0 (ps.take k2)) z) := by
                show _ = _
                rw [hpk, T.runs_snoc]
              have hdo := do_any htv hok (by omega) (by unfold maxLen; omega) htx h2X (by rw [hcd]; exact HMC.out) (by omega) z hzf
              obtain ⟨M, hM⟩ : ∃ M, T.runs M0 (ps.take k2) = M := ⟨_, rfl⟩
              rw [hM] at HTK hdo htv hrow hln hok
              obtain ⟨kk, s, hkk, hsl1, hnow⟩ := T.order_step hln z
              have hok1 := hok.act (p := z) (by omega)
              have hln1 := (T.act_len (M := M) (by omega) z).trans hln
              obtain ⟨dd, hdd⟩ : ∃ dd, T.did M z = dd := ⟨_, rfl⟩
              obtain ⟨M1, hM1'⟩ : ∃ M1, T.act M z = M1 := ⟨_, rfl⟩
              rw [hdd, hM1'] at hdo
              rw [hM1'] at hnow hok1 hln1 HTK
              have h80 := (hok1 0 (by omega)).2
              obtain ⟨ws, hws⟩ : ∃ ws, (M.th 0).ws = ws := ⟨_, rfl⟩
              obtain ⟨ws1, hws1⟩ : ∃ ws1, (M1.th 0).ws = ws1 := ⟨_, rfl⟩
              rw [hws] at hnow hkk hrow
              rw [hws1] at hnow h80
              have HOR : Hid (kk ≤ ws.length ∧ s.length ≤ 1 ∧ ws1 = ws.drop kk ++ s) := ⟨hkk, hsl1, hnow⟩
              have HDO : Hid (Calls Tryd.prog 14 #[.pointer (some ⟨b, 0, none⟩), .int .i64 z] wr fun e w' => e = .returned (.bool dd) ∧ Gone X.heap.size wr w' b M1 (11 * k2 + 11) t1 bm g cap) := hdo
              have HTV : Hid (TV X.heap.size wr b M (11 * k2) t1 bm g cap ev1 us1) := htv
              have HBXr : Hid (Below X.heap.size X wr) := hbx
              have HTXr : Hid (Tab wr) := htx
              have HRW2 : Hid (wr.ownsRow X.heap.size 52 2 u9 ws.length (ws.flatMap wC)) := hrow
              have HRT : Hid (∀ x, u9.ownBlock = some x → t1 x = 0) := hrt
              have HLN1 : Hid (M1.ts.length = 1) := hln1
              have HWS1 : Hid ((M1.th 0).ws = ws1) := hws1
              have HW8 : Hid (ws.length ≤ 8) := by show _ ≤ _; rw [← hws]; exact (hok 0 (by omega)).2
              subst hA
              have hii2 : (k2 : Int) < l' := by omega
              have hin2 : 0 ≤ (k2 : Int) := by omega
              clear hcl hz hzf htv hbx htx hln hcd hok hxs hxl hes hrow hrt hdo hdd hpk hM hM1' hnow hok1 hln1 hkk hsl1 hws hws1 HR
              go_wp2_with fail
              refine HDO.out.mono ?_
              rintro e y2 ⟨rfl, hg⟩
              obtain ⟨t2, ev2, us2, hv2, hb2, ht2, hr3, hx2⟩ := RanR.do HTV.out HBXr.out HTXr.out HRW2.out HRT.out h2X hg
              have HTH : Hid (Calls Tryd.prog 16 #[.pointer (some ⟨b, 0, none⟩), .int .i64 0] y2 fun e w' => ThIs y2.heap.size e w' (M1.th 0) ∧ Below y2.heap.size y2 w') := thread_any (k := 0) hv2 (by rw [HLN1.out]; decide) (by rw [HWS1.out]; omega)
              have HV2 : Hid (TV X.heap.size y2 b M1 (11 * k2 + 11) t2 bm g cap ev2 us2) := hv2
              have HB2 : Hid (Below X.heap.size X y2) := hb2
              have HT2 : Hid (Tab y2) := ht2
              have HR3 : Hid (y2.ownsRow X.heap.size 52 2 u9 ws.length (ws.flatMap wC)) := hr3
              clear hg hv2 hb2 ht2 hr3 hx2 q0 HTV HBXr HTXr HRW2 HRT
              go_wp2_with fail
              refine HTH.out.mono ?_
              rintro e y3 ⟨⟨nv, rfl, hon⟩, hb3⟩
              obtain ⟨Y4, hY4⟩ : ∃ Y4, y3.alloc (.cells #[.int .i64 (M1.th 0).c.r0, .int .i64 (M1.th 0).c.r1, .int .i64 (M1.th 0).c.r2, .int .i64 (M1.th 0).c.r3, .int .i64 (M1.th 0).c.r4, .int .i64 (M1.th 0).c.r5, .int .i64 (M1.th 0).c.r6, .int .i64 (M1.th 0).c.r7, .int .i64 (M1.th 0).c.pc, .int .i64 (M1.th 0).c.st, .int .i64 (M1.th 0).c.tr] 44) = Y4 := ⟨_, rfl⟩
              have hb4 : Below y2.heap.size y2 Y4 := by subst hY4; exact hb3.alloc hb3.size _
              have hb34 : Below y3.heap.size y3 Y4 := by subst hY4; exact bl_one _ _
              rw [HWS1.out] at hon
              have hon4 := own_below hon hb34
              have how4 := own_below HR3.out hb4
              obtain ⟨n, hn⟩ : ∃ n, ws.length = n := ⟨_, rfl⟩
              obtain ⟨n1, hn1⟩ : ∃ n1, ws1.length = n1 := ⟨_, rfl⟩
              rw [hn] at how4
              rw [hn1] at hon4 h80
              obtain ⟨na, nc, rfl, hnv⟩ := wa_own hon4 hn1
              obtain ⟨wa, wc, rfl, hwv⟩ := wa_own how4 hn
              have HNV : Hid (WaV Y4 na n1 nc ws1) := hnv
              have HWV : Hid (WaV Y4 wa n wc ws) := hwv
              have hnr := hnv.room
              have hwr := hwv.room
              unfold maxLen at hnr hwr
              have HRN : Hid (∀ wq, Below Y4.heap.size Y4 wq → RanR X.heap.size X wq b M1 (11 * k2 + 11) bm g cap 52 2 (.slice na n1 nc) (M1.th 0).ws.length ((M1.th 0).ws.flatMap wC)) := fun wq hq => by
                rw [HWS1.out, hn1]
                exact RanR.of HV2.out HB2.out HT2.out (hb4.trans (hq.mono hb4.size)) (own_below hon4 hq) (Nat.le_refl _)
              have HNN : Hid (ws.length = n ∧ ws1.length = n1) := ⟨hn, hn1⟩
              have HNIL : Hid (wa = none ∧ n = 0 ∧ wc = 0 ∨ ∃ gw, wa = some ⟨gw, 0, none⟩) := by
                rcases how4.2 with ⟨h0, -⟩ | ⟨gw, c', cur, hsl, -⟩
                · injection h0 with e1 e2 e3
                  exact .inl ⟨e1, e2, e3⟩
                · injection hsl with e1 e2 e3
                  exact .inr ⟨gw, e1⟩
              clear hon hon4 how4 hb3 hb4 hb34 hn hn1 hnv hwv
              have hn8 : ¬ (8 : Int) < n1 := by omega
              have hnw : n ≤ 8 := by have := HNN.out.1; have := HW8.out; omega
              have hw1 : IntKind.i64.wrap ((n : Int) + 1) = (n : Int) + 1 := w_i64 n (by omega)
              go_wp2_with fail
              clear hw1
              go_loopg [13, 14] (n + 1) (fun r gv jv wq => ∃ j : Nat, jv = .int .i64 j ∧ gv = .int .i64 ((n : Int) + 1) ∧ j ≤ n + 1 ∧ n + 1 - j ≤ r ∧ Hid (∀ i, i < j → T.ordJ ws ws1 i = false) ∧ Hid (Below Y4.heap.size Y4 wq))
              case atStart => exact ⟨0, rfl, rfl, by omega, by omega, (fun i hi => absurd hi (by omega) : ∀ i, i < 0 → _), Below.refl _ _⟩
              case round =>
                obtain ⟨j, rfl, rfl, hj, hrj, HJ, HBJ⟩ := hrel
                by_cases hjn : j ≤ n
                · have hdl : (ws.drop j).length = n - j := by rw [List.length_drop, HNN.out.1]
                  have HJN : Hid (T.ordJ ws ws1 j = (decide (n - j ≤ n1) && (decide (n1 ≤ n - j + 1) && decide (ws1.take (n - j) = ws.drop j)))) := by
                    show _ = _
                    unfold T.ordJ
                    rw [hdl, HNN.out.2]
                  have HJS : Hid (T.ordJ ws ws1 j = false → ∀ i, i < j + 1 → T.ordJ ws ws1 i = false) := fun e i hi => by
                    by_cases q : i = j
                    · subst q; exact e
                    · exact HJ.out i (by omega)
                  have hji : (j : Int) ≤ n := by omega
                  have hj0 : (0 : Int) ≤ j := by omega
                  have hjc : (j : Int) ≤ wc := by omega
                  have HWJ : Hid (wrap64 ((j : Int) + 1) = ((j + 1 : Nat) : Int)) := w_64 j (by omega)
                  have HWD : Hid (IntKind.i64.wrap (((n - j : Nat) : Int) + 1) = ((n - j : Nat) : Int) + 1) := w_i64 (n - j) (by omega)
                  rcases HNIL.out with ⟨rfl, rfl, rfl⟩ | ⟨gw, rfl⟩
                  · obtain rfl : j = 0 := by omega
                    by_cases c2 : (n1 : Int) ≤ 1
                    · have HSW : Hid (Calls Tryd.prog 17 #[.slice na 0 nc, .slice none 0 0] wr fun e w' => e = .returned (.bool true) ∧ Below wr.heap.size wr w') := sameW_any (us := []) (vs := []) (WaV.none' hnr.2) (WaV.none' (Nat.zero_le _))
                      have hgl : ¬ (0 : Int) < 0 := by omega
                      have hsc0 : (0 : Int) ≤ nc := by omega
                      go_wp2_with fail
                      refine HSW.out.mono ?_
                      rintro e yj ⟨rfl, hbj⟩
                      have HBN : Hid (Below Y4.heap.size Y4 yj) := HBJ.out.trans (hbj.mono HBJ.out.size)
                      clear hbj
                      have HRN2 : Hid (RanR X.heap.size X yj b (T.runs M0 (ps.take (k2 + 1))) (11 * (k2 + 1)) bm g cap 52 2 (.slice na n1 nc) ((T.runs M0 (ps.take (k2 + 1))).th 0).ws.length (((T.runs M0 (ps.take (k2 + 1))).th 0).ws.flatMap wC)) := by
                        show RanR _ _ _ _ _ _ _ _ _ _ _ _ _ _
                        rw [HTK.out]
                        exact HRN.out yj HBN.out
                      go_wp2
                      go_roundg (l' - (k2 + 1))
                      · exact ⟨k2 + 1, rfl, by omega, Nat.le_refl _, HRN2⟩
                      · omega
                    · have HJ2 : Hid (∀ i, i < 0 + 1 → T.ordJ ws ws1 i = false) := HJS.out (by rw [HJN.out]; simp; omega)
                      have HBN : Hid (Below Y4.heap.size Y4 wr) := HBJ.out
                      go_wp2
                      go_roundg (0 + 1 - (0 + 1))
                      · exact ⟨0 + 1, rfl, rfl, by omega, Nat.le_refl _, HJ2, HBN⟩
                      · omega
                  · by_cases c0 : wc = j
                    · obtain rfl : n = j := by omega
                      subst c0
                      by_cases c2 : (n1 : Int) ≤ 1
                      · have HSW : Hid (Calls Tryd.prog 17 #[.slice na 0 nc, .slice (some ⟨gw, 0, none⟩) 0 0] wr fun e w' => e = .returned (.bool true) ∧ Below wr.heap.size wr w') := sameW_any (us := []) (vs := []) (WaV.none' hnr.2) (WaV.none' (Nat.zero_le _))
                        have hgl : ¬ (wc : Int) < wc := by omega
                        have hsc0 : (0 : Int) ≤ nc := by omega
                        go_wp2_with fail
                        refine HSW.out.mono ?_
                        rintro e yj ⟨rfl, hbj⟩
                        have HBN : Hid (Below Y4.heap.size Y4 yj) := HBJ.out.trans (hbj.mono HBJ.out.size)
                        clear hbj
                        have HRN2 : Hid (RanR X.heap.size X yj b (T.runs M0 (ps.take (k2 + 1))) (11 * (k2 + 1)) bm g cap 52 2 (.slice na n1 nc) ((T.runs M0 (ps.take (k2 + 1))).th 0).ws.length (((T.runs M0 (ps.take (k2 + 1))).th 0).ws.flatMap wC)) := by
                          show RanR _ _ _ _ _ _ _ _ _ _ _ _ _ _
                          rw [HTK.out]
                          exact HRN.out yj HBN.out
                        go_wp2
                        go_roundg (l' - (k2 + 1))
                        · exact ⟨k2 + 1, rfl, by omega, Nat.le_refl _, HRN2⟩
                        · omega
                      · have HJ2 : Hid (∀ i, i < wc + 1 → T.ordJ ws ws1 i = false) := HJS.out (by rw [HJN.out]; simp; omega)
                        have HBN : Hid (Below Y4.heap.size Y4 wr) := HBJ.out
                        go_wp2
                        go_roundg (wc + 1 - (wc + 1))
                        · exact ⟨wc + 1, rfl, rfl, by omega, Nat.le_refl _, HJ2, HBN⟩
                        · omega
                    · by_cases c1 : n ≤ n1 + j
                      · by_cases c2 : (n1 : Int) ≤ ((n - j : Nat) : Int) + 1
                        · have HSW0 := sameW_any ((HNV.out.below HBJ.out).take (n - j) (by omega)) ((HWV.out.below HBJ.out).drop j hjn)
                          obtain ⟨sb, hsb⟩ : ∃ sb, decide (ws1.take (n - j) = ws.drop j) = sb := ⟨_, rfl⟩
                          rw [hsb] at HSW0 HJN
                          have HSW : Hid (Calls Tryd.prog 17 #[.slice na (n - j) nc, .slice (some ⟨gw, j * 2, none⟩) (n - j) (wc - j)] wr fun e w' => e = .returned (.bool sb) ∧ Below wr.heap.size wr w') := HSW0
                          have hsc : ((n - j : Nat) : Int) ≤ nc := by omega
                          have hgl : ¬ (n : Int) < j := by omega
                          clear HSW0 hsb
                          go_wp2_with fail
                          refine HSW.out.mono ?_
                          rintro e yj ⟨rfl, hbj⟩
                          have HBN : Hid (Below Y4.heap.size Y4 yj) := HBJ.out.trans (hbj.mono HBJ.out.size)
                          clear hbj
                          cases sb with
                          | false =>
                            have HJ2 : Hid (∀ i, i < j + 1 → T.ordJ ws ws1 i = false) := HJS.out (by rw [HJN.out]; simp)
                            go_wp2
                            go_roundg (n + 1 - (j + 1))
                            · exact ⟨j + 1, rfl, rfl, by omega, Nat.le_refl _, HJ2, HBN⟩
                            · omega
                          | true =>
                            have HRN2 : Hid (RanR X.heap.size X yj b (T.runs M0 (ps.take (k2 + 1))) (11 * (k2 + 1)) bm g cap 52 2 (.slice na n1 nc) ((T.runs M0 (ps.take (k2 + 1))).th 0).ws.length (((T.runs M0 (ps.take (k2 + 1))).th 0).ws.flatMap wC)) := by
                              show RanR _ _ _ _ _ _ _ _ _ _ _ _ _ _
                              rw [HTK.out]
                              exact HRN.out yj HBN.out
                            go_wp2
                            go_roundg (l' - (k2 + 1))
                            · exact ⟨k2 + 1, rfl, by omega, Nat.le_refl _, HRN2⟩
                            · omega
                        · have HBN : Hid (Below Y4.heap.size Y4 wr) := HBJ.out
                          have HJ2 : Hid (∀ i, i < j + 1 → T.ordJ ws ws1 i = false) := HJS.out (by rw [HJN.out]; simp; omega)
                          go_wp2
                          go_roundg (n + 1 - (j + 1))
                          · exact ⟨j + 1, rfl, rfl, by omega, Nat.le_refl _, HJ2, HBN⟩
                          · omega
                      · have HBN : Hid (Below Y4.heap.size Y4 wr) := HBJ.out
                        have HJ2 : Hid (∀ i, i < j + 1 → T.ordJ ws ws1 i = false) := HJS.out (by rw [HJN.out]; simp; omega)
                        go_wp2
                        go_roundg (n + 1 - (j + 1))
                        · exact ⟨j + 1, rfl, rfl, by omega, Nat.le_refl _, HJ2, HBN⟩
                        · omega
                · exfalso
                  have h1 := HJ.out kk (by have := HOR.out.1; rw [HNN.out.1] at this; omega)
                  rw [T.ordJ_yes HOR.out.2.2 HOR.out.2.1] at h1
                  cases h1
            · obtain rfl : k2 = l' := by omega
              have HBF : Hid (Below w.heap.size w wr) := HBX.out.trans (hbx.mono HBX.out.size)
              have HLV : Hid (Calls Tryd.prog 12 #[] wr fun e w' => e = .returned (.bool true) ∧ Below wr.heap.size wr w') := live_any wr htx
              clear htv hbx htx hrow hrt hln hcd hok hxs hxl hes HR
              go_wp2_with fail
              refine HLV.out.mono ?_
              rintro e y5 ⟨rfl, hb5⟩
              have HB5 : Hid (Below w.heap.size w y5) := HBF.out.trans (hb5.mono HBF.out.size)
              clear hb5
              go_wp2
              go_ret
              exact ⟨rfl, HB5.out⟩

end Go.Proofs.YtdcdmlboilojmaaDoor
