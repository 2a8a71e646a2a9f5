/- Which acts are ahead of which, as a list of sets. -/
import Derived.Test.YtafdjmccgijmnaaHiActs
namespace Go.Proofs.Ytafdjmccgijmnaa
open Go.RowKit
set_option linter.unusedVariables false
set_option linter.unusedSimpArgs false
namespace H
/-- Of the first so many acts, those that are ahead of one. -/
def erl (ts : List Ac) (k : Nat) : Nat → Nat
  | 0 => 0
  | i + 1 => if (ts.getD i noAc).ahead (ts.getD k noAc) = true then wth (erl ts k i) i else erl ts k i
theorem erl_lt (ts : List Ac) (k : Nat) : ∀ i, i ≤ 60 → erl ts k i < 2 ^ 60
  | 0, _ => Nat.two_pow_pos 60
  | i + 1, hi => by
    rw [erl]
    have ih := erl_lt ts k i (by omega)
    split
    · unfold wth
      exact Nat.or_lt_two_pow ih (Nat.pow_lt_pow_right (by decide) (by omega))
    · exact ih
theorem erl_has (ts : List Ac) (k j : Nat) : ∀ i, (erl ts k i).testBit j = (decide (j < i) && (ts.getD j noAc).ahead (ts.getD k noAc))
  | 0 => by simp [erl]
  | i + 1 => by
    have ih := erl_has ts k j i
    rw [erl]
    by_cases e : j = i
    · subst e
      split
      · next hb => rw [has_wth, hb]; simp
      · next hb => rw [ih]; simp at hb; simp [hb]
    · have hk : decide (j < i + 1) = decide (j < i) := decide_eq_decide.2 (by omega)
      have hij : ¬ i = j := fun e' => e e'.symm
      rw [hk]
      split
      · rw [has_wth, ih, show decide (i = j) = false from decide_eq_false hij, Bool.or_false]
      · exact ih
/-- The list, while it is made: so many are whole, the next one has so many, the others are empty. -/
def erls (ts : List Ac) (k i : Nat) : List Nat := (List.range ts.length).map fun q => if q < k then erl ts q ts.length else if q = k then erl ts k i else 0
theorem erls_len (ts : List Ac) (k i : Nat) : (erls ts k i).length = ts.length := by simp [erls]
theorem erls_at (ts : List Ac) {k i : Nat} (hk : k < ts.length) : (erls ts k i).getD k 0 = erl ts k i := by simp [erls, List.getD, hk]
theorem erls_set (ts : List Ac) {k i : Nat} (hk : k < ts.length) {v : Nat} (hv : v = erl ts k (i + 1)) : (erls ts k i).set k v = erls ts k (i + 1) := by
  apply List.ext_getElem?
  intro q
  by_cases e : k = q
  · subst e
    rw [List.getElem?_set_self (by rw [erls_len]; exact hk), hv]
    simp [erls, hk]
  · rw [List.getElem?_set_ne e]
    have : ¬ q = k := fun e' => e e'.symm
    by_cases hq : q < ts.length
    · simp [erls, hq, this]
    · simp [erls, hq]
theorem erls_next (ts : List Ac) (k : Nat) : erls ts k ts.length = erls ts (k + 1) 0 := by
  unfold erls
  refine List.map_congr_left fun q hq => ?_
  by_cases h1 : q < k
  · rw [if_pos h1, if_pos (by omega)]
  · rw [if_neg h1]
    by_cases h2 : q = k
    · subst h2; rw [if_pos rfl, if_pos (by omega)]
    · rw [if_neg h2, if_neg (by omega)]
      split
      · next e => subst e; rfl
      · rfl
theorem erls_zero (ts : List Ac) : erls ts 0 0 = List.replicate ts.length 0 := by
  unfold erls
  apply List.ext_getElem?
  intro q
  by_cases hq : q < ts.length
  · simp [hq]
    intro e
    subst e
    rfl
  · simp [hq]
end H
def uV (n : Nat) : Value := .int .u64 n
theorem infoSet : (Try.prog.info? 77).map (fun i => (i.zero, i.size, i.bytes)) = some (some (.int .u64 0), 1, 8) := by kernel_rfl
theorem hinfo {P : Program} {t : TypeId} {z : Option Value} {k m : Nat} (h : (P.info? t).map (fun i => (i.zero, i.size, i.bytes)) = some (z, k, m)) : ∃ i, P.info? t = some i ∧ i.zero = z ∧ i.size = k ∧ i.bytes = m := by
  cases hi : P.info? t with
  | none => rw [hi] at h; cases h
  | some i =>
    rw [hi] at h
    simp only [Option.map_some, Option.some.injEq, Prod.mk.injEq] at h
    exact ⟨i, rfl, h⟩
set_option maxRecDepth 100000 in
theorem makeSets (w : World) (N : Nat) (hN : N ≤ 65536) :
    (Instr.makeSlice 85 (.int .i64 N) (.int .i64 N)).run Try.prog w = .ok (.slice (some ⟨w.heap.size, 0, none⟩) N N) (w.alloc (.cells (List.replicate N (uV 0)).toArray 77)) := by
  obtain ⟨i, hi, h0, h1, h2⟩ := hinfo infoSet
  have := run_make (P := Try.prog) w 85 77 i (.int .u64 0) Try.underlying85 hi h0 .i64 .i64 N N (by omega) (by omega) (by rw [h2]; omega) (by omega)
  rw [this, h1, Int.toNat_natCast]
  congr 3
  unfold madeCells
  apply Array.ext
  · simp
  · intro i h1 h2
    simp [Value.cells, Nat.mod_one, uV]
theorem sets_row (w : World) (N : Nat) (hN : N ≤ 65536) : (w.alloc (.cells (List.replicate N (uV 0)).toArray 77)).ownsRow w.heap.size 77 1 (.slice (some ⟨w.heap.size, 0, none⟩) N N) N ((List.replicate N 0).map uV) := by
  have := World.ownsRow_lit (base := w.heap.size) (e := 77) (size := 1) w (List.replicate N (uV 0)).toArray N (Nat.le_refl _) (by unfold maxLen; omega) (by simp)
  simpa using this
/-- The list of sets, while it is made. -/
structure ER (w W : World) (g l : Nat) (ns : List Nat) : Prop where
  low : Below w.heap.size w W
  row : W.ownsRow w.heap.size 77 1 (.slice (some ⟨g, 0, none⟩) l l) l (ns.map uV)
theorem hown_thru {w w1 : World} {B : Nat} {ty : TypeId} {k : Nat} {u : Value} {n : Nat} {cs : List Value} (hu : w.ownsRow B ty k u n cs) (hb : Below w.heap.size w w1) : w1.ownsRow B ty k u n cs :=
  hu.kept (row := none) ⟨hb.os, hb.tape, hb.output, hb.size, fun i hi _ => hb.block i hi⟩ (by
    rcases hu.2 with ⟨e, -⟩ | ⟨g, cap, cur, e, -⟩
    · exact .inl (by rw [e]; rfl)
    · exact .inr (by rw [e]; simp [Value.ownBlock]))
theorem ER.below {w W y : World} {g l : Nat} {ns : List Nat} (h : ER w W g l ns) (hb : Below W.heap.size W y) : ER w y g l ns := ⟨h.low.trans (hb.mono h.low.size), hown_thru h.row hb⟩
theorem ER.store {w W : World} {g l : Nat} {ns : List Nat} (h : ER w W g l ns) (k v : Nat) : ER w (W.setCell ⟨g, k, none⟩ (.int .u64 v)) g l (ns.set k v) := by
  obtain ⟨h1, h2⟩ := h.row.stored k (.int .u64 v)
  refine ⟨h.low.setCell (h.row.lt g rfl).1 _, ?_⟩
  rw [List.map_set]
  exact h1
theorem ER.at {w W : World} {g l : Nat} {ns : List Nat} (h : ER w W g l ns) {k : Nat} (hk : k < l) (hl : ns.length = l) : W.cell? ⟨g, k, none⟩ = some (.int .u64 (ns.getD k 0)) ∧ W.frozen? ⟨g, k, none⟩ = false ∧ w.heap.size ≤ g ∧ g < W.heap.size := by
  refine ⟨?_, h.row.frozenAt k, (h.row.lt g rfl).1, (h.row.lt g rfl).2⟩
  rw [h.row.cellAt k (by omega), List.getElem?_map]
  have : k < ns.length := by omega
  simp [List.getD, this, uV]
set_option maxRecDepth 100000 in
set_option maxHeartbeats 8000000 in
theorem earlyOf_any {w : World} {a : Option Addr} {l c : Nat} {ts : List H.Ac} (h : ActsV w a l c ts) (hl : l ≤ 60) : Calls Try.prog 64 #[.slice a l c] w fun e w' => ∃ g, e = .returned (.slice (some ⟨g, 0, none⟩) l l) ∧ ER w w' g l (H.erls ts l 0) := by
  have HV : Hid _ := h
  have HC : Hid (ts.length = l) := h.count
  have hmk := makeSets w l (by omega)
  obtain ⟨W0, hW0⟩ : ∃ W0, w.alloc (.cells (List.replicate l (uV 0)).toArray 77) = W0 := ⟨_, rfl⟩
  rw [hW0] at hmk
  obtain ⟨g, hg⟩ : ∃ g, w.heap.size = g := ⟨_, rfl⟩
  have HE0 : Hid (ER w W0 g l (H.erls ts 0 0)) := by
    show ER _ _ _ _ _
    rw [H.erls_zero, HC.out]
    subst hW0 hg
    exact ⟨hbl1 _ _, sets_row w l (by omega)⟩
  clear h hW0
  go_enter Try.func64, Try.ntmps64
  go_wp2_with fail
  try rw [hg]
  clear hmk hg
  go_loopg [4, 5, 6, 7, 13, 20] l (fun r z4 z5 z6 z7 iv z20 wq => ∃ (k : Nat), r = l - k ∧ iv = .int .i64 k ∧ k ≤ l ∧ Hid (ER w wq g l (H.erls ts k 0)))
  case atStart => exact ⟨0, rfl, rfl, Nat.zero_le _, HE0⟩
  case round =>
    obtain ⟨k, rfl, rfl, hk, HE⟩ := hrel
    by_cases hlt : k < l
    · have hii : (k : Int) < l := by omega
      have hin : 0 ≤ (k : Int) := by omega
      obtain ⟨b, off, rfl, c0, c1, c2, c3, c4, c5, c6⟩ := (HV.out.below HE.out.low).at hlt
      obtain ⟨t, ht⟩ : ∃ t, ts.getD k H.noAc = t := ⟨_, rfl⟩
      rw [ht] at c0 c1 c2 c3 c4 c5 c6
      have HTK : Hid (ts.getD k H.noAc = t) := ht
      clear ht
      obtain ⟨Y1, hY1⟩ : ∃ Y1, wr.alloc (.cells #[.int .i64 t.th, .int .i64 t.dd, .string t.nm, .int .i64 t.arg, .int .i64 t.call, .int .i64 t.back, .int .i64 t.ans] 42) = Y1 := ⟨_, rfl⟩
      obtain ⟨ba, hba⟩ : ∃ ba, wr.heap.size = ba := ⟨_, rfl⟩
      have HE1 : Hid (ER w Y1 g l (H.erls ts k 0)) := by subst hY1; exact HE.out.below (hbl1 _ _)
      have hgb : g ≠ ba := by have := (HE.out.row.lt g rfl).2; omega
      have hgb2 := Ne.symm hgb
      have HA1 : Hid (∀ j u, t.cs[j]? = some u → Y1.cell? ⟨ba, j, none⟩ = some u) := fun j u hu => by
        subst hY1 hba
        simp only [World.cell?_alloc_new]
        unfold H.Ac.cs at hu
        simpa using hu
      go_wp2_with fail
      try rw [hY1]
      try rw [hba]
      clear c0 c1 c2 c3 c4 c5 c6 hY1 hba
      go_loopg [6, 7, 20] l (fun r z6 z7 iv wq => ∃ (i : Nat), r = l - i ∧ iv = .int .i64 i ∧ i ≤ l ∧ Hid (ER w wq g l (H.erls ts k i)) ∧ Hid (∀ j u, t.cs[j]? = some u → wq.cell? ⟨ba, j, none⟩ = some u))
      case atStart => exact ⟨0, rfl, rfl, Nat.zero_le _, HE1, HA1⟩
      case round =>
        obtain ⟨i, rfl, rfl, hi, HEi, HAi⟩ := hrel
        by_cases hlt2 : i < l
        · have hji : (i : Int) < l := by omega
          have hj0 : 0 ≤ (i : Int) := by omega
          obtain ⟨b', off', eb, c0, c1, c2, c3, c4, c5, c6⟩ := (HV.out.below HEi.out.low).at hlt2
          cases eb
          obtain ⟨u, hu⟩ : ∃ u, ts.getD i H.noAc = u := ⟨_, rfl⟩
          rw [hu] at c0 c1 c2 c3 c4 c5 c6
          have HS : Hid (H.erl ts k (i + 1) = if u.ahead t = true then H.wth (H.erl ts k i) i else H.erl ts k i) := by
            show _ = _
            rw [H.erl, hu, HTK.out]
          clear hu
          have HIA : Hid (∀ W, Calls Try.prog 28 #[u.v, t.v] W fun e w' => e = .returned (.bool (u.ahead t)) ∧ Below W.heap.size W w') := fun W => isAhead_any u t W
          obtain ⟨ih, hih⟩ : ∃ x, u.ahead t = x := ⟨_, rfl⟩
          rw [hih] at HIA HS
          clear hih
          obtain ⟨Y2, hY2⟩ : ∃ Y2, wr.alloc (.cells #[.int .i64 u.th, .int .i64 u.dd, .string u.nm, .int .i64 u.arg, .int .i64 u.call, .int .i64 u.back, .int .i64 u.ans] 42) = Y2 := ⟨_, rfl⟩
          have bY2 : Below wr.heap.size wr Y2 := by subst hY2; exact hbl1 _ _
          have HE2 : Hid (ER w Y2 g l (H.erls ts k i)) := HEi.out.below bY2
          have HA2 : Hid (∀ y, Below Y2.heap.size Y2 y → ∀ j v, t.cs[j]? = some v → y.cell? ⟨ba, j, none⟩ = some v) := fun y hy j v hv => hcell_thru hy (hcell_thru bY2 (HAi.out j v hv))
          have a0 := HA2.out Y2 (Below.refl _ _) 0 _ rfl
          have a1 := HA2.out Y2 (Below.refl _ _) 1 _ rfl
          have a2 := HA2.out Y2 (Below.refl _ _) 2 _ rfl
          have a3 := HA2.out Y2 (Below.refl _ _) 3 _ rfl
          have a4 := HA2.out Y2 (Below.refl _ _) 4 _ rfl
          have a5 := HA2.out Y2 (Below.refl _ _) 5 _ rfl
          have a6 := HA2.out Y2 (Below.refl _ _) 6 _ rfl
          have q : ∀ j, Y2.cell? ⟨wr.heap.size, j, none⟩ = (#[.int .i64 u.th, .int .i64 u.dd, .string u.nm, .int .i64 u.arg, .int .i64 u.call, .int .i64 u.back, .int .i64 u.ans] : Array Value)[j]? := fun j => by subst hY2; simp only [World.cell?_alloc_new]
          have q0 := q 0
          have q1 := q 1
          have q2 := q 2
          have q3 := q 3
          have q4 := q 4
          have q5 := q 5
          have q6 := q 6
          simp only [List.getElem?_toArray, List.getElem?_cons_zero, List.getElem?_cons_succ] at q0 q1 q2 q3 q4 q5 q6
          clear q bY2
          have hel := H.erl_lt ts k i (by omega)
          obtain ⟨d, hd⟩ : ∃ d, H.erl ts k i = d := ⟨_, rfl⟩
          have HD : Hid ((H.erls ts k i).getD k 0 = d) := by show _ = _; rw [H.erls_at ts (by rw [HC.out]; exact hlt)]; exact hd
          rw [hd] at hel HS
          clear hd
          have HWT : Hid (∀ W, Calls Try.prog 54 #[.int .u64 d, .int .i64 i] W fun e w' => e = .returned (.int .u64 (H.wth d i)) ∧ w' = W) := fun W => with_any d i (by omega) hel W
          unfold H.Ac.v at HIA
          cases ih
          · have HST : Hid (H.erls ts k (i + 1) = H.erls ts k i) := by
              show _ = _
              have e : H.erl ts k (i + 1) = (H.erls ts k i).getD k 0 := by rw [HS.out, HD.out]; rfl
              rw [← H.erls_set ts (by rw [HC.out]; exact hlt) rfl, e]
              apply List.ext_getElem?
              intro q
              by_cases eq : k = q
              · subst eq
                have hkl : k < (H.erls ts k i).length := by rw [H.erls_len, HC.out]; exact hlt
                rw [List.getElem?_set_self hkl]
                simp [List.getD, hkl]
              · rw [List.getElem?_set_ne eq]
            go_wp2_with fail
            refine (HIA.out _).mono ?_
            rintro e y ⟨rfl, hy⟩
            have HEy : Hid (ER w y g l (H.erls ts k (i + 1))) := by show ER _ _ _ _ _; rw [HST.out]; exact HE2.out.below hy
            have HAy : Hid (∀ j v, t.cs[j]? = some v → y.cell? ⟨ba, j, none⟩ = some v) := HA2.out y hy
            clear hy a0 a1 a2 a3 a4 a5 a6 q0 q1 q2 q3 q4 q5 q6 c0 c1 c2 c3 c4 c5 c6 hY2
            go_wp2_with fail
            go_roundg (l - (i + 1))
            case measure => omega
            case rel => exact ⟨i + 1, rfl, by go_num, by omega, HEy, HAy⟩
          · go_wp2_with fail
            refine (HIA.out _).mono ?_
            rintro e y ⟨rfl, hy⟩
            have HEy : Hid (ER w y g l (H.erls ts k i)) := HE2.out.below hy
            have HAy : Hid (∀ j v, t.cs[j]? = some v → y.cell? ⟨ba, j, none⟩ = some v) := HA2.out y hy
            obtain ⟨r1, r2, -, -⟩ := HEy.out.at hlt (by rw [H.erls_len, HC.out])
            rw [HD.out] at r1
            have HEz : Hid (ER w (y.setCell ⟨g, k, none⟩ (.int .u64 (H.wth d i))) g l (H.erls ts k (i + 1))) := by
              have := HEy.out.store k (H.wth d i)
              rw [H.erls_set ts (by rw [HC.out]; exact hlt) (by rw [HS.out]; rfl)] at this
              exact this
            have HAz : Hid (∀ j v, t.cs[j]? = some v → (y.setCell ⟨g, k, none⟩ (.int .u64 (H.wth d i))).cell? ⟨ba, j, none⟩ = some v) := fun j v hv => (World.cell?_setCell_other _ _ _ _ (fun e => hgb (by have := congrArg Addr.block e; simpa using this))).trans (HAy.out j v hv)
            clear hy a0 a1 a2 a3 a4 a5 a6 q0 q1 q2 q3 q4 q5 q6 c0 c1 c2 c3 c4 c5 c6 hY2
            go_wp2_with fail
            refine (HWT.out _).mono ?_
            rintro e y2 ⟨rfl, hy2⟩
            rw [hy2]
            clear hy2
            go_wp2_with fail
            go_roundg (l - (i + 1))
            case measure => omega
            case rel => exact ⟨i + 1, rfl, by go_num, by omega, HEz, HAz⟩
        · obtain rfl : i = l := by omega
          have hii : ¬ (i : Int) < i := by omega
          have HN : Hid (ER w wr g i (H.erls ts (k + 1) 0)) := by
            show ER _ _ _ _ _
            rw [← H.erls_next, HC.out]
            exact HEi.out
          go_wp2_with fail
          go_roundg (i - (k + 1))
          case measure => omega
          case rel => exact ⟨k + 1, rfl, by go_num, by omega, HN⟩
    · obtain rfl : k = l := by omega
      have hii : ¬ (k : Int) < k := by omega
      go_wp2_with fail
      go_ret
      exact ⟨g, rfl, HE.out⟩
end Go.Proofs.Ytafdjmccgijmnaa
