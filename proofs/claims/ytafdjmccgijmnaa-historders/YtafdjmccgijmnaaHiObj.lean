/- The object that an act is of; what an act makes of it. -/
import Derived.Test.YtafdjmccgijmnaaHiHas
import Derived.Test.YtafdjmccgijmnaaAtMore
namespace Go.Proofs.Ytafdjmccgijmnaa
open Go.RowKit A
set_option linter.unusedVariables false
set_option linter.unusedSimpArgs false
theorem oname_any (x : At) {a : Option Addr} {l c : Nat} (nm : ByteArray) (bn : Nat) (w : World) (h : w.cell? ⟨bn, 2, none⟩ = some (.string nm)) :
    Calls Try.prog 58 #[.agg #[.string x.name, .int .i64 x.cap, .int .i64 x.owner, .slice a l c], .pointer (some ⟨bn, 0, none⟩)] w fun e w' => e = .returned (.bool (decide (x.name = nm))) ∧ Below w.heap.size w w' := by
  have hb : Below w.heap.size w (w.alloc (.cells #[.string x.name, .int .i64 x.cap, .int .i64 x.owner, .slice a l c] 49)) := bl_one _ _
  have hc := A.cell_thru hb h
  go_enter Try.func58, Try.ntmps58
  go_wp2
  go_ret
  exact ⟨by rw [← toList_dec]; rfl, hb⟩
set_option maxRecDepth 100000 in
set_option maxHeartbeats 8000000 in
theorem idxO_any {w : World} {a : Option Addr} {l c : Nat} {os : List At} (h : AtsV w a l c os) (nm : ByteArray) (bn : Nat) (hn : w.cell? ⟨bn, 2, none⟩ = some (.string nm)) :
    Calls Try.prog 57 #[.slice a l c, .func (.func 58) #[] #[.pointer (some ⟨bn, 0, none⟩)]] w fun e w' => e = .returned (.int .i64 (if whereA os nm < os.length then (whereA os nm : Int) else -1)) ∧ Below w.heap.size w w' := by
  have HV : Hid _ := h
  have hc := h.count
  have hm := h.room
  have hmax : maxLen = 9223372036854775807 := rfl
  clear h
  generalize hR : (if whereA os nm < os.length then (whereA os nm : Int) else -1) = R
  have HR : Hid _ := hR
  clear hR
  go_enter Try.func57, Try.ntmps57
  go_wp2_with fail
  go_loopg [8] l (fun r iv wq => ∃ (k : Nat), iv = .int .i64 k ∧ k ≤ l ∧ l - k ≤ r ∧ Hid (∀ i, i < k → ¬ (os.getD i noAt).name = nm) ∧ Hid (Below w.heap.size w wq))
  case atStart => exact ⟨0, rfl, Nat.zero_le _, by omega, (fun i hi => by omega : ∀ i, i < 0 → ¬ (os.getD i noAt).name = nm), Below.refl _ _⟩
  case round =>
    obtain ⟨k, rfl, hk, hr, HAL, HB⟩ := hrel
    by_cases hlt : k < l
    · rcases HV.out.cells with h0 | ⟨b, off, hA, hcl⟩
      · omega
      obtain ⟨q0, q1, q2, a1, l1, c1, q3, -⟩ := hcl k hlt
      have q0 := cell_thru HB.out q0
      have q1 := cell_thru HB.out q1
      have q2 := cell_thru HB.out q2
      have q3 := cell_thru HB.out q3
      have HN : Hid _ := cell_thru HB.out hn
      have HYES : Hid ((os.getD k noAt).name = nm → R = k) := fun hz => by
        have e := where_at (by omega) hz HAL.out
        rw [← HR.out, e, if_pos (by omega)]
      obtain ⟨x, hx⟩ : ∃ x, os.getD k noAt = x := ⟨_, rfl⟩
      have HX : Hid _ := hx
      rw [hx] at q0 q1 q2 HYES
      subst hA
      have hii : (k : Int) < l := by omega
      have hin : 0 ≤ (k : Int) := by omega
      clear hcl hx hn
      go_wp2_with fail
      refine (oname_any x nm bn _ HN.out).mono ?_
      rintro e y ⟨rfl, hy⟩
      have HBY : Hid (Below w.heap.size w y) := HB.out.trans (hy.mono HB.out.size)
      by_cases hnm : x.name = nm
      · rw [decide_eq_true hnm]
        clear hy
        go_wp2
        go_ret
        exact ⟨by rw [HYES.out hnm]; rfl, HBY.out⟩
      · rw [decide_eq_false hnm]
        clear hy
        go_wp2_with fail
        go_roundg (l - (k + 1))
        case measure => omega
        case rel => exact ⟨k + 1, by first | rfl | (congr 1; omega), by omega, Nat.le_refl _, (fun i hi => by
          by_cases e : i = k
          · subst e; rw [HX.out]; exact hnm
          · exact HAL.out i (by omega) : ∀ i, i < k + 1 → ¬ (os.getD i noAt).name = nm), HBY.out⟩
    · have hii : ¬ (k : Int) < l := by omega
      have HNO : Hid (R = -1) := HR.out.symm.trans (if_neg (where_no (fun i hi => HAL.out i (by omega))))
      go_wp2
      go_ret
      exact ⟨by rw [HNO.out]; rfl, HB.out⟩


namespace H
/-- Where the object of an act stands; none: it has none. -/
def obAt (os : List At) (a : Ac) : Option Nat := if whereA os a.nm < os.length ∧ a.dd ≠ 5 then some (whereA os a.nm) else none
def obOf (os : List At) (a : Ac) : List At := match obAt os a with
  | none => []
  | some j => [os.getD j noAt]
def obSl (a : Option Addr) (c : Nat) : Option Nat → Value
  | none => .slice none 0 0
  | some j => .slice (a.map fun q => ⟨q.block, q.off + j * 4, none⟩) 1 (c - j)
end H
theorem A.AtsV.one {w : World} {a : Option Addr} {l c : Nat} {os : List At} (h : AtsV w a l c os) {j : Nat} (hj : j < l) : AtsV w (a.map fun q => ⟨q.block, q.off + j * 4, none⟩) 1 (c - j) [os.getD j noAt] := by
  rcases h.cells with h0 | ⟨b, off, rfl, hc⟩
  · omega
  · refine ⟨rfl, fun x hx => ?_, fun e => (by cases e), ⟨by have := h.room; omega, by have := h.room; omega⟩, .inr ⟨b, off + j * 4, rfl, fun i hi => ?_⟩⟩
    · rw [List.mem_singleton.1 hx]; exact h.fit hj
    · obtain rfl : i = 0 := by omega
      simpa using hc j hj
theorem obSl_view {w : World} {a : Option Addr} {l c : Nat} {os : List At} (h : AtsV w a l c os) (x : H.Ac) : ∃ a' l' c', H.obSl a c (H.obAt os x) = .slice a' l' c' ∧ AtsV w a' l' c' (H.obOf os x) := by
  unfold H.obOf
  cases e : H.obAt os x with
  | none => exact ⟨none, 0, 0, rfl, rfl, by simp, fun _ => ⟨rfl, rfl⟩, ⟨Nat.le_refl _, Nat.zero_le _⟩, .inl rfl⟩
  | some j =>
    have hj : j < l := by
      unfold H.obAt at e
      split at e
      · next hh => cases e; rw [← h.count]; exact hh.1
      · cases e
    exact ⟨_, _, _, rfl, h.one hj⟩
set_option maxRecDepth 100000 in
set_option maxHeartbeats 8000000 in
theorem objectOf_any {w : World} {a : Option Addr} {l c : Nat} {os : List At} (h : AtsV w a l c os) (x : H.Ac) :
    Calls Try.prog 36 #[.slice a l c, x.v] w fun e w' => e = .returned (H.obSl a c (H.obAt os x)) ∧ Below w.heap.size w w' := by
  have hmf : ∀ (fn : Fn) (first cap : Array Value) (w : World), (Instr.makeFunc fn first cap).run Try.prog w = .ok (.func fn first cap) w := fun _ _ _ _ => rfl
  have HV : Hid _ := h
  have hc := h.count
  have hm := h.room
  have hmax : maxLen = 9223372036854775807 := rfl
  clear h
  have HR : Hid (H.obAt os x = if whereA os x.nm < os.length ∧ x.dd ≠ 5 then some (whereA os x.nm) else none) := rfl
  obtain ⟨th, dd, nm, arg, call, back, ans⟩ := x
  unfold H.Ac.v
  simp only at HR ⊢
  obtain ⟨ob, hob⟩ : ∃ ob, H.obAt os ⟨th, dd, nm, arg, call, back, ans⟩ = ob := ⟨_, rfl⟩
  rw [hob] at HR ⊢
  clear hob
  obtain ⟨Y1, hY1⟩ : ∃ Y, w.alloc (.cells #[.int .i64 th, .int .i64 dd, .string nm, .int .i64 arg, .int .i64 call, .int .i64 back, .int .i64 ans] 42) = Y := ⟨_, rfl⟩
  have B1 : Below w.heap.size w Y1 := by rw [← hY1]; exact hbl1 _ _
  have cn : Y1.cell? ⟨w.heap.size, 2, none⟩ = some (.string nm) := by rw [← hY1]; simp
  have cd : Y1.cell? ⟨w.heap.size, 1, none⟩ = some (.int .i64 dd) := by rw [← hY1]; simp
  have hidx := idxO_any (HV.out.below B1) nm w.heap.size cn
  have HB1 : Hid _ := B1
  clear B1
  generalize hW : whereA os nm = q at hidx HR
  clear hW
  go_enter Try.func36, Try.ntmps36
  go_wp2_with fail
  refine hidx.mono ?_
  rintro e y ⟨rfl, hy⟩
  clear hidx
  have HY : Hid (Below w.heap.size w y) := HB1.out.trans (hy.mono HB1.out.size)
  have cd2 := hcell_thru hy cd
  clear hy cd cn
  by_cases hq : q < os.length
  · rw [if_pos hq]
    have hq1 : ¬ (q : Int) < 0 := by omega
    by_cases h5 : dd = 5
    · have hob : ob = none := by rw [HR.out, if_neg (fun h => h.2 h5)]
      subst hob
      have e5 : (dd == 5) = true := by simpa using h5
      clear h5
      go_wp2_with fail
      go_ret
      exact ⟨rfl, HY.out⟩
    · have hob : ob = some q := by rw [HR.out, if_pos ⟨hq, h5⟩]
      subst hob
      have e5 : (dd == 5) = false := by simpa using h5
      rcases HV.out.cells with h0 | ⟨b, off, hA, -⟩
      · omega
      subst hA
      have hqc : (q : Int) + 1 ≤ c := by omega
      have hqi : IntKind.i64.wrap ((q : Int) + 1) = ((q + 1 : Nat) : Int) := by rw [IntKind.wrap_i64]; omega
      clear h5
      go_wp2_with fail
      go_ret
      exact ⟨rfl, HY.out⟩
  · rw [if_neg hq]
    have hob : ob = none := by rw [HR.out, if_neg (fun h => hq h.1)]
    subst hob
    go_wp2_with fail
    go_ret
    exact ⟨rfl, HY.out⟩
namespace H
def Ac.answers (a : Ac) : Bool := decide (a.dd = 3) || decide (a.dd = 4)
/-- What an act makes of objects, and whether it can have been done there. -/
def made (os : List At) (a : Ac) : List At × Int × Int := doA os a.th a.dd a.nm a.arg
def goes (os : List At) (a : Ac) : Bool := decide ((made os a).2.2 = 0) && (decide ((made os a).2.1 = a.ans) || (!a.isBack || !a.answers))
end H
set_option maxRecDepth 100000 in
theorem answers_any (a : H.Ac) (w : World) : Calls Try.prog 60 #[a.v] w fun e w' => e = .returned (.bool a.answers) ∧ Below w.heap.size w w' := by
  have HR : Hid (a.answers = (decide (a.dd = 3) || decide (a.dd = 4))) := rfl
  obtain ⟨th, dd, nm, arg, call, back, ans⟩ := a
  unfold H.Ac.v
  simp only at HR ⊢
  by_cases h3 : dd = 3
  · have e3 : (dd == 3) = true := by simpa using h3
    rw [decide_eq_true h3] at HR
    clear h3
    go_enter Try.func60, Try.ntmps60
    go_wp2
    go_ret
    exact ⟨by rw [HR.out]; rfl, hbl1 _ _⟩
  · have e3 : (dd == 3) = false := by simpa using h3
    rw [decide_eq_false h3] at HR
    clear h3
    have e4 : (dd == 4) = decide (dd = 4) := by
      by_cases h : dd = 4
      · rw [decide_eq_true h]; simpa using h
      · rw [decide_eq_false h]; simpa using h
    obtain ⟨q, hq⟩ : ∃ q, decide (dd = 4) = q := ⟨_, rfl⟩
    rw [hq] at HR e4
    clear hq
    go_enter Try.func60, Try.ntmps60
    go_wp2
    go_ret
    exact ⟨by rw [HR.out]; rfl, hbl1 _ _⟩
theorem A.Stay.base {B B' : Nat} {w : World} {a : Option Addr} {l c : Nat} {os : List At} (h : Stay B w a l c os) (hb : B' ≤ B) : Stay B' w a l c os := fun w1 hk => h w1 fun b o v hB hc => hk b o v (Nat.le_trans hb hB) hc
theorem A.Stay.below {B : Nat} {w y : World} {a : Option Addr} {l c : Nat} {os : List At} (h : Stay B w a l c os) (hb : Below w.heap.size w y) : Stay B y a l c os := fun w1 hk => h w1 fun b o v hB hc => hk b o v hB (hcell_thru hb hc)
set_option maxRecDepth 100000 in
set_option maxHeartbeats 8000000 in
theorem hdo_any {w : World} {a : Option Addr} {l c : Nat} {os : List At} (h : AtsV w a l c os) (hl : l ≤ 1048576) (hi : ∀ x ∈ os, x.items.length * 8 ≤ 140737488355328) (x : H.Ac) (ha : (Lit.int .i64 x.arg).wf = true) :
    Calls Try.prog 37 #[.slice a l c, x.v] w fun e w' => ∃ g, e = .returned (.tuple #[.slice (some ⟨g, 0, none⟩) l l, .bool (H.goes os x)]) ∧ Stay w.heap.size w' (some ⟨g, 0, none⟩) l l (H.made os x).1 ∧ w.heap.size ≤ g ∧ Below w.heap.size w w' := by
  have HV : Hid _ := h
  have HI : Hid _ := hi
  have HA : Hid _ := ha
  have HF : Hid _ := h.fits
  have hIB : ∀ W, Calls Try.prog 48 #[x.v] W fun e w' => e = .returned (.bool x.isBack) ∧ Below W.heap.size W w' := fun W => isBack_any x W
  have hAN : ∀ W, Calls Try.prog 60 #[x.v] W fun e w' => e = .returned (.bool x.answers) ∧ Below W.heap.size W w' := fun W => answers_any x W
  have HIB : Hid _ := hIB
  have HAN : Hid _ := hAN
  have HR : Hid (H.goes os x = (decide ((H.made os x).2.2 = 0) && (decide ((H.made os x).2.1 = x.ans) || (!x.isBack || !x.answers)))) := rfl
  have HDO : Hid (∀ W, AtsV W a l c os → Calls Try.prog 59 #[.slice a l c, .int .i64 x.th, .int .i64 x.dd, .string x.nm, .int .i64 x.arg] W fun e w' => e = .returned (.tuple #[.slice (some ⟨W.heap.size + 1, 0, none⟩) l l, .int .i64 (H.made os x).2.1, .int .i64 (H.made os x).2.2]) ∧ Stay W.heap.size w' (some ⟨W.heap.size + 1, 0, none⟩) l l (H.made os x).1 ∧ Below W.heap.size W w') := fun W hW => by
    refine (do_any hW hl hi x.th x.dd x.nm x.arg ha).mono ?_
    rintro e y ⟨he, hR, hb⟩
    exact ⟨he, (hR.stay (doA_fit hW.fits ha) (Nat.le_refl _)).base (Nat.le_succ _), hb⟩
  clear h hi ha hIB hAN
  obtain ⟨gs, hgs⟩ : ∃ q, H.goes os x = q := ⟨_, rfl⟩
  obtain ⟨o1, ho1⟩ : ∃ q, (H.made os x).1 = q := ⟨_, rfl⟩
  obtain ⟨n1, hn1⟩ : ∃ q, (H.made os x).2.1 = q := ⟨_, rfl⟩
  obtain ⟨n2, hn2⟩ : ∃ q, (H.made os x).2.2 = q := ⟨_, rfl⟩
  obtain ⟨ib, hib⟩ : ∃ q, x.isBack = q := ⟨_, rfl⟩
  obtain ⟨an, han⟩ : ∃ q, x.answers = q := ⟨_, rfl⟩
  rw [hgs, hn1, hn2, hib, han] at HR
  rw [hib] at HIB
  rw [han] at HAN
  rw [ho1, hn1, hn2] at HDO
  rw [hgs, ho1]
  clear hgs ho1 hn1 hn2 hib han
  obtain ⟨th, dd, nm, arg, call, back, ans⟩ := x
  unfold H.Ac.v at HIB HAN ⊢
  simp only at HR HDO HIB HAN ⊢
  obtain ⟨Y1, hY1⟩ : ∃ Y, w.alloc (.cells #[.int .i64 th, .int .i64 dd, .string nm, .int .i64 arg, .int .i64 call, .int .i64 back, .int .i64 ans] 42) = Y := ⟨_, rfl⟩
  have HB1 : Hid (Below w.heap.size w Y1) := by show Below _ _ _; rw [← hY1]; exact hbl1 _ _
  have HCS : Hid (∀ y, Below Y1.heap.size Y1 y → (y.cell? ⟨w.heap.size, 0, none⟩ = some (.int .i64 th) ∧ y.cell? ⟨w.heap.size, 1, none⟩ = some (.int .i64 dd) ∧ y.cell? ⟨w.heap.size, 2, none⟩ = some (.string nm) ∧ y.cell? ⟨w.heap.size, 3, none⟩ = some (.int .i64 arg) ∧ y.cell? ⟨w.heap.size, 4, none⟩ = some (.int .i64 call) ∧ y.cell? ⟨w.heap.size, 5, none⟩ = some (.int .i64 back) ∧ y.cell? ⟨w.heap.size, 6, none⟩ = some (.int .i64 ans))) := fun y hy => by
    have ha : ∀ k, y.cell? ⟨w.heap.size, k, none⟩ = (#[.int .i64 th, .int .i64 dd, .string nm, .int .i64 arg, .int .i64 call, .int .i64 back, .int .i64 ans] : Array Value)[k]? := fun k => by
      rw [hy.cell (p := ⟨w.heap.size, k, none⟩) (by rw [← hY1]; simp), ← hY1]
      simp
    exact ⟨ha 0, ha 1, ha 2, ha 3, ha 4, ha 5, ha 6⟩
  obtain ⟨d0, d1, d2, d3, d4, d5, d6⟩ := HCS.out Y1 (Below.refl _ _)
  have s1 : Hid (w.heap.size ≤ Y1.heap.size + 1) := by have := HB1.out.size; show _ ≤ _; omega
  go_enter Try.func37, Try.ntmps37
  go_wp2_with fail
  refine (HDO.out _ (HV.out.below HB1.out)).mono ?_
  rintro e y1 ⟨rfl, hA, hb1⟩
  have HA1 : Hid (Stay w.heap.size y1 (some ⟨Y1.heap.size + 1, 0, none⟩) l l o1) := A.Stay.base hA HB1.out.size
  have HY : Hid (Below Y1.heap.size Y1 y1) := hb1
  clear d0 d1 d2 d3 d4 d5 d6 hA hb1
  obtain ⟨d0, d1, d2, d3, d4, d5, d6⟩ := HCS.out y1 HY.out
  generalize Y1.heap.size + 1 = g at *
  by_cases h0 : n2 = 0
  rotate_left
  · have e0 : (n2 == 0) = false := by simpa using h0
    rw [decide_eq_false h0] at HR
    clear h0
    go_wp2_with fail
    go_ret2
    exact ⟨g, by rw [HR.out]; rfl, HA1.out, s1.out, HB1.out.trans (HY.out.mono HB1.out.size)⟩
  have e0 : (n2 == 0) = true := by simpa using h0
  rw [decide_eq_true h0] at HR
  clear h0
  by_cases h1 : n1 = ans
  · have e1 : (n1 == ans) = true := by simpa using h1
    rw [decide_eq_true h1] at HR
    clear h1
    go_wp2_with fail
    go_ret2
    exact ⟨g, by rw [HR.out]; rfl, HA1.out, s1.out, HB1.out.trans (HY.out.mono HB1.out.size)⟩
  have e1 : (n1 == ans) = false := by simpa using h1
  rw [decide_eq_false h1] at HR
  clear h1
  go_wp2_with fail
  refine (HIB.out _).mono ?_
  rintro e y2 ⟨rfl, hb2⟩
  have HY2 : Hid (Below Y1.heap.size Y1 y2) := HY.out.trans (hb2.mono HY.out.size)
  have HA2 : Hid (Stay w.heap.size y2 (some ⟨g, 0, none⟩) l l o1) := A.Stay.below HA1.out hb2
  clear d0 d1 d2 d3 d4 d5 d6 hb2
  obtain ⟨d0, d1, d2, d3, d4, d5, d6⟩ := HCS.out y2 HY2.out
  cases ib
  · go_wp2_with fail
    go_ret2
    exact ⟨g, by rw [HR.out]; rfl, HA2.out, s1.out, HB1.out.trans (HY2.out.mono HB1.out.size)⟩
  · go_wp2_with fail
    refine (HAN.out _).mono ?_
    rintro e y3 ⟨rfl, hb3⟩
    have HY3 : Hid (Below Y1.heap.size Y1 y3) := HY2.out.trans (hb3.mono HY2.out.size)
    have HA3 : Hid (Stay w.heap.size y3 (some ⟨g, 0, none⟩) l l o1) := A.Stay.below HA2.out hb3
    clear d0 d1 d2 d3 d4 d5 d6 hb3
    go_wp2_with fail
    go_ret2
    exact ⟨g, by rw [HR.out]; rfl, HA3.out, s1.out, HB1.out.trans (HY3.out.mono HB1.out.size)⟩
end Go.Proofs.Ytafdjmccgijmnaa
