/- The writer: expressions whole, the ends of statements, arguments, calls. -/
import Derived.Test.YtikknlkdbjaonaaGreatDoorPBAq
namespace Go.Proofs.YtikknlkdbjaonaaGreatDoor.Y
open Go.RowKit Go.Maps Go.Lib
set_option linter.unusedVariables false
set_option linter.unusedSimpArgs false
theorem str_emp (a : By) : (X.str a).toList.isEmpty = decide (a = []) := by
  rw [← str_beq a []]
  have e : (X.str []).toList = [] := by kernel_rfl
  rw [e]
  cases (X.str a).toList <;> rfl
set_option maxRecDepth 100000 in
set_option maxHeartbeats 4000000 in
theorem wexp_any {B C : Nat} {wp : Nat} {vd vs ve : Value} {E : List Exp} (hE : EOk E) {w : World} {T : By} (h : WX B C w wp vd vs ve E T) (i : Int) : Calls Tryz.prog 130 #[.pointer (some ⟨wp, 0, none⟩), .int .i64 i] w (WXO B C w wp vd vs ve E (wexp E i T)) := by
  obtain ⟨R, hR⟩ : ∃ R, wexp E i T = R := ⟨_, rfl⟩
  rw [hR]
  have HR0 : Hid (wpart E (2 * E.length + 1) i E.length 1 T = R) := hR
  have HX0 : Hid (WX B C w wp vd vs ve E T) := h
  have HK0 : Hid (Kp [80, 5] B w w) := Kp.refl _ _ _
  obtain ⟨a, c, hv⟩ := row_form h.row
  subst hv
  obtain ⟨vt, hb, -⟩ := h.ws.blk
  have v2 := cell_blk hb 2 (v := .slice a E.length c) rfl
  have HP := (expw_all (B := B) (C := C) (wp := wp) (vd := vd) (vs := vs) (ve := .slice a E.length c) hE (2 * E.length + 1)).1 i E.length 1 h (Nat.le_refl _) (Nat.le_refl _)
  have HPP : Hid _ := HP
  clear h hb hR HP
  go_enter Tryz.func130, Tryz.ntmps130
  have HP1 : Hid _ := HPP.out
  go_wp2_with fail
  refine Calls.mono HP1.out ?_
  intro e y1 hy
  have HY1 : Hid (WXO B C w wp vd vs (.slice a E.length c) E R e y1) := by
    show _
    have h5 := hy
    rw [HR0.out] at h5
    exact h5.on HK0.out
  clear hy HP1
  cases R with
  | none =>
    have h3' : e = _ := HY1.out.2
    subst h3'
    clear HX0 HK0 HR0
    go_wp2_with fail
    exact ⟨rfl, HY1.out⟩
  | some T9 =>
    have h3' : e = _ := HY1.out.2.1
    subst h3'
    clear HX0 HK0 HR0
    go_wp2_with fail
    refine bodyPost_end (results_none rfl _ _ _) rfl ?_
    exact HY1.out
set_option maxRecDepth 100000 in
set_option maxHeartbeats 4000000 in
theorem wvalue_any {B C : Nat} {wp : Nat} {vd vs ve : Value} {E : List Exp} (hE : EOk E) {w : World} {T : By} (h : WX B C w wp vd vs ve E T) (s : By) (hs : s.length ≤ 140737488355328) (i : Int) : Calls Tryz.prog 129 #[.pointer (some ⟨wp, 0, none⟩), .string (X.str s), .int .i64 i] w (WXO B C w wp vd vs ve E (wvalue E s i T)) := by
  obtain ⟨R, hR⟩ : ∃ R, wvalue E s i T = R := ⟨_, rfl⟩
  rw [hR]
  have HR0 : Hid (((puts T [s]).bind fun T1 => (wexp E i T1).bind fun T2 => puts T2 [[59]]) = R) := hR
  have HX0 : Hid (WX B C w wp vd vs ve E T) := h
  have HK0 : Hid (Kp [80, 5] B w w) := Kp.refl _ _ _
  clear h hR
  go_enter Tryz.func129, Tryz.ntmps129
  obtain ⟨A1, hA1⟩ : ∃ A, w.alloc (.cells #[.string (X.str s)] 9) = A := ⟨_, rfl⟩
  have HP1 : Hid _ := put_new HX0.out [s] (by intro s hs; simp only [List.mem_cons, List.not_mem_nil, or_false] at hs; rcases hs with rfl <;> first | assumption | decide | omega) (by simp) hA1
  go_wp2_with fail
  refine Calls.mono HP1.out ?_
  intro e y1 hy
  have HY1 : Hid _ := hy
  clear hy HP1
  cases hp1 : puts T [s] with
  | none =>
    obtain rfl : none = R := by have := HR0.out; rw [hp1] at this; exact this
    have h2 := HY1.out
    rw [hp1] at h2
    have h3' : e = _ := h2.2
    subst h3'
    have HF : Hid (WXO B C w wp vd vs ve E none _ y1) := ⟨HK0.out.trans h2.1, h2.2⟩
    clear h2 HY1 HX0 HK0 HR0
    go_wp2_with fail
    exact ⟨rfl, HF.out⟩
  | some T1 =>
  have h2 := HY1.out
  rw [hp1] at h2
  have h3' : e = _ := h2.2.1
  subst h3'
  have HX1 : Hid (WX B C y1 wp vd vs ve E T1) := h2.2.2
  have HK1 : Hid (Kp [80, 5] B w y1) := HK0.out.trans h2.1
  have hr1 := HR0.out
  rw [hp1] at hr1
  simp only [Option.bind_some] at hr1
  have HR1 : Hid (_ = R) := hr1
  clear hr1
  clear h2 HY1 hp1 HX0 HR0 HK0

  have HP2 : Hid _ := wexp_any hE HX1.out i
  go_wp2_with fail
  refine Calls.mono HP2.out ?_
  intro e y2 hy
  have HY2 : Hid _ := hy
  clear hy HP2
  cases hp2 : wexp E i T1 with
  | none =>
    obtain rfl : none = R := by have := HR1.out; rw [hp2] at this; exact this
    have h2 := HY2.out
    rw [hp2] at h2
    have h3' : e = _ := h2.2
    subst h3'
    have HF : Hid (WXO B C w wp vd vs ve E none _ y2) := ⟨HK1.out.trans h2.1, h2.2⟩
    clear h2 HY2 HX1 HK1 HR1
    go_wp2_with fail
    exact ⟨rfl, HF.out⟩
  | some T2 =>
  have h2 := HY2.out
  rw [hp2] at h2
  have h3' : e = _ := h2.2.1
  subst h3'
  have HX2 : Hid (WX B C y2 wp vd vs ve E T2) := h2.2.2
  have HK2 : Hid (Kp [80, 5] B w y2) := HK1.out.trans h2.1
  have hr2 := HR1.out
  rw [hp2] at hr2
  simp only [Option.bind_some] at hr2
  have HR2 : Hid (_ = R) := hr2
  clear hr2
  clear h2 HY2 hp2 HX1 HR1 HK1
  obtain ⟨A3, hA3⟩ : ∃ A, y2.alloc (.cells #[.string { data := #[59] }] 9) = A := ⟨_, rfl⟩
  have HP3 : Hid _ := put_new HX2.out [[59]] (by intro s hs; simp only [List.mem_cons, List.not_mem_nil, or_false] at hs; rcases hs with rfl <;> first | assumption | decide | omega) (by simp) hA3
  go_wp2_with fail
  refine Calls.mono HP3.out ?_
  intro e y3 hy
  have HY3 : Hid (WXO B C w wp vd vs ve E R e y3) := by
    show _
    have h5 := hy
    rw [HR2.out] at h5
    exact h5.on HK2.out
  clear hy HP3
  cases R with
  | none =>
    have h3' : e = _ := HY3.out.2
    subst h3'
    clear HX2 HK2 HR2
    go_wp2_with fail
    exact ⟨rfl, HY3.out⟩
  | some T9 =>
    have h3' : e = _ := HY3.out.2.1
    subst h3'
    clear HX2 HK2 HR2
    go_wp2_with fail
    refine bodyPost_end (results_none rfl _ _ _) rfl ?_
    exact HY3.out
set_option maxRecDepth 100000 in
set_option maxHeartbeats 4000000 in
theorem wcond_any {B C : Nat} {wp : Nat} {vd vs ve : Value} {E : List Exp} (hE : EOk E) {w : World} {T : By} (h : WX B C w wp vd vs ve E T) (s : By) (hs : s.length ≤ 140737488355328) (i : Int) : Calls Tryz.prog 133 #[.pointer (some ⟨wp, 0, none⟩), .string (X.str s), .int .i64 i] w (WXO B C w wp vd vs ve E (wcond E s i T)) := by
  obtain ⟨R, hR⟩ : ∃ R, wcond E s i T = R := ⟨_, rfl⟩
  rw [hR]
  have HR0 : Hid (((puts T [s, [40]]).bind fun T1 => (wexp E i T1).bind fun T2 => puts T2 [[41]]) = R) := hR
  have HX0 : Hid (WX B C w wp vd vs ve E T) := h
  have HK0 : Hid (Kp [80, 5] B w w) := Kp.refl _ _ _
  clear h hR
  go_enter Tryz.func133, Tryz.ntmps133
  obtain ⟨A1, hA1⟩ : ∃ A, w.alloc (.cells #[.string (X.str s), .string { data := #[40] }] 9) = A := ⟨_, rfl⟩
  have HP1 : Hid _ := put_new HX0.out [s, [40]] (by intro s hs; simp only [List.mem_cons, List.not_mem_nil, or_false] at hs; rcases hs with rfl | rfl <;> first | assumption | decide | omega) (by simp) hA1
  go_wp2_with fail
  refine Calls.mono HP1.out ?_
  intro e y1 hy
  have HY1 : Hid _ := hy
  clear hy HP1
  cases hp1 : puts T [s, [40]] with
  | none =>
    obtain rfl : none = R := by have := HR0.out; rw [hp1] at this; exact this
    have h2 := HY1.out
    rw [hp1] at h2
    have h3' : e = _ := h2.2
    subst h3'
    have HF : Hid (WXO B C w wp vd vs ve E none _ y1) := ⟨HK0.out.trans h2.1, h2.2⟩
    clear h2 HY1 HX0 HK0 HR0
    go_wp2_with fail
    exact ⟨rfl, HF.out⟩
  | some T1 =>
  have h2 := HY1.out
  rw [hp1] at h2
  have h3' : e = _ := h2.2.1
  subst h3'
  have HX1 : Hid (WX B C y1 wp vd vs ve E T1) := h2.2.2
  have HK1 : Hid (Kp [80, 5] B w y1) := HK0.out.trans h2.1
  have hr1 := HR0.out
  rw [hp1] at hr1
  simp only [Option.bind_some] at hr1
  have HR1 : Hid (_ = R) := hr1
  clear hr1
  clear h2 HY1 hp1 HX0 HR0 HK0

  have HP2 : Hid _ := wexp_any hE HX1.out i
  go_wp2_with fail
  refine Calls.mono HP2.out ?_
  intro e y2 hy
  have HY2 : Hid _ := hy
  clear hy HP2
  cases hp2 : wexp E i T1 with
  | none =>
    obtain rfl : none = R := by have := HR1.out; rw [hp2] at this; exact this
    have h2 := HY2.out
    rw [hp2] at h2
    have h3' : e = _ := h2.2
    subst h3'
    have HF : Hid (WXO B C w wp vd vs ve E none _ y2) := ⟨HK1.out.trans h2.1, h2.2⟩
    clear h2 HY2 HX1 HK1 HR1
    go_wp2_with fail
    exact ⟨rfl, HF.out⟩
  | some T2 =>
  have h2 := HY2.out
  rw [hp2] at h2
  have h3' : e = _ := h2.2.1
  subst h3'
  have HX2 : Hid (WX B C y2 wp vd vs ve E T2) := h2.2.2
  have HK2 : Hid (Kp [80, 5] B w y2) := HK1.out.trans h2.1
  have hr2 := HR1.out
  rw [hp2] at hr2
  simp only [Option.bind_some] at hr2
  have HR2 : Hid (_ = R) := hr2
  clear hr2
  clear h2 HY2 hp2 HX1 HR1 HK1
  obtain ⟨A3, hA3⟩ : ∃ A, y2.alloc (.cells #[.string { data := #[41] }] 9) = A := ⟨_, rfl⟩
  have HP3 : Hid _ := put_new HX2.out [[41]] (by intro s hs; simp only [List.mem_cons, List.not_mem_nil, or_false] at hs; rcases hs with rfl <;> first | assumption | decide | omega) (by simp) hA3
  go_wp2_with fail
  refine Calls.mono HP3.out ?_
  intro e y3 hy
  have HY3 : Hid (WXO B C w wp vd vs ve E R e y3) := by
    show _
    have h5 := hy
    rw [HR2.out] at h5
    exact h5.on HK2.out
  clear hy HP3
  cases R with
  | none =>
    have h3' : e = _ := HY3.out.2
    subst h3'
    clear HX2 HK2 HR2
    go_wp2_with fail
    exact ⟨rfl, HY3.out⟩
  | some T9 =>
    have h3' : e = _ := HY3.out.2.1
    subst h3'
    clear HX2 HK2 HR2
    go_wp2_with fail
    refine bodyPost_end (results_none rfl _ _ _) rfl ?_
    exact HY3.out
set_option maxRecDepth 100000 in
set_option maxHeartbeats 4000000 in
theorem wargs_any {B C : Nat} {wp : Nat} {vd vs ve : Value} {E : List Exp} (hE : EOk E) {w : World} {T : By} (h : WX B C w wp vd vs ve E T) {a : Option Addr} {c D : Nat} {l : List Int} (hl : w.ownsRow D 3 1 (.slice a l.length c) l.length (l.map iZ)) : Calls Tryz.prog 152 #[.pointer (some ⟨wp, 0, none⟩), .slice a l.length c] w (WXO B C w wp vd vs ve E (wargs E true l T)) := by
  obtain ⟨R, hR⟩ : ∃ R, wargs E true l T = R := ⟨_, rfl⟩
  rw [hR]
  have HRS : Hid (wargs E (decide (0 = 0)) (l.drop 0) T = R) := hR
  have HXS : Hid (WX B C w wp vd vs ve E T) := h
  have HLS : Hid (w.ownsRow D 3 1 (.slice a l.length c) l.length (l.map iZ)) := hl
  have HKS : Hid (Kp [80, 5] B w w) := Kp.refl _ _ _
  have hm2 : maxLen = 9223372036854775807 := rfl
  have hlm : l.length ≤ maxLen := by rcases hl.2 with ⟨e1, e2⟩ | ⟨g, cap, cur, e1, e2, e3, e4, e5, -⟩ <;> omega
  clear h hl hR
  go_enter Tryz.func152, Tryz.ntmps152
  go_wp2_with fail
  go_loopg [4, 5, 8] l.length (fun gg v4 v5 v8 wq => ∃ (k : Nat) (T' : By), gg = l.length - k ∧ v8 = .int .i64 (k : Int) ∧ k ≤ l.length ∧ Hid (wq.ownsRow D 3 1 (.slice a l.length c) l.length (l.map iZ)) ∧ Hid (WX B C wq wp vd vs ve E T') ∧ Hid (Kp [80, 5] B w wq) ∧ Hid (wargs E (decide (k = 0)) (l.drop k) T' = R))
  case atStart => exact ⟨0, T, rfl, rfl, Nat.zero_le _, HLS, HXS, HKS, HRS⟩
  case round =>
    obtain ⟨k, T', rfl, rfl, hk, HL, HX0, HK0, HR⟩ := hrel
    clear HRS HXS HLS HKS
    by_cases hkl : k < l.length
    · have hki : (k : Int) < l.length := by omega
      have hk0 : 0 ≤ (k : Int) := by omega
      obtain ⟨i, hik⟩ : ∃ i, l[k] = i := ⟨_, rfl⟩
      have hdk : l.drop k = i :: l.drop (k + 1) := by rw [← hik]; exact List.drop_eq_getElem_cons hkl
      have hR1 := HR.out
      rw [hdk] at hR1
      have HR1 : Hid (_ = R) := hR1
      obtain ⟨g, rfl, hck⟩ : ∃ g, a = some ⟨g, 0, none⟩ ∧ wr.cell? ⟨g, k, none⟩ = some (.int .i64 i) := by
        rcases HL.out.2 with ⟨e1, e2⟩ | ⟨g, cap, cur, e1, e2⟩
        · omega
        · injection e1 with e1 _ e3
          subst e1 e3
          have hc := World.ownsRow.cellAt HL.out k (by omega)
          refine ⟨g, rfl, ?_⟩
          rw [hc, List.getElem?_map, List.getElem?_eq_getElem hkl, hik]
          rfl
      clear hik hdk hR1 HR
      by_cases h0 : k = 0
      · subst h0
        have HR0 : Hid (((wexp E i T').bind fun T2 => wargs E false (l.drop 1) T2) = R) := HR1.out
        clear HR1
        have HP1 : Hid _ := wexp_any hE HX0.out i
        go_wp2_with fail
        refine Calls.mono HP1.out ?_
        intro e y1 hy
        have HY1 : Hid _ := hy
        clear hy HP1
        cases hp1 : wexp E i T' with
        | none =>
          obtain rfl : none = R := by have := HR0.out; rw [hp1] at this; exact this
          have h2 := HY1.out
          rw [hp1] at h2
          have h3' : e = _ := h2.2
          subst h3'
          have HF : Hid (WXO B C w wp vd vs ve E none _ y1) := ⟨HK0.out.trans h2.1, h2.2⟩
          clear h2 HY1 HX0 HK0 HR0
          go_wp2_with fail
          exact ⟨rfl, HF.out⟩
        | some T1 =>
        have h2 := HY1.out
        rw [hp1] at h2
        have h3' : e = _ := h2.2.1
        subst h3'
        have HX1 : Hid (WX B C y1 wp vd vs ve E T1) := h2.2.2
        have HK1 : Hid (Kp [80, 5] B w y1) := HK0.out.trans h2.1
        have hr1 := HR0.out
        rw [hp1] at hr1
        simp only [Option.bind_some] at hr1
        have HR1 : Hid (_ = R) := hr1
        clear hr1
        have HKq : Hid (Kp [80, 5] B wr y1) := h2.1
        clear h2 HY1 hp1 HX0 HR0 HK0
        have HLn : Hid (y1.ownsRow D 3 1 (.slice (some ⟨g, 0, none⟩) l.length c) l.length (l.map iZ)) := row_kp HL.out HKq.out (by decide)
        go_wp2_with fail
        go_roundg (l.length - (0 + 1))
        case measure => omega
        case rel => exact ⟨0 + 1, T1, rfl, by go_num, by omega, HLn, HX1, HK1, by show _ = _; rw [show decide (0 + 1 = 0) = false from by simp]; exact HR1.out⟩
      · have d0 : decide ((0 : Int) < (k : Int)) = true := by simp; omega
        have e0 : 0 < k := by omega
        have HR0 : Hid (((puts T' [[44]]).bind fun T1 => (wexp E i T1).bind fun T2 => wargs E false (l.drop (k + 1)) T2) = R) := by
          have := HR1.out
          rw [decide_eq_false h0] at this
          exact this
        clear HR1
        obtain ⟨A1, hA1⟩ : ∃ A, wr.alloc (.cells #[.string { data := #[44] }] 9) = A := ⟨_, rfl⟩
        have HP1 : Hid _ := put_new HX0.out [[44]] (by intro s hs; simp only [List.mem_cons, List.not_mem_nil, or_false] at hs; rcases hs with rfl <;> first | assumption | decide | omega) (by simp) hA1
        go_wp2_with fail
        refine Calls.mono HP1.out ?_
        intro e y1 hy
        have HY1 : Hid _ := hy
        clear hy HP1
        cases hp1 : puts T' [[44]] with
        | none =>
          obtain rfl : none = R := by have := HR0.out; rw [hp1] at this; exact this
          have h2 := HY1.out
          rw [hp1] at h2
          have h3' : e = _ := h2.2
          subst h3'
          have HF : Hid (WXO B C w wp vd vs ve E none _ y1) := ⟨HK0.out.trans h2.1, h2.2⟩
          clear h2 HY1 HX0 HK0 HR0
          go_wp2_with fail
          exact ⟨rfl, HF.out⟩
        | some T1 =>
        have h2 := HY1.out
        rw [hp1] at h2
        have h3' : e = _ := h2.2.1
        subst h3'
        have HX1 : Hid (WX B C y1 wp vd vs ve E T1) := h2.2.2
        have HK1 : Hid (Kp [80, 5] B w y1) := HK0.out.trans h2.1
        have hr1 := HR0.out
        rw [hp1] at hr1
        simp only [Option.bind_some] at hr1
        have HR1 : Hid (_ = R) := hr1
        clear hr1
        have HKq1 : Hid (Kp [80, 5] B wr y1) := h2.1
        clear h2 HY1 hp1 HX0 HR0 HK0

        have HP2 : Hid _ := wexp_any hE HX1.out i
        go_wp2_with fail
        refine Calls.mono HP2.out ?_
        intro e y2 hy
        have HY2 : Hid _ := hy
        clear hy HP2
        cases hp2 : wexp E i T1 with
        | none =>
          obtain rfl : none = R := by have := HR1.out; rw [hp2] at this; exact this
          have h2 := HY2.out
          rw [hp2] at h2
          have h3' : e = _ := h2.2
          subst h3'
          have HF : Hid (WXO B C w wp vd vs ve E none _ y2) := ⟨HK1.out.trans h2.1, h2.2⟩
          clear h2 HY2 HX1 HK1 HR1
          go_wp2_with fail
          exact ⟨rfl, HF.out⟩
        | some T2 =>
        have h2 := HY2.out
        rw [hp2] at h2
        have h3' : e = _ := h2.2.1
        subst h3'
        have HX2 : Hid (WX B C y2 wp vd vs ve E T2) := h2.2.2
        have HK2 : Hid (Kp [80, 5] B w y2) := HK1.out.trans h2.1
        have hr2 := HR1.out
        rw [hp2] at hr2
        simp only [Option.bind_some] at hr2
        have HR2 : Hid (_ = R) := hr2
        clear hr2
        have HKq : Hid (Kp [80, 5] B wr y2) := HKq1.out.trans h2.1
        clear h2 HY2 hp2 HX1 HR1 HK1
        have HLn : Hid (y2.ownsRow D 3 1 (.slice (some ⟨g, 0, none⟩) l.length c) l.length (l.map iZ)) := row_kp HL.out HKq.out (by decide)
        go_wp2_with fail
        go_roundg (l.length - (k + 1))
        case measure => omega
        case rel => exact ⟨k + 1, T2, rfl, by go_num, by omega, HLn, HX2, HK2, by show _ = _; rw [show decide (k + 1 = 0) = false from by simp]; exact HR2.out⟩
    · obtain rfl : k = l.length := by omega
      obtain rfl : some T' = R := by
        have := HR.out
        rw [List.drop_length] at this
        revert this
        cases (decide (l.length = 0)) <;> exact id
      have HF : Hid (WXO B C w wp vd vs ve E (some T') (.returned (.tuple #[])) wr) := ⟨HK0.out, rfl, HX0.out⟩
      clear HR HL HX0 HK0
      go_wp2_with fail
      refine bodyPost_end (results_none rfl _ _ _) rfl ?_
      exact HF.out
set_option maxRecDepth 100000 in
set_option maxHeartbeats 4000000 in
theorem wcall_any {B C : Nat} {wp : Nat} {vd vs ve : Value} {E : List Exp} (hE : EOk E) {w : World} {T : By} (h : WX B C w wp vd vs ve E T) {D : Nat} (p : Sx) (hp : SxR D w p) (hn : p.s.name.length ≤ 140737488355328) (hf : p.s.fn.length ≤ 140737488355328) : Calls Tryz.prog 131 #[.pointer (some ⟨wp, 0, none⟩), stV p] w (WXO B C w wp vd vs ve E (wcall E p.s T)) := by
  obtain ⟨⟨kd, nm, fn, e0, i0, la, lb, ll⟩, va, vb, vl⟩ := p
  obtain ⟨ra, -, -⟩ := hp
  dsimp only at hn hf ra
  obtain ⟨a, c, hv⟩ := row_form ra
  subst hv
  obtain ⟨R, hR⟩ : ∃ R, wcall E ⟨kd, nm, fn, e0, i0, la, lb, ll⟩ T = R := ⟨_, rfl⟩
  rw [hR]
  unfold wcall at hR
  unfold stV
  dsimp only at hR ⊢
  have HR : Hid (_ = R) := hR
  obtain ⟨y0, hY⟩ : ∃ Y, w.alloc (.cells #[.int .i64 kd, .string (X.str nm), .string (X.str fn), .int .i64 e0, .int .i64 i0, .slice a la.length c, vb, vl] 35) = Y := ⟨_, rfl⟩
  have HBY : Hid (Below w.heap.size w y0) := by show Below _ _ _; rw [← hY]; exact bl1 _ _
  have HB : Hid (y0.heap[w.heap.size]? = some (.cells #[.int .i64 kd, .string (X.str nm), .string (X.str fn), .int .i64 e0, .int .i64 i0, .slice a la.length c, vb, vl] 35)) := by show _ = _; rw [← hY]; exact heap_new _ _
  have HX0 : Hid (WX B C y0 wp vd vs ve E T) := h.below HBY.out
  have HK0 : Hid (Kp [80, 5] B w y0) := h.toKp HBY.out
  have HL0 : Hid (y0.ownsRow D 3 1 (.slice a la.length c) la.length (la.map iZ)) := row_thru' ra HBY.out
  have b0 := cell_blk HB.out 0 rfl
  have b1 := cell_blk HB.out 1 rfl
  have b2 := cell_blk HB.out 2 rfl
  have b3 := cell_blk HB.out 3 rfl
  have b4 := cell_blk HB.out 4 rfl
  have b5 := cell_blk HB.out 5 rfl
  have b6 := cell_blk HB.out 6 rfl
  have b7 := cell_blk HB.out 7 rfl
  have hd := str_emp nm
  clear h hR ra
  go_enter Tryz.func131, Tryz.ntmps131
  by_cases hnn : nm = []
  · have HQ : Hid (wcall3 E ⟨kd, nm, fn, e0, i0, la, lb, ll⟩ T = R) := (if_pos hnn).symm.trans HR.out
    rw [decide_eq_true hnn] at hd
    clear hnn HR
    have HQ2 := HQ.out
    unfold wcall3 at HQ2
    dsimp only at HQ2
    have HQ3 : Hid (_ = R) := HQ2
    clear HQ HQ2
    by_cases k5 : kd = 5
    · subst k5
      have HR0 : Hid (_ = R) := (if_pos rfl).symm.trans HQ3.out
      clear HQ3
      obtain ⟨A1, hA1⟩ : ∃ A, y0.alloc (.cells #[.string { data := #[103, 101, 116] }, .string { data := #[40] }, .string (X.str fn)] 9) = A := ⟨_, rfl⟩
      have HP1 : Hid _ := put_new HX0.out [[103, 101, 116], [40], fn] (by intro s hs; simp only [List.mem_cons, List.not_mem_nil, or_false] at hs; rcases hs with rfl | rfl | rfl <;> first | assumption | decide | omega) (by simp) hA1
      go_wp2_with fail
      refine Calls.mono HP1.out ?_
      intro e y1 hy
      have HY1 : Hid _ := hy
      clear hy HP1
      cases hp1 : puts T [[103, 101, 116], [40], fn] with
      | none =>
        obtain rfl : none = R := by have := HR0.out; rw [hp1] at this; exact this
        have h2 := HY1.out
        rw [hp1] at h2
        have h3' : e = _ := h2.2
        subst h3'
        have HF : Hid (WXO B C w wp vd vs ve E none _ y1) := ⟨HK0.out.trans h2.1, h2.2⟩
        clear h2 HY1 HX0 HK0 HR0
        go_wp2_with fail
        exact ⟨rfl, HF.out⟩
      | some T1 =>
      have h2 := HY1.out
      rw [hp1] at h2
      have h3' : e = _ := h2.2.1
      subst h3'
      have HX1 : Hid (WX B C y1 wp vd vs ve E T1) := h2.2.2
      have HK1 : Hid (Kp [80, 5] B w y1) := HK0.out.trans h2.1
      have hr1 := HR0.out
      rw [hp1] at hr1
      simp only [Option.bind_some] at hr1
      have HR1 : Hid (_ = R) := hr1
      clear hr1
      have HL1 : Hid (y1.ownsRow D 3 1 (.slice a la.length c) la.length (la.map iZ)) := row_kp HL0.out h2.1 (by decide)
      have HB1 : Hid (y1.heap[w.heap.size]? = some (.cells #[.int .i64 (5), .string (X.str nm), .string (X.str fn), .int .i64 e0, .int .i64 i0, .slice a la.length c, vb, vl] 35)) := h2.1.keep _ _ _ _ HB.out (by decide)
      have b0 := cell_blk HB1.out 0 rfl
      have b1 := cell_blk HB1.out 1 rfl
      have b2 := cell_blk HB1.out 2 rfl
      have b3 := cell_blk HB1.out 3 rfl
      have b4 := cell_blk HB1.out 4 rfl
      have b5 := cell_blk HB1.out 5 rfl
      have b6 := cell_blk HB1.out 6 rfl
      have b7 := cell_blk HB1.out 7 rfl
      clear h2 HY1 hp1 HX0 HR0 HK0
      obtain ⟨A2, hA2⟩ : ∃ A, y1.alloc (.cells #[.string { data := #[41] }, .string { data := #[59] }] 9) = A := ⟨_, rfl⟩
      have HP2 : Hid _ := put_new HX1.out [[41], [59]] (by intro s hs; simp only [List.mem_cons, List.not_mem_nil, or_false] at hs; rcases hs with rfl | rfl <;> first | assumption | decide | omega) (by simp) hA2
      go_wp2_with fail
      refine Calls.mono HP2.out ?_
      intro e y2 hy
      have HY2 : Hid (WXO B C w wp vd vs ve E R e y2) := by
        show _
        have h5 := hy
        rw [HR1.out] at h5
        exact h5.on HK1.out
      clear hy HP2
      cases R with
      | none =>
        have h3' : e = _ := HY2.out.2
        subst h3'
        clear HX1 HK1 HR1
        go_wp2_with fail
        exact ⟨rfl, HY2.out⟩
      | some T9 =>
        have h3' : e = _ := HY2.out.2.1
        subst h3'
        clear HX1 HK1 HR1
        go_wp2_with fail
        refine bodyPost_end (results_none rfl _ _ _) rfl ?_
        exact HY2.out
    have HQ4 : Hid (_ = R) := (if_neg k5).symm.trans HQ3.out
    clear HQ3
    have HQ3 := HQ4
    clear HQ4
    have d5 : (kd == 5) = false := by simpa using k5
    by_cases k6 : kd = 6
    · subst k6
      have HR0 : Hid (_ = R) := (if_pos rfl).symm.trans HQ3.out
      clear HQ3
      obtain ⟨A1, hA1⟩ : ∃ A, y0.alloc (.cells #[.string { data := #[112, 117, 116] }, .string { data := #[40] }, .string (X.str fn), .string { data := #[44] }] 9) = A := ⟨_, rfl⟩
      have HP1 : Hid _ := put_new HX0.out [[112, 117, 116], [40], fn, [44]] (by intro s hs; simp only [List.mem_cons, List.not_mem_nil, or_false] at hs; rcases hs with rfl | rfl | rfl | rfl <;> first | assumption | decide | omega) (by simp) hA1
      go_wp2_with fail
      refine Calls.mono HP1.out ?_
      intro e y1 hy
      have HY1 : Hid _ := hy
      clear hy HP1
      cases hp1 : puts T [[112, 117, 116], [40], fn, [44]] with
      | none =>
        obtain rfl : none = R := by have := HR0.out; rw [hp1] at this; exact this
        have h2 := HY1.out
        rw [hp1] at h2
        have h3' : e = _ := h2.2
        subst h3'
        have HF : Hid (WXO B C w wp vd vs ve E none _ y1) := ⟨HK0.out.trans h2.1, h2.2⟩
        clear h2 HY1 HX0 HK0 HR0
        go_wp2_with fail
        exact ⟨rfl, HF.out⟩
      | some T1 =>
      have h2 := HY1.out
      rw [hp1] at h2
      have h3' : e = _ := h2.2.1
      subst h3'
      have HX1 : Hid (WX B C y1 wp vd vs ve E T1) := h2.2.2
      have HK1 : Hid (Kp [80, 5] B w y1) := HK0.out.trans h2.1
      have hr1 := HR0.out
      rw [hp1] at hr1
      simp only [Option.bind_some] at hr1
      have HR1 : Hid (_ = R) := hr1
      clear hr1
      have HL1 : Hid (y1.ownsRow D 3 1 (.slice a la.length c) la.length (la.map iZ)) := row_kp HL0.out h2.1 (by decide)
      have HB1 : Hid (y1.heap[w.heap.size]? = some (.cells #[.int .i64 (6), .string (X.str nm), .string (X.str fn), .int .i64 e0, .int .i64 i0, .slice a la.length c, vb, vl] 35)) := h2.1.keep _ _ _ _ HB.out (by decide)
      have b0 := cell_blk HB1.out 0 rfl
      have b1 := cell_blk HB1.out 1 rfl
      have b2 := cell_blk HB1.out 2 rfl
      have b3 := cell_blk HB1.out 3 rfl
      have b4 := cell_blk HB1.out 4 rfl
      have b5 := cell_blk HB1.out 5 rfl
      have b6 := cell_blk HB1.out 6 rfl
      have b7 := cell_blk HB1.out 7 rfl
      clear h2 HY1 hp1 HX0 HR0 HK0

      have HP2 : Hid _ := wexp_any hE HX1.out e0
      go_wp2_with fail
      refine Calls.mono HP2.out ?_
      intro e y2 hy
      have HY2 : Hid _ := hy
      clear hy HP2
      cases hp2 : wexp E e0 T1 with
      | none =>
        obtain rfl : none = R := by have := HR1.out; rw [hp2] at this; exact this
        have h2 := HY2.out
        rw [hp2] at h2
        have h3' : e = _ := h2.2
        subst h3'
        have HF : Hid (WXO B C w wp vd vs ve E none _ y2) := ⟨HK1.out.trans h2.1, h2.2⟩
        clear h2 HY2 HX1 HK1 HR1
        go_wp2_with fail
        exact ⟨rfl, HF.out⟩
      | some T2 =>
      have h2 := HY2.out
      rw [hp2] at h2
      have h3' : e = _ := h2.2.1
      subst h3'
      have HX2 : Hid (WX B C y2 wp vd vs ve E T2) := h2.2.2
      have HK2 : Hid (Kp [80, 5] B w y2) := HK1.out.trans h2.1
      have hr2 := HR1.out
      rw [hp2] at hr2
      simp only [Option.bind_some] at hr2
      have HR2 : Hid (_ = R) := hr2
      clear hr2
      have HL2 : Hid (y2.ownsRow D 3 1 (.slice a la.length c) la.length (la.map iZ)) := row_kp HL1.out h2.1 (by decide)
      have HB2 : Hid (y2.heap[w.heap.size]? = some (.cells #[.int .i64 (6), .string (X.str nm), .string (X.str fn), .int .i64 e0, .int .i64 i0, .slice a la.length c, vb, vl] 35)) := h2.1.keep _ _ _ _ HB1.out (by decide)
      have b0 := cell_blk HB2.out 0 rfl
      have b1 := cell_blk HB2.out 1 rfl
      have b2 := cell_blk HB2.out 2 rfl
      have b3 := cell_blk HB2.out 3 rfl
      have b4 := cell_blk HB2.out 4 rfl
      have b5 := cell_blk HB2.out 5 rfl
      have b6 := cell_blk HB2.out 6 rfl
      have b7 := cell_blk HB2.out 7 rfl
      clear h2 HY2 hp2 HX1 HR1 HK1
      obtain ⟨A3, hA3⟩ : ∃ A, y2.alloc (.cells #[.string { data := #[41] }, .string { data := #[59] }] 9) = A := ⟨_, rfl⟩
      have HP3 : Hid _ := put_new HX2.out [[41], [59]] (by intro s hs; simp only [List.mem_cons, List.not_mem_nil, or_false] at hs; rcases hs with rfl | rfl <;> first | assumption | decide | omega) (by simp) hA3
      go_wp2_with fail
      refine Calls.mono HP3.out ?_
      intro e y3 hy
      have HY3 : Hid (WXO B C w wp vd vs ve E R e y3) := by
        show _
        have h5 := hy
        rw [HR2.out] at h5
        exact h5.on HK2.out
      clear hy HP3
      cases R with
      | none =>
        have h3' : e = _ := HY3.out.2
        subst h3'
        clear HX2 HK2 HR2
        go_wp2_with fail
        exact ⟨rfl, HY3.out⟩
      | some T9 =>
        have h3' : e = _ := HY3.out.2.1
        subst h3'
        clear HX2 HK2 HR2
        go_wp2_with fail
        refine bodyPost_end (results_none rfl _ _ _) rfl ?_
        exact HY3.out
    have HQ4 : Hid (_ = R) := (if_neg k6).symm.trans HQ3.out
    clear HQ3
    have HQ3 := HQ4
    clear HQ4
    have d6 : (kd == 6) = false := by simpa using k6
    have HR0 := HQ3
    clear HQ3
    obtain ⟨A1, hA1⟩ : ∃ A, y0.alloc (.cells #[.string (X.str fn), .string { data := #[40] }] 9) = A := ⟨_, rfl⟩
    have HP1 : Hid _ := put_new HX0.out [fn, [40]] (by intro s hs; simp only [List.mem_cons, List.not_mem_nil, or_false] at hs; rcases hs with rfl | rfl <;> first | assumption | decide | omega) (by simp) hA1
    go_wp2_with fail
    refine Calls.mono HP1.out ?_
    intro e y1 hy
    have HY1 : Hid _ := hy
    clear hy HP1
    cases hp1 : puts T [fn, [40]] with
    | none =>
      obtain rfl : none = R := by have := HR0.out; rw [hp1] at this; exact this
      have h2 := HY1.out
      rw [hp1] at h2
      have h3' : e = _ := h2.2
      subst h3'
      have HF : Hid (WXO B C w wp vd vs ve E none _ y1) := ⟨HK0.out.trans h2.1, h2.2⟩
      clear h2 HY1 HX0 HK0 HR0
      go_wp2_with fail
      exact ⟨rfl, HF.out⟩
    | some T1 =>
    have h2 := HY1.out
    rw [hp1] at h2
    have h3' : e = _ := h2.2.1
    subst h3'
    have HX1 : Hid (WX B C y1 wp vd vs ve E T1) := h2.2.2
    have HK1 : Hid (Kp [80, 5] B w y1) := HK0.out.trans h2.1
    have hr1 := HR0.out
    rw [hp1] at hr1
    simp only [Option.bind_some] at hr1
    have HR1 : Hid (_ = R) := hr1
    clear hr1
    have HL1 : Hid (y1.ownsRow D 3 1 (.slice a la.length c) la.length (la.map iZ)) := row_kp HL0.out h2.1 (by decide)
    have HB1 : Hid (y1.heap[w.heap.size]? = some (.cells #[.int .i64 kd, .string (X.str nm), .string (X.str fn), .int .i64 e0, .int .i64 i0, .slice a la.length c, vb, vl] 35)) := h2.1.keep _ _ _ _ HB.out (by decide)
    have b0 := cell_blk HB1.out 0 rfl
    have b1 := cell_blk HB1.out 1 rfl
    have b2 := cell_blk HB1.out 2 rfl
    have b3 := cell_blk HB1.out 3 rfl
    have b4 := cell_blk HB1.out 4 rfl
    have b5 := cell_blk HB1.out 5 rfl
    have b6 := cell_blk HB1.out 6 rfl
    have b7 := cell_blk HB1.out 7 rfl
    clear h2 HY1 hp1 HX0 HR0 HK0

    have HP2 : Hid _ := wargs_any hE HX1.out HL1.out
    go_wp2_with fail
    refine Calls.mono HP2.out ?_
    intro e y2 hy
    have HY2 : Hid _ := hy
    clear hy HP2
    cases hp2 : wargs E true la T1 with
    | none =>
      obtain rfl : none = R := by have := HR1.out; rw [hp2] at this; exact this
      have h2 := HY2.out
      rw [hp2] at h2
      have h3' : e = _ := h2.2
      subst h3'
      have HF : Hid (WXO B C w wp vd vs ve E none _ y2) := ⟨HK1.out.trans h2.1, h2.2⟩
      clear h2 HY2 HX1 HK1 HR1
      go_wp2_with fail
      exact ⟨rfl, HF.out⟩
    | some T2 =>
    have h2 := HY2.out
    rw [hp2] at h2
    have h3' : e = _ := h2.2.1
    subst h3'
    have HX2 : Hid (WX B C y2 wp vd vs ve E T2) := h2.2.2
    have HK2 : Hid (Kp [80, 5] B w y2) := HK1.out.trans h2.1
    have hr2 := HR1.out
    rw [hp2] at hr2
    simp only [Option.bind_some] at hr2
    have HR2 : Hid (_ = R) := hr2
    clear hr2
    have HL2 : Hid (y2.ownsRow D 3 1 (.slice a la.length c) la.length (la.map iZ)) := row_kp HL1.out h2.1 (by decide)
    have HB2 : Hid (y2.heap[w.heap.size]? = some (.cells #[.int .i64 kd, .string (X.str nm), .string (X.str fn), .int .i64 e0, .int .i64 i0, .slice a la.length c, vb, vl] 35)) := h2.1.keep _ _ _ _ HB1.out (by decide)
    have b0 := cell_blk HB2.out 0 rfl
    have b1 := cell_blk HB2.out 1 rfl
    have b2 := cell_blk HB2.out 2 rfl
    have b3 := cell_blk HB2.out 3 rfl
    have b4 := cell_blk HB2.out 4 rfl
    have b5 := cell_blk HB2.out 5 rfl
    have b6 := cell_blk HB2.out 6 rfl
    have b7 := cell_blk HB2.out 7 rfl
    clear h2 HY2 hp2 HX1 HR1 HK1
    obtain ⟨A3, hA3⟩ : ∃ A, y2.alloc (.cells #[.string { data := #[41] }, .string { data := #[59] }] 9) = A := ⟨_, rfl⟩
    have HP3 : Hid _ := put_new HX2.out [[41], [59]] (by intro s hs; simp only [List.mem_cons, List.not_mem_nil, or_false] at hs; rcases hs with rfl | rfl <;> first | assumption | decide | omega) (by simp) hA3
    go_wp2_with fail
    refine Calls.mono HP3.out ?_
    intro e y3 hy
    have HY3 : Hid (WXO B C w wp vd vs ve E R e y3) := by
      show _
      have h5 := hy
      rw [HR2.out] at h5
      exact h5.on HK2.out
    clear hy HP3
    cases R with
    | none =>
      have h3' : e = _ := HY3.out.2
      subst h3'
      clear HX2 HK2 HR2
      go_wp2_with fail
      exact ⟨rfl, HY3.out⟩
    | some T9 =>
      have h3' : e = _ := HY3.out.2.1
      subst h3'
      clear HX2 HK2 HR2
      go_wp2_with fail
      refine bodyPost_end (results_none rfl _ _ _) rfl ?_
      exact HY3.out
  · have HR0 : Hid (((puts T [nm, [61]]).bind fun T1 => wcall3 E ⟨kd, nm, fn, e0, i0, la, lb, ll⟩ T1) = R) := (if_neg hnn).symm.trans HR.out
    rw [decide_eq_false hnn] at hd
    clear hnn HR
    obtain ⟨A1, hA1⟩ : ∃ A, y0.alloc (.cells #[.string (X.str nm), .string { data := #[61] }] 9) = A := ⟨_, rfl⟩
    have HP1 : Hid _ := put_new HX0.out [nm, [61]] (by intro s hs; simp only [List.mem_cons, List.not_mem_nil, or_false] at hs; rcases hs with rfl | rfl <;> first | assumption | decide | omega) (by simp) hA1
    go_wp2_with fail
    refine Calls.mono HP1.out ?_
    intro e y1 hy
    have HY1 : Hid _ := hy
    clear hy HP1
    cases hp1 : puts T [nm, [61]] with
    | none =>
      obtain rfl : none = R := by have := HR0.out; rw [hp1] at this; exact this
      have h2 := HY1.out
      rw [hp1] at h2
      have h3' : e = _ := h2.2
      subst h3'
      have HF : Hid (WXO B C w wp vd vs ve E none _ y1) := ⟨HK0.out.trans h2.1, h2.2⟩
      clear h2 HY1 HX0 HK0 HR0
      go_wp2_with fail
      exact ⟨rfl, HF.out⟩
    | some T1 =>
    have h2 := HY1.out
    rw [hp1] at h2
    have h3' : e = _ := h2.2.1
    subst h3'
    have HX1 : Hid (WX B C y1 wp vd vs ve E T1) := h2.2.2
    have HK1 : Hid (Kp [80, 5] B w y1) := HK0.out.trans h2.1
    have hr1 := HR0.out
    rw [hp1] at hr1
    simp only [Option.bind_some] at hr1
    have HR1 : Hid (_ = R) := hr1
    clear hr1
    have HL1 : Hid (y1.ownsRow D 3 1 (.slice a la.length c) la.length (la.map iZ)) := row_kp HL0.out h2.1 (by decide)
    have HB1 : Hid (y1.heap[w.heap.size]? = some (.cells #[.int .i64 kd, .string (X.str nm), .string (X.str fn), .int .i64 e0, .int .i64 i0, .slice a la.length c, vb, vl] 35)) := h2.1.keep _ _ _ _ HB.out (by decide)
    have b0 := cell_blk HB1.out 0 rfl
    have b1 := cell_blk HB1.out 1 rfl
    have b2 := cell_blk HB1.out 2 rfl
    have b3 := cell_blk HB1.out 3 rfl
    have b4 := cell_blk HB1.out 4 rfl
    have b5 := cell_blk HB1.out 5 rfl
    have b6 := cell_blk HB1.out 6 rfl
    have b7 := cell_blk HB1.out 7 rfl
    clear h2 HY1 hp1 HX0 HR0 HK0
    have HQ := HR1
    clear HR1
    have HQ2 := HQ.out
    unfold wcall3 at HQ2
    dsimp only at HQ2
    have HQ3 : Hid (_ = R) := HQ2
    clear HQ HQ2
    by_cases k5 : kd = 5
    · subst k5
      have HRq : Hid (_ = R) := (if_pos rfl).symm.trans HQ3.out
      clear HQ3
      obtain ⟨A2, hA2⟩ : ∃ A, y1.alloc (.cells #[.string { data := #[103, 101, 116] }, .string { data := #[40] }, .string (X.str fn)] 9) = A := ⟨_, rfl⟩
      have HP2 : Hid _ := put_new HX1.out [[103, 101, 116], [40], fn] (by intro s hs; simp only [List.mem_cons, List.not_mem_nil, or_false] at hs; rcases hs with rfl | rfl | rfl <;> first | assumption | decide | omega) (by simp) hA2
      go_wp2_with fail
      refine Calls.mono HP2.out ?_
      intro e y2 hy
      have HY2 : Hid _ := hy
      clear hy HP2
      cases hp2 : puts T1 [[103, 101, 116], [40], fn] with
      | none =>
        obtain rfl : none = R := by have := HRq.out; rw [hp2] at this; exact this
        have h2 := HY2.out
        rw [hp2] at h2
        have h3' : e = _ := h2.2
        subst h3'
        have HF : Hid (WXO B C w wp vd vs ve E none _ y2) := ⟨HK1.out.trans h2.1, h2.2⟩
        clear h2 HY2 HX1 HK1 HRq
        go_wp2_with fail
        exact ⟨rfl, HF.out⟩
      | some T2 =>
      have h2 := HY2.out
      rw [hp2] at h2
      have h3' : e = _ := h2.2.1
      subst h3'
      have HX2 : Hid (WX B C y2 wp vd vs ve E T2) := h2.2.2
      have HK2 : Hid (Kp [80, 5] B w y2) := HK1.out.trans h2.1
      have hr2 := HRq.out
      rw [hp2] at hr2
      simp only [Option.bind_some] at hr2
      have HR2 : Hid (_ = R) := hr2
      clear hr2
      have HL2 : Hid (y2.ownsRow D 3 1 (.slice a la.length c) la.length (la.map iZ)) := row_kp HL1.out h2.1 (by decide)
      have HB2 : Hid (y2.heap[w.heap.size]? = some (.cells #[.int .i64 (5), .string (X.str nm), .string (X.str fn), .int .i64 e0, .int .i64 i0, .slice a la.length c, vb, vl] 35)) := h2.1.keep _ _ _ _ HB1.out (by decide)
      have b0 := cell_blk HB2.out 0 rfl
      have b1 := cell_blk HB2.out 1 rfl
      have b2 := cell_blk HB2.out 2 rfl
      have b3 := cell_blk HB2.out 3 rfl
      have b4 := cell_blk HB2.out 4 rfl
      have b5 := cell_blk HB2.out 5 rfl
      have b6 := cell_blk HB2.out 6 rfl
      have b7 := cell_blk HB2.out 7 rfl
      clear h2 HY2 hp2 HX1 HRq HK1
      obtain ⟨A3, hA3⟩ : ∃ A, y2.alloc (.cells #[.string { data := #[41] }, .string { data := #[59] }] 9) = A := ⟨_, rfl⟩
      have HP3 : Hid _ := put_new HX2.out [[41], [59]] (by intro s hs; simp only [List.mem_cons, List.not_mem_nil, or_false] at hs; rcases hs with rfl | rfl <;> first | assumption | decide | omega) (by simp) hA3
      go_wp2_with fail
      refine Calls.mono HP3.out ?_
      intro e y3 hy
      have HY3 : Hid (WXO B C w wp vd vs ve E R e y3) := by
        show _
        have h5 := hy
        rw [HR2.out] at h5
        exact h5.on HK2.out
      clear hy HP3
      cases R with
      | none =>
        have h3' : e = _ := HY3.out.2
        subst h3'
        clear HX2 HK2 HR2
        go_wp2_with fail
        exact ⟨rfl, HY3.out⟩
      | some T9 =>
        have h3' : e = _ := HY3.out.2.1
        subst h3'
        clear HX2 HK2 HR2
        go_wp2_with fail
        refine bodyPost_end (results_none rfl _ _ _) rfl ?_
        exact HY3.out
    have HQ4 : Hid (_ = R) := (if_neg k5).symm.trans HQ3.out
    clear HQ3
    have HQ3 := HQ4
    clear HQ4
    have d5 : (kd == 5) = false := by simpa using k5
    by_cases k6 : kd = 6
    · subst k6
      have HRq : Hid (_ = R) := (if_pos rfl).symm.trans HQ3.out
      clear HQ3
      obtain ⟨A2, hA2⟩ : ∃ A, y1.alloc (.cells #[.string { data := #[112, 117, 116] }, .string { data := #[40] }, .string (X.str fn), .string { data := #[44] }] 9) = A := ⟨_, rfl⟩
      have HP2 : Hid _ := put_new HX1.out [[112, 117, 116], [40], fn, [44]] (by intro s hs; simp only [List.mem_cons, List.not_mem_nil, or_false] at hs; rcases hs with rfl | rfl | rfl | rfl <;> first | assumption | decide | omega) (by simp) hA2
      go_wp2_with fail
      refine Calls.mono HP2.out ?_
      intro e y2 hy
      have HY2 : Hid _ := hy
      clear hy HP2
      cases hp2 : puts T1 [[112, 117, 116], [40], fn, [44]] with
      | none =>
        obtain rfl : none = R := by have := HRq.out; rw [hp2] at this; exact this
        have h2 := HY2.out
        rw [hp2] at h2
        have h3' : e = _ := h2.2
        subst h3'
        have HF : Hid (WXO B C w wp vd vs ve E none _ y2) := ⟨HK1.out.trans h2.1, h2.2⟩
        clear h2 HY2 HX1 HK1 HRq
        go_wp2_with fail
        exact ⟨rfl, HF.out⟩
      | some T2 =>
      have h2 := HY2.out
      rw [hp2] at h2
      have h3' : e = _ := h2.2.1
      subst h3'
      have HX2 : Hid (WX B C y2 wp vd vs ve E T2) := h2.2.2
      have HK2 : Hid (Kp [80, 5] B w y2) := HK1.out.trans h2.1
      have hr2 := HRq.out
      rw [hp2] at hr2
      simp only [Option.bind_some] at hr2
      have HR2 : Hid (_ = R) := hr2
      clear hr2
      have HL2 : Hid (y2.ownsRow D 3 1 (.slice a la.length c) la.length (la.map iZ)) := row_kp HL1.out h2.1 (by decide)
      have HB2 : Hid (y2.heap[w.heap.size]? = some (.cells #[.int .i64 (6), .string (X.str nm), .string (X.str fn), .int .i64 e0, .int .i64 i0, .slice a la.length c, vb, vl] 35)) := h2.1.keep _ _ _ _ HB1.out (by decide)
      have b0 := cell_blk HB2.out 0 rfl
      have b1 := cell_blk HB2.out 1 rfl
      have b2 := cell_blk HB2.out 2 rfl
      have b3 := cell_blk HB2.out 3 rfl
      have b4 := cell_blk HB2.out 4 rfl
      have b5 := cell_blk HB2.out 5 rfl
      have b6 := cell_blk HB2.out 6 rfl
      have b7 := cell_blk HB2.out 7 rfl
      clear h2 HY2 hp2 HX1 HRq HK1

      have HP3 : Hid _ := wexp_any hE HX2.out e0
      go_wp2_with fail
      refine Calls.mono HP3.out ?_
      intro e y3 hy
      have HY3 : Hid _ := hy
      clear hy HP3
      cases hp3 : wexp E e0 T2 with
      | none =>
        obtain rfl : none = R := by have := HR2.out; rw [hp3] at this; exact this
        have h2 := HY3.out
        rw [hp3] at h2
        have h3' : e = _ := h2.2
        subst h3'
        have HF : Hid (WXO B C w wp vd vs ve E none _ y3) := ⟨HK2.out.trans h2.1, h2.2⟩
        clear h2 HY3 HX2 HK2 HR2
        go_wp2_with fail
        exact ⟨rfl, HF.out⟩
      | some T3 =>
      have h2 := HY3.out
      rw [hp3] at h2
      have h3' : e = _ := h2.2.1
      subst h3'
      have HX3 : Hid (WX B C y3 wp vd vs ve E T3) := h2.2.2
      have HK3 : Hid (Kp [80, 5] B w y3) := HK2.out.trans h2.1
      have hr3 := HR2.out
      rw [hp3] at hr3
      simp only [Option.bind_some] at hr3
      have HR3 : Hid (_ = R) := hr3
      clear hr3
      have HL3 : Hid (y3.ownsRow D 3 1 (.slice a la.length c) la.length (la.map iZ)) := row_kp HL2.out h2.1 (by decide)
      have HB3 : Hid (y3.heap[w.heap.size]? = some (.cells #[.int .i64 (6), .string (X.str nm), .string (X.str fn), .int .i64 e0, .int .i64 i0, .slice a la.length c, vb, vl] 35)) := h2.1.keep _ _ _ _ HB2.out (by decide)
      have b0 := cell_blk HB3.out 0 rfl
      have b1 := cell_blk HB3.out 1 rfl
      have b2 := cell_blk HB3.out 2 rfl
      have b3 := cell_blk HB3.out 3 rfl
      have b4 := cell_blk HB3.out 4 rfl
      have b5 := cell_blk HB3.out 5 rfl
      have b6 := cell_blk HB3.out 6 rfl
      have b7 := cell_blk HB3.out 7 rfl
      clear h2 HY3 hp3 HX2 HR2 HK2
      obtain ⟨A4, hA4⟩ : ∃ A, y3.alloc (.cells #[.string { data := #[41] }, .string { data := #[59] }] 9) = A := ⟨_, rfl⟩
      have HP4 : Hid _ := put_new HX3.out [[41], [59]] (by intro s hs; simp only [List.mem_cons, List.not_mem_nil, or_false] at hs; rcases hs with rfl | rfl <;> first | assumption | decide | omega) (by simp) hA4
      go_wp2_with fail
      refine Calls.mono HP4.out ?_
      intro e y4 hy
      have HY4 : Hid (WXO B C w wp vd vs ve E R e y4) := by
        show _
        have h5 := hy
        rw [HR3.out] at h5
        exact h5.on HK3.out
      clear hy HP4
      cases R with
      | none =>
        have h3' : e = _ := HY4.out.2
        subst h3'
        clear HX3 HK3 HR3
        go_wp2_with fail
        exact ⟨rfl, HY4.out⟩
      | some T9 =>
        have h3' : e = _ := HY4.out.2.1
        subst h3'
        clear HX3 HK3 HR3
        go_wp2_with fail
        refine bodyPost_end (results_none rfl _ _ _) rfl ?_
        exact HY4.out
    have HQ4 : Hid (_ = R) := (if_neg k6).symm.trans HQ3.out
    clear HQ3
    have HQ3 := HQ4
    clear HQ4
    have d6 : (kd == 6) = false := by simpa using k6
    have HRq := HQ3
    clear HQ3
    obtain ⟨A2, hA2⟩ : ∃ A, y1.alloc (.cells #[.string (X.str fn), .string { data := #[40] }] 9) = A := ⟨_, rfl⟩
    have HP2 : Hid _ := put_new HX1.out [fn, [40]] (by intro s hs; simp only [List.mem_cons, List.not_mem_nil, or_false] at hs; rcases hs with rfl | rfl <;> first | assumption | decide | omega) (by simp) hA2
    go_wp2_with fail
    refine Calls.mono HP2.out ?_
    intro e y2 hy
    have HY2 : Hid _ := hy
    clear hy HP2
    cases hp2 : puts T1 [fn, [40]] with
    | none =>
      obtain rfl : none = R := by have := HRq.out; rw [hp2] at this; exact this
      have h2 := HY2.out
      rw [hp2] at h2
      have h3' : e = _ := h2.2
      subst h3'
      have HF : Hid (WXO B C w wp vd vs ve E none _ y2) := ⟨HK1.out.trans h2.1, h2.2⟩
      clear h2 HY2 HX1 HK1 HRq
      go_wp2_with fail
      exact ⟨rfl, HF.out⟩
    | some T2 =>
    have h2 := HY2.out
    rw [hp2] at h2
    have h3' : e = _ := h2.2.1
    subst h3'
    have HX2 : Hid (WX B C y2 wp vd vs ve E T2) := h2.2.2
    have HK2 : Hid (Kp [80, 5] B w y2) := HK1.out.trans h2.1
    have hr2 := HRq.out
    rw [hp2] at hr2
    simp only [Option.bind_some] at hr2
    have HR2 : Hid (_ = R) := hr2
    clear hr2
    have HL2 : Hid (y2.ownsRow D 3 1 (.slice a la.length c) la.length (la.map iZ)) := row_kp HL1.out h2.1 (by decide)
    have HB2 : Hid (y2.heap[w.heap.size]? = some (.cells #[.int .i64 kd, .string (X.str nm), .string (X.str fn), .int .i64 e0, .int .i64 i0, .slice a la.length c, vb, vl] 35)) := h2.1.keep _ _ _ _ HB1.out (by decide)
    have b0 := cell_blk HB2.out 0 rfl
    have b1 := cell_blk HB2.out 1 rfl
    have b2 := cell_blk HB2.out 2 rfl
    have b3 := cell_blk HB2.out 3 rfl
    have b4 := cell_blk HB2.out 4 rfl
    have b5 := cell_blk HB2.out 5 rfl
    have b6 := cell_blk HB2.out 6 rfl
    have b7 := cell_blk HB2.out 7 rfl
    clear h2 HY2 hp2 HX1 HRq HK1

    have HP3 : Hid _ := wargs_any hE HX2.out HL2.out
    go_wp2_with fail
    refine Calls.mono HP3.out ?_
    intro e y3 hy
    have HY3 : Hid _ := hy
    clear hy HP3
    cases hp3 : wargs E true la T2 with
    | none =>
      obtain rfl : none = R := by have := HR2.out; rw [hp3] at this; exact this
      have h2 := HY3.out
      rw [hp3] at h2
      have h3' : e = _ := h2.2
      subst h3'
      have HF : Hid (WXO B C w wp vd vs ve E none _ y3) := ⟨HK2.out.trans h2.1, h2.2⟩
      clear h2 HY3 HX2 HK2 HR2
      go_wp2_with fail
      exact ⟨rfl, HF.out⟩
    | some T3 =>
    have h2 := HY3.out
    rw [hp3] at h2
    have h3' : e = _ := h2.2.1
    subst h3'
    have HX3 : Hid (WX B C y3 wp vd vs ve E T3) := h2.2.2
    have HK3 : Hid (Kp [80, 5] B w y3) := HK2.out.trans h2.1
    have hr3 := HR2.out
    rw [hp3] at hr3
    simp only [Option.bind_some] at hr3
    have HR3 : Hid (_ = R) := hr3
    clear hr3
    have HL3 : Hid (y3.ownsRow D 3 1 (.slice a la.length c) la.length (la.map iZ)) := row_kp HL2.out h2.1 (by decide)
    have HB3 : Hid (y3.heap[w.heap.size]? = some (.cells #[.int .i64 kd, .string (X.str nm), .string (X.str fn), .int .i64 e0, .int .i64 i0, .slice a la.length c, vb, vl] 35)) := h2.1.keep _ _ _ _ HB2.out (by decide)
    have b0 := cell_blk HB3.out 0 rfl
    have b1 := cell_blk HB3.out 1 rfl
    have b2 := cell_blk HB3.out 2 rfl
    have b3 := cell_blk HB3.out 3 rfl
    have b4 := cell_blk HB3.out 4 rfl
    have b5 := cell_blk HB3.out 5 rfl
    have b6 := cell_blk HB3.out 6 rfl
    have b7 := cell_blk HB3.out 7 rfl
    clear h2 HY3 hp3 HX2 HR2 HK2
    obtain ⟨A4, hA4⟩ : ∃ A, y3.alloc (.cells #[.string { data := #[41] }, .string { data := #[59] }] 9) = A := ⟨_, rfl⟩
    have HP4 : Hid _ := put_new HX3.out [[41], [59]] (by intro s hs; simp only [List.mem_cons, List.not_mem_nil, or_false] at hs; rcases hs with rfl | rfl <;> first | assumption | decide | omega) (by simp) hA4
    go_wp2_with fail
    refine Calls.mono HP4.out ?_
    intro e y4 hy
    have HY4 : Hid (WXO B C w wp vd vs ve E R e y4) := by
      show _
      have h5 := hy
      rw [HR3.out] at h5
      exact h5.on HK3.out
    clear hy HP4
    cases R with
    | none =>
      have h3' : e = _ := HY4.out.2
      subst h3'
      clear HX3 HK3 HR3
      go_wp2_with fail
      exact ⟨rfl, HY4.out⟩
    | some T9 =>
      have h3' : e = _ := HY4.out.2.1
      subst h3'
      clear HX3 HK3 HR3
      go_wp2_with fail
      refine bodyPost_end (results_none rfl _ _ _) rfl ?_
      exact HY4.out
end Go.Proofs.YtikknlkdbjaonaaGreatDoor.Y
