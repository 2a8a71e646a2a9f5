/- The writer: declarations. -/
import Derived.Test.YtikknlkdbjaonaaGreatDoorPBAs
import Derived.Test.YtikknlkdbjaonaaGreatDoorPBAk
namespace Go.Proofs.YtikknlkdbjaonaaGreatDoor.Y
open Go.RowKit Go.Maps Go.Lib
set_option linter.unusedVariables false
set_option linter.unusedSimpArgs false
def wparams : Bool → List By → By → Option By
  | _, [], T => some T
  | true, s :: l, T => (puts T [s]).bind fun T1 => wparams false l T1
  | false, s :: l, T => (puts T [[44]]).bind fun T1 => (puts T1 [s]).bind fun T2 => wparams false l T2
def wglobal (d : Decl) (T : By) : Option By := (puts T [[105, 110, 116], d.name]).bind fun T1 => if d.n = 0 then puts T1 [[98, 121], d.by', [59]] else (puts T1 [[91], Go.Lib.itoa d.n, [93]]).bind fun T2 => puts T2 [[98, 121], d.by', [59]]
def wfR (E : List Exp) (S : List Stmt) (d : Decl) (T : By) : Option By := (puts T [[114, 97, 110, 107], Go.Lib.itoa d.rank]).bind fun T1 => if d.ext = true then puts T1 [[59]] else wblk S (wstmt E S 20002) d.body T1
def wfT (E : List Exp) (S : List Stmt) (d : Decl) (T : By) : Option By := (puts T [[41]]).bind fun T1 => if d.by' = [] then wfR E S d T1 else (puts T1 [[119, 105, 116, 104], d.by']).bind fun T2 => wfR E S d T2
def wfunction (E : List Exp) (S : List Stmt) (d : Decl) (T : By) : Option By := (puts T [[105, 110, 116], d.name, [40]]).bind fun T1 => if d.ext = true then (puts T1 [Go.Lib.itoa d.count]).bind fun T2 => wfT E S d T2 else (wparams true d.params T1).bind fun T2 => wfT E S d T2
def wdK (E : List Exp) (S : List Stmt) (d : Decl) (T : By) : Option By :=
  if d.kind = 1 then puts T [[108, 111, 99, 107], d.name, [59]]
  else if d.kind = 2 then puts T [[116, 105, 99, 107, 101, 116], d.name, [59]]
  else if d.kind = 3 then puts T [[113, 117, 101, 117, 101], d.name, Go.Lib.itoa d.n, [59]]
  else if d.kind = 4 then wglobal d T
  else if d.kind = 5 then wfunction E S d T
  else if d.kind = 6 then (puts T [[116, 104, 114, 101, 97, 100], d.name]).bind fun T1 => wblk S (wstmt E S 20002) d.body T1
  else none
def wdecl (E : List Exp) (S : List Stmt) (d : Decl) (T : By) : Option By := if d.ext = true then (puts T [[101, 120, 116, 101, 114, 110]]).bind fun T1 => wdK E S d T1 else wdK E S d T
def wdecls (E : List Exp) (S : List Stmt) : List Decl → By → Option By
  | [], T => some T
  | d :: l, T => (wdecl E S d T).bind fun T1 => wdecls E S l T1
def wall (M : Mod) (T : By) : Option By := if 4000 < M.exps.length then none else wdecls M.exps M.stmts M.decls T
structure D1 (d : Decl) : Prop where
  name : d.name.length ≤ 140737488355328
  by' : d.by'.length ≤ 140737488355328
  params : ∀ s ∈ d.params, s.length ≤ 140737488355328
  n0 : -9223372036854775808 ≤ d.n
  n1 : d.n ≤ 9223372036854775807
  c0 : -9223372036854775808 ≤ d.count
  c1 : d.count ≤ 9223372036854775807
  r0 : -9223372036854775808 ≤ d.rank
  r1 : d.rank ≤ 9223372036854775807
set_option maxRecDepth 100000 in
set_option maxHeartbeats 8000000 in
theorem wparams_any {B C : Nat} {wp : Nat} {vd vs ve : Value} {E : List Exp} {w : World} {T : By} (h : WX B C w wp vd vs ve E T) {a : Option Addr} {c D : Nat} {l : List By} (hl : w.ownsRow D 9 1 (.slice a l.length c) l.length (l.map sZ)) (hs : ∀ s ∈ l, s.length ≤ 140737488355328) : Calls Tryz.prog 109 #[.pointer (some ⟨wp, 0, none⟩), .slice a l.length c] w (WXO B C w wp vd vs ve E (wparams true l T)) := by
  obtain ⟨R, hR⟩ : ∃ R, wparams true l T = R := ⟨_, rfl⟩
  rw [hR]
  have HRS : Hid (wparams (decide (0 = 0)) (l.drop 0) T = R) := hR
  have HXS : Hid (WX B C w wp vd vs ve E T) := h
  have HLS : Hid (w.ownsRow D 9 1 (.slice a l.length c) l.length (l.map sZ)) := hl
  have HSL : Hid (∀ s ∈ l, s.length ≤ 140737488355328) := hs
  have HKS : Hid (Kp [80, 5] B w w) := Kp.refl _ _ _
  have hm2 : maxLen = 9223372036854775807 := rfl
  have hlm : l.length ≤ maxLen := by rcases hl.2 with ⟨e1, e2⟩ | ⟨g, cap, cur, e1, e2, e3, e4, e5, -⟩ <;> omega
  clear h hl hR hs
  go_enter Tryz.func109, Tryz.ntmps109
  go_wp2_with fail
  go_loopg [4, 5, 8] l.length (fun gg v4 v5 v8 wq => ∃ (k : Nat) (T' : By), gg = l.length - k ∧ v8 = .int .i64 (k : Int) ∧ k ≤ l.length ∧ Hid (wq.ownsRow D 9 1 (.slice a l.length c) l.length (l.map sZ)) ∧ Hid (WX B C wq wp vd vs ve E T') ∧ Hid (Kp [80, 5] B w wq) ∧ Hid (wparams (decide (k = 0)) (l.drop k) T' = R))
  case atStart => exact ⟨0, T, rfl, rfl, Nat.zero_le _, HLS, HXS, HKS, HRS⟩
  case round =>
    obtain ⟨k, T', rfl, rfl, hk, HL, HX0, HK0, HR⟩ := hrel
    clear HRS HXS HLS HKS
    by_cases hkl : k < l.length
    · have hki : (k : Int) < l.length := by omega
      have hk0 : 0 ≤ (k : Int) := by omega
      obtain ⟨i, hik⟩ : ∃ i, l[k] = i := ⟨_, rfl⟩
      have hi2 : i.length ≤ 140737488355328 := HSL.out i (by rw [← hik]; exact List.getElem_mem hkl)
      have hdk : l.drop k = i :: l.drop (k + 1) := by rw [← hik]; exact List.drop_eq_getElem_cons hkl
      have hR1 := HR.out
      rw [hdk] at hR1
      have HR1 : Hid (_ = R) := hR1
      obtain ⟨g, rfl, hck⟩ : ∃ g, a = some ⟨g, 0, none⟩ ∧ wr.cell? ⟨g, k, none⟩ = some (.string (X.str i)) := by
        rcases HL.out.2 with ⟨e1, e2⟩ | ⟨g, cap, cur, e1, e2⟩
        · omega
        · injection e1 with e1 _ e3
          subst e1 e3
          have hc := World.ownsRow.cellAt HL.out k (by omega)
          refine ⟨g, rfl, ?_⟩
          rw [hc, List.getElem?_map, List.getElem?_eq_getElem hkl, hik]
          rfl
      clear hik hdk hR1 HR
      by_cases h0 : k = 0
      · subst h0
        have HR0 : Hid (((puts T' [i]).bind fun T2 => wparams false (l.drop 1) T2) = R) := HR1.out
        clear HR1
        obtain ⟨A1, hA1⟩ : ∃ A, wr.alloc (.cells #[.string (X.str i)] 9) = A := ⟨_, rfl⟩
        have HP1 : Hid _ := put_new HX0.out [i] (by intro s hs; simp only [List.mem_cons, List.not_mem_nil, or_false] at hs; rcases hs with rfl <;> first | assumption | decide | omega | (show (Go.Lib.itoa n).length ≤ _; have := Go.Lib.itoa_length_le n hn0 hn1; omega) | (show (Go.Lib.itoa ct).length ≤ _; have := Go.Lib.itoa_length_le ct hc0 hc1; omega) | (show (Go.Lib.itoa rk).length ≤ _; have := Go.Lib.itoa_length_le rk hr0 hr1; omega)) (by simp) hA1
        go_wp2_with fail
        refine Calls.mono HP1.out ?_
        intro e y1 hy
        have HY1 : Hid _ := hy
        clear hy HP1
        cases hp1 : puts T' [i] with
        | none =>
          obtain rfl : none = R := by have := HR0.out; rw [hp1] at this; exact this
          have h2 := HY1.out
          rw [hp1] at h2
          have h3' : e = _ := h2.2
          subst h3'
          have HF : Hid (WXO B C w wp vd vs ve E none _ y1) := ⟨HK0.out.trans h2.1, h2.2⟩
          clear h2 HY1 HX0 HK0 HR0
          go_wp2_with fail
          exact ⟨rfl, HF.out⟩
        | some T1 =>
        have h2 := HY1.out
        rw [hp1] at h2
        have h3' : e = _ := h2.2.1
        subst h3'
        have HX1 : Hid (WX B C y1 wp vd vs ve E T1) := h2.2.2
        have HK1 : Hid (Kp [80, 5] B w y1) := HK0.out.trans h2.1
        have hr1 := HR0.out
        rw [hp1] at hr1
        simp only [Option.bind_some] at hr1
        have HR1 : Hid (_ = R) := hr1
        clear hr1
        have HKq : Hid (Kp [80, 5] B wr y1) := h2.1
        clear h2 HY1 hp1 HX0 HR0 HK0
        have HLn : Hid (y1.ownsRow D 9 1 (.slice (some ⟨g, 0, none⟩) l.length c) l.length (l.map sZ)) := row_kp HL.out HKq.out (by decide)
        go_wp2_with fail
        go_roundg (l.length - (0 + 1))
        case measure => omega
        case rel => exact ⟨0 + 1, T1, rfl, by go_num, by omega, HLn, HX1, HK1, by show _ = _; rw [show decide (0 + 1 = 0) = false from by simp]; exact HR1.out⟩
      · have d0 : decide ((0 : Int) < (k : Int)) = true := by simp; omega
        have e0 : 0 < k := by omega
        have HR0 : Hid (((puts T' [[44]]).bind fun T1 => (puts T1 [i]).bind fun T2 => wparams false (l.drop (k + 1)) T2) = R) := by
          have := HR1.out
          rw [decide_eq_false h0] at this
          exact this
        clear HR1
        obtain ⟨A1, hA1⟩ : ∃ A, wr.alloc (.cells #[.string { data := #[44] }] 9) = A := ⟨_, rfl⟩
        have HP1 : Hid _ := put_new HX0.out [[44]] (by intro s hs; simp only [List.mem_cons, List.not_mem_nil, or_false] at hs; rcases hs with rfl <;> first | assumption | decide | omega | (show (Go.Lib.itoa n).length ≤ _; have := Go.Lib.itoa_length_le n hn0 hn1; omega) | (show (Go.Lib.itoa ct).length ≤ _; have := Go.Lib.itoa_length_le ct hc0 hc1; omega) | (show (Go.Lib.itoa rk).length ≤ _; have := Go.Lib.itoa_length_le rk hr0 hr1; omega)) (by simp) hA1
        go_wp2_with fail
        refine Calls.mono HP1.out ?_
        intro e y1 hy
        have HY1 : Hid _ := hy
        clear hy HP1
        cases hp1 : puts T' [[44]] with
        | none =>
          obtain rfl : none = R := by have := HR0.out; rw [hp1] at this; exact this
          have h2 := HY1.out
          rw [hp1] at h2
          have h3' : e = _ := h2.2
          subst h3'
          have HF : Hid (WXO B C w wp vd vs ve E none _ y1) := ⟨HK0.out.trans h2.1, h2.2⟩
          clear h2 HY1 HX0 HK0 HR0
          go_wp2_with fail
          exact ⟨rfl, HF.out⟩
        | some T1 =>
        have h2 := HY1.out
        rw [hp1] at h2
        have h3' : e = _ := h2.2.1
        subst h3'
        have HX1 : Hid (WX B C y1 wp vd vs ve E T1) := h2.2.2
        have HK1 : Hid (Kp [80, 5] B w y1) := HK0.out.trans h2.1
        have hr1 := HR0.out
        rw [hp1] at hr1
        simp only [Option.bind_some] at hr1
        have HR1 : Hid (_ = R) := hr1
        clear hr1
        have HKq1 : Hid (Kp [80, 5] B wr y1) := h2.1
        clear h2 HY1 hp1 HX0 HR0 HK0
        obtain ⟨A2, hA2⟩ : ∃ A, y1.alloc (.cells #[.string (X.str i)] 9) = A := ⟨_, rfl⟩
        have HP2 : Hid _ := put_new HX1.out [i] (by intro s hs; simp only [List.mem_cons, List.not_mem_nil, or_false] at hs; rcases hs with rfl <;> first | assumption | decide | omega | (show (Go.Lib.itoa n).length ≤ _; have := Go.Lib.itoa_length_le n hn0 hn1; omega) | (show (Go.Lib.itoa ct).length ≤ _; have := Go.Lib.itoa_length_le ct hc0 hc1; omega) | (show (Go.Lib.itoa rk).length ≤ _; have := Go.Lib.itoa_length_le rk hr0 hr1; omega)) (by simp) hA2
        go_wp2_with fail
        refine Calls.mono HP2.out ?_
        intro e y2 hy
        have HY2 : Hid _ := hy
        clear hy HP2
        cases hp2 : puts T1 [i] with
        | none =>
          obtain rfl : none = R := by have := HR1.out; rw [hp2] at this; exact this
          have h2 := HY2.out
          rw [hp2] at h2
          have h3' : e = _ := h2.2
          subst h3'
          have HF : Hid (WXO B C w wp vd vs ve E none _ y2) := ⟨HK1.out.trans h2.1, h2.2⟩
          clear h2 HY2 HX1 HK1 HR1
          go_wp2_with fail
          exact ⟨rfl, HF.out⟩
        | some T2 =>
        have h2 := HY2.out
        rw [hp2] at h2
        have h3' : e = _ := h2.2.1
        subst h3'
        have HX2 : Hid (WX B C y2 wp vd vs ve E T2) := h2.2.2
        have HK2 : Hid (Kp [80, 5] B w y2) := HK1.out.trans h2.1
        have hr2 := HR1.out
        rw [hp2] at hr2
        simp only [Option.bind_some] at hr2
        have HR2 : Hid (_ = R) := hr2
        clear hr2
        have HKq : Hid (Kp [80, 5] B wr y2) := HKq1.out.trans h2.1
        clear h2 HY2 hp2 HX1 HR1 HK1
        have HLn : Hid (y2.ownsRow D 9 1 (.slice (some ⟨g, 0, none⟩) l.length c) l.length (l.map sZ)) := row_kp HL.out HKq.out (by decide)
        go_wp2_with fail
        go_roundg (l.length - (k + 1))
        case measure => omega
        case rel => exact ⟨k + 1, T2, rfl, by go_num, by omega, HLn, HX2, HK2, by show _ = _; rw [show decide (k + 1 = 0) = false from by simp]; exact HR2.out⟩
    · obtain rfl : k = l.length := by omega
      obtain rfl : some T' = R := by
        have := HR.out
        rw [List.drop_length] at this
        revert this
        cases (decide (l.length = 0)) <;> exact id
      have HF : Hid (WXO B C w wp vd vs ve E (some T') (.returned (.tuple #[])) wr) := ⟨HK0.out, rfl, HX0.out⟩
      clear HR HL HX0 HK0
      go_wp2_with fail
      refine bodyPost_end (results_none rfl _ _ _) rfl ?_
      exact HF.out
set_option maxRecDepth 100000 in
set_option maxHeartbeats 8000000 in
theorem wglobal_any {B C D : Nat} {wp : Nat} {vd vs ve : Value} {E : List Exp} {XS : List Sx} (hE : EOk E) (hS : SOk XS) {w : World} {T : By} (p : Dx) (h : WX B C w wp vd vs ve E T) (hM : MS D w vs XS) (hp : DxR D w p) (hd : D1 p.d) : Calls Tryz.prog 88 #[.pointer (some ⟨wp, 0, none⟩), dcV p] w (WXO B C w wp vd vs ve E (wglobal p.d T)) := by
  obtain ⟨⟨kd, nm, ext, n, bs, ps, ct, rk, bd⟩, vp, vb⟩ := p
  obtain ⟨rp, rb⟩ := hp
  obtain ⟨hnm, hbs, hps, hn0, hn1, hc0, hc1, hr0, hr1⟩ := hd
  dsimp only at hnm hbs hps hn0 hn1 hc0 hc1 hr0 hr1 rp rb
  obtain ⟨ap, cp, hv⟩ := row_form rp
  subst hv
  obtain ⟨ab, cb, hv⟩ := row_form rb
  subst hv
  obtain ⟨R, hR⟩ : ∃ R, wglobal ⟨kd, nm, ext, n, bs, ps, ct, rk, bd⟩ T = R := ⟨_, rfl⟩
  rw [hR]
  unfold dcV
  dsimp only
  obtain ⟨y0, hY⟩ : ∃ Y, w.alloc (.cells #[.int .i64 kd, .string (X.str nm), .bool ext, .int .i64 n, .string (X.str bs), .slice ap ps.length cp, .int .i64 ct, .int .i64 rk, .slice ab bd.length cb] 54) = Y := ⟨_, rfl⟩
  have HBY : Hid (Below w.heap.size w y0) := by show Below _ _ _; rw [← hY]; exact bl1 _ _
  have HB : Hid (y0.heap[w.heap.size]? = some (.cells #[.int .i64 kd, .string (X.str nm), .bool ext, .int .i64 n, .string (X.str bs), .slice ap ps.length cp, .int .i64 ct, .int .i64 rk, .slice ab bd.length cb] 54)) := by show _ = _; rw [← hY]; exact heap_new _ _
  have HX0 : Hid (WX B C y0 wp vd vs ve E T) := h.below HBY.out
  have HK0 : Hid (Kp [80, 5] B w y0) := h.toKp HBY.out
  have HM0 : Hid (MS D y0 vs XS) := hM.kp HK0.out
  have HPR0 : Hid (y0.ownsRow D 9 1 (.slice ap ps.length cp) ps.length (ps.map sZ)) := row_thru' rp HBY.out
  have HBD0 : Hid (y0.ownsRow D 3 1 (.slice ab bd.length cb) bd.length (bd.map iZ)) := row_thru' rb HBY.out
  have b0 := cell_blk HB.out 0 rfl
  have b1 := cell_blk HB.out 1 rfl
  have b2 := cell_blk HB.out 2 rfl
  have b3 := cell_blk HB.out 3 rfl
  have b4 := cell_blk HB.out 4 rfl
  have b5 := cell_blk HB.out 5 rfl
  have b6 := cell_blk HB.out 6 rfl
  have b7 := cell_blk HB.out 7 rfl
  have b8 := cell_blk HB.out 8 rfl
  have HR0 : Hid (((puts T [[105, 110, 116], nm]).bind fun T1 => if n = 0 then puts T1 [[98, 121], bs, [59]] else (puts T1 [[91], Go.Lib.itoa n, [93]]).bind fun T2 => puts T2 [[98, 121], bs, [59]]) = R) := hR
  clear h hR rp rb hM HBY
  go_enter Tryz.func88, Tryz.ntmps88
  obtain ⟨A1, hA1⟩ : ∃ A, y0.alloc (.cells #[.string { data := #[105, 110, 116] }, .string (X.str nm)] 9) = A := ⟨_, rfl⟩
  have HP1 : Hid _ := put_new HX0.out [[105, 110, 116], nm] (by intro s hs; simp only [List.mem_cons, List.not_mem_nil, or_false] at hs; rcases hs with rfl | rfl <;> first | assumption | decide | omega | (show (Go.Lib.itoa n).length ≤ _; have := Go.Lib.itoa_length_le n hn0 hn1; omega) | (show (Go.Lib.itoa ct).length ≤ _; have := Go.Lib.itoa_length_le ct hc0 hc1; omega) | (show (Go.Lib.itoa rk).length ≤ _; have := Go.Lib.itoa_length_le rk hr0 hr1; omega)) (by simp) hA1
  go_wp2_with fail
  refine Calls.mono HP1.out ?_
  intro e y1 hy
  have HY1 : Hid _ := hy
  clear hy HP1
  cases hp1 : puts T [[105, 110, 116], nm] with
  | none =>
    obtain rfl : none = R := by have := HR0.out; rw [hp1] at this; exact this
    have h2 := HY1.out
    rw [hp1] at h2
    have h3' : e = _ := h2.2
    subst h3'
    have HF : Hid (WXO B C w wp vd vs ve E none _ y1) := ⟨HK0.out.trans h2.1, h2.2⟩
    clear h2 HY1 HX0 HK0 HR0
    go_wp2_with fail
    exact ⟨rfl, HF.out⟩
  | some T1 =>
  have h2 := HY1.out
  rw [hp1] at h2
  have h3' : e = _ := h2.2.1
  subst h3'
  have HX1 : Hid (WX B C y1 wp vd vs ve E T1) := h2.2.2
  have HK1 : Hid (Kp [80, 5] B w y1) := HK0.out.trans h2.1
  have hr1 := HR0.out
  rw [hp1] at hr1
  simp only [Option.bind_some] at hr1
  have HR1 : Hid (_ = R) := hr1
  clear hr1
  have HM1 : Hid (MS D y1 vs XS) := HM0.out.kp h2.1
  have HPR1 : Hid (y1.ownsRow D 9 1 (.slice ap ps.length cp) ps.length (ps.map sZ)) := row_kp HPR0.out h2.1 (by decide)
  have HBD1 : Hid (y1.ownsRow D 3 1 (.slice ab bd.length cb) bd.length (bd.map iZ)) := row_kp HBD0.out h2.1 (by decide)
  clear HM0 HPR0 HBD0
  have HB1 : Hid (y1.heap[w.heap.size]? = some (.cells #[.int .i64 kd, .string (X.str nm), .bool ext, .int .i64 n, .string (X.str bs), .slice ap ps.length cp, .int .i64 ct, .int .i64 rk, .slice ab bd.length cb] 54)) := h2.1.keep _ _ _ _ HB.out (by decide)
  have b0 := cell_blk HB1.out 0 rfl
  have b1 := cell_blk HB1.out 1 rfl
  have b2 := cell_blk HB1.out 2 rfl
  have b3 := cell_blk HB1.out 3 rfl
  have b4 := cell_blk HB1.out 4 rfl
  have b5 := cell_blk HB1.out 5 rfl
  have b6 := cell_blk HB1.out 6 rfl
  have b7 := cell_blk HB1.out 7 rfl
  have b8 := cell_blk HB1.out 8 rfl
  clear h2 HY1 hp1 HX0 HR0 HK0
  by_cases h0 : n = 0
  · subst h0
    have HRe : Hid (puts T1 [[98, 121], bs, [59]] = R) := (if_pos rfl).symm.trans HR1.out
    clear HR1
    have HR1 := HRe
    clear HRe
    obtain ⟨A2, hA2⟩ : ∃ A, y1.alloc (.cells #[.string { data := #[98, 121] }, .string (X.str bs), .string { data := #[59] }] 9) = A := ⟨_, rfl⟩
    have HP2 : Hid _ := put_new HX1.out [[98, 121], bs, [59]] (by intro s hs; simp only [List.mem_cons, List.not_mem_nil, or_false] at hs; rcases hs with rfl | rfl | rfl <;> first | assumption | decide | omega | (show (Go.Lib.itoa n).length ≤ _; have := Go.Lib.itoa_length_le n hn0 hn1; omega) | (show (Go.Lib.itoa ct).length ≤ _; have := Go.Lib.itoa_length_le ct hc0 hc1; omega) | (show (Go.Lib.itoa rk).length ≤ _; have := Go.Lib.itoa_length_le rk hr0 hr1; omega)) (by simp) hA2
    go_wp2_with fail
    refine Calls.mono HP2.out ?_
    intro e y2 hy
    have HY2 : Hid (WXO B C w wp vd vs ve E R e y2) := by
      show _
      have h5 := hy
      rw [HR1.out] at h5
      exact h5.on HK1.out
    clear hy HP2
    cases R with
    | none =>
      have h3' : e = _ := HY2.out.2
      subst h3'
      clear HX1 HK1 HR1
      go_wp2_with fail
      exact ⟨rfl, HY2.out⟩
    | some T9 =>
      have h3' : e = _ := HY2.out.2.1
      subst h3'
      clear HX1 HK1 HR1
      go_wp2_with fail
      refine bodyPost_end (results_none rfl _ _ _) rfl ?_
      exact HY2.out
  · have HRe : Hid (((puts T1 [[91], Go.Lib.itoa n, [93]]).bind fun T2 => puts T2 [[98, 121], bs, [59]]) = R) := (if_neg h0).symm.trans HR1.out
    clear HR1
    have HR1 := HRe
    clear HRe
    have d0 : (n == 0) = false := by simpa using h0
    go_wp2_with fail
    refine (Tryz.strconv_Itoa n hn0 hn1 _ HX1.out.pw).mono ?_
    rintro e z ⟨rfl, kk, os, rfl⟩
    have HGR2 : Hid _ := below_grow' y1 kk os
    generalize Go.Sort.grow (y1.drewN kk) os = y2 at *
    have h2 : Kp [80, 5] B y1 y2 := HX1.out.toKp HGR2.out
    have HX2 : Hid (WX B C y2 wp vd vs ve E T1) := HX1.out.below HGR2.out
    have HK2 : Hid (Kp [80, 5] B w y2) := HK1.out.trans h2
    have HB2 : Hid (y2.heap[w.heap.size]? = some (.cells #[.int .i64 kd, .string (X.str nm), .bool ext, .int .i64 n, .string (X.str bs), .slice ap ps.length cp, .int .i64 ct, .int .i64 rk, .slice ab bd.length cb] 54)) := h2.keep _ _ _ _ HB1.out (by decide)
    have b0 := cell_blk HB2.out 0 rfl
    have b1 := cell_blk HB2.out 1 rfl
    have b2 := cell_blk HB2.out 2 rfl
    have b3 := cell_blk HB2.out 3 rfl
    have b4 := cell_blk HB2.out 4 rfl
    have b5 := cell_blk HB2.out 5 rfl
    have b6 := cell_blk HB2.out 6 rfl
    have b7 := cell_blk HB2.out 7 rfl
    have b8 := cell_blk HB2.out 8 rfl
    have HM2 : Hid (MS D y2 vs XS) := HM1.out.kp h2
    have HPR2 : Hid (y2.ownsRow D 9 1 (.slice ap ps.length cp) ps.length (ps.map sZ)) := row_kp HPR1.out h2 (by decide)
    have HBD2 : Hid (y2.ownsRow D 3 1 (.slice ab bd.length cb) bd.length (bd.map iZ)) := row_kp HBD1.out h2 (by decide)
    clear HM1 HPR1 HBD1
    clear h2 HGR2 HX1 HK1
    obtain ⟨A3, hA3⟩ : ∃ A, y2.alloc (.cells #[.string { data := #[91] }, .string { data := (Go.Lib.itoa n).toArray }, .string { data := #[93] }] 9) = A := ⟨_, rfl⟩
    have HP3 : Hid _ := put_new HX2.out [[91], (Go.Lib.itoa n), [93]] (by intro s hs; simp only [List.mem_cons, List.not_mem_nil, or_false] at hs; rcases hs with rfl | rfl | rfl <;> first | assumption | decide | omega | (show (Go.Lib.itoa n).length ≤ _; have := Go.Lib.itoa_length_le n hn0 hn1; omega) | (show (Go.Lib.itoa ct).length ≤ _; have := Go.Lib.itoa_length_le ct hc0 hc1; omega) | (show (Go.Lib.itoa rk).length ≤ _; have := Go.Lib.itoa_length_le rk hr0 hr1; omega)) (by simp) hA3
    go_wp2_with fail
    refine Calls.mono HP3.out ?_
    intro e y3 hy
    have HY3 : Hid _ := hy
    clear hy HP3
    cases hp3 : puts T1 [[91], (Go.Lib.itoa n), [93]] with
    | none =>
      obtain rfl : none = R := by have := HR1.out; rw [hp3] at this; exact this
      have h2 := HY3.out
      rw [hp3] at h2
      have h3' : e = _ := h2.2
      subst h3'
      have HF : Hid (WXO B C w wp vd vs ve E none _ y3) := ⟨HK2.out.trans h2.1, h2.2⟩
      clear h2 HY3 HX2 HK2 HR1
      go_wp2_with fail
      exact ⟨rfl, HF.out⟩
    | some T3 =>
    have h2 := HY3.out
    rw [hp3] at h2
    have h3' : e = _ := h2.2.1
    subst h3'
    have HX3 : Hid (WX B C y3 wp vd vs ve E T3) := h2.2.2
    have HK3 : Hid (Kp [80, 5] B w y3) := HK2.out.trans h2.1
    have hr3 := HR1.out
    rw [hp3] at hr3
    simp only [Option.bind_some] at hr3
    have HR3 : Hid (_ = R) := hr3
    clear hr3
    have HM3 : Hid (MS D y3 vs XS) := HM2.out.kp h2.1
    have HPR3 : Hid (y3.ownsRow D 9 1 (.slice ap ps.length cp) ps.length (ps.map sZ)) := row_kp HPR2.out h2.1 (by decide)
    have HBD3 : Hid (y3.ownsRow D 3 1 (.slice ab bd.length cb) bd.length (bd.map iZ)) := row_kp HBD2.out h2.1 (by decide)
    clear HM2 HPR2 HBD2
    have HB3 : Hid (y3.heap[w.heap.size]? = some (.cells #[.int .i64 kd, .string (X.str nm), .bool ext, .int .i64 n, .string (X.str bs), .slice ap ps.length cp, .int .i64 ct, .int .i64 rk, .slice ab bd.length cb] 54)) := h2.1.keep _ _ _ _ HB2.out (by decide)
    have b0 := cell_blk HB3.out 0 rfl
    have b1 := cell_blk HB3.out 1 rfl
    have b2 := cell_blk HB3.out 2 rfl
    have b3 := cell_blk HB3.out 3 rfl
    have b4 := cell_blk HB3.out 4 rfl
    have b5 := cell_blk HB3.out 5 rfl
    have b6 := cell_blk HB3.out 6 rfl
    have b7 := cell_blk HB3.out 7 rfl
    have b8 := cell_blk HB3.out 8 rfl
    clear h2 HY3 hp3 HX2 HR1 HK2
    obtain ⟨A4, hA4⟩ : ∃ A, y3.alloc (.cells #[.string { data := #[98, 121] }, .string (X.str bs), .string { data := #[59] }] 9) = A := ⟨_, rfl⟩
    have HP4 : Hid _ := put_new HX3.out [[98, 121], bs, [59]] (by intro s hs; simp only [List.mem_cons, List.not_mem_nil, or_false] at hs; rcases hs with rfl | rfl | rfl <;> first | assumption | decide | omega | (show (Go.Lib.itoa n).length ≤ _; have := Go.Lib.itoa_length_le n hn0 hn1; omega) | (show (Go.Lib.itoa ct).length ≤ _; have := Go.Lib.itoa_length_le ct hc0 hc1; omega) | (show (Go.Lib.itoa rk).length ≤ _; have := Go.Lib.itoa_length_le rk hr0 hr1; omega)) (by simp) hA4
    go_wp2_with fail
    refine Calls.mono HP4.out ?_
    intro e y4 hy
    have HY4 : Hid (WXO B C w wp vd vs ve E R e y4) := by
      show _
      have h5 := hy
      rw [HR3.out] at h5
      exact h5.on HK3.out
    clear hy HP4
    cases R with
    | none =>
      have h3' : e = _ := HY4.out.2
      subst h3'
      clear HX3 HK3 HR3
      go_wp2_with fail
      exact ⟨rfl, HY4.out⟩
    | some T9 =>
      have h3' : e = _ := HY4.out.2.1
      subst h3'
      clear HX3 HK3 HR3
      go_wp2_with fail
      refine bodyPost_end (results_none rfl _ _ _) rfl ?_
      exact HY4.out
set_option maxRecDepth 100000 in
set_option maxHeartbeats 8000000 in
theorem wfunction_any {B C D : Nat} {wp : Nat} {vd vs ve : Value} {E : List Exp} {XS : List Sx} (hE : EOk E) (hS : SOk XS) {w : World} {T : By} (p : Dx) (h : WX B C w wp vd vs ve E T) (hM : MS D w vs XS) (hp : DxR D w p) (hd : D1 p.d) : Calls Tryz.prog 89 #[.pointer (some ⟨wp, 0, none⟩), dcV p] w (WXO B C w wp vd vs ve E (wfunction E (XS.map (·.s)) p.d T)) := by
  obtain ⟨⟨kd, nm, ext, n, bs, ps, ct, rk, bd⟩, vp, vb⟩ := p
  obtain ⟨rp, rb⟩ := hp
  obtain ⟨hnm, hbs, hps, hn0, hn1, hc0, hc1, hr0, hr1⟩ := hd
  dsimp only at hnm hbs hps hn0 hn1 hc0 hc1 hr0 hr1 rp rb
  obtain ⟨ap, cp, hv⟩ := row_form rp
  subst hv
  obtain ⟨ab, cb, hv⟩ := row_form rb
  subst hv
  obtain ⟨R, hR⟩ : ∃ R, wfunction E (XS.map (·.s)) ⟨kd, nm, ext, n, bs, ps, ct, rk, bd⟩ T = R := ⟨_, rfl⟩
  rw [hR]
  unfold dcV
  dsimp only
  obtain ⟨y0, hY⟩ : ∃ Y, w.alloc (.cells #[.int .i64 kd, .string (X.str nm), .bool ext, .int .i64 n, .string (X.str bs), .slice ap ps.length cp, .int .i64 ct, .int .i64 rk, .slice ab bd.length cb] 54) = Y := ⟨_, rfl⟩
  have HBY : Hid (Below w.heap.size w y0) := by show Below _ _ _; rw [← hY]; exact bl1 _ _
  have HB : Hid (y0.heap[w.heap.size]? = some (.cells #[.int .i64 kd, .string (X.str nm), .bool ext, .int .i64 n, .string (X.str bs), .slice ap ps.length cp, .int .i64 ct, .int .i64 rk, .slice ab bd.length cb] 54)) := by show _ = _; rw [← hY]; exact heap_new _ _
  have HX0 : Hid (WX B C y0 wp vd vs ve E T) := h.below HBY.out
  have HK0 : Hid (Kp [80, 5] B w y0) := h.toKp HBY.out
  have HM0 : Hid (MS D y0 vs XS) := hM.kp HK0.out
  have HPR0 : Hid (y0.ownsRow D 9 1 (.slice ap ps.length cp) ps.length (ps.map sZ)) := row_thru' rp HBY.out
  have HBD0 : Hid (y0.ownsRow D 3 1 (.slice ab bd.length cb) bd.length (bd.map iZ)) := row_thru' rb HBY.out
  have b0 := cell_blk HB.out 0 rfl
  have b1 := cell_blk HB.out 1 rfl
  have b2 := cell_blk HB.out 2 rfl
  have b3 := cell_blk HB.out 3 rfl
  have b4 := cell_blk HB.out 4 rfl
  have b5 := cell_blk HB.out 5 rfl
  have b6 := cell_blk HB.out 6 rfl
  have b7 := cell_blk HB.out 7 rfl
  have b8 := cell_blk HB.out 8 rfl
  have HR : Hid (wfunction E (XS.map (·.s)) ⟨kd, nm, ext, n, bs, ps, ct, rk, bd⟩ T = R) := hR
  have hd := str_emp bs
  clear h hR rp rb hM HBY
  go_enter Tryz.func89, Tryz.ntmps89
  cases ext
  case true =>
    have HR0 : Hid (((puts T [[105, 110, 116], nm, [40]]).bind fun T1 => (puts T1 [Go.Lib.itoa ct]).bind fun T2 => wfT E (XS.map (·.s)) ⟨kd, nm, true, n, bs, ps, ct, rk, bd⟩ T2) = R) := HR.out
    clear HR
    obtain ⟨A1, hA1⟩ : ∃ A, y0.alloc (.cells #[.string { data := #[105, 110, 116] }, .string (X.str nm), .string { data := #[40] }] 9) = A := ⟨_, rfl⟩
    have HP1 : Hid _ := put_new HX0.out [[105, 110, 116], nm, [40]] (by intro s hs; simp only [List.mem_cons, List.not_mem_nil, or_false] at hs; rcases hs with rfl | rfl | rfl <;> first | assumption | decide | omega | (show (Go.Lib.itoa n).length ≤ _; have := Go.Lib.itoa_length_le n hn0 hn1; omega) | (show (Go.Lib.itoa ct).length ≤ _; have := Go.Lib.itoa_length_le ct hc0 hc1; omega) | (show (Go.Lib.itoa rk).length ≤ _; have := Go.Lib.itoa_length_le rk hr0 hr1; omega)) (by simp) hA1
    go_wp2_with fail
    refine Calls.mono HP1.out ?_
    intro e y1 hy
    have HY1 : Hid _ := hy
    clear hy HP1
    cases hp1 : puts T [[105, 110, 116], nm, [40]] with
    | none =>
      obtain rfl : none = R := by have := HR0.out; rw [hp1] at this; exact this
      have h2 := HY1.out
      rw [hp1] at h2
      have h3' : e = _ := h2.2
      subst h3'
      have HF : Hid (WXO B C w wp vd vs ve E none _ y1) := ⟨HK0.out.trans h2.1, h2.2⟩
      clear h2 HY1 HX0 HK0 HR0
      go_wp2_with fail
      exact ⟨rfl, HF.out⟩
    | some T1 =>
    have h2 := HY1.out
    rw [hp1] at h2
    have h3' : e = _ := h2.2.1
    subst h3'
    have HX1 : Hid (WX B C y1 wp vd vs ve E T1) := h2.2.2
    have HK1 : Hid (Kp [80, 5] B w y1) := HK0.out.trans h2.1
    have hr1 := HR0.out
    rw [hp1] at hr1
    simp only [Option.bind_some] at hr1
    have HR1 : Hid (_ = R) := hr1
    clear hr1
    have HM1 : Hid (MS D y1 vs XS) := HM0.out.kp h2.1
    have HPR1 : Hid (y1.ownsRow D 9 1 (.slice ap ps.length cp) ps.length (ps.map sZ)) := row_kp HPR0.out h2.1 (by decide)
    have HBD1 : Hid (y1.ownsRow D 3 1 (.slice ab bd.length cb) bd.length (bd.map iZ)) := row_kp HBD0.out h2.1 (by decide)
    clear HM0 HPR0 HBD0
    have HB1 : Hid (y1.heap[w.heap.size]? = some (.cells #[.int .i64 kd, .string (X.str nm), .bool true, .int .i64 n, .string (X.str bs), .slice ap ps.length cp, .int .i64 ct, .int .i64 rk, .slice ab bd.length cb] 54)) := h2.1.keep _ _ _ _ HB.out (by decide)
    have b0 := cell_blk HB1.out 0 rfl
    have b1 := cell_blk HB1.out 1 rfl
    have b2 := cell_blk HB1.out 2 rfl
    have b3 := cell_blk HB1.out 3 rfl
    have b4 := cell_blk HB1.out 4 rfl
    have b5 := cell_blk HB1.out 5 rfl
    have b6 := cell_blk HB1.out 6 rfl
    have b7 := cell_blk HB1.out 7 rfl
    have b8 := cell_blk HB1.out 8 rfl
    clear h2 HY1 hp1 HX0 HR0 HK0
    go_wp2_with fail
    refine (Tryz.strconv_Itoa ct hc0 hc1 _ HX1.out.pw).mono ?_
    rintro e z ⟨rfl, kk, os, rfl⟩
    have HGR2 : Hid _ := below_grow' y1 kk os
    generalize Go.Sort.grow (y1.drewN kk) os = y2 at *
    have h2 : Kp [80, 5] B y1 y2 := HX1.out.toKp HGR2.out
    have HX2 : Hid (WX B C y2 wp vd vs ve E T1) := HX1.out.below HGR2.out
    have HK2 : Hid (Kp [80, 5] B w y2) := HK1.out.trans h2
    have HB2 : Hid (y2.heap[w.heap.size]? = some (.cells #[.int .i64 kd, .string (X.str nm), .bool true, .int .i64 n, .string (X.str bs), .slice ap ps.length cp, .int .i64 ct, .int .i64 rk, .slice ab bd.length cb] 54)) := h2.keep _ _ _ _ HB1.out (by decide)
    have b0 := cell_blk HB2.out 0 rfl
    have b1 := cell_blk HB2.out 1 rfl
    have b2 := cell_blk HB2.out 2 rfl
    have b3 := cell_blk HB2.out 3 rfl
    have b4 := cell_blk HB2.out 4 rfl
    have b5 := cell_blk HB2.out 5 rfl
    have b6 := cell_blk HB2.out 6 rfl
    have b7 := cell_blk HB2.out 7 rfl
    have b8 := cell_blk HB2.out 8 rfl
    have HM2 : Hid (MS D y2 vs XS) := HM1.out.kp h2
    have HPR2 : Hid (y2.ownsRow D 9 1 (.slice ap ps.length cp) ps.length (ps.map sZ)) := row_kp HPR1.out h2 (by decide)
    have HBD2 : Hid (y2.ownsRow D 3 1 (.slice ab bd.length cb) bd.length (bd.map iZ)) := row_kp HBD1.out h2 (by decide)
    clear HM1 HPR1 HBD1
    clear h2 HGR2 HX1 HK1
    obtain ⟨A3, hA3⟩ : ∃ A, y2.alloc (.cells #[.string { data := (Go.Lib.itoa ct).toArray }] 9) = A := ⟨_, rfl⟩
    have HP3 : Hid _ := put_new HX2.out [(Go.Lib.itoa ct)] (by intro s hs; simp only [List.mem_cons, List.not_mem_nil, or_false] at hs; rcases hs with rfl <;> first | assumption | decide | omega | (show (Go.Lib.itoa n).length ≤ _; have := Go.Lib.itoa_length_le n hn0 hn1; omega) | (show (Go.Lib.itoa ct).length ≤ _; have := Go.Lib.itoa_length_le ct hc0 hc1; omega) | (show (Go.Lib.itoa rk).length ≤ _; have := Go.Lib.itoa_length_le rk hr0 hr1; omega)) (by simp) hA3
    go_wp2_with fail
    refine Calls.mono HP3.out ?_
    intro e y3 hy
    have HY3 : Hid _ := hy
    clear hy HP3
    cases hp3 : puts T1 [(Go.Lib.itoa ct)] with
    | none =>
      obtain rfl : none = R := by have := HR1.out; rw [hp3] at this; exact this
      have h2 := HY3.out
      rw [hp3] at h2
      have h3' : e = _ := h2.2
      subst h3'
      have HF : Hid (WXO B C w wp vd vs ve E none _ y3) := ⟨HK2.out.trans h2.1, h2.2⟩
      clear h2 HY3 HX2 HK2 HR1
      go_wp2_with fail
      exact ⟨rfl, HF.out⟩
    | some T3 =>
    have h2 := HY3.out
    rw [hp3] at h2
    have h3' : e = _ := h2.2.1
    subst h3'
    have HX3 : Hid (WX B C y3 wp vd vs ve E T3) := h2.2.2
    have HK3 : Hid (Kp [80, 5] B w y3) := HK2.out.trans h2.1
    have hr3 := HR1.out
    rw [hp3] at hr3
    simp only [Option.bind_some] at hr3
    have HR3 : Hid (_ = R) := hr3
    clear hr3
    have HM3 : Hid (MS D y3 vs XS) := HM2.out.kp h2.1
    have HPR3 : Hid (y3.ownsRow D 9 1 (.slice ap ps.length cp) ps.length (ps.map sZ)) := row_kp HPR2.out h2.1 (by decide)
    have HBD3 : Hid (y3.ownsRow D 3 1 (.slice ab bd.length cb) bd.length (bd.map iZ)) := row_kp HBD2.out h2.1 (by decide)
    clear HM2 HPR2 HBD2
    have HB3 : Hid (y3.heap[w.heap.size]? = some (.cells #[.int .i64 kd, .string (X.str nm), .bool true, .int .i64 n, .string (X.str bs), .slice ap ps.length cp, .int .i64 ct, .int .i64 rk, .slice ab bd.length cb] 54)) := h2.1.keep _ _ _ _ HB2.out (by decide)
    have b0 := cell_blk HB3.out 0 rfl
    have b1 := cell_blk HB3.out 1 rfl
    have b2 := cell_blk HB3.out 2 rfl
    have b3 := cell_blk HB3.out 3 rfl
    have b4 := cell_blk HB3.out 4 rfl
    have b5 := cell_blk HB3.out 5 rfl
    have b6 := cell_blk HB3.out 6 rfl
    have b7 := cell_blk HB3.out 7 rfl
    have b8 := cell_blk HB3.out 8 rfl
    clear h2 HY3 hp3 HX2 HR1 HK2
    have HRe : Hid (((puts T3 [[41]]).bind fun T1 => if bs = [] then wfR E (XS.map (·.s)) ⟨kd, nm, true, n, bs, ps, ct, rk, bd⟩ T1 else (puts T1 [[119, 105, 116, 104], bs]).bind fun T2 => wfR E (XS.map (·.s)) ⟨kd, nm, true, n, bs, ps, ct, rk, bd⟩ T2) = R) := HR3.out
    clear HR3
    have HR3 := HRe
    clear HRe
    obtain ⟨A4, hA4⟩ : ∃ A, y3.alloc (.cells #[.string { data := #[41] }] 9) = A := ⟨_, rfl⟩
    have HP4 : Hid _ := put_new HX3.out [[41]] (by intro s hs; simp only [List.mem_cons, List.not_mem_nil, or_false] at hs; rcases hs with rfl <;> first | assumption | decide | omega | (show (Go.Lib.itoa n).length ≤ _; have := Go.Lib.itoa_length_le n hn0 hn1; omega) | (show (Go.Lib.itoa ct).length ≤ _; have := Go.Lib.itoa_length_le ct hc0 hc1; omega) | (show (Go.Lib.itoa rk).length ≤ _; have := Go.Lib.itoa_length_le rk hr0 hr1; omega)) (by simp) hA4
    go_wp2_with fail
    refine Calls.mono HP4.out ?_
    intro e y4 hy
    have HY4 : Hid _ := hy
    clear hy HP4
    cases hp4 : puts T3 [[41]] with
    | none =>
      obtain rfl : none = R := by have := HR3.out; rw [hp4] at this; exact this
      have h2 := HY4.out
      rw [hp4] at h2
      have h3' : e = _ := h2.2
      subst h3'
      have HF : Hid (WXO B C w wp vd vs ve E none _ y4) := ⟨HK3.out.trans h2.1, h2.2⟩
      clear h2 HY4 HX3 HK3 HR3
      go_wp2_with fail
      exact ⟨rfl, HF.out⟩
    | some T4 =>
    have h2 := HY4.out
    rw [hp4] at h2
    have h3' : e = _ := h2.2.1
    subst h3'
    have HX4 : Hid (WX B C y4 wp vd vs ve E T4) := h2.2.2
    have HK4 : Hid (Kp [80, 5] B w y4) := HK3.out.trans h2.1
    have hr4 := HR3.out
    rw [hp4] at hr4
    simp only [Option.bind_some] at hr4
    have HR4 : Hid (_ = R) := hr4
    clear hr4
    have HM4 : Hid (MS D y4 vs XS) := HM3.out.kp h2.1
    have HPR4 : Hid (y4.ownsRow D 9 1 (.slice ap ps.length cp) ps.length (ps.map sZ)) := row_kp HPR3.out h2.1 (by decide)
    have HBD4 : Hid (y4.ownsRow D 3 1 (.slice ab bd.length cb) bd.length (bd.map iZ)) := row_kp HBD3.out h2.1 (by decide)
    clear HM3 HPR3 HBD3
    have HB4 : Hid (y4.heap[w.heap.size]? = some (.cells #[.int .i64 kd, .string (X.str nm), .bool true, .int .i64 n, .string (X.str bs), .slice ap ps.length cp, .int .i64 ct, .int .i64 rk, .slice ab bd.length cb] 54)) := h2.1.keep _ _ _ _ HB3.out (by decide)
    have b0 := cell_blk HB4.out 0 rfl
    have b1 := cell_blk HB4.out 1 rfl
    have b2 := cell_blk HB4.out 2 rfl
    have b3 := cell_blk HB4.out 3 rfl
    have b4 := cell_blk HB4.out 4 rfl
    have b5 := cell_blk HB4.out 5 rfl
    have b6 := cell_blk HB4.out 6 rfl
    have b7 := cell_blk HB4.out 7 rfl
    have b8 := cell_blk HB4.out 8 rfl
    clear h2 HY4 hp4 HX3 HR3 HK3
    by_cases hb : bs = []
    · have HRe : Hid (wfR E (XS.map (·.s)) ⟨kd, nm, true, n, bs, ps, ct, rk, bd⟩ T4 = R) := (if_pos hb).symm.trans HR4.out
      clear HR4
      have HR4 := HRe
      rw [decide_eq_true hb] at hd
      clear HRe hb
      have HRe : Hid (((puts T4 [[114, 97, 110, 107], Go.Lib.itoa rk]).bind fun T1 => puts T1 [[59]]) = R) := HR4.out
      clear HR4
      have HR4 := HRe
      clear HRe
      go_wp2_with fail
      refine (Tryz.strconv_Itoa rk hr0 hr1 _ HX4.out.pw).mono ?_
      rintro e z ⟨rfl, kk, os, rfl⟩
      have HGR5 : Hid _ := below_grow' y4 kk os
      generalize Go.Sort.grow (y4.drewN kk) os = y5 at *
      have h2 : Kp [80, 5] B y4 y5 := HX4.out.toKp HGR5.out
      have HX5 : Hid (WX B C y5 wp vd vs ve E T4) := HX4.out.below HGR5.out
      have HK5 : Hid (Kp [80, 5] B w y5) := HK4.out.trans h2
      have HB5 : Hid (y5.heap[w.heap.size]? = some (.cells #[.int .i64 kd, .string (X.str nm), .bool true, .int .i64 n, .string (X.str bs), .slice ap ps.length cp, .int .i64 ct, .int .i64 rk, .slice ab bd.length cb] 54)) := h2.keep _ _ _ _ HB4.out (by decide)
      have b0 := cell_blk HB5.out 0 rfl
      have b1 := cell_blk HB5.out 1 rfl
      have b2 := cell_blk HB5.out 2 rfl
      have b3 := cell_blk HB5.out 3 rfl
      have b4 := cell_blk HB5.out 4 rfl
      have b5 := cell_blk HB5.out 5 rfl
      have b6 := cell_blk HB5.out 6 rfl
      have b7 := cell_blk HB5.out 7 rfl
      have b8 := cell_blk HB5.out 8 rfl
      have HM5 : Hid (MS D y5 vs XS) := HM4.out.kp h2
      have HPR5 : Hid (y5.ownsRow D 9 1 (.slice ap ps.length cp) ps.length (ps.map sZ)) := row_kp HPR4.out h2 (by decide)
      have HBD5 : Hid (y5.ownsRow D 3 1 (.slice ab bd.length cb) bd.length (bd.map iZ)) := row_kp HBD4.out h2 (by decide)
      clear HM4 HPR4 HBD4
      clear h2 HGR5 HX4 HK4
      obtain ⟨A6, hA6⟩ : ∃ A, y5.alloc (.cells #[.string { data := #[114, 97, 110, 107] }, .string { data := (Go.Lib.itoa rk).toArray }] 9) = A := ⟨_, rfl⟩
      have HP6 : Hid _ := put_new HX5.out [[114, 97, 110, 107], (Go.Lib.itoa rk)] (by intro s hs; simp only [List.mem_cons, List.not_mem_nil, or_false] at hs; rcases hs with rfl | rfl <;> first | assumption | decide | omega | (show (Go.Lib.itoa n).length ≤ _; have := Go.Lib.itoa_length_le n hn0 hn1; omega) | (show (Go.Lib.itoa ct).length ≤ _; have := Go.Lib.itoa_length_le ct hc0 hc1; omega) | (show (Go.Lib.itoa rk).length ≤ _; have := Go.Lib.itoa_length_le rk hr0 hr1; omega)) (by simp) hA6
      go_wp2_with fail
      refine Calls.mono HP6.out ?_
      intro e y6 hy
      have HY6 : Hid _ := hy
      clear hy HP6
      cases hp6 : puts T4 [[114, 97, 110, 107], (Go.Lib.itoa rk)] with
      | none =>
        obtain rfl : none = R := by have := HR4.out; rw [hp6] at this; exact this
        have h2 := HY6.out
        rw [hp6] at h2
        have h3' : e = _ := h2.2
        subst h3'
        have HF : Hid (WXO B C w wp vd vs ve E none _ y6) := ⟨HK5.out.trans h2.1, h2.2⟩
        clear h2 HY6 HX5 HK5 HR4
        go_wp2_with fail
        exact ⟨rfl, HF.out⟩
      | some T6 =>
      have h2 := HY6.out
      rw [hp6] at h2
      have h3' : e = _ := h2.2.1
      subst h3'
      have HX6 : Hid (WX B C y6 wp vd vs ve E T6) := h2.2.2
      have HK6 : Hid (Kp [80, 5] B w y6) := HK5.out.trans h2.1
      have hr6 := HR4.out
      rw [hp6] at hr6
      simp only [Option.bind_some] at hr6
      have HR6 : Hid (_ = R) := hr6
      clear hr6
      have HM6 : Hid (MS D y6 vs XS) := HM5.out.kp h2.1
      have HPR6 : Hid (y6.ownsRow D 9 1 (.slice ap ps.length cp) ps.length (ps.map sZ)) := row_kp HPR5.out h2.1 (by decide)
      have HBD6 : Hid (y6.ownsRow D 3 1 (.slice ab bd.length cb) bd.length (bd.map iZ)) := row_kp HBD5.out h2.1 (by decide)
      clear HM5 HPR5 HBD5
      have HB6 : Hid (y6.heap[w.heap.size]? = some (.cells #[.int .i64 kd, .string (X.str nm), .bool true, .int .i64 n, .string (X.str bs), .slice ap ps.length cp, .int .i64 ct, .int .i64 rk, .slice ab bd.length cb] 54)) := h2.1.keep _ _ _ _ HB5.out (by decide)
      have b0 := cell_blk HB6.out 0 rfl
      have b1 := cell_blk HB6.out 1 rfl
      have b2 := cell_blk HB6.out 2 rfl
      have b3 := cell_blk HB6.out 3 rfl
      have b4 := cell_blk HB6.out 4 rfl
      have b5 := cell_blk HB6.out 5 rfl
      have b6 := cell_blk HB6.out 6 rfl
      have b7 := cell_blk HB6.out 7 rfl
      have b8 := cell_blk HB6.out 8 rfl
      clear h2 HY6 hp6 HX5 HR4 HK5
      obtain ⟨A7, hA7⟩ : ∃ A, y6.alloc (.cells #[.string { data := #[59] }] 9) = A := ⟨_, rfl⟩
      have HP7 : Hid _ := put_new HX6.out [[59]] (by intro s hs; simp only [List.mem_cons, List.not_mem_nil, or_false] at hs; rcases hs with rfl <;> first | assumption | decide | omega | (show (Go.Lib.itoa n).length ≤ _; have := Go.Lib.itoa_length_le n hn0 hn1; omega) | (show (Go.Lib.itoa ct).length ≤ _; have := Go.Lib.itoa_length_le ct hc0 hc1; omega) | (show (Go.Lib.itoa rk).length ≤ _; have := Go.Lib.itoa_length_le rk hr0 hr1; omega)) (by simp) hA7
      go_wp2_with fail
      refine Calls.mono HP7.out ?_
      intro e y7 hy
      have HY7 : Hid (WXO B C w wp vd vs ve E R e y7) := by
        show _
        have h5 := hy
        rw [HR6.out] at h5
        exact h5.on HK6.out
      clear hy HP7
      cases R with
      | none =>
        have h3' : e = _ := HY7.out.2
        subst h3'
        clear HX6 HK6 HR6
        go_wp2_with fail
        exact ⟨rfl, HY7.out⟩
      | some T9 =>
        have h3' : e = _ := HY7.out.2.1
        subst h3'
        clear HX6 HK6 HR6
        go_wp2_with fail
        refine bodyPost_end (results_none rfl _ _ _) rfl ?_
        exact HY7.out
    · have HRe : Hid (((puts T4 [[119, 105, 116, 104], bs]).bind fun T2 => wfR E (XS.map (·.s)) ⟨kd, nm, true, n, bs, ps, ct, rk, bd⟩ T2) = R) := (if_neg hb).symm.trans HR4.out
      clear HR4
      have HR4 := HRe
      rw [decide_eq_false hb] at hd
      clear HRe hb
      obtain ⟨A5, hA5⟩ : ∃ A, y4.alloc (.cells #[.string { data := #[119, 105, 116, 104] }, .string (X.str bs)] 9) = A := ⟨_, rfl⟩
      have HP5 : Hid _ := put_new HX4.out [[119, 105, 116, 104], bs] (by intro s hs; simp only [List.mem_cons, List.not_mem_nil, or_false] at hs; rcases hs with rfl | rfl <;> first | assumption | decide | omega | (show (Go.Lib.itoa n).length ≤ _; have := Go.Lib.itoa_length_le n hn0 hn1; omega) | (show (Go.Lib.itoa ct).length ≤ _; have := Go.Lib.itoa_length_le ct hc0 hc1; omega) | (show (Go.Lib.itoa rk).length ≤ _; have := Go.Lib.itoa_length_le rk hr0 hr1; omega)) (by simp) hA5
      go_wp2_with fail
      refine Calls.mono HP5.out ?_
      intro e y5 hy
      have HY5 : Hid _ := hy
      clear hy HP5
      cases hp5 : puts T4 [[119, 105, 116, 104], bs] with
      | none =>
        obtain rfl : none = R := by have := HR4.out; rw [hp5] at this; exact this
        have h2 := HY5.out
        rw [hp5] at h2
        have h3' : e = _ := h2.2
        subst h3'
        have HF : Hid (WXO B C w wp vd vs ve E none _ y5) := ⟨HK4.out.trans h2.1, h2.2⟩
        clear h2 HY5 HX4 HK4 HR4
        go_wp2_with fail
        exact ⟨rfl, HF.out⟩
      | some T5 =>
      have h2 := HY5.out
      rw [hp5] at h2
      have h3' : e = _ := h2.2.1
      subst h3'
      have HX5 : Hid (WX B C y5 wp vd vs ve E T5) := h2.2.2
      have HK5 : Hid (Kp [80, 5] B w y5) := HK4.out.trans h2.1
      have hr5 := HR4.out
      rw [hp5] at hr5
      simp only [Option.bind_some] at hr5
      have HR5 : Hid (_ = R) := hr5
      clear hr5
      have HM5 : Hid (MS D y5 vs XS) := HM4.out.kp h2.1
      have HPR5 : Hid (y5.ownsRow D 9 1 (.slice ap ps.length cp) ps.length (ps.map sZ)) := row_kp HPR4.out h2.1 (by decide)
      have HBD5 : Hid (y5.ownsRow D 3 1 (.slice ab bd.length cb) bd.length (bd.map iZ)) := row_kp HBD4.out h2.1 (by decide)
      clear HM4 HPR4 HBD4
      have HB5 : Hid (y5.heap[w.heap.size]? = some (.cells #[.int .i64 kd, .string (X.str nm), .bool true, .int .i64 n, .string (X.str bs), .slice ap ps.length cp, .int .i64 ct, .int .i64 rk, .slice ab bd.length cb] 54)) := h2.1.keep _ _ _ _ HB4.out (by decide)
      have b0 := cell_blk HB5.out 0 rfl
      have b1 := cell_blk HB5.out 1 rfl
      have b2 := cell_blk HB5.out 2 rfl
      have b3 := cell_blk HB5.out 3 rfl
      have b4 := cell_blk HB5.out 4 rfl
      have b5 := cell_blk HB5.out 5 rfl
      have b6 := cell_blk HB5.out 6 rfl
      have b7 := cell_blk HB5.out 7 rfl
      have b8 := cell_blk HB5.out 8 rfl
      clear h2 HY5 hp5 HX4 HR4 HK4
      have HRe : Hid (((puts T5 [[114, 97, 110, 107], Go.Lib.itoa rk]).bind fun T1 => puts T1 [[59]]) = R) := HR5.out
      clear HR5
      have HR5 := HRe
      clear HRe
      go_wp2_with fail
      refine (Tryz.strconv_Itoa rk hr0 hr1 _ HX5.out.pw).mono ?_
      rintro e z ⟨rfl, kk, os, rfl⟩
      have HGR6 : Hid _ := below_grow' y5 kk os
      generalize Go.Sort.grow (y5.drewN kk) os = y6 at *
      have h2 : Kp [80, 5] B y5 y6 := HX5.out.toKp HGR6.out
      have HX6 : Hid (WX B C y6 wp vd vs ve E T5) := HX5.out.below HGR6.out
      have HK6 : Hid (Kp [80, 5] B w y6) := HK5.out.trans h2
      have HB6 : Hid (y6.heap[w.heap.size]? = some (.cells #[.int .i64 kd, .string (X.str nm), .bool true, .int .i64 n, .string (X.str bs), .slice ap ps.length cp, .int .i64 ct, .int .i64 rk, .slice ab bd.length cb] 54)) := h2.keep _ _ _ _ HB5.out (by decide)
      have b0 := cell_blk HB6.out 0 rfl
      have b1 := cell_blk HB6.out 1 rfl
      have b2 := cell_blk HB6.out 2 rfl
      have b3 := cell_blk HB6.out 3 rfl
      have b4 := cell_blk HB6.out 4 rfl
      have b5 := cell_blk HB6.out 5 rfl
      have b6 := cell_blk HB6.out 6 rfl
      have b7 := cell_blk HB6.out 7 rfl
      have b8 := cell_blk HB6.out 8 rfl
      have HM6 : Hid (MS D y6 vs XS) := HM5.out.kp h2
      have HPR6 : Hid (y6.ownsRow D 9 1 (.slice ap ps.length cp) ps.length (ps.map sZ)) := row_kp HPR5.out h2 (by decide)
      have HBD6 : Hid (y6.ownsRow D 3 1 (.slice ab bd.length cb) bd.length (bd.map iZ)) := row_kp HBD5.out h2 (by decide)
      clear HM5 HPR5 HBD5
      clear h2 HGR6 HX5 HK5
      obtain ⟨A7, hA7⟩ : ∃ A, y6.alloc (.cells #[.string { data := #[114, 97, 110, 107] }, .string { data := (Go.Lib.itoa rk).toArray }] 9) = A := ⟨_, rfl⟩
      have HP7 : Hid _ := put_new HX6.out [[114, 97, 110, 107], (Go.Lib.itoa rk)] (by intro s hs; simp only [List.mem_cons, List.not_mem_nil, or_false] at hs; rcases hs with rfl | rfl <;> first | assumption | decide | omega | (show (Go.Lib.itoa n).length ≤ _; have := Go.Lib.itoa_length_le n hn0 hn1; omega) | (show (Go.Lib.itoa ct).length ≤ _; have := Go.Lib.itoa_length_le ct hc0 hc1; omega) | (show (Go.Lib.itoa rk).length ≤ _; have := Go.Lib.itoa_length_le rk hr0 hr1; omega)) (by simp) hA7
      go_wp2_with fail
      refine Calls.mono HP7.out ?_
      intro e y7 hy
      have HY7 : Hid _ := hy
      clear hy HP7
      cases hp7 : puts T5 [[114, 97, 110, 107], (Go.Lib.itoa rk)] with
      | none =>
        obtain rfl : none = R := by have := HR5.out; rw [hp7] at this; exact this
        have h2 := HY7.out
        rw [hp7] at h2
        have h3' : e = _ := h2.2
        subst h3'
        have HF : Hid (WXO B C w wp vd vs ve E none _ y7) := ⟨HK6.out.trans h2.1, h2.2⟩
        clear h2 HY7 HX6 HK6 HR5
        go_wp2_with fail
        exact ⟨rfl, HF.out⟩
      | some T7 =>
      have h2 := HY7.out
      rw [hp7] at h2
      have h3' : e = _ := h2.2.1
      subst h3'
      have HX7 : Hid (WX B C y7 wp vd vs ve E T7) := h2.2.2
      have HK7 : Hid (Kp [80, 5] B w y7) := HK6.out.trans h2.1
      have hr7 := HR5.out
      rw [hp7] at hr7
      simp only [Option.bind_some] at hr7
      have HR7 : Hid (_ = R) := hr7
      clear hr7
      have HM7 : Hid (MS D y7 vs XS) := HM6.out.kp h2.1
      have HPR7 : Hid (y7.ownsRow D 9 1 (.slice ap ps.length cp) ps.length (ps.map sZ)) := row_kp HPR6.out h2.1 (by decide)
      have HBD7 : Hid (y7.ownsRow D 3 1 (.slice ab bd.length cb) bd.length (bd.map iZ)) := row_kp HBD6.out h2.1 (by decide)
      clear HM6 HPR6 HBD6
      have HB7 : Hid (y7.heap[w.heap.size]? = some (.cells #[.int .i64 kd, .string (X.str nm), .bool true, .int .i64 n, .string (X.str bs), .slice ap ps.length cp, .int .i64 ct, .int .i64 rk, .slice ab bd.length cb] 54)) := h2.1.keep _ _ _ _ HB6.out (by decide)
      have b0 := cell_blk HB7.out 0 rfl
      have b1 := cell_blk HB7.out 1 rfl
      have b2 := cell_blk HB7.out 2 rfl
      have b3 := cell_blk HB7.out 3 rfl
      have b4 := cell_blk HB7.out 4 rfl
      have b5 := cell_blk HB7.out 5 rfl
      have b6 := cell_blk HB7.out 6 rfl
      have b7 := cell_blk HB7.out 7 rfl
      have b8 := cell_blk HB7.out 8 rfl
      clear h2 HY7 hp7 HX6 HR5 HK6
      obtain ⟨A8, hA8⟩ : ∃ A, y7.alloc (.cells #[.string { data := #[59] }] 9) = A := ⟨_, rfl⟩
      have HP8 : Hid _ := put_new HX7.out [[59]] (by intro s hs; simp only [List.mem_cons, List.not_mem_nil, or_false] at hs; rcases hs with rfl <;> first | assumption | decide | omega | (show (Go.Lib.itoa n).length ≤ _; have := Go.Lib.itoa_length_le n hn0 hn1; omega) | (show (Go.Lib.itoa ct).length ≤ _; have := Go.Lib.itoa_length_le ct hc0 hc1; omega) | (show (Go.Lib.itoa rk).length ≤ _; have := Go.Lib.itoa_length_le rk hr0 hr1; omega)) (by simp) hA8
      go_wp2_with fail
      refine Calls.mono HP8.out ?_
      intro e y8 hy
      have HY8 : Hid (WXO B C w wp vd vs ve E R e y8) := by
        show _
        have h5 := hy
        rw [HR7.out] at h5
        exact h5.on HK7.out
      clear hy HP8
      cases R with
      | none =>
        have h3' : e = _ := HY8.out.2
        subst h3'
        clear HX7 HK7 HR7
        go_wp2_with fail
        exact ⟨rfl, HY8.out⟩
      | some T9 =>
        have h3' : e = _ := HY8.out.2.1
        subst h3'
        clear HX7 HK7 HR7
        go_wp2_with fail
        refine bodyPost_end (results_none rfl _ _ _) rfl ?_
        exact HY8.out
  case false =>
    have HR0 : Hid (((puts T [[105, 110, 116], nm, [40]]).bind fun T1 => (wparams true ps T1).bind fun T2 => wfT E (XS.map (·.s)) ⟨kd, nm, false, n, bs, ps, ct, rk, bd⟩ T2) = R) := HR.out
    clear HR
    obtain ⟨A1, hA1⟩ : ∃ A, y0.alloc (.cells #[.string { data := #[105, 110, 116] }, .string (X.str nm), .string { data := #[40] }] 9) = A := ⟨_, rfl⟩
    have HP1 : Hid _ := put_new HX0.out [[105, 110, 116], nm, [40]] (by intro s hs; simp only [List.mem_cons, List.not_mem_nil, or_false] at hs; rcases hs with rfl | rfl | rfl <;> first | assumption | decide | omega | (show (Go.Lib.itoa n).length ≤ _; have := Go.Lib.itoa_length_le n hn0 hn1; omega) | (show (Go.Lib.itoa ct).length ≤ _; have := Go.Lib.itoa_length_le ct hc0 hc1; omega) | (show (Go.Lib.itoa rk).length ≤ _; have := Go.Lib.itoa_length_le rk hr0 hr1; omega)) (by simp) hA1
    go_wp2_with fail
    refine Calls.mono HP1.out ?_
    intro e y1 hy
    have HY1 : Hid _ := hy
    clear hy HP1
    cases hp1 : puts T [[105, 110, 116], nm, [40]] with
    | none =>
      obtain rfl : none = R := by have := HR0.out; rw [hp1] at this; exact this
      have h2 := HY1.out
      rw [hp1] at h2
      have h3' : e = _ := h2.2
      subst h3'
      have HF : Hid (WXO B C w wp vd vs ve E none _ y1) := ⟨HK0.out.trans h2.1, h2.2⟩
      clear h2 HY1 HX0 HK0 HR0
      go_wp2_with fail
      exact ⟨rfl, HF.out⟩
    | some T1 =>
    have h2 := HY1.out
    rw [hp1] at h2
    have h3' : e = _ := h2.2.1
    subst h3'
    have HX1 : Hid (WX B C y1 wp vd vs ve E T1) := h2.2.2
    have HK1 : Hid (Kp [80, 5] B w y1) := HK0.out.trans h2.1
    have hr1 := HR0.out
    rw [hp1] at hr1
    simp only [Option.bind_some] at hr1
    have HR1 : Hid (_ = R) := hr1
    clear hr1
    have HM1 : Hid (MS D y1 vs XS) := HM0.out.kp h2.1
    have HPR1 : Hid (y1.ownsRow D 9 1 (.slice ap ps.length cp) ps.length (ps.map sZ)) := row_kp HPR0.out h2.1 (by decide)
    have HBD1 : Hid (y1.ownsRow D 3 1 (.slice ab bd.length cb) bd.length (bd.map iZ)) := row_kp HBD0.out h2.1 (by decide)
    clear HM0 HPR0 HBD0
    have HB1 : Hid (y1.heap[w.heap.size]? = some (.cells #[.int .i64 kd, .string (X.str nm), .bool false, .int .i64 n, .string (X.str bs), .slice ap ps.length cp, .int .i64 ct, .int .i64 rk, .slice ab bd.length cb] 54)) := h2.1.keep _ _ _ _ HB.out (by decide)
    have b0 := cell_blk HB1.out 0 rfl
    have b1 := cell_blk HB1.out 1 rfl
    have b2 := cell_blk HB1.out 2 rfl
    have b3 := cell_blk HB1.out 3 rfl
    have b4 := cell_blk HB1.out 4 rfl
    have b5 := cell_blk HB1.out 5 rfl
    have b6 := cell_blk HB1.out 6 rfl
    have b7 := cell_blk HB1.out 7 rfl
    have b8 := cell_blk HB1.out 8 rfl
    clear h2 HY1 hp1 HX0 HR0 HK0

    have HP2 : Hid _ := wparams_any HX1.out HPR1.out hps
    go_wp2_with fail
    refine Calls.mono HP2.out ?_
    intro e y2 hy
    have HY2 : Hid _ := hy
    clear hy HP2
    cases hp2 : wparams true ps T1 with
    | none =>
      obtain rfl : none = R := by have := HR1.out; rw [hp2] at this; exact this
      have h2 := HY2.out
      rw [hp2] at h2
      have h3' : e = _ := h2.2
      subst h3'
      have HF : Hid (WXO B C w wp vd vs ve E none _ y2) := ⟨HK1.out.trans h2.1, h2.2⟩
      clear h2 HY2 HX1 HK1 HR1
      go_wp2_with fail
      exact ⟨rfl, HF.out⟩
    | some T2 =>
    have h2 := HY2.out
    rw [hp2] at h2
    have h3' : e = _ := h2.2.1
    subst h3'
    have HX2 : Hid (WX B C y2 wp vd vs ve E T2) := h2.2.2
    have HK2 : Hid (Kp [80, 5] B w y2) := HK1.out.trans h2.1
    have hr2 := HR1.out
    rw [hp2] at hr2
    simp only [Option.bind_some] at hr2
    have HR2 : Hid (_ = R) := hr2
    clear hr2
    have HM2 : Hid (MS D y2 vs XS) := HM1.out.kp h2.1
    have HPR2 : Hid (y2.ownsRow D 9 1 (.slice ap ps.length cp) ps.length (ps.map sZ)) := row_kp HPR1.out h2.1 (by decide)
    have HBD2 : Hid (y2.ownsRow D 3 1 (.slice ab bd.length cb) bd.length (bd.map iZ)) := row_kp HBD1.out h2.1 (by decide)
    clear HM1 HPR1 HBD1
    have HB2 : Hid (y2.heap[w.heap.size]? = some (.cells #[.int .i64 kd, .string (X.str nm), .bool false, .int .i64 n, .string (X.str bs), .slice ap ps.length cp, .int .i64 ct, .int .i64 rk, .slice ab bd.length cb] 54)) := h2.1.keep _ _ _ _ HB1.out (by decide)
    have b0 := cell_blk HB2.out 0 rfl
    have b1 := cell_blk HB2.out 1 rfl
    have b2 := cell_blk HB2.out 2 rfl
    have b3 := cell_blk HB2.out 3 rfl
    have b4 := cell_blk HB2.out 4 rfl
    have b5 := cell_blk HB2.out 5 rfl
    have b6 := cell_blk HB2.out 6 rfl
    have b7 := cell_blk HB2.out 7 rfl
    have b8 := cell_blk HB2.out 8 rfl
    clear h2 HY2 hp2 HX1 HR1 HK1
    have HRe : Hid (((puts T2 [[41]]).bind fun T1 => if bs = [] then wfR E (XS.map (·.s)) ⟨kd, nm, false, n, bs, ps, ct, rk, bd⟩ T1 else (puts T1 [[119, 105, 116, 104], bs]).bind fun T2 => wfR E (XS.map (·.s)) ⟨kd, nm, false, n, bs, ps, ct, rk, bd⟩ T2) = R) := HR2.out
    clear HR2
    have HR2 := HRe
    clear HRe
    obtain ⟨A3, hA3⟩ : ∃ A, y2.alloc (.cells #[.string { data := #[41] }] 9) = A := ⟨_, rfl⟩
    have HP3 : Hid _ := put_new HX2.out [[41]] (by intro s hs; simp only [List.mem_cons, List.not_mem_nil, or_false] at hs; rcases hs with rfl <;> first | assumption | decide | omega | (show (Go.Lib.itoa n).length ≤ _; have := Go.Lib.itoa_length_le n hn0 hn1; omega) | (show (Go.Lib.itoa ct).length ≤ _; have := Go.Lib.itoa_length_le ct hc0 hc1; omega) | (show (Go.Lib.itoa rk).length ≤ _; have := Go.Lib.itoa_length_le rk hr0 hr1; omega)) (by simp) hA3
    go_wp2_with fail
    refine Calls.mono HP3.out ?_
    intro e y3 hy
    have HY3 : Hid _ := hy
    clear hy HP3
    cases hp3 : puts T2 [[41]] with
    | none =>
      obtain rfl : none = R := by have := HR2.out; rw [hp3] at this; exact this
      have h2 := HY3.out
      rw [hp3] at h2
      have h3' : e = _ := h2.2
      subst h3'
      have HF : Hid (WXO B C w wp vd vs ve E none _ y3) := ⟨HK2.out.trans h2.1, h2.2⟩
      clear h2 HY3 HX2 HK2 HR2
      go_wp2_with fail
      exact ⟨rfl, HF.out⟩
    | some T3 =>
    have h2 := HY3.out
    rw [hp3] at h2
    have h3' : e = _ := h2.2.1
    subst h3'
    have HX3 : Hid (WX B C y3 wp vd vs ve E T3) := h2.2.2
    have HK3 : Hid (Kp [80, 5] B w y3) := HK2.out.trans h2.1
    have hr3 := HR2.out
    rw [hp3] at hr3
    simp only [Option.bind_some] at hr3
    have HR3 : Hid (_ = R) := hr3
    clear hr3
    have HM3 : Hid (MS D y3 vs XS) := HM2.out.kp h2.1
    have HPR3 : Hid (y3.ownsRow D 9 1 (.slice ap ps.length cp) ps.length (ps.map sZ)) := row_kp HPR2.out h2.1 (by decide)
    have HBD3 : Hid (y3.ownsRow D 3 1 (.slice ab bd.length cb) bd.length (bd.map iZ)) := row_kp HBD2.out h2.1 (by decide)
    clear HM2 HPR2 HBD2
    have HB3 : Hid (y3.heap[w.heap.size]? = some (.cells #[.int .i64 kd, .string (X.str nm), .bool false, .int .i64 n, .string (X.str bs), .slice ap ps.length cp, .int .i64 ct, .int .i64 rk, .slice ab bd.length cb] 54)) := h2.1.keep _ _ _ _ HB2.out (by decide)
    have b0 := cell_blk HB3.out 0 rfl
    have b1 := cell_blk HB3.out 1 rfl
    have b2 := cell_blk HB3.out 2 rfl
    have b3 := cell_blk HB3.out 3 rfl
    have b4 := cell_blk HB3.out 4 rfl
    have b5 := cell_blk HB3.out 5 rfl
    have b6 := cell_blk HB3.out 6 rfl
    have b7 := cell_blk HB3.out 7 rfl
    have b8 := cell_blk HB3.out 8 rfl
    clear h2 HY3 hp3 HX2 HR2 HK2
    by_cases hb : bs = []
    · have HRe : Hid (wfR E (XS.map (·.s)) ⟨kd, nm, false, n, bs, ps, ct, rk, bd⟩ T3 = R) := (if_pos hb).symm.trans HR3.out
      clear HR3
      have HR3 := HRe
      rw [decide_eq_true hb] at hd
      clear HRe hb
      have HRe : Hid (((puts T3 [[114, 97, 110, 107], Go.Lib.itoa rk]).bind fun T1 => wblk (XS.map (·.s)) (wstmt E (XS.map (·.s)) 20002) bd T1) = R) := HR3.out
      clear HR3
      have HR3 := HRe
      clear HRe
      go_wp2_with fail
      refine (Tryz.strconv_Itoa rk hr0 hr1 _ HX3.out.pw).mono ?_
      rintro e z ⟨rfl, kk, os, rfl⟩
      have HGR4 : Hid _ := below_grow' y3 kk os
      generalize Go.Sort.grow (y3.drewN kk) os = y4 at *
      have h2 : Kp [80, 5] B y3 y4 := HX3.out.toKp HGR4.out
      have HX4 : Hid (WX B C y4 wp vd vs ve E T3) := HX3.out.below HGR4.out
      have HK4 : Hid (Kp [80, 5] B w y4) := HK3.out.trans h2
      have HB4 : Hid (y4.heap[w.heap.size]? = some (.cells #[.int .i64 kd, .string (X.str nm), .bool false, .int .i64 n, .string (X.str bs), .slice ap ps.length cp, .int .i64 ct, .int .i64 rk, .slice ab bd.length cb] 54)) := h2.keep _ _ _ _ HB3.out (by decide)
      have b0 := cell_blk HB4.out 0 rfl
      have b1 := cell_blk HB4.out 1 rfl
      have b2 := cell_blk HB4.out 2 rfl
      have b3 := cell_blk HB4.out 3 rfl
      have b4 := cell_blk HB4.out 4 rfl
      have b5 := cell_blk HB4.out 5 rfl
      have b6 := cell_blk HB4.out 6 rfl
      have b7 := cell_blk HB4.out 7 rfl
      have b8 := cell_blk HB4.out 8 rfl
      have HM4 : Hid (MS D y4 vs XS) := HM3.out.kp h2
      have HPR4 : Hid (y4.ownsRow D 9 1 (.slice ap ps.length cp) ps.length (ps.map sZ)) := row_kp HPR3.out h2 (by decide)
      have HBD4 : Hid (y4.ownsRow D 3 1 (.slice ab bd.length cb) bd.length (bd.map iZ)) := row_kp HBD3.out h2 (by decide)
      clear HM3 HPR3 HBD3
      clear h2 HGR4 HX3 HK3
      obtain ⟨A5, hA5⟩ : ∃ A, y4.alloc (.cells #[.string { data := #[114, 97, 110, 107] }, .string { data := (Go.Lib.itoa rk).toArray }] 9) = A := ⟨_, rfl⟩
      have HP5 : Hid _ := put_new HX4.out [[114, 97, 110, 107], (Go.Lib.itoa rk)] (by intro s hs; simp only [List.mem_cons, List.not_mem_nil, or_false] at hs; rcases hs with rfl | rfl <;> first | assumption | decide | omega | (show (Go.Lib.itoa n).length ≤ _; have := Go.Lib.itoa_length_le n hn0 hn1; omega) | (show (Go.Lib.itoa ct).length ≤ _; have := Go.Lib.itoa_length_le ct hc0 hc1; omega) | (show (Go.Lib.itoa rk).length ≤ _; have := Go.Lib.itoa_length_le rk hr0 hr1; omega)) (by simp) hA5
      go_wp2_with fail
      refine Calls.mono HP5.out ?_
      intro e y5 hy
      have HY5 : Hid _ := hy
      clear hy HP5
      cases hp5 : puts T3 [[114, 97, 110, 107], (Go.Lib.itoa rk)] with
      | none =>
        obtain rfl : none = R := by have := HR3.out; rw [hp5] at this; exact this
        have h2 := HY5.out
        rw [hp5] at h2
        have h3' : e = _ := h2.2
        subst h3'
        have HF : Hid (WXO B C w wp vd vs ve E none _ y5) := ⟨HK4.out.trans h2.1, h2.2⟩
        clear h2 HY5 HX4 HK4 HR3
        go_wp2_with fail
        exact ⟨rfl, HF.out⟩
      | some T5 =>
      have h2 := HY5.out
      rw [hp5] at h2
      have h3' : e = _ := h2.2.1
      subst h3'
      have HX5 : Hid (WX B C y5 wp vd vs ve E T5) := h2.2.2
      have HK5 : Hid (Kp [80, 5] B w y5) := HK4.out.trans h2.1
      have hr5 := HR3.out
      rw [hp5] at hr5
      simp only [Option.bind_some] at hr5
      have HR5 : Hid (_ = R) := hr5
      clear hr5
      have HM5 : Hid (MS D y5 vs XS) := HM4.out.kp h2.1
      have HPR5 : Hid (y5.ownsRow D 9 1 (.slice ap ps.length cp) ps.length (ps.map sZ)) := row_kp HPR4.out h2.1 (by decide)
      have HBD5 : Hid (y5.ownsRow D 3 1 (.slice ab bd.length cb) bd.length (bd.map iZ)) := row_kp HBD4.out h2.1 (by decide)
      clear HM4 HPR4 HBD4
      have HB5 : Hid (y5.heap[w.heap.size]? = some (.cells #[.int .i64 kd, .string (X.str nm), .bool false, .int .i64 n, .string (X.str bs), .slice ap ps.length cp, .int .i64 ct, .int .i64 rk, .slice ab bd.length cb] 54)) := h2.1.keep _ _ _ _ HB4.out (by decide)
      have b0 := cell_blk HB5.out 0 rfl
      have b1 := cell_blk HB5.out 1 rfl
      have b2 := cell_blk HB5.out 2 rfl
      have b3 := cell_blk HB5.out 3 rfl
      have b4 := cell_blk HB5.out 4 rfl
      have b5 := cell_blk HB5.out 5 rfl
      have b6 := cell_blk HB5.out 6 rfl
      have b7 := cell_blk HB5.out 7 rfl
      have b8 := cell_blk HB5.out 8 rfl
      clear h2 HY5 hp5 HX4 HR3 HK4

      have HP6 : Hid _ := wblk_any hE hS bd HX5.out HM5.out HBD5.out
      go_wp2_with fail
      refine Calls.mono HP6.out ?_
      intro e y6 hy
      have HY6 : Hid (WXO B C w wp vd vs ve E R e y6) := by
        show _
        have h5 := hy
        rw [HR5.out] at h5
        exact h5.on HK5.out
      clear hy HP6
      cases R with
      | none =>
        have h3' : e = _ := HY6.out.2
        subst h3'
        clear HX5 HK5 HR5
        go_wp2_with fail
        exact ⟨rfl, HY6.out⟩
      | some T9 =>
        have h3' : e = _ := HY6.out.2.1
        subst h3'
        clear HX5 HK5 HR5
        go_wp2_with fail
        refine bodyPost_end (results_none rfl _ _ _) rfl ?_
        exact HY6.out
    · have HRe : Hid (((puts T3 [[119, 105, 116, 104], bs]).bind fun T2 => wfR E (XS.map (·.s)) ⟨kd, nm, false, n, bs, ps, ct, rk, bd⟩ T2) = R) := (if_neg hb).symm.trans HR3.out
      clear HR3
      have HR3 := HRe
      rw [decide_eq_false hb] at hd
      clear HRe hb
      obtain ⟨A4, hA4⟩ : ∃ A, y3.alloc (.cells #[.string { data := #[119, 105, 116, 104] }, .string (X.str bs)] 9) = A := ⟨_, rfl⟩
      have HP4 : Hid _ := put_new HX3.out [[119, 105, 116, 104], bs] (by intro s hs; simp only [List.mem_cons, List.not_mem_nil, or_false] at hs; rcases hs with rfl | rfl <;> first | assumption | decide | omega | (show (Go.Lib.itoa n).length ≤ _; have := Go.Lib.itoa_length_le n hn0 hn1; omega) | (show (Go.Lib.itoa ct).length ≤ _; have := Go.Lib.itoa_length_le ct hc0 hc1; omega) | (show (Go.Lib.itoa rk).length ≤ _; have := Go.Lib.itoa_length_le rk hr0 hr1; omega)) (by simp) hA4
      go_wp2_with fail
      refine Calls.mono HP4.out ?_
      intro e y4 hy
      have HY4 : Hid _ := hy
      clear hy HP4
      cases hp4 : puts T3 [[119, 105, 116, 104], bs] with
      | none =>
        obtain rfl : none = R := by have := HR3.out; rw [hp4] at this; exact this
        have h2 := HY4.out
        rw [hp4] at h2
        have h3' : e = _ := h2.2
        subst h3'
        have HF : Hid (WXO B C w wp vd vs ve E none _ y4) := ⟨HK3.out.trans h2.1, h2.2⟩
        clear h2 HY4 HX3 HK3 HR3
        go_wp2_with fail
        exact ⟨rfl, HF.out⟩
      | some T4 =>
      have h2 := HY4.out
      rw [hp4] at h2
      have h3' : e = _ := h2.2.1
      subst h3'
      have HX4 : Hid (WX B C y4 wp vd vs ve E T4) := h2.2.2
      have HK4 : Hid (Kp [80, 5] B w y4) := HK3.out.trans h2.1
      have hr4 := HR3.out
      rw [hp4] at hr4
      simp only [Option.bind_some] at hr4
      have HR4 : Hid (_ = R) := hr4
      clear hr4
      have HM4 : Hid (MS D y4 vs XS) := HM3.out.kp h2.1
      have HPR4 : Hid (y4.ownsRow D 9 1 (.slice ap ps.length cp) ps.length (ps.map sZ)) := row_kp HPR3.out h2.1 (by decide)
      have HBD4 : Hid (y4.ownsRow D 3 1 (.slice ab bd.length cb) bd.length (bd.map iZ)) := row_kp HBD3.out h2.1 (by decide)
      clear HM3 HPR3 HBD3
      have HB4 : Hid (y4.heap[w.heap.size]? = some (.cells #[.int .i64 kd, .string (X.str nm), .bool false, .int .i64 n, .string (X.str bs), .slice ap ps.length cp, .int .i64 ct, .int .i64 rk, .slice ab bd.length cb] 54)) := h2.1.keep _ _ _ _ HB3.out (by decide)
      have b0 := cell_blk HB4.out 0 rfl
      have b1 := cell_blk HB4.out 1 rfl
      have b2 := cell_blk HB4.out 2 rfl
      have b3 := cell_blk HB4.out 3 rfl
      have b4 := cell_blk HB4.out 4 rfl
      have b5 := cell_blk HB4.out 5 rfl
      have b6 := cell_blk HB4.out 6 rfl
      have b7 := cell_blk HB4.out 7 rfl
      have b8 := cell_blk HB4.out 8 rfl
      clear h2 HY4 hp4 HX3 HR3 HK3
      have HRe : Hid (((puts T4 [[114, 97, 110, 107], Go.Lib.itoa rk]).bind fun T1 => wblk (XS.map (·.s)) (wstmt E (XS.map (·.s)) 20002) bd T1) = R) := HR4.out
      clear HR4
      have HR4 := HRe
      clear HRe
      go_wp2_with fail
      refine (Tryz.strconv_Itoa rk hr0 hr1 _ HX4.out.pw).mono ?_
      rintro e z ⟨rfl, kk, os, rfl⟩
      have HGR5 : Hid _ := below_grow' y4 kk os
      generalize Go.Sort.grow (y4.drewN kk) os = y5 at *
      have h2 : Kp [80, 5] B y4 y5 := HX4.out.toKp HGR5.out
      have HX5 : Hid (WX B C y5 wp vd vs ve E T4) := HX4.out.below HGR5.out
      have HK5 : Hid (Kp [80, 5] B w y5) := HK4.out.trans h2
      have HB5 : Hid (y5.heap[w.heap.size]? = some (.cells #[.int .i64 kd, .string (X.str nm), .bool false, .int .i64 n, .string (X.str bs), .slice ap ps.length cp, .int .i64 ct, .int .i64 rk, .slice ab bd.length cb] 54)) := h2.keep _ _ _ _ HB4.out (by decide)
      have b0 := cell_blk HB5.out 0 rfl
      have b1 := cell_blk HB5.out 1 rfl
      have b2 := cell_blk HB5.out 2 rfl
      have b3 := cell_blk HB5.out 3 rfl
      have b4 := cell_blk HB5.out 4 rfl
      have b5 := cell_blk HB5.out 5 rfl
      have b6 := cell_blk HB5.out 6 rfl
      have b7 := cell_blk HB5.out 7 rfl
      have b8 := cell_blk HB5.out 8 rfl
      have HM5 : Hid (MS D y5 vs XS) := HM4.out.kp h2
      have HPR5 : Hid (y5.ownsRow D 9 1 (.slice ap ps.length cp) ps.length (ps.map sZ)) := row_kp HPR4.out h2 (by decide)
      have HBD5 : Hid (y5.ownsRow D 3 1 (.slice ab bd.length cb) bd.length (bd.map iZ)) := row_kp HBD4.out h2 (by decide)
      clear HM4 HPR4 HBD4
      clear h2 HGR5 HX4 HK4
      obtain ⟨A6, hA6⟩ : ∃ A, y5.alloc (.cells #[.string { data := #[114, 97, 110, 107] }, .string { data := (Go.Lib.itoa rk).toArray }] 9) = A := ⟨_, rfl⟩
      have HP6 : Hid _ := put_new HX5.out [[114, 97, 110, 107], (Go.Lib.itoa rk)] (by intro s hs; simp only [List.mem_cons, List.not_mem_nil, or_false] at hs; rcases hs with rfl | rfl <;> first | assumption | decide | omega | (show (Go.Lib.itoa n).length ≤ _; have := Go.Lib.itoa_length_le n hn0 hn1; omega) | (show (Go.Lib.itoa ct).length ≤ _; have := Go.Lib.itoa_length_le ct hc0 hc1; omega) | (show (Go.Lib.itoa rk).length ≤ _; have := Go.Lib.itoa_length_le rk hr0 hr1; omega)) (by simp) hA6
      go_wp2_with fail
      refine Calls.mono HP6.out ?_
      intro e y6 hy
      have HY6 : Hid _ := hy
      clear hy HP6
      cases hp6 : puts T4 [[114, 97, 110, 107], (Go.Lib.itoa rk)] with
      | none =>
        obtain rfl : none = R := by have := HR4.out; rw [hp6] at this; exact this
        have h2 := HY6.out
        rw [hp6] at h2
        have h3' : e = _ := h2.2
        subst h3'
        have HF : Hid (WXO B C w wp vd vs ve E none _ y6) := ⟨HK5.out.trans h2.1, h2.2⟩
        clear h2 HY6 HX5 HK5 HR4
        go_wp2_with fail
        exact ⟨rfl, HF.out⟩
      | some T6 =>
      have h2 := HY6.out
      rw [hp6] at h2
      have h3' : e = _ := h2.2.1
      subst h3'
      have HX6 : Hid (WX B C y6 wp vd vs ve E T6) := h2.2.2
      have HK6 : Hid (Kp [80, 5] B w y6) := HK5.out.trans h2.1
      have hr6 := HR4.out
      rw [hp6] at hr6
      simp only [Option.bind_some] at hr6
      have HR6 : Hid (_ = R) := hr6
      clear hr6
      have HM6 : Hid (MS D y6 vs XS) := HM5.out.kp h2.1
      have HPR6 : Hid (y6.ownsRow D 9 1 (.slice ap ps.length cp) ps.length (ps.map sZ)) := row_kp HPR5.out h2.1 (by decide)
      have HBD6 : Hid (y6.ownsRow D 3 1 (.slice ab bd.length cb) bd.length (bd.map iZ)) := row_kp HBD5.out h2.1 (by decide)
      clear HM5 HPR5 HBD5
      have HB6 : Hid (y6.heap[w.heap.size]? = some (.cells #[.int .i64 kd, .string (X.str nm), .bool false, .int .i64 n, .string (X.str bs), .slice ap ps.length cp, .int .i64 ct, .int .i64 rk, .slice ab bd.length cb] 54)) := h2.1.keep _ _ _ _ HB5.out (by decide)
      have b0 := cell_blk HB6.out 0 rfl
      have b1 := cell_blk HB6.out 1 rfl
      have b2 := cell_blk HB6.out 2 rfl
      have b3 := cell_blk HB6.out 3 rfl
      have b4 := cell_blk HB6.out 4 rfl
      have b5 := cell_blk HB6.out 5 rfl
      have b6 := cell_blk HB6.out 6 rfl
      have b7 := cell_blk HB6.out 7 rfl
      have b8 := cell_blk HB6.out 8 rfl
      clear h2 HY6 hp6 HX5 HR4 HK5

      have HP7 : Hid _ := wblk_any hE hS bd HX6.out HM6.out HBD6.out
      go_wp2_with fail
      refine Calls.mono HP7.out ?_
      intro e y7 hy
      have HY7 : Hid (WXO B C w wp vd vs ve E R e y7) := by
        show _
        have h5 := hy
        rw [HR6.out] at h5
        exact h5.on HK6.out
      clear hy HP7
      cases R with
      | none =>
        have h3' : e = _ := HY7.out.2
        subst h3'
        clear HX6 HK6 HR6
        go_wp2_with fail
        exact ⟨rfl, HY7.out⟩
      | some T9 =>
        have h3' : e = _ := HY7.out.2.1
        subst h3'
        clear HX6 HK6 HR6
        go_wp2_with fail
        refine bodyPost_end (results_none rfl _ _ _) rfl ?_
        exact HY7.out
end Go.Proofs.YtikknlkdbjaonaaGreatDoor.Y
