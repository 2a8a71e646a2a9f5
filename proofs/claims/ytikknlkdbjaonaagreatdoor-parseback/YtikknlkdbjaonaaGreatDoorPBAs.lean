/- The writer: blocks and statements. -/
import Derived.Test.YtikknlkdbjaonaaGreatDoorPBAr
namespace Go.Proofs.YtikknlkdbjaonaaGreatDoor.Y
open Go.RowKit Go.Maps Go.Lib
set_option linter.unusedVariables false
set_option linter.unusedSimpArgs false
def wchoice (E : List Exp) (S : List Stmt) (g : Stmt → By → Option By) (s : Stmt) (T : By) : Option By := (wcond E [105, 102] s.e T).bind fun T1 => (wblk S g s.body T1).bind fun T2 => if s.els = [] then some T2 else (puts T2 [[101, 108, 115, 101]]).bind fun T3 => wblk S g s.els T3
theorem MS.cells {C : Nat} {w : World} {vs : Value} {XS : List Sx} (h : MS C w vs XS) {j : Nat} {p : Sx} (hp : XS[j]? = some p) : ∃ g c, vs = .slice (some ⟨g, 0, none⟩) XS.length c ∧ ∀ q u, (stC p)[q]? = some u → w.cell? ⟨g, j * 8 + q, none⟩ = some u := by
  have hj : j < XS.length := (List.getElem?_eq_some_iff.1 hp).1
  rcases h.rs.2 with ⟨e1, e2⟩ | ⟨g, cap, cur, e1, -⟩
  · omega
  · subst e1
    refine ⟨g, cap, rfl, fun q u hu => ?_⟩
    have hq : q < 8 := by
      have := (List.getElem?_eq_some_iff.1 hu).1
      rw [stC_len] at this
      exact this
    have hf := h.rs.cellAt (j * 8 + q) (by omega)
    rw [flat_at stC 8 p stC_len XS j q hj hq, List.getD_eq_getElem?_getD, hp, Option.getD_some, hu] at hf
    exact hf
theorem getD_map {XS : List Sx} {j : Nat} {p : Sx} (hp : XS[j]? = some p) : (XS.map (·.s)).getD j noS = p.s := by
  rw [List.getD_eq_getElem?_getD, List.getElem?_map, hp]; rfl
set_option maxRecDepth 100000 in
set_option maxHeartbeats 8000000 in
theorem wblk_step {B C D : Nat} {wp : Nat} {vd vs ve : Value} {E : List Exp} {XS : List Sx} (hE : EOk E) (hS : SOk XS) (f : Nat) (g : Stmt → By → Option By) (hg : ∀ {s : Stmt} {T T' : By}, g s T = some T' → T.length ≤ T'.length) (hs : ∀ {w : World} {T : By} (p : Sx), WX B C w wp vd vs ve E T → MS D w vs XS → p ∈ XS → 20001 < T.length + f → Calls Tryz.prog 110 #[.pointer (some ⟨wp, 0, none⟩), stV p] w (WXO B C w wp vd vs ve E (g p.s T))) {w : World} {T : By} {a : Option Addr} {c : Nat} (l : List Int) (h : WX B C w wp vd vs ve E T) (hM : MS D w vs XS) (hf : 20001 < T.length + f + 1) (hl : w.ownsRow D 3 1 (.slice a l.length c) l.length (l.map iZ)) : Calls Tryz.prog 90 #[.pointer (some ⟨wp, 0, none⟩), .slice a l.length c] w (WXO B C w wp vd vs ve E (wblk (XS.map (·.s)) g l T)) := by
  obtain ⟨R, hR⟩ : ∃ R, wblk (XS.map (·.s)) g l T = R := ⟨_, rfl⟩
  rw [hR]
  have HR0 : Hid (((puts T [[123]]).bind fun T1 => (wlist (XS.map (·.s)) g l T1).bind fun T2 => puts T2 [[125]]) = R) := hR
  have HX0 : Hid (WX B C w wp vd vs ve E T) := h
  have HK0 : Hid (Kp [80, 5] B w w) := Kp.refl _ _ _
  have HM0 : Hid (MS D w vs XS) := hM
  have HL0 : Hid (w.ownsRow D 3 1 (.slice a l.length c) l.length (l.map iZ)) := hl
  have HS : Hid (∀ {w : World} {T : By} (p : Sx), WX B C w wp vd vs ve E T → MS D w vs XS → p ∈ XS → 20001 < T.length + f → Calls Tryz.prog 110 #[.pointer (some ⟨wp, 0, none⟩), stV p] w (WXO B C w wp vd vs ve E (g p.s T))) := hs
  have HG : Hid (∀ {s : Stmt} {T T' : By}, g s T = some T' → T.length ≤ T'.length) := hg
  have hm2 : maxLen = 9223372036854775807 := rfl
  have hlm : l.length ≤ maxLen := by rcases hl.2 with ⟨e1, e2⟩ | ⟨g, cap, cur, e1, e2, e3, e4, e5, -⟩ <;> omega
  have hxm : XS.length ≤ maxLen := by rcases hM.rs.2 with ⟨e1, e2⟩ | ⟨g, cap, cur, e1, e2, e3, e4, e5, -⟩ <;> omega
  clear h hl hR hM hs hg
  go_enter Tryz.func90, Tryz.ntmps90
  obtain ⟨A1, hA1⟩ : ∃ A, w.alloc (.cells #[.string { data := #[123] }] 9) = A := ⟨_, rfl⟩
  have HP1 : Hid _ := put_new HX0.out [[123]] (by intro s hs; simp only [List.mem_cons, List.not_mem_nil, or_false] at hs; rcases hs with rfl <;> first | assumption | decide | omega) (by simp) hA1
  go_wp2_with fail
  refine Calls.mono HP1.out ?_
  intro e y1 hy
  have HY1 : Hid _ := hy
  clear hy HP1
  cases hp1 : puts T [[123]] with
  | none =>
    obtain rfl : none = R := by have := HR0.out; rw [hp1] at this; exact this
    have h2 := HY1.out
    rw [hp1] at h2
    have h3' : e = _ := h2.2
    subst h3'
    have HF : Hid (WXO B C w wp vd vs ve E none _ y1) := ⟨HK0.out.trans h2.1, h2.2⟩
    clear h2 HY1 HX0 HK0 HR0
    go_wp2_with fail
    exact ⟨rfl, HF.out⟩
  | some T1 =>
  have h2 := HY1.out
  rw [hp1] at h2
  have h3' : e = _ := h2.2.1
  subst h3'
  have HX1 : Hid (WX B C y1 wp vd vs ve E T1) := h2.2.2
  have HK1 : Hid (Kp [80, 5] B w y1) := HK0.out.trans h2.1
  have hr1 := HR0.out
  rw [hp1] at hr1
  simp only [Option.bind_some] at hr1
  have HR1 : Hid (_ = R) := hr1
  clear hr1
  have HM1 : Hid (MS D y1 vs XS) := HM0.out.kp h2.1
  have HL1 : Hid (y1.ownsRow D 3 1 (.slice a l.length c) l.length (l.map iZ)) := row_kp HL0.out h2.1 (by decide)
  have HG1 : Hid (20001 < T1.length + f) := by
    show _ < _
    have := puts_more hp1
    simp only [List.length_cons, List.length_nil] at this
    omega
  clear h2 HY1 hp1 HX0 HR0 HK0
  clear HM0 HL0
  go_wp2_with fail
  go_loopg [5, 11] l.length (fun gg v5 v11 wq => ∃ (k : Nat) (T' : By), gg = l.length - k ∧ v11 = .int .i64 (k : Int) ∧ k ≤ l.length ∧ 20001 < T'.length + f ∧ Hid (wq.ownsRow D 3 1 (.slice a l.length c) l.length (l.map iZ)) ∧ Hid (WX B C wq wp vd vs ve E T') ∧ Hid (MS D wq vs XS) ∧ Hid (Kp [80, 5] B w wq) ∧ Hid (((wlist (XS.map (·.s)) g (l.drop k) T').bind fun T2 => puts T2 [[125]]) = R))
  case atStart => exact ⟨0, T1, rfl, rfl, Nat.zero_le _, HG1.out, HL1, HX1, HM1, HK1, HR1⟩
  case round =>
    obtain ⟨k, T', rfl, rfl, hk, hlb, HL, HX0, HM, HK0, HR⟩ := hrel
    clear HR1 HX1 HL1 HK1 HM1 HG1
    by_cases hkl : k < l.length
    · have hki : (k : Int) < l.length := by omega
      have hk0 : 0 ≤ (k : Int) := by omega
      obtain ⟨i, hik⟩ : ∃ i, l[k] = i := ⟨_, rfl⟩
      have hdk : l.drop k = i :: l.drop (k + 1) := by rw [← hik]; exact List.drop_eq_getElem_cons hkl
      have hR1 := HR.out
      rw [hdk] at hR1
      unfold wlist at hR1
      rw [List.length_map] at hR1
      obtain ⟨gl, rfl, hck⟩ : ∃ g, a = some ⟨g, 0, none⟩ ∧ wr.cell? ⟨g, k, none⟩ = some (.int .i64 i) := by
        rcases HL.out.2 with ⟨e1, e2⟩ | ⟨g, cap, cur, e1, e2⟩
        · omega
        · injection e1 with e1 _ e3
          subst e1 e3
          have hc := World.ownsRow.cellAt HL.out k (by omega)
          refine ⟨g, rfl, ?_⟩
          rw [hc, List.getElem?_map, List.getElem?_eq_getElem hkl, hik]
          rfl
      obtain ⟨as', cs', hv⟩ := row_form HM.out.rs
      subst hv
      obtain ⟨vt, hb, -⟩ := HX0.out.ws.blk
      have v1 := cell_blk hb 1 (v := .slice as' XS.length cs') rfl
      have HF : Hid (WXO B C w wp vd (.slice as' XS.length cs') ve E none (.panicked [{ v := .iface 27 (.int .i64 1), recovered := false }]) wr) := ⟨HK0.out, rfl⟩
      clear hik hdk HR hb
      by_cases h1 : i < 0
      · obtain rfl : none = R := by rw [if_pos (Or.inl h1)] at hR1; exact hR1
        clear hR1 HX0 HM HL HK0
        go_wp2_with fail
        exact ⟨rfl, HF.out⟩
      by_cases h2 : (XS.length : Int) ≤ i
      · obtain rfl : none = R := by rw [if_pos (Or.inr h2)] at hR1; exact hR1
        have d1 : decide (i < 0) = false := by simpa using h1
        have d2 : decide ((XS.length : Int) ≤ i) = true := by simpa using h2
        clear hR1 HX0 HM HL HK0
        go_wp2_with fail
        exact ⟨rfl, HF.out⟩
      rw [if_neg (by omega)] at hR1
      obtain ⟨j, rfl⟩ : ∃ j : Nat, i = (j : Int) := ⟨i.toNat, by omega⟩
      rw [Int.toNat_natCast] at hR1
      have hj : j < XS.length := by omega
      obtain ⟨p, hp⟩ : ∃ p, XS[j]? = some p := ⟨_, List.getElem?_eq_getElem hj⟩
      rw [getD_map hp] at hR1
      have HMP : Hid (p ∈ XS) := List.mem_of_getElem? hp
      obtain ⟨gs, cs, hv, hc⟩ := HM.out.cells hp
      injection hv with hv1 _ hv2
      subst hv1 hv2
      have c0 : wr.cell? ⟨gs, j * 8, none⟩ = some (.int .i64 p.s.kind) := hc 0 _ rfl
      have c1 := hc 1 _ rfl
      have c2 := hc 2 _ rfl
      have c3 := hc 3 _ rfl
      have c4 := hc 4 _ rfl
      have c5 := hc 5 _ rfl
      have c6 := hc 6 _ rfl
      have c7 := hc 7 _ rfl
      have hji : (j : Int) < XS.length := by omega
      have hj0 : 0 ≤ (j : Int) := by omega
      have d1 : decide ((j : Int) < 0) = false := by simp
      have d2 : decide ((XS.length : Int) ≤ j) = false := by simp; omega
      have HR0 : Hid (((g p.s T').bind fun T1 => wlist (XS.map (·.s)) g (l.drop (k + 1)) T1).bind (fun T2 => puts T2 [[125]]) = R) := hR1
      clear hc h1 h2 hp hR1 HF
      have HP1 : Hid _ := HS.out p HX0.out HM.out HMP.out hlb
      go_wp2_with fail
      refine Calls.mono HP1.out ?_
      intro e y1 hy
      have HY1 : Hid _ := hy
      clear hy HP1
      cases hp1 : g p.s T' with
      | none =>
        obtain rfl : none = R := by have := HR0.out; rw [hp1] at this; exact this
        have h2 := HY1.out
        rw [hp1] at h2
        have h3' : e = _ := h2.2
        subst h3'
        have HF : Hid (WXO B C w wp vd (.slice (some ⟨gs, 0, none⟩) XS.length cs') ve E none _ y1) := ⟨HK0.out.trans h2.1, h2.2⟩
        clear h2 HY1 HX0 HK0 HR0
        go_wp2_with fail
        exact ⟨rfl, HF.out⟩
      | some T1 =>
      have h2 := HY1.out
      rw [hp1] at h2
      have h3' : e = _ := h2.2.1
      subst h3'
      have HX1 : Hid (WX B C y1 wp vd (.slice (some ⟨gs, 0, none⟩) XS.length cs') ve E T1) := h2.2.2
      have HK1 : Hid (Kp [80, 5] B w y1) := HK0.out.trans h2.1
      have hr1 := HR0.out
      rw [hp1] at hr1
      simp only [Option.bind_some] at hr1
      have HR1 : Hid (_ = R) := hr1
      clear hr1
      have HKq : Hid (Kp [80, 5] B wr y1) := h2.1
      have HMq : Hid (MS D y1 (.slice (some ⟨gs, 0, none⟩) XS.length cs') XS) := HM.out.kp h2.1
      have HGq : Hid (T'.length ≤ T1.length) := HG.out hp1
      clear h2 HY1 hp1 HX0 HR0 HK0
      have HLn : Hid (y1.ownsRow D 3 1 (.slice (some ⟨gl, 0, none⟩) l.length c) l.length (l.map iZ)) := row_kp HL.out HKq.out (by decide)
      go_wp2_with fail
      go_roundg (l.length - (k + 1))
      case measure => omega
      case rel => exact ⟨k + 1, T1, rfl, by go_num, by omega, by have := HGq.out; omega, HLn, HX1, HMq, HK1, HR1⟩
    · obtain rfl : k = l.length := by omega
      have HR0 : Hid (puts T' [[125]] = R) := by
        have := HR.out
        rw [List.drop_length] at this
        exact this
      clear HR
      obtain ⟨A1, hA1⟩ : ∃ A, wr.alloc (.cells #[.string { data := #[125] }] 9) = A := ⟨_, rfl⟩
      have HP1 : Hid _ := put_new HX0.out [[125]] (by intro s hs; simp only [List.mem_cons, List.not_mem_nil, or_false] at hs; rcases hs with rfl <;> first | assumption | decide | omega) (by simp) hA1
      go_wp2_with fail
      refine Calls.mono HP1.out ?_
      intro e y1 hy
      have HY1 : Hid (WXO B C w wp vd vs ve E R e y1) := by
        show _
        have h5 := hy
        rw [HR0.out] at h5
        exact h5.on HK0.out
      clear hy HP1
      cases R with
      | none =>
        have h3' : e = _ := HY1.out.2
        subst h3'
        clear HX0 HK0 HR0
        go_wp2_with fail
        exact ⟨rfl, HY1.out⟩
      | some T9 =>
        have h3' : e = _ := HY1.out.2.1
        subst h3'
        clear HX0 HK0 HR0
        go_wp2_with fail
        refine bodyPost_end (results_none rfl _ _ _) rfl ?_
        exact HY1.out
set_option maxRecDepth 100000 in
set_option maxHeartbeats 8000000 in
theorem wchoice_step {B C D : Nat} {wp : Nat} {vd vs ve : Value} {E : List Exp} {XS : List Sx} (hE : EOk E) (hS : SOk XS) (f : Nat) (g : Stmt → By → Option By) (hg : ∀ {s : Stmt} {T T' : By}, g s T = some T' → T.length ≤ T'.length) (hb : ∀ {w : World} {T : By} {a : Option Addr} {c : Nat} (l : List Int), WX B C w wp vd vs ve E T → MS D w vs XS → 20001 < T.length + f + 1 → w.ownsRow D 3 1 (.slice a l.length c) l.length (l.map iZ) → Calls Tryz.prog 90 #[.pointer (some ⟨wp, 0, none⟩), .slice a l.length c] w (WXO B C w wp vd vs ve E (wblk (XS.map (·.s)) g l T))) {w : World} {T : By} (p : Sx) (h : WX B C w wp vd vs ve E T) (hM : MS D w vs XS) (hp : SxR D w p) (hn : p.s.name.length ≤ 140737488355328) (hfn : p.s.fn.length ≤ 140737488355328) (hf : 20001 < T.length + f + 1) : Calls Tryz.prog 132 #[.pointer (some ⟨wp, 0, none⟩), stV p] w (WXO B C w wp vd vs ve E (wchoice E (XS.map (·.s)) g p.s T)) := by
  obtain ⟨⟨kd, nm, fn, e0, i0, la, lb, ll⟩, va, vb, vl⟩ := p
  obtain ⟨ra, rb, rl⟩ := hp
  dsimp only at hn hfn ra rb rl
  obtain ⟨aa, ca, hv⟩ := row_form ra
  subst hv
  obtain ⟨ab, cb, hv⟩ := row_form rb
  subst hv
  obtain ⟨al, cl, hv⟩ := row_form rl
  subst hv
  obtain ⟨R, hR⟩ : ∃ R, wchoice E (XS.map (·.s)) g ⟨kd, nm, fn, e0, i0, la, lb, ll⟩ T = R := ⟨_, rfl⟩
  rw [hR]
  unfold stV
  dsimp only
  obtain ⟨y0, hY⟩ : ∃ Y, w.alloc (.cells #[.int .i64 kd, .string (X.str nm), .string (X.str fn), .int .i64 e0, .int .i64 i0, .slice aa la.length ca, .slice ab lb.length cb, .slice al ll.length cl] 35) = Y := ⟨_, rfl⟩
  have HBY : Hid (Below w.heap.size w y0) := by show Below _ _ _; rw [← hY]; exact bl1 _ _
  have HB : Hid (y0.heap[w.heap.size]? = some (.cells #[.int .i64 kd, .string (X.str nm), .string (X.str fn), .int .i64 e0, .int .i64 i0, .slice aa la.length ca, .slice ab lb.length cb, .slice al ll.length cl] 35)) := by show _ = _; rw [← hY]; exact heap_new _ _
  have HX0 : Hid (WX B C y0 wp vd vs ve E T) := h.below HBY.out
  have HK0 : Hid (Kp [80, 5] B w y0) := h.toKp HBY.out
  have HM0 : Hid (MS D y0 vs XS) := hM.kp HK0.out
  have HLA0 : Hid (y0.ownsRow D 3 1 (.slice aa la.length ca) la.length (la.map iZ)) := row_thru' ra HBY.out
  have HLB0 : Hid (y0.ownsRow D 3 1 (.slice ab lb.length cb) lb.length (lb.map iZ)) := row_thru' rb HBY.out
  have HLL0 : Hid (y0.ownsRow D 3 1 (.slice al ll.length cl) ll.length (ll.map iZ)) := row_thru' rl HBY.out
  have HG0 : Hid (T.length ≤ T.length) := Nat.le_refl _
  have HBK : Hid (∀ {w : World} {T : By} {a : Option Addr} {c : Nat} (l : List Int), WX B C w wp vd vs ve E T → MS D w vs XS → 20001 < T.length + f + 1 → w.ownsRow D 3 1 (.slice a l.length c) l.length (l.map iZ) → Calls Tryz.prog 90 #[.pointer (some ⟨wp, 0, none⟩), .slice a l.length c] w (WXO B C w wp vd vs ve E (wblk (XS.map (·.s)) g l T))) := hb
  have HGG : Hid (∀ {s : Stmt} {T T' : By}, g s T = some T' → T.length ≤ T'.length) := hg
  have b0 := cell_blk HB.out 0 rfl
  have b1 := cell_blk HB.out 1 rfl
  have b2 := cell_blk HB.out 2 rfl
  have b3 := cell_blk HB.out 3 rfl
  have b4 := cell_blk HB.out 4 rfl
  have b5 := cell_blk HB.out 5 rfl
  have b6 := cell_blk HB.out 6 rfl
  have b7 := cell_blk HB.out 7 rfl
  have HR0 : Hid (((wcond E [105, 102] e0 T).bind fun T1 => (wblk (XS.map (·.s)) g lb T1).bind fun T2 => if ll = [] then some T2 else (puts T2 [[101, 108, 115, 101]]).bind fun T3 => wblk (XS.map (·.s)) g ll T3) = R) := hR
  clear h hR ra rb rl hM hb hg HBY
  go_enter Tryz.func132, Tryz.ntmps132
  have HP1 : Hid _ := wcond_any hE HX0.out [105, 102] (by decide) e0
  go_wp2_with fail
  refine Calls.mono HP1.out ?_
  intro e y1 hy
  have HY1 : Hid _ := hy
  clear hy HP1
  cases hp1 : wcond E [105, 102] e0 T with
  | none =>
    obtain rfl : none = R := by have := HR0.out; rw [hp1] at this; exact this
    have h2 := HY1.out
    rw [hp1] at h2
    have h3' : e = _ := h2.2
    subst h3'
    have HF : Hid (WXO B C w wp vd vs ve E none _ y1) := ⟨HK0.out.trans h2.1, h2.2⟩
    clear h2 HY1 HX0 HK0 HR0
    go_wp2_with fail
    exact ⟨rfl, HF.out⟩
  | some T1 =>
  have h2 := HY1.out
  rw [hp1] at h2
  have h3' : e = _ := h2.2.1
  subst h3'
  have HX1 : Hid (WX B C y1 wp vd vs ve E T1) := h2.2.2
  have HK1 : Hid (Kp [80, 5] B w y1) := HK0.out.trans h2.1
  have hr1 := HR0.out
  rw [hp1] at hr1
  simp only [Option.bind_some] at hr1
  have HR1 : Hid (_ = R) := hr1
  clear hr1
  have HM1 : Hid (MS D y1 vs XS) := HM0.out.kp h2.1
  have HLA1 : Hid (y1.ownsRow D 3 1 (.slice aa la.length ca) la.length (la.map iZ)) := row_kp HLA0.out h2.1 (by decide)
  have HLB1 : Hid (y1.ownsRow D 3 1 (.slice ab lb.length cb) lb.length (lb.map iZ)) := row_kp HLB0.out h2.1 (by decide)
  have HLL1 : Hid (y1.ownsRow D 3 1 (.slice al ll.length cl) ll.length (ll.map iZ)) := row_kp HLL0.out h2.1 (by decide)
  have HG1 : Hid (T.length ≤ T1.length) := Nat.le_trans HG0.out (wcond_mono hp1)
  clear HM0 HLA0 HLB0 HLL0 HG0
  have HB1 : Hid (y1.heap[w.heap.size]? = some (.cells #[.int .i64 kd, .string (X.str nm), .string (X.str fn), .int .i64 e0, .int .i64 i0, .slice aa la.length ca, .slice ab lb.length cb, .slice al ll.length cl] 35)) := h2.1.keep _ _ _ _ HB.out (by decide)
  have b0 := cell_blk HB1.out 0 rfl
  have b1 := cell_blk HB1.out 1 rfl
  have b2 := cell_blk HB1.out 2 rfl
  have b3 := cell_blk HB1.out 3 rfl
  have b4 := cell_blk HB1.out 4 rfl
  have b5 := cell_blk HB1.out 5 rfl
  have b6 := cell_blk HB1.out 6 rfl
  have b7 := cell_blk HB1.out 7 rfl
  clear h2 HY1 hp1 HX0 HR0 HK0

  have HP2 : Hid _ := HBK.out lb HX1.out HM1.out (by have := HG1.out; omega) HLB1.out
  go_wp2_with fail
  refine Calls.mono HP2.out ?_
  intro e y2 hy
  have HY2 : Hid _ := hy
  clear hy HP2
  cases hp2 : wblk (XS.map (·.s)) g lb T1 with
  | none =>
    obtain rfl : none = R := by have := HR1.out; rw [hp2] at this; exact this
    have h2 := HY2.out
    rw [hp2] at h2
    have h3' : e = _ := h2.2
    subst h3'
    have HF : Hid (WXO B C w wp vd vs ve E none _ y2) := ⟨HK1.out.trans h2.1, h2.2⟩
    clear h2 HY2 HX1 HK1 HR1
    go_wp2_with fail
    exact ⟨rfl, HF.out⟩
  | some T2 =>
  have h2 := HY2.out
  rw [hp2] at h2
  have h3' : e = _ := h2.2.1
  subst h3'
  have HX2 : Hid (WX B C y2 wp vd vs ve E T2) := h2.2.2
  have HK2 : Hid (Kp [80, 5] B w y2) := HK1.out.trans h2.1
  have hr2 := HR1.out
  rw [hp2] at hr2
  simp only [Option.bind_some] at hr2
  have HR2 : Hid (_ = R) := hr2
  clear hr2
  have HM2 : Hid (MS D y2 vs XS) := HM1.out.kp h2.1
  have HLA2 : Hid (y2.ownsRow D 3 1 (.slice aa la.length ca) la.length (la.map iZ)) := row_kp HLA1.out h2.1 (by decide)
  have HLB2 : Hid (y2.ownsRow D 3 1 (.slice ab lb.length cb) lb.length (lb.map iZ)) := row_kp HLB1.out h2.1 (by decide)
  have HLL2 : Hid (y2.ownsRow D 3 1 (.slice al ll.length cl) ll.length (ll.map iZ)) := row_kp HLL1.out h2.1 (by decide)
  have HG2 : Hid (T.length ≤ T2.length) := Nat.le_trans HG1.out (wblk_mono HGG.out hp2)
  clear HM1 HLA1 HLB1 HLL1 HG1
  have HB2 : Hid (y2.heap[w.heap.size]? = some (.cells #[.int .i64 kd, .string (X.str nm), .string (X.str fn), .int .i64 e0, .int .i64 i0, .slice aa la.length ca, .slice ab lb.length cb, .slice al ll.length cl] 35)) := h2.1.keep _ _ _ _ HB1.out (by decide)
  have b0 := cell_blk HB2.out 0 rfl
  have b1 := cell_blk HB2.out 1 rfl
  have b2 := cell_blk HB2.out 2 rfl
  have b3 := cell_blk HB2.out 3 rfl
  have b4 := cell_blk HB2.out 4 rfl
  have b5 := cell_blk HB2.out 5 rfl
  have b6 := cell_blk HB2.out 6 rfl
  have b7 := cell_blk HB2.out 7 rfl
  clear h2 HY2 hp2 HX1 HR1 HK1
  by_cases hll : ll = []
  · have d0 : ll.length = 0 := by rw [hll]; rfl
    have HF : Hid (WXO B C w wp vd vs ve E R (.returned (.tuple #[])) y2) := by
      show _
      have e1 := (if_pos hll).symm.trans HR2.out
      rw [← e1]
      exact ⟨HK2.out, rfl, HX2.out⟩
    rw [d0] at b7
    clear HR2 HX2 HK2 HM2 HLA2 HLB2 HLL2 HG2 hll
    go_wp2_with fail
    refine bodyPost_end (results_none rfl _ _ _) rfl ?_
    exact HF.out
  · have d0 : 0 < ll.length := by
      have : ll.length ≠ 0 := fun e => hll (List.length_eq_zero_iff.1 e)
      omega
    have HRe : Hid (((puts T2 [[101, 108, 115, 101]]).bind fun T3 => wblk (XS.map (·.s)) g ll T3) = R) := (if_neg hll).symm.trans HR2.out
    clear HR2 hll
    have HR2 := HRe
    clear HRe
    obtain ⟨A3, hA3⟩ : ∃ A, y2.alloc (.cells #[.string { data := #[101, 108, 115, 101] }] 9) = A := ⟨_, rfl⟩
    have HP3 : Hid _ := put_new HX2.out [[101, 108, 115, 101]] (by intro s hs; simp only [List.mem_cons, List.not_mem_nil, or_false] at hs; rcases hs with rfl <;> first | assumption | decide | omega) (by simp) hA3
    go_wp2_with fail
    refine Calls.mono HP3.out ?_
    intro e y3 hy
    have HY3 : Hid _ := hy
    clear hy HP3
    cases hp3 : puts T2 [[101, 108, 115, 101]] with
    | none =>
      obtain rfl : none = R := by have := HR2.out; rw [hp3] at this; exact this
      have h2 := HY3.out
      rw [hp3] at h2
      have h3' : e = _ := h2.2
      subst h3'
      have HF : Hid (WXO B C w wp vd vs ve E none _ y3) := ⟨HK2.out.trans h2.1, h2.2⟩
      clear h2 HY3 HX2 HK2 HR2
      go_wp2_with fail
      exact ⟨rfl, HF.out⟩
    | some T3 =>
    have h2 := HY3.out
    rw [hp3] at h2
    have h3' : e = _ := h2.2.1
    subst h3'
    have HX3 : Hid (WX B C y3 wp vd vs ve E T3) := h2.2.2
    have HK3 : Hid (Kp [80, 5] B w y3) := HK2.out.trans h2.1
    have hr3 := HR2.out
    rw [hp3] at hr3
    simp only [Option.bind_some] at hr3
    have HR3 : Hid (_ = R) := hr3
    clear hr3
    have HM3 : Hid (MS D y3 vs XS) := HM2.out.kp h2.1
    have HLA3 : Hid (y3.ownsRow D 3 1 (.slice aa la.length ca) la.length (la.map iZ)) := row_kp HLA2.out h2.1 (by decide)
    have HLB3 : Hid (y3.ownsRow D 3 1 (.slice ab lb.length cb) lb.length (lb.map iZ)) := row_kp HLB2.out h2.1 (by decide)
    have HLL3 : Hid (y3.ownsRow D 3 1 (.slice al ll.length cl) ll.length (ll.map iZ)) := row_kp HLL2.out h2.1 (by decide)
    have HG3 : Hid (T.length ≤ T3.length) := Nat.le_trans HG2.out (puts_mono hp3)
    clear HM2 HLA2 HLB2 HLL2 HG2
    have HB3 : Hid (y3.heap[w.heap.size]? = some (.cells #[.int .i64 kd, .string (X.str nm), .string (X.str fn), .int .i64 e0, .int .i64 i0, .slice aa la.length ca, .slice ab lb.length cb, .slice al ll.length cl] 35)) := h2.1.keep _ _ _ _ HB2.out (by decide)
    have b0 := cell_blk HB3.out 0 rfl
    have b1 := cell_blk HB3.out 1 rfl
    have b2 := cell_blk HB3.out 2 rfl
    have b3 := cell_blk HB3.out 3 rfl
    have b4 := cell_blk HB3.out 4 rfl
    have b5 := cell_blk HB3.out 5 rfl
    have b6 := cell_blk HB3.out 6 rfl
    have b7 := cell_blk HB3.out 7 rfl
    clear h2 HY3 hp3 HX2 HR2 HK2

    have HP4 : Hid _ := HBK.out ll HX3.out HM3.out (by have := HG3.out; omega) HLL3.out
    go_wp2_with fail
    refine Calls.mono HP4.out ?_
    intro e y4 hy
    have HY4 : Hid (WXO B C w wp vd vs ve E R e y4) := by
      show _
      have h5 := hy
      rw [HR3.out] at h5
      exact h5.on HK3.out
    clear hy HP4
    cases R with
    | none =>
      have h3' : e = _ := HY4.out.2
      subst h3'
      clear HX3 HK3 HR3
      go_wp2_with fail
      exact ⟨rfl, HY4.out⟩
    | some T9 =>
      have h3' : e = _ := HY4.out.2.1
      subst h3'
      clear HX3 HK3 HR3
      go_wp2_with fail
      refine bodyPost_end (results_none rfl _ _ _) rfl ?_
      exact HY4.out
set_option maxRecDepth 100000 in
set_option maxHeartbeats 8000000 in
theorem wstmt_step {B C D : Nat} {wp : Nat} {vd vs ve : Value} {E : List Exp} {XS : List Sx} (hE : EOk E) (hS : SOk XS) (f : Nat) (g : Stmt → By → Option By) (hgw : wstmt E (XS.map (·.s)) f = g) (hg : ∀ {s : Stmt} {T T' : By}, g s T = some T' → T.length ≤ T'.length) (hb : ∀ {w : World} {T : By} {a : Option Addr} {c : Nat} (l : List Int), WX B C w wp vd vs ve E T → MS D w vs XS → 20001 < T.length + f + 1 → w.ownsRow D 3 1 (.slice a l.length c) l.length (l.map iZ) → Calls Tryz.prog 90 #[.pointer (some ⟨wp, 0, none⟩), .slice a l.length c] w (WXO B C w wp vd vs ve E (wblk (XS.map (·.s)) g l T))) {w : World} {T : By} (p : Sx) (h : WX B C w wp vd vs ve E T) (hM : MS D w vs XS) (hp : SxR D w p) (hn : p.s.name.length ≤ 140737488355328) (hfn : p.s.fn.length ≤ 140737488355328) (hf : 20001 < T.length + f + 1) : Calls Tryz.prog 110 #[.pointer (some ⟨wp, 0, none⟩), stV p] w (WXO B C w wp vd vs ve E (wstmt E (XS.map (·.s)) (f + 1) p.s T)) := by
  have hpp := hp
  obtain ⟨⟨kd, nm, fn, e0, i0, la, lb, ll⟩, va, vb, vl⟩ := p
  obtain ⟨ra, rb, rl⟩ := hp
  dsimp only at hn hfn ra rb rl
  obtain ⟨aa, ca, hv⟩ := row_form ra
  subst hv
  obtain ⟨ab, cb, hv⟩ := row_form rb
  subst hv
  obtain ⟨al, cl, hv⟩ := row_form rl
  subst hv
  obtain ⟨R, hR⟩ : ∃ R, wstmt E (XS.map (·.s)) (f + 1) ⟨kd, nm, fn, e0, i0, la, lb, ll⟩ T = R := ⟨_, rfl⟩
  rw [hR]
  unfold stV
  dsimp only
  obtain ⟨y0, hY⟩ : ∃ Y, w.alloc (.cells #[.int .i64 kd, .string (X.str nm), .string (X.str fn), .int .i64 e0, .int .i64 i0, .slice aa la.length ca, .slice ab lb.length cb, .slice al ll.length cl] 35) = Y := ⟨_, rfl⟩
  have HBY : Hid (Below w.heap.size w y0) := by show Below _ _ _; rw [← hY]; exact bl1 _ _
  have HB : Hid (y0.heap[w.heap.size]? = some (.cells #[.int .i64 kd, .string (X.str nm), .string (X.str fn), .int .i64 e0, .int .i64 i0, .slice aa la.length ca, .slice ab lb.length cb, .slice al ll.length cl] 35)) := by show _ = _; rw [← hY]; exact heap_new _ _
  have HX0 : Hid (WX B C y0 wp vd vs ve E T) := h.below HBY.out
  have HK0 : Hid (Kp [80, 5] B w y0) := h.toKp HBY.out
  have HM0 : Hid (MS D y0 vs XS) := hM.kp HK0.out
  have HLA0 : Hid (y0.ownsRow D 3 1 (.slice aa la.length ca) la.length (la.map iZ)) := row_thru' ra HBY.out
  have HLB0 : Hid (y0.ownsRow D 3 1 (.slice ab lb.length cb) lb.length (lb.map iZ)) := row_thru' rb HBY.out
  have HLL0 : Hid (y0.ownsRow D 3 1 (.slice al ll.length cl) ll.length (ll.map iZ)) := row_thru' rl HBY.out
  have HG0 : Hid (T.length ≤ T.length) := Nat.le_refl _
  have HBK : Hid (∀ {w : World} {T : By} {a : Option Addr} {c : Nat} (l : List Int), WX B C w wp vd vs ve E T → MS D w vs XS → 20001 < T.length + f + 1 → w.ownsRow D 3 1 (.slice a l.length c) l.length (l.map iZ) → Calls Tryz.prog 90 #[.pointer (some ⟨wp, 0, none⟩), .slice a l.length c] w (WXO B C w wp vd vs ve E (wblk (XS.map (·.s)) g l T))) := hb
  have HGG : Hid (∀ {s : Stmt} {T T' : By}, g s T = some T' → T.length ≤ T'.length) := hg
  have b0 := cell_blk HB.out 0 rfl
  have b1 := cell_blk HB.out 1 rfl
  have b2 := cell_blk HB.out 2 rfl
  have b3 := cell_blk HB.out 3 rfl
  have b4 := cell_blk HB.out 4 rfl
  have b5 := cell_blk HB.out 5 rfl
  have b6 := cell_blk HB.out 6 rfl
  have b7 := cell_blk HB.out 7 rfl
  unfold wstmt at hR
  rw [hgw] at hR
  dsimp only at hR
  have HR : Hid (_ = R) := hR
  clear h hR ra rb rl hM hb hg HBY hgw hpp
  go_enter Tryz.func110, Tryz.ntmps110
  by_cases k1 : kd = 1
  · subst k1
    have HR0 : Hid (_ = R) := ((if_pos rfl).symm.trans HR.out)
    clear HR
    obtain ⟨A1, hA1⟩ : ∃ A, y0.alloc (.cells #[.string { data := #[118, 97, 114] }, .string (X.str nm)] 9) = A := ⟨_, rfl⟩
    have HP1 : Hid _ := put_new HX0.out [[118, 97, 114], nm] (by intro s hs; simp only [List.mem_cons, List.not_mem_nil, or_false] at hs; rcases hs with rfl | rfl <;> first | assumption | decide | omega) (by simp) hA1
    go_wp2_with fail
    refine Calls.mono HP1.out ?_
    intro e y1 hy
    have HY1 : Hid _ := hy
    clear hy HP1
    cases hp1 : puts T [[118, 97, 114], nm] with
    | none =>
      obtain rfl : none = R := by have := HR0.out; rw [hp1] at this; exact this
      have h2 := HY1.out
      rw [hp1] at h2
      have h3' : e = _ := h2.2
      subst h3'
      have HF : Hid (WXO B C w wp vd vs ve E none _ y1) := ⟨HK0.out.trans h2.1, h2.2⟩
      clear h2 HY1 HX0 HK0 HR0
      go_wp2_with fail
      exact ⟨rfl, HF.out⟩
    | some T1 =>
    have h2 := HY1.out
    rw [hp1] at h2
    have h3' : e = _ := h2.2.1
    subst h3'
    have HX1 : Hid (WX B C y1 wp vd vs ve E T1) := h2.2.2
    have HK1 : Hid (Kp [80, 5] B w y1) := HK0.out.trans h2.1
    have hr1 := HR0.out
    rw [hp1] at hr1
    simp only [Option.bind_some] at hr1
    have HR1 : Hid (_ = R) := hr1
    clear hr1
    have HM1 : Hid (MS D y1 vs XS) := HM0.out.kp h2.1
    have HLA1 : Hid (y1.ownsRow D 3 1 (.slice aa la.length ca) la.length (la.map iZ)) := row_kp HLA0.out h2.1 (by decide)
    have HLB1 : Hid (y1.ownsRow D 3 1 (.slice ab lb.length cb) lb.length (lb.map iZ)) := row_kp HLB0.out h2.1 (by decide)
    have HLL1 : Hid (y1.ownsRow D 3 1 (.slice al ll.length cl) ll.length (ll.map iZ)) := row_kp HLL0.out h2.1 (by decide)
    have HG1 : Hid (T.length ≤ T1.length) := Nat.le_trans HG0.out (puts_mono hp1)
    clear HM0 HLA0 HLB0 HLL0 HG0
    have HB1 : Hid (y1.heap[w.heap.size]? = some (.cells #[.int .i64 (1), .string (X.str nm), .string (X.str fn), .int .i64 e0, .int .i64 i0, .slice aa la.length ca, .slice ab lb.length cb, .slice al ll.length cl] 35)) := h2.1.keep _ _ _ _ HB.out (by decide)
    have b0 := cell_blk HB1.out 0 rfl
    have b1 := cell_blk HB1.out 1 rfl
    have b2 := cell_blk HB1.out 2 rfl
    have b3 := cell_blk HB1.out 3 rfl
    have b4 := cell_blk HB1.out 4 rfl
    have b5 := cell_blk HB1.out 5 rfl
    have b6 := cell_blk HB1.out 6 rfl
    have b7 := cell_blk HB1.out 7 rfl
    clear h2 HY1 hp1 HX0 HR0 HK0

    have HP2 : Hid _ := wvalue_any hE HX1.out [61] (by decide) e0
    go_wp2_with fail
    refine Calls.mono HP2.out ?_
    intro e y2 hy
    have HY2 : Hid (WXO B C w wp vd vs ve E R e y2) := by
      show _
      have h5 := hy
      rw [HR1.out] at h5
      exact h5.on HK1.out
    clear hy HP2
    cases R with
    | none =>
      have h3' : e = _ := HY2.out.2
      subst h3'
      clear HX1 HK1 HR1
      go_wp2_with fail
      exact ⟨rfl, HY2.out⟩
    | some T9 =>
      have h3' : e = _ := HY2.out.2.1
      subst h3'
      clear HX1 HK1 HR1
      go_wp2_with fail
      refine bodyPost_end (results_none rfl _ _ _) rfl ?_
      exact HY2.out
  have HRn : Hid (_ = R) := (if_neg k1).symm.trans HR.out
  clear HR
  have HR := HRn
  clear HRn
  have d1 : (kd == 1) = false := by simpa using k1
  by_cases k2 : kd = 2
  · subst k2
    have HR0 : Hid (_ = R) := ((if_pos rfl).symm.trans HR.out)
    clear HR
    obtain ⟨A1, hA1⟩ : ∃ A, y0.alloc (.cells #[.string (X.str nm)] 9) = A := ⟨_, rfl⟩
    have HP1 : Hid _ := put_new HX0.out [nm] (by intro s hs; simp only [List.mem_cons, List.not_mem_nil, or_false] at hs; rcases hs with rfl <;> first | assumption | decide | omega) (by simp) hA1
    go_wp2_with fail
    refine Calls.mono HP1.out ?_
    intro e y1 hy
    have HY1 : Hid _ := hy
    clear hy HP1
    cases hp1 : puts T [nm] with
    | none =>
      obtain rfl : none = R := by have := HR0.out; rw [hp1] at this; exact this
      have h2 := HY1.out
      rw [hp1] at h2
      have h3' : e = _ := h2.2
      subst h3'
      have HF : Hid (WXO B C w wp vd vs ve E none _ y1) := ⟨HK0.out.trans h2.1, h2.2⟩
      clear h2 HY1 HX0 HK0 HR0
      go_wp2_with fail
      exact ⟨rfl, HF.out⟩
    | some T1 =>
    have h2 := HY1.out
    rw [hp1] at h2
    have h3' : e = _ := h2.2.1
    subst h3'
    have HX1 : Hid (WX B C y1 wp vd vs ve E T1) := h2.2.2
    have HK1 : Hid (Kp [80, 5] B w y1) := HK0.out.trans h2.1
    have hr1 := HR0.out
    rw [hp1] at hr1
    simp only [Option.bind_some] at hr1
    have HR1 : Hid (_ = R) := hr1
    clear hr1
    have HM1 : Hid (MS D y1 vs XS) := HM0.out.kp h2.1
    have HLA1 : Hid (y1.ownsRow D 3 1 (.slice aa la.length ca) la.length (la.map iZ)) := row_kp HLA0.out h2.1 (by decide)
    have HLB1 : Hid (y1.ownsRow D 3 1 (.slice ab lb.length cb) lb.length (lb.map iZ)) := row_kp HLB0.out h2.1 (by decide)
    have HLL1 : Hid (y1.ownsRow D 3 1 (.slice al ll.length cl) ll.length (ll.map iZ)) := row_kp HLL0.out h2.1 (by decide)
    have HG1 : Hid (T.length ≤ T1.length) := Nat.le_trans HG0.out (puts_mono hp1)
    clear HM0 HLA0 HLB0 HLL0 HG0
    have HB1 : Hid (y1.heap[w.heap.size]? = some (.cells #[.int .i64 (2), .string (X.str nm), .string (X.str fn), .int .i64 e0, .int .i64 i0, .slice aa la.length ca, .slice ab lb.length cb, .slice al ll.length cl] 35)) := h2.1.keep _ _ _ _ HB.out (by decide)
    have b0 := cell_blk HB1.out 0 rfl
    have b1 := cell_blk HB1.out 1 rfl
    have b2 := cell_blk HB1.out 2 rfl
    have b3 := cell_blk HB1.out 3 rfl
    have b4 := cell_blk HB1.out 4 rfl
    have b5 := cell_blk HB1.out 5 rfl
    have b6 := cell_blk HB1.out 6 rfl
    have b7 := cell_blk HB1.out 7 rfl
    clear h2 HY1 hp1 HX0 HR0 HK0

    have HP2 : Hid _ := wvalue_any hE HX1.out [61] (by decide) e0
    go_wp2_with fail
    refine Calls.mono HP2.out ?_
    intro e y2 hy
    have HY2 : Hid (WXO B C w wp vd vs ve E R e y2) := by
      show _
      have h5 := hy
      rw [HR1.out] at h5
      exact h5.on HK1.out
    clear hy HP2
    cases R with
    | none =>
      have h3' : e = _ := HY2.out.2
      subst h3'
      clear HX1 HK1 HR1
      go_wp2_with fail
      exact ⟨rfl, HY2.out⟩
    | some T9 =>
      have h3' : e = _ := HY2.out.2.1
      subst h3'
      clear HX1 HK1 HR1
      go_wp2_with fail
      refine bodyPost_end (results_none rfl _ _ _) rfl ?_
      exact HY2.out
  have HRn : Hid (_ = R) := (if_neg k2).symm.trans HR.out
  clear HR
  have HR := HRn
  clear HRn
  have d2 : (kd == 2) = false := by simpa using k2
  by_cases k3 : kd = 3
  · subst k3
    have HR0 : Hid (_ = R) := ((if_pos rfl).symm.trans HR.out)
    clear HR
    obtain ⟨A1, hA1⟩ : ∃ A, y0.alloc (.cells #[.string (X.str nm), .string { data := #[91] }] 9) = A := ⟨_, rfl⟩
    have HP1 : Hid _ := put_new HX0.out [nm, [91]] (by intro s hs; simp only [List.mem_cons, List.not_mem_nil, or_false] at hs; rcases hs with rfl | rfl <;> first | assumption | decide | omega) (by simp) hA1
    go_wp2_with fail
    refine Calls.mono HP1.out ?_
    intro e y1 hy
    have HY1 : Hid _ := hy
    clear hy HP1
    cases hp1 : puts T [nm, [91]] with
    | none =>
      obtain rfl : none = R := by have := HR0.out; rw [hp1] at this; exact this
      have h2 := HY1.out
      rw [hp1] at h2
      have h3' : e = _ := h2.2
      subst h3'
      have HF : Hid (WXO B C w wp vd vs ve E none _ y1) := ⟨HK0.out.trans h2.1, h2.2⟩
      clear h2 HY1 HX0 HK0 HR0
      go_wp2_with fail
      exact ⟨rfl, HF.out⟩
    | some T1 =>
    have h2 := HY1.out
    rw [hp1] at h2
    have h3' : e = _ := h2.2.1
    subst h3'
    have HX1 : Hid (WX B C y1 wp vd vs ve E T1) := h2.2.2
    have HK1 : Hid (Kp [80, 5] B w y1) := HK0.out.trans h2.1
    have hr1 := HR0.out
    rw [hp1] at hr1
    simp only [Option.bind_some] at hr1
    have HR1 : Hid (_ = R) := hr1
    clear hr1
    have HM1 : Hid (MS D y1 vs XS) := HM0.out.kp h2.1
    have HLA1 : Hid (y1.ownsRow D 3 1 (.slice aa la.length ca) la.length (la.map iZ)) := row_kp HLA0.out h2.1 (by decide)
    have HLB1 : Hid (y1.ownsRow D 3 1 (.slice ab lb.length cb) lb.length (lb.map iZ)) := row_kp HLB0.out h2.1 (by decide)
    have HLL1 : Hid (y1.ownsRow D 3 1 (.slice al ll.length cl) ll.length (ll.map iZ)) := row_kp HLL0.out h2.1 (by decide)
    have HG1 : Hid (T.length ≤ T1.length) := Nat.le_trans HG0.out (puts_mono hp1)
    clear HM0 HLA0 HLB0 HLL0 HG0
    have HB1 : Hid (y1.heap[w.heap.size]? = some (.cells #[.int .i64 (3), .string (X.str nm), .string (X.str fn), .int .i64 e0, .int .i64 i0, .slice aa la.length ca, .slice ab lb.length cb, .slice al ll.length cl] 35)) := h2.1.keep _ _ _ _ HB.out (by decide)
    have b0 := cell_blk HB1.out 0 rfl
    have b1 := cell_blk HB1.out 1 rfl
    have b2 := cell_blk HB1.out 2 rfl
    have b3 := cell_blk HB1.out 3 rfl
    have b4 := cell_blk HB1.out 4 rfl
    have b5 := cell_blk HB1.out 5 rfl
    have b6 := cell_blk HB1.out 6 rfl
    have b7 := cell_blk HB1.out 7 rfl
    clear h2 HY1 hp1 HX0 HR0 HK0

    have HP2 : Hid _ := wexp_any hE HX1.out i0
    go_wp2_with fail
    refine Calls.mono HP2.out ?_
    intro e y2 hy
    have HY2 : Hid _ := hy
    clear hy HP2
    cases hp2 : wexp E i0 T1 with
    | none =>
      obtain rfl : none = R := by have := HR1.out; rw [hp2] at this; exact this
      have h2 := HY2.out
      rw [hp2] at h2
      have h3' : e = _ := h2.2
      subst h3'
      have HF : Hid (WXO B C w wp vd vs ve E none _ y2) := ⟨HK1.out.trans h2.1, h2.2⟩
      clear h2 HY2 HX1 HK1 HR1
      go_wp2_with fail
      exact ⟨rfl, HF.out⟩
    | some T2 =>
    have h2 := HY2.out
    rw [hp2] at h2
    have h3' : e = _ := h2.2.1
    subst h3'
    have HX2 : Hid (WX B C y2 wp vd vs ve E T2) := h2.2.2
    have HK2 : Hid (Kp [80, 5] B w y2) := HK1.out.trans h2.1
    have hr2 := HR1.out
    rw [hp2] at hr2
    simp only [Option.bind_some] at hr2
    have HR2 : Hid (_ = R) := hr2
    clear hr2
    have HM2 : Hid (MS D y2 vs XS) := HM1.out.kp h2.1
    have HLA2 : Hid (y2.ownsRow D 3 1 (.slice aa la.length ca) la.length (la.map iZ)) := row_kp HLA1.out h2.1 (by decide)
    have HLB2 : Hid (y2.ownsRow D 3 1 (.slice ab lb.length cb) lb.length (lb.map iZ)) := row_kp HLB1.out h2.1 (by decide)
    have HLL2 : Hid (y2.ownsRow D 3 1 (.slice al ll.length cl) ll.length (ll.map iZ)) := row_kp HLL1.out h2.1 (by decide)
    have HG2 : Hid (T.length ≤ T2.length) := Nat.le_trans HG1.out (wexp_mono hp2)
    clear HM1 HLA1 HLB1 HLL1 HG1
    have HB2 : Hid (y2.heap[w.heap.size]? = some (.cells #[.int .i64 (3), .string (X.str nm), .string (X.str fn), .int .i64 e0, .int .i64 i0, .slice aa la.length ca, .slice ab lb.length cb, .slice al ll.length cl] 35)) := h2.1.keep _ _ _ _ HB1.out (by decide)
    have b0 := cell_blk HB2.out 0 rfl
    have b1 := cell_blk HB2.out 1 rfl
    have b2 := cell_blk HB2.out 2 rfl
    have b3 := cell_blk HB2.out 3 rfl
    have b4 := cell_blk HB2.out 4 rfl
    have b5 := cell_blk HB2.out 5 rfl
    have b6 := cell_blk HB2.out 6 rfl
    have b7 := cell_blk HB2.out 7 rfl
    clear h2 HY2 hp2 HX1 HR1 HK1
    obtain ⟨A3, hA3⟩ : ∃ A, y2.alloc (.cells #[.string { data := #[93] }] 9) = A := ⟨_, rfl⟩
    have HP3 : Hid _ := put_new HX2.out [[93]] (by intro s hs; simp only [List.mem_cons, List.not_mem_nil, or_false] at hs; rcases hs with rfl <;> first | assumption | decide | omega) (by simp) hA3
    go_wp2_with fail
    refine Calls.mono HP3.out ?_
    intro e y3 hy
    have HY3 : Hid _ := hy
    clear hy HP3
    cases hp3 : puts T2 [[93]] with
    | none =>
      obtain rfl : none = R := by have := HR2.out; rw [hp3] at this; exact this
      have h2 := HY3.out
      rw [hp3] at h2
      have h3' : e = _ := h2.2
      subst h3'
      have HF : Hid (WXO B C w wp vd vs ve E none _ y3) := ⟨HK2.out.trans h2.1, h2.2⟩
      clear h2 HY3 HX2 HK2 HR2
      go_wp2_with fail
      exact ⟨rfl, HF.out⟩
    | some T3 =>
    have h2 := HY3.out
    rw [hp3] at h2
    have h3' : e = _ := h2.2.1
    subst h3'
    have HX3 : Hid (WX B C y3 wp vd vs ve E T3) := h2.2.2
    have HK3 : Hid (Kp [80, 5] B w y3) := HK2.out.trans h2.1
    have hr3 := HR2.out
    rw [hp3] at hr3
    simp only [Option.bind_some] at hr3
    have HR3 : Hid (_ = R) := hr3
    clear hr3
    have HM3 : Hid (MS D y3 vs XS) := HM2.out.kp h2.1
    have HLA3 : Hid (y3.ownsRow D 3 1 (.slice aa la.length ca) la.length (la.map iZ)) := row_kp HLA2.out h2.1 (by decide)
    have HLB3 : Hid (y3.ownsRow D 3 1 (.slice ab lb.length cb) lb.length (lb.map iZ)) := row_kp HLB2.out h2.1 (by decide)
    have HLL3 : Hid (y3.ownsRow D 3 1 (.slice al ll.length cl) ll.length (ll.map iZ)) := row_kp HLL2.out h2.1 (by decide)
    have HG3 : Hid (T.length ≤ T3.length) := Nat.le_trans HG2.out (puts_mono hp3)
    clear HM2 HLA2 HLB2 HLL2 HG2
    have HB3 : Hid (y3.heap[w.heap.size]? = some (.cells #[.int .i64 (3), .string (X.str nm), .string (X.str fn), .int .i64 e0, .int .i64 i0, .slice aa la.length ca, .slice ab lb.length cb, .slice al ll.length cl] 35)) := h2.1.keep _ _ _ _ HB2.out (by decide)
    have b0 := cell_blk HB3.out 0 rfl
    have b1 := cell_blk HB3.out 1 rfl
    have b2 := cell_blk HB3.out 2 rfl
    have b3 := cell_blk HB3.out 3 rfl
    have b4 := cell_blk HB3.out 4 rfl
    have b5 := cell_blk HB3.out 5 rfl
    have b6 := cell_blk HB3.out 6 rfl
    have b7 := cell_blk HB3.out 7 rfl
    clear h2 HY3 hp3 HX2 HR2 HK2

    have HP4 : Hid _ := wvalue_any hE HX3.out [61] (by decide) e0
    go_wp2_with fail
    refine Calls.mono HP4.out ?_
    intro e y4 hy
    have HY4 : Hid (WXO B C w wp vd vs ve E R e y4) := by
      show _
      have h5 := hy
      rw [HR3.out] at h5
      exact h5.on HK3.out
    clear hy HP4
    cases R with
    | none =>
      have h3' : e = _ := HY4.out.2
      subst h3'
      clear HX3 HK3 HR3
      go_wp2_with fail
      exact ⟨rfl, HY4.out⟩
    | some T9 =>
      have h3' : e = _ := HY4.out.2.1
      subst h3'
      clear HX3 HK3 HR3
      go_wp2_with fail
      refine bodyPost_end (results_none rfl _ _ _) rfl ?_
      exact HY4.out
  have HRn : Hid (_ = R) := (if_neg k3).symm.trans HR.out
  clear HR
  have HR := HRn
  clear HRn
  have d3 : (kd == 3) = false := by simpa using k3
  by_cases k4 : kd = 4
  · subst k4
    have HR0 : Hid (_ = R) := ((if_pos rfl).symm.trans HR.out)
    clear HR
    have HP1 : Hid _ := wcall_any hE HX0.out ⟨⟨4, nm, fn, e0, i0, la, lb, ll⟩, .slice aa la.length ca, .slice ab lb.length cb, .slice al ll.length cl⟩ ⟨HLA0.out, HLB0.out, HLL0.out⟩ hn hfn
    go_wp2_with fail
    refine Calls.mono HP1.out ?_
    intro e y1 hy
    have HY1 : Hid (WXO B C w wp vd vs ve E R e y1) := by
      show _
      have h5 := hy
      rw [HR0.out] at h5
      exact h5.on HK0.out
    clear hy HP1
    cases R with
    | none =>
      have h3' : e = _ := HY1.out.2
      subst h3'
      clear HX0 HK0 HR0
      go_wp2_with fail
      exact ⟨rfl, HY1.out⟩
    | some T9 =>
      have h3' : e = _ := HY1.out.2.1
      subst h3'
      clear HX0 HK0 HR0
      go_wp2_with fail
      refine bodyPost_end (results_none rfl _ _ _) rfl ?_
      exact HY1.out
  have HRn : Hid (_ = R) := (if_neg k4).symm.trans HR.out
  clear HR
  have HR := HRn
  clear HRn
  have d4 : (kd == 4) = false := by simpa using k4
  by_cases k5 : kd = 5
  · subst k5
    have HR0 : Hid (_ = R) := ((if_pos rfl).symm.trans HR.out)
    clear HR
    have HP1 : Hid _ := wcall_any hE HX0.out ⟨⟨5, nm, fn, e0, i0, la, lb, ll⟩, .slice aa la.length ca, .slice ab lb.length cb, .slice al ll.length cl⟩ ⟨HLA0.out, HLB0.out, HLL0.out⟩ hn hfn
    go_wp2_with fail
    refine Calls.mono HP1.out ?_
    intro e y1 hy
    have HY1 : Hid (WXO B C w wp vd vs ve E R e y1) := by
      show _
      have h5 := hy
      rw [HR0.out] at h5
      exact h5.on HK0.out
    clear hy HP1
    cases R with
    | none =>
      have h3' : e = _ := HY1.out.2
      subst h3'
      clear HX0 HK0 HR0
      go_wp2_with fail
      exact ⟨rfl, HY1.out⟩
    | some T9 =>
      have h3' : e = _ := HY1.out.2.1
      subst h3'
      clear HX0 HK0 HR0
      go_wp2_with fail
      refine bodyPost_end (results_none rfl _ _ _) rfl ?_
      exact HY1.out
  have HRn : Hid (_ = R) := (if_neg k5).symm.trans HR.out
  clear HR
  have HR := HRn
  clear HRn
  have d5 : (kd == 5) = false := by simpa using k5
  by_cases k6 : kd = 6
  · subst k6
    have HR0 : Hid (_ = R) := ((if_pos rfl).symm.trans HR.out)
    clear HR
    have HP1 : Hid _ := wcall_any hE HX0.out ⟨⟨6, nm, fn, e0, i0, la, lb, ll⟩, .slice aa la.length ca, .slice ab lb.length cb, .slice al ll.length cl⟩ ⟨HLA0.out, HLB0.out, HLL0.out⟩ hn hfn
    go_wp2_with fail
    refine Calls.mono HP1.out ?_
    intro e y1 hy
    have HY1 : Hid (WXO B C w wp vd vs ve E R e y1) := by
      show _
      have h5 := hy
      rw [HR0.out] at h5
      exact h5.on HK0.out
    clear hy HP1
    cases R with
    | none =>
      have h3' : e = _ := HY1.out.2
      subst h3'
      clear HX0 HK0 HR0
      go_wp2_with fail
      exact ⟨rfl, HY1.out⟩
    | some T9 =>
      have h3' : e = _ := HY1.out.2.1
      subst h3'
      clear HX0 HK0 HR0
      go_wp2_with fail
      refine bodyPost_end (results_none rfl _ _ _) rfl ?_
      exact HY1.out
  have HRn : Hid (_ = R) := (if_neg k6).symm.trans HR.out
  clear HR
  have HR := HRn
  clear HRn
  have d6 : (kd == 6) = false := by simpa using k6
  by_cases k7 : kd = 7
  · subst k7
    have HR0 : Hid (wchoice E (XS.map (·.s)) g ⟨7, nm, fn, e0, i0, la, lb, ll⟩ T = R) := ((if_pos rfl).symm.trans HR.out)
    clear HR
    have HP1 : Hid _ := wchoice_step hE hS f g HGG.out HBK.out ⟨⟨7, nm, fn, e0, i0, la, lb, ll⟩, .slice aa la.length ca, .slice ab lb.length cb, .slice al ll.length cl⟩ HX0.out HM0.out ⟨HLA0.out, HLB0.out, HLL0.out⟩ hn hfn hf
    go_wp2_with fail
    refine Calls.mono HP1.out ?_
    intro e y1 hy
    have HY1 : Hid (WXO B C w wp vd vs ve E R e y1) := by
      show _
      have h5 := hy
      rw [HR0.out] at h5
      exact h5.on HK0.out
    clear hy HP1
    cases R with
    | none =>
      have h3' : e = _ := HY1.out.2
      subst h3'
      clear HX0 HK0 HR0
      go_wp2_with fail
      exact ⟨rfl, HY1.out⟩
    | some T9 =>
      have h3' : e = _ := HY1.out.2.1
      subst h3'
      clear HX0 HK0 HR0
      go_wp2_with fail
      refine bodyPost_end (results_none rfl _ _ _) rfl ?_
      exact HY1.out
  have HRn : Hid (_ = R) := (if_neg k7).symm.trans HR.out
  clear HR
  have HR := HRn
  clear HRn
  have d7 : (kd == 7) = false := by simpa using k7
  by_cases k8 : kd = 8
  · subst k8
    have HR0 : Hid (_ = R) := ((if_pos rfl).symm.trans HR.out)
    clear HR
    have HP1 : Hid _ := wcond_any hE HX0.out [119, 104, 105, 108, 101] (by decide) e0
    go_wp2_with fail
    refine Calls.mono HP1.out ?_
    intro e y1 hy
    have HY1 : Hid _ := hy
    clear hy HP1
    cases hp1 : wcond E [119, 104, 105, 108, 101] e0 T with
    | none =>
      obtain rfl : none = R := by have := HR0.out; rw [hp1] at this; exact this
      have h2 := HY1.out
      rw [hp1] at h2
      have h3' : e = _ := h2.2
      subst h3'
      have HF : Hid (WXO B C w wp vd vs ve E none _ y1) := ⟨HK0.out.trans h2.1, h2.2⟩
      clear h2 HY1 HX0 HK0 HR0
      go_wp2_with fail
      exact ⟨rfl, HF.out⟩
    | some T1 =>
    have h2 := HY1.out
    rw [hp1] at h2
    have h3' : e = _ := h2.2.1
    subst h3'
    have HX1 : Hid (WX B C y1 wp vd vs ve E T1) := h2.2.2
    have HK1 : Hid (Kp [80, 5] B w y1) := HK0.out.trans h2.1
    have hr1 := HR0.out
    rw [hp1] at hr1
    simp only [Option.bind_some] at hr1
    have HR1 : Hid (_ = R) := hr1
    clear hr1
    have HM1 : Hid (MS D y1 vs XS) := HM0.out.kp h2.1
    have HLA1 : Hid (y1.ownsRow D 3 1 (.slice aa la.length ca) la.length (la.map iZ)) := row_kp HLA0.out h2.1 (by decide)
    have HLB1 : Hid (y1.ownsRow D 3 1 (.slice ab lb.length cb) lb.length (lb.map iZ)) := row_kp HLB0.out h2.1 (by decide)
    have HLL1 : Hid (y1.ownsRow D 3 1 (.slice al ll.length cl) ll.length (ll.map iZ)) := row_kp HLL0.out h2.1 (by decide)
    have HG1 : Hid (T.length ≤ T1.length) := Nat.le_trans HG0.out (wcond_mono hp1)
    clear HM0 HLA0 HLB0 HLL0 HG0
    have HB1 : Hid (y1.heap[w.heap.size]? = some (.cells #[.int .i64 (8), .string (X.str nm), .string (X.str fn), .int .i64 e0, .int .i64 i0, .slice aa la.length ca, .slice ab lb.length cb, .slice al ll.length cl] 35)) := h2.1.keep _ _ _ _ HB.out (by decide)
    have b0 := cell_blk HB1.out 0 rfl
    have b1 := cell_blk HB1.out 1 rfl
    have b2 := cell_blk HB1.out 2 rfl
    have b3 := cell_blk HB1.out 3 rfl
    have b4 := cell_blk HB1.out 4 rfl
    have b5 := cell_blk HB1.out 5 rfl
    have b6 := cell_blk HB1.out 6 rfl
    have b7 := cell_blk HB1.out 7 rfl
    clear h2 HY1 hp1 HX0 HR0 HK0

    have HP2 : Hid _ := HBK.out lb HX1.out HM1.out (by have := HG1.out; omega) HLB1.out
    go_wp2_with fail
    refine Calls.mono HP2.out ?_
    intro e y2 hy
    have HY2 : Hid (WXO B C w wp vd vs ve E R e y2) := by
      show _
      have h5 := hy
      rw [HR1.out] at h5
      exact h5.on HK1.out
    clear hy HP2
    cases R with
    | none =>
      have h3' : e = _ := HY2.out.2
      subst h3'
      clear HX1 HK1 HR1
      go_wp2_with fail
      exact ⟨rfl, HY2.out⟩
    | some T9 =>
      have h3' : e = _ := HY2.out.2.1
      subst h3'
      clear HX1 HK1 HR1
      go_wp2_with fail
      refine bodyPost_end (results_none rfl _ _ _) rfl ?_
      exact HY2.out
  have HRn : Hid (_ = R) := (if_neg k8).symm.trans HR.out
  clear HR
  have HR := HRn
  clear HRn
  have d8 : (kd == 8) = false := by simpa using k8
  by_cases k9 : kd = 9
  · subst k9
    have HR0 : Hid (_ = R) := ((if_pos rfl).symm.trans HR.out)
    clear HR
    obtain ⟨A1, hA1⟩ : ∃ A, y0.alloc (.cells #[.string { data := #[119, 105, 116, 104] }, .string (X.str nm)] 9) = A := ⟨_, rfl⟩
    have HP1 : Hid _ := put_new HX0.out [[119, 105, 116, 104], nm] (by intro s hs; simp only [List.mem_cons, List.not_mem_nil, or_false] at hs; rcases hs with rfl | rfl <;> first | assumption | decide | omega) (by simp) hA1
    go_wp2_with fail
    refine Calls.mono HP1.out ?_
    intro e y1 hy
    have HY1 : Hid _ := hy
    clear hy HP1
    cases hp1 : puts T [[119, 105, 116, 104], nm] with
    | none =>
      obtain rfl : none = R := by have := HR0.out; rw [hp1] at this; exact this
      have h2 := HY1.out
      rw [hp1] at h2
      have h3' : e = _ := h2.2
      subst h3'
      have HF : Hid (WXO B C w wp vd vs ve E none _ y1) := ⟨HK0.out.trans h2.1, h2.2⟩
      clear h2 HY1 HX0 HK0 HR0
      go_wp2_with fail
      exact ⟨rfl, HF.out⟩
    | some T1 =>
    have h2 := HY1.out
    rw [hp1] at h2
    have h3' : e = _ := h2.2.1
    subst h3'
    have HX1 : Hid (WX B C y1 wp vd vs ve E T1) := h2.2.2
    have HK1 : Hid (Kp [80, 5] B w y1) := HK0.out.trans h2.1
    have hr1 := HR0.out
    rw [hp1] at hr1
    simp only [Option.bind_some] at hr1
    have HR1 : Hid (_ = R) := hr1
    clear hr1
    have HM1 : Hid (MS D y1 vs XS) := HM0.out.kp h2.1
    have HLA1 : Hid (y1.ownsRow D 3 1 (.slice aa la.length ca) la.length (la.map iZ)) := row_kp HLA0.out h2.1 (by decide)
    have HLB1 : Hid (y1.ownsRow D 3 1 (.slice ab lb.length cb) lb.length (lb.map iZ)) := row_kp HLB0.out h2.1 (by decide)
    have HLL1 : Hid (y1.ownsRow D 3 1 (.slice al ll.length cl) ll.length (ll.map iZ)) := row_kp HLL0.out h2.1 (by decide)
    have HG1 : Hid (T.length ≤ T1.length) := Nat.le_trans HG0.out (puts_mono hp1)
    clear HM0 HLA0 HLB0 HLL0 HG0
    have HB1 : Hid (y1.heap[w.heap.size]? = some (.cells #[.int .i64 (9), .string (X.str nm), .string (X.str fn), .int .i64 e0, .int .i64 i0, .slice aa la.length ca, .slice ab lb.length cb, .slice al ll.length cl] 35)) := h2.1.keep _ _ _ _ HB.out (by decide)
    have b0 := cell_blk HB1.out 0 rfl
    have b1 := cell_blk HB1.out 1 rfl
    have b2 := cell_blk HB1.out 2 rfl
    have b3 := cell_blk HB1.out 3 rfl
    have b4 := cell_blk HB1.out 4 rfl
    have b5 := cell_blk HB1.out 5 rfl
    have b6 := cell_blk HB1.out 6 rfl
    have b7 := cell_blk HB1.out 7 rfl
    clear h2 HY1 hp1 HX0 HR0 HK0

    have HP2 : Hid _ := HBK.out lb HX1.out HM1.out (by have := HG1.out; omega) HLB1.out
    go_wp2_with fail
    refine Calls.mono HP2.out ?_
    intro e y2 hy
    have HY2 : Hid (WXO B C w wp vd vs ve E R e y2) := by
      show _
      have h5 := hy
      rw [HR1.out] at h5
      exact h5.on HK1.out
    clear hy HP2
    cases R with
    | none =>
      have h3' : e = _ := HY2.out.2
      subst h3'
      clear HX1 HK1 HR1
      go_wp2_with fail
      exact ⟨rfl, HY2.out⟩
    | some T9 =>
      have h3' : e = _ := HY2.out.2.1
      subst h3'
      clear HX1 HK1 HR1
      go_wp2_with fail
      refine bodyPost_end (results_none rfl _ _ _) rfl ?_
      exact HY2.out
  have HRn : Hid (_ = R) := (if_neg k9).symm.trans HR.out
  clear HR
  have HR := HRn
  clear HRn
  have d9 : (kd == 9) = false := by simpa using k9
  by_cases k10 : kd = 10
  · subst k10
    have HR0 : Hid (_ = R) := ((if_pos rfl).symm.trans HR.out)
    clear HR
    have HP1 : Hid _ := wvalue_any hE HX0.out [112, 114, 105, 110, 116] (by decide) e0
    go_wp2_with fail
    refine Calls.mono HP1.out ?_
    intro e y1 hy
    have HY1 : Hid (WXO B C w wp vd vs ve E R e y1) := by
      show _
      have h5 := hy
      rw [HR0.out] at h5
      exact h5.on HK0.out
    clear hy HP1
    cases R with
    | none =>
      have h3' : e = _ := HY1.out.2
      subst h3'
      clear HX0 HK0 HR0
      go_wp2_with fail
      exact ⟨rfl, HY1.out⟩
    | some T9 =>
      have h3' : e = _ := HY1.out.2.1
      subst h3'
      clear HX0 HK0 HR0
      go_wp2_with fail
      refine bodyPost_end (results_none rfl _ _ _) rfl ?_
      exact HY1.out
  have HRn : Hid (_ = R) := (if_neg k10).symm.trans HR.out
  clear HR
  have HR := HRn
  clear HRn
  have d10 : (kd == 10) = false := by simpa using k10
  by_cases k11 : kd = 11
  · subst k11
    have HR0 : Hid (_ = R) := ((if_pos rfl).symm.trans HR.out)
    clear HR
    have HP1 : Hid _ := wvalue_any hE HX0.out [114, 101, 116, 117, 114, 110] (by decide) e0
    go_wp2_with fail
    refine Calls.mono HP1.out ?_
    intro e y1 hy
    have HY1 : Hid (WXO B C w wp vd vs ve E R e y1) := by
      show _
      have h5 := hy
      rw [HR0.out] at h5
      exact h5.on HK0.out
    clear hy HP1
    cases R with
    | none =>
      have h3' : e = _ := HY1.out.2
      subst h3'
      clear HX0 HK0 HR0
      go_wp2_with fail
      exact ⟨rfl, HY1.out⟩
    | some T9 =>
      have h3' : e = _ := HY1.out.2.1
      subst h3'
      clear HX0 HK0 HR0
      go_wp2_with fail
      refine bodyPost_end (results_none rfl _ _ _) rfl ?_
      exact HY1.out
  have HRn : Hid (_ = R) := (if_neg k11).symm.trans HR.out
  clear HR
  have HR := HRn
  clear HRn
  have d11 : (kd == 11) = false := by simpa using k11
  obtain rfl : none = R := HR.out
  have HF : Hid (WXO B C w wp vd vs ve E none (.panicked [{ v := .iface 27 (.int .i64 1), recovered := false }]) y0) := ⟨HK0.out, rfl⟩
  clear HX0 HK0 HR HM0 HLA0 HLB0 HLL0 HBK
  go_wp2_with fail
  exact ⟨rfl, HF.out⟩
/-- A statement, a block. -/
theorem wstmt_any {B C D : Nat} {wp : Nat} {vd vs ve : Value} {E : List Exp} {XS : List Sx} (hE : EOk E) (hS : SOk XS) (f : Nat) : ∀ {w : World} {T : By} (p : Sx), WX B C w wp vd vs ve E T → MS D w vs XS → p ∈ XS → 20001 < T.length + f → Calls Tryz.prog 110 #[.pointer (some ⟨wp, 0, none⟩), stV p] w (WXO B C w wp vd vs ve E (wstmt E (XS.map (·.s)) f p.s T)) := by
  induction f with
  | zero => intro w T p h hM hp hf; have := h.len; omega
  | succ f ih =>
    have hgm : ∀ {s : Stmt} {T T' : By}, wstmt E (XS.map (·.s)) f s T = some T' → T.length ≤ T'.length := fun h => wstmt_mono h
    obtain ⟨g, hg⟩ : ∃ g, wstmt E (XS.map (·.s)) f = g := ⟨_, rfl⟩
    rw [hg] at hgm
    have hs : ∀ {w : World} {T : By} (p : Sx), WX B C w wp vd vs ve E T → MS D w vs XS → p ∈ XS → 20001 < T.length + f → Calls Tryz.prog 110 #[.pointer (some ⟨wp, 0, none⟩), stV p] w (WXO B C w wp vd vs ve E (g p.s T)) := by
      intro w T p h1 h2 h3 h4
      rw [← hg]
      exact ih p h1 h2 h3 h4
    intro w T p h hM hp hf
    exact wstmt_step hE hS f g hg hgm (fun l h hM hf hl => wblk_step hE hS f g hgm hs l h hM hf hl) p h hM (hM.sr p hp) (hS.name p hp) (hS.fn p hp) (by omega)
set_option maxHeartbeats 2000000 in
theorem wblk_any {B C D : Nat} {wp : Nat} {vd vs ve : Value} {E : List Exp} {XS : List Sx} (hE : EOk E) (hS : SOk XS) {w : World} {T : By} {a : Option Addr} {c : Nat} (l : List Int) (h : WX B C w wp vd vs ve E T) (hM : MS D w vs XS) (hl : w.ownsRow D 3 1 (.slice a l.length c) l.length (l.map iZ)) : Calls Tryz.prog 90 #[.pointer (some ⟨wp, 0, none⟩), .slice a l.length c] w (WXO B C w wp vd vs ve E (wblk (XS.map (·.s)) (wstmt E (XS.map (·.s)) 20002) l T)) := by
  have hgm : ∀ {s : Stmt} {T T' : By}, wstmt E (XS.map (·.s)) 20002 s T = some T' → T.length ≤ T'.length := fun h => wstmt_mono h
  have hs0 := fun {w : World} {T : By} (p : Sx) => wstmt_any (B := B) (C := C) (D := D) (wp := wp) (vd := vd) (vs := vs) (ve := ve) hE hS 20002 (w := w) (T := T) p
  obtain ⟨g, hg⟩ : ∃ g, wstmt E (XS.map (·.s)) 20002 = g := ⟨_, rfl⟩
  rw [hg] at hgm hs0 ⊢
  exact wblk_step hE hS 20002 g hgm hs0 l h hM (by omega) hl
end Go.Proofs.YtikknlkdbjaonaaGreatDoor.Y
