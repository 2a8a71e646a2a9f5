/- What the document's has, Jumps, Starts and May come to. -/
import Derived.Test.YtmplnkfjaeegdaaDoorPImA
import Derived.Test.YtmplnkfjaeegdaaDoorPRefF
import Derived.Test.YtmplnkfjaeegdaaDoorPRefE
namespace Go.Proofs.YtmplnkfjaeegdaaDoor
set_option maxRecDepth 100000
open Go.RowKit Go.Maps Go.Lib
set_option linter.unusedVariables false
set_option linter.unusedSimpArgs false

set_option maxHeartbeats 4000000 in
theorem rhas_any {w : World} {a : Option Addr} {l c : Nat} {zs : List Int} (h : IntsV w a l c zs) (hl : l ≤ 1000000) (n : Int) :
    Calls Tryd.prog 51 #[.slice a l c, .int .i64 n] w fun e w' => e = .returned (.bool (zs.contains n)) ∧ w' = w := by
  have HV : Hid _ := h
  have HC : Hid _ := h.count
  clear h
  generalize hR : zs.contains n = R
  have HR : Hid _ := hR
  clear hR
  go_enter Tryd.func51, Tryd.ntmps51
  go_wp2_with fail
  go_loopg [5] l (fun r iv wq => ∃ (k : Nat), iv = .int .i64 k ∧ k ≤ l ∧ l - k ≤ r ∧ Hid (∀ i, i < k → zs.getD i 0 ≠ n) ∧ wq = w)
  case atStart => exact ⟨0, rfl, Nat.zero_le _, by omega, (fun i hi => by omega : ∀ i, i < 0 → zs.getD i 0 ≠ n), rfl⟩
  case round =>
    obtain ⟨k, rfl, hk, hr, HAL, rfl⟩ := hrel
    by_cases hlt : k < l
    · rcases HV.out.cells with h0 | ⟨b, off, hA, hcl⟩
      · omega
      have q := hcl k hlt
      have hkl : k < zs.length := by have := HC.out; omega
      have HYES : Hid (zs.getD k 0 = n → R = true) := fun hz => by
        rw [← HR.out, List.contains_iff_mem, ← hz]
        simp [List.getD, hkl]
      obtain ⟨z, hz⟩ : ∃ z, zs.getD k 0 = z := ⟨_, rfl⟩
      have HZ : Hid _ := hz
      rw [hz] at q HYES
      cases hA
      have hii : (k : Int) < l := by omega
      have hin : 0 ≤ (k : Int) := by omega
      clear hcl hz hkl
      by_cases he : z = n
      · have HE : Hid _ := HYES.out he
        subst he
        go_wp2
        go_ret
        exact ⟨by rw [HE.out]; rfl, rfl⟩
      · have hd : (z == n) = false := by simpa using he
        have HN : Hid (∀ i, i < k + 1 → zs.getD i 0 ≠ n) := fun i hi => by
          by_cases e : i = k
          · subst e; rw [HZ.out]; exact he
          · exact HAL.out i (by omega)
        clear he
        go_wp2_with fail
        go_roundg (l - (k + 1))
        case measure => omega
        case rel => exact ⟨k + 1, by first | rfl | (congr 1; omega), by omega, Nat.le_refl _, HN.out, rfl⟩
    · have hii : ¬ (k : Int) < l := by omega
      have HE : Hid (R = false) := by
        show _ = _
        rw [← HR.out, ← Bool.not_eq_true, List.contains_iff_mem]
        intro hm
        obtain ⟨i, hi, he⟩ := List.getElem_of_mem hm
        exact HAL.out i (by have := HC.out; omega) (by simp [List.getD, hi, he])
      go_wp2
      go_ret
      exact ⟨by rw [HE.out]; rfl, rfl⟩

theorem rjumps_any (op : Int) (w : World) : Calls Tryd.prog 50 #[.int .i64 op] w fun e w' => e = .returned (.bool (goesB op)) ∧ w' = w := by
  by_cases h : op = 20 ∨ op = 21 ∨ op = 22 ∨ op = 23 ∨ op = 25 ∨ op = 26 ∨ op = 27
  · have HG : Hid (goesB op = true) := decide_eq_true h
    generalize goesB op = G at HG ⊢
    rcases h with rfl | rfl | rfl | rfl | rfl | rfl | rfl
    all_goals
      go_enter Tryd.func50, Tryd.ntmps50
      go_wp2
      go_ret
      exact ⟨by rw [HG.out]; rfl, rfl⟩
  · have HG : Hid (goesB op = false) := decide_eq_false h
    generalize goesB op = G at HG ⊢
    have h1 : (op == 20) = false := by simp; omega
    have h2 : (op == 21) = false := by simp; omega
    have h3 : (op == 22) = false := by simp; omega
    have h4 : (op == 23) = false := by simp; omega
    have h5 : (op == 25) = false := by simp; omega
    have h6 : (op == 26) = false := by simp; omega
    have h7 : (op == 27) = false := by simp; omega
    clear h
    go_enter Tryd.func50, Tryd.ntmps50
    go_wp2
    go_ret
    exact ⟨by rw [HG.out]; rfl, rfl⟩

theorem infoInt : (Tryd.prog.info? 3).map (fun i => (i.zero, i.size, i.bytes)) = some (some (.int .i64 0), 1, 8) := by kernel_rfl
theorem row_thruI {w w1 : World} {B : Nat} {ty : TypeId} {k : Nat} {u : Value} {n : Nat} {cs : List Value} (hu : w.ownsRow B ty k u n cs) (hb : Below w.heap.size w w1) : w1.ownsRow B ty k u n cs := by
  have g : w.grownBy w1 none := ⟨hb.os, hb.tape, hb.output, hb.size, fun k hk _ => hb.block k hk⟩
  cases e : u.ownBlock with
  | none => exact hu.kept g (.inl e)
  | some b => exact hu.kept g (.inr (by rw [e]; simp))
theorem ints_own {w : World} {B : Nat} {e : TypeId} {a : Option Addr} {n c : Nat} {zs : List Int} (hf : ∀ z ∈ zs, (Lit.int .i64 z).wf = true) (hn : zs.length = n) (h : w.ownsRow B e 1 (.slice a n c) n (zs.flatMap intC)) : IntsV w a n c zs := by
  obtain ⟨a', c', e, n1, k1⟩ := row_at (m := 1) (f := intC) 0 (fun _ => rfl) h hn
  simp at e
  obtain ⟨rfl, rfl⟩ := e
  refine ⟨hn, hf, n1, ?_⟩
  rcases k1 with h0 | ⟨b, off, ha, hk⟩
  · exact .inl h0
  · exact .inr ⟨b, off, ha, fun i hi => by have := hk i hi 0 _ (by decide) rfl; simpa using this⟩
/-- What Starts hands back. -/
def StIs (s : ByteArray) (e : Ending) (w' : World) : Prop := match I.allI s with
  | some l => ∃ a c, e = .returned (.tuple #[.slice a l.length c, .bool true]) ∧ IntsV w' a l.length c (startsL l l.length)
  | none => e = .returned (.tuple #[.slice none 0 0, .bool false])
theorem all_len {s : ByteArray} {l : List I.Q} (h : I.allI s = some l) : l.length ≤ s.size := by
  have h1 := I.flat_len l (I.allI_some h).1
  rw [← (I.allI_some h).2] at h1
  have h2 : (byts s).length = s.size := by simp [W.tail]
  omega
theorem below_row {n : Nat} {w x y : World} {ty : TypeId} {k m : Nat} {u : Value} {cs : List Value} (h : Below n w x) (hr : x.ownsRow n ty k u m cs) (g : x.grownBy y u.ownBlock) (hn : n ≤ w.heap.size) : Below n w y := by
  refine ⟨g.os.trans h.os, g.tape.trans h.tape, g.output.trans h.output, Nat.le_trans h.size g.size, fun i hi => (g.block i (by have := h.size; omega) ?_).trans (h.block i hi)⟩
  intro e
  have := (World.ownsRow.lt hr i e.symm).1
  omega
theorem startsL_len (l : List I.Q) (k : Nat) : (startsL l k).length = k := by unfold startsL; rw [List.length_map, List.length_range]
theorem startsL_wf (l : List I.Q) (h : l.length ≤ 1000000) : ∀ z ∈ startsL l l.length, (Lit.int .i64 z).wf = true := by
  intro z hz
  unfold startsL at hz
  obtain ⟨k, hk, rfl⟩ := List.mem_map.1 hz
  have := stL_bd l k (by have := List.mem_range.1 hk; omega)
  have := List.mem_range.1 hk
  exact wf_in (by omega) (by omega)

set_option maxHeartbeats 8000000 in
theorem rstarts_any (s : ByteArray) (hs : s.size ≤ 65536) (w : World) :
    Calls Tryd.prog 19 #[.string s] w fun e w' => StIs s e w' ∧ Below w.heap.size w w' := by
  obtain ⟨i1, hi1, hz10, hz11, hz12⟩ := info_parts infoInt
  go_enter Tryd.func19, Tryd.ntmps19
  go_wp2_with fail
  refine (rall_any s (by omega) _).mono ?_
  rintro e y1 ⟨hp, g1⟩
  have B1 : Hid (Below w.heap.size w y1) := g1
  unfold I.allPost at hp
  cases hal : I.allI s with
  | none =>
    rw [hal] at hp
    simp only at hp
    subst hp
    have HST : Hid (StIs s (.returned (.tuple #[.slice none 0 0, .bool false])) y1) := by show StIs _ _ _; unfold StIs; rw [hal]
    clear g1 hal
    go_wp2
    go_ret2
    exact ⟨HST.out, B1.out⟩
  | some l =>
    rw [hal] at hp
    simp only at hp
    obtain ⟨lv, rfl, ho⟩ := hp
    obtain ⟨la, lc, rfl⟩ := own_formI ho
    have hln := all_len hal
    have HQ : Hid _ := qs_own rfl ho
    have HST : Hid (∀ v x, x.ownsRow y1.heap.size 3 1 v l.length ((startsL l l.length).flatMap intC) → StIs s (.returned (.tuple #[v, .bool true])) x) := fun v x hx => by
      unfold StIs
      rw [hal]
      obtain ⟨a, c, rfl⟩ := own_formI hx
      exact ⟨a, c, rfl, ints_own (startsL_wf l (by omega)) (startsL_len _ _) hx⟩
    obtain ⟨ln, hlq⟩ : ∃ ln, l.length = ln := ⟨_, rfl⟩
    have HLN : Hid _ := hlq
    rw [hlq] at hln HQ HST ⊢
    clear ho g1 hal hlq
    go_wp2_with fail
    go_loopg [6, 7, 8] ln (fun r lv av iv wq => ∃ (k : Nat) (z : Int), av = .int .i64 z ∧ iv = .int .i64 k ∧ k ≤ ln ∧ ln - k ≤ r ∧ 0 ≤ z ∧ z ≤ 10 * k ∧ Hid (z = stL l k) ∧ Hid (wq.ownsRow y1.heap.size 3 1 lv k ((startsL l k).flatMap intC)) ∧ Hid (Below y1.heap.size y1 wq))
    case atStart => exact ⟨0, 0, rfl, rfl, Nat.zero_le _, by omega, by omega, by omega, rfl, World.ownsRow_nil _ _ _ _, Below.refl _ _⟩
    case round =>
      obtain ⟨k, z, rfl, rfl, hk, hr, hz0, hz1, HZ, HRW, HBL⟩ := hrel
      by_cases hlt : k < ln
      · rcases HQ.out.cells with h0 | ⟨b, off, hA, hcl⟩
        · omega
        have q0 := (hcl k hlt).1
        have HSU : Hid _ := stL_succ l (k := k) (by have := HLN.out; omega)
        have HSZ : Hid _ := size_bd (l.getD k noQ).op
        obtain ⟨op, hop⟩ : ∃ op, (l.getD k noQ).op = op := ⟨_, rfl⟩
        rw [hop] at q0 HSU HSZ
        cases hA
        have hii : (k : Int) < ln := by omega
        have hin : 0 ≤ (k : Int) := by omega
        clear hcl hop
        obtain ⟨Z, hZ⟩ : ∃ Z, wr.alloc (.cells #[.int .i64 z] 3) = Z := ⟨_, rfl⟩
        have bZ : Below wr.heap.size wr Z := by subst hZ; exact bl_one _ _
        have HRZ : Hid (Z.ownsRow y1.heap.size 3 1 u6 k ((startsL l k).flatMap intC)) := row_thruI HRW.out bZ
        have HBZ : Hid (Below y1.heap.size y1 Z) := HBL.out.trans (bZ.mono HBL.out.size)
        have HZB : Hid (y1.heap.size ≤ Z.heap.size) := HBZ.out.size
        have HNCC : Hid (∀ j u, (intC z)[j]? = some u → Z.cell? ((⟨wr.heap.size, 0, none⟩ : Addr).add j) = some u) := by
          intro j u hu
          match j, hu with
          | 0, hu => subst hZ; simp [intC] at hu; subst hu; exact cell_last (by simp) (by simp)
          | j + 1, hu => simp [intC] at hu
        have HQ0 : Hid _ := q0
        clear bZ q0
        go_wp2_with (first | (at_builtin; refine wpList_append_lies _ rfl _ _ 40 rfl y1.heap.size 3 i1 _ 1 8 Tryd.underlying40 hi1 hz10 hz11 hz12 rfl (by decide) u6 k _ rfl HRZ.out ⟨wr.heap.size, 0, none⟩ 1 1 (intC z) rfl rfl HNCC.out (by intro u hu; simp [intC] at hu; subst hu; rfl) (by decide) (by unfold maxLen; omega) (by omega) HZB.out Z.heap.size rfl ?_; intro ga ca w1 ho1 hg1 hat1 hlt1; have BW : Hid (Below y1.heap.size y1 w1) := below_row HBZ.out HRZ.out hg1 (Nat.le_refl _); have q2 := cell_thru BW.out HQ0.out; have HO1 : Hid _ := ho1; clear ho1 hg1 hat1) | fail)
        refine (rsize_any op _).mono ?_
        rintro e y4 ⟨rfl, rfl⟩
        obtain ⟨sz, hsz⟩ : ∃ sz, I.size op = sz := ⟨_, rfl⟩
        rw [hsz] at HSU HSZ ⊢
        have hs0 := HSZ.out.1
        have hs1 := HSZ.out.2
        have HZ2 : Hid (z + sz = stL l (k + 1)) := by show _ = _; rw [HSU.out, ← HZ.out]
        have HR2 : Hid (y4.ownsRow y1.heap.size 3 1 (.slice (some ⟨ga, 0, none⟩) (k + 1) ca) (k + 1) ((startsL l (k + 1)).flatMap intC)) := by
          show World.ownsRow _ _ _ _ _ _ _
          rw [startsL_succ, List.flatMap_append, ← HZ.out]
          have : ([z].flatMap intC) = intC z := by simp [intC]
          rw [this]
          exact HO1.out
        clear hsz
        go_wp2_with fail
        go_roundg (ln - (k + 1))
        case measure => omega
        case rel => exact ⟨k + 1, _, rfl, by first | rfl | (congr 1; omega), by omega, Nat.le_refl _, by omega, by omega, HZ2.out, HR2.out, BW.out⟩
      · obtain rfl : k = ln := by omega
        have hii : ¬ (k : Int) < k := by omega
        have HE : Hid _ := HST.out _ _ HRW.out
        have BE : Hid (Below w.heap.size w wr) := B1.out.trans (HBL.out.mono B1.out.size)
        go_wp2_with fail
        go_ret2
        exact ⟨HE.out, BE.out⟩

theorem imay_no {m : ImgD} (h : ¬ (m.code.size ≤ 65536 ∧ m.data.length ≤ 4096 ∧ symsOk m.code.size m.data.length m.syms = true)) : m.may = false := by
  unfold ImgD.may
  rw [may_no (o := m.obj) (fun hh => h ⟨hh.1, hh.2.1, hh.2.2.1⟩), Bool.false_and]
theorem imay_is {m : ImgD} (h1 : m.code.size ≤ 65536) (h2 : m.data.length ≤ 4096) (h3 : symsOk m.code.size m.data.length m.syms = true) : m.may = ((decide (1 ≤ (thrs m.syms).length) && decide ((thrs m.syms).length ≤ 4)) && (match I.allI m.code with
  | none => false
  | some l => reachOk l && (bearOk (startsL l l.length) m.syms && addrOk m.data.length l))) := by
  unfold ImgD.may
  rw [may_is (o := m.obj) h1 h2 h3]
  show (relsOk m.code.size [] && _) = _
  have : relsOk m.code.size [] = true := by simp [relsOk]
  rw [this, Bool.true_and]
  rfl

set_option maxHeartbeats 16000000 in
theorem rmayI_any {w : World} {v : Value} {m : ImgD} (h : ImgV w v m) :
    Calls Tryd.prog 29 #[v] w fun e w' => e = .returned (.bool m.may) ∧ Below w.heap.size w w' := by
  obtain ⟨a1, l1, c1, a2, l2, c2, rfl, hcs, h1, h2⟩ := h.form
  obtain ⟨code, data, syms⟩ := m
  simp only at hcs h1 h2
  obtain ⟨z, hz⟩ : ∃ z : Bool, ImgD.may ⟨code, data, syms⟩ = z := ⟨_, rfl⟩
  rw [hz]
  have HZN : Hid (¬ (code.size ≤ 65536 ∧ data.length ≤ 4096 ∧ symsOk code.size data.length syms = true) → z = false) := fun hn => by rw [← hz]; exact imay_no hn
  have HZI : Hid (code.size ≤ 65536 → data.length ≤ 4096 → symsOk code.size data.length syms = true → z = ((decide (1 ≤ (thrs syms).length) && decide ((thrs syms).length ≤ 4)) && (match I.allI code with | none => false | some l => reachOk l && (bearOk (startsL l l.length) syms && addrOk data.length l)))) := fun g1 g2 g3 => by rw [← hz]; exact imay_is (m := ⟨code, data, syms⟩) g1 g2 g3
  have hn1 := h1.count
  have hcz : code.size ≤ 9223372036854775807 := by unfold maxLen at hcs; omega
  obtain ⟨W1, hW1⟩ : ∃ W1, w.alloc (.cells #[.string code, .slice a1 l1 c1, .slice a2 l2 c2] 25) = W1 := ⟨_, rfl⟩
  have HW : Hid (Below w.heap.size w W1) := by subst hW1; exact bl_one _ _
  have CV : Hid (Cells W1 w.heap.size [.string code, .slice a1 l1 c1, .slice a2 l2 c2]) := fun j u hu => by subst hW1; exact cell_last rfl (by simpa using hu)
  have H2 : Hid _ := h2.below HW.out
  have HC2 : Hid _ := h2.count
  clear h h1 h2 hz hcs
  have r0 : W1.cell? ⟨w.heap.size, 0, none⟩ = _ := CV.out 0 _ rfl
  have r1 : W1.cell? ⟨w.heap.size, 1, none⟩ = _ := CV.out 1 _ rfl
  have r2 : W1.cell? ⟨w.heap.size, 2, none⟩ = _ := CV.out 2 _ rfl
  go_enter Tryd.func29, Tryd.ntmps29
  by_cases hc : code.size ≤ 65536
  rotate_left
  · have hd : decide ((65536 : Int) < code.size) = true := decide_eq_true (by omega)
    have HNO : Hid _ := HZN.out (by omega)
    go_wp2
    go_ret
    exact ⟨by rw [HNO.out]; rfl, HW.out⟩
  have hd : decide ((65536 : Int) < code.size) = false := decide_eq_false (by omega)
  by_cases hdl : l1 ≤ 4096
  rotate_left
  · have hd' : decide ((4096 : Int) < l1) = true := decide_eq_true (by omega)
    have HNO : Hid _ := HZN.out (by omega)
    go_wp2
    go_ret
    exact ⟨by rw [HNO.out]; rfl, HW.out⟩
  have hd' : decide ((4096 : Int) < l1) = false := decide_eq_false (by omega)
  subst hn1
  go_wp2_with fail
  refine (rsyms_any code.size data.length H2.out).mono ?_
  rintro e x1 ⟨rfl, hx1⟩
  have HXW : Hid (Below w.heap.size w x1) := HW.out.trans (hx1.mono HW.out.size)
  have HX1 : Hid _ := hx1
  clear r0 r1 r2 hx1
  cases hso : symsOk code.size data.length syms with
  | false =>
    have HNO : Hid _ := HZN.out (by rw [hso]; simp)
    clear hso
    go_wp2
    go_ret
    exact ⟨by rw [HNO.out]; rfl, HXW.out⟩
  | true =>
  have HZ : Hid _ := HZI.out hc hdl hso
  have hsl : syms.length ≤ 1000 := by
    unfold symsOk at hso
    rw [Bool.and_eq_true] at hso
    exact of_decide_eq_true hso.1
  clear hso HZN HZI
  have r0 := cell_thru HX1.out (CV.out 0 _ rfl)
  go_wp2_with fail
  refine (rstarts_any code hc _).mono ?_
  rintro e x2 ⟨hst, hx2⟩
  have HX2 : Hid (Below W1.heap.size W1 x2) := HX1.out.trans (hx2.mono HX1.out.size)
  have HXV : Hid (Below w.heap.size w x2) := HXW.out.trans (hx2.mono HXW.out.size)
  clear r0 hx2 HX1 HXW
  unfold StIs at hst
  cases hal : I.allI code with
  | none =>
    rw [hal] at hst HZ
    simp only [Bool.and_false] at hst HZ
    subst hst
    clear hal
    go_wp2
    go_ret
    exact ⟨by rw [HZ.out]; rfl, HXV.out⟩
  | some l =>
  rw [hal] at hst HZ
  simp only at hst HZ
  obtain ⟨sa, sc, rfl, hsv⟩ := hst
  have r0 := cell_thru HX2.out (CV.out 0 _ rfl)
  have hln := all_len hal
  have HAL : Hid _ := hal
  have HSV : Hid _ := hsv
  clear hal hsv
  go_wp2_with fail
  refine (rall_any code (by omega) _).mono ?_
  rintro e x3 ⟨hp, hx3⟩
  have HX3 : Hid (Below W1.heap.size W1 x3) := HX2.out.trans (hx3.mono HX2.out.size)
  have HX : Hid (Below w.heap.size w x3) := HXV.out.trans (hx3.mono HXV.out.size)
  have HS3 : Hid _ := HSV.out.below hx3
  unfold I.allPost at hp
  rw [HAL.out] at hp
  simp only at hp
  obtain ⟨lv, rfl, ho⟩ := hp
  obtain ⟨la, lc, rfl⟩ := own_formI ho
  have HQ : Hid _ := qs_own rfl ho
  have CX : Hid (Cells x3 w.heap.size [.string code, .slice a1 data.length c1, .slice a2 l2 c2]) := fun j u hu => cell_thru HX3.out (CV.out j u hu)
  have HY2 : Hid _ := H2.out.below HX3.out
  have HNR : Hid (∀ i, i < l.length → reachAt l i = false → z = false) := fun i hi hf => by
    rw [HZ.out, show reachOk l = false from all_range_no hi hf, Bool.false_and, Bool.and_false]
  have HNA : Hid (∀ i, i < l.length → addrAt data.length (l.getD i noQ) = false → z = false) := fun i hi hf => by
    rw [HZ.out, show addrOk data.length l = false from all_range_no hi hf, Bool.and_false, Bool.and_false, Bool.and_false]
  have HNB : Hid (∀ i, i < syms.length → bearAt (startsL l l.length) (syms.getD i noSym) = false → z = false) := fun i hi hf => by
    rw [HZ.out, show bearOk (startsL l l.length) syms = false from all_range_no hi hf, Bool.false_and, Bool.and_false, Bool.and_false]
  have HYY : Hid ((∀ i, i < l.length → reachAt l i = true) → (∀ i, i < l.length → addrAt data.length (l.getD i noQ) = true) → (∀ i, i < syms.length → bearAt (startsL l l.length) (syms.getD i noSym) = true) → z = (decide (1 ≤ (thrs syms).length) && decide ((thrs syms).length ≤ 4))) := fun g1 g2 g3 => by
    rw [HZ.out, show reachOk l = true from all_range_yes g1, show addrOk data.length l = true from all_range_yes g2, show bearOk (startsL l l.length) syms = true from all_range_yes g3]
    simp
  have HST : Hid (∀ k, k < l.length → stL l (k + 1) = stL l k + I.size (l.getD k noQ).op) := fun k hk => stL_succ l hk
  have HRA : Hid (∀ k, reachAt l k = (!(goesB (l.getD k noQ).op) || (startsL l l.length).contains (IntKind.i64.wrap (stL l (k + 1) + (l.getD k noQ).n)))) := fun k => rfl
  obtain ⟨ST, hSTe⟩ : ∃ ST, startsL l l.length = ST := ⟨_, rfl⟩
  rw [hSTe] at HRA HNB HYY HS3
  obtain ⟨ln, hlq⟩ : ∃ ln, l.length = ln := ⟨_, rfl⟩
  rw [hlq] at hln HQ HS3 HNR HNA HYY HST ⊢
  clear r0 hx3 ho hlq hSTe HZ HAL HSV HX2 HXV HX3 H2 CV
  go_wp2_with fail
  go_loopg [7, 8] ln (fun r av iv wq => ∃ (k : Nat) (y : Int), av = .int .i64 y ∧ iv = .int .i64 k ∧ k ≤ ln ∧ ln - k ≤ r ∧ 0 ≤ y ∧ y ≤ 10 * k ∧ Hid (y = stL l k) ∧ Hid (∀ i, i < k → reachAt l i = true) ∧ Hid (∀ i, i < k → addrAt data.length (l.getD i noQ) = true) ∧ wq = x3)
  case atStart => exact ⟨0, 0, rfl, rfl, Nat.zero_le _, by omega, by omega, by omega, rfl, (fun i hi => by omega : ∀ i, i < 0 → reachAt l i = true), (fun i hi => by omega : ∀ i, i < 0 → addrAt data.length (l.getD i noQ) = true), rfl⟩
  case round =>
    obtain ⟨k, y, rfl, rfl, hk, hr, hy0, hy1, HY, HAR, HAA, hwq⟩ := hrel
    subst wr
    by_cases hlt : k < ln
    · rcases HQ.out.cells with h0 | ⟨b, off, hA, hcl⟩
      · omega
      obtain ⟨q0, -, -, q3⟩ := hcl k hlt
      have t1 := CX.out 1 _ rfl
      have HSU : Hid _ := HST.out k hlt
      have HSZ : Hid _ := size_bd (l.getD k noQ).op
      have HRK : Hid _ := HRA.out k
      have HAK : Hid (addrAt data.length (l.getD k noQ) = (!(decide ((l.getD k noQ).op = 19)) || (decide (0 ≤ IntKind.i64.wrap ((l.getD k noQ).n - 1048576)) && (decide (IntKind.i64.wrap ((l.getD k noQ).n - 1048576) % 8 = 0) && decide (IntKind.i64.wrap ((l.getD k noQ).n - 1048576) < 8 * (data.length : Int)))))) := rfl
      have HNK : Hid (addrAt data.length (l.getD k noQ) = false → z = false) := HNA.out k hlt
      have HYK : Hid (addrAt data.length (l.getD k noQ) = true → ∀ i, i < k + 1 → addrAt data.length (l.getD i noQ) = true) := fun hz i hi => by
        by_cases e : i = k
        · subst e; exact hz
        · exact HAA.out i (by omega)
      have HYR : Hid (reachAt l k = true → ∀ i, i < k + 1 → reachAt l i = true) := fun hz i hi => by
        by_cases e : i = k
        · subst e; exact hz
        · exact HAR.out i (by omega)
      obtain ⟨⟨op, qa, qb, qn⟩, hx⟩ : ∃ x, l.getD k noQ = x := ⟨_, rfl⟩
      rw [hx] at q0 q3 HSU HSZ HRK HAK HNK HYK
      simp only at q0 q3 HSU HSZ HRK HAK
      generalize addrAt data.length ⟨op, qa, qb, qn⟩ = BA at HAK HNK HYK
      cases hA
      have hii : (k : Int) < ln := by omega
      have hin : 0 ≤ (k : Int) := by omega
      clear hcl hx
      go_wp2_with fail
      refine (rsize_any op _).mono ?_
      rintro e y4 ⟨rfl, rfl⟩
      obtain ⟨sz, hsz⟩ : ∃ sz, I.size op = sz := ⟨_, rfl⟩
      rw [hsz] at HSU HSZ ⊢
      have hs0 := HSZ.out.1
      have hs1 := HSZ.out.2
      have HZ2 : Hid (y + sz = stL l (k + 1)) := by show _ = _; rw [HSU.out, ← HY.out]
      rw [← HZ2.out] at HRK
      clear hsz
      go_wp2_with fail
      refine (rjumps_any op _).mono ?_
      rintro e y5 ⟨rfl, rfl⟩
      obtain ⟨far, hfar⟩ : ∃ far, IntKind.i64.wrap (qn - 1048576) = far := ⟨_, rfl⟩
      rw [hfar] at HAK
      cases hg : goesB op with
      | false =>
        have HER : Hid _ := HYR.out (by rw [HRK.out, hg]; rfl)
        clear hg
        by_cases hop : op = 19
        rotate_left
        · have HE : Hid _ := HYK.out (by rw [HAK.out, decide_eq_false hop]; rfl)
          have hd9 : (op == 19) = false := by simpa using hop
          clear hop
          go_wp2_with fail
          go_roundg (ln - (k + 1))
          case measure => omega
          case rel => exact ⟨k + 1, _, rfl, by first | rfl | (congr 1; omega), by omega, Nat.le_refl _, by omega, by omega, HZ2.out, HER.out, HE.out, rfl⟩
        subst hop
        simp only [decide_true, Bool.not_true, Bool.false_or] at HAK
        rcases (show far < 0 ∨ (¬ far < 0 ∧ ¬ far % 8 = 0) ∨ (¬ far < 0 ∧ far % 8 = 0 ∧ 8 * (data.length : Int) ≤ far) ∨ (¬ far < 0 ∧ far % 8 = 0 ∧ ¬ 8 * (data.length : Int) ≤ far) by omega) with g1 | ⟨g1, g2⟩ | ⟨g1, g2, g3⟩ | ⟨g1, g2, g3⟩
        · have HE : Hid (z = false) := HNK.out (by rw [HAK.out, decide_eq_false (by omega), Bool.false_and])
          go_wp2
          go_ret
          exact ⟨by rw [HE.out]; rfl, HX.out⟩
        · have HE : Hid (z = false) := HNK.out (by rw [HAK.out, decide_eq_false g2, Bool.false_and, Bool.and_false])
          have gd : (far % 8 != 0) = true := by simpa using g2
          have gp : 0 ≤ far := by omega
          go_wp2
          go_ret
          exact ⟨by rw [HE.out]; rfl, HX.out⟩
        · have HE : Hid (z = false) := HNK.out (by rw [HAK.out, decide_eq_false (show ¬ far < 8 * (data.length : Int) by omega), Bool.and_false, Bool.and_false])
          have gp : 0 ≤ far := by omega
          go_wp2
          go_ret
          exact ⟨by rw [HE.out]; rfl, HX.out⟩
        · have HE : Hid _ := HYK.out (by rw [HAK.out, decide_eq_true (show 0 ≤ far by omega), decide_eq_true g2, decide_eq_true (show far < 8 * (data.length : Int) by omega)]; rfl)
          have gp : 0 ≤ far := by omega
          go_wp2_with fail
          go_roundg (ln - (k + 1))
          case measure => omega
          case rel => exact ⟨k + 1, _, rfl, by first | rfl | (congr 1; omega), by omega, Nat.le_refl _, by omega, by omega, HZ2.out, HER.out, HE.out, rfl⟩
      | true =>
        have HRB : Hid _ := HRK.out
        rw [hg] at HRB
        simp only [Bool.not_true, Bool.false_or] at HRB
        obtain ⟨tz, htz⟩ : ∃ tz, IntKind.i64.wrap (y + sz + qn) = tz := ⟨_, rfl⟩
        rw [htz] at HRB
        clear hg
        go_wp2_with fail
        refine (rhas_any HS3.out (by omega) tz).mono ?_
        rintro e y6 ⟨rfl, rfl⟩
        rw [← HRB.out]
        cases hre : reachAt l k with
        | false =>
          have HE : Hid (z = false) := HNR.out k hlt hre
          clear hre
          go_wp2
          go_ret
          exact ⟨by rw [HE.out]; rfl, HX.out⟩
        | true =>
          have HER : Hid _ := HYR.out hre
          clear hre
          by_cases hop : op = 19
          rotate_left
          · have HE : Hid _ := HYK.out (by rw [HAK.out, decide_eq_false hop]; rfl)
            have hd9 : (op == 19) = false := by simpa using hop
            clear hop
            go_wp2_with fail
            go_roundg (ln - (k + 1))
            case measure => omega
            case rel => exact ⟨k + 1, _, rfl, by first | rfl | (congr 1; omega), by omega, Nat.le_refl _, by omega, by omega, HZ2.out, HER.out, HE.out, rfl⟩
          subst hop
          simp only [decide_true, Bool.not_true, Bool.false_or] at HAK
          rcases (show far < 0 ∨ (¬ far < 0 ∧ ¬ far % 8 = 0) ∨ (¬ far < 0 ∧ far % 8 = 0 ∧ 8 * (data.length : Int) ≤ far) ∨ (¬ far < 0 ∧ far % 8 = 0 ∧ ¬ 8 * (data.length : Int) ≤ far) by omega) with g1 | ⟨g1, g2⟩ | ⟨g1, g2, g3⟩ | ⟨g1, g2, g3⟩
          · have HE : Hid (z = false) := HNK.out (by rw [HAK.out, decide_eq_false (by omega), Bool.false_and])
            go_wp2
            go_ret
            exact ⟨by rw [HE.out]; rfl, HX.out⟩
          · have HE : Hid (z = false) := HNK.out (by rw [HAK.out, decide_eq_false g2, Bool.false_and, Bool.and_false])
            have gd : (far % 8 != 0) = true := by simpa using g2
            have gp : 0 ≤ far := by omega
            go_wp2
            go_ret
            exact ⟨by rw [HE.out]; rfl, HX.out⟩
          · have HE : Hid (z = false) := HNK.out (by rw [HAK.out, decide_eq_false (show ¬ far < 8 * (data.length : Int) by omega), Bool.and_false, Bool.and_false])
            have gp : 0 ≤ far := by omega
            go_wp2
            go_ret
            exact ⟨by rw [HE.out]; rfl, HX.out⟩
          · have HE : Hid _ := HYK.out (by rw [HAK.out, decide_eq_true (show 0 ≤ far by omega), decide_eq_true g2, decide_eq_true (show far < 8 * (data.length : Int) by omega)]; rfl)
            have gp : 0 ≤ far := by omega
            go_wp2_with fail
            go_roundg (ln - (k + 1))
            case measure => omega
            case rel => exact ⟨k + 1, _, rfl, by first | rfl | (congr 1; omega), by omega, Nat.le_refl _, by omega, by omega, HZ2.out, HER.out, HE.out, rfl⟩
    · obtain rfl : k = ln := by omega
      have hii : ¬ (k : Int) < k := by omega
      have t2 := CX.out 2 _ rfl
      have HYZ : Hid _ := HYY.out HAR.out HAA.out
      have HL2 : Hid (l2 ≤ 1000) := by show _ ≤ _; have := HC2.out; omega
      go_wp2_with fail
      clear t2
      go_loopg [10, 11] l2 (fun r cv iv wq => ∃ (j tn : Nat), cv = .int .i64 tn ∧ iv = .int .i64 j ∧ j ≤ l2 ∧ l2 - j ≤ r ∧ tn ≤ j ∧ Hid (tn = (thrs (syms.take j)).length) ∧ Hid (∀ i, i < j → bearAt ST (syms.getD i noSym) = true) ∧ Hid (Below x3.heap.size x3 wq))
      case atStart => exact ⟨0, 0, rfl, rfl, Nat.zero_le _, by omega, Nat.le_refl _, (rfl : 0 = (thrs (syms.take 0)).length), (fun i hi => by omega : ∀ i, i < 0 → bearAt ST (syms.getD i noSym) = true), Below.refl _ _⟩
      case round =>
        obtain ⟨j, tn, rfl, rfl, hj, hr2, htj, HTN, HAB, HBL⟩ := hrel
        have t2 := cell_thru HBL.out (CX.out 2 _ rfl)
        have hl2 := HL2.out
        have HBW : Hid (Below w.heap.size w wr) := HX.out.trans (HBL.out.mono HX.out.size)
        by_cases hlt2 : j < l2
        · rcases HY2.out.cells with h0 | ⟨b, off, hA, hcl⟩
          · omega
          obtain ⟨q0, q1, q2⟩ := hcl j hlt2
          have q0 := cell_thru HBL.out q0
          have q1 := cell_thru HBL.out q1
          have q2 := cell_thru HBL.out q2
          have HSN : Hid _ := thrs_snoc syms (k := j) (by have := HC2.out; omega)
          have HBA : Hid (bearAt ST (syms.getD j noSym) = (decide ((syms.getD j noSym).kind = 2) || ST.contains (syms.getD j noSym).pos)) := rfl
          have HNK : Hid (bearAt ST (syms.getD j noSym) = false → z = false) := HNB.out j (by have := HC2.out; omega)
          have HYK : Hid (bearAt ST (syms.getD j noSym) = true → ∀ i, i < j + 1 → bearAt ST (syms.getD i noSym) = true) := fun hz i hi => by
            by_cases e : i = j
            · subst e; exact hz
            · exact HAB.out i (by omega)
          obtain ⟨⟨nm, kd, ps⟩, hx⟩ : ∃ x, syms.getD j noSym = x := ⟨_, rfl⟩
          rw [hx] at q0 q1 q2 HSN HBA HNK HYK
          simp only at q0 q1 q2 HSN HBA
          generalize bearAt ST ⟨nm, kd, ps⟩ = BA at HBA HNK HYK
          cases hA
          have hjj : (j : Int) < l2 := by omega
          have hjn : 0 ≤ (j : Int) := by omega
          clear hcl hx hii
          obtain ⟨Y1, hY1⟩ : ∃ Y1, wr.alloc (.cells #[.string nm, .int .i64 kd, .int .i64 ps] 66) = Y1 := ⟨_, rfl⟩
          have bY : Below wr.heap.size wr Y1 := by subst hY1; exact bl_one _ _
          have g1 : Y1.cell? ⟨wr.heap.size, 1, none⟩ = some (.int .i64 kd) := by subst hY1; exact cell_last rfl rfl
          have g2 : Y1.cell? ⟨wr.heap.size, 2, none⟩ = some (.int .i64 ps) := by subst hY1; exact cell_last rfl rfl
          have HBY : Hid (Below x3.heap.size x3 Y1) := HBL.out.trans (bY.mono HBL.out.size)
          have HBZ : Hid (Below w.heap.size w Y1) := HX.out.trans (HBY.out.mono HX.out.size)
          clear bY
          by_cases hkd : kd = 2
          · have HE : Hid _ := HYK.out (by rw [HBA.out, decide_eq_true hkd]; rfl)
            subst hkd
            have HTK : Hid (tn = (thrs (syms.take (j + 1))).length) := by show _ = _; rw [HSN.out, if_neg (by decide), List.append_nil, ← HTN.out]
            go_wp2_with fail
            go_roundg (l2 - (j + 1))
            case measure => omega
            case rel => exact ⟨j + 1, tn, by first | rfl | (congr 1; omega), by first | rfl | (congr 1; omega), by omega, Nat.le_refl _, by omega, HTK.out, HE.out, HBY.out⟩
          · have hd2 : (kd != 2) = true := by simpa using hkd
            have HRB : Hid (BA = ST.contains ps) := by show _ = _; rw [HBA.out, decide_eq_false hkd, Bool.false_or]
            clear hkd
            go_wp2_with fail
            refine (rhas_any (HS3.out.below HBY.out) (by omega) ps).mono ?_
            rintro e y6 ⟨rfl, rfl⟩
            rw [← HRB.out]
            cases hbe : BA with
            | false =>
              have HE : Hid (z = false) := HNK.out hbe
              clear hbe
              go_wp2
              go_ret
              exact ⟨by rw [HE.out]; rfl, HBZ.out⟩
            | true =>
              have HE : Hid _ := HYK.out hbe
              clear hbe
              by_cases hk3 : kd = 3
              · subst hk3
                have HTK : Hid (tn + 1 = (thrs (syms.take (j + 1))).length) := by show _ = _; rw [HSN.out, if_pos rfl, List.length_append, ← HTN.out]; rfl
                go_wp2_with fail
                go_roundg (l2 - (j + 1))
                case measure => omega
                case rel => exact ⟨j + 1, tn + 1, by first | rfl | (congr 1; omega), by first | rfl | (congr 1; omega), by omega, Nat.le_refl _, by omega, HTK.out, HE.out, HBY.out⟩
              · have hd3 : (kd == 3) = false := by simpa using hk3
                have HTK : Hid (tn = (thrs (syms.take (j + 1))).length) := by show _ = _; rw [HSN.out, if_neg hk3, List.append_nil, ← HTN.out]
                clear hk3
                go_wp2_with fail
                go_roundg (l2 - (j + 1))
                case measure => omega
                case rel => exact ⟨j + 1, tn, by first | rfl | (congr 1; omega), by first | rfl | (congr 1; omega), by omega, Nat.le_refl _, by omega, HTK.out, HE.out, HBY.out⟩
        · obtain rfl : j = l2 := by omega
          have hjj : ¬ (j : Int) < j := by omega
          have HZZ : Hid (z = (decide (1 ≤ tn) && decide (tn ≤ 4))) := by
            show _ = _
            rw [HYZ.out (fun i hi => HAB.out i (by have := HC2.out; omega)), HTN.out, List.take_of_length_le (by have := HC2.out; omega)]
          clear hii
          rcases (show tn < 1 ∨ (1 ≤ tn ∧ tn ≤ 4) ∨ (1 ≤ tn ∧ 4 < tn) by omega) with g1 | ⟨g1, g2⟩ | ⟨g1, g2⟩
          · have HE : Hid (z = false) := by show _ = _; rw [HZZ.out, decide_eq_false (by omega), Bool.false_and]
            have gd : decide ((1 : Int) ≤ tn) = false := decide_eq_false (by omega)
            go_wp2
            go_ret
            exact ⟨by rw [HE.out]; rfl, HBW.out⟩
          · have HE : Hid (z = true) := by show _ = _; rw [HZZ.out, decide_eq_true g1, decide_eq_true g2]; rfl
            have gd : decide ((1 : Int) ≤ tn) = true := decide_eq_true (by omega)
            have ge : decide ((tn : Int) ≤ 4) = true := decide_eq_true (by omega)
            go_wp2
            go_ret
            exact ⟨by rw [HE.out]; rfl, HBW.out⟩
          · have HE : Hid (z = false) := by show _ = _; rw [HZZ.out, decide_eq_false (show ¬ tn ≤ 4 by omega), Bool.and_false]
            have gd : decide ((1 : Int) ≤ tn) = true := decide_eq_true (by omega)
            have ge : decide ((tn : Int) ≤ 4) = false := decide_eq_false (by omega)
            go_wp2
            go_ret
            exact ⟨by rw [HE.out]; rfl, HBW.out⟩
end Go.Proofs.YtmplnkfjaeegdaaDoor
