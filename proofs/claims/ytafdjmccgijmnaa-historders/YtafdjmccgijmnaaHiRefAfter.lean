/- The objects behind an order: the document's way. -/
import Derived.Test.YtafdjmccgijmnaaHiRefMay
import Derived.Test.YtafdjmccgijmnaaHiAfterM
import Derived.Test.YtafdjmccgijmnaaHiOb
namespace Go.Proofs.Ytafdjmccgijmnaa
open Go.RowKit A Go.Maps
set_option linter.unusedVariables false
set_option linter.unusedSimpArgs false
theorem H.stepD_none {os : List At} {ts : List H.Ac} {ks : List Int} {k : Nat} (h : H.stepD os ts ks k = none) : ∀ {j : Nat}, k ≤ j → H.stepD os ts ks j = none
  | 0, hj => by obtain rfl : k = 0 := by omega
                exact h
  | j + 1, hj => by
    by_cases e : k = j + 1
    · rw [← e]; exact h
    · rw [H.stepD, H.stepD_none h (by omega : k ≤ j)]
def bV (b : Bool) : Value := .bool b
/-- A row of what was done. -/
def bits (l d : Nat) : List Bool := (List.range l).map d.testBit
theorem bits_len (l d : Nat) : (bits l d).length = l := by simp [bits]
theorem bits_at {l d j : Nat} (h : j < l) : (bits l d).getD j false = d.testBit j := by simp [bits, List.getD, h]
theorem bits_zero (l : Nat) : bits l 0 = List.replicate l false := by
  apply List.ext_getElem
  · simp [bits]
  · intro i h1 h2
    simp [bits]
theorem bits_set {l d k : Nat} (h : k < l) : (bits l d).set k true = bits l (H.wth d k) := by
  apply List.ext_getElem
  · simp [bits]
  · intro i h1 h2
    simp only [bits, List.length_set, List.length_map, List.length_range] at h1
    simp only [bits, List.getElem_set, List.getElem_map, List.getElem_range, H.has_wth]
    by_cases e : k = i
    · simp [e]
    · simp [e]
theorem infoBool : (Try.prog.info? 4).map (fun i => (i.zero, i.size, i.bytes)) = some (some (.bool false), 1, 1) := by kernel_rfl
set_option maxRecDepth 100000 in
theorem makeBools (w : World) (N : Nat) (hN : N ≤ 65536) :
    (Instr.makeSlice 75 (.int .i64 N) (.int .i64 N)).run Try.prog w = .ok (.slice (some ⟨w.heap.size, 0, none⟩) N N) (w.alloc (.cells (List.replicate N (bV false)).toArray 4)) := by
  obtain ⟨i, hi, h0, h1, h2⟩ := hinfo infoBool
  have := run_make (P := Try.prog) w 75 4 i (.bool false) Try.underlying75 hi h0 .i64 .i64 N N (by omega) (by omega) (by rw [h2]; omega) (by omega)
  rw [this, h1, Int.toNat_natCast]
  congr 3
  unfold madeCells
  apply Array.ext
  · simp
  · intro i h1 h2
    simp [Value.cells, Nat.mod_one, bV]
theorem bools_row (w : World) (N : Nat) (hN : N ≤ 65536) : (w.alloc (.cells (List.replicate N (bV false)).toArray 4)).ownsRow w.heap.size 4 1 (.slice (some ⟨w.heap.size, 0, none⟩) N N) N ((List.replicate N false).map bV) := by
  have := World.ownsRow_lit (base := w.heap.size) (e := 4) (size := 1) w (List.replicate N (bV false)).toArray N (Nat.le_refl _) (by unfold maxLen; omega) (by simp)
  simpa using this
structure BR (w W : World) (g l d : Nat) : Prop where
  low : Below w.heap.size w W
  row : W.ownsRow w.heap.size 4 1 (.slice (some ⟨g, 0, none⟩) l l) l ((bits l d).map bV)
theorem BR.below {w W y : World} {g l d : Nat} (h : BR w W g l d) (hb : Below W.heap.size W y) : BR w y g l d := ⟨h.low.trans (hb.mono h.low.size), hown_thru h.row hb⟩
theorem BR.store {w W : World} {g l d : Nat} (h : BR w W g l d) {k : Nat} (hk : k < l) : BR w (W.setCell ⟨g, k, none⟩ (.bool true)) g l (H.wth d k) := by
  obtain ⟨h1, h2⟩ := h.row.stored k (.bool true)
  refine ⟨h.low.setCell (h.row.lt g rfl).1 _, ?_⟩
  rw [← bits_set hk, List.map_set]
  exact h1
theorem BR.at {w W : World} {g l d : Nat} (h : BR w W g l d) {k : Nat} (hk : k < l) : W.cell? ⟨g, k, none⟩ = some (.bool (d.testBit k)) ∧ W.frozen? ⟨g, k, none⟩ = false ∧ g < W.heap.size := by
  refine ⟨?_, h.row.frozenAt k, (h.row.lt g rfl).2⟩
  rw [h.row.cellAt k (by omega), List.getElem?_map]
  have := bits_at (d := d) hk
  have hl : k < (bits l d).length := by rw [bits_len]; exact hk
  simp only [List.getD, List.getElem?_eq_getElem hl, Option.getD_some] at this
  rw [List.getElem?_eq_getElem hl, this]
  rfl
theorem A.Stay.setLow {B : Nat} {W : World} {a : Option Addr} {l c : Nat} {s : List At} (h : Stay B W a l c s) {g k : Nat} (hg : g < B) (v : Value) : Stay B (W.setCell ⟨g, k, none⟩ v) a l c s := fun w1 hk => h w1 fun b o u hB hc => hk b o u hB (by rw [World.cell?_setCell_far _ ⟨g, k, none⟩ ⟨b, o, none⟩ _ (by show g ≠ b; omega)]; exact hc)
def RAftOut (w : World) (lo : Nat) (r : Option (List At)) (e : Ending) (w' : World) : Prop := Below w.heap.size w w' ∧ match r with
  | none => e = .returned (.tuple #[.slice none 0 0, .bool false])
  | some s => ∃ a c, e = .returned (.tuple #[.slice a lo c, .bool true]) ∧ Stay w.heap.size w' a lo c s
def H.aftD (os : List At) (ts : List H.Ac) (ks : List Int) : Option (List At) := if mayAll os = true ∧ H.mayH ts = true then H.afterD os ts ks else none
set_option maxRecDepth 100000 in
set_option maxHeartbeats 8000000 in
theorem rafter_any {w : World} {a aa an : Option Addr} {lo c l cc m cn : Nat} {os : List At} {ts : List H.Ac} {ks : List Int} (hO : AtsV w a lo c os) (hlo : lo ≤ 1048576) (hA : ActsV w aa l cc ts) (hN : NumsV w an m cn ks) (hargs : ∀ x ∈ ts, (Lit.int .i64 x.arg).wf = true) :
    Calls Try.prog 32 #[.slice a lo c, .slice aa l cc, .slice an m cn] w (RAftOut w lo (H.aftD os ts ks)) := by
  have HO : Hid (AtsV w a lo c os) := hO
  have HA : Hid (ActsV w aa l cc ts) := hA
  have HN : Hid (NumsV w an m cn ks) := hN
  have HTC : Hid (ts.length = l) := hA.count
  have HKC : Hid (ks.length = m) := hN.count
  have HOC : Hid (os.length = lo) := hO.count
  have HARG : Hid (∀ x ∈ ts, (Lit.int .i64 x.arg).wf = true) := hargs
  have hmax : maxLen = 9223372036854775807 := rfl
  have hmx := hN.room
  have hml := hA.room
  have hac := A.rmay_any hO
  have HR : Hid (H.aftD os ts ks = if mayAll os = true ∧ H.mayH ts = true then H.afterD os ts ks else none) := rfl
  obtain ⟨R, hR⟩ : ∃ R, H.aftD os ts ks = R := ⟨_, rfl⟩
  rw [hR] at HR
  rw [hR]
  clear hO hA hargs hN hR
  cases hm : mayAll os with
  | false =>
    have HRN : R = none := by rw [HR.out, if_neg (by rw [hm]; simp)]
    subst HRN
    rw [hm] at hac
    clear hm HR
    go_enter Try.func32, Try.ntmps32
    go_wp2_with fail
    refine hac.mono ?_
    rintro e y1 ⟨rfl, hy1⟩
    have HBX : Hid (Below w.heap.size w y1) := hy1
    clear hac hy1
    go_wp2_with fail
    go_ret2
    exact ⟨HBX.out, rfl⟩
  | true =>
    rw [hm] at hac
    have HM : Hid (mayAll os = true) := hm
    cases hh : H.mayH ts with
    | false =>
      have HRN : R = none := by rw [HR.out, if_neg (by rw [hh]; simp)]
      subst HRN
      have HCH : Hid (∀ W, Below w.heap.size w W → Calls Try.prog 26 #[.slice aa l cc] W fun e w' => e = .returned (.bool false) ∧ Below W.heap.size W w') := fun W hW => by
        have := rMayBe_any (HA.out.below hW)
        rw [hh] at this
        exact this
      clear hh HR hm
      go_enter Try.func32, Try.ntmps32
      go_wp2_with fail
      refine hac.mono ?_
      rintro e y1 ⟨rfl, hy1⟩
      have HY1 : Hid (Below w.heap.size w y1) := hy1
      have hch := HCH.out y1 hy1
      clear hac hy1
      go_wp2_with fail
      refine hch.mono ?_
      rintro e y2 ⟨rfl, hy2⟩
      have HBX : Hid (Below w.heap.size w y2) := HY1.out.trans (hy2.mono HY1.out.size)
      clear hch hy2
      go_wp2_with fail
      go_ret2
      exact ⟨HBX.out, rfl⟩
    | true =>
      have HCH : Hid (∀ W, Below w.heap.size w W → Calls Try.prog 26 #[.slice aa l cc] W fun e w' => e = .returned (.bool true) ∧ Below W.heap.size W w') := fun W hW => by
        have := rMayBe_any (HA.out.below hW)
        rw [hh] at this
        exact this
      have HL60 : Hid (l ≤ 60) := by
        show _ ≤ _
        unfold H.mayH at hh
        rw [Bool.and_eq_true, decide_eq_true_eq, HTC.out] at hh
        exact hh.1
      have HR2 : Hid (R = H.afterD os ts ks) := by show _ = _; rw [HR.out, if_pos ⟨hm, hh⟩]
      clear hh HR hm
      by_cases hmls : m ≤ l
      rotate_left
      · have HRN : R = none := by rw [HR2.out]; unfold H.afterD; rw [if_neg (by rw [HTC.out, HKC.out]; exact hmls)]
        subst HRN
        have hgt : (l : Int) < m := by omega
        go_enter Try.func32, Try.ntmps32
        go_wp2_with fail
        refine hac.mono ?_
        rintro e y1 ⟨rfl, hy1⟩
        have HY1 : Hid (Below w.heap.size w y1) := hy1
        have hch := HCH.out y1 hy1
        clear hac hy1
        go_wp2_with fail
        refine hch.mono ?_
        rintro e y2 ⟨rfl, hy2⟩
        have HBX : Hid (Below w.heap.size w y2) := HY1.out.trans (hy2.mono HY1.out.size)
        clear hch hy2
        go_wp2_with fail
        go_ret2
        exact ⟨HBX.out, rfl⟩
      have HRS : Hid (R = match H.stepD os ts ks m with
        | none => none
        | some (d, s) => if H.backB ts d = true then some s else none) := by
        show _ = _
        rw [HR2.out]; unfold H.afterD; rw [if_pos (by rw [HTC.out, HKC.out]; exact hmls), HKC.out]
        rfl
      have hgt : ¬ (l : Int) < m := by omega
      clear HR2
      go_enter Try.func32, Try.ntmps32
      go_wp2_with fail
      refine hac.mono ?_
      rintro e y1 ⟨rfl, hy1⟩
      have HY1 : Hid (Below w.heap.size w y1) := hy1
      have hch := HCH.out y1 hy1
      clear hac hy1
      go_wp2_with fail
      refine hch.mono ?_
      rintro e y2 ⟨rfl, hy2⟩
      have HY2 : Hid (Below w.heap.size w y2) := HY1.out.trans (hy2.mono HY1.out.size)
      clear hch hy2
      have hmk := makeBools y2 l (by have := HL60.out; omega)
      obtain ⟨W0, hW0⟩ : ∃ W0, y2.alloc (.cells (List.replicate l (bV false)).toArray 4) = W0 := ⟨_, rfl⟩
      rw [hW0] at hmk
      have HSW : Hid (W0.heap.size = y2.heap.size + 1) := by show _ = _; rw [← hW0]; simp
      have HBW0 : Hid (Below y2.heap.size y2 W0) := by show Below _ _ _; rw [← hW0]; exact hbl1 _ _
      have HBR0 : Hid (BR y2 W0 y2.heap.size l 0) := by
        refine ⟨HBW0.out, ?_⟩
        rw [bits_zero, ← hW0]
        exact bools_row y2 l (by have := HL60.out; omega)
      have HW0 : Hid (Below w.heap.size w W0) := HY2.out.trans (HBW0.out.mono HY2.out.size)
      have hcp := A.rcopy_any (HO.out.below HW0.out) hlo (may_items HM.out)
      clear hW0
      go_wp2_with fail
      refine hcp.mono ?_
      rintro e W1 ⟨⟨lv, rfl, vs, hcx⟩, hb1⟩
      rw [← HOC.out] at hcx
      obtain ⟨a0, c0, hlv, hst0⟩ := hcx.stay HO.out.fits
      subst hlv
      rw [HOC.out] at hst0
      rw [HSW.out] at hst0
      have HST0 : Hid _ := hst0
      have HBR1 : Hid (BR y2 W1 y2.heap.size l 0) := HBR0.out.below hb1
      have HG : Hid (w.heap.size ≤ y2.heap.size) := HY2.out.size
      have HB1 : Hid (Below w.heap.size w W1) := HW0.out.trans (hb1.mono HW0.out.size)
      obtain ⟨lx, hlx⟩ : ∃ lx, os.length = lx := ⟨_, rfl⟩
      have hlx2 : lx = lo := by rw [← hlx]; exact HOC.out
      rw [hlx]
      subst hlx2
      obtain ⟨g, hg⟩ : ∃ g, y2.heap.size = g := ⟨_, rfl⟩
      have HYG : Hid (y2.heap.size = g) := hg
      rw [hg] at HST0 HBR1 HG
      try rw [hg]
      clear hmk hcp hcx hst0 hb1 hlx hg HW0 HBW0 HBR0 HSW HY1
      go_wp2_with fail
      go_loopg [9, 10, 11, 12, 13, 14] m (fun r z9 iv z11 z12 z13 z14 wq => ∃ (i d : Nat) (s : List At) (a' : Option Addr) (c' : Nat), r = m - i ∧ z9 = .slice a' lx c' ∧ iv = .int .i64 i ∧ i ≤ m ∧ Hid (H.stepD os ts ks i = some (d, s)) ∧ Hid (mayAll s = true) ∧ Hid (Stay (g + 1) wq a' lx c' s) ∧ Hid (BR y2 wq g l d) ∧ Hid (Below w.heap.size w wq))
      case atStart => exact ⟨0, 0, os, a0, c0, rfl, rfl, rfl, Nat.zero_le _, rfl, HM, HST0, HBR1, HB1⟩
      case round =>
        obtain ⟨i, d, s, a', c', rfl, rfl, rfl, hi, HSTEP, HMAY, HSTAY, HBR, HB⟩ := hrel
        by_cases him : i < m
        · have hii : (i : Int) < m := by omega
          have hin : 0 ≤ (i : Int) := by omega
          obtain ⟨bn, on, hab, ci⟩ := (HN.out.below HB.out).at him
          subst hab
          have HNXa : Hid (H.stepD os ts ks (i + 1) = if ks.getD i 0 < 0 ∨ (l : Int) ≤ ks.getD i 0 ∨ d.testBit (ks.getD i 0).toNat = true then none else if H.firstB ts d (ks.getD i 0).toNat = true then (if H.goes s (ts.getD (ks.getD i 0).toNat H.noAc) = true then some (H.wth d (ks.getD i 0).toNat, (H.made s (ts.getD (ks.getD i 0).toNat H.noAc)).1) else none) else none) := by
            show _ = _
            rw [H.stepD, HSTEP.out, HTC.out]
          have HBAD : Hid (H.stepD os ts ks (i + 1) = none → R = none) := fun e => by rw [HRS.out, H.stepD_none e him]
          have HBX : Hid (Below w.heap.size w wr) := HB
          obtain ⟨kz, hkz⟩ : ∃ kz, ks.getD i 0 = kz := ⟨_, rfl⟩
          rw [hkz] at ci HNXa
          clear hkz
          by_cases hk0 : kz < 0
          · have HRN := HBAD.out (by rw [HNXa.out, if_pos (.inl hk0)])
            subst HRN
            go_wp2_with fail
            go_ret2
            exact ⟨HBX.out, rfl⟩
          by_cases hkl : (l : Int) ≤ kz
          · have HRN := HBAD.out (by rw [HNXa.out, if_pos (.inr (.inl hkl))])
            subst HRN
            go_wp2_with fail
            go_ret2
            exact ⟨HBX.out, rfl⟩
          obtain ⟨q, rfl⟩ : ∃ q : Nat, kz = q := ⟨kz.toNat, by omega⟩
          have hql : q < l := by omega
          have hqi : (q : Int) < l := by omega
          have hq0 : 0 ≤ (q : Int) := by omega
          rw [Int.toNat_natCast] at HNXa
          obtain ⟨cq, fq, gq⟩ := HBR.out.at hql
          have HNXb : Hid (H.stepD os ts ks (i + 1) = if d.testBit q = true then none else if H.firstB ts d q = true then (if H.goes s (ts.getD q H.noAc) = true then some (H.wth d q, (H.made s (ts.getD q H.noAc)).1) else none) else none) := by
            show _ = _
            rw [HNXa.out]
            by_cases e : d.testBit q = true
            · rw [if_pos (.inr (.inr e)), if_pos e]
            · rw [if_neg (by rintro (h | h | h)
                             · exact hk0 h
                             · exact hkl h
                             · exact e h), if_neg e]
          obtain ⟨tb, htb⟩ : ∃ tb, d.testBit q = tb := ⟨_, rfl⟩
          rw [htb] at cq HNXb
          clear htb hk0 hkl
          cases tb with
          | true =>
            have HRN := HBAD.out (by rw [HNXb.out, if_pos rfl])
            subst HRN
            go_wp2_with fail
            go_ret2
            exact ⟨HBX.out, rfl⟩
          | false =>
          have HNX : Hid (H.stepD os ts ks (i + 1) = if H.firstB ts d q = true then (if H.goes s (ts.getD q H.noAc) = true then some (H.wth d q, (H.made s (ts.getD q H.noAc)).1) else none) else none) := by
            show _ = _
            rw [HNXb.out, if_neg (by decide)]
          clear HNXa HNXb
          have hdq : decide ((q : Int) < 0) = false := decide_eq_false (by omega)
          have hdq2 : decide (l ≤ q) = false := decide_eq_false (by omega)
          have HFB : Hid (H.firstB ts d q = (List.range l).all fun j => d.testBit j || (decide (j = q) || !((ts.getD j H.noAc).ahead (ts.getD q H.noAc)))) := by show _ = _; rw [← HTC.out]; rfl
          have HXARG : Hid ((Lit.int .i64 (ts.getD q H.noAc).arg).wf = true) := HARG.out _ (by simp [List.getD, show q < ts.length by rw [HTC.out]; exact hql])
          have HW1 : Hid (∀ y, Below wr.heap.size wr y → Below w.heap.size w y) := fun y hy => HB.out.trans (hy.mono HB.out.size)
          obtain ⟨W2, hW2⟩ : ∃ q, q = wr := ⟨_, rfl⟩
          subst hW2
          clear fq gq
          go_wp2_with fail
          clear cq ci
          go_loopg [12] l (fun r iv wq => ∃ (j : Nat), r = l - j ∧ iv = .int .i64 j ∧ j ≤ l ∧ Hid (∀ j', j' < j → (d.testBit j' || (decide (j' = q) || !((ts.getD j' H.noAc).ahead (ts.getD q H.noAc)))) = true) ∧ Hid (Below W2.heap.size W2 wq))
          case atStart => exact ⟨0, rfl, rfl, Nat.zero_le _, (fun j hj => by omega : ∀ j', j' < 0 → (d.testBit j' || (decide (j' = q) || !((ts.getD j' H.noAc).ahead (ts.getD q H.noAc)))) = true), Below.refl _ _⟩
          case round =>
            obtain ⟨j, rfl, rfl, hj, HAJ, HBJ⟩ := hrel
            by_cases hjl : j < l
            · have hji : (j : Int) < l := by omega
              have hj0 : 0 ≤ (j : Int) := by omega
              obtain ⟨cj, fj, gj⟩ := (HBR.out.below HBJ.out).at hjl
              have HFJ : Hid ((d.testBit j || (decide (j = q) || !((ts.getD j H.noAc).ahead (ts.getD q H.noAc)))) = true → ∀ j', j' < j + 1 → (d.testBit j' || (decide (j' = q) || !((ts.getD j' H.noAc).ahead (ts.getD q H.noAc)))) = true) := fun e j' hj' => by
                by_cases e2 : j' = j
                · subst e2; exact e
                · exact HAJ.out j' (by omega)
              have HNF : Hid ((d.testBit j || (decide (j = q) || !((ts.getD j H.noAc).ahead (ts.getD q H.noAc)))) = false → R = none) := fun e => HBAD.out (by rw [HNX.out, if_neg (by rw [HFB.out, A.all_range_no hjl e]; decide)])
              have HBJ2 : Hid (Below W2.heap.size W2 wr.drew) := HBJ.out.drew
              obtain ⟨tj, htj⟩ : ∃ tb, d.testBit j = tb := ⟨_, rfl⟩
              rw [htj] at cj HFJ HNF
              clear htj fj gj
              cases tj with
              | true =>
                have HN2 : Hid _ := HFJ.out rfl
                have HS : Hid (wr.drew.cell? ⟨g, j, none⟩ = some (.bool true)) := by show _ = _; rw [World.cell?_drew]; exact cj
                clear cj HFJ HNF
                go_wp2_with fail
                refine wp_region_held_drew (S := (fun w' : World => w'.cell? ⟨g, j, none⟩ = some (.bool true))) (by kernel_rfl) HS.out (fun hHeld => ?_)
                refine tk (i := 0) (v := ?_) (tA rfl) (by kernel_rfl) (fun _ _ _ h => h) (Or.inl ⟨by rfl, ?_⟩) (by assumption) ?_
                rotate_left
                · (intro w hSw; (try dsimp only at hSw); go_simp <;> with_reducible rfl)
                simp only [Act.put, List.setIfInBounds_toArray, List.set_cons_zero, List.set_cons_succ]
                refine tk (i := 1) (v := ?_) (tA rfl) (by kernel_rfl) (fun _ _ _ h => h) (Or.inl ⟨by rfl, ?_⟩) (by assumption) ?_
                rotate_left
                · (intro w hSw; (try dsimp only at hSw); go_simp <;> with_reducible rfl)
                simp only [Act.put, List.setIfInBounds_toArray, List.set_cons_zero, List.set_cons_succ]
                refine tk (i := 2) (v := ?_) (tA rfl) (by kernel_rfl) (fun _ _ _ h => h) (Or.inl ⟨by rfl, ?_⟩) (by assumption) ?_
                rotate_left
                · (intro w hSw; (try dsimp only at hSw); go_simp <;> with_reducible rfl)
                simp only [Act.put, List.setIfInBounds_toArray, List.set_cons_zero, List.set_cons_succ]
                refine tk (i := 3) (v := ?_) (tA rfl) (by kernel_rfl) (fun _ _ _ h => h) (Or.inl ⟨by rfl, ?_⟩) (by assumption) ?_
                rotate_left
                · (intro w hSw; (try dsimp only at hSw); go_simp <;> with_reducible rfl)
                simp only [Act.put, List.setIfInBounds_toArray, List.set_cons_zero, List.set_cons_succ]
                refine tk (i := 4) (v := ?_) (tA rfl) (by kernel_rfl) (fun _ _ _ h => h) (Or.inl ⟨by rfl, ?_⟩) (by assumption) ?_
                rotate_left
                · (intro w hSw; (try dsimp only at hSw); go_simp <;> with_reducible rfl)
                simp only [Act.put, List.setIfInBounds_toArray, List.set_cons_zero, List.set_cons_succ]
                refine tk (i := 5) (v := ?_) (tA rfl) (by kernel_rfl) (fun _ _ _ h => h) (Or.inl ⟨by rfl, ?_⟩) (by assumption) ?_
                rotate_left
                · (intro w hSw; (try dsimp only at hSw); go_simp <;> with_reducible rfl)
                simp only [Act.put, List.setIfInBounds_toArray, List.set_cons_zero, List.set_cons_succ]
                refine tk (i := 6) (v := undef) (tA rfl) (by kernel_rfl) (fun _ _ _ h => h) (Or.inr ⟨by rfl, rfl⟩) (by assumption) ?_
                simp only [Act.put, List.setIfInBounds_toArray, List.set_cons_zero, List.set_cons_succ]
                refine tk (i := 7) (v := undef) (tA rfl) (by kernel_rfl) (fun _ _ _ h => h) (Or.inr ⟨by rfl, rfl⟩) (by assumption) ?_
                simp only [Act.put, List.setIfInBounds_toArray, List.set_cons_zero, List.set_cons_succ]
                refine tk (i := 8) (v := undef) (tA rfl) (by kernel_rfl) (fun _ _ _ h => h) (Or.inr ⟨by rfl, rfl⟩) (by assumption) ?_
                simp only [Act.put, List.setIfInBounds_toArray, List.set_cons_zero, List.set_cons_succ]
                refine tk (i := 9) (v := ?_) (tA rfl) (by kernel_rfl) (fun _ _ _ h => h) (Or.inl ⟨by rfl, ?_⟩) (by assumption) ?_
                rotate_left
                · (intro w hSw; (try dsimp only at hSw); go_simp <;> with_reducible rfl)
                simp only [Act.put, List.setIfInBounds_toArray, List.set_cons_zero, List.set_cons_succ]
                refine tk (i := 10) (v := ?_) (tA rfl) (by kernel_rfl) (fun _ _ _ h => h) (Or.inl ⟨by rfl, ?_⟩) (by assumption) ?_
                rotate_left
                · (intro w hSw; (try dsimp only at hSw); go_simp <;> with_reducible rfl)
                simp only [Act.put, List.setIfInBounds_toArray, List.set_cons_zero, List.set_cons_succ]
                refine tk (i := 11) (v := undef) (tA rfl) (by kernel_rfl) (fun _ _ _ h => h) (Or.inr ⟨by rfl, rfl⟩) (by assumption) ?_
                simp only [Act.put, List.setIfInBounds_toArray, List.set_cons_zero, List.set_cons_succ]
                refine tk (i := 12) (v := undef) (tA rfl) (by kernel_rfl) (fun _ _ _ h => h) (Or.inr ⟨by rfl, rfl⟩) (by assumption) ?_
                simp only [Act.put, List.setIfInBounds_toArray, List.set_cons_zero, List.set_cons_succ]
                refine tk (i := 13) (v := undef) (tA rfl) (by kernel_rfl) (fun _ _ _ h => h) (Or.inr ⟨by rfl, rfl⟩) (by assumption) ?_
                simp only [Act.put, List.setIfInBounds_toArray, List.set_cons_zero, List.set_cons_succ]
                refine tk (i := 14) (v := undef) (tA rfl) (by kernel_rfl) (fun _ _ _ h => h) (Or.inr ⟨by rfl, rfl⟩) (by assumption) ?_
                simp only [Act.put, List.setIfInBounds_toArray, List.set_cons_zero, List.set_cons_succ]
                refine tk (i := 15) (v := undef) (tA rfl) (by kernel_rfl) (fun _ _ _ h => h) (Or.inr ⟨by rfl, rfl⟩) (by assumption) ?_
                simp only [Act.put, List.setIfInBounds_toArray, List.set_cons_zero, List.set_cons_succ]
                refine tk (i := 16) (v := undef) (tA rfl) (by kernel_rfl) (fun _ _ _ h => h) (Or.inr ⟨by rfl, rfl⟩) (by assumption) ?_
                simp only [Act.put, List.setIfInBounds_toArray, List.set_cons_zero, List.set_cons_succ]
                refine tk (i := 17) (v := undef) (tA rfl) (by kernel_rfl) (fun _ _ _ h => h) (Or.inr ⟨by rfl, rfl⟩) (by assumption) ?_
                simp only [Act.put, List.setIfInBounds_toArray, List.set_cons_zero, List.set_cons_succ]
                refine tk (i := 18) (v := undef) (tA rfl) (by kernel_rfl) (fun _ _ _ h => h) (Or.inr ⟨by rfl, rfl⟩) (by assumption) ?_
                simp only [Act.put, List.setIfInBounds_toArray, List.set_cons_zero, List.set_cons_succ]
                refine tk (i := 19) (v := undef) (tA rfl) (by kernel_rfl) (fun _ _ _ h => h) (Or.inr ⟨by rfl, rfl⟩) (by assumption) ?_
                simp only [Act.put, List.setIfInBounds_toArray, List.set_cons_zero, List.set_cons_succ]
                refine tk (i := 20) (v := ?_) (tA rfl) (by kernel_rfl) (fun _ _ _ h => h) (Or.inl ⟨by rfl, ?_⟩) (by assumption) ?_
                rotate_left
                · (intro w hSw; (try dsimp only at hSw); go_simp <;> with_reducible rfl)
                simp only [Act.put, List.setIfInBounds_toArray, List.set_cons_zero, List.set_cons_succ]
                refine wpAnyH_done (by kernel_rfl) ?_ _
                clear hHeld
                go_wp2_with fail
                go_roundg (l - (j + 1))
                case measure => omega
                case rel => exact ⟨j + 1, rfl, by go_num, by omega, HN2, HBJ2.out⟩
              | false =>
              by_cases hjq : j = q
              · have HN2 : Hid _ := HFJ.out (by rw [decide_eq_true hjq]; rfl)
                have HS : Hid (wr.drew.cell? ⟨g, j, none⟩ = some (.bool false)) := by show _ = _; rw [World.cell?_drew]; exact cj
                have e1 : ((j : Int) != (q : Int)) = false := by rw [hjq]; simp
                clear cj HFJ HNF hjq
                go_wp2_with fail
                refine wp_region_held_drew (S := (fun w' : World => w'.cell? ⟨g, j, none⟩ = some (.bool false))) (by kernel_rfl) HS.out (fun hHeld => ?_)
                refine tk (i := 0) (v := ?_) (tA rfl) (by kernel_rfl) (fun _ _ _ h => h) (Or.inl ⟨by rfl, ?_⟩) (by assumption) ?_
                rotate_left
                · (intro w hSw; (try dsimp only at hSw); go_simp <;> with_reducible rfl)
                simp only [Act.put, List.setIfInBounds_toArray, List.set_cons_zero, List.set_cons_succ]
                refine tk (i := 1) (v := ?_) (tA rfl) (by kernel_rfl) (fun _ _ _ h => h) (Or.inl ⟨by rfl, ?_⟩) (by assumption) ?_
                rotate_left
                · (intro w hSw; (try dsimp only at hSw); go_simp <;> with_reducible rfl)
                simp only [Act.put, List.setIfInBounds_toArray, List.set_cons_zero, List.set_cons_succ]
                refine tk (i := 2) (v := ?_) (tA rfl) (by kernel_rfl) (fun _ _ _ h => h) (Or.inl ⟨by rfl, ?_⟩) (by assumption) ?_
                rotate_left
                · (intro w hSw; (try dsimp only at hSw); go_simp <;> with_reducible rfl)
                simp only [Act.put, List.setIfInBounds_toArray, List.set_cons_zero, List.set_cons_succ]
                refine tk (i := 3) (v := ?_) (tA rfl) (by kernel_rfl) (fun _ _ _ h => h) (Or.inl ⟨by rfl, ?_⟩) (by assumption) ?_
                rotate_left
                · (intro w hSw; (try dsimp only at hSw); go_simp <;> with_reducible rfl)
                simp only [Act.put, List.setIfInBounds_toArray, List.set_cons_zero, List.set_cons_succ]
                refine tk (i := 4) (v := ?_) (tA rfl) (by kernel_rfl) (fun _ _ _ h => h) (Or.inl ⟨by rfl, ?_⟩) (by assumption) ?_
                rotate_left
                · (intro w hSw; (try dsimp only at hSw); go_simp <;> with_reducible rfl)
                simp only [Act.put, List.setIfInBounds_toArray, List.set_cons_zero, List.set_cons_succ]
                refine tk (i := 5) (v := ?_) (tA rfl) (by kernel_rfl) (fun _ _ _ h => h) (Or.inl ⟨by rfl, ?_⟩) (by assumption) ?_
                rotate_left
                · (intro w hSw; (try dsimp only at hSw); go_simp <;> with_reducible rfl)
                simp only [Act.put, List.setIfInBounds_toArray, List.set_cons_zero, List.set_cons_succ]
                refine tk (i := 6) (v := ?_) (tA rfl) (by kernel_rfl) (fun _ _ _ h => h) (Or.inl ⟨by rfl, ?_⟩) (by assumption) ?_
                rotate_left
                · (intro w hSw; (try dsimp only at hSw); go_simp <;> with_reducible rfl)
                simp only [Act.put, List.setIfInBounds_toArray, List.set_cons_zero, List.set_cons_succ]
                refine tk (i := 7) (v := ?_) (tA rfl) (by kernel_rfl) (fun _ _ _ h => h) (Or.inl ⟨by rfl, ?_⟩) (by assumption) ?_
                rotate_left
                · (intro w hSw; (try dsimp only at hSw); go_simp <;> with_reducible rfl)
                simp only [Act.put, List.setIfInBounds_toArray, List.set_cons_zero, List.set_cons_succ]
                refine tk (i := 8) (v := ?_) (tA rfl) (by kernel_rfl) (fun _ _ _ h => h) (Or.inl ⟨by rfl, ?_⟩) (by assumption) ?_
                rotate_left
                · (intro w hSw; (try dsimp only at hSw); go_simp <;> with_reducible rfl)
                simp only [Act.put, List.setIfInBounds_toArray, List.set_cons_zero, List.set_cons_succ]
                refine tk (i := 9) (v := ?_) (tA rfl) (by kernel_rfl) (fun _ _ _ h => h) (Or.inl ⟨by rfl, ?_⟩) (by assumption) ?_
                rotate_left
                · (intro w hSw; (try dsimp only at hSw); go_simp <;> with_reducible rfl)
                simp only [Act.put, List.setIfInBounds_toArray, List.set_cons_zero, List.set_cons_succ]
                refine tk (i := 10) (v := ?_) (tA rfl) (by kernel_rfl) (fun _ _ _ h => h) (Or.inl ⟨by rfl, ?_⟩) (by assumption) ?_
                rotate_left
                · (intro w hSw; (try dsimp only at hSw); go_simp <;> with_reducible rfl)
                simp only [Act.put, List.setIfInBounds_toArray, List.set_cons_zero, List.set_cons_succ]
                refine tk (i := 11) (v := undef) (tA rfl) (by kernel_rfl) (fun _ _ _ h => h) (Or.inr ⟨by rfl, rfl⟩) (by assumption) ?_
                simp only [Act.put, List.setIfInBounds_toArray, List.set_cons_zero, List.set_cons_succ]
                refine tk (i := 12) (v := undef) (tA rfl) (by kernel_rfl) (fun _ _ _ h => h) (Or.inr ⟨by rfl, rfl⟩) (by assumption) ?_
                simp only [Act.put, List.setIfInBounds_toArray, List.set_cons_zero, List.set_cons_succ]
                refine tk (i := 13) (v := undef) (tA rfl) (by kernel_rfl) (fun _ _ _ h => h) (Or.inr ⟨by rfl, rfl⟩) (by assumption) ?_
                simp only [Act.put, List.setIfInBounds_toArray, List.set_cons_zero, List.set_cons_succ]
                refine tk (i := 14) (v := undef) (tA rfl) (by kernel_rfl) (fun _ _ _ h => h) (Or.inr ⟨by rfl, rfl⟩) (by assumption) ?_
                simp only [Act.put, List.setIfInBounds_toArray, List.set_cons_zero, List.set_cons_succ]
                refine tk (i := 15) (v := undef) (tA rfl) (by kernel_rfl) (fun _ _ _ h => h) (Or.inr ⟨by rfl, rfl⟩) (by assumption) ?_
                simp only [Act.put, List.setIfInBounds_toArray, List.set_cons_zero, List.set_cons_succ]
                refine tk (i := 16) (v := undef) (tA rfl) (by kernel_rfl) (fun _ _ _ h => h) (Or.inr ⟨by rfl, rfl⟩) (by assumption) ?_
                simp only [Act.put, List.setIfInBounds_toArray, List.set_cons_zero, List.set_cons_succ]
                refine tk (i := 17) (v := undef) (tA rfl) (by kernel_rfl) (fun _ _ _ h => h) (Or.inr ⟨by rfl, rfl⟩) (by assumption) ?_
                simp only [Act.put, List.setIfInBounds_toArray, List.set_cons_zero, List.set_cons_succ]
                refine tk (i := 18) (v := undef) (tA rfl) (by kernel_rfl) (fun _ _ _ h => h) (Or.inr ⟨by rfl, rfl⟩) (by assumption) ?_
                simp only [Act.put, List.setIfInBounds_toArray, List.set_cons_zero, List.set_cons_succ]
                refine tk (i := 19) (v := undef) (tA rfl) (by kernel_rfl) (fun _ _ _ h => h) (Or.inr ⟨by rfl, rfl⟩) (by assumption) ?_
                simp only [Act.put, List.setIfInBounds_toArray, List.set_cons_zero, List.set_cons_succ]
                refine tk (i := 20) (v := ?_) (tA rfl) (by kernel_rfl) (fun _ _ _ h => h) (Or.inl ⟨by rfl, ?_⟩) (by assumption) ?_
                rotate_left
                · (intro w hSw; (try dsimp only at hSw); go_simp <;> with_reducible rfl)
                simp only [Act.put, List.setIfInBounds_toArray, List.set_cons_zero, List.set_cons_succ]
                refine wpAnyH_done (by kernel_rfl) ?_ _
                clear hHeld
                go_wp2_with fail
                go_roundg (l - (j + 1))
                case measure => omega
                case rel => exact ⟨j + 1, rfl, by go_num, by omega, HN2, HBJ2.out⟩
              have e1 : ((j : Int) != (q : Int)) = true := by have : ¬ (j : Int) = q := by omega
                                                              simpa using this
              rw [decide_eq_false hjq] at HFJ HNF
              clear hjq
              obtain ⟨b, off, hab, p0, p1, p2, p3, p4, p5, p6⟩ := (HA.out.below (HW1.out _ HBJ.out)).at hjl
              subst hab
              obtain ⟨b', off', e, q0, q1, q2, q3, q4, q5, q6⟩ := (HA.out.below (HW1.out _ HBJ.out)).at hql
              cases e
              have hah := rahead_any (ts.getD j H.noAc) (ts.getD q H.noAc) wr.drew
              obtain ⟨r, hr⟩ : ∃ r, (ts.getD j H.noAc).ahead (ts.getD q H.noAc) = r := ⟨_, rfl⟩
              rw [hr] at hah HFJ HNF
              clear hr
              obtain ⟨x, hx⟩ : ∃ x, ts.getD j H.noAc = x := ⟨_, rfl⟩
              obtain ⟨z, hz⟩ : ∃ x, ts.getD q H.noAc = x := ⟨_, rfl⟩
              rw [hx] at p0 p1 p2 p3 p4 p5 p6 hah
              rw [hz] at q0 q1 q2 q3 q4 q5 q6 hah
              clear hx hz
              have HS : Hid (wr.drew.cell? ⟨g, j, none⟩ = some (.bool false) ∧ (wr.drew.cell? ⟨b, off + j * 7, none⟩ = some (.int .i64 x.th) ∧ wr.drew.cell? ⟨b, off + j * 7 + 1, none⟩ = some (.int .i64 x.dd) ∧ wr.drew.cell? ⟨b, off + j * 7 + 2, none⟩ = some (.string x.nm) ∧ wr.drew.cell? ⟨b, off + j * 7 + 3, none⟩ = some (.int .i64 x.arg) ∧ wr.drew.cell? ⟨b, off + j * 7 + 4, none⟩ = some (.int .i64 x.call) ∧ wr.drew.cell? ⟨b, off + j * 7 + 5, none⟩ = some (.int .i64 x.back) ∧ wr.drew.cell? ⟨b, off + j * 7 + 6, none⟩ = some (.int .i64 x.ans)) ∧ wr.drew.cell? ⟨b, off + q * 7, none⟩ = some (.int .i64 z.th) ∧ wr.drew.cell? ⟨b, off + q * 7 + 1, none⟩ = some (.int .i64 z.dd) ∧ wr.drew.cell? ⟨b, off + q * 7 + 2, none⟩ = some (.string z.nm) ∧ wr.drew.cell? ⟨b, off + q * 7 + 3, none⟩ = some (.int .i64 z.arg) ∧ wr.drew.cell? ⟨b, off + q * 7 + 4, none⟩ = some (.int .i64 z.call) ∧ wr.drew.cell? ⟨b, off + q * 7 + 5, none⟩ = some (.int .i64 z.back) ∧ wr.drew.cell? ⟨b, off + q * 7 + 6, none⟩ = some (.int .i64 z.ans)) := by
                simp only [World.cell?_drew]
                exact ⟨cj, ⟨p0, p1, p2, p3, p4, p5, p6⟩, q0, q1, q2, q3, q4, q5, q6⟩
              have HKEEP : Hid (∀ y, Below wr.drew.heap.size wr.drew y → y.cell? ⟨g, j, none⟩ = some (.bool false) ∧ (y.cell? ⟨b, off + j * 7, none⟩ = some (.int .i64 x.th) ∧ y.cell? ⟨b, off + j * 7 + 1, none⟩ = some (.int .i64 x.dd) ∧ y.cell? ⟨b, off + j * 7 + 2, none⟩ = some (.string x.nm) ∧ y.cell? ⟨b, off + j * 7 + 3, none⟩ = some (.int .i64 x.arg) ∧ y.cell? ⟨b, off + j * 7 + 4, none⟩ = some (.int .i64 x.call) ∧ y.cell? ⟨b, off + j * 7 + 5, none⟩ = some (.int .i64 x.back) ∧ y.cell? ⟨b, off + j * 7 + 6, none⟩ = some (.int .i64 x.ans)) ∧ y.cell? ⟨b, off + q * 7, none⟩ = some (.int .i64 z.th) ∧ y.cell? ⟨b, off + q * 7 + 1, none⟩ = some (.int .i64 z.dd) ∧ y.cell? ⟨b, off + q * 7 + 2, none⟩ = some (.string z.nm) ∧ y.cell? ⟨b, off + q * 7 + 3, none⟩ = some (.int .i64 z.arg) ∧ y.cell? ⟨b, off + q * 7 + 4, none⟩ = some (.int .i64 z.call) ∧ y.cell? ⟨b, off + q * 7 + 5, none⟩ = some (.int .i64 z.back) ∧ y.cell? ⟨b, off + q * 7 + 6, none⟩ = some (.int .i64 z.ans)) := fun y hy => by
                obtain ⟨a8, ⟨a0, a1, a2, a3, a4, a5, a6⟩, a9, a10, a11, a12, a13, a14, a15⟩ := HS.out
                exact ⟨hcell_thru hy a8, ⟨hcell_thru hy a0, hcell_thru hy a1, hcell_thru hy a2, hcell_thru hy a3, hcell_thru hy a4, hcell_thru hy a5, hcell_thru hy a6⟩, hcell_thru hy a9, hcell_thru hy a10, hcell_thru hy a11, hcell_thru hy a12, hcell_thru hy a13, hcell_thru hy a14, hcell_thru hy a15⟩
              clear p0 p1 p2 p3 p4 p5 p6 q0 q1 q2 q3 q4 q5 q6 cj HBJ2
              obtain ⟨th, dd, nm, arg, call, back, ans⟩ := x
              obtain ⟨th2, dd2, nm2, arg2, call2, back2, ans2⟩ := z
              unfold H.Ac.v at hah
              simp only at hah HS HKEEP
              go_wp2_with fail
              refine wp_region_held_drew (S := (fun w' : World => w'.cell? ⟨g, j, none⟩ = some (.bool false) ∧ (w'.cell? ⟨b, off + j * 7, none⟩ = some (.int .i64 th) ∧ w'.cell? ⟨b, off + j * 7 + 1, none⟩ = some (.int .i64 dd) ∧ w'.cell? ⟨b, off + j * 7 + 2, none⟩ = some (.string nm) ∧ w'.cell? ⟨b, off + j * 7 + 3, none⟩ = some (.int .i64 arg) ∧ w'.cell? ⟨b, off + j * 7 + 4, none⟩ = some (.int .i64 call) ∧ w'.cell? ⟨b, off + j * 7 + 5, none⟩ = some (.int .i64 back) ∧ w'.cell? ⟨b, off + j * 7 + 6, none⟩ = some (.int .i64 ans)) ∧ w'.cell? ⟨b, off + q * 7, none⟩ = some (.int .i64 th2) ∧ w'.cell? ⟨b, off + q * 7 + 1, none⟩ = some (.int .i64 dd2) ∧ w'.cell? ⟨b, off + q * 7 + 2, none⟩ = some (.string nm2) ∧ w'.cell? ⟨b, off + q * 7 + 3, none⟩ = some (.int .i64 arg2) ∧ w'.cell? ⟨b, off + q * 7 + 4, none⟩ = some (.int .i64 call2) ∧ w'.cell? ⟨b, off + q * 7 + 5, none⟩ = some (.int .i64 back2) ∧ w'.cell? ⟨b, off + q * 7 + 6, none⟩ = some (.int .i64 ans2))) (by kernel_rfl) HS.out (fun hHeld => ?_)
              refine tk (i := 0) (v := ?_) (tA rfl) (by kernel_rfl) (fun _ _ _ h => h) (Or.inl ⟨by rfl, ?_⟩) (by assumption) ?_
              rotate_left
              · (intro w hSw; (try dsimp only at hSw); go_simp <;> with_reducible rfl)
              simp only [Act.put, List.setIfInBounds_toArray, List.set_cons_zero, List.set_cons_succ]
              refine tk (i := 1) (v := ?_) (tA rfl) (by kernel_rfl) (fun _ _ _ h => h) (Or.inl ⟨by rfl, ?_⟩) (by assumption) ?_
              rotate_left
              · (intro w hSw; (try dsimp only at hSw); go_simp <;> with_reducible rfl)
              simp only [Act.put, List.setIfInBounds_toArray, List.set_cons_zero, List.set_cons_succ]
              refine tk (i := 2) (v := ?_) (tA rfl) (by kernel_rfl) (fun _ _ _ h => h) (Or.inl ⟨by rfl, ?_⟩) (by assumption) ?_
              rotate_left
              · (intro w hSw; (try dsimp only at hSw); go_simp <;> with_reducible rfl)
              simp only [Act.put, List.setIfInBounds_toArray, List.set_cons_zero, List.set_cons_succ]
              refine tk (i := 3) (v := ?_) (tA rfl) (by kernel_rfl) (fun _ _ _ h => h) (Or.inl ⟨by rfl, ?_⟩) (by assumption) ?_
              rotate_left
              · (intro w hSw; (try dsimp only at hSw); go_simp <;> with_reducible rfl)
              simp only [Act.put, List.setIfInBounds_toArray, List.set_cons_zero, List.set_cons_succ]
              refine tk (i := 4) (v := ?_) (tA rfl) (by kernel_rfl) (fun _ _ _ h => h) (Or.inl ⟨by rfl, ?_⟩) (by assumption) ?_
              rotate_left
              · (intro w hSw; (try dsimp only at hSw); go_simp <;> with_reducible rfl)
              simp only [Act.put, List.setIfInBounds_toArray, List.set_cons_zero, List.set_cons_succ]
              refine tk (i := 5) (v := ?_) (tA rfl) (by kernel_rfl) (fun _ _ _ h => h) (Or.inl ⟨by rfl, ?_⟩) (by assumption) ?_
              rotate_left
              · (intro w hSw; (try dsimp only at hSw); go_simp <;> with_reducible rfl)
              simp only [Act.put, List.setIfInBounds_toArray, List.set_cons_zero, List.set_cons_succ]
              refine tk (i := 6) (v := ?_) (tA rfl) (by kernel_rfl) (fun _ _ _ h => h) (Or.inl ⟨by rfl, ?_⟩) (by assumption) ?_
              rotate_left
              · (intro w hSw; (try dsimp only at hSw); go_simp <;> with_reducible rfl)
              simp only [Act.put, List.setIfInBounds_toArray, List.set_cons_zero, List.set_cons_succ]
              refine tk (i := 7) (v := ?_) (tA rfl) (by kernel_rfl) (fun _ _ _ h => h) (Or.inl ⟨by rfl, ?_⟩) (by assumption) ?_
              rotate_left
              · (intro w hSw; (try dsimp only at hSw); go_simp <;> with_reducible rfl)
              simp only [Act.put, List.setIfInBounds_toArray, List.set_cons_zero, List.set_cons_succ]
              refine tk (i := 8) (v := ?_) (tA rfl) (by kernel_rfl) (fun _ _ _ h => h) (Or.inl ⟨by rfl, ?_⟩) (by assumption) ?_
              rotate_left
              · (intro w hSw; (try dsimp only at hSw); go_simp <;> with_reducible rfl)
              simp only [Act.put, List.setIfInBounds_toArray, List.set_cons_zero, List.set_cons_succ]
              refine tk (i := 9) (v := ?_) (tA rfl) (by kernel_rfl) (fun _ _ _ h => h) (Or.inl ⟨by rfl, ?_⟩) (by assumption) ?_
              rotate_left
              · (intro w hSw; (try dsimp only at hSw); go_simp <;> with_reducible rfl)
              simp only [Act.put, List.setIfInBounds_toArray, List.set_cons_zero, List.set_cons_succ]
              refine tk (i := 10) (v := ?_) (tA rfl) (by kernel_rfl) (fun _ _ _ h => h) (Or.inl ⟨by rfl, ?_⟩) (by assumption) ?_
              rotate_left
              · (intro w hSw; (try dsimp only at hSw); go_simp <;> with_reducible rfl)
              simp only [Act.put, List.setIfInBounds_toArray, List.set_cons_zero, List.set_cons_succ]
              refine tk (i := 11) (v := ?_) (tA rfl) (by kernel_rfl) (fun _ _ _ h => h) (Or.inl ⟨by rfl, ?_⟩) (by assumption) ?_
              rotate_left
              · (intro w hSw; (try dsimp only at hSw); go_simp <;> with_reducible rfl)
              simp only [Act.put, List.setIfInBounds_toArray, List.set_cons_zero, List.set_cons_succ]
              refine tk (i := 12) (v := ?_) (tA rfl) (by kernel_rfl) (fun _ _ _ h => h) (Or.inl ⟨by rfl, ?_⟩) (by assumption) ?_
              rotate_left
              · (intro w hSw; (try dsimp only at hSw); go_simp <;> with_reducible rfl)
              simp only [Act.put, List.setIfInBounds_toArray, List.set_cons_zero, List.set_cons_succ]
              refine tk (i := 13) (v := ?_) (tA rfl) (by kernel_rfl) (fun _ _ _ h => h) (Or.inl ⟨by rfl, ?_⟩) (by assumption) ?_
              rotate_left
              · (intro w hSw; (try dsimp only at hSw); go_simp <;> with_reducible rfl)
              simp only [Act.put, List.setIfInBounds_toArray, List.set_cons_zero, List.set_cons_succ]
              refine tk (i := 14) (v := ?_) (tA rfl) (by kernel_rfl) (fun _ _ _ h => h) (Or.inl ⟨by rfl, ?_⟩) (by assumption) ?_
              rotate_left
              · (intro w hSw; (try dsimp only at hSw); go_simp <;> with_reducible rfl)
              simp only [Act.put, List.setIfInBounds_toArray, List.set_cons_zero, List.set_cons_succ]
              refine tk (i := 15) (v := ?_) (tA rfl) (by kernel_rfl) (fun _ _ _ h => h) (Or.inl ⟨by rfl, ?_⟩) (by assumption) ?_
              rotate_left
              · (intro w hSw; (try dsimp only at hSw); go_simp <;> with_reducible rfl)
              simp only [Act.put, List.setIfInBounds_toArray, List.set_cons_zero, List.set_cons_succ]
              refine tk (i := 16) (v := ?_) (tA rfl) (by kernel_rfl) (fun _ _ _ h => h) (Or.inl ⟨by rfl, ?_⟩) (by assumption) ?_
              rotate_left
              · (intro w hSw; (try dsimp only at hSw); go_simp <;> with_reducible rfl)
              simp only [Act.put, List.setIfInBounds_toArray, List.set_cons_zero, List.set_cons_succ]
              refine tk (i := 17) (v := ?_) (tA rfl) (by kernel_rfl) (fun _ _ _ h => h) (Or.inl ⟨by rfl, ?_⟩) (by assumption) ?_
              rotate_left
              · (intro w hSw; (try dsimp only at hSw); go_simp <;> with_reducible rfl)
              simp only [Act.put, List.setIfInBounds_toArray, List.set_cons_zero, List.set_cons_succ]
              refine tk (i := 18) (v := ?_) (tA rfl) (by kernel_rfl) (fun _ _ _ h => h) (Or.inl ⟨by rfl, ?_⟩) (by assumption) ?_
              rotate_left
              · (intro w hSw; (try dsimp only at hSw); go_simp <;> with_reducible rfl)
              simp only [Act.put, List.setIfInBounds_toArray, List.set_cons_zero, List.set_cons_succ]
              refine wpAnyH_ready (rs := [19]) (by kernel_rfl) (by simp) ?_
              refine AllReadyH.cons (tA rfl) (fun K hK => ?_) AllReadyH.nil
              go_simp
              refine hah.mono ?_
              rintro e y ⟨rfl, hy⟩
              have HY : Hid (Below wr.heap.size wr y) := (Below.refl _ _).drew.trans hy
              have HS2 : Hid _ := HKEEP.out y hy
              clear hy hah
              try go_wp2_with fail
              refine hK.out _ _ HS2.out (fun hHeld => ?_)
              clear hK K
              try simp only [Act.put, List.setIfInBounds_toArray, List.set_cons_zero, List.set_cons_succ]
              refine tk (i := 20) (v := ?_) (tA rfl) (by kernel_rfl) (fun _ _ _ h => h) (Or.inl ⟨by rfl, ?_⟩) (by assumption) ?_
              rotate_left
              · (intro w hSw; (try dsimp only at hSw); go_simp <;> with_reducible rfl)
              simp only [Act.put, List.setIfInBounds_toArray, List.set_cons_zero, List.set_cons_succ]
              refine wpAnyH_done (by kernel_rfl) ?_ _
              clear hHeld
              have HBJ2 : Hid (Below W2.heap.size W2 y) := HBJ.out.trans (HY.out.mono HBJ.out.size)
              cases r with
              | true =>
                have HRN := HNF.out rfl
                subst HRN
                have HBX : Hid (Below w.heap.size w y) := HW1.out _ HBJ2.out
                clear HFJ HNF
                go_wp2_with fail
                go_ret2
                exact ⟨HBX.out, rfl⟩
              | false =>
                have HN2 : Hid _ := HFJ.out rfl
                clear HFJ HNF
                go_wp2_with fail
                go_roundg (l - (j + 1))
                case measure => omega
                case rel => exact ⟨j + 1, rfl, by go_num, by omega, HN2, HBJ2.out⟩
            · have hjj2 : j = l := by omega
              subst hjj2
              have hjj : ¬ (j : Int) < j := by omega
              have HNX2 : Hid (H.stepD os ts ks (i + 1) = if H.goes s (ts.getD q H.noAc) = true then some (H.wth d q, (H.made s (ts.getD q H.noAc)).1) else none) := by show _ = _; rw [HNX.out, if_pos (by rw [HFB.out, A.all_range_yes HAJ.out])]
              have HBW : Hid (Below w.heap.size w wr) := HW1.out _ HBJ.out
              have HSTW : Hid (Stay (g + 1) wr a' lx c' s) := HSTAY.out.thru HBJ.out
              have HBRW : Hid (BR y2 wr g j d) := HBR.out.below HBJ.out
              obtain ⟨b, off, hab, p0, p1, p2, p3, p4, p5, p6⟩ := (HA.out.below HBW.out).at hql
              subst hab
              have hdo := rhdo_any HSTW.out.ats hlo (may_items HMAY.out) (ts.getD q H.noAc) HXARG.out
              have HMM : Hid (mayAll (H.made s (ts.getD q H.noAc)).1 = true) := H.made_may HMAY.out _
              obtain ⟨x, hx⟩ : ∃ x, ts.getD q H.noAc = x := ⟨_, rfl⟩
              rw [hx] at p0 p1 p2 p3 p4 p5 p6 hdo HNX2 HMM
              clear hx
              obtain ⟨s2, hs2⟩ : ∃ s2, (H.made s x).1 = s2 := ⟨_, rfl⟩
              obtain ⟨gs, hgs⟩ : ∃ gs, H.goes s x = gs := ⟨_, rfl⟩
              rw [hs2, hgs] at hdo HNX2
              rw [hs2] at HMM
              clear hs2 hgs
              unfold H.Ac.v at hdo
              go_wp2_with fail
              refine hdo.mono ?_
              rintro e y3 ⟨a3, c3, rfl, hst3, hb3⟩
              have HB3 : Hid (Below wr.heap.size wr y3) := hb3
              have HGW : Hid (g + 1 ≤ wr.heap.size) := (HBRW.out.row.lt g rfl).2
              have HST3 : Hid (Stay (g + 1) y3 a3 lx c3 s2) := A.Stay.base hst3 HGW.out
              have HBR3 : Hid (BR y2 y3 g j d) := HBRW.out.below hb3
              have HBX : Hid (Below w.heap.size w y3) := HBW.out.trans (hb3.mono HBW.out.size)
              clear hdo hst3 hb3 p0 p1 p2 p3 p4 p5 p6
              cases gs with
              | false =>
                have HRN := HBAD.out (by rw [HNX2.out]; rfl)
                subst HRN
                go_wp2_with fail
                go_ret2
                exact ⟨HBX.out, rfl⟩
              | true =>
                obtain ⟨cq, fq, gq⟩ := HBR3.out.at hql
                have HN4 : Hid (H.stepD os ts ks (i + 1) = some (H.wth d q, s2)) := by show _ = _; rw [HNX2.out]; rfl
                have HST4 : Hid (Stay (g + 1) (y3.setCell ⟨g, q, none⟩ (.bool true)) a3 lx c3 s2) := HST3.out.setLow (Nat.lt_succ_self _) _
                have HBR4 : Hid (BR y2 (y3.setCell ⟨g, q, none⟩ (.bool true)) g j (H.wth d q)) := HBR3.out.store hql
                have HBX4 : Hid (Below w.heap.size w (y3.setCell ⟨g, q, none⟩ (.bool true))) := HBX.out.setCell HG.out _
                go_wp2_with fail
                go_roundg (m - (i + 1))
                case measure => omega
                case rel => exact ⟨i + 1, H.wth d q, s2, a3, c3, rfl, rfl, by go_num, by omega, HN4, HMM, HST4, HBR4, HBX4⟩
        · have hii2 : i = m := by omega
          subst hii2
          have hii : ¬ (i : Int) < i := by omega
          have HRB : Hid (R = if H.backB ts d = true then some s else none) := by show _ = _; rw [HRS.out, HSTEP.out]
          have HBB : Hid (H.backB ts d = (List.range l).all fun k => !((ts.getD k H.noAc).isBack) || d.testBit k) := by show _ = _; rw [← HTC.out]; rfl
          have HW1 : Hid (∀ y, Below wr.heap.size wr y → Below w.heap.size w y) := fun y hy => HB.out.trans (hy.mono HB.out.size)
          obtain ⟨W2, hW2⟩ : ∃ q, q = wr := ⟨_, rfl⟩
          subst hW2
          go_wp2_with fail
          go_loopg [15] l (fun r iv wq => ∃ (j : Nat), r = l - j ∧ iv = .int .i64 j ∧ j ≤ l ∧ wq = W2 ∧ Hid (∀ k, k < j → (!((ts.getD k H.noAc).isBack) || d.testBit k) = true))
          case atStart => exact ⟨0, rfl, rfl, Nat.zero_le _, rfl, (fun j hj => by omega : ∀ k, k < 0 → (!((ts.getD k H.noAc).isBack) || d.testBit k) = true)⟩
          case round =>
            obtain ⟨j, rfl, rfl, hj, hwr, HAJ⟩ := hrel
            subst hwr
            by_cases hjl : j < l
            · have hji : (j : Int) < l := by omega
              have hj0 : 0 ≤ (j : Int) := by omega
              obtain ⟨cj, fj, gj⟩ := HBR.out.at hjl
              obtain ⟨b, off, hab, p0, p1, p2, p3, p4, p5, p6⟩ := (HA.out.below HB.out).at hjl
              subst hab
              have HBK : Hid ((ts.getD j H.noAc).isBack = decide (0 ≤ (ts.getD j H.noAc).back)) := rfl
              have HFJ : Hid ((!((ts.getD j H.noAc).isBack) || d.testBit j) = true → ∀ k, k < j + 1 → (!((ts.getD k H.noAc).isBack) || d.testBit k) = true) := fun e j' hj' => by
                by_cases e2 : j' = j
                · subst e2; exact e
                · exact HAJ.out j' (by omega)
              have HNF : Hid ((!((ts.getD j H.noAc).isBack) || d.testBit j) = false → R = none) := fun e => by rw [HRB.out, if_neg (by rw [HBB.out, A.all_range_no hjl e]; decide)]
              obtain ⟨bk, hbk⟩ : ∃ x, (ts.getD j H.noAc).back = x := ⟨_, rfl⟩
              obtain ⟨tj, htj⟩ : ∃ tb, d.testBit j = tb := ⟨_, rfl⟩
              rw [hbk] at p5 HBK
              rw [htj] at cj
              have HFJ : Hid ((!(decide (0 ≤ bk)) || tj) = true → ∀ k, k < j + 1 → (!((ts.getD k H.noAc).isBack) || d.testBit k) = true) := by rw [← htj, ← HBK.out]; exact HFJ
              have HNF : Hid ((!(decide (0 ≤ bk)) || tj) = false → R = none) := by rw [← htj, ← HBK.out]; exact HNF
              have HBX : Hid (Below w.heap.size w wr) := HB
              clear htj hbk fj gj p0 p1 p2 p3 p4 p6 HBK
              by_cases hb0 : 0 ≤ bk
              · rw [decide_eq_true hb0] at HFJ HNF
                cases tj with
                | true =>
                  have HN2 : Hid _ := HFJ.out rfl
                  go_wp2_with fail
                  go_roundg (l - (j + 1))
                  case measure => omega
                  case rel => exact ⟨j + 1, rfl, by go_num, by omega, rfl, HN2⟩
                | false =>
                  have HRN := HNF.out rfl
                  subst HRN
                  go_wp2_with fail
                  go_ret2
                  exact ⟨HBX.out, rfl⟩
              · rw [decide_eq_false hb0] at HFJ HNF
                have HN2 : Hid _ := HFJ.out rfl
                go_wp2_with fail
                go_roundg (l - (j + 1))
                case measure => omega
                case rel => exact ⟨j + 1, rfl, by go_num, by omega, rfl, HN2⟩
            · have hjj2 : j = l := by omega
              subst hjj2
              have hjj : ¬ (j : Int) < j := by omega
              have HRT : R = some s := by rw [HRB.out, if_pos (by rw [HBB.out, A.all_range_yes HAJ.out])]
              subst HRT
              go_wp2_with fail
              go_ret2
              exact ⟨HB.out, a', c', rfl, A.Stay.base HSTAY.out (by have := HG.out; omega)⟩
end Go.Proofs.Ytafdjmccgijmnaa
