/- The document's behind. -/
import Derived.Test.YtljgpngbkmembaaDoorAMAa
import Derived.Test.YtljgpngbkmembaaDoorProg
import Derived.RangeFuncNested
import Derived.RangeFuncBound
import Derived.RangeFuncCalls
import Derived.RangeFuncLeaves
import Derived.Below
namespace Go.Proofs.YtljgpngbkmembaaDoor
open Go.RowKit Go.Maps
set_option linter.unusedVariables false
set_option linter.unusedSimpArgs false
namespace F
/-- The places that may come behind one, as numbers. -/
def nxz (o : Op) (i : Nat) : List Int := if falls o = true then (if leads o = true then [(i : Int) + 1, o.dest] else [(i : Int) + 1]) else (if leads o = true then [o.dest] else [])
theorem nxz_nxt {f : Fn} (h : mayF f = true) {i : Nat} (hi : i < f.code.length) : nxz (at_ f i) i = (nxt (at_ f i) i).map Int.ofNat := by
  have ho := may_op h hi
  have hd : leads (at_ f i) = true → 0 ≤ (at_ f i).dest := fun hl => by
    unfold leads at hl
    unfold opOk at ho
    rw [Bool.or_eq_true, decide_eq_true_eq, decide_eq_true_eq] at hl
    rcases hl with e | e <;> simp [e, inT] at ho <;> omega
  unfold nxz nxt
  by_cases h1 : falls (at_ f i) = true
  · by_cases h2 : leads (at_ f i) = true
    · simp [h1, h2]; have := hd h2; omega
    · simp [h1, h2]
  · by_cases h2 : leads (at_ f i) = true
    · simp [h1, h2]; have := hd h2; omega
    · simp [h1, h2]
end F
set_option maxRecDepth 100000 in
set_option maxHeartbeats 4000000 in
theorem rbehind_any {w : World} {f : F.Fn} {a : Option Addr} {l c i : Nat} (h : OpsV w a l c f.code) (hi : i < l) : Calls Tryd.prog 28 #[fnV f a l c, .int .i64 i] w (RdOut w (F.nxz (F.at_ f i) i)) := by
  obtain ⟨ii, hii, hz0, hz1, hz2⟩ := ainfo infoN
  have hmax : maxLen = 9223372036854775807 := rfl
  have hrm := h.room
  obtain ⟨b, off, r, hab, ho, -⟩ := h.at hi
  have hft := h.fit hi
  have hat : F.at_ f i = f.code.getD i F.noOp := rfl
  rw [← hat] at ho hft
  subst hab
  obtain ⟨R, hR⟩ : ∃ R, F.nxz (F.at_ f i) i = R := ⟨_, rfl⟩
  have HR : Hid (R = F.nxz (F.at_ f i) i) := hR.symm
  rw [hR]
  clear hR hat h
  obtain ⟨o, heo⟩ : ∃ o, F.at_ f i = o := ⟨_, rfl⟩
  rw [heo] at ho hft HR
  clear heo
  obtain ⟨nm0, params, temps, code⟩ := f
  unfold fnV
  simp only
  obtain ⟨op, what, nm, d, aa, bb, n, args, dest⟩ := o
  obtain ⟨p0, -, -, -, -, -, -, -, p8⟩ := ho
  simp only at p0 p8
  have HFD : Hid ((Lit.int .i64 dest).wf = true) := hft.2.2.2.2.2.2.2
  have HFI : Hid ((Lit.int .i64 ((i : Int) + 1)).wf = true) := by
    show (decide (IntKind.i64.min ≤ (i : Int) + 1) && decide ((i : Int) + 1 ≤ IntKind.i64.max)) = true
    have e1 : IntKind.i64.min = -9223372036854775808 := by decide
    have e2 : IntKind.i64.max = 9223372036854775807 := by decide
    rw [e1, e2, Bool.and_eq_true, decide_eq_true_eq, decide_eq_true_eq]
    omega
  have HP8 : Hid (w.cell? ⟨b, off + i * 9 + 8, none⟩ = some (.int .i64 dest)) := p8
  have hii2 : (i : Int) < l := by omega
  have hi0 : 0 ≤ (i : Int) := by omega
  have hbw0 : b < w.heap.size := lt_of_cell p0
  clear hft
  by_cases h11 : op = 11
  · subst h11
    have HVR : R = [dest] := by rw [HR.out]; simp [F.nxz, F.falls, F.leads]
    subst HVR
    go_enter Tryd.func28, Tryd.ntmps28
    have HN1 : Hid (∀ (j : Nat) u, ([.int .i64 dest] : List Value)[j]? = some u → ((w.alloc (.cells #[.string nm0, .int .i64 params, .int .i64 temps, .slice (some ⟨b, off, none⟩) l c] 24)).alloc (.cells #[.int .i64 dest] 3)).cell? ((⟨w.heap.size + 1, 0, none⟩ : Addr).add j) = some u) := by
      intro j u hu
      rw [Addr.add_lit, Nat.zero_add]
      have hsz : w.heap.size + 1 = (w.alloc (.cells #[.string nm0, .int .i64 params, .int .i64 temps, .slice (some ⟨b, off, none⟩) l c] 24)).heap.size := by simp
      rw [hsz]
      exact ncell_at (by simpa using hu)
    have HRW1 : Hid (((w.alloc (.cells #[.string nm0, .int .i64 params, .int .i64 temps, .slice (some ⟨b, off, none⟩) l c] 24)).alloc (.cells #[.int .i64 dest] 3)).ownsRow w.heap.size 3 1 (.slice none 0 0) 0 []) := World.ownsRow_nil _ _ _ _
    have HBS1 : Hid (w.heap.size ≤ ((w.alloc (.cells #[.string nm0, .int .i64 params, .int .i64 temps, .slice (some ⟨b, off, none⟩) l c] 24)).alloc (.cells #[.int .i64 dest] 3)).heap.size) := by show _ ≤ _; rw [World.size_alloc]; simp; omega
    go_wp2_with (first | (at_builtin; refine wpList_append_lies _ rfl _ _ 30 rfl w.heap.size 3 ii _ 1 8 Tryd.underlying30 hii hz0 hz1 hz2 rfl (by decide) (.slice none 0 0) 0 [] rfl HRW1.out _ 1 1 [.int .i64 dest] rfl rfl HN1.out (by intro u hu; simp at hu; first | (subst hu; rfl) | (rcases hu with rfl | rfl <;> rfl)) (by decide) (by omega) (by omega) HBS1.out _ rfl ?_) | fail)
    intro g1 c1 w1 ho1 hg1 hat1 hlt1
    have HB1 : Hid (Below w.heap.size w w1) := (((bl1 w _).trans ((bl1 _ _).mono (by simp))).trans (grown_below hg1 (B := w.heap.size) (fun g e => by cases e) (by simp; omega)))
    have HO1 : Hid (w1.ownsRow w.heap.size 3 1 (.slice (some ⟨g1, 0, none⟩) 1 c1) 1 (([dest] : List Int).map iV)) := by
      show World.ownsRow _ _ _ _ _ _ _
      simpa [iV] using ho1
    clear ho1 hg1 hat1 hlt1 HN1 HRW1 HBS1
    go_wp2_with fail
    go_ret
    exact (⟨some ⟨g1, 0, none⟩, c1, rfl, num_of_row HO1.out rfl (by simp; exact HFD.out), HB1.out, fun p hp => (HO1.out.lt p.block (by cases hp; rfl)).1⟩ : RdOut w [dest] _ _)
  by_cases h12 : op = 12
  · subst h12
    have HVR : R = [(i : Int) + 1, dest] := by rw [HR.out]; simp [F.nxz, F.falls, F.leads]
    subst HVR
    go_enter Tryd.func28, Tryd.ntmps28
    have HN1 : Hid (∀ (j : Nat) u, ([.int .i64 ((i : Int) + 1)] : List Value)[j]? = some u → ((w.alloc (.cells #[.string nm0, .int .i64 params, .int .i64 temps, .slice (some ⟨b, off, none⟩) l c] 24)).alloc (.cells #[.int .i64 ((i : Int) + 1)] 3)).cell? ((⟨w.heap.size + 1, 0, none⟩ : Addr).add j) = some u) := by
      intro j u hu
      rw [Addr.add_lit, Nat.zero_add]
      have hsz : w.heap.size + 1 = (w.alloc (.cells #[.string nm0, .int .i64 params, .int .i64 temps, .slice (some ⟨b, off, none⟩) l c] 24)).heap.size := by simp
      rw [hsz]
      exact ncell_at (by simpa using hu)
    have HRW1 : Hid (((w.alloc (.cells #[.string nm0, .int .i64 params, .int .i64 temps, .slice (some ⟨b, off, none⟩) l c] 24)).alloc (.cells #[.int .i64 ((i : Int) + 1)] 3)).ownsRow w.heap.size 3 1 (.slice none 0 0) 0 []) := World.ownsRow_nil _ _ _ _
    have HBS1 : Hid (w.heap.size ≤ ((w.alloc (.cells #[.string nm0, .int .i64 params, .int .i64 temps, .slice (some ⟨b, off, none⟩) l c] 24)).alloc (.cells #[.int .i64 ((i : Int) + 1)] 3)).heap.size) := by show _ ≤ _; rw [World.size_alloc]; simp; omega
    go_wp2_with (first | (at_builtin; refine wpList_append_lies _ rfl _ _ 30 rfl w.heap.size 3 ii _ 1 8 Tryd.underlying30 hii hz0 hz1 hz2 rfl (by decide) (.slice none 0 0) 0 [] rfl HRW1.out _ 1 1 [.int .i64 ((i : Int) + 1)] rfl rfl HN1.out (by intro u hu; simp at hu; first | (subst hu; rfl) | (rcases hu with rfl | rfl <;> rfl)) (by decide) (by omega) (by omega) HBS1.out _ rfl ?_) | fail)
    intro g1 c1 w1 ho1 hg1 hat1 hlt1
    have HB1 : Hid (Below w.heap.size w w1) := (((bl1 w _).trans ((bl1 _ _).mono (by simp))).trans (grown_below hg1 (B := w.heap.size) (fun g e => by cases e) (by simp; omega)))
    have ho1' : w1.ownsRow w.heap.size 3 1 (.slice (some ⟨g1, 0, none⟩) 1 c1) 1 [.int .i64 ((i : Int) + 1)] := by simpa using ho1
    have d3 : w1.cell? ⟨w.heap.size, 3, none⟩ = some (.slice (some ⟨b, off, none⟩) l c) := by
      refine (World.cell?_of_block (hg1.block w.heap.size (by simp; omega) (by simp [Value.ownBlock]))).trans ?_
      simp
    have p8 : w1.cell? ⟨b, off + i * 9 + 8, none⟩ = some (.int .i64 dest) := cell_thru HB1.out HP8.out
    have hbw : w.heap.size ≤ w1.heap.size := HB1.out.size
    clear ho1 hg1 hat1 hlt1 HN1 HRW1 HBS1
    have HN2 : Hid (∀ (j : Nat) u, ([.int .i64 dest] : List Value)[j]? = some u → (w1.alloc (.cells #[.int .i64 dest] 3)).cell? ((⟨w1.heap.size, 0, none⟩ : Addr).add j) = some u) := by
      intro j u hu
      rw [Addr.add_lit, Nat.zero_add]
      have hsz : w1.heap.size = w1.heap.size := by simp
      rw [hsz]
      exact ncell_at (by simpa using hu)
    have HRW2 : Hid ((w1.alloc (.cells #[.int .i64 dest] 3)).ownsRow w.heap.size 3 1 (.slice (some ⟨g1, 0, none⟩) 1 c1) 1 [.int .i64 ((i : Int) + 1)]) := row_below ho1' (bl1 _ _)
    have HBS2 : Hid (w.heap.size ≤ (w1.alloc (.cells #[.int .i64 dest] 3)).heap.size) := by show _ ≤ _; rw [World.size_alloc]; omega
    go_wp2_with (first | (at_builtin; refine wpList_append_lies _ rfl _ _ 30 rfl w.heap.size 3 ii _ 1 8 Tryd.underlying30 hii hz0 hz1 hz2 rfl (by decide) (.slice (some ⟨g1, 0, none⟩) 1 c1) 1 [.int .i64 ((i : Int) + 1)] rfl HRW2.out _ 1 1 [.int .i64 dest] rfl rfl HN2.out (by intro u hu; simp at hu; first | (subst hu; rfl) | (rcases hu with rfl | rfl <;> rfl)) (by decide) (by omega) (by omega) HBS2.out _ rfl ?_) | fail)
    intro g2 c2 w2 ho2 hg2 hat2 hlt2
    have HB2 : Hid (Below w.heap.size w w2) := (HB1.out.trans ((bl1 w1 _).mono HB1.out.size)).trans (grown_below hg2 (B := w.heap.size) (fun g e => (ho1'.lt g e).1) (by simp; omega))
    have HO2 : Hid (w2.ownsRow w.heap.size 3 1 (.slice (some ⟨g2, 0, none⟩) 2 c2) 2 (([(i : Int) + 1, dest] : List Int).map iV)) := by
      show World.ownsRow _ _ _ _ _ _ _
      simpa [iV] using ho2
    clear ho2 hg2 hat2 hlt2 HN2 HRW2 HBS2 ho1'
    go_wp2_with fail
    go_ret
    exact (⟨some ⟨g2, 0, none⟩, c2, rfl, num_of_row HO2.out rfl (by simp; exact ⟨HFI.out, HFD.out⟩), HB2.out, fun p hp => (HO2.out.lt p.block (by cases hp; rfl)).1⟩ : RdOut w [(i : Int) + 1, dest] _ _)
  by_cases h14 : op = 14
  · subst h14
    have HVR : R = [] := by rw [HR.out]; simp [F.nxz, F.falls, F.leads]
    subst HVR
    go_enter Tryd.func28, Tryd.ntmps28
    go_wp2_with fail
    go_ret
    exact (⟨none, 0, rfl, NumV.nil _, bl1 _ _, fun p hp => by cases hp⟩ : RdOut w [] _ _)
  by_cases h15 : op = 15
  · subst h15
    have HVR : R = [] := by rw [HR.out]; simp [F.nxz, F.falls, F.leads]
    subst HVR
    go_enter Tryd.func28, Tryd.ntmps28
    go_wp2_with fail
    go_ret
    exact (⟨none, 0, rfl, NumV.nil _, bl1 _ _, fun p hp => by cases hp⟩ : RdOut w [] _ _)
  by_cases h16 : op = 16
  · subst h16
    have HVR : R = [] := by rw [HR.out]; simp [F.nxz, F.falls, F.leads]
    subst HVR
    go_enter Tryd.func28, Tryd.ntmps28
    go_wp2_with fail
    go_ret
    exact (⟨none, 0, rfl, NumV.nil _, bl1 _ _, fun p hp => by cases hp⟩ : RdOut w [] _ _)
  have HVR : R = [(i : Int) + 1] := by rw [HR.out]; simp [F.nxz, F.falls, F.leads, h11, h12, h14, h15, h16]
  subst HVR
  have e11 : (op != 11) = true := by simpa using h11
  have e14 : (op != 14) = true := by simpa using h14
  have e15 : (op != 15) = true := by simpa using h15
  have e16 : (op != 16) = true := by simpa using h16
  have e11' : (op == 11) = false := by simpa using h11
  have e12' : (op == 12) = false := by simpa using h12
  clear h11 h12 h14 h15 h16
  go_enter Tryd.func28, Tryd.ntmps28
  have HN1 : Hid (∀ (j : Nat) u, ([.int .i64 ((i : Int) + 1)] : List Value)[j]? = some u → ((w.alloc (.cells #[.string nm0, .int .i64 params, .int .i64 temps, .slice (some ⟨b, off, none⟩) l c] 24)).alloc (.cells #[.int .i64 ((i : Int) + 1)] 3)).cell? ((⟨w.heap.size + 1, 0, none⟩ : Addr).add j) = some u) := by
    intro j u hu
    rw [Addr.add_lit, Nat.zero_add]
    have hsz : w.heap.size + 1 = (w.alloc (.cells #[.string nm0, .int .i64 params, .int .i64 temps, .slice (some ⟨b, off, none⟩) l c] 24)).heap.size := by simp
    rw [hsz]
    exact ncell_at (by simpa using hu)
  have HRW1 : Hid (((w.alloc (.cells #[.string nm0, .int .i64 params, .int .i64 temps, .slice (some ⟨b, off, none⟩) l c] 24)).alloc (.cells #[.int .i64 ((i : Int) + 1)] 3)).ownsRow w.heap.size 3 1 (.slice none 0 0) 0 []) := World.ownsRow_nil _ _ _ _
  have HBS1 : Hid (w.heap.size ≤ ((w.alloc (.cells #[.string nm0, .int .i64 params, .int .i64 temps, .slice (some ⟨b, off, none⟩) l c] 24)).alloc (.cells #[.int .i64 ((i : Int) + 1)] 3)).heap.size) := by show _ ≤ _; rw [World.size_alloc]; simp; omega
  go_wp2_with (first | (at_builtin; refine wpList_append_lies _ rfl _ _ 30 rfl w.heap.size 3 ii _ 1 8 Tryd.underlying30 hii hz0 hz1 hz2 rfl (by decide) (.slice none 0 0) 0 [] rfl HRW1.out _ 1 1 [.int .i64 ((i : Int) + 1)] rfl rfl HN1.out (by intro u hu; simp at hu; first | (subst hu; rfl) | (rcases hu with rfl | rfl <;> rfl)) (by decide) (by omega) (by omega) HBS1.out _ rfl ?_) | fail)
  intro g1 c1 w1 ho1 hg1 hat1 hlt1
  have HB1 : Hid (Below w.heap.size w w1) := (((bl1 w _).trans ((bl1 _ _).mono (by simp))).trans (grown_below hg1 (B := w.heap.size) (fun g e => by cases e) (by simp; omega)))
  have HO1 : Hid (w1.ownsRow w.heap.size 3 1 (.slice (some ⟨g1, 0, none⟩) 1 c1) 1 (([(i : Int) + 1] : List Int).map iV)) := by
    show World.ownsRow _ _ _ _ _ _ _
    simpa [iV] using ho1
  clear ho1 hg1 hat1 hlt1 HN1 HRW1 HBS1
  go_wp2_with fail
  go_ret
  exact (⟨some ⟨g1, 0, none⟩, c1, rfl, num_of_row HO1.out rfl (by simp; exact HFI.out), HB1.out, fun p hp => (HO1.out.lt p.block (by cases hp; rfl)).1⟩ : RdOut w [(i : Int) + 1] _ _)
end Go.Proofs.YtljgpngbkmembaaDoor

/- The table of what is live, while it is made: mathematics, and how it lies. -/
namespace Go.Proofs.YtljgpngbkmembaaDoor
open Go.RowKit Go.Maps
set_option linter.unusedVariables false
set_option linter.unusedSimpArgs false
namespace F
/-- Is a temp live ahead of a place, by a table: by what is read, or by the first so many places behind. -/
def hits (f : Fn) (m : Nat → Nat → Bool) (i t k : Nat) : Bool := decide ((t : Int) ∈ rd (at_ f i)) || (List.range k).any fun q => m ((nxt (at_ f i) i).getD q 0) t && decide (wr (at_ f i) ≠ (t : Int))
theorem hits_succ (f : Fn) (m : Nat → Nat → Bool) (i t k : Nat) : hits f m i t (k + 1) = (hits f m i t k || (m ((nxt (at_ f i) i).getD k 0) t && decide (wr (at_ f i) ≠ (t : Int)))) := by
  unfold hits
  rw [List.range_succ, List.any_append, Bool.or_assoc]
  simp
def Sound (f : Fn) (n T : Nat) (m : Nat → Nat → Bool) : Prop := ∀ i, i < n → ∀ t, t < T → m i t = true → Lv f i t
def ClosedAt (f : Fn) (m : Nat → Nat → Bool) (i t : Nat) : Prop := m i t = true ∨ hits f m i t (nxt (at_ f i) i).length = false
def upd2 (m : Nat → Nat → Bool) (i t : Nat) : Nat → Nat → Bool := fun i' t' => if i' = i ∧ t' = t then true else m i' t'
theorem hits_lv {f : Fn} (hm : mayF f = true) {T : Nat} (hT : f.temps = T) {m : Nat → Nat → Bool} (hs : Sound f f.code.length T m) {i t : Nat} (hi : i < f.code.length) (ht : t < T) (h : hits f m i t (nxt (at_ f i) i).length = true) : Lv f i t := by
  unfold hits at h
  rw [Bool.or_eq_true, decide_eq_true_eq, List.any_eq_true] at h
  rcases h with h | ⟨q, hq, h⟩
  · exact Lv.rd hi h
  · rw [Bool.and_eq_true, decide_eq_true_eq] at h
    have hq' : q < (nxt (at_ f i) i).length := List.mem_range.1 hq
    have hj : (nxt (at_ f i) i).getD q 0 ∈ nxt (at_ f i) i := by simp [List.getD, hq']
    exact Lv.on hi hj (Ne.symm h.2) (hs _ (nxt_in hm hi _ hj) t ht h.1)
theorem sound_upd {f : Fn} {n T : Nat} {m : Nat → Nat → Bool} (hs : Sound f n T m) {i t : Nat} (h : Lv f i t) : Sound f n T (upd2 m i t) := by
  intro i' hi t' ht e
  unfold upd2 at e
  split at e
  · next hc => obtain ⟨rfl, rfl⟩ := hc; exact h
  · exact hs i' hi t' ht e
/-- A table that is sound, and closed, is what is live. -/
theorem closed_lv {f : Fn} (hm : mayF f = true) {T : Nat} (hT : f.temps = T) {m : Nat → Nat → Bool} (hs : Sound f f.code.length T m) (hc : ∀ i, i < f.code.length → ∀ t, t < T → ClosedAt f m i t) {i t : Nat} (hi : i < f.code.length) (ht : t < T) : m i t = true ↔ Lv f i t := by
  refine ⟨hs i hi t ht, fun h => ?_⟩
  have key : ∀ i (z : Int), Lv f i z → ∀ t : Nat, z = t → m i t = true := by
    intro i z hz
    induction hz with
    | rd hi hr =>
      intro t e
      subst e
      have htT : t < T := by have := rd_in (may_op hm hi) _ hr; omega
      rcases hc _ hi t htT with h | h
      · exact h
      · unfold hits at h
        rw [Bool.or_eq_false_iff, decide_eq_false_iff_not] at h
        exact absurd hr h.1
    | @on i j z hi hj hw hl ih =>
      intro t e
      subst e
      have hmj := ih t rfl
      have htT : t < T := by have := hl.temp hm; omega
      rcases hc _ hi t htT with h | h
      · exact h
      · exfalso
        unfold hits at h
        rw [Bool.or_eq_false_iff, List.any_eq_false] at h
        obtain ⟨q, hq, e⟩ := List.mem_iff_getElem.1 hj
        have := h.2 q (List.mem_range.2 hq)
        rw [show (nxt (at_ f i) i).getD q 0 = j by simp [List.getD, hq, e], hmj] at this
        simp at this
        exact hw this.symm
  exact key i t h t rfl
/-- How many places of a table are not set. -/
def cntF (n T : Nat) (m : Nat → Nat → Bool) : Nat := ((List.range (n * T)).filter fun q => !(m (q / T) (q % T))).length
theorem filter_lt {α : Type} {l : List α} {f g : α → Bool} (h : ∀ x ∈ l, g x = true → f x = true) {x : α} (hx : x ∈ l) (hf : f x = true) (hg : g x = false) : (l.filter g).length < (l.filter f).length := by
  induction l with
  | nil => cases hx
  | cons y l ih =>
    have hle : (l.filter g).length ≤ (l.filter f).length := by
      have : ∀ l' : List α, (∀ x ∈ l', g x = true → f x = true) → (l'.filter g).length ≤ (l'.filter f).length := by
        intro l'
        induction l' with
        | nil => intro _; simp
        | cons z l' ih2 =>
          intro hz
          have h2 := ih2 (fun q hq => hz q (List.mem_cons_of_mem _ hq))
          by_cases e : g z = true
          · rw [List.filter_cons_of_pos e, List.filter_cons_of_pos (hz z List.mem_cons_self e), List.length_cons, List.length_cons]; omega
          · rw [List.filter_cons_of_neg e]
            by_cases e2 : f z = true
            · rw [List.filter_cons_of_pos e2, List.length_cons]; omega
            · rw [List.filter_cons_of_neg e2]; exact h2
      exact this l fun q hq => h q (List.mem_cons_of_mem _ hq)
    rcases List.mem_cons.1 hx with rfl | hx
    · rw [List.filter_cons_of_neg (by rw [hg]; decide), List.filter_cons_of_pos hf, List.length_cons]
      omega
    · have h2 := ih (fun q hq => h q (List.mem_cons_of_mem _ hq)) hx
      by_cases hz : g y = true
      · rw [List.filter_cons_of_pos hz, List.filter_cons_of_pos (h y List.mem_cons_self hz), List.length_cons, List.length_cons]; omega
      · rw [List.filter_cons_of_neg hz]
        by_cases hz2 : f y = true
        · rw [List.filter_cons_of_pos hz2, List.length_cons]; omega
        · rw [List.filter_cons_of_neg hz2]; exact h2
theorem cntF_upd {n T : Nat} {m : Nat → Nat → Bool} {i t : Nat} (hi : i < n) (ht : t < T) (h : m i t = false) : cntF n T (upd2 m i t) < cntF n T m := by
  have hq : i * T + t < n * T := by
    have : (i + 1) * T ≤ n * T := Nat.mul_le_mul_right _ hi
    rw [Nat.succ_mul] at this
    omega
  have e1 : (i * T + t) / T = i := by rw [Nat.mul_comm, Nat.mul_add_div (by omega), Nat.div_eq_of_lt ht, Nat.add_zero]
  have e2 : (i * T + t) % T = t := by rw [Nat.mul_comm, Nat.mul_add_mod, Nat.mod_eq_of_lt ht]
  unfold cntF
  refine filter_lt (x := i * T + t) (fun x _ hx => ?_) (List.mem_range.2 hq) (by simp only [e1, e2, h]; rfl) (by simp only [e1, e2, upd2]; simp)
  unfold upd2 at hx
  split at hx
  · cases hx
  · exact hx
end F
theorem infoBl : (Tryd.prog.info? 4).map (fun i => (i.zero, i.size, i.bytes)) = some (some (.bool false), 1, 1) := by kernel_rfl
theorem infoBs : (Tryd.prog.info? 61).map (fun i => (i.zero, i.size, i.bytes)) = some (some (.slice none 0 0), 1, 24) := by kernel_rfl
set_option maxRecDepth 100000 in
theorem makeBl (w : World) (N : Nat) (hN : N ≤ 65536) :
    (Instr.makeSlice 61 (.int .i64 N) (.int .i64 N)).run Tryd.prog w = .ok (.slice (some ⟨w.heap.size, 0, none⟩) N N) (w.alloc (.cells (List.replicate N (.bool false)).toArray 4)) := by
  obtain ⟨i, hi, h0, h1, h2⟩ := ainfo infoBl
  have := run_make (P := Tryd.prog) w 61 4 i (.bool false) Tryd.underlying61 hi h0 .i64 .i64 N N (by omega) (by omega) (by rw [h2]; omega) (by omega)
  rw [this, h1, Int.toNat_natCast]
  congr 3
  unfold madeCells
  apply Array.ext
  · simp
  · intro i h1 h2
    simp [Value.cells, Nat.mod_one]
set_option maxRecDepth 100000 in
theorem makeBs (w : World) (N : Nat) (hN : N ≤ 65536) :
    (Instr.makeSlice 58 (.int .i64 N) (.int .i64 N)).run Tryd.prog w = .ok (.slice (some ⟨w.heap.size, 0, none⟩) N N) (w.alloc (.cells (List.replicate N (.slice none 0 0)).toArray 61)) := by
  obtain ⟨i, hi, h0, h1, h2⟩ := ainfo infoBs
  have := run_make (P := Tryd.prog) w 58 61 i (.slice none 0 0) Tryd.underlying58 hi h0 .i64 .i64 N N (by omega) (by omega) (by rw [h2]; omega) (by omega)
  rw [this, h1, Int.toNat_natCast]
  congr 3
  unfold madeCells
  apply Array.ext
  · simp
  · intro i h1 h2
    simp [Value.cells, Nat.mod_one]
/-- A table of Bools of one's own, its first rows laid. -/
structure TP (B : Nat) (W : World) (g n T k : Nat) (h : Nat → Nat) (m : Nat → Nat → Bool) : Prop where
  ge : B ≤ g
  lt : g < W.heap.size
  fro : ∀ j, W.frozen? ⟨g, j, none⟩ = false
  slot : ∀ i, i < n → ∃ u, W.cell? ⟨g, i, none⟩ = some u
  rows : ∀ i, i < k → W.cell? ⟨g, i, none⟩ = some (.slice (some ⟨h i, 0, none⟩) T T)
  cell : ∀ i, i < k → ∀ t, t < T → W.cell? ⟨h i, t, none⟩ = some (.bool (m i t))
  rf : ∀ i, i < k → ∀ j, W.frozen? ⟨h i, j, none⟩ = false
  rg : ∀ i, i < k → B ≤ h i ∧ h i < W.heap.size ∧ h i ≠ g
  inj : ∀ i j, i < k → j < k → i ≠ j → h i ≠ h j
variable {B : Nat} {W y : World} {g n T k : Nat} {h : Nat → Nat} {m : Nat → Nat → Bool}
theorem TP.below (ht : TP B W g n T k h m) (hb : Below W.heap.size W y) : TP B y g n T k h m :=
  ⟨ht.ge, Nat.lt_of_lt_of_le ht.lt hb.size, fun j => (hb.frozen (p := ⟨g, j, none⟩) ht.lt).trans (ht.fro j), fun i hi => by obtain ⟨u, hu⟩ := ht.slot i hi; exact ⟨u, cell_thru hb hu⟩, fun i hi => cell_thru hb (ht.rows i hi), fun i hi t h2 => cell_thru hb (ht.cell i hi t h2), fun i hi j => (hb.frozen (p := ⟨h i, j, none⟩) (ht.rg i hi).2.1).trans (ht.rf i hi j), fun i hi => ⟨(ht.rg i hi).1, Nat.lt_of_lt_of_le (ht.rg i hi).2.1 hb.size, (ht.rg i hi).2.2⟩, ht.inj⟩
theorem TP.start (w : World) (N : Nat) (h : Nat → Nat) (m : Nat → Nat → Bool) (T : Nat) : TP w.heap.size (w.alloc (.cells (List.replicate N (.slice none 0 0)).toArray 61)) w.heap.size N T 0 h m :=
  ⟨Nat.le_refl _, by simp, fun j => World.frozen?_alloc_at _ _ _ _ (by simp), fun i hi => ⟨.slice none 0 0, ncell_at (by simp [hi])⟩, fun i hi => by omega, fun i hi => by omega, fun i hi => by omega, fun i hi => by omega, fun i j hi => by omega⟩
theorem frozen_setC {w : World} {a p : Addr} {v : Value} : (w.setCell a v).frozen? p = w.frozen? p := World.frozen?_setCell _ _ _ _
/-- One row more. -/
theorem TP.row (ht : TP B W g n T k h m) (hk : k < n) (hm : ∀ t, m k t = false) : TP B ((W.alloc (.cells (List.replicate T (.bool false)).toArray 4)).setCell ⟨g, k, none⟩ (.slice (some ⟨W.heap.size, 0, none⟩) T T)) g n T (k + 1) (fun i => if i = k then W.heap.size else h i) m := by
  have hb : Below W.heap.size W (W.alloc (.cells (List.replicate T (.bool false)).toArray 4)) := bl1 _ _
  have h2 := ht.below hb
  have hgl := ht.lt
  have far : ∀ (q o : Nat), g ≠ q → ((W.alloc (.cells (List.replicate T (.bool false)).toArray 4)).setCell ⟨g, k, none⟩ (.slice (some ⟨W.heap.size, 0, none⟩) T T)).cell? ⟨q, o, none⟩ = (W.alloc (.cells (List.replicate T (.bool false)).toArray 4)).cell? ⟨q, o, none⟩ := fun q o hq => World.cell?_setCell_far _ ⟨g, k, none⟩ ⟨q, o, none⟩ _ hq
  obtain ⟨u0, hu0⟩ := h2.slot k hk
  have near : ∀ i, i ≠ k → ((W.alloc (.cells (List.replicate T (.bool false)).toArray 4)).setCell ⟨g, k, none⟩ (.slice (some ⟨W.heap.size, 0, none⟩) T T)).cell? ⟨g, i, none⟩ = (W.alloc (.cells (List.replicate T (.bool false)).toArray 4)).cell? ⟨g, i, none⟩ := fun i hi => World.cell?_setCell_other _ _ _ _ (by first | (simp; done) | (simp; exact fun e => absurd e.symm hi))
  refine ⟨ht.ge, by rw [World.size_setCell]; exact h2.lt, fun j => by rw [frozen_setC]; exact h2.fro j, fun i hi => ?_, fun i hi => ?_, fun i hi t htT => ?_, fun i hi j => ?_, fun i hi => ?_, fun i j hi hj hij => ?_⟩
  · by_cases e : i = k
    · subst e; exact ⟨_, World.cell?_setCell_same' _ _ _ (by rw [hu0]; rfl)⟩
    · obtain ⟨u, hu⟩ := h2.slot i hi
      exact ⟨u, (near i e).trans hu⟩
  · by_cases e : i = k
    · subst e; rw [if_pos rfl]; exact World.cell?_setCell_same' _ _ _ (by rw [hu0]; rfl)
    · rw [if_neg e]; exact (near i e).trans (h2.rows i (by omega))
  · by_cases e : i = k
    · subst e
      rw [if_pos rfl, far _ _ (by omega), hm t]
      exact ncell_at (by simp [htT])
    · rw [if_neg e, far _ _ (Ne.symm (ht.rg i (by omega)).2.2)]
      exact h2.cell i (by omega) t htT
  · rw [frozen_setC]
    by_cases e : i = k
    · subst e; rw [if_pos rfl]; exact World.frozen?_alloc_at _ _ _ _ (by simp)
    · rw [if_neg e]; exact h2.rf i (by omega) j
  · rw [World.size_setCell]
    by_cases e : i = k
    · subst e; rw [if_pos rfl]
      refine ⟨by have := ht.ge; omega, by simp, by omega⟩
    · rw [if_neg e]; exact h2.rg i (by omega)
  · by_cases e : i = k
    · subst e
      rw [if_pos rfl, if_neg (Ne.symm hij)]
      have := (ht.rg j (by omega)).2.1
      omega
    · rw [if_neg e]
      by_cases e2 : j = k
      · subst e2
        rw [if_pos rfl]
        have := (ht.rg i (by omega)).2.1
        omega
      · rw [if_neg e2]; exact ht.inj i j (by omega) (by omega) hij
/-- A place of the table is set. -/
theorem TP.set (ht : TP B W g n T k h m) {i t : Nat} (hi : i < k) (htT : t < T) : TP B (W.setCell ⟨h i, t, none⟩ (.bool true)) g n T k h (F.upd2 m i t) := by
  obtain ⟨r1, r2, r3⟩ := ht.rg i hi
  have far : ∀ (q o : Nat), h i ≠ q → (W.setCell ⟨h i, t, none⟩ (.bool true)).cell? ⟨q, o, none⟩ = W.cell? ⟨q, o, none⟩ := fun q o hq => World.cell?_setCell_far _ ⟨h i, t, none⟩ ⟨q, o, none⟩ _ hq
  refine ⟨ht.ge, by rw [World.size_setCell]; exact ht.lt, fun j => by rw [frozen_setC]; exact ht.fro j, fun i' hi' => ?_, fun i' hi' => (far _ _ r3).trans (ht.rows i' hi'), fun i' hi' t' ht' => ?_, fun i' hi' j => by rw [frozen_setC]; exact ht.rf i' hi' j, fun i' hi' => by rw [World.size_setCell]; exact ht.rg i' hi', ht.inj⟩
  · obtain ⟨u, hu⟩ := ht.slot i' hi'
    exact ⟨u, (far _ _ r3).trans hu⟩
  · unfold F.upd2
    by_cases e : i' = i
    · subst e
      by_cases e2 : t' = t
      · subst e2
        rw [if_pos ⟨rfl, rfl⟩]
        exact World.cell?_setCell_same' _ _ _ (by rw [ht.cell i' hi' t' ht']; rfl)
      · rw [if_neg (fun hc => e2 hc.2), World.cell?_setCell_other _ _ _ _ (by first | (simp; done) | (simp; exact fun e => absurd e.symm e2))]
        exact ht.cell i' hi' t' ht'
    · rw [if_neg (fun hc => e hc.1), far _ _ (ht.inj i i' hi hi' (Ne.symm e))]
      exact ht.cell i' hi' t' ht'
end Go.Proofs.YtljgpngbkmembaaDoor

/- The worklist: what is set is live; where nothing waits, all that is live is set. No program in sight. -/
namespace Go.Proofs.YtljgpngbkmembaaDoor
set_option linter.unusedVariables false
set_option linter.unusedSimpArgs false
namespace F
theorem mem_aheadS {x : Op} {T L : Int} (ho : opOk T L x = true) (hT : T ≤ 400) {u : Nat → Nat} (hu : Set7 u) {t : Nat} (ht : t < 448) : mem (aheadS x u) t = true ↔ (mem u t = true ∧ (t : Int) ≠ wr x) ∨ (t : Int) ∈ rd x := by
  have hrd := rd_in ho
  have hwr := wr_in ho
  unfold aheadS
  rw [mem_insAll, Bool.or_eq_true, List.any_eq_true]
  have h2 : (∃ s, s ∈ rd x ∧ decide (t = s.toNat) = true) ↔ (t : Int) ∈ rd x := by
    constructor
    · rintro ⟨s, hs, e⟩
      have := hrd s hs
      rw [decide_eq_true_eq] at e
      rw [e, Int.toNat_of_nonneg this.1]
      exact hs
    · intro h
      exact ⟨_, h, by simp⟩
  rw [h2]
  refine or_congr ?_ Iff.rfl
  by_cases hw : wr x = -1
  · rw [if_pos hw, hw]
    exact ⟨fun h => ⟨h, by omega⟩, fun h => h.1⟩
  · rw [if_neg hw, mem_del hu _ ht, Bool.and_eq_true, decide_eq_true_eq]
    refine and_congr Iff.rfl ?_
    omega
theorem word_ext {a b : Nat} (ha : a < 18446744073709551616) (hb : b < 18446744073709551616) (h : ∀ k, k < 64 → a.testBit k = b.testBit k) : a = b := by
  apply Nat.eq_of_testBit_eq
  intro i
  by_cases hi : i < 64
  · exact h i hi
  · have hp : 2 ^ 64 ≤ 2 ^ i := Nat.pow_le_pow_right (by decide) (by omega)
    rw [Nat.testBit_lt_two_pow (by omega), Nat.testBit_lt_two_pow (by omega)]
theorem set_ext {u v : Nat → Nat} (hu : Set7 u) (hv : Set7 v) (h : ∀ t, t < 448 → mem u t = mem v t) : ∀ j, j < 7 → u j = v j := fun j hj => by
  refine word_ext (hu j hj) (hv j hj) fun k hk => ?_
  have := h (j * 64 + k) (by omega)
  unfold mem at this
  rwa [show (j * 64 + k) / 64 = j by omega, show (j * 64 + k) % 64 = k by omega] at this
theorem mem_congr {u v : Nat → Nat} (h : ∀ j, j < 7 → u j = v j) {t : Nat} (ht : t < 448) : mem u t = mem v t := by
  unfold mem
  rw [h _ (by omega)]
def upd (U : Nat → Nat → Nat) (i : Nat) (u : Nat → Nat) : Nat → Nat → Nat := fun k => if k = i then u else U k
def updB (wt : Nat → Bool) (i : Nat) (b : Bool) : Nat → Bool := fun k => if k = i then b else wt k
/-- What is live ahead of an operation, if those sets are. -/
def nowS (f : Fn) (U : Nat → Nat → Nat) (i : Nat) : Nat → Nat := aheadS (at_ f i) (orAll U (nxt (at_ f i) i))
structure WI (f : Fn) (n : Nat) (U : Nat → Nat → Nat) (wk : List Nat) (wt : Nat → Bool) (E : List Nat) : Prop where
  s7 : ∀ i, i < n → Set7 (U i)
  sound : ∀ i, i < n → ∀ t, t < 448 → mem (U i) t = true → Lv f i (t : Int)
  pre : ∀ i, i < n → ∀ t, t < 448 → mem (U i) t = true → mem (nowS f U i) t = true
  cl : ∀ i, i < n → wt i = false → i ∉ E → ∀ t, t < 448 → mem (nowS f U i) t = true → mem (U i) t = true
  lt : ∀ i ∈ wk, i < n
  nd : wk.Nodup
  wkt : ∀ i, i < n → (wt i = true ↔ i ∈ wk)
variable {f : Fn} {n : Nat} {U : Nat → Nat → Nat} {wk : List Nat} {wt : Nat → Bool} {E : List Nat}
theorem now_iff (hm : mayF f = true) (hn : f.code.length = n) (hs : ∀ i, i < n → Set7 (U i)) {i : Nat} (hi : i < n) {t : Nat} (ht : t < 448) : mem (nowS f U i) t = true ↔ ((∃ j ∈ nxt (at_ f i) i, mem (U j) t = true) ∧ (t : Int) ≠ wr (at_ f i)) ∨ (t : Int) ∈ rd (at_ f i) := by
  have h4 := (may_head hm).2.2.1
  unfold nowS
  rw [mem_aheadS (may_op hm (by omega)) h4 (orAll_set7 fun j hj => hs j (by have := nxt_in hm (by omega : i < f.code.length) j hj; omega)) ht, mem_orAll, List.any_eq_true]
theorem now_set7 (hm : mayF f = true) (hn : f.code.length = n) (hs : ∀ i, i < n → Set7 (U i)) {i : Nat} (hi : i < n) : Set7 (nowS f U i) :=
  aheadS_set7 (orAll_set7 fun j hj => hs j (by have := nxt_in hm (by omega : i < f.code.length) j hj; omega))
theorem WI.len (h : WI f n U wk wt E) : wk.length ≤ n := by
  have := h.nd.length_le_of_subset (l₂ := List.range n) (fun i hi => List.mem_range.2 (h.lt i hi))
  simpa using this
theorem WI.pop {i : Nat} (h : WI f n U (wk ++ [i]) wt []) : WI f n U wk (updB wt i false) [i] := by
  have hnd := List.nodup_append.1 h.nd
  refine ⟨h.s7, h.sound, h.pre, fun k hk hw hE => ?_, fun k hk => h.lt k (List.mem_append_left _ hk), hnd.1, fun k hk => ?_⟩
  · have hki : k ≠ i := by simpa using hE
    unfold updB at hw
    rw [if_neg hki] at hw
    exact h.cl k hk hw (by simp)
  · unfold updB
    by_cases e : k = i
    · subst e
      rw [if_pos rfl]
      exact ⟨(fun h => by cases h), (fun hk2 => absurd rfl (hnd.2.2 k hk2 k (by simp)))⟩
    · rw [if_neg e, h.wkt k hk, List.mem_append, List.mem_singleton]
      exact ⟨fun h => h.resolve_right e, .inl⟩
theorem WI.same {i : Nat} (h : WI f n U wk wt [i]) (he : ∀ t, t < 448 → mem (nowS f U i) t = mem (U i) t) : WI f n U wk wt [] :=
  ⟨h.s7, h.sound, h.pre, fun k hk hw _ t ht hc => by
    by_cases e : k = i
    · subst e; rw [← he t ht]; exact hc
    · exact h.cl k hk hw (by simpa using e) t ht hc, h.lt, h.nd, h.wkt⟩
theorem WI.set {i : Nat} (hm : mayF f = true) (hn : f.code.length = n) (hi : i < n) (h : WI f n U wk wt [i]) {L : List Nat} (hL : ∀ k, k < n → i ∈ nxt (at_ f k) k → k ∈ L) : WI f n (upd U i (nowS f U i)) wk wt L := by
  have hs := now_set7 hm hn h.s7 hi
  have s7 : ∀ k, k < n → Set7 (upd U i (nowS f U i) k) := fun k hk => by
    unfold upd
    split
    · exact hs
    · exact h.s7 k hk
  have le : ∀ k, k < n → ∀ t, t < 448 → mem (U k) t = true → mem (upd U i (nowS f U i) k) t = true := fun k hk t ht hc => by
    unfold upd
    split
    · next e => subst e; exact h.pre k hk t ht hc
    · exact hc
  have mono : ∀ k, k < n → ∀ t, t < 448 → mem (nowS f U k) t = true → mem (nowS f (upd U i (nowS f U i)) k) t = true := fun k hk t ht hc => by
    rw [now_iff hm hn s7 hk ht]
    rw [now_iff hm hn h.s7 hk ht] at hc
    refine hc.imp (fun hq => ⟨?_, hq.2⟩) id
    obtain ⟨j, hj, hj2⟩ := hq.1
    exact ⟨j, hj, le j (by have := nxt_in hm (by omega : k < f.code.length) j hj; omega) t ht hj2⟩
  refine ⟨s7, fun k hk t ht hc => ?_, fun k hk t ht hc => ?_, fun k hk hw hE t ht hc => ?_, h.lt, h.nd, h.wkt⟩
  · unfold upd at hc
    split at hc
    · next e =>
      subst e
      rw [now_iff hm hn h.s7 hk ht] at hc
      rcases hc with ⟨⟨j, hj, hj2⟩, hne⟩ | hc
      · exact .on (by omega) hj hne (h.sound j (by have := nxt_in hm (by omega : k < f.code.length) j hj; omega) t ht hj2)
      · exact .rd (by omega) hc
    · exact h.sound k hk t ht hc
  · refine mono k hk t ht ?_
    unfold upd at hc
    split at hc
    · next e => subst e; exact hc
    · exact h.pre k hk t ht hc
  · have hni : i ∉ nxt (at_ f k) k := fun hc2 => hE (hL k hk hc2)
    have hc2 : mem (nowS f U k) t = true := by
      rw [now_iff hm hn h.s7 hk ht]
      rw [now_iff hm hn s7 hk ht] at hc
      refine hc.imp (fun hq => ⟨?_, hq.2⟩) id
      obtain ⟨j, hj, hj2⟩ := hq.1
      refine ⟨j, hj, ?_⟩
      unfold upd at hj2
      rw [if_neg (fun e : j = i => by subst e; exact hni hj)] at hj2
      exact hj2
    unfold upd
    split
    · next e => subst e; exact hc2
    · next e => exact h.cl k hk hw (by simpa using e) t ht hc2
theorem WI.push {e : Nat} (he : e < n) (h : WI f n U wk wt (e :: E)) (hw : wt e = false) : WI f n U (wk ++ [e]) (updB wt e true) E := by
  have hne : e ∉ wk := fun hc => by have := (h.wkt e he).2 hc; rw [hw] at this; cases this
  refine ⟨h.s7, h.sound, h.pre, fun k hk hw2 hE => ?_, fun k hk => ?_, ?_, fun k hk => ?_⟩
  · unfold updB at hw2
    split at hw2
    · cases hw2
    · next h2 => exact h.cl k hk hw2 (by simp [h2, hE])
  · rcases List.mem_append.1 hk with hk | hk
    · exact h.lt k hk
    · simp at hk; subst hk; exact he
  · rw [List.nodup_append]
    refine ⟨h.nd, by simp, fun a ha b hb => ?_⟩
    simp at hb
    subst hb
    exact fun e2 => hne (e2 ▸ ha)
  · unfold updB
    rw [List.mem_append, List.mem_singleton]
    split
    · next e2 => subst e2; simp
    · next e2 => rw [h.wkt k hk]; simp [e2]
theorem WI.skip {e : Nat} (h : WI f n U wk wt (e :: E)) (hw : wt e = true) : WI f n U wk wt E :=
  ⟨h.s7, h.sound, h.pre, fun k hk hw2 hE => h.cl k hk hw2 (fun hc => by
    rcases List.mem_cons.1 hc with e2 | hc
    · subst e2; rw [hw] at hw2; cases hw2
    · exact hE hc), h.lt, h.nd, h.wkt⟩
theorem WI.done (hm : mayF f = true) (hn : f.code.length = n) (h : WI f n U [] wt []) : ∀ i, i < n → ∀ t, t < 448 → (mem (U i) t = true ↔ Lv f i (t : Int)) := by
  have hall : ∀ i, i < n → wt i = false := fun i hi => by
    rw [← Bool.not_eq_true, h.wkt i hi]
    simp
  have hT := (may_head hm).2.2.1
  intro i hi t ht
  refine ⟨h.sound i hi t ht, fun hl => ?_⟩
  have key : ∀ i (s : Int), Lv f i s → ∀ t : Nat, s = (t : Int) → t < 448 → mem (U i) t = true := by
    intro i s hs
    induction hs with
    | @rd i s hi hr =>
      intro t e ht
      subst e
      exact h.cl i (by omega) (hall i (by omega)) (by simp) t ht ((now_iff hm hn h.s7 (by omega) ht).2 (.inr hr))
    | @on i j s hi hj hw hl ih =>
      intro t e ht
      subst e
      exact h.cl i (by omega) (hall i (by omega)) (by simp) t ht ((now_iff hm hn h.s7 (by omega) ht).2 (.inl ⟨⟨j, hj, ih t rfl ht⟩, hw⟩))
  exact key i _ hl t rfl ht
theorem WI.start (hm : mayF f = true) (hn : f.code.length = n) : WI f n (fun _ => zero7) (List.range n) (fun _ => true) [] :=
  ⟨(fun _ _ => Set7.zero), (fun i _ t _ hc => by rw [mem_zero] at hc; cases hc), (fun i _ t _ hc => by rw [mem_zero] at hc; cases hc), (fun i _ hw => by cases hw), (fun i hi => List.mem_range.1 hi), List.nodup_range, (fun i hi => by simp [hi])⟩
/-- What is not set grows less. -/
theorem cnt_set {i : Nat} {u : Nat → Nat} (hi : i < n) (hp : ∀ t, t < 448 → mem (U i) t = true → mem u t = true) (hne : ∃ t, t < 448 ∧ mem u t ≠ mem (U i) t) : cntF n 448 (fun k t => mem (upd U i u k) t) < cntF n 448 (fun k t => mem (U k) t) := by
  obtain ⟨t, ht, hd⟩ := hne
  have h0 : mem (U i) t = false := by
    cases h : mem (U i) t with
    | false => rfl
    | true => rw [hp t ht h, h] at hd; exact absurd rfl hd
  have h1 : mem u t = true := by
    cases h : mem u t with
    | true => rfl
    | false => rw [h, h0] at hd; exact absurd rfl hd
  have e1 : (i * 448 + t) / 448 = i := by omega
  have e2 : (i * 448 + t) % 448 = t := by omega
  unfold cntF
  refine filter_lt (x := i * 448 + t) (fun x hx hg => ?_) (List.mem_range.2 (by omega)) (by simp only [e1, e2, h0]; rfl) (by simp only [e1, e2]; unfold upd; simp [h1])
  have hx : x < n * 448 := List.mem_range.1 hx
  unfold upd at hg
  simp only at hg ⊢
  split at hg
  · next e =>
    rw [Bool.not_eq_true'] at hg ⊢
    rw [e]
    cases h : mem (U i) (x % 448) with
    | false => rfl
    | true => rw [hp _ (by omega) h] at hg; cases hg
  · exact hg
end F
end Go.Proofs.YtljgpngbkmembaaDoor

/- Ranges over functions: an iterator's contract, and two laws for the loops, at a function's own level and within a round of another loop. -/
namespace Go.Proofs.YtljgpngbkmembaaDoor
open Go.RowKit
set_option linter.unusedVariables false

/-- From a block on, what lay lies as it lay. -/
def Abv (B : Nat) (W W' : World) : Prop := W.heap.size ≤ W'.heap.size ∧ ∀ k, B ≤ k → k < W.heap.size → W'.heap[k]? = W.heap[k]?
theorem Abv.refl (B : Nat) (W : World) : Abv B W W := ⟨Nat.le_refl _, fun _ _ _ => rfl⟩
theorem Abv.trans {B : Nat} {A W Z : World} (h : Abv B A W) (g : Abv B W Z) : Abv B A Z := ⟨Nat.le_trans h.1 g.1, fun k hk hl => (g.2 k hk (Nat.lt_of_lt_of_le hl h.1)).trans (h.2 k hk hl)⟩
theorem Abv.mono {B C : Nat} {W Z : World} (h : Abv B W Z) (hc : B ≤ C) : Abv C W Z := ⟨h.1, fun k hk hl => h.2 k (Nat.le_trans hc hk) hl⟩
theorem Abv.below {B : Nat} {W Z : World} (h : Below W.heap.size W Z) : Abv B W Z := ⟨h.size, fun k _ hl => h.block k hl⟩
theorem Abv.put {B l : Nat} (W : World) (o : Obj) (hl : l < B) : Abv B W (W.putObj l o) := ⟨by simp, fun k hk _ => World.putObj_heap_other (by omega)⟩
theorem Abv.set {B : Nat} (W : World) (p : Addr) (v : Value) (hl : p.block < B) : Abv B W (W.setCell p v) := ⟨by rw [World.size_setCell]; exact Nat.le_refl _, fun k hk _ => Below.heap_setCell _ _ _ _ (by omega)⟩
theorem Abv.drew {B : Nat} (W : World) : Abv B W W.drew := ⟨Nat.le_refl _, fun _ _ _ => rfl⟩
theorem below_put {B l : Nat} (W : World) (o : Obj) (hl : B ≤ l) : Below B W (W.putObj l o) := ⟨rfl, rfl, rfl, by simp, fun k hk => World.putObj_heap_other (by omega)⟩
theorem RoundIn.any {m m' : Nat} {P : Program} {l : Nat} {f : FuncId} {tmps : Array Value} {assign body : Code} {w : World} {R : Ending → World → Prop}
    (h : RoundIn Fence.wide m P l f tmps assign body w R) : RoundIn Fence.wide m' P l f tmps assign body w R := ⟨h.1, fun c cs _ => h.2 c cs (fun d hd => by cases hd)⟩
theorem YieldAt.any {m : Nat} (m' : Nat) {P : Program} {l : Nat} {args : Array Value} {W : World} {R : Ending → World → Prop} (h : YieldAt Fence.wide m P l args W R) : YieldAt Fence.wide m' P l args W R := by
  obtain ⟨fn, tmps, assign, body, hy, hR⟩ := h
  exact ⟨fn, tmps, assign, body, hy, RoundIn.any hR⟩

/-- What a call of yield comes to. -/
abbrev YOut (n : Nat) (W : World) (J Jx : World → Prop) (e : Ending) (W' : World) : Prop := Abv n W W' ∧ ((e = .returned (.bool true) ∧ J W') ∨ (e = .returned (.bool false) ∧ Jx W'))
/-- An iterator: it hands out a list, one by one, whatever a round does to what lay ahead of its call. -/
def Goes (P : Program) (gf : Nat) (lb : Array Value) {β : Type} (enc : β → Array Value) (xs : List β) (Rd : World → Prop) : Prop :=
  ∀ (l n : Nat) (J : Nat → World → Prop) (Jx : World → Prop) (W1 : World), n = W1.heap.size →
    (∀ k A B, J k A → Below n A B → J k B) → (∀ A B, Jx A → Below n A B → Jx B) → (∀ k A, J k A → n ≤ A.heap.size ∧ Rd A) → (∀ A, Jx A → n ≤ A.heap.size) →
    (∀ k x W, xs[k]? = some x → J k W → YieldAt Fence.wide 0 P l (enc x) W (YOut n W (J (k + 1)) Jx)) →
    J 0 W1 → Calls P gf (#[.func (.yield l) #[] #[]] ++ lb) W1 fun e W' => (∃ v, e = .returned v) ∧ (J xs.length W' ∨ Jx W')
/-- What lay from a block on, of one type, lies as it lay. -/
def KT (T : TypeId) (n : Nat) (W W' : World) : Prop := ∀ q cs fr, n ≤ q → W.heap[q]? = some (.cells cs T fr) → W'.heap[q]? = some (.cells cs T fr)
theorem Abv.kt {T : TypeId} {n : Nat} {W W' : World} (h : Abv n W W') : KT T n W W' := fun q cs fr hq hc => (h.2 q hq (Array.getElem?_eq_some_iff.1 hc).1).trans hc
/-- One that only makes new memory between two rounds; a round is to leave its own box, of type T, as it is. -/
def GoesL (P : Program) (gf : Nat) (lb : Array Value) {β : Type} (enc : β → Array Value) (xs : List β) (Rd : World → Prop) (T : TypeId) : Prop :=
  ∀ (l n : Nat) (J : Nat → World → Prop) (Jx : World → Prop) (W1 : World), n = W1.heap.size →
    (∀ k A B, J k A → Below A.heap.size A B → J k B) → (∀ k A, J k A → Rd A) →
    (∀ k x W, xs[k]? = some x → J k W → YieldAt Fence.wide 0 P l (enc x) W fun e W' => KT T n W W' ∧ ((e = .returned (.bool true) ∧ J (k + 1) W') ∨ (e = .returned (.bool false) ∧ Jx W'))) →
    J 0 W1 → Calls P gf (#[.func (.yield l) #[] #[]] ++ lb) W1 fun e W' => (∃ v, e = .returned v) ∧ (J xs.length W' ∨ Jx W')
theorem GoesL.goes {P : Program} {gf : Nat} {lb : Array Value} {β : Type} {enc : β → Array Value} {xs : List β} {Rd : World → Prop} {T : TypeId} (h : GoesL P gf lb enc xs Rd T) : Goes P gf lb enc xs Rd :=
  fun l n J Jx W1 hn hJ hJx hR hRx hY h0 => h l n J Jx W1 hn (fun k A B hj hb => hJ k A B hj (hb.mono (hR k A hj).1)) (fun k A hj => (hR k A hj).2)
    (fun k x W hx hj => YieldAt.mono (hY k x W hx hj) (fun e w hh => ⟨hh.1.kt, hh.2⟩)) h0
theorem Goes.rd {P : Program} {gf : Nat} {lb : Array Value} {β : Type} {enc : β → Array Value} {xs : List β} {Rd Rd' : World → Prop} (h : Goes P gf lb enc xs Rd) (hr : ∀ W, Rd' W → Rd W) : Goes P gf lb enc xs Rd' :=
  fun l n J Jx W1 hn hJ hJx hR hRx hY h0 => h l n J Jx W1 hn hJ hJx (fun k A hj => ⟨(hR k A hj).1, hr A (hR k A hj).2⟩) hRx hY h0

/-- How a round may end: it goes on, or leaves by the one jump. -/
def REnd (B : Nat) (cx : Code) (J Jx : World → Prop) (W : World) : Exit → Act → World → Prop
  | .normal, _, W' => Abv B W W' ∧ J W'
  | .ret, _, W' => cx = .ret ∧ Abv B W W' ∧ Jx W'
  | .exit id, _, W' => cx = .exit id ∧ Abv B W W' ∧ Jx W'
  | _, _, _ => False

theorem range_a {P : Program} {n : Nat} {β : Type} {g : Operand} {ps : Array Tmp} {assign body : Code} {Q : Exit → Act → World → Prop} {a : Act} {w : World} {gf : Nat} {lb : Array Value} {enc : β → Array Value} {xs : List β} {Rd : World → Prop}
    (hit : Goes P gf lb enc xs Rd)
    (hg : a.eval g = .func (.func gf) #[] lb) (eg : ∀ args w, (callFunc gf args).run P w = .ok (.enter gf args) w)
    (I : Nat → World → Prop) (Ix : World → Prop) (cx : Code) (Ax : β → Act → World → Prop)
    (henc : ∀ x, (enc x).size = ps.size)
    (hI : ∀ k A B, I k A → Below w.heap.size A B → I k B) (hIx : ∀ A B, Ix A → Below w.heap.size A B → Ix B) (hRd : ∀ k A, I k A → Rd A)
    (hAx : ∀ x a' A l o o', A.heap[l]? = some o → o.isCells = false → Ax x a' A → Ax x a' (A.putObj l o'))
    (h0 : I 0 w)
    (hassign : ∀ (l k : Nat) (x : β) (W : World) (K : Act → World → Prop), I k W → (∀ a' W', Below W.heap.size W W' → Ax x a' W' → K a' W') → assign.wpIn (Fence.wide.inRound l) (n - 1 - 1) P (Exit.then K (fun _ _ _ => False)) { tmps := (ps.zip (enc x)).foldl (fun t (p, v) => t.setIfInBounds p v) a.tmps, defers := [] } W)
    (hbody : ∀ (l k : Nat) (x : β) (a' : Act) (W : World), xs[k]? = some x → I k W → Ax x a' W → w.heap.size < l → l < W.heap.size → (∃ r, W.heap[l]? = some (.loop r)) → body.wpIn (Fence.wide.inRound l) (n - 1 - 1) P (REnd w.heap.size cx (I (k + 1)) Ix W) a' W)
    (hdone : ∀ (D : Nat) (W : World), w.heap.size ≤ D → I xs.length W → W.heap[D]? = some (.deferred (some [])) → Q .normal { a with defers := { target := .collected D, args := #[] } :: a.defers } W)
    (hstop : ∀ (D : Nat) (W : World), w.heap.size ≤ D → Ix W → W.heap[D]? = some (.deferred (some [])) → cx.wpIn Fence.wide n P Q { a with defers := { target := .collected D, args := #[] } :: a.defers } W) :
    (Code.rangeFunc g ps assign body).wpIn Fence.wide n P Q a w := by
  refine wpIn_rangeFunc ?_
  intro fn hfn
  obtain ⟨rec, hrec⟩ : ∃ rec : LoopState → Option Code → Loop, rec = fun st pe => { state := st, pending := pe, fn, tmps := a.tmps, params := ps, assign, body, defers := w.heap.size } := ⟨_, rfl⟩
  obtain ⟨W1, hW1⟩ : ∃ W1, (w.alloc (.deferred (some []))).alloc (.loop (rec .ready none)) = W1 := ⟨_, rfl⟩
  have hb1 : Below w.heap.size w W1 := by rw [← hW1]; exact (((Below.refl _ w).alloc (Nat.le_refl _) _).alloc (by simp) _)
  have hsz : W1.heap.size = w.heap.size + 2 := by rw [← hW1]; simp
  have hL1 : W1.heap[w.heap.size + 1]? = some (.loop (rec .ready none)) := by
    rw [← hW1]; have := World.alloc_heap_new (w.alloc (.deferred (some []))) (.loop (rec .ready none)); rwa [World.size_alloc] at this
  have hK1 : W1.heap[w.heap.size]? = some (.deferred (some [])) := by
    rw [← hW1]; exact (Below.heap_alloc _ _ _ (by simp)).trans (World.alloc_heap_new w _)
  refine ⟨w.heap.size + 1, [{ target := .collected w.heap.size, args := #[] }], W1, { target := .fn (.func gf) lb, args := #[.func (.yield (w.heap.size + 1)) #[] #[]] }, W1, gf,
    #[.func (.yield (w.heap.size + 1)) #[] #[]] ++ lb, W1, ?_, ?_, fun _ _ => trivial, ?_, (fun h => by cases h), ?_⟩
  · rw [← hW1, hrec]; exact run_enterLoop_outer _ _ _ _ _
  · simp only [resolve, hg]
    simp [go_sem]
  · simp [invoke, go_sem, eg]
  refine callsIn_wide.2 ((hit (w.heap.size + 1) (w.heap.size + 2)
    (fun k W => I k W ∧ W.heap[w.heap.size + 1]? = some (.loop (rec .ready none)) ∧ W.heap[w.heap.size]? = some (.deferred (some [])))
    (fun W => Ix W ∧ W.heap[w.heap.size + 1]? = some (.loop (rec .done (some cx))) ∧ W.heap[w.heap.size]? = some (.deferred (some [])))
    W1 hsz.symm (fun k A B h hb => ⟨hI k A B h.1 (hb.mono (by omega)), (hb.block _ (by omega)).trans h.2.1, (hb.block _ (by omega)).trans h.2.2⟩)
    (fun A B h hb => ⟨hIx A B h.1 (hb.mono (by omega)), (hb.block _ (by omega)).trans h.2.1, (hb.block _ (by omega)).trans h.2.2⟩)
    (fun k A h => ⟨(Array.getElem?_eq_some_iff.1 h.2.1).1, hRd k A h.1⟩) (fun A h => (Array.getElem?_eq_some_iff.1 h.2.1).1) ?_ ⟨hI _ _ _ h0 hb1, hL1, hK1⟩).mono ?_)
  · rintro k x W hx ⟨hi, hl, hk⟩
    have hlt : w.heap.size + 1 < W.heap.size := (Array.getElem?_eq_some_iff.1 hl).1
    have hy := run_yield (P := P) (args := enc x) hl (by rw [hrec]; exact henc x)
    rw [hrec] at hy
    refine ⟨fn, _, assign, body, hy, RoundIn.any (m := n - 1 - 1) (roundIn_of_wpIn hfn (hassign _ k x W _ hi ?_))⟩
    clear hy
    intro a' Wa hba hax
    have hla := (hba.block _ hlt).trans hl
    have hka := (hba.block _ (by omega : w.heap.size < W.heap.size)).trans hk
    have hlta : w.heap.size + 1 < Wa.heap.size := Nat.lt_of_lt_of_le hlt hba.size
    refine ⟨_, run_beginRound hla (by rw [hrec]), ?_⟩
    have hl2 : (Wa.putObj (w.heap.size + 1) (.loop { rec .ready none with state := .busy })).heap[w.heap.size + 1]? = some (.loop { rec .ready none with state := .busy }) := World.putObj_heap_same hlta
    have hk2 : (Wa.putObj (w.heap.size + 1) (.loop { rec .ready none with state := .busy })).heap[w.heap.size]? = some (.deferred (some [])) := (World.putObj_heap_other (by omega)).trans hka
    have hi2 : I k (Wa.putObj (w.heap.size + 1) (.loop { rec .ready none with state := .busy })) := hI _ _ _ (hI _ _ _ hi (hba.mono (by omega))) (below_put _ _ (by omega))
    have hab : Abv (w.heap.size + 2) W (Wa.putObj (w.heap.size + 1) (.loop { rec .ready none with state := .busy })) := (Abv.below hba).trans (Abv.put _ _ (by omega))
    refine wpIn_mono (hbody _ k x _ _ hx hi2 (hAx _ _ _ _ _ _ hla rfl hax) (by omega) (by simpa using hlta) ⟨_, hl2⟩) ?_
    have fin : ∀ (j : Option Code) (W3 : World), Abv w.heap.size (Wa.putObj (w.heap.size + 1) (.loop { rec .ready none with state := .busy })) W3 →
        (Instr.endRound (w.heap.size + 1) j).run P W3 = .ok (.bool j.isNone) (W3.putObj (w.heap.size + 1) (.loop (rec (if j.isNone then .ready else .done) j))) ∧
        Abv (w.heap.size + 2) W (W3.putObj (w.heap.size + 1) (.loop (rec (if j.isNone then .ready else .done) j))) ∧
        (W3.putObj (w.heap.size + 1) (.loop (rec (if j.isNone then .ready else .done) j))).heap[w.heap.size + 1]? = some (.loop (rec (if j.isNone then .ready else .done) j)) ∧
        (W3.putObj (w.heap.size + 1) (.loop (rec (if j.isNone then .ready else .done) j))).heap[w.heap.size]? = some (.deferred (some [])) := fun j W3 ha => by
      have hs2 : w.heap.size + 1 < (Wa.putObj (w.heap.size + 1) (.loop { rec .ready none with state := .busy })).heap.size := by simpa using hlta
      have hl3 := (ha.2 _ (by omega) hs2).trans hl2
      have hk3 := (ha.2 w.heap.size (Nat.le_refl _) (by omega)).trans hk2
      have hr := run_endRound (P := P) j hl3
      rw [hrec] at hr ⊢
      exact ⟨hr, (by rw [hrec] at hab; exact hab.trans ((by rw [hrec] at ha; exact ha.mono (by omega) : Abv (w.heap.size + 2) _ W3).trans (Abv.put _ _ (by omega)))), World.putObj_heap_same (Array.getElem?_eq_some_iff.1 hl3).1, (World.putObj_heap_other (by omega)).trans hk3⟩
    rintro e a3 W3 hp
    cases e with
    | normal =>
      obtain ⟨ha, hi3⟩ := hp
      obtain ⟨hr, hab3, hl4, hk4⟩ := fin none W3 ha
      exact ⟨_, _, hr, hab3, .inl ⟨rfl, hI _ _ _ hi3 (below_put _ _ (by omega)), hl4, hk4⟩⟩
    | ret =>
      obtain ⟨rfl, ha, hi3⟩ := hp
      obtain ⟨hr, hab3, hl4, hk4⟩ := fin (some .ret) W3 ha
      exact ⟨_, _, hr, hab3, .inr ⟨rfl, hIx _ _ hi3 (below_put _ _ (by omega)), hl4, hk4⟩⟩
    | exit id =>
      obtain ⟨rfl, ha, hi3⟩ := hp
      obtain ⟨hr, hab3, hl4, hk4⟩ := fin (some (.exit id)) W3 ha
      exact ⟨_, _, hr, hab3, .inr ⟨rfl, hIx _ _ hi3 (below_put _ _ (by omega)), hl4, hk4⟩⟩
    | goto t => exact hp.elim
    | panic ch => exact hp.elim
    | outgrown => exact hp.elim
  · rintro e W2 ⟨⟨v, rfl⟩, (⟨hi, hl, hk⟩ | ⟨hi, hl, hk⟩)⟩
    · exact ⟨none, _, by have := run_endLoop (P := P) hl (by rw [hrec]; simp); rw [hrec] at this; exact this, hdone _ _ (Nat.le_refl _) (hI _ _ _ hi (below_put _ _ (by omega))) ((World.putObj_heap_other (by omega)).trans hk)⟩
    · exact ⟨some cx, _, by have := run_endLoop (P := P) hl (by rw [hrec]; simp); rw [hrec] at this; exact this, hstop _ _ (Nat.le_refl _) (hIx _ _ hi (below_put _ _ (by omega))) ((World.putObj_heap_other (by omega)).trans hk)⟩

/-- The same within a round of another loop. -/
theorem range_b {P : Program} {n l₀ : Nat} {r₀ : Loop} {β : Type} {g : Operand} {ps : Array Tmp} {assign body : Code} {Q : Exit → Act → World → Prop} {a : Act} {w : World} {gf : Nat} {lb : Array Value} {enc : β → Array Value} {xs : List β} {Rd : World → Prop}
    (hl₀ : w.heap[l₀]? = some (.loop r₀)) (hit : Goes P gf lb enc xs Rd)
    (hg : a.eval g = .func (.func gf) #[] lb) (eg : ∀ args w, (callFunc gf args).run P w = .ok (.enter gf args) w)
    (I : Nat → World → Prop) (Ix : World → Prop) (cx : Code) (Ax : β → Act → World → Prop)
    (henc : ∀ x, (enc x).size = ps.size)
    (hI : ∀ k A B, I k A → Below w.heap.size A B → I k B) (hIx : ∀ A B, Ix A → Below w.heap.size A B → Ix B) (hRd : ∀ k A, I k A → Rd A)
    (hAx : ∀ x a' A l o o', A.heap[l]? = some o → o.isCells = false → Ax x a' A → Ax x a' (A.putObj l o'))
    (h0 : I 0 w)
    (hassign : ∀ (l k : Nat) (x : β) (W : World) (K : Act → World → Prop), I k W → (∀ a' W', Below W.heap.size W W' → Ax x a' W' → K a' W') → assign.wpIn (Fence.wide.inRound l) (n - 1 - 1) P (Exit.then K (fun _ _ _ => False)) { tmps := (ps.zip (enc x)).foldl (fun t (p, v) => t.setIfInBounds p v) a.tmps, defers := [] } W)
    (hbody : ∀ (l k : Nat) (x : β) (a' : Act) (W : World), xs[k]? = some x → I k W → Ax x a' W → w.heap.size ≤ l → l < W.heap.size → (∃ r, W.heap[l]? = some (.loop r)) → body.wpIn (Fence.wide.inRound l) (n - 1 - 1) P (REnd w.heap.size cx (I (k + 1)) Ix W) a' W)
    (hdone : ∀ (W : World), w.heap.size ≤ W.heap.size → I xs.length W → Q .normal a W)
    (hstop : ∀ (W : World), w.heap.size ≤ W.heap.size → Ix W → cx.wpIn (Fence.wide.inRound l₀) n P Q a W) :
    (Code.rangeFunc g ps assign body).wpIn (Fence.wide.inRound l₀) n P Q a w := by
  refine wpIn_rangeFunc ?_
  intro fn hfn
  obtain ⟨rec, hrec⟩ : ∃ rec : LoopState → Option Code → Loop, rec = fun st pe => { state := st, pending := pe, fn, tmps := a.tmps, params := ps, assign, body, defers := r₀.defers } := ⟨_, rfl⟩
  obtain ⟨W1, hW1⟩ : ∃ W1, w.alloc (.loop (rec .ready none)) = W1 := ⟨_, rfl⟩
  have hb1 : Below w.heap.size w W1 := by rw [← hW1]; exact ((Below.refl _ w).alloc (Nat.le_refl _) _)
  have hsz : W1.heap.size = w.heap.size + 1 := by rw [← hW1]; simp
  have hL1 : W1.heap[w.heap.size]? = some (.loop (rec .ready none)) := by rw [← hW1]; exact World.alloc_heap_new w _
  refine ⟨w.heap.size, [], W1, { target := .fn (.func gf) lb, args := #[.func (.yield w.heap.size) #[] #[]] }, W1, gf,
    #[.func (.yield w.heap.size) #[] #[]] ++ lb, W1, ?_, ?_, fun _ _ => trivial, ?_, (fun h => by cases h), ?_⟩
  · rw [← hW1, hrec]; exact run_enterLoop_inner hl₀ _ _ _ _ _
  · simp only [resolve, hg]
    simp [go_sem]
  · simp [invoke, go_sem, eg]
  refine CallsIn.inRound _ (callsIn_wide.2 ((hit w.heap.size (w.heap.size + 1)
    (fun k W => I k W ∧ W.heap[w.heap.size]? = some (.loop (rec .ready none)))
    (fun W => Ix W ∧ W.heap[w.heap.size]? = some (.loop (rec .done (some cx))))
    W1 hsz.symm (fun k A B h hb => ⟨hI k A B h.1 (hb.mono (by omega)), (hb.block _ (by omega)).trans h.2⟩)
    (fun A B h hb => ⟨hIx A B h.1 (hb.mono (by omega)), (hb.block _ (by omega)).trans h.2⟩)
    (fun k A h => ⟨(Array.getElem?_eq_some_iff.1 h.2).1, hRd k A h.1⟩) (fun A h => (Array.getElem?_eq_some_iff.1 h.2).1) ?_ ⟨hI _ _ _ h0 hb1, hL1⟩).mono ?_))
  · rintro k x W hx ⟨hi, hl⟩
    have hlt : w.heap.size < W.heap.size := (Array.getElem?_eq_some_iff.1 hl).1
    have hy := run_yield (P := P) (args := enc x) hl (by rw [hrec]; exact henc x)
    rw [hrec] at hy
    refine ⟨fn, _, assign, body, hy, RoundIn.any (m := n - 1 - 1) (roundIn_of_wpIn hfn (hassign _ k x W _ hi ?_))⟩
    clear hy
    intro a' Wa hba hax
    have hla := (hba.block _ hlt).trans hl
    have hlta : w.heap.size < Wa.heap.size := Nat.lt_of_lt_of_le hlt hba.size
    refine ⟨_, run_beginRound hla (by rw [hrec]), ?_⟩
    have hl2 : (Wa.putObj w.heap.size (.loop { rec .ready none with state := .busy })).heap[w.heap.size]? = some (.loop { rec .ready none with state := .busy }) := World.putObj_heap_same hlta
    have hi2 : I k (Wa.putObj w.heap.size (.loop { rec .ready none with state := .busy })) := hI _ _ _ (hI _ _ _ hi (hba.mono (by omega))) (below_put _ _ (by omega))
    have hab : Abv (w.heap.size + 1) W (Wa.putObj w.heap.size (.loop { rec .ready none with state := .busy })) := (Abv.below hba).trans (Abv.put _ _ (by omega))
    refine wpIn_mono (hbody _ k x _ _ hx hi2 (hAx _ _ _ _ _ _ hla rfl hax) (by omega) (by simpa using hlta) ⟨_, hl2⟩) ?_
    have fin : ∀ (j : Option Code) (W3 : World), Abv w.heap.size (Wa.putObj w.heap.size (.loop { rec .ready none with state := .busy })) W3 →
        (Instr.endRound w.heap.size j).run P W3 = .ok (.bool j.isNone) (W3.putObj w.heap.size (.loop (rec (if j.isNone then .ready else .done) j))) ∧
        Abv (w.heap.size + 1) W (W3.putObj w.heap.size (.loop (rec (if j.isNone then .ready else .done) j))) ∧
        (W3.putObj w.heap.size (.loop (rec (if j.isNone then .ready else .done) j))).heap[w.heap.size]? = some (.loop (rec (if j.isNone then .ready else .done) j)) := fun j W3 ha => by
      have hs2 : w.heap.size < (Wa.putObj w.heap.size (.loop { rec .ready none with state := .busy })).heap.size := by simpa using hlta
      have hl3 := (ha.2 _ (by omega) hs2).trans hl2
      have hr := run_endRound (P := P) j hl3
      rw [hrec] at hr ⊢
      exact ⟨hr, (by rw [hrec] at hab; exact hab.trans ((by rw [hrec] at ha; exact ha.mono (by omega) : Abv (w.heap.size + 1) _ W3).trans (Abv.put _ _ (by omega)))), World.putObj_heap_same (Array.getElem?_eq_some_iff.1 hl3).1⟩
    rintro e a3 W3 hp
    cases e with
    | normal =>
      obtain ⟨ha, hi3⟩ := hp
      obtain ⟨hr, hab3, hl4⟩ := fin none W3 ha
      exact ⟨_, _, hr, hab3, .inl ⟨rfl, hI _ _ _ hi3 (below_put _ _ (by omega)), hl4⟩⟩
    | ret =>
      obtain ⟨rfl, ha, hi3⟩ := hp
      obtain ⟨hr, hab3, hl4⟩ := fin (some .ret) W3 ha
      exact ⟨_, _, hr, hab3, .inr ⟨rfl, hIx _ _ hi3 (below_put _ _ (by omega)), hl4⟩⟩
    | exit id =>
      obtain ⟨rfl, ha, hi3⟩ := hp
      obtain ⟨hr, hab3, hl4⟩ := fin (some (.exit id)) W3 ha
      exact ⟨_, _, hr, hab3, .inr ⟨rfl, hIx _ _ hi3 (below_put _ _ (by omega)), hl4⟩⟩
    | goto t => exact hp.elim
    | panic ch => exact hp.elim
    | outgrown => exact hp.elim
  · rintro e W2 ⟨⟨v, rfl⟩, (⟨hi, hl⟩ | ⟨hi, hl⟩)⟩
    · exact ⟨none, _, by have := run_endLoop (P := P) hl (by rw [hrec]; simp); rw [hrec] at this; exact this, hdone _ (by have := (Array.getElem?_eq_some_iff.1 hl).1; simp; omega) (hI _ _ _ hi (below_put _ _ (by omega)))⟩
    · exact ⟨some cx, _, by have := run_endLoop (P := P) hl (by rw [hrec]; simp); rw [hrec] at this; exact this, hstop _ (by have := (Array.getElem?_eq_some_iff.1 hl).1; simp; omega) (hIx _ _ hi (below_put _ _ (by omega)))⟩
/-- What is no cells, from a block on, lies as it lay. -/
def Kf (B : Nat) (W W' : World) : Prop := ∀ (k : Nat) (o : Obj), B ≤ k → W.heap[k]? = some o → o.isCells = false → W'.heap[k]? = some o
/-- How a round may end that never leaves the loop. -/
def REndL (B : Nat) (T : TypeId) (J : World → Prop) (W : World) : Exit → Act → World → Prop
  | .normal, _, W' => Kf B W W' ∧ KT T B W W' ∧ J W'
  | _, _, _ => False
theorem kt_put {T : TypeId} {B l : Nat} {W : World} {o : Obj} (hl : W.heap[l]? = some o) (ho : o.isCells = false) (o' : Obj) : KT T B W (W.putObj l o') := fun q cs fr hq hc => by
  have hne : q ≠ l := fun e => by
    subst e
    rw [hl] at hc
    cases hc
    cases ho
  exact (World.putObj_heap_other hne).trans hc
/-- A loop whose rounds make memory that is kept: over an iterator that only makes new memory. -/
theorem range_l {P : Program} {n : Nat} {β : Type} {g : Operand} {ps : Array Tmp} {assign body : Code} {Q : Exit → Act → World → Prop} {a : Act} {w : World} {gf : Nat} {lb : Array Value} {enc : β → Array Value} {xs : List β} {Rd : World → Prop} {T : TypeId}
    (hit : GoesL P gf lb enc xs Rd T)
    (hg : a.eval g = .func (.func gf) #[] lb) (eg : ∀ args w, (callFunc gf args).run P w = .ok (.enter gf args) w)
    (I : Nat → World → Prop) (a1 : β → Act)
    (henc : ∀ x, (enc x).size = ps.size)
    (hassign : ∀ (l : Nat) (x : β) (W : World) (K : Act → World → Prop), K (a1 x) W → assign.wpIn (Fence.wide.inRound l) (n - 1 - 1) P (Exit.then K (fun _ _ _ => False)) { tmps := (ps.zip (enc x)).foldl (fun t (p, v) => t.setIfInBounds p v) a.tmps, defers := [] } W)
    (hIb : ∀ k A B, I k A → Below A.heap.size A B → I k B) (hIp : ∀ k A l o o', w.heap.size ≤ l → A.heap[l]? = some o → o.isCells = false → I k A → I k (A.putObj l o')) (hRd : ∀ k A, I k A → Rd A)
    (h0 : I 0 w)
    (hbody : ∀ (l k : Nat) (x : β) (W : World), xs[k]? = some x → I k W → body.wpIn (Fence.wide.inRound l) (n - 1 - 1) P (REndL w.heap.size T (I (k + 1)) W) (a1 x) W)
    (hdone : ∀ (D : Nat) (W : World), w.heap.size ≤ D → I xs.length W → W.heap[D]? = some (.deferred (some [])) → Q .normal { a with defers := { target := .collected D, args := #[] } :: a.defers } W) :
    (Code.rangeFunc g ps assign body).wpIn Fence.wide n P Q a w := by
  refine wpIn_rangeFunc ?_
  intro fn hfn
  obtain ⟨rec, hrec⟩ : ∃ rec : LoopState → Option Code → Loop, rec = fun st pe => { state := st, pending := pe, fn, tmps := a.tmps, params := ps, assign, body, defers := w.heap.size } := ⟨_, rfl⟩
  obtain ⟨W1, hW1⟩ : ∃ W1, (w.alloc (.deferred (some []))).alloc (.loop (rec .ready none)) = W1 := ⟨_, rfl⟩
  have hsz : W1.heap.size = w.heap.size + 2 := by rw [← hW1]; simp
  have hI1 : I 0 W1 := by rw [← hW1]; exact hIb _ _ _ (hIb _ _ _ h0 ((Below.refl _ w).alloc (Nat.le_refl _) _)) ((Below.refl _ _).alloc (Nat.le_refl _) _)
  have hL1 : W1.heap[w.heap.size + 1]? = some (.loop (rec .ready none)) := by
    rw [← hW1]; have := World.alloc_heap_new (w.alloc (.deferred (some []))) (.loop (rec .ready none)); rwa [World.size_alloc] at this
  have hK1 : W1.heap[w.heap.size]? = some (.deferred (some [])) := by
    rw [← hW1]; exact (Below.heap_alloc _ _ _ (by simp)).trans (World.alloc_heap_new w _)
  refine ⟨w.heap.size + 1, [{ target := .collected w.heap.size, args := #[] }], W1, { target := .fn (.func gf) lb, args := #[.func (.yield (w.heap.size + 1)) #[] #[]] }, W1, gf,
    #[.func (.yield (w.heap.size + 1)) #[] #[]] ++ lb, W1, ?_, ?_, fun _ _ => trivial, ?_, (fun h => by cases h), ?_⟩
  · rw [← hW1, hrec]; exact run_enterLoop_outer _ _ _ _ _
  · simp only [resolve, hg]
    simp [go_sem]
  · simp [invoke, go_sem, eg]
  refine callsIn_wide.2 ((hit (w.heap.size + 1) (w.heap.size + 2)
    (fun k W => I k W ∧ W.heap[w.heap.size + 1]? = some (.loop (rec .ready none)) ∧ W.heap[w.heap.size]? = some (.deferred (some [])))
    (fun W => False)
    W1 hsz.symm (fun k A B h hb => ⟨hIb k A B h.1 hb, (hb.block _ (Array.getElem?_eq_some_iff.1 h.2.1).1).trans h.2.1, (hb.block _ (Array.getElem?_eq_some_iff.1 h.2.2).1).trans h.2.2⟩)
    (fun k A h => hRd k A h.1) ?_ ⟨hI1, hL1, hK1⟩).mono ?_)
  · rintro k x W hx ⟨hi, hl, hk⟩
    have hlt : w.heap.size + 1 < W.heap.size := (Array.getElem?_eq_some_iff.1 hl).1
    have hy := run_yield (P := P) (args := enc x) hl (by rw [hrec]; exact henc x)
    rw [hrec] at hy
    refine ⟨fn, _, assign, body, hy, RoundIn.any (m := n - 1 - 1) (roundIn_of_wpIn hfn (hassign _ x W _ ?_))⟩
    clear hy
    refine ⟨_, run_beginRound hl (by rw [hrec]), ?_⟩
    have hl2 : (W.putObj (w.heap.size + 1) (.loop { rec .ready none with state := .busy })).heap[w.heap.size + 1]? = some (.loop { rec .ready none with state := .busy }) := World.putObj_heap_same hlt
    have hk2 : (W.putObj (w.heap.size + 1) (.loop { rec .ready none with state := .busy })).heap[w.heap.size]? = some (.deferred (some [])) := (World.putObj_heap_other (by omega)).trans hk
    have hi2 : I k (W.putObj (w.heap.size + 1) (.loop { rec .ready none with state := .busy })) := hIp _ _ _ _ _ (by omega) hl rfl hi
    have ht2 : KT T (w.heap.size + 2) W (W.putObj (w.heap.size + 1) (.loop { rec .ready none with state := .busy })) := kt_put hl rfl _
    refine wpIn_mono (hbody _ k x _ hx hi2) ?_
    rintro e a3 W3 hp
    cases e with
    | normal =>
      obtain ⟨hkf, hkt, hi3⟩ := hp
      have hl3 := hkf _ _ (by omega) hl2 rfl
      have hk3 := hkf _ _ (Nat.le_refl _) hk2 rfl
      have hr := run_endRound (P := P) none hl3
      rw [hrec] at hr
      refine ⟨_, _, hr, ?_, .inl ⟨rfl, hIp _ _ _ _ _ (by omega) hl3 rfl hi3, ?_, (World.putObj_heap_other (by omega)).trans hk3⟩⟩
      · intro q cs fr hq hc
        exact kt_put (B := w.heap.size) hl3 rfl _ q cs fr (by omega) (hkt q cs fr (by omega) (ht2 q cs fr hq hc))
      · rw [hrec]
        exact World.putObj_heap_same (Array.getElem?_eq_some_iff.1 hl3).1
    | ret => exact hp.elim
    | exit id => exact hp.elim
    | goto t => exact hp.elim
    | panic ch => exact hp.elim
    | outgrown => exact hp.elim
  · rintro e W2 ⟨⟨v, rfl⟩, (⟨hi, hl, hk⟩ | h)⟩
    · exact ⟨none, _, by have := run_endLoop (P := P) hl (by rw [hrec]; simp); rw [hrec] at this; exact this, hdone _ _ (Nat.le_refl _) (hIp _ _ _ _ _ (by omega) hl rfl hi) ((World.putObj_heap_other (by omega)).trans hk)⟩
    · exact h.elim
/-- Where the loop's variable is no box: what is assigned is told by a1. -/
theorem range_a1 {P : Program} {n : Nat} {β : Type} {g : Operand} {ps : Array Tmp} {assign body : Code} {Q : Exit → Act → World → Prop} {a : Act} {w : World} {gf : Nat} {lb : Array Value} {enc : β → Array Value} {xs : List β} {Rd : World → Prop}
    (hit : Goes P gf lb enc xs Rd)
    (hg : a.eval g = .func (.func gf) #[] lb) (eg : ∀ args w, (callFunc gf args).run P w = .ok (.enter gf args) w)
    (I : Nat → World → Prop) (Ix : World → Prop) (cx : Code) (a1 : β → Act)
    (henc : ∀ x, (enc x).size = ps.size)
    (hassign : ∀ (l : Nat) (x : β) (W : World) (K : Act → World → Prop), K (a1 x) W → assign.wpIn (Fence.wide.inRound l) (n - 1 - 1) P (Exit.then K (fun _ _ _ => False)) { tmps := (ps.zip (enc x)).foldl (fun t (p, v) => t.setIfInBounds p v) a.tmps, defers := [] } W)
    (hI : ∀ k A B, I k A → Below w.heap.size A B → I k B) (hIx : ∀ A B, Ix A → Below w.heap.size A B → Ix B) (hRd : ∀ k A, I k A → Rd A)
    (h0 : I 0 w)
    (hbody : ∀ (l k : Nat) (x : β) (W : World), xs[k]? = some x → I k W → w.heap.size < l → l < W.heap.size → (∃ r, W.heap[l]? = some (.loop r)) → body.wpIn (Fence.wide.inRound l) (n - 1 - 1) P (REnd w.heap.size cx (I (k + 1)) Ix W) (a1 x) W)
    (hdone : ∀ (D : Nat) (W : World), w.heap.size ≤ D → I xs.length W → W.heap[D]? = some (.deferred (some [])) → Q .normal { a with defers := { target := .collected D, args := #[] } :: a.defers } W)
    (hstop : ∀ (D : Nat) (W : World), w.heap.size ≤ D → Ix W → W.heap[D]? = some (.deferred (some [])) → cx.wpIn Fence.wide n P Q { a with defers := { target := .collected D, args := #[] } :: a.defers } W) :
    (Code.rangeFunc g ps assign body).wpIn Fence.wide n P Q a w :=
  range_a hit hg eg I Ix cx (fun x a' _ => a' = a1 x) henc hI hIx hRd (fun _ _ _ _ _ _ _ _ h => h) h0
    (fun l k x W K _ hK => hassign l x W K (hK _ _ (Below.refl _ _) rfl)) (fun l k x a' W hx hi e h1 h2 hr => by subst e; exact hbody l k x W hx hi h1 h2 hr) hdone hstop
theorem range_b1 {P : Program} {n l₀ : Nat} {r₀ : Loop} {β : Type} {g : Operand} {ps : Array Tmp} {assign body : Code} {Q : Exit → Act → World → Prop} {a : Act} {w : World} {gf : Nat} {lb : Array Value} {enc : β → Array Value} {xs : List β} {Rd : World → Prop}
    (hl₀ : w.heap[l₀]? = some (.loop r₀)) (hit : Goes P gf lb enc xs Rd)
    (hg : a.eval g = .func (.func gf) #[] lb) (eg : ∀ args w, (callFunc gf args).run P w = .ok (.enter gf args) w)
    (I : Nat → World → Prop) (Ix : World → Prop) (cx : Code) (a1 : β → Act)
    (henc : ∀ x, (enc x).size = ps.size)
    (hassign : ∀ (l : Nat) (x : β) (W : World) (K : Act → World → Prop), K (a1 x) W → assign.wpIn (Fence.wide.inRound l) (n - 1 - 1) P (Exit.then K (fun _ _ _ => False)) { tmps := (ps.zip (enc x)).foldl (fun t (p, v) => t.setIfInBounds p v) a.tmps, defers := [] } W)
    (hI : ∀ k A B, I k A → Below w.heap.size A B → I k B) (hIx : ∀ A B, Ix A → Below w.heap.size A B → Ix B) (hRd : ∀ k A, I k A → Rd A)
    (h0 : I 0 w)
    (hbody : ∀ (l k : Nat) (x : β) (W : World), xs[k]? = some x → I k W → w.heap.size ≤ l → l < W.heap.size → (∃ r, W.heap[l]? = some (.loop r)) → body.wpIn (Fence.wide.inRound l) (n - 1 - 1) P (REnd w.heap.size cx (I (k + 1)) Ix W) (a1 x) W)
    (hdone : ∀ (W : World), w.heap.size ≤ W.heap.size → I xs.length W → Q .normal a W)
    (hstop : ∀ (W : World), w.heap.size ≤ W.heap.size → Ix W → cx.wpIn (Fence.wide.inRound l₀) n P Q a W) :
    (Code.rangeFunc g ps assign body).wpIn (Fence.wide.inRound l₀) n P Q a w :=
  range_b hl₀ hit hg eg I Ix cx (fun x a' _ => a' = a1 x) henc hI hIx hRd (fun _ _ _ _ _ _ _ _ h => h) h0
    (fun l k x W K _ hK => hassign l x W K (hK _ _ (Below.refl _ _) rfl)) (fun l k x a' W hx hi e h1 h2 hr => by subst e; exact hbody l k x W hx hi h1 h2 hr) hdone hstop
end Go.Proofs.YtljgpngbkmembaaDoor
