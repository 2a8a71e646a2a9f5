/- What the laws' live answers: true. (Written by gen_crossed.py.) -/
import Derived.Test.YtneclfaamgfoeaaDoorEAw
namespace Go.Proofs.YtneclfaamgfoeaaDoor
open Go.RowKit Go.Maps
set_option linter.unusedVariables false
set_option linter.unusedSimpArgs false

theorem BS.app {w x Y : World} {rs : List Row} {bs : List (Nat × List Value)} (h : BS w x rs bs) (A : Array Value) (ty : TypeId) {k : Nat} {r : Row} (hk : rs[k]? = some r) {x' n cp : Nat} {cs : List Value} (ho : Y.ownsRow w.heap.size r.ty r.k (.slice (some ⟨x', 0, none⟩) n cp) n cs) (hg : (x.alloc (.cells A ty)).grownBy Y r.v.ownBlock) (hat : r.v.ownBlock = some x' ∨ x' = x.heap.size + 1) : BS w Y (rs.set k ⟨r.ty, r.k, .slice (some ⟨x', 0, none⟩) n cp, n, cs⟩) bs := by
  refine ((h.alloc A ty).drop).push hk ho hg (fun g e => ?_)
  have hx : x' = g := by simpa [Value.ownBlock] using e
  subst hx
  rcases hat with h1 | h1
  · exact .inl h1
  · exact .inr (by simp; omega)
abbrev zI : List Value := [.string { data := #[] }, .slice none 0 0, .slice none 0 0]
/-- The image that is being made. -/
def CB (w wq : World) (lv sv : Value) (k : Nat) : Prop := BS w wq [⟨101, 4, lv, (qsX k).length, (qsX k).flatMap qC⟩, ⟨64, 3, sv, (symX k).length, (symX k).flatMap sC⟩] [(w.heap.size + 1 + 1, [.string { data := #[] }, .slice (some ⟨w.heap.size + 1, 0, none⟩) 2 2, sv]), (w.heap.size + 1, [.int .i64 0, .int .i64 0]), (w.heap.size, zI)]
def CrossIs (e : Ending) (w' : World) : Prop := ∃ v, e = .returned v ∧ ImgV w' v imX
theorem syms_own {w : World} {B : Nat} {v : Value} {n : Nat} {ss : List Sym} (h : w.ownsRow B 64 3 v n (ss.flatMap sC)) (hn : ss.length = n) (hf : ∀ s ∈ ss, s.name.size ≤ maxLen ∧ (Lit.int .i64 s.kind).wf = true ∧ (Lit.int .i64 s.pos).wf = true) : ∃ a c, v = .slice a n c ∧ SymsV w a n c ss := by
  obtain ⟨a, c, rfl, h1, h2⟩ := row_at (m := 3) (f := sC) noSym (fun _ => rfl) h hn
  obtain ⟨a', c', e, h3, h4⟩ := own_sl h
  cases e
  refine ⟨a, c, rfl, ⟨hn, hf, h1, ⟨h3, h4⟩, ?_⟩⟩
  rcases h2 with h2 | ⟨b, off, rfl, h2⟩
  · exact .inl h2
  · exact .inr ⟨b, off, rfl, fun i hi => ⟨by have := h2 i hi 0 _ (by decide) rfl; simpa using this, h2 i hi 1 _ (by decide) rfl, h2 i hi 2 _ (by decide) rfl⟩⟩
theorem symX_fit : ∀ s ∈ symX 2, s.name.size ≤ maxLen ∧ (Lit.int .i64 s.kind).wf = true ∧ (Lit.int .i64 s.pos).wf = true := by decide +kernel

theorem qsX_sz1 : ∀ k, (codeQ ((qsX 1).take k)).size ≤ 100000 := fun k => by
  by_cases h : k ≤ 7
  · have : ∀ n, n ≤ 7 → (codeQ ((qsX 1).take n)).size ≤ 100000 := by decide +kernel
    exact this k h
  · rw [List.take_of_length_le (by show 7 ≤ k; omega), codeX_1]; decide
theorem qsX_sz2 : ∀ k, (codeQ ((qsX 2).take k)).size ≤ 100000 := fun k => by
  by_cases h : k ≤ 14
  · exact codeX_size k h
  · rw [List.take_of_length_le (by show 14 ≤ k; omega)]; exact codeX_size 14 (by omega)

set_option maxRecDepth 100000 in
theorem symX_s0 : (symX 1).flatMap sC = (symX 0).flatMap sC ++ [.string { data := #[116] }, .int .i64 3, .int .i64 0] := rfl
theorem qsX_s0 : (qsX 1).flatMap qC = (qsX 0).flatMap qC ++ [.int .i64 19, .int .i64 1, .int .i64 0, .int .i64 1048576, .int .i64 1, .int .i64 2, .int .i64 0, .int .i64 1, .int .i64 18, .int .i64 1, .int .i64 2, .int .i64 0, .int .i64 19, .int .i64 1, .int .i64 0, .int .i64 1048584, .int .i64 17, .int .i64 3, .int .i64 1, .int .i64 0, .int .i64 31, .int .i64 3, .int .i64 0, .int .i64 0, .int .i64 32, .int .i64 0, .int .i64 0, .int .i64 0] := rfl
theorem cb_sym0 {w wq Y : World} {lv sv : Value} (h : CB w wq lv sv 0) {x cp : Nat} (ho : Y.ownsRow w.heap.size 64 3 (.slice (some ⟨x, 0, none⟩) 1 cp) 1 ((symX 0).flatMap sC ++ [.string { data := #[116] }, .int .i64 3, .int .i64 0])) (hg : (wq.alloc (.cells #[.string { data := #[116] }, .int .i64 3, .int .i64 0] 64)).grownBy Y sv.ownBlock) (hat : sv.ownBlock = some x ∨ x = wq.heap.size + 1) :
    BS w (Y.setCell ⟨w.heap.size + 1 + 1, 2, none⟩ (.slice (some ⟨x, 0, none⟩) 1 cp)) [⟨101, 4, lv, (qsX 0).length, (qsX 0).flatMap qC⟩, ⟨64, 3, .slice (some ⟨x, 0, none⟩) 1 cp, (symX 1).length, (symX 1).flatMap sC⟩] [(w.heap.size + 1 + 1, [.string { data := #[] }, .slice (some ⟨w.heap.size + 1, 0, none⟩) 2 2, .slice (some ⟨x, 0, none⟩) 1 cp]), (w.heap.size + 1, [.int .i64 0, .int .i64 0]), (w.heap.size, zI)] := by
  rw [← symX_s0] at ho
  have h1 := BS.app h #[.string { data := #[116] }, .int .i64 3, .int .i64 0] 64 (k := 1) (r := ⟨64, 3, sv, (symX 0).length, (symX 0).flatMap sC⟩) rfl ho hg hat
  exact h1.put 0 (w.heap.size + 1 + 1) ([.string { data := #[] }, .slice (some ⟨w.heap.size + 1, 0, none⟩) 2 2, sv]) rfl 2 (by simp) (.slice (some ⟨x, 0, none⟩) 1 cp)
theorem cb_ins0 {w wq Y : World} {lv sv : Value} (h : BS w wq [⟨101, 4, lv, (qsX 0).length, (qsX 0).flatMap qC⟩, ⟨64, 3, sv, (symX 1).length, (symX 1).flatMap sC⟩] [(w.heap.size + 1 + 1, [.string { data := #[] }, .slice (some ⟨w.heap.size + 1, 0, none⟩) 2 2, sv]), (w.heap.size + 1, [.int .i64 0, .int .i64 0]), (w.heap.size, zI)]) {x cp : Nat} (ho : Y.ownsRow w.heap.size 101 4 (.slice (some ⟨x, 0, none⟩) 7 cp) 7 ((qsX 0).flatMap qC ++ [.int .i64 19, .int .i64 1, .int .i64 0, .int .i64 1048576, .int .i64 1, .int .i64 2, .int .i64 0, .int .i64 1, .int .i64 18, .int .i64 1, .int .i64 2, .int .i64 0, .int .i64 19, .int .i64 1, .int .i64 0, .int .i64 1048584, .int .i64 17, .int .i64 3, .int .i64 1, .int .i64 0, .int .i64 31, .int .i64 3, .int .i64 0, .int .i64 0, .int .i64 32, .int .i64 0, .int .i64 0, .int .i64 0])) (hg : (wq.alloc (.cells #[.int .i64 19, .int .i64 1, .int .i64 0, .int .i64 1048576, .int .i64 1, .int .i64 2, .int .i64 0, .int .i64 1, .int .i64 18, .int .i64 1, .int .i64 2, .int .i64 0, .int .i64 19, .int .i64 1, .int .i64 0, .int .i64 1048584, .int .i64 17, .int .i64 3, .int .i64 1, .int .i64 0, .int .i64 31, .int .i64 3, .int .i64 0, .int .i64 0, .int .i64 32, .int .i64 0, .int .i64 0, .int .i64 0] 101)).grownBy Y lv.ownBlock) (hat : lv.ownBlock = some x ∨ x = wq.heap.size + 1) : CB w Y (.slice (some ⟨x, 0, none⟩) 7 cp) sv 1 := by
  rw [← qsX_s0] at ho
  exact BS.app h #[.int .i64 19, .int .i64 1, .int .i64 0, .int .i64 1048576, .int .i64 1, .int .i64 2, .int .i64 0, .int .i64 1, .int .i64 18, .int .i64 1, .int .i64 2, .int .i64 0, .int .i64 19, .int .i64 1, .int .i64 0, .int .i64 1048584, .int .i64 17, .int .i64 3, .int .i64 1, .int .i64 0, .int .i64 31, .int .i64 3, .int .i64 0, .int .i64 0, .int .i64 32, .int .i64 0, .int .i64 0, .int .i64 0] 101 (k := 0) (r := ⟨101, 4, lv, (qsX 0).length, (qsX 0).flatMap qC⟩) rfl ho hg hat

set_option maxRecDepth 100000 in
theorem symX_s1 : (symX 2).flatMap sC = (symX 1).flatMap sC ++ [.string { data := #[116] }, .int .i64 3, .int .i64 37] := by show (sC _ ++ (sC ⟨_, _, ((codeQ (qsX 1)).size : Int)⟩ ++ [])) = _; rw [codeX_1]; rfl
theorem qsX_s1 : (qsX 2).flatMap qC = (qsX 1).flatMap qC ++ [.int .i64 19, .int .i64 1, .int .i64 0, .int .i64 1048584, .int .i64 1, .int .i64 2, .int .i64 0, .int .i64 1, .int .i64 18, .int .i64 1, .int .i64 2, .int .i64 0, .int .i64 19, .int .i64 1, .int .i64 0, .int .i64 1048576, .int .i64 17, .int .i64 3, .int .i64 1, .int .i64 0, .int .i64 31, .int .i64 3, .int .i64 0, .int .i64 0, .int .i64 32, .int .i64 0, .int .i64 0, .int .i64 0] := rfl
theorem cb_sym1 {w wq Y : World} {lv sv : Value} (h : CB w wq lv sv 1) {x cp : Nat} (ho : Y.ownsRow w.heap.size 64 3 (.slice (some ⟨x, 0, none⟩) 2 cp) 2 ((symX 1).flatMap sC ++ [.string { data := #[116] }, .int .i64 3, .int .i64 37])) (hg : (wq.alloc (.cells #[.string { data := #[116] }, .int .i64 3, .int .i64 37] 64)).grownBy Y sv.ownBlock) (hat : sv.ownBlock = some x ∨ x = wq.heap.size + 1) :
    BS w (Y.setCell ⟨w.heap.size + 1 + 1, 2, none⟩ (.slice (some ⟨x, 0, none⟩) 2 cp)) [⟨101, 4, lv, (qsX 1).length, (qsX 1).flatMap qC⟩, ⟨64, 3, .slice (some ⟨x, 0, none⟩) 2 cp, (symX 2).length, (symX 2).flatMap sC⟩] [(w.heap.size + 1 + 1, [.string { data := #[] }, .slice (some ⟨w.heap.size + 1, 0, none⟩) 2 2, .slice (some ⟨x, 0, none⟩) 2 cp]), (w.heap.size + 1, [.int .i64 0, .int .i64 0]), (w.heap.size, zI)] := by
  rw [← symX_s1] at ho
  have h1 := BS.app h #[.string { data := #[116] }, .int .i64 3, .int .i64 37] 64 (k := 1) (r := ⟨64, 3, sv, (symX 1).length, (symX 1).flatMap sC⟩) rfl ho hg hat
  exact h1.put 0 (w.heap.size + 1 + 1) ([.string { data := #[] }, .slice (some ⟨w.heap.size + 1, 0, none⟩) 2 2, sv]) rfl 2 (by simp) (.slice (some ⟨x, 0, none⟩) 2 cp)
theorem cb_ins1 {w wq Y : World} {lv sv : Value} (h : BS w wq [⟨101, 4, lv, (qsX 1).length, (qsX 1).flatMap qC⟩, ⟨64, 3, sv, (symX 2).length, (symX 2).flatMap sC⟩] [(w.heap.size + 1 + 1, [.string { data := #[] }, .slice (some ⟨w.heap.size + 1, 0, none⟩) 2 2, sv]), (w.heap.size + 1, [.int .i64 0, .int .i64 0]), (w.heap.size, zI)]) {x cp : Nat} (ho : Y.ownsRow w.heap.size 101 4 (.slice (some ⟨x, 0, none⟩) 14 cp) 14 ((qsX 1).flatMap qC ++ [.int .i64 19, .int .i64 1, .int .i64 0, .int .i64 1048584, .int .i64 1, .int .i64 2, .int .i64 0, .int .i64 1, .int .i64 18, .int .i64 1, .int .i64 2, .int .i64 0, .int .i64 19, .int .i64 1, .int .i64 0, .int .i64 1048576, .int .i64 17, .int .i64 3, .int .i64 1, .int .i64 0, .int .i64 31, .int .i64 3, .int .i64 0, .int .i64 0, .int .i64 32, .int .i64 0, .int .i64 0, .int .i64 0])) (hg : (wq.alloc (.cells #[.int .i64 19, .int .i64 1, .int .i64 0, .int .i64 1048584, .int .i64 1, .int .i64 2, .int .i64 0, .int .i64 1, .int .i64 18, .int .i64 1, .int .i64 2, .int .i64 0, .int .i64 19, .int .i64 1, .int .i64 0, .int .i64 1048576, .int .i64 17, .int .i64 3, .int .i64 1, .int .i64 0, .int .i64 31, .int .i64 3, .int .i64 0, .int .i64 0, .int .i64 32, .int .i64 0, .int .i64 0, .int .i64 0] 101)).grownBy Y lv.ownBlock) (hat : lv.ownBlock = some x ∨ x = wq.heap.size + 1) : CB w Y (.slice (some ⟨x, 0, none⟩) 14 cp) sv 2 := by
  rw [← qsX_s1] at ho
  exact BS.app h #[.int .i64 19, .int .i64 1, .int .i64 0, .int .i64 1048584, .int .i64 1, .int .i64 2, .int .i64 0, .int .i64 1, .int .i64 18, .int .i64 1, .int .i64 2, .int .i64 0, .int .i64 19, .int .i64 1, .int .i64 0, .int .i64 1048576, .int .i64 17, .int .i64 3, .int .i64 1, .int .i64 0, .int .i64 31, .int .i64 3, .int .i64 0, .int .i64 0, .int .i64 32, .int .i64 0, .int .i64 0, .int .i64 0] 101 (k := 0) (r := ⟨101, 4, lv, (qsX 1).length, (qsX 1).flatMap qC⟩) rfl ho hg hat

set_option maxRecDepth 100000 in
set_option maxHeartbeats 16000000 in
theorem crossed_any (w : World) : Calls Tryd.prog 31 #[] w fun e w' => CrossIs e w' ∧ Below w.heap.size w w' := by
  obtain ⟨is', his, hs0, hs1, hs2⟩ := info_partsL infoS
  obtain ⟨iq, hiq, hq0, hq1, hq2⟩ := info_partsL infoQ
  have HCB0 : Hid (CB w (((w.alloc (.cells #[.string { data := #[] }, .slice none 0 0, .slice none 0 0] 25)).alloc (.cells #[.int .i64 0, .int .i64 0] 2)).alloc (.cells #[.string { data := #[] }, .slice (some ⟨w.heap.size + 1, 0, none⟩) 2 2, .slice none 0 0] 25)) (.slice none 0 0) (.slice none 0 0) 0) := by
    have h1 := ((((BS.start w).alloc #[.string { data := #[] }, .slice none 0 0, .slice none 0 0] 25).alloc #[.int .i64 0, .int .i64 0] 2).alloc #[.string { data := #[] }, .slice (some ⟨w.heap.size + 1, 0, none⟩) 2 2, .slice none 0 0] 25)
    have h2 := (h1.nil 64 3).nil 101 4
    simp only [World.size_alloc] at h2
    exact h2
  go_enter Tryd.func31, Tryd.ntmps31
  go_wp2_with fail
  go_loopg [1, 2, 4] 2 (fun r lv av tv wq => ∃ (k : Nat) (sv : Value), tv = .int .i64 k ∧ av = .int .i64 (37 * k : Nat) ∧ k ≤ 2 ∧ 2 - k ≤ r ∧ Hid (CB w wq lv sv k))
  case atStart => exact ⟨0, _, rfl, rfl, by omega, by omega, HCB0⟩
  case round =>
    obtain ⟨k, sv, rfl, rfl, hk, hr, HCB⟩ := hrel
    rcases (show k = 0 ∨ k = 1 ∨ k = 2 by omega) with rfl | rfl | rfl
    · simp only [Nat.mul_zero]
      have hS : wr.ownsRow w.heap.size 64 3 sv 0 ((symX 0).flatMap sC) := HCB.out.own 1 _ rfl
      have hL : wr.ownsRow w.heap.size 101 4 u1 0 ((qsX 0).flatMap qC) := HCB.out.own 0 _ rfl
      obtain ⟨ax, cs, rfl, hnc, hcm⟩ := own_sl hS
      obtain ⟨al, cl, rfl, hnl, hcl⟩ := own_sl hL
      clear hS hL
      have b2 := (HCB.out.box 0 _ rfl).1 2 _ rfl
      have f2 := (HCB.out.box 0 _ rfl).2.1 2
      have hwl : w.heap.size + 1 + 1 < wr.heap.size := (HCB.out.box 0 _ rfl).2.2.1
      change wr.cell? ⟨w.heap.size + 1 + 1, 2, none⟩ = some (.slice ax 0 cs) at b2
      change wr.frozen? ⟨w.heap.size + 1 + 1, 2, none⟩ = false at f2
      change 0 ≤ cs at hnc
      change 0 ≤ cl at hnl
      have HB1 : Hid (Below wr.heap.size wr (wr.alloc (.cells #[.string { data := #[116] }, .int .i64 3, .int .i64 0] 64))) := bl_one _ _
      have HW1 : Hid ((wr.alloc (.cells #[.string { data := #[116] }, .int .i64 3, .int .i64 0] 64)).ownsRow w.heap.size 64 3 (.slice ax 0 cs) 0 ((symX 0).flatMap sC)) := own_below (HCB.out.own 1 _ rfl) HB1.out
      have HNC : Hid (∀ j u, ([.string { data := #[116] }, .int .i64 3, .int .i64 0] : List Value)[j]? = some u → (wr.alloc (.cells #[.string { data := #[116] }, .int .i64 3, .int .i64 0] 64)).cell? ((⟨wr.heap.size, 0, none⟩ : Addr).add j) = some u) := fun j u hu => by
        rw [Addr.add_lit, Nat.zero_add]
        exact cell_last _ _ _ _ _ rfl (by simpa using hu)
      have hvb : (Value.slice ax 0 cs).ownBlock ≠ some (w.heap.size + 1 + 1) := HCB.out.far 0 1 _ _ rfl rfl
      have b2' := cell_up HB1.out b2
      have f2' : (wr.alloc (.cells #[.string { data := #[116] }, .int .i64 3, .int .i64 0] 64)).frozen? ⟨w.heap.size + 1 + 1, 2, none⟩ = false := (HB1.out.frozen (p := ⟨w.heap.size + 1 + 1, 2, none⟩) hwl).trans f2
      have hws : w.heap.size ≤ wr.heap.size := by omega
      have HC2 : Hid (CB w wr (.slice al 0 cl) (.slice ax 0 cs) 0) := HCB.out
      clear HCB hcm hcl
      go_wp2_with (first | (at_builtin; refine wpList_append_lies _ rfl _ _ 23 rfl w.heap.size 64 is' _ 3 32 Tryd.underlying23 his hs0 hs1 hs2 rfl (by decide) (.slice ax 0 cs) 0 _ rfl HW1.out ⟨wr.heap.size, 0, none⟩ 1 1 [.string { data := #[116] }, .int .i64 3, .int .i64 0] rfl rfl HNC.out (by intro u hu; simp at hu; rcases hu with rfl | rfl | rfl <;> rfl) (by decide) (by decide) (by decide) (by simp; omega) (wr.heap.size + 1) (by simp) ?_) | go_in)
      intro x cp Y6 ho6 hg6 hat6 hlt6
      have m6 : Y6.cell? ⟨w.heap.size + 1 + 1, 2, none⟩ = some (.slice ax 0 cs) := hg6.cell b2' (fun e => hvb e.symm)
      have z6 : Y6.frozen? ⟨w.heap.size + 1 + 1, 2, none⟩ = false := (hg6.frozen_far ⟨w.heap.size + 1 + 1, 2, none⟩ (by show w.heap.size + 1 + 1 < _; simp; omega) (fun e => hvb e.symm)).trans f2'
      have HX : Hid (BS w (Y6.setCell ⟨w.heap.size + 1 + 1, 2, none⟩ (.slice (some ⟨x, 0, none⟩) 1 cp)) [⟨101, 4, .slice al 0 cl, (qsX 0).length, (qsX 0).flatMap qC⟩, ⟨64, 3, .slice (some ⟨x, 0, none⟩) 1 cp, (symX 1).length, (symX 1).flatMap sC⟩] [(w.heap.size + 1 + 1, [.string { data := #[] }, .slice (some ⟨w.heap.size + 1, 0, none⟩) 2 2, .slice (some ⟨x, 0, none⟩) 1 cp]), (w.heap.size + 1, [.int .i64 0, .int .i64 0]), (w.heap.size, zI)]) := cb_sym0 HC2.out ho6 hg6 hat6
      obtain ⟨X7, hX7⟩ : ∃ X7, Y6.setCell ⟨w.heap.size + 1 + 1, 2, none⟩ (.slice (some ⟨x, 0, none⟩) 1 cp) = X7 := ⟨_, rfl⟩
      rw [hX7] at HX
      have HB2 : Hid (Below X7.heap.size X7 (X7.alloc (.cells #[.int .i64 19, .int .i64 1, .int .i64 0, .int .i64 1048576, .int .i64 1, .int .i64 2, .int .i64 0, .int .i64 1, .int .i64 18, .int .i64 1, .int .i64 2, .int .i64 0, .int .i64 19, .int .i64 1, .int .i64 0, .int .i64 1048584, .int .i64 17, .int .i64 3, .int .i64 1, .int .i64 0, .int .i64 31, .int .i64 3, .int .i64 0, .int .i64 0, .int .i64 32, .int .i64 0, .int .i64 0, .int .i64 0] 101))) := bl_one _ _
      have HW2 : Hid ((X7.alloc (.cells #[.int .i64 19, .int .i64 1, .int .i64 0, .int .i64 1048576, .int .i64 1, .int .i64 2, .int .i64 0, .int .i64 1, .int .i64 18, .int .i64 1, .int .i64 2, .int .i64 0, .int .i64 19, .int .i64 1, .int .i64 0, .int .i64 1048584, .int .i64 17, .int .i64 3, .int .i64 1, .int .i64 0, .int .i64 31, .int .i64 3, .int .i64 0, .int .i64 0, .int .i64 32, .int .i64 0, .int .i64 0, .int .i64 0] 101)).ownsRow w.heap.size 101 4 (.slice al 0 cl) 0 ((qsX 0).flatMap qC)) := own_below (HX.out.own 0 _ rfl) HB2.out
      have HN2 : Hid (∀ j u, ([.int .i64 19, .int .i64 1, .int .i64 0, .int .i64 1048576, .int .i64 1, .int .i64 2, .int .i64 0, .int .i64 1, .int .i64 18, .int .i64 1, .int .i64 2, .int .i64 0, .int .i64 19, .int .i64 1, .int .i64 0, .int .i64 1048584, .int .i64 17, .int .i64 3, .int .i64 1, .int .i64 0, .int .i64 31, .int .i64 3, .int .i64 0, .int .i64 0, .int .i64 32, .int .i64 0, .int .i64 0, .int .i64 0] : List Value)[j]? = some u → (X7.alloc (.cells #[.int .i64 19, .int .i64 1, .int .i64 0, .int .i64 1048576, .int .i64 1, .int .i64 2, .int .i64 0, .int .i64 1, .int .i64 18, .int .i64 1, .int .i64 2, .int .i64 0, .int .i64 19, .int .i64 1, .int .i64 0, .int .i64 1048584, .int .i64 17, .int .i64 3, .int .i64 1, .int .i64 0, .int .i64 31, .int .i64 3, .int .i64 0, .int .i64 0, .int .i64 32, .int .i64 0, .int .i64 0, .int .i64 0] 101)).cell? ((⟨X7.heap.size, 0, none⟩ : Addr).add j) = some u) := fun j u hu => by
        rw [Addr.add_lit, Nat.zero_add]
        exact cell_last _ _ _ _ _ rfl (by simpa using hu)
      have hx7 : w.heap.size ≤ X7.heap.size := HX.out.low.size
      clear ho6 hg6 hat6 hlt6 b2 f2 b2' f2' HW1 HNC HB1
      go_wp2_with (first | (at_builtin; refine wpList_append_lies _ rfl _ _ 99 rfl w.heap.size 101 iq _ 4 32 Tryd.underlying99 hiq hq0 hq1 hq2 rfl (by decide) (.slice al 0 cl) 0 _ rfl HW2.out ⟨X7.heap.size, 0, none⟩ 7 7 [.int .i64 19, .int .i64 1, .int .i64 0, .int .i64 1048576, .int .i64 1, .int .i64 2, .int .i64 0, .int .i64 1, .int .i64 18, .int .i64 1, .int .i64 2, .int .i64 0, .int .i64 19, .int .i64 1, .int .i64 0, .int .i64 1048584, .int .i64 17, .int .i64 3, .int .i64 1, .int .i64 0, .int .i64 31, .int .i64 3, .int .i64 0, .int .i64 0, .int .i64 32, .int .i64 0, .int .i64 0, .int .i64 0] rfl rfl HN2.out (by decide) (by decide) (by decide) (by decide) (by simp; omega) (X7.heap.size + 1) (by simp) ?_) | go_in)
      intro x2 cp2 Y8 ho8 hg8 hat8 hlt8
      have HC3 : Hid (CB w Y8 (.slice (some ⟨x2, 0, none⟩) 7 cp2) (.slice (some ⟨x, 0, none⟩) 1 cp) 1) := cb_ins0 HX.out ho8 hg8 hat8
      have HCD : Hid (Calls Tryd.prog 44 #[.slice (some ⟨x2, 0, none⟩) 7 cp2] Y8 fun e w' => e = .returned (.string (codeQ (qsX 1))) ∧ Below Y8.heap.size Y8 w') := code_any (qs := qsX 1) (HC3.out.own 0 _ rfl) (by decide +kernel) qsX_sz1
      obtain ⟨cd, hcd⟩ : ∃ cd, codeQ (qsX 1) = cd := ⟨_, rfl⟩
      have HSZ : Hid (cd.size = 37) := by show _ = _; rw [← hcd]; decide +kernel
      rw [hcd] at HCD
      have hsz : (cd.size : Int) = 37 := by have := HSZ.out; omega
      clear ho8 hg8 hat8 hlt8 hX7 m6 z6 hcd HW2 HN2 HB2 HX HC2
      go_wp2_with fail
      refine HCD.out.mono ?_
      rintro e y9 ⟨rfl, hb9⟩
      have HC4 : Hid (CB w y9 (.slice (some ⟨x2, 0, none⟩) 7 cp2) (.slice (some ⟨x, 0, none⟩) 1 cp) 1) := HC3.out.below hb9
      clear hb9
      go_wp2
      go_roundg (2 - 1)
      · exact ⟨1, _, rfl, rfl, by omega, Nat.le_refl _, HC4⟩
      · omega
    · simp only [Nat.mul_one]
      have hS : wr.ownsRow w.heap.size 64 3 sv 1 ((symX 1).flatMap sC) := HCB.out.own 1 _ rfl
      have hL : wr.ownsRow w.heap.size 101 4 u1 7 ((qsX 1).flatMap qC) := HCB.out.own 0 _ rfl
      obtain ⟨ax, cs, rfl, hnc, hcm⟩ := own_sl hS
      obtain ⟨al, cl, rfl, hnl, hcl⟩ := own_sl hL
      clear hS hL
      have b2 := (HCB.out.box 0 _ rfl).1 2 _ rfl
      have f2 := (HCB.out.box 0 _ rfl).2.1 2
      have hwl : w.heap.size + 1 + 1 < wr.heap.size := (HCB.out.box 0 _ rfl).2.2.1
      change wr.cell? ⟨w.heap.size + 1 + 1, 2, none⟩ = some (.slice ax 1 cs) at b2
      change wr.frozen? ⟨w.heap.size + 1 + 1, 2, none⟩ = false at f2
      change 1 ≤ cs at hnc
      change 7 ≤ cl at hnl
      have HB1 : Hid (Below wr.heap.size wr (wr.alloc (.cells #[.string { data := #[116] }, .int .i64 3, .int .i64 37] 64))) := bl_one _ _
      have HW1 : Hid ((wr.alloc (.cells #[.string { data := #[116] }, .int .i64 3, .int .i64 37] 64)).ownsRow w.heap.size 64 3 (.slice ax 1 cs) 1 ((symX 1).flatMap sC)) := own_below (HCB.out.own 1 _ rfl) HB1.out
      have HNC : Hid (∀ j u, ([.string { data := #[116] }, .int .i64 3, .int .i64 37] : List Value)[j]? = some u → (wr.alloc (.cells #[.string { data := #[116] }, .int .i64 3, .int .i64 37] 64)).cell? ((⟨wr.heap.size, 0, none⟩ : Addr).add j) = some u) := fun j u hu => by
        rw [Addr.add_lit, Nat.zero_add]
        exact cell_last _ _ _ _ _ rfl (by simpa using hu)
      have hvb : (Value.slice ax 1 cs).ownBlock ≠ some (w.heap.size + 1 + 1) := HCB.out.far 0 1 _ _ rfl rfl
      have b2' := cell_up HB1.out b2
      have f2' : (wr.alloc (.cells #[.string { data := #[116] }, .int .i64 3, .int .i64 37] 64)).frozen? ⟨w.heap.size + 1 + 1, 2, none⟩ = false := (HB1.out.frozen (p := ⟨w.heap.size + 1 + 1, 2, none⟩) hwl).trans f2
      have hws : w.heap.size ≤ wr.heap.size := by omega
      have HC2 : Hid (CB w wr (.slice al 7 cl) (.slice ax 1 cs) 1) := HCB.out
      clear HCB hcm hcl
      go_wp2_with (first | (at_builtin; refine wpList_append_lies _ rfl _ _ 23 rfl w.heap.size 64 is' _ 3 32 Tryd.underlying23 his hs0 hs1 hs2 rfl (by decide) (.slice ax 1 cs) 1 _ rfl HW1.out ⟨wr.heap.size, 0, none⟩ 1 1 [.string { data := #[116] }, .int .i64 3, .int .i64 37] rfl rfl HNC.out (by intro u hu; simp at hu; rcases hu with rfl | rfl | rfl <;> rfl) (by decide) (by decide) (by decide) (by simp; omega) (wr.heap.size + 1) (by simp) ?_) | go_in)
      intro x cp Y6 ho6 hg6 hat6 hlt6
      have m6 : Y6.cell? ⟨w.heap.size + 1 + 1, 2, none⟩ = some (.slice ax 1 cs) := hg6.cell b2' (fun e => hvb e.symm)
      have z6 : Y6.frozen? ⟨w.heap.size + 1 + 1, 2, none⟩ = false := (hg6.frozen_far ⟨w.heap.size + 1 + 1, 2, none⟩ (by show w.heap.size + 1 + 1 < _; simp; omega) (fun e => hvb e.symm)).trans f2'
      have HX : Hid (BS w (Y6.setCell ⟨w.heap.size + 1 + 1, 2, none⟩ (.slice (some ⟨x, 0, none⟩) 2 cp)) [⟨101, 4, .slice al 7 cl, (qsX 1).length, (qsX 1).flatMap qC⟩, ⟨64, 3, .slice (some ⟨x, 0, none⟩) 2 cp, (symX 2).length, (symX 2).flatMap sC⟩] [(w.heap.size + 1 + 1, [.string { data := #[] }, .slice (some ⟨w.heap.size + 1, 0, none⟩) 2 2, .slice (some ⟨x, 0, none⟩) 2 cp]), (w.heap.size + 1, [.int .i64 0, .int .i64 0]), (w.heap.size, zI)]) := cb_sym1 HC2.out ho6 hg6 hat6
      obtain ⟨X7, hX7⟩ : ∃ X7, Y6.setCell ⟨w.heap.size + 1 + 1, 2, none⟩ (.slice (some ⟨x, 0, none⟩) 2 cp) = X7 := ⟨_, rfl⟩
      rw [hX7] at HX
      have HB2 : Hid (Below X7.heap.size X7 (X7.alloc (.cells #[.int .i64 19, .int .i64 1, .int .i64 0, .int .i64 1048584, .int .i64 1, .int .i64 2, .int .i64 0, .int .i64 1, .int .i64 18, .int .i64 1, .int .i64 2, .int .i64 0, .int .i64 19, .int .i64 1, .int .i64 0, .int .i64 1048576, .int .i64 17, .int .i64 3, .int .i64 1, .int .i64 0, .int .i64 31, .int .i64 3, .int .i64 0, .int .i64 0, .int .i64 32, .int .i64 0, .int .i64 0, .int .i64 0] 101))) := bl_one _ _
      have HW2 : Hid ((X7.alloc (.cells #[.int .i64 19, .int .i64 1, .int .i64 0, .int .i64 1048584, .int .i64 1, .int .i64 2, .int .i64 0, .int .i64 1, .int .i64 18, .int .i64 1, .int .i64 2, .int .i64 0, .int .i64 19, .int .i64 1, .int .i64 0, .int .i64 1048576, .int .i64 17, .int .i64 3, .int .i64 1, .int .i64 0, .int .i64 31, .int .i64 3, .int .i64 0, .int .i64 0, .int .i64 32, .int .i64 0, .int .i64 0, .int .i64 0] 101)).ownsRow w.heap.size 101 4 (.slice al 7 cl) 7 ((qsX 1).flatMap qC)) := own_below (HX.out.own 0 _ rfl) HB2.out
      have HN2 : Hid (∀ j u, ([.int .i64 19, .int .i64 1, .int .i64 0, .int .i64 1048584, .int .i64 1, .int .i64 2, .int .i64 0, .int .i64 1, .int .i64 18, .int .i64 1, .int .i64 2, .int .i64 0, .int .i64 19, .int .i64 1, .int .i64 0, .int .i64 1048576, .int .i64 17, .int .i64 3, .int .i64 1, .int .i64 0, .int .i64 31, .int .i64 3, .int .i64 0, .int .i64 0, .int .i64 32, .int .i64 0, .int .i64 0, .int .i64 0] : List Value)[j]? = some u → (X7.alloc (.cells #[.int .i64 19, .int .i64 1, .int .i64 0, .int .i64 1048584, .int .i64 1, .int .i64 2, .int .i64 0, .int .i64 1, .int .i64 18, .int .i64 1, .int .i64 2, .int .i64 0, .int .i64 19, .int .i64 1, .int .i64 0, .int .i64 1048576, .int .i64 17, .int .i64 3, .int .i64 1, .int .i64 0, .int .i64 31, .int .i64 3, .int .i64 0, .int .i64 0, .int .i64 32, .int .i64 0, .int .i64 0, .int .i64 0] 101)).cell? ((⟨X7.heap.size, 0, none⟩ : Addr).add j) = some u) := fun j u hu => by
        rw [Addr.add_lit, Nat.zero_add]
        exact cell_last _ _ _ _ _ rfl (by simpa using hu)
      have hx7 : w.heap.size ≤ X7.heap.size := HX.out.low.size
      clear ho6 hg6 hat6 hlt6 b2 f2 b2' f2' HW1 HNC HB1
      go_wp2_with (first | (at_builtin; refine wpList_append_lies _ rfl _ _ 99 rfl w.heap.size 101 iq _ 4 32 Tryd.underlying99 hiq hq0 hq1 hq2 rfl (by decide) (.slice al 7 cl) 7 _ rfl HW2.out ⟨X7.heap.size, 0, none⟩ 7 7 [.int .i64 19, .int .i64 1, .int .i64 0, .int .i64 1048584, .int .i64 1, .int .i64 2, .int .i64 0, .int .i64 1, .int .i64 18, .int .i64 1, .int .i64 2, .int .i64 0, .int .i64 19, .int .i64 1, .int .i64 0, .int .i64 1048576, .int .i64 17, .int .i64 3, .int .i64 1, .int .i64 0, .int .i64 31, .int .i64 3, .int .i64 0, .int .i64 0, .int .i64 32, .int .i64 0, .int .i64 0, .int .i64 0] rfl rfl HN2.out (by decide) (by decide) (by decide) (by decide) (by simp; omega) (X7.heap.size + 1) (by simp) ?_) | go_in)
      intro x2 cp2 Y8 ho8 hg8 hat8 hlt8
      have HC3 : Hid (CB w Y8 (.slice (some ⟨x2, 0, none⟩) 14 cp2) (.slice (some ⟨x, 0, none⟩) 2 cp) 2) := cb_ins1 HX.out ho8 hg8 hat8
      have HCD : Hid (Calls Tryd.prog 44 #[.slice (some ⟨x2, 0, none⟩) 14 cp2] Y8 fun e w' => e = .returned (.string (codeQ (qsX 2))) ∧ Below Y8.heap.size Y8 w') := code_any (qs := qsX 2) (HC3.out.own 0 _ rfl) (by decide +kernel) qsX_sz2
      obtain ⟨cd, hcd⟩ : ∃ cd, codeQ (qsX 2) = cd := ⟨_, rfl⟩
      have HSZ : Hid (cd.size = 74) := by show _ = _; rw [← hcd]; decide +kernel
      rw [hcd] at HCD
      have hsz : (cd.size : Int) = 74 := by have := HSZ.out; omega
      clear ho8 hg8 hat8 hlt8 hX7 m6 z6 hcd HW2 HN2 HB2 HX HC2
      go_wp2_with fail
      refine HCD.out.mono ?_
      rintro e y9 ⟨rfl, hb9⟩
      have HC4 : Hid (CB w y9 (.slice (some ⟨x2, 0, none⟩) 14 cp2) (.slice (some ⟨x, 0, none⟩) 2 cp) 2) := HC3.out.below hb9
      clear hb9
      go_wp2
      go_roundg (2 - 2)
      · exact ⟨2, _, rfl, rfl, by omega, Nat.le_refl _, HC4⟩
      · omega
    · have hS : wr.ownsRow w.heap.size 64 3 sv 2 ((symX 2).flatMap sC) := HCB.out.own 1 _ rfl
      have hL : wr.ownsRow w.heap.size 101 4 u1 14 ((qsX 2).flatMap qC) := HCB.out.own 0 _ rfl
      have HCD : Hid (Calls Tryd.prog 44 #[u1] wr fun e w' => e = .returned (.string (codeQ (qsX 2))) ∧ Below wr.heap.size wr w') := code_any (qs := qsX 2) hL (by decide +kernel) qsX_sz2
      obtain ⟨ax, cs, rfl, hnc, hcm⟩ := own_sl hS
      obtain ⟨cd, hcd⟩ : ∃ cd, codeQ (qsX 2) = cd := ⟨_, rfl⟩
      rw [hcd] at HCD
      have HCQ : Hid (codeQ (qsX 2) = cd) := hcd
      have HSZ : Hid (cd.size ≤ 100) := by show _ ≤ _; rw [← hcd]; decide +kernel
      clear hS hL hcd
      go_wp2_with fail
      refine HCD.out.mono ?_
      rintro e y9 ⟨rfl, hb9⟩
      have h9 : CB w y9 u1 (.slice ax 2 cs) 2 := HCB.out.below hb9
      have t0 := (h9.box 0 _ rfl).1 0 _ rfl
      have t1 := (h9.box 0 _ rfl).1 1 _ rfl
      have t2 := (h9.box 0 _ rfl).1 2 _ rfl
      have g0 := (h9.box 0 _ rfl).2.1 0
      have r0 := (h9.box 2 _ rfl).1 0 _ rfl
      have r1 := (h9.box 2 _ rfl).1 1 _ rfl
      have r2 := (h9.box 2 _ rfl).1 2 _ rfl
      have q0 := (h9.box 2 _ rfl).2.1 0
      have q1 := (h9.box 2 _ rfl).2.1 1
      have q2 := (h9.box 2 _ rfl).2.1 2
      simp only at t0 t1 t2 g0 r0 r1 r2 q0 q1 q2
      have hp1 := h9.put 0 (w.heap.size + 1 + 1) _ rfl 0 (by simp) (.string cd)
      have hp2 := hp1.put 2 w.heap.size zI rfl 0 (by simp) (.string cd)
      have hp3 := hp2.put 2 w.heap.size _ rfl 1 (by simp) (.slice (some ⟨w.heap.size + 1, 0, none⟩) 2 2)
      have hp4 := hp3.put 2 w.heap.size _ rfl 2 (by simp) (.slice ax 2 cs)
      obtain ⟨Z4, hZ4⟩ : ∃ Z4, (((y9.setCell ⟨w.heap.size + 1 + 1, 0, none⟩ (.string cd)).setCell ⟨w.heap.size, 0, none⟩ (.string cd)).setCell ⟨w.heap.size, 1, none⟩ (.slice (some ⟨w.heap.size + 1, 0, none⟩) 2 2)).setCell ⟨w.heap.size, 2, none⟩ (.slice ax 2 cs) = Z4 := ⟨_, rfl⟩
      rw [hZ4] at hp4
      have e0 := (hp4.box 2 _ rfl).1 0 _ rfl
      have e1 := (hp4.box 2 _ rfl).1 1 _ rfl
      have e2 := (hp4.box 2 _ rfl).1 2 _ rfl
      simp only at e0 e1 e2
      have HLO : Hid (Below w.heap.size w Z4) := hp4.low
      have HIM : Hid (ImgV Z4 (.agg #[.string cd, .slice (some ⟨w.heap.size + 1, 0, none⟩) 2 2, .slice ax 2 cs]) imX) := by
        have h5 : Z4.ownsRow w.heap.size 64 3 (.slice ax 2 cs) 2 ((symX 2).flatMap sC) := hp4.own 1 _ rfl
        obtain ⟨a', c', e5, h6⟩ := syms_own (ss := symX 2) h5 rfl symX_fit
        cases e5
        have d0 := (hp4.box 1 _ rfl).1 0 _ rfl
        have d1 := (hp4.box 1 _ rfl).1 1 _ rfl
        refine ⟨⟨some ⟨w.heap.size + 1, 0, none⟩, 2, 2, _, _, _, ?_, ?_, ⟨rfl, by decide, fun e => (by cases e), ⟨Nat.le_refl _, by decide⟩, .inr ⟨w.heap.size + 1, 0, rfl, fun i hi => ?_⟩⟩, h6⟩⟩
        · show _ = Value.agg #[.string (codeQ (qsX 2)), _, _]
          rw [HCQ.out]
        · show (codeQ (qsX 2)).size ≤ maxLen
          rw [HCQ.out]; have := HSZ.out; unfold maxLen; omega
        · rcases (show i = 0 ∨ i = 1 by omega) with rfl | rfl
          · exact d0
          · exact d1
      have HZ : Hid _ := hZ4
      clear hb9 h9 hp1 hp2 hp3 hp4 HCB hZ4
      have hne1 : w.heap.size + 1 + 1 ≠ w.heap.size := by omega
      go_wp2_with fail
      rw [HZ.out]
      exact bodyPost_ret (v := .agg #[.string cd, .slice (some ⟨w.heap.size + 1, 0, none⟩) 2 2, .slice ax 2 cs]) (by simp [results, Tryd.results31, go_sem, e0, e1, e2]) rfl ⟨⟨_, rfl, HIM.out⟩, HLO.out⟩

end Go.Proofs.YtneclfaamgfoeaaDoor
