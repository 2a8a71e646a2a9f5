/- What the document's Front comes to. (Written by gen_front.py.) -/
import Derived.Test.YtmpmfjplnajjdaaObjRefSt
import Derived.Deep.LoopGhost
namespace Go.Proofs.Ytmpmfjplnajjdaa
open Go.RowKit Go.Maps Go.Lib
set_option linter.unusedVariables false

def FrontIs (s code : ByteArray) (data : List Int) (syms : List Sym) (j6 : Nat) : Prop := ∃ (j0 n1 j1 j2 n3 j3 j4 n5 j5 : Nat), rdTake s 0 4 = some (cot1, j0) ∧ rdUp s j0 65536 = some ((n1 : Int), j1) ∧ rdTake s j1 n1 = some (code, j2) ∧ rdUp s j2 4096 = some ((n3 : Int), j3) ∧ rdMany rdLong n3 s j3 = some (data, j4) ∧ rdUp s j4 1000 = some ((n5 : Int), j5) ∧ rdMany rdSym n5 s j5 = some (syms, j6)
def FrontGood (w : World) (br : Nat) (s : ByteArray) (e : Ending) (w' : World) : Prop := ∃ code data syms j v1 v2, FrontIs s code data syms j ∧ e = .returned (.tuple #[.string code, v1, v2]) ∧ FS w w.heap.size w' br s j false [⟨2, 1, v1, data.length, data.flatMap intC⟩, ⟨41, 3, v2, syms.length, syms.flatMap symC⟩] []
def FrontBad (w : World) (br : Nat) (s : ByteArray) (e : Ending) (w' : World) : Prop := rdBody s = none ∧ ∃ c a1 l1 c1 a2 l2 c2, e = .returned (.tuple #[.string c, .slice a1 l1 c1, .slice a2 l2 c2]) ∧ (∃ j, RX w' br s j true) ∧ w.grownBy w' (some br)
def L1 (w wq : World) (br : Nat) (s : ByteArray) (j3 k : Nat) (dv : Value) : Prop := ∃ l j, rdMany rdLong k s j3 = some (l, j) ∧ FS w w.heap.size wq br s j false [⟨2, 1, dv, k, l.flatMap intC⟩, ⟨41, 3, .slice none 0 0, 0, []⟩] []
def L2 (w wq : World) (br : Nat) (s : ByteArray) (j5 k : Nat) (u1 : Value) (data : List Int) (dv : Value) : Prop := ∃ l j, rdMany rdSym k s j5 = some (l, j) ∧ FS w w.heap.size wq br s j false [⟨2, 1, u1, data.length, data.flatMap intC⟩, ⟨41, 3, dv, k, l.flatMap symC⟩] []
def LB (w wq : World) (br : Nat) (s : ByteArray) (dv : Value) : Prop := rdBody s = none ∧ (∃ a l c, dv = .slice a l c) ∧ (∃ j, RX wq br s j true) ∧ w.grownBy wq (some br)
theorem FS.bad {w x : World} {B br : Nat} {s : ByteArray} {i : Nat} {rs : List Row} {bs : List (Nat × List Value)} (h : FS w B x br s i true rs bs) (hn : rdBody s = none) {g n cap : Nat} : LB w x br s (.slice (some ⟨g, 0, none⟩) n cap) := ⟨hn, ⟨_, _, _, rfl⟩, ⟨_, h.rd⟩, h.g⟩

set_option maxRecDepth 100000 in
set_option maxHeartbeats 16000000 in
theorem front_any {w : World} {br : Nat} {s : ByteArray} (h : RX w br s 0 false) :
    Calls Try.prog 30 #[.pointer (some ⟨br, 0, none⟩), .string { data := #[67, 79, 84, 49] }] w fun e w' => FrontGood w br s e w' ∨ FrontBad w br s e w' := by
  have hbr := h.lt
  obtain ⟨i1, hi1, hz10, hz11, hz12⟩ := info_parts infoI
  obtain ⟨i2, hi2, hz20, hz21, hz22⟩ := info_parts infoS
  have HS : Hid (FS w w.heap.size w br s 0 false [⟨2, 1, .slice none 0 0, 0, []⟩, ⟨41, 3, .slice none 0 0, 0, []⟩] []) := by
    have own : ∀ (k : Nat) (r : Row), ([⟨2, 1, .slice none 0 0, 0, []⟩, ⟨41, 3, .slice none 0 0, 0, []⟩] : List Row)[k]? = some r → r.v = .slice none 0 0 ∧ r.n = 0 ∧ r.cs = [] := fun k r hk => by
      match k, hk with
      | 0, hk => cases hk; exact ⟨rfl, rfl, rfl⟩
      | 1, hk => cases hk; exact ⟨rfl, rfl, rfl⟩
      | k + 2, hk => simp at hk
    refine { rd := h, g := gb_refl _ _, own := fun k r hk => ?_, dis := fun k l r q hr hq hkl b hb => ?_, box := fun m p hp => (by simp at hp), far := fun m k p r hp => (by simp at hp), nd := fun m l p q hp => (by simp at hp), lt := hbr, Bx := Nat.le_refl _, wB := Nat.le_refl _ }
    · obtain ⟨h1, h2, h3⟩ := own k r hk
      rw [h1, h2, h3]
      exact World.ownsRow_nil _ _ _ _
    · obtain ⟨h1, -⟩ := own k r hr
      rw [h1] at hb
      simp [Value.ownBlock] at hb
  clear h
  go_enter Try.func30, Try.ntmps30
  go_wp2_with fail
  refine (xbytes_any HS.out.rd 4 (by decide)).mono ?_
  rintro e y ⟨⟨t, j0, hf, rfl, hr⟩ | ⟨hf, rfl, j, hr⟩, hg⟩
  rotate_left
  · have HNB : Hid (rdBody s = none) := by show _ = _; simp only [rdBody, hf]
    have q2 := hr.c2
    have z2 := hr.fz 2
    have HB : Hid _ := hr.spoil
    have HG : Hid _ := gb_then (r := none) (grown_trans HS.out.g hg) 2 (.bool true)
    obtain ⟨Y, hY⟩ : ∃ Y, y.setCell ⟨br, 2, none⟩ (.bool true) = Y := ⟨_, rfl⟩
    rw [hY] at HB HG
    clear hf hr hg
    go_wp2_with fail
    clear q2 z2 hY
    refine (xnum_bad HB.out 65536 (by decide)).mono ?_
    rintro e y' ⟨rfl, hr, hg⟩
    have HB : Hid _ := hr
    have HG : Hid _ := grown_trans HG.out hg
    clear hr hg
    go_wp2_with fail
    refine (xbytes_bad HB.out 0).mono ?_
    rintro e y' ⟨rfl, hr, hg⟩
    have HB : Hid _ := hr
    have HG : Hid _ := grown_trans HG.out hg
    clear hr hg
    go_wp2_with fail
    refine (xnum_bad HB.out 4096 (by decide)).mono ?_
    rintro e y' ⟨rfl, hr, hg⟩
    have HB : Hid _ := hr
    have HG : Hid _ := grown_trans HG.out hg
    clear hr hg
    go_wp2_with fail
    refine wp_loop_rounds 1 ?_
    rw [rounds_succ]
    go_wp2_with fail
    refine (xnum_bad HB.out 1000 (by decide)).mono ?_
    rintro e y' ⟨rfl, hr, hg⟩
    have HB : Hid _ := hr
    have HG : Hid _ := grown_trans HG.out hg
    clear hr hg
    go_wp2_with fail
    refine wp_loop_rounds 1 ?_
    rw [rounds_succ]
    go_wp2_with fail
    go_ret3
    exact .inr ⟨HNB.out, _, _, _, _, _, _, _, rfl, ⟨_, HB.out⟩, HG.out⟩
  have F0 : Hid _ := hf
  by_cases ht : t = { data := #[67, 79, 84, 49] }
  rotate_left
  · have HNB : Hid (rdBody s = none) := by show _ = _; simp only [rdBody, F0.out]; rw [if_neg (show ¬ t = cot1 from ht)]
    have hd : (t.toList == [67, 79, 84, 49]) = false := by rw [ByteArray.toList_eq]; exact beq_eq_false_iff_ne.2 (fun e => ht (bytes_ext e))
    have q2 := hr.c2
    have z2 := hr.fz 2
    have HB : Hid _ := hr.spoil
    have HG : Hid _ := gb_then (r := none) (grown_trans HS.out.g hg) 2 (.bool true)
    obtain ⟨Y, hY⟩ : ∃ Y, y.setCell ⟨br, 2, none⟩ (.bool true) = Y := ⟨_, rfl⟩
    rw [hY] at HB HG
    clear hf hr hg
    go_wp2_with fail
    clear q2 z2 hY
    refine (xnum_bad HB.out 65536 (by decide)).mono ?_
    rintro e y' ⟨rfl, hr, hg⟩
    have HB : Hid _ := hr
    have HG : Hid _ := grown_trans HG.out hg
    clear hr hg
    go_wp2_with fail
    refine (xbytes_bad HB.out 0).mono ?_
    rintro e y' ⟨rfl, hr, hg⟩
    have HB : Hid _ := hr
    have HG : Hid _ := grown_trans HG.out hg
    clear hr hg
    go_wp2_with fail
    refine (xnum_bad HB.out 4096 (by decide)).mono ?_
    rintro e y' ⟨rfl, hr, hg⟩
    have HB : Hid _ := hr
    have HG : Hid _ := grown_trans HG.out hg
    clear hr hg
    go_wp2_with fail
    refine wp_loop_rounds 1 ?_
    rw [rounds_succ]
    go_wp2_with fail
    refine (xnum_bad HB.out 1000 (by decide)).mono ?_
    rintro e y' ⟨rfl, hr, hg⟩
    have HB : Hid _ := hr
    have HG : Hid _ := grown_trans HG.out hg
    clear hr hg
    go_wp2_with fail
    refine wp_loop_rounds 1 ?_
    rw [rounds_succ]
    go_wp2_with fail
    go_ret3
    exact .inr ⟨HNB.out, _, _, _, _, _, _, _, rfl, ⟨_, HB.out⟩, HG.out⟩
  subst ht
  have HS : Hid _ := HS.out.call hr hg
  clear hf hr hg
  go_wp2_with fail
  refine (xnum_any HS.out.rd 65536 (by decide)).mono ?_
  rintro e y ⟨⟨x, j1, hf, rfl, hr⟩ | ⟨hf, rfl, j', hr⟩, hg⟩
  rotate_left
  · have HNB : Hid (rdBody s = none) := by show _ = _; simp only [rdBody, hcot, if_true, F0.out, hf]
    have HB : Hid _ := hr
    have HG : Hid _ := grown_trans HS.out.g hg
    clear hf hr hg
    go_wp2_with fail
    refine (xbytes_bad HB.out 0).mono ?_
    rintro e y' ⟨rfl, hr, hg⟩
    have HB : Hid _ := hr
    have HG : Hid _ := grown_trans HG.out hg
    clear hr hg
    go_wp2_with fail
    refine (xnum_bad HB.out 4096 (by decide)).mono ?_
    rintro e y' ⟨rfl, hr, hg⟩
    have HB : Hid _ := hr
    have HG : Hid _ := grown_trans HG.out hg
    clear hr hg
    go_wp2_with fail
    refine wp_loop_rounds 1 ?_
    rw [rounds_succ]
    go_wp2_with fail
    refine (xnum_bad HB.out 1000 (by decide)).mono ?_
    rintro e y' ⟨rfl, hr, hg⟩
    have HB : Hid _ := hr
    have HG : Hid _ := grown_trans HG.out hg
    clear hr hg
    go_wp2_with fail
    refine wp_loop_rounds 1 ?_
    rw [rounds_succ]
    go_wp2_with fail
    go_ret3
    exact .inr ⟨HNB.out, _, _, _, _, _, _, _, rfl, ⟨_, HB.out⟩, HG.out⟩
  obtain ⟨hx0, hx1⟩ := rdUp_nonneg hf
  obtain ⟨n1, rfl⟩ : ∃ n : Nat, x = n := ⟨x.toNat, by omega⟩
  have hn1 : n1 ≤ 65536 := by omega
  have F1 : Hid (rdUp s j0 65536 = some ((n1 : Int), j1)) := hf
  have HS : Hid _ := HS.out.call hr hg
  clear hf hr hg hx0 hx1
  go_wp2_with fail
  refine (xbytes_any HS.out.rd n1 (by omega)).mono ?_
  rintro e y ⟨⟨code, j2, hf, rfl, hr⟩ | ⟨hf, rfl, j', hr⟩, hg⟩
  rotate_left
  · have HNB : Hid (rdBody s = none) := by show _ = _; simp only [rdBody, hcot, if_true, Int.toNat_natCast, F0.out, F1.out, hf]
    have HB : Hid _ := hr
    have HG : Hid _ := grown_trans HS.out.g hg
    clear hf hr hg
    go_wp2_with fail
    refine (xnum_bad HB.out 4096 (by decide)).mono ?_
    rintro e y' ⟨rfl, hr, hg⟩
    have HB : Hid _ := hr
    have HG : Hid _ := grown_trans HG.out hg
    clear hr hg
    go_wp2_with fail
    refine wp_loop_rounds 1 ?_
    rw [rounds_succ]
    go_wp2_with fail
    refine (xnum_bad HB.out 1000 (by decide)).mono ?_
    rintro e y' ⟨rfl, hr, hg⟩
    have HB : Hid _ := hr
    have HG : Hid _ := grown_trans HG.out hg
    clear hr hg
    go_wp2_with fail
    refine wp_loop_rounds 1 ?_
    rw [rounds_succ]
    go_wp2_with fail
    go_ret3
    exact .inr ⟨HNB.out, _, _, _, _, _, _, _, rfl, ⟨_, HB.out⟩, HG.out⟩
  have F2 : Hid _ := hf
  have HS : Hid _ := HS.out.call hr hg
  clear hf hr hg
  go_wp2_with fail
  refine (xnum_any HS.out.rd 4096 (by decide)).mono ?_
  rintro e y ⟨⟨x, j3, hf, rfl, hr⟩ | ⟨hf, rfl, j', hr⟩, hg⟩
  rotate_left
  · have HNB : Hid (rdBody s = none) := by show _ = _; simp only [rdBody, hcot, if_true, Int.toNat_natCast, F0.out, F1.out, F2.out, hf]
    have HB : Hid _ := hr
    have HG : Hid _ := grown_trans HS.out.g hg
    clear hf hr hg
    go_wp2_with fail
    refine wp_loop_rounds 1 ?_
    rw [rounds_succ]
    go_wp2_with fail
    refine (xnum_bad HB.out 1000 (by decide)).mono ?_
    rintro e y' ⟨rfl, hr, hg⟩
    have HB : Hid _ := hr
    have HG : Hid _ := grown_trans HG.out hg
    clear hr hg
    go_wp2_with fail
    refine wp_loop_rounds 1 ?_
    rw [rounds_succ]
    go_wp2_with fail
    go_ret3
    exact .inr ⟨HNB.out, _, _, _, _, _, _, _, rfl, ⟨_, HB.out⟩, HG.out⟩
  obtain ⟨hx0, hx1⟩ := rdUp_nonneg hf
  obtain ⟨n3, rfl⟩ : ∃ n : Nat, x = n := ⟨x.toNat, by omega⟩
  have hn3 : n3 ≤ 4096 := by omega
  have F3 : Hid (rdUp s j2 4096 = some ((n3 : Int), j3)) := hf
  have HS : Hid _ := HS.out.call hr hg
  clear hf hr hg hx0 hx1
  go_wp2_with fail
  go_loopg [9, 10] n3 (fun r dv iv wq => ∃ (k : Nat), iv = .int .i64 k ∧ k ≤ n3 ∧ n3 - k ≤ r ∧ Hid (L1 w wq br s j3 k dv ∨ LB w wq br s dv))
  case atStart => exact ⟨0, rfl, Nat.zero_le _, by omega, Or.inl ⟨[], j3, rfl, HS.out⟩⟩
  case round =>
    obtain ⟨k, rfl, hk, hr, HL⟩ := hrel
    rcases HL.out with ⟨l, j, hl, hs⟩ | ⟨hnb, ⟨a, l, c, rfl⟩, ⟨j, hb⟩, hg⟩
    rotate_left
    · have HNB : Hid _ := hnb
      have HB : Hid _ := hb
      have HG : Hid _ := hg
      have q2 := hb.c2
      clear hnb hb hg HL
      by_cases hlt : k < n3
      · have hd : decide ((k : Int) < n3) = true := decide_eq_true (by omega)
        go_wp2_with fail
        clear q2
        refine (xnum_bad HB.out 1000 (by decide)).mono ?_
        rintro e y' ⟨rfl, hr, hg⟩
        have HB : Hid _ := hr
        have HG : Hid _ := grown_trans HG.out hg
        clear hr hg
        go_wp2_with fail
        refine wp_loop_rounds 1 ?_
        rw [rounds_succ]
        go_wp2_with fail
        go_ret3
        exact .inr ⟨HNB.out, _, _, _, _, _, _, _, rfl, ⟨_, HB.out⟩, HG.out⟩
      · have hd : decide ((k : Int) < n3) = false := decide_eq_false (by omega)
        go_wp2_with fail
        clear q2
        refine (xnum_bad HB.out 1000 (by decide)).mono ?_
        rintro e y' ⟨rfl, hr, hg⟩
        have HB : Hid _ := hr
        have HG : Hid _ := grown_trans HG.out hg
        clear hr hg
        go_wp2_with fail
        refine wp_loop_rounds 1 ?_
        rw [rounds_succ]
        go_wp2_with fail
        go_ret3
        exact .inr ⟨HNB.out, _, _, _, _, _, _, _, rfl, ⟨_, HB.out⟩, HG.out⟩
    have HLR : Hid _ := hl
    have HS : Hid _ := hs
    have q2 := hs.rd.c2
    clear hl hs HL
    by_cases hlt : k < n3
    · have hd : decide ((k : Int) < n3) = true := decide_eq_true (by omega)
      go_wp2_with fail
      clear q2
      refine (xwide_any HS.out.rd).mono ?_
      rintro e y ⟨⟨x, j', hf, rfl, hr⟩ | ⟨hf, rfl, j', hr⟩, hg⟩
      · have HLN : Hid (rdMany rdLong (k + 1) s j3 = some (l ++ [x], j')) := by show _ = _; rw [rdMany, HLR.out]; simp only [hf]
        have HS : Hid _ := HS.out.call hr hg
        clear hf hr hg
        have HA : Hid _ := (HS.out.alloc #[.int .i64 x] 2).drop
        have HNC : Hid (∀ j u, ([.int .i64 x] : List Value)[j]? = some u → (y.alloc (.cells #[.int .i64 x] 2)).cell? ((⟨y.heap.size, 0, none⟩ : Addr).add j) = some u) := fun j u hu => by rw [Addr.add_lit, Nat.zero_add]; exact cell_last rfl (by simpa using hu)
        have hzB : w.heap.size ≤ y.heap.size := HS.out.Bx
        go_wp2_with (first | (at_builtin; refine wpList_append_lies _ rfl _ _ 22 rfl w.heap.size 2 i1 _ 1 8 Try.underlying22 hi1 hz10 hz11 hz12 rfl (by decide) _ k _ rfl (HA.out.own 0 _ rfl) ⟨y.heap.size, 0, none⟩ 1 1 [.int .i64 x] rfl rfl HNC.out (by intro u hu; simp at hu; first | (rcases hu with rfl | rfl | rfl <;> rfl) | (subst hu; rfl)) (by decide) (by unfold maxLen; omega) (by omega) (by simp; omega) (y.heap.size + 1) (by simp) ?_) | go_in)
        intro g cap Y6 ho6 hg6 hat6 hlt6
        have HP : Hid _ := HA.out.push (k := 0) rfl ho6 hg6 hat6 (by simp)
        clear ho6 hg6 hat6 hlt6 HNC
        go_wp2_with fail
        have HPX : Hid (L1 w Y6 br s j3 (k + 1) (.slice (some ⟨g, 0, none⟩) (k + 1) cap)) := ⟨l ++ [x], j', HLN.out, by have hp := HP.out; rw [show (l ++ [x]).flatMap intC = l.flatMap intC ++ [.int .i64 x] by simp [intC]]; exact hp⟩
        go_roundg (n3 - (k + 1))
        case measure => omega
        case rel => exact ⟨k + 1, by first | rfl | (congr 1; omega), by omega, Nat.le_refl _, Or.inl HPX.out⟩
      · have HNB : Hid (rdBody s = none) := by show _ = _; have hcut := many_cut HLR.out hlt hf; simp only [rdBody, hcot, if_true, Int.toNat_natCast, F0.out, F1.out, F2.out, F3.out, hcut]
        have HS : Hid _ := HS.out.call hr hg
        clear hf hr hg
        have HA : Hid _ := (HS.out.alloc #[.int .i64 0] 2).drop
        have HNC : Hid (∀ j u, ([.int .i64 0] : List Value)[j]? = some u → (y.alloc (.cells #[.int .i64 0] 2)).cell? ((⟨y.heap.size, 0, none⟩ : Addr).add j) = some u) := fun j u hu => by rw [Addr.add_lit, Nat.zero_add]; exact cell_last rfl (by simpa using hu)
        have hzB : w.heap.size ≤ y.heap.size := HS.out.Bx
        go_wp2_with (first | (at_builtin; refine wpList_append_lies _ rfl _ _ 22 rfl w.heap.size 2 i1 _ 1 8 Try.underlying22 hi1 hz10 hz11 hz12 rfl (by decide) _ k _ rfl (HA.out.own 0 _ rfl) ⟨y.heap.size, 0, none⟩ 1 1 [.int .i64 0] rfl rfl HNC.out (by intro u hu; simp at hu; first | (rcases hu with rfl | rfl | rfl <;> rfl) | (subst hu; rfl)) (by decide) (by unfold maxLen; omega) (by omega) (by simp; omega) (y.heap.size + 1) (by simp) ?_) | go_in)
        intro g cap Y6 ho6 hg6 hat6 hlt6
        have HP : Hid _ := HA.out.push (k := 0) rfl ho6 hg6 hat6 (by simp)
        clear ho6 hg6 hat6 hlt6 HNC
        go_wp2_with fail
        go_roundg (n3 - (k + 1))
        case measure => omega
        case rel => exact ⟨k + 1, by first | rfl | (congr 1; omega), by omega, Nat.le_refl _, Or.inr (HP.out.bad HNB.out)⟩
    · obtain rfl : n3 = k := by omega
      have hd : decide ((n3 : Int) < n3) = false := decide_eq_false (by omega)
      obtain ⟨data, rfl⟩ : ∃ xs, xs = l := ⟨_, rfl⟩
      obtain ⟨j4, rfl⟩ : ∃ x, x = j := ⟨_, rfl⟩
      have F4 : Hid _ := HLR.out
      have hdl := many_len HLR.out
      have HS : Hid (FS w w.heap.size wr br s j4 false [⟨2, 1, u9, data.length, data.flatMap intC⟩, ⟨41, 3, .slice none 0 0, 0, []⟩] []) := by
        show FS _ _ _ _ _ _ _ _ _
        have hp := HS.out
        rw [hdl]
        exact hp
      obtain ⟨a1, c1, hsl⟩ : ∃ a c, u9 = .slice a data.length c := own_slice (HS.out.own 0 _ rfl)
      subst hsl
      clear HLR hdl
      go_wp2_with fail
      clear q2
      refine (xnum_any HS.out.rd 1000 (by decide)).mono ?_
      rintro e y ⟨⟨x, j5, hf, rfl, hr⟩ | ⟨hf, rfl, j', hr⟩, hg⟩
      rotate_left
      · have HNB : Hid (rdBody s = none) := by show _ = _; simp only [rdBody, hcot, if_true, Int.toNat_natCast, F0.out, F1.out, F2.out, F3.out, F4.out, hf]
        have HB : Hid _ := hr
        have HG : Hid _ := grown_trans HS.out.g hg
        clear hf hr hg
        go_wp2_with fail
        refine wp_loop_rounds 1 ?_
        rw [rounds_succ]
        go_wp2_with fail
        go_ret3
        exact .inr ⟨HNB.out, _, _, _, _, _, _, _, rfl, ⟨_, HB.out⟩, HG.out⟩
      obtain ⟨hx0, hx1⟩ := rdUp_nonneg hf
      obtain ⟨n5, rfl⟩ : ∃ n : Nat, x = n := ⟨x.toNat, by omega⟩
      have hn5 : n5 ≤ 1000 := by omega
      have F5 : Hid (rdUp s j4 1000 = some ((n5 : Int), j5)) := hf
      have HS : Hid _ := HS.out.call hr hg
      clear hf hr hg hx0 hx1
      go_wp2_with fail
      go_loopg [11, 12] n5 (fun r dv iv wq => ∃ (k : Nat), iv = .int .i64 k ∧ k ≤ n5 ∧ n5 - k ≤ r ∧ Hid (L2 w wq br s j5 k (.slice a1 data.length c1) data dv ∨ LB w wq br s dv))
      case atStart => exact ⟨0, rfl, Nat.zero_le _, by omega, Or.inl ⟨[], j5, rfl, HS.out⟩⟩
      case round =>
        obtain ⟨k, rfl, hk, hr, HL⟩ := hrel
        rcases HL.out with ⟨l, j, hl, hs⟩ | ⟨hnb, ⟨a, l, c, rfl⟩, ⟨j, hb⟩, hg⟩
        rotate_left
        · have HNB : Hid _ := hnb
          have HB : Hid _ := hb
          have HG : Hid _ := hg
          have q2 := hb.c2
          clear hnb hb hg HL
          by_cases hlt : k < n5
          · have hd : decide ((k : Int) < n5) = true := decide_eq_true (by omega)
            go_wp2_with fail
            clear q2
            go_ret3
            exact .inr ⟨HNB.out, _, _, _, _, _, _, _, rfl, ⟨_, HB.out⟩, HG.out⟩
          · have hd : decide ((k : Int) < n5) = false := decide_eq_false (by omega)
            go_wp2_with fail
            clear q2
            go_ret3
            exact .inr ⟨HNB.out, _, _, _, _, _, _, _, rfl, ⟨_, HB.out⟩, HG.out⟩
        have HLR : Hid _ := hl
        have HS : Hid _ := hs
        have q2 := hs.rd.c2
        clear hl hs HL
        by_cases hlt : k < n5
        · have hd : decide ((k : Int) < n5) = true := decide_eq_true (by omega)
          go_wp2_with fail
          clear q2
          refine (xnum_any HS.out.rd 28 (by decide)).mono ?_
          rintro e ya ⟨⟨x, ja, hf, rfl, hr⟩ | ⟨hf, rfl, jx, hr⟩, hg⟩
          rotate_left
          · have HNB : Hid (rdBody s = none) := by
              show _ = _
              have hsn : rdSym s j = none := by simp only [rdSym, rdName, hf]
              have hcut := many_cut HLR.out hlt hsn
              simp only [rdBody, hcot, if_true, Int.toNat_natCast, F0.out, F1.out, F2.out, F3.out, F4.out, F5.out, hcut]
            have HS : Hid _ := HS.out.call hr hg
            clear hf hr hg
            go_wp2_with fail
            refine (xbytes_bad HS.out.rd 0).mono ?_
            rintro e yb ⟨rfl, hr, hg⟩
            have HS : Hid _ := HS.out.call hr hg
            clear hr hg
            go_wp2_with fail
            have HS : Hid (FS w w.heap.size (yb.alloc (.cells #[.string { data := #[] }, .int .i64 0, .int .i64 0] 41)) br s _ true [⟨2, 1, .slice a1 data.length c1, data.length, data.flatMap intC⟩, ⟨41, 3, u11, k, l.flatMap symC⟩] [(yb.heap.size, [.string { data := #[] }, .int .i64 0, .int .i64 0])]) := HS.out.alloc #[.string { data := #[] }, .int .i64 0, .int .i64 0] 41
            obtain ⟨Yb, hYb⟩ : ∃ Y, yb.alloc (.cells #[.string { data := #[] }, .int .i64 0, .int .i64 0] 41) = Y := ⟨_, rfl⟩
            rw [hYb] at HS ⊢
            clear hYb
            generalize yb.heap.size = zb at *
            refine (xone_bad HS.out.rd).mono ?_
            rintro e yc ⟨rfl, ⟨jx, hr⟩, hg⟩
            have HS : Hid _ := HS.out.call hr hg
            clear hr hg
            have q := (HS.out.box 0 _ rfl).1 1 _ rfl
            have zf := (HS.out.box 0 _ rfl).2.1 1
            have HS : Hid (FS w w.heap.size (yc.setCell ⟨zb, 1, none⟩ (.int .i64 0)) br s _ true [⟨2, 1, .slice a1 data.length c1, data.length, data.flatMap intC⟩, ⟨41, 3, u11, k, l.flatMap symC⟩] [(zb, [.string { data := #[] }, .int .i64 0, .int .i64 0])]) := HS.out.put 0 zb [.string { data := #[] }, .int .i64 0, .int .i64 0] rfl 1 (by simp) (.int .i64 0)
            obtain ⟨Yc, hYc⟩ : ∃ Y, yc.setCell ⟨zb, 1, none⟩ (.int .i64 0) = Y := ⟨_, rfl⟩
            rw [hYc] at HS
            go_wp2_with fail
            clear q zf hYc
            refine (xnum_bad HS.out.rd 65536 (by decide)).mono ?_
            rintro e yd ⟨rfl, hr, hg⟩
            have HS : Hid _ := HS.out.call hr hg
            clear hr hg
            have q := (HS.out.box 0 _ rfl).1 2 _ rfl
            have zf := (HS.out.box 0 _ rfl).2.1 2
            have HS : Hid (FS w w.heap.size (yd.setCell ⟨zb, 2, none⟩ (.int .i64 0)) br s _ true [⟨2, 1, .slice a1 data.length c1, data.length, data.flatMap intC⟩, ⟨41, 3, u11, k, l.flatMap symC⟩] [(zb, [.string { data := #[] }, .int .i64 0, .int .i64 0])]) := HS.out.put 0 zb [.string { data := #[] }, .int .i64 0, .int .i64 0] rfl 2 (by simp) (.int .i64 0)
            obtain ⟨Yd, hYd⟩ : ∃ Y, yd.setCell ⟨zb, 2, none⟩ (.int .i64 0) = Y := ⟨_, rfl⟩
            rw [hYd] at HS
            have p0 := (HS.out.box 0 _ rfl).1 0 _ rfl
            have p1 := (HS.out.box 0 _ rfl).1 1 _ rfl
            have p2 := (HS.out.box 0 _ rfl).1 2 _ rfl
            have HA : Hid _ := (HS.out.alloc #[.string { data := #[] }, .int .i64 0, .int .i64 0] 41).drop
            have HNC : Hid (∀ j u, ([.string { data := #[] }, .int .i64 0, .int .i64 0] : List Value)[j]? = some u → (Yd.alloc (.cells #[.string { data := #[] }, .int .i64 0, .int .i64 0] 41)).cell? ((⟨Yd.heap.size, 0, none⟩ : Addr).add j) = some u) := fun j u hu => by rw [Addr.add_lit, Nat.zero_add]; exact cell_last rfl (by simpa using hu)
            have hzB : w.heap.size ≤ Yd.heap.size := HS.out.Bx
            go_wp2_with (first | (at_builtin; refine wpList_append_lies _ rfl _ _ 23 rfl w.heap.size 41 i2 _ 3 32 Try.underlying23 hi2 hz20 hz21 hz22 rfl (by decide) _ k _ rfl (HA.out.own 1 _ rfl) ⟨Yd.heap.size, 0, none⟩ 1 1 [.string { data := #[] }, .int .i64 0, .int .i64 0] rfl rfl HNC.out (by intro u hu; simp at hu; first | (rcases hu with rfl | rfl | rfl <;> rfl) | (subst hu; rfl)) (by decide) (by unfold maxLen; omega) (by omega) (by simp; omega) (Yd.heap.size + 1) (by simp) ?_) | go_in)
            intro g cap Y6 ho6 hg6 hat6 hlt6
            have HP : Hid _ := HA.out.push (k := 1) rfl ho6 hg6 hat6 (by simp)
            clear ho6 hg6 hat6 hlt6 HNC
            go_wp2_with fail
            go_roundg (n5 - (k + 1))
            case measure => omega
            case rel => exact ⟨k + 1, by first | rfl | (congr 1; omega), by omega, Nat.le_refl _, Or.inr (HP.out.bad HNB.out)⟩
          obtain ⟨hx0, hx1⟩ := rdUp_nonneg hf
          obtain ⟨m, rfl⟩ : ∃ n : Nat, x = n := ⟨x.toNat, by omega⟩
          have G0 : Hid (rdUp s j 28 = some ((m : Int), ja)) := hf
          have HS : Hid _ := HS.out.call hr hg
          clear hf hr hg
          go_wp2_with fail
          refine (xbytes_any HS.out.rd m (by omega)).mono ?_
          rintro e yb ⟨⟨nm, jb, hf, rfl, hr⟩ | ⟨hf, rfl, jx, hr⟩, hg⟩
          rotate_left
          · have HNB : Hid (rdBody s = none) := by
              show _ = _
              have hsn : rdSym s j = none := by simp only [rdSym, rdName, G0.out, Int.toNat_natCast, hf]
              have hcut := many_cut HLR.out hlt hsn
              simp only [rdBody, hcot, if_true, Int.toNat_natCast, F0.out, F1.out, F2.out, F3.out, F4.out, F5.out, hcut]
            have HS : Hid _ := HS.out.call hr hg
            clear hf hr hg
            go_wp2_with fail
            have HS : Hid (FS w w.heap.size (yb.alloc (.cells #[.string { data := #[] }, .int .i64 0, .int .i64 0] 41)) br s _ true [⟨2, 1, .slice a1 data.length c1, data.length, data.flatMap intC⟩, ⟨41, 3, u11, k, l.flatMap symC⟩] [(yb.heap.size, [.string { data := #[] }, .int .i64 0, .int .i64 0])]) := HS.out.alloc #[.string { data := #[] }, .int .i64 0, .int .i64 0] 41
            obtain ⟨Yb, hYb⟩ : ∃ Y, yb.alloc (.cells #[.string { data := #[] }, .int .i64 0, .int .i64 0] 41) = Y := ⟨_, rfl⟩
            rw [hYb] at HS ⊢
            clear hYb
            generalize yb.heap.size = zb at *
            refine (xone_bad HS.out.rd).mono ?_
            rintro e yc ⟨rfl, ⟨jx, hr⟩, hg⟩
            have HS : Hid _ := HS.out.call hr hg
            clear hr hg
            have q := (HS.out.box 0 _ rfl).1 1 _ rfl
            have zf := (HS.out.box 0 _ rfl).2.1 1
            have HS : Hid (FS w w.heap.size (yc.setCell ⟨zb, 1, none⟩ (.int .i64 0)) br s _ true [⟨2, 1, .slice a1 data.length c1, data.length, data.flatMap intC⟩, ⟨41, 3, u11, k, l.flatMap symC⟩] [(zb, [.string { data := #[] }, .int .i64 0, .int .i64 0])]) := HS.out.put 0 zb [.string { data := #[] }, .int .i64 0, .int .i64 0] rfl 1 (by simp) (.int .i64 0)
            obtain ⟨Yc, hYc⟩ : ∃ Y, yc.setCell ⟨zb, 1, none⟩ (.int .i64 0) = Y := ⟨_, rfl⟩
            rw [hYc] at HS
            go_wp2_with fail
            clear q zf hYc
            refine (xnum_bad HS.out.rd 65536 (by decide)).mono ?_
            rintro e yd ⟨rfl, hr, hg⟩
            have HS : Hid _ := HS.out.call hr hg
            clear hr hg
            have q := (HS.out.box 0 _ rfl).1 2 _ rfl
            have zf := (HS.out.box 0 _ rfl).2.1 2
            have HS : Hid (FS w w.heap.size (yd.setCell ⟨zb, 2, none⟩ (.int .i64 0)) br s _ true [⟨2, 1, .slice a1 data.length c1, data.length, data.flatMap intC⟩, ⟨41, 3, u11, k, l.flatMap symC⟩] [(zb, [.string { data := #[] }, .int .i64 0, .int .i64 0])]) := HS.out.put 0 zb [.string { data := #[] }, .int .i64 0, .int .i64 0] rfl 2 (by simp) (.int .i64 0)
            obtain ⟨Yd, hYd⟩ : ∃ Y, yd.setCell ⟨zb, 2, none⟩ (.int .i64 0) = Y := ⟨_, rfl⟩
            rw [hYd] at HS
            have p0 := (HS.out.box 0 _ rfl).1 0 _ rfl
            have p1 := (HS.out.box 0 _ rfl).1 1 _ rfl
            have p2 := (HS.out.box 0 _ rfl).1 2 _ rfl
            have HA : Hid _ := (HS.out.alloc #[.string { data := #[] }, .int .i64 0, .int .i64 0] 41).drop
            have HNC : Hid (∀ j u, ([.string { data := #[] }, .int .i64 0, .int .i64 0] : List Value)[j]? = some u → (Yd.alloc (.cells #[.string { data := #[] }, .int .i64 0, .int .i64 0] 41)).cell? ((⟨Yd.heap.size, 0, none⟩ : Addr).add j) = some u) := fun j u hu => by rw [Addr.add_lit, Nat.zero_add]; exact cell_last rfl (by simpa using hu)
            have hzB : w.heap.size ≤ Yd.heap.size := HS.out.Bx
            go_wp2_with (first | (at_builtin; refine wpList_append_lies _ rfl _ _ 23 rfl w.heap.size 41 i2 _ 3 32 Try.underlying23 hi2 hz20 hz21 hz22 rfl (by decide) _ k _ rfl (HA.out.own 1 _ rfl) ⟨Yd.heap.size, 0, none⟩ 1 1 [.string { data := #[] }, .int .i64 0, .int .i64 0] rfl rfl HNC.out (by intro u hu; simp at hu; first | (rcases hu with rfl | rfl | rfl <;> rfl) | (subst hu; rfl)) (by decide) (by unfold maxLen; omega) (by omega) (by simp; omega) (Yd.heap.size + 1) (by simp) ?_) | go_in)
            intro g cap Y6 ho6 hg6 hat6 hlt6
            have HP : Hid _ := HA.out.push (k := 1) rfl ho6 hg6 hat6 (by simp)
            clear ho6 hg6 hat6 hlt6 HNC
            go_wp2_with fail
            go_roundg (n5 - (k + 1))
            case measure => omega
            case rel => exact ⟨k + 1, by first | rfl | (congr 1; omega), by omega, Nat.le_refl _, Or.inr (HP.out.bad HNB.out)⟩
          have G1 : Hid _ := hf
          have HS : Hid _ := HS.out.call hr hg
          clear hf hr hg
          go_wp2_with fail
          have HS : Hid (FS w w.heap.size (yb.alloc (.cells #[.string nm, .int .i64 0, .int .i64 0] 41)) br s _ false [⟨2, 1, .slice a1 data.length c1, data.length, data.flatMap intC⟩, ⟨41, 3, u11, k, l.flatMap symC⟩] [(yb.heap.size, [.string nm, .int .i64 0, .int .i64 0])]) := HS.out.alloc #[.string nm, .int .i64 0, .int .i64 0] 41
          obtain ⟨Yb, hYb⟩ : ∃ Y, yb.alloc (.cells #[.string nm, .int .i64 0, .int .i64 0] 41) = Y := ⟨_, rfl⟩
          rw [hYb] at HS ⊢
          clear hYb
          generalize yb.heap.size = zb at *
          refine (xone_any HS.out.rd).mono ?_
          rintro e yc ⟨⟨kd, jc, hf, rfl, hr⟩ | ⟨hf, rfl, jx, hr⟩, hg⟩
          rotate_left
          · have HNB : Hid (rdBody s = none) := by
              show _ = _
              have hsn : rdSym s j = none := by simp only [rdSym, rdName, G0.out, Int.toNat_natCast, G1.out, hf]
              have hcut := many_cut HLR.out hlt hsn
              simp only [rdBody, hcot, if_true, Int.toNat_natCast, F0.out, F1.out, F2.out, F3.out, F4.out, F5.out, hcut]
            have HS : Hid _ := HS.out.call hr hg
            clear hf hr hg
            have q := (HS.out.box 0 _ rfl).1 1 _ rfl
            have zf := (HS.out.box 0 _ rfl).2.1 1
            have HS : Hid (FS w w.heap.size (yc.setCell ⟨zb, 1, none⟩ (.int .i64 0)) br s _ true [⟨2, 1, .slice a1 data.length c1, data.length, data.flatMap intC⟩, ⟨41, 3, u11, k, l.flatMap symC⟩] [(zb, [.string nm, .int .i64 0, .int .i64 0])]) := HS.out.put 0 zb [.string nm, .int .i64 0, .int .i64 0] rfl 1 (by simp) (.int .i64 0)
            obtain ⟨Yc, hYc⟩ : ∃ Y, yc.setCell ⟨zb, 1, none⟩ (.int .i64 0) = Y := ⟨_, rfl⟩
            rw [hYc] at HS
            go_wp2_with fail
            clear q zf hYc
            refine (xnum_bad HS.out.rd 65536 (by decide)).mono ?_
            rintro e yd ⟨rfl, hr, hg⟩
            have HS : Hid _ := HS.out.call hr hg
            clear hr hg
            have q := (HS.out.box 0 _ rfl).1 2 _ rfl
            have zf := (HS.out.box 0 _ rfl).2.1 2
            have HS : Hid (FS w w.heap.size (yd.setCell ⟨zb, 2, none⟩ (.int .i64 0)) br s _ true [⟨2, 1, .slice a1 data.length c1, data.length, data.flatMap intC⟩, ⟨41, 3, u11, k, l.flatMap symC⟩] [(zb, [.string nm, .int .i64 0, .int .i64 0])]) := HS.out.put 0 zb [.string nm, .int .i64 0, .int .i64 0] rfl 2 (by simp) (.int .i64 0)
            obtain ⟨Yd, hYd⟩ : ∃ Y, yd.setCell ⟨zb, 2, none⟩ (.int .i64 0) = Y := ⟨_, rfl⟩
            rw [hYd] at HS
            have p0 := (HS.out.box 0 _ rfl).1 0 _ rfl
            have p1 := (HS.out.box 0 _ rfl).1 1 _ rfl
            have p2 := (HS.out.box 0 _ rfl).1 2 _ rfl
            have HA : Hid _ := (HS.out.alloc #[.string nm, .int .i64 0, .int .i64 0] 41).drop
            have HNC : Hid (∀ j u, ([.string nm, .int .i64 0, .int .i64 0] : List Value)[j]? = some u → (Yd.alloc (.cells #[.string nm, .int .i64 0, .int .i64 0] 41)).cell? ((⟨Yd.heap.size, 0, none⟩ : Addr).add j) = some u) := fun j u hu => by rw [Addr.add_lit, Nat.zero_add]; exact cell_last rfl (by simpa using hu)
            have hzB : w.heap.size ≤ Yd.heap.size := HS.out.Bx
            go_wp2_with (first | (at_builtin; refine wpList_append_lies _ rfl _ _ 23 rfl w.heap.size 41 i2 _ 3 32 Try.underlying23 hi2 hz20 hz21 hz22 rfl (by decide) _ k _ rfl (HA.out.own 1 _ rfl) ⟨Yd.heap.size, 0, none⟩ 1 1 [.string nm, .int .i64 0, .int .i64 0] rfl rfl HNC.out (by intro u hu; simp at hu; first | (rcases hu with rfl | rfl | rfl <;> rfl) | (subst hu; rfl)) (by decide) (by unfold maxLen; omega) (by omega) (by simp; omega) (Yd.heap.size + 1) (by simp) ?_) | go_in)
            intro g cap Y6 ho6 hg6 hat6 hlt6
            have HP : Hid _ := HA.out.push (k := 1) rfl ho6 hg6 hat6 (by simp)
            clear ho6 hg6 hat6 hlt6 HNC
            go_wp2_with fail
            go_roundg (n5 - (k + 1))
            case measure => omega
            case rel => exact ⟨k + 1, by first | rfl | (congr 1; omega), by omega, Nat.le_refl _, Or.inr (HP.out.bad HNB.out)⟩
          have G2 : Hid _ := hf
          have HS : Hid _ := HS.out.call hr hg
          clear hf hr hg
          have q := (HS.out.box 0 _ rfl).1 1 _ rfl
          have zf := (HS.out.box 0 _ rfl).2.1 1
          have HS : Hid (FS w w.heap.size (yc.setCell ⟨zb, 1, none⟩ (.int .i64 kd)) br s _ false [⟨2, 1, .slice a1 data.length c1, data.length, data.flatMap intC⟩, ⟨41, 3, u11, k, l.flatMap symC⟩] [(zb, [.string nm, .int .i64 kd, .int .i64 0])]) := HS.out.put 0 zb [.string nm, .int .i64 0, .int .i64 0] rfl 1 (by simp) (.int .i64 kd)
          obtain ⟨Yc, hYc⟩ : ∃ Y, yc.setCell ⟨zb, 1, none⟩ (.int .i64 kd) = Y := ⟨_, rfl⟩
          rw [hYc] at HS
          go_wp2_with fail
          clear q zf hYc
          refine (xnum_any HS.out.rd 65536 (by decide)).mono ?_
          rintro e yd ⟨⟨ps, jd, hf, rfl, hr⟩ | ⟨hf, rfl, jx, hr⟩, hg⟩
          rotate_left
          · have HNB : Hid (rdBody s = none) := by
              show _ = _
              have hsn : rdSym s j = none := by simp only [rdSym, rdName, G0.out, Int.toNat_natCast, G1.out, G2.out, hf]
              have hcut := many_cut HLR.out hlt hsn
              simp only [rdBody, hcot, if_true, Int.toNat_natCast, F0.out, F1.out, F2.out, F3.out, F4.out, F5.out, hcut]
            have HS : Hid _ := HS.out.call hr hg
            clear hf hr hg
            have q := (HS.out.box 0 _ rfl).1 2 _ rfl
            have zf := (HS.out.box 0 _ rfl).2.1 2
            have HS : Hid (FS w w.heap.size (yd.setCell ⟨zb, 2, none⟩ (.int .i64 0)) br s _ true [⟨2, 1, .slice a1 data.length c1, data.length, data.flatMap intC⟩, ⟨41, 3, u11, k, l.flatMap symC⟩] [(zb, [.string nm, .int .i64 kd, .int .i64 0])]) := HS.out.put 0 zb [.string nm, .int .i64 kd, .int .i64 0] rfl 2 (by simp) (.int .i64 0)
            obtain ⟨Yd, hYd⟩ : ∃ Y, yd.setCell ⟨zb, 2, none⟩ (.int .i64 0) = Y := ⟨_, rfl⟩
            rw [hYd] at HS
            have p0 := (HS.out.box 0 _ rfl).1 0 _ rfl
            have p1 := (HS.out.box 0 _ rfl).1 1 _ rfl
            have p2 := (HS.out.box 0 _ rfl).1 2 _ rfl
            have HA : Hid _ := (HS.out.alloc #[.string nm, .int .i64 kd, .int .i64 0] 41).drop
            have HNC : Hid (∀ j u, ([.string nm, .int .i64 kd, .int .i64 0] : List Value)[j]? = some u → (Yd.alloc (.cells #[.string nm, .int .i64 kd, .int .i64 0] 41)).cell? ((⟨Yd.heap.size, 0, none⟩ : Addr).add j) = some u) := fun j u hu => by rw [Addr.add_lit, Nat.zero_add]; exact cell_last rfl (by simpa using hu)
            have hzB : w.heap.size ≤ Yd.heap.size := HS.out.Bx
            go_wp2_with (first | (at_builtin; refine wpList_append_lies _ rfl _ _ 23 rfl w.heap.size 41 i2 _ 3 32 Try.underlying23 hi2 hz20 hz21 hz22 rfl (by decide) _ k _ rfl (HA.out.own 1 _ rfl) ⟨Yd.heap.size, 0, none⟩ 1 1 [.string nm, .int .i64 kd, .int .i64 0] rfl rfl HNC.out (by intro u hu; simp at hu; first | (rcases hu with rfl | rfl | rfl <;> rfl) | (subst hu; rfl)) (by decide) (by unfold maxLen; omega) (by omega) (by simp; omega) (Yd.heap.size + 1) (by simp) ?_) | go_in)
            intro g cap Y6 ho6 hg6 hat6 hlt6
            have HP : Hid _ := HA.out.push (k := 1) rfl ho6 hg6 hat6 (by simp)
            clear ho6 hg6 hat6 hlt6 HNC
            go_wp2_with fail
            go_roundg (n5 - (k + 1))
            case measure => omega
            case rel => exact ⟨k + 1, by first | rfl | (congr 1; omega), by omega, Nat.le_refl _, Or.inr (HP.out.bad HNB.out)⟩
          have G3 : Hid _ := hf
          have HS : Hid _ := HS.out.call hr hg
          clear hf hr hg
          have q := (HS.out.box 0 _ rfl).1 2 _ rfl
          have zf := (HS.out.box 0 _ rfl).2.1 2
          have HS : Hid (FS w w.heap.size (yd.setCell ⟨zb, 2, none⟩ (.int .i64 ps)) br s _ false [⟨2, 1, .slice a1 data.length c1, data.length, data.flatMap intC⟩, ⟨41, 3, u11, k, l.flatMap symC⟩] [(zb, [.string nm, .int .i64 kd, .int .i64 ps])]) := HS.out.put 0 zb [.string nm, .int .i64 kd, .int .i64 0] rfl 2 (by simp) (.int .i64 ps)
          obtain ⟨Yd, hYd⟩ : ∃ Y, yd.setCell ⟨zb, 2, none⟩ (.int .i64 ps) = Y := ⟨_, rfl⟩
          rw [hYd] at HS
          have p0 := (HS.out.box 0 _ rfl).1 0 _ rfl
          have p1 := (HS.out.box 0 _ rfl).1 1 _ rfl
          have p2 := (HS.out.box 0 _ rfl).1 2 _ rfl
          have HLN : Hid (rdMany rdSym (k + 1) s j5 = some (l ++ [(⟨nm, kd, ps⟩ : Sym)], jd)) := by show _ = _; rw [rdMany, HLR.out]; simp only [rdSym, rdName, G0.out, Int.toNat_natCast, G1.out, G2.out, G3.out]
          have HA : Hid _ := (HS.out.alloc #[.string nm, .int .i64 kd, .int .i64 ps] 41).drop
          have HNC : Hid (∀ j u, ([.string nm, .int .i64 kd, .int .i64 ps] : List Value)[j]? = some u → (Yd.alloc (.cells #[.string nm, .int .i64 kd, .int .i64 ps] 41)).cell? ((⟨Yd.heap.size, 0, none⟩ : Addr).add j) = some u) := fun j u hu => by rw [Addr.add_lit, Nat.zero_add]; exact cell_last rfl (by simpa using hu)
          have hzB : w.heap.size ≤ Yd.heap.size := HS.out.Bx
          go_wp2_with (first | (at_builtin; refine wpList_append_lies _ rfl _ _ 23 rfl w.heap.size 41 i2 _ 3 32 Try.underlying23 hi2 hz20 hz21 hz22 rfl (by decide) _ k _ rfl (HA.out.own 1 _ rfl) ⟨Yd.heap.size, 0, none⟩ 1 1 [.string nm, .int .i64 kd, .int .i64 ps] rfl rfl HNC.out (by intro u hu; simp at hu; first | (rcases hu with rfl | rfl | rfl <;> rfl) | (subst hu; rfl)) (by decide) (by unfold maxLen; omega) (by omega) (by simp; omega) (Yd.heap.size + 1) (by simp) ?_) | go_in)
          intro g cap Y6 ho6 hg6 hat6 hlt6
          have HP : Hid _ := HA.out.push (k := 1) rfl ho6 hg6 hat6 (by simp)
          clear ho6 hg6 hat6 hlt6 HNC
          go_wp2_with fail
          have HPX : Hid (L2 w Y6 br s j5 (k + 1) (.slice a1 data.length c1) data (.slice (some ⟨g, 0, none⟩) (k + 1) cap)) := ⟨l ++ [(⟨nm, kd, ps⟩ : Sym)], _, HLN.out, by have hp := HP.out.drop; rw [show (l ++ [(⟨nm, kd, ps⟩ : Sym)]).flatMap symC = l.flatMap symC ++ [.string nm, .int .i64 kd, .int .i64 ps] by simp [symC]]; exact hp⟩
          go_roundg (n5 - (k + 1))
          case measure => omega
          case rel => exact ⟨k + 1, by first | rfl | (congr 1; omega), by omega, Nat.le_refl _, Or.inl HPX.out⟩
        · obtain rfl : n5 = k := by omega
          have hd : decide ((n5 : Int) < n5) = false := decide_eq_false (by omega)
          obtain ⟨syms, rfl⟩ : ∃ xs, xs = l := ⟨_, rfl⟩
          obtain ⟨j6, rfl⟩ : ∃ x, x = j := ⟨_, rfl⟩
          have F6 : Hid _ := HLR.out
          have hdl := many_len HLR.out
          have HSE : Hid (FS w w.heap.size wr br s j6 false [⟨2, 1, .slice a1 data.length c1, data.length, data.flatMap intC⟩, ⟨41, 3, u11, syms.length, syms.flatMap symC⟩] []) := by
            show FS _ _ _ _ _ _ _ _ _
            have hp := HS.out
            rw [hdl]
            exact hp
          clear HLR hdl
          go_wp2_with fail
          clear q2
          go_ret3
          exact .inl ⟨code, data, syms, j6, _, _, ⟨j0, n1, j1, j2, n3, j3, j4, n5, j5, F0.out, F1.out, F2.out, F3.out, F4.out, F5.out, F6.out⟩, rfl, HSE.out⟩

end Go.Proofs.Ytmpmfjplnajjdaa
