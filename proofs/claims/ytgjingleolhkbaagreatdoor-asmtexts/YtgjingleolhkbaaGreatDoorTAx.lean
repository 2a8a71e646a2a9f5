import Derived.Test.YtgjingleolhkbaaGreatDoorTAe
import Derived.Test.YtgjingleolhkbaaGreatDoorTAw
import Derived.Deep.CutRange
namespace Go.Proofs.YtgjingleolhkbaaGreatDoor
open Go.RowKit Go.Maps
set_option linter.unusedVariables false
set_option linter.unusedSimpArgs false
namespace Z
def dup (a b : X.It) : Bool := decide (a.name = b.name) && ((place a && place b) || (shown a && shown b))
theorem dup_no {ts : List X.It} (h : ∀ i j, j < i → i < ts.length → dup (ts.getD i X.noIt) (ts.getD j X.noIt) = false) : unl place ts = true ∧ unl shown ts = true := by
 have key : ∀ p : X.It → Bool, (∀ a b, p a = true → p b = true → a.name = b.name → dup a b = true) → unl p ts = true := fun p hp => by
  unfold unl
  refine decide_eq_true ?_
  unfold nms
  rw [List.Nodup, List.pairwise_map, List.pairwise_filter, List.pairwise_iff_getElem]
  intro i j hi hj hij pi pj e
  have := h j i hij hj
  rw [show ts.getD j X.noIt = ts[j] by simp [List.getD, hj], show ts.getD i X.noIt = ts[i] by simp [List.getD, hi], hp _ _ pj pi e.symm] at this
  cases this
 refine ⟨key place fun a b ha hb e => ?_, key shown fun a b ha hb e => ?_⟩
 ·unfold dup; rw [decide_eq_true e, ha, hb]; rfl
 ·unfold dup; rw [decide_eq_true e, ha, hb]; simp
theorem dup_yes {ts : List X.It} {i j : Nat} (hj : j < i) (hi : i < ts.length) (h : dup (ts.getD i X.noIt) (ts.getD j X.noIt) = true) : nameE ts = 5 := by
 have hjl : j < ts.length := by omega
 rw [show ts.getD j X.noIt = ts[j] by simp [List.getD, hjl], show ts.getD i X.noIt = ts[i] by simp [List.getD, hi]] at h
 unfold dup at h
 simp only [Bool.and_eq_true, decide_eq_true_eq, Bool.or_eq_true] at h
 have key : ∀ p : X.It → Bool, p ts[i] = true → p ts[j] = true → ¬ unl p ts = true := fun p hpi hpj hu => by
  have h1 := nms_pair hu
  rw [List.pairwise_iff_getElem] at h1
  exact h1 j i hjl hi hj hpj hpi h.1.symm
 unfold nameE
 rw [if_neg]
 rintro ⟨h1, h2⟩
 rcases h.2 with ⟨a, b⟩ | ⟨a, b⟩
 ·exact key place a b h1
 ·exact key shown a b h2
def asks (t : X.It) : Bool := jumpD t || shown t
theorem jump_ok {t : X.It} (h : X.itOk t = true) : jumpD t = jump t := by
 unfold jumpD
 rcases X.itOk_cases h with ⟨hk, -⟩ | ⟨-, -, -, -, hz⟩ | ⟨-, -, -, hz⟩
 ·rw [hk]; rfl
 ·unfold X.zeroIns at hz; simp only [decide_eq_true_eq] at hz
  have : jump t = false := by unfold jump shortOf; rw [hz.1]; rfl
  rw [this, Bool.and_false]
 ·unfold X.zeroIns at hz; simp only [decide_eq_true_eq] at hz
  have : jump t = false := by unfold jump shortOf; rw [hz.1]; rfl
  rw [this, Bool.and_false]
theorem unk_no {ts : List X.It} (hok : ∀ t ∈ ts, X.itOk t = true) (h : ∀ i, i < ts.length → asks (ts.getD i X.noIt) = true → (lab ts (ts.getD i X.noIt).name).isSome = true) : unk ts = false := by
 unfold unk
 rw [List.any_eq_false]
 intro t ht
 obtain ⟨i, hi, rfl⟩ := List.getElem_of_mem ht
 have h1 := h i hi
 rw [show ts.getD i X.noIt = ts[i] by simp [List.getD, hi]] at h1
 unfold asks at h1
 rw [jump_ok (hok _ ht), Bool.or_comm] at h1
 intro h2
 rw [Bool.and_eq_true] at h2
 have h3 := h1 h2.1
 cases hh : lab ts ts[i].name with
 | none => rw [hh] at h3; cases h3
 | some x => rw [hh] at h2; simp at h2
theorem unk_yes {ts : List X.It} (hok : ∀ t ∈ ts, X.itOk t = true) {i : Nat} (hi : i < ts.length) (ha : asks (ts.getD i X.noIt) = true) (hn : lab ts (ts.getD i X.noIt).name = none) (h1 : unl place ts = true ∧ unl shown ts = true) : nameE ts = 6 := by
 have hm : ts.getD i X.noIt ∈ ts := by simp [List.getD, hi]
 unfold nameE
 rw [if_pos h1, if_pos]
 unfold unk
 rw [List.any_eq_true]
 refine ⟨_, hm, ?_⟩
 unfold asks at ha
 rw [jump_ok (hok _ hm), Bool.or_comm] at ha
 rw [ha, hn]
 rfl
end Z
set_option maxRecDepth 100000 in
set_option maxHeartbeats 60000000 in
theorem rnames_any {w : World} {a : Option Addr} {l c : Nat} {ts : List X.It} (h : ItsV w a l c ts) (hok : ∀ t ∈ ts, X.itOk t = true) :
  Calls Tryz.prog 29 #[.slice a l c] w fun e w' => e = .returned (.int .i64 (Z.nameE ts)) ∧ Below w.heap.size w w' := by
 have HV : Hid _ := h
 have HC : Hid (ts.length = l) := h.count
 have HOK : Hid (∀ t ∈ ts, X.itOk t = true) := hok
 have hm : l ≤ 9223372036854775807 := by have := h.room; unfold maxLen at this; omega
 clear h hok
 go_enter Tryz.func29, Tryz.ntmps29
 go_wp2_with fail
 go_loopg [3, 4, 5, 6, 7, 8] l (fun r iv z4 z5 z6 z7 z8 wq => ∃ (k : Nat), r = l - k ∧ iv = .int .i64 k ∧ k ≤ l ∧ Hid (Below w.heap.size w wq) ∧ Hid (∀ i j, j < i → i < k → Z.dup (ts.getD i X.noIt) (ts.getD j X.noIt) = false))
 case atStart => exact ⟨0, rfl, rfl, Nat.zero_le _, Below.refl _ _, (fun i j _ hi => by omega : ∀ i j, j < i → i < 0 → _)⟩
 case round =>
  obtain ⟨k, rfl, rfl, hk, HB0, HND⟩ := hrel
  by_cases hlt : k < l
  ·have hii : (k : Int) < l := by omega
   have hin : 0 ≤ (k : Int) := by omega
   obtain ⟨t, hg⟩ : ∃ t, ts.getD k X.noIt = t := ⟨_, rfl⟩
   have HGD : Hid (ts.getD k X.noIt = t) := hg
   clear hg
   go_wp2_with fail
   go_loopg [4, 5, 6, 7, 8] k (fun r jv y5 y6 y7 y8 wq => ∃ (j : Nat), r = k - j ∧ jv = .int .i64 j ∧ j ≤ k ∧ Hid (Below w.heap.size w wq) ∧ Hid (∀ j', j' < j → Z.dup t (ts.getD j' X.noIt) = false))
   case atStart => exact ⟨0, rfl, rfl, Nat.zero_le _, HB0.out, (fun j hj => by omega : ∀ j', j' < 0 → _)⟩
   case round =>
    obtain ⟨j, rfl, rfl, hj, HB, HNJ⟩ := hrel
    by_cases hjk : j < k
    ·have hji : (j : Int) < k := by omega
     have hjn : 0 ≤ (j : Int) := by omega
     have hjl : (j : Int) < l := by omega
     obtain ⟨b, off, t', awt, lwt, cwt, rfl, hgt, -, c0, c1, -⟩ := (HV.out.below HB.out).at hlt
     obtain rfl : t = t' := HGD.out.symm.trans hgt
     obtain ⟨b', off', tj, awj, lwj, cwj, eb, hgj, -, d0, d1, -⟩ := (HV.out.below HB.out).at (show j < l by omega)
     cases eb
     clear hgt
     have HGJ : Hid (ts.getD j X.noIt = tj) := hgj
     clear hgj
     have HND2 : Hid (Z.dup t tj = false → ∀ j', j' < j + 1 → Z.dup t (ts.getD j' X.noIt) = false) := fun e j' hj' => by
      by_cases e2 : j' = j
      ·subst e2; rw [HGJ.out]; exact e
      ·exact HNJ.out j' (by omega)
     have HR5' : Hid (Z.dup t tj = true → Z.nameE ts = 5) := fun e => Z.dup_yes hjk (by rw [HC.out]; exact hlt) (by rw [HGD.out, HGJ.out]; exact e)
     go_upto_region 7 with fail
     go_cut [5] from 18 to 101 (fun v wc => v = .bool (Z.place t) ∧ wr = wc)
     case first =>
      by_cases h1 : t.kind = 1
      ·have e1 : (t.kind == 1) = true := by simpa using h1
       go_wp2_with fail
       go_meet
       case rel => exact ⟨by simp [Z.place, Z.shown, h1], rfl⟩
      ·have e1 : (t.kind == 1) = false := by simpa using h1
       by_cases h2 : t.kind = 3
       ·have e2 : (t.kind == 3) = true := by simpa using h2
        go_wp2_with fail
        go_meet
        case rel => exact ⟨by simp [Z.place, Z.shown, h2], rfl⟩
       ·have e2 : (t.kind == 3) = false := by simpa using h2
        go_wp2_with fail
        go_meet
        case rel => exact ⟨by simp [Z.place, Z.shown, h1, h2], rfl⟩
     case rest =>
     obtain ⟨rfl, rfl⟩ := hcut
     go_upto_region 8 with fail
     go_cut [6] from 18 to 101 (fun v wc => v = .bool (Z.place tj) ∧ wr = wc)
     case first =>
      by_cases h1 : tj.kind = 1
      ·have e1 : (tj.kind == 1) = true := by simpa using h1
       go_wp2_with fail
       go_meet
       case rel => exact ⟨by simp [Z.place, Z.shown, h1], rfl⟩
      ·have e1 : (tj.kind == 1) = false := by simpa using h1
       by_cases h2 : tj.kind = 3
       ·have e2 : (tj.kind == 3) = true := by simpa using h2
        go_wp2_with fail
        go_meet
        case rel => exact ⟨by simp [Z.place, Z.shown, h2], rfl⟩
       ·have e2 : (tj.kind == 3) = false := by simpa using h2
        go_wp2_with fail
        go_meet
        case rel => exact ⟨by simp [Z.place, Z.shown, h1, h2], rfl⟩
     case rest =>
     obtain ⟨rfl, rfl⟩ := hcut
     go_upto_region 9 with fail
     go_cut [7] from 18 to 101 (fun v wc => v = .bool (Z.shown t) ∧ wr = wc)
     case first =>
      by_cases h1 : t.kind = 4
      ·have e1 : (t.kind == 4) = true := by simpa using h1
       go_wp2_with fail
       go_meet
       case rel => exact ⟨by simp [Z.place, Z.shown, h1], rfl⟩
      ·have e1 : (t.kind == 4) = false := by simpa using h1
       by_cases h2 : t.kind = 5
       ·have e2 : (t.kind == 5) = true := by simpa using h2
        go_wp2_with fail
        go_meet
        case rel => exact ⟨by simp [Z.place, Z.shown, h2], rfl⟩
       ·have e2 : (t.kind == 5) = false := by simpa using h2
        go_wp2_with fail
        go_meet
        case rel => exact ⟨by simp [Z.place, Z.shown, h1, h2], rfl⟩
     case rest =>
     obtain ⟨rfl, rfl⟩ := hcut
     go_upto_region 10 with fail
     go_cut [8] from 18 to 101 (fun v wc => v = .bool (Z.shown tj) ∧ wr = wc)
     case first =>
      by_cases h1 : tj.kind = 4
      ·have e1 : (tj.kind == 4) = true := by simpa using h1
       go_wp2_with fail
       go_meet
       case rel => exact ⟨by simp [Z.place, Z.shown, h1], rfl⟩
      ·have e1 : (tj.kind == 4) = false := by simpa using h1
       by_cases h2 : tj.kind = 5
       ·have e2 : (tj.kind == 5) = true := by simpa using h2
        go_wp2_with fail
        go_meet
        case rel => exact ⟨by simp [Z.place, Z.shown, h2], rfl⟩
       ·have e2 : (tj.kind == 5) = false := by simpa using h2
        go_wp2_with fail
        go_meet
        case rel => exact ⟨by simp [Z.place, Z.shown, h1, h2], rfl⟩
     case rest =>
     obtain ⟨rfl, rfl⟩ := hcut
     have HDU : Hid (Z.dup t tj = (decide (t.name = tj.name) && ((Z.place t && Z.place tj) || (Z.shown t && Z.shown tj)))) := rfl
     generalize Z.place t = pa at *
     generalize Z.place tj = pb at *
     generalize Z.shown t = pc at *
     generalize Z.shown tj = pd at *
     by_cases hn : t.name = tj.name
     ·have hne : ((X.str t.name).toList == (X.str tj.name).toList) = true := by rw [hn]; simp
      rw [decide_eq_true hn, Bool.true_and] at HDU
      clear hn
      cases pa <;> cases pb <;> cases pc <;> cases pd
      ·replace HND2 : Hid (∀ j', j' < j + 1 → Z.dup t (ts.getD j' X.noIt) = false) := HND2.out HDU.out
       go_wp2_with fail
       go_quiet (fail)
       go_wp2_with fail
       go_roundg (k - (j + 1))
       case measure => omega
       case rel => exact ⟨j + 1, rfl, by go_num, by omega, bl_drewN HB.out _, HND2⟩
      ·replace HND2 : Hid (∀ j', j' < j + 1 → Z.dup t (ts.getD j' X.noIt) = false) := HND2.out HDU.out
       go_wp2_with fail
       go_quiet (fail)
       go_wp2_with fail
       go_roundg (k - (j + 1))
       case measure => omega
       case rel => exact ⟨j + 1, rfl, by go_num, by omega, bl_drewN HB.out _, HND2⟩
      ·replace HND2 : Hid (∀ j', j' < j + 1 → Z.dup t (ts.getD j' X.noIt) = false) := HND2.out HDU.out
       go_wp2_with fail
       go_quiet (fail)
       go_wp2_with fail
       go_roundg (k - (j + 1))
       case measure => omega
       case rel => exact ⟨j + 1, rfl, by go_num, by omega, bl_drewN HB.out _, HND2⟩
      ·have HR5 : Hid (Z.nameE ts = 5) := HR5'.out HDU.out
       go_wp2_with fail
       go_quiet (fail)
       go_wp2_with fail
       go_ret
       exact ⟨by rw [HR5.out]; rfl, bl_drewN HB.out _⟩
      ·replace HND2 : Hid (∀ j', j' < j + 1 → Z.dup t (ts.getD j' X.noIt) = false) := HND2.out HDU.out
       go_wp2_with fail
       go_quiet (fail)
       go_wp2_with fail
       go_roundg (k - (j + 1))
       case measure => omega
       case rel => exact ⟨j + 1, rfl, by go_num, by omega, bl_drewN HB.out _, HND2⟩
      ·replace HND2 : Hid (∀ j', j' < j + 1 → Z.dup t (ts.getD j' X.noIt) = false) := HND2.out HDU.out
       go_wp2_with fail
       go_quiet (fail)
       go_wp2_with fail
       go_roundg (k - (j + 1))
       case measure => omega
       case rel => exact ⟨j + 1, rfl, by go_num, by omega, bl_drewN HB.out _, HND2⟩
      ·replace HND2 : Hid (∀ j', j' < j + 1 → Z.dup t (ts.getD j' X.noIt) = false) := HND2.out HDU.out
       go_wp2_with fail
       go_quiet (fail)
       go_wp2_with fail
       go_roundg (k - (j + 1))
       case measure => omega
       case rel => exact ⟨j + 1, rfl, by go_num, by omega, bl_drewN HB.out _, HND2⟩
      ·have HR5 : Hid (Z.nameE ts = 5) := HR5'.out HDU.out
       go_wp2_with fail
       go_quiet (fail)
       go_wp2_with fail
       go_ret
       exact ⟨by rw [HR5.out]; rfl, bl_drewN HB.out _⟩
      ·replace HND2 : Hid (∀ j', j' < j + 1 → Z.dup t (ts.getD j' X.noIt) = false) := HND2.out HDU.out
       go_wp2_with fail
       go_quiet (fail)
       go_wp2_with fail
       go_roundg (k - (j + 1))
       case measure => omega
       case rel => exact ⟨j + 1, rfl, by go_num, by omega, bl_drewN HB.out _, HND2⟩
      ·replace HND2 : Hid (∀ j', j' < j + 1 → Z.dup t (ts.getD j' X.noIt) = false) := HND2.out HDU.out
       go_wp2_with fail
       go_quiet (fail)
       go_wp2_with fail
       go_roundg (k - (j + 1))
       case measure => omega
       case rel => exact ⟨j + 1, rfl, by go_num, by omega, bl_drewN HB.out _, HND2⟩
      ·replace HND2 : Hid (∀ j', j' < j + 1 → Z.dup t (ts.getD j' X.noIt) = false) := HND2.out HDU.out
       go_wp2_with fail
       go_quiet (fail)
       go_wp2_with fail
       go_roundg (k - (j + 1))
       case measure => omega
       case rel => exact ⟨j + 1, rfl, by go_num, by omega, bl_drewN HB.out _, HND2⟩
      ·have HR5 : Hid (Z.nameE ts = 5) := HR5'.out HDU.out
       go_wp2_with fail
       go_quiet (fail)
       go_wp2_with fail
       go_ret
       exact ⟨by rw [HR5.out]; rfl, bl_drewN HB.out _⟩
      ·have HR5 : Hid (Z.nameE ts = 5) := HR5'.out HDU.out
       go_wp2_with fail
       go_quiet (fail)
       go_wp2_with fail
       go_ret
       exact ⟨by rw [HR5.out]; rfl, bl_drewN HB.out _⟩
      ·have HR5 : Hid (Z.nameE ts = 5) := HR5'.out HDU.out
       go_wp2_with fail
       go_quiet (fail)
       go_wp2_with fail
       go_ret
       exact ⟨by rw [HR5.out]; rfl, bl_drewN HB.out _⟩
      ·have HR5 : Hid (Z.nameE ts = 5) := HR5'.out HDU.out
       go_wp2_with fail
       go_quiet (fail)
       go_wp2_with fail
       go_ret
       exact ⟨by rw [HR5.out]; rfl, bl_drewN HB.out _⟩
      ·have HR5 : Hid (Z.nameE ts = 5) := HR5'.out HDU.out
       go_wp2_with fail
       go_quiet (fail)
       go_wp2_with fail
       go_ret
       exact ⟨by rw [HR5.out]; rfl, bl_drewN HB.out _⟩
     ·have hne : ((X.str t.name).toList == (X.str tj.name).toList) = false := by
       rw [ByteArray.toList_eq, ByteArray.toList_eq, str_list, str_list]
       simpa using hn
      rw [decide_eq_false hn, Bool.false_and] at HDU
      replace HND2 : Hid (∀ j', j' < j + 1 → Z.dup t (ts.getD j' X.noIt) = false) := HND2.out HDU.out
      clear hn
      go_wp2_with fail
      go_quiet (fail)
      go_wp2_with fail
      go_roundg (k - (j + 1))
      case measure => omega
      case rel => exact ⟨j + 1, rfl, by go_num, by omega, bl_drewN HB.out _, HND2⟩
    ·obtain rfl : j = k := by omega
     have hji : ¬ (j : Int) < j := by omega
     have HND3 : Hid (∀ i j', j' < i → i < j + 1 → Z.dup (ts.getD i X.noIt) (ts.getD j' X.noIt) = false) := fun i j' h1 h2 => by
      by_cases e : i = j
      ·subst e; rw [HGD.out]; exact HNJ.out j' h1
      ·exact HND.out i j' h1 (by omega)
     go_wp2_with fail
     go_roundg (l - (j + 1))
     case measure => omega
     case rel => exact ⟨j + 1, rfl, by go_num, by omega, HB, HND3⟩
  ·obtain rfl : k = l := by omega
   have hii : ¬ (k : Int) < k := by omega
   have HUL : Hid (Z.unl Z.place ts = true ∧ Z.unl Z.shown ts = true) := Z.dup_no (fun i j h1 h2 => HND.out i j h1 (by rw [← HC.out]; exact h2))
   go_wp2_with fail
   go_loopg [9, 10, 11] k (fun r iv y1 y2 wq => ∃ (m : Nat), r = k - m ∧ iv = .int .i64 m ∧ m ≤ k ∧ Hid (Below w.heap.size w wq) ∧ Hid (∀ i, i < m → Z.asks (ts.getD i X.noIt) = true → (Z.lab ts (ts.getD i X.noIt).name).isSome = true))
   case atStart => exact ⟨0, rfl, rfl, Nat.zero_le _, HB0.out, (fun i hi => by omega : ∀ i, i < 0 → _)⟩
   case round =>
    obtain ⟨m, rfl, rfl, hm2, HB, HLA⟩ := hrel
    by_cases hmk : m < k
    ·have hii : (m : Int) < k := by omega
     have hin : 0 ≤ (m : Int) := by omega
     obtain ⟨b, off, t, aw, lw, cw, rfl, hg, hmem, c0, c1, c2, c3, c4, c5, c6, hi⟩ := (HV.out.below HB.out).at hmk
     have HGD : Hid (ts.getD m X.noIt = t) := hg
     have hjm := rjump_any t aw lw cw wr
     have HAS : Hid (Z.asks t = (Z.jumpD t || (decide (t.kind = 4) || decide (t.kind = 5)))) := rfl
     have HNX : Hid ((Z.asks t = true → (Z.lab ts t.name).isSome = true) → ∀ i, i < m + 1 → Z.asks (ts.getD i X.noIt) = true → (Z.lab ts (ts.getD i X.noIt).name).isSome = true) := fun e i hi => by
      by_cases e2 : i = m
      ·subst e2; rw [HGD.out]; exact e
      ·exact HLA.out i (by omega)
     have HUN : Hid (Z.asks t = true → Z.lab ts t.name = none → Z.nameE ts = 6) := fun e1 e2 => Z.unk_yes HOK.out (i := m) (by rw [HC.out]; exact hmk) (by rw [HGD.out]; exact e1) (by rw [HGD.out]; exact e2) HUL.out
     have HK : Hid (∀ y, Below wr.heap.size wr y → y.cell? ⟨b, off + m * 7, none⟩ = some (.int .i64 t.kind) ∧ y.cell? ⟨b, off + m * 7 + 1, none⟩ = some (.string (X.str t.name))) := fun y hy => ⟨cell_thru hy c0, cell_thru hy c1⟩
     have HLB : Hid (∀ y, Below wr.heap.size wr y → Calls Tryz.prog 33 #[.slice (some ⟨b, off, none⟩) k c, .string (X.str t.name)] y fun e w' => e = .returned (.tuple #[.int .i64 (Z.labN ts t.name), .bool (Z.lab ts t.name).isSome]) ∧ Below y.heap.size y w') := fun y hy => rlabel_any ((HV.out.below HB.out).below hy) t.name
     clear hg hmem hi
     go_upto_region 16 with fail
     go_cut [128] from 102 to 140 (fun v wc => v = .bool (Z.asks t) ∧ Hid (Below wr.heap.size wr wc))
     case first =>
      cases hjd : Z.jumpD t with
      | true =>
       rw [hjd] at hjm HAS
       go_wp2_with fail
       refine hjm.mono ?_
       rintro e y ⟨rfl, hy⟩
       go_wp2_with fail
       go_meet
       case rel => exact ⟨by rw [HAS.out]; rfl, hy⟩
      | false =>
       rw [hjd] at hjm HAS
       by_cases h4 : t.kind = 4
       ·have e4 : (t.kind == 4) = true := by simpa using h4
        have H4 : Hid (t.kind = 4) := h4
        clear h4
        go_wp2_with fail
        refine hjm.mono ?_
        rintro e y ⟨rfl, hy⟩
        obtain ⟨d0, d1⟩ := HK.out y hy
        have HY : Hid (Below wr.heap.size wr y) := hy
        clear hy hjm c0 c1 c2 c3 c4 c5 c6
        go_wp2_with fail
        go_meet
        case rel => exact ⟨by rw [HAS.out, decide_eq_true H4.out]; rfl, HY.out⟩
       ·have e4 : (t.kind == 4) = false := by simpa using h4
        have H4 : Hid (¬ t.kind = 4) := h4
        clear h4
        by_cases h5 : t.kind = 5
        ·have e5 : (t.kind == 5) = true := by simpa using h5
         have H5 : Hid (t.kind = 5) := h5
         clear h5
         go_wp2_with fail
         refine hjm.mono ?_
         rintro e y ⟨rfl, hy⟩
         obtain ⟨d0, d1⟩ := HK.out y hy
         have HY : Hid (Below wr.heap.size wr y) := hy
         clear hy hjm c0 c1 c2 c3 c4 c5 c6
         go_wp2_with fail
         go_meet
         case rel => exact ⟨by rw [HAS.out, decide_eq_true H5.out]; simp, HY.out⟩
        ·have e5 : (t.kind == 5) = false := by simpa using h5
         have H5 : Hid (¬ t.kind = 5) := h5
         clear h5
         go_wp2_with fail
         refine hjm.mono ?_
         rintro e y ⟨rfl, hy⟩
         obtain ⟨d0, d1⟩ := HK.out y hy
         have HY : Hid (Below wr.heap.size wr y) := hy
         clear hy hjm c0 c1 c2 c3 c4 c5 c6
         go_wp2_with fail
         go_meet
         case rel => exact ⟨by rw [HAS.out, decide_eq_false H4.out, decide_eq_false H5.out]; rfl, HY.out⟩
     case rest =>
     obtain ⟨rfl, HW⟩ := hcut
     obtain ⟨d0, d1⟩ := HK.out wc HW.out
     have hlb := HLB.out wc HW.out
     have HBW : Hid (Below w.heap.size w wc) := HB.out.trans (HW.out.mono HB.out.size)
     clear hjm
     cases has : Z.asks t with
     | false =>
      replace HNX : Hid (∀ i, i < m + 1 → Z.asks (ts.getD i X.noIt) = true → (Z.lab ts (ts.getD i X.noIt).name).isSome = true) := HNX.out (fun e => by rw [has] at e; cases e)
      clear hlb
      go_wp2_with fail
      go_roundg (k - (m + 1))
      case measure => omega
      case rel => exact ⟨m + 1, rfl, by go_num, by omega, HBW, HNX⟩
     | true =>
      cases hlab : Z.lab ts t.name with
      | none =>
       have HR6 : Hid (Z.nameE ts = 6) := HUN.out has hlab
       rw [hlab] at hlb
       clear has
       go_wp2_with fail
       refine hlb.mono ?_
       rintro e y ⟨rfl, hy⟩
       have HBY : Hid (Below w.heap.size w y) := HBW.out.trans (hy.mono HBW.out.size)
       clear hy hlb
       go_wp2_with fail
       go_ret
       exact ⟨by rw [HR6.out]; rfl, HBY.out⟩
      | some q =>
       replace HNX : Hid (∀ i, i < m + 1 → Z.asks (ts.getD i X.noIt) = true → (Z.lab ts (ts.getD i X.noIt).name).isSome = true) := HNX.out (fun e => by rw [hlab]; rfl)
       rw [hlab] at hlb
       clear has
       go_wp2_with fail
       refine hlb.mono ?_
       rintro e y ⟨rfl, hy⟩
       have HBY : Hid (Below w.heap.size w y) := HBW.out.trans (hy.mono HBW.out.size)
       clear hy hlb
       go_wp2_with fail
       go_roundg (k - (m + 1))
       case measure => omega
       case rel => exact ⟨m + 1, rfl, by go_num, by omega, HBY, HNX⟩
    ·obtain rfl : m = k := by omega
     have hii : ¬ (m : Int) < m := by omega
     have HR0 : Hid (Z.nameE ts = 0) := by
      show _ = _
      have h1 := Z.unk_no HOK.out (fun i hi => HLA.out i (by rw [← HC.out]; exact hi))
      unfold Z.nameE
      rw [if_pos HUL.out, h1]
      rfl
     go_wp2_with fail
     go_ret
     exact ⟨by rw [HR0.out]; rfl, HB.out⟩

end Go.Proofs.YtgjingleolhkbaaGreatDoor
