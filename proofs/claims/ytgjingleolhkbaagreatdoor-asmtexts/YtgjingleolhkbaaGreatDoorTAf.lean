/- Where labels are: 'collect'. (Written by gen_collect.py.) -/
import Derived.Test.YtgjingleolhkbaaGreatDoorTAe
namespace Go.Proofs.YtgjingleolhkbaaGreatDoor
open Go.RowKit Go.Maps
set_option linter.unusedVariables false
set_option linter.unusedSimpArgs false

structure NM (W : World) (bm : Nat) (ts : List X.It) : Prop where
 ex : ∃ D n, W.ownsMap Tryz.prog 9 (plainElem (H := Unit) Tryz.prog 3) bm n D ∧ (∀ nm, Maps.has D (.string nm) = (Z.lab ts nm).isSome) ∧ (∀ nm, D.atKey (.string nm) (.lit (.int .i64 0)) = .lit (.int .i64 (Z.labN ts nm)))
theorem NM.kept {W W' : World} {bm : Nat} {ts : List X.It} {row : Option Nat} (h : NM W bm ts) (hg : W.grownBy W' row) (hne : some bm ≠ row) : NM W' bm ts := by
 obtain ⟨D, n, h1, h2, h3⟩ := h.ex
 exact ⟨D, n, h1.kept hg hne, h2, h3⟩
theorem NM.below {W W' : World} {bm : Nat} {ts : List X.It} (h : NM W bm ts) (hb : Below W.heap.size W W') : NM W' bm ts := h.kept (gb_of_below hb none) (by simp)
theorem NM.map {W : World} {bm : Nat} {ts : List X.It} (h : NM W bm ts) : ∃ es cl, W.heap[bm]? = some (.map es cl) := by
 obtain ⟨D, n, ⟨es, cl, h1, -⟩, -⟩ := h.ex
 exact ⟨es, cl, h1⟩
theorem NM.lt {W : World} {bm : Nat} {ts : List X.It} (h : NM W bm ts) : bm < W.heap.size := by
 obtain ⟨D, n, h1, -⟩ := h.ex
 exact h1.lt
structure LP (D : DataW Unit) (ts : List X.It) (k : Nat) : Prop where
 m : IsMap D
 y : ∀ nm i, i < k → Z.isLab nm (ts.getD i X.noIt) = true → Maps.has D (.string nm) = true ∧ D.atKey (.string nm) (.lit (.int .i64 0)) = .lit (.int .i64 i)
 n : ∀ nm, (∀ i, i < k → Z.isLab nm (ts.getD i X.noIt) = false) → Maps.has D (.string nm) = false
theorem LP.start (ts : List X.It) : LP (.map []) ts 0 := ⟨isMap_empty, fun _ i hi => by omega, fun nm _ => rfl⟩
theorem LP.skip {D : DataW Unit} {ts : List X.It} {k : Nat} (h : LP D ts k) (hk : ¬ (ts.getD k X.noIt).kind = 1) : LP D ts (k + 1) := by
 have hl : ∀ nm, Z.isLab nm (ts.getD k X.noIt) = false := fun nm => by unfold Z.isLab; rw [decide_eq_false hk]; rfl
 refine ⟨h.m, fun nm i hi hn => ?_, fun nm hn => h.n nm (fun i hi => hn i (by omega))⟩
 by_cases e : i = k
 ·subst e; rw [hl] at hn; cases hn
 ·exact h.y nm i (by omega) hn
theorem LP.add {D : DataW Unit} {ts : List X.It} {k : Nat} (h : LP D ts k) (ho : Z.Once ts) (hk : k < ts.length) (hl : (ts.getD k X.noIt).kind = 1) : LP (D.put (.string (ts.getD k X.noIt).name) (.lit (.int .i64 k))) ts (k + 1) := by
 have hL : Z.isLab (ts.getD k X.noIt).name (ts.getD k X.noIt) = true := by unfold Z.isLab; rw [decide_eq_true hl, decide_eq_true rfl]; rfl
 refine ⟨h.m.put _ _, fun nm i hi hn => ?_, fun nm hn => ?_⟩
 ·by_cases e : nm = (ts.getD k X.noIt).name
  ·subst e
   obtain rfl : i = k := ho i k _ (by omega) hk hn hL
   exact ⟨has_put_same h.m (isKeyStr _) _, atKey_put_same h.m (isKeyStr _) _ _⟩
  ·have hne : Lit.string nm ≠ Lit.string (ts.getD k X.noIt).name := fun e2 => e (by injection e2)
   have hik : i ≠ k := fun e2 => by
    subst e2
    simp only [Z.isLab, Bool.and_eq_true, decide_eq_true_eq] at hn
    exact e hn.2.symm
   rw [has_put_other hne, atKey_put_other hne]
   exact h.y nm i (by omega) hn
 ·have hne : Lit.string nm ≠ Lit.string (ts.getD k X.noIt).name := fun e2 => by
   injection e2 with e2
   have := hn k (Nat.lt_succ_self _)
   rw [e2, hL] at this
   cases this
  rw [has_put_other hne]
  exact h.n nm (fun i hi => hn i (by omega))
theorem LP.fin {D : DataW Unit} {ts : List X.It} (h : LP D ts ts.length) : (∀ nm, Maps.has D (.string nm) = (Z.lab ts nm).isSome) ∧ (∀ nm, D.atKey (.string nm) (.lit (.int .i64 0)) = .lit (.int .i64 (Z.labN ts nm))) := by
 have key : ∀ nm, Maps.has D (.string nm) = (Z.lab ts nm).isSome ∧ D.atKey (.string nm) (.lit (.int .i64 0)) = .lit (.int .i64 (Z.labN ts nm)) := fun nm => by
  cases hl : Z.lab ts nm with
  | none =>
   have h1 := h.n nm (Z.lab_none hl)
   refine ⟨h1, ?_⟩
   rw [atKey_of_not_has h1]
   unfold Z.labN
   rw [hl]
   rfl
  | some i =>
   obtain ⟨h1, h2⟩ := Z.lab_some hl
   obtain ⟨h3, h4⟩ := h.y nm i h1 h2
   refine ⟨h3, ?_⟩
   rw [h4]
   unfold Z.labN
   rw [hl]
   rfl
 exact ⟨fun nm => (key nm).1, fun nm => (key nm).2⟩

set_option maxHeartbeats 4000000 in
theorem nhas_any {w : World} {bm : Nat} {ts : List X.It} (h : NM w bm ts) (nm : X.By) (hnm : nm.length ≤ maxLen) :
  Calls Tryz.prog 49 #[.map (some bm), .string (X.str nm)] w fun e w' => e = .returned (.bool (Z.lab ts nm).isSome) ∧ Below w.heap.size w w' := by
 obtain ⟨D, n, h1, h2, h3⟩ := h.ex
 have hH := h2 nm
 have HM : Hid _ := h1
 have hkey := keyStr nm hnm
 generalize (Z.lab ts nm).isSome = bb at *
 generalize X.str nm = s at *
 clear h h1 h2 h3
 go_enter Tryz.func49, Tryz.ntmps49
 go_wp2_with (first | (at_lookup; refine wpList_lookup_own_ok_int _ rfl _ _ 54 rfl 9 3 .i64 lawS Tryz.underlying54 Tryz.underlying3 (zeroI _) bm n D rfl HM.out _ _ rfl hkey ?_; intro c hat hwc; rw [hH]; clear hat hwc) | go_in)
 go_ret
 exact ⟨rfl, Below.refl _ _⟩

def CollectOut (w : World) (ts : List X.It) (e : Ending) (w' : World) : Prop :=
 ((Z.nameE ts = 0 ∧ ∃ bm, e = .returned (.tuple #[.map (some bm), .int .i64 0]) ∧ NM w' bm ts ∧ w.heap.size ≤ bm ∧ Z.Once ts) ∨ (Z.nameE ts ≠ 0 ∧ e = .returned (.tuple #[.map none, .int .i64 (Z.nameE ts)]))) ∧ Below w.heap.size w w'
theorem CollectOut.bad {w w' : World} {ts : List X.It} {z : Nat} (h : Z.nameE ts = z) (hz : z ≠ 0) (hb : Below w.heap.size w w') : CollectOut w ts (.returned (.tuple #[.map none, .int .i64 z])) w' :=
 ⟨.inr ⟨by rw [h]; exact hz, by rw [h]⟩, hb⟩
theorem nameE_dup {ts : List X.It} (h : Z.unl Z.place ts = false ∨ Z.unl Z.shown ts = false) : Z.nameE ts = 5 := by
 unfold Z.nameE
 rw [if_neg]
 rintro ⟨h1, h2⟩
 rcases h with h | h
 ·rw [h] at h1; cases h1
 ·rw [h] at h2; cases h2
theorem nameE_un {ts : List X.It} (h1 : Z.unl Z.place ts = true) (h2 : Z.unl Z.shown ts = true) : Z.nameE ts = if Z.unk ts = true then 6 else 0 := by
 unfold Z.nameE
 rw [if_pos ⟨h1, h2⟩]
theorem callPlace (args : Array Value) (W : World) : (callFunc 46 args).run Tryz.prog W = .ok (.enter 46 args) W := by kernel_rfl
theorem callShown (args : Array Value) (W : World) : (callFunc 47 args).run Tryz.prog W = .ok (.enter 47 args) W := by kernel_rfl

set_option maxRecDepth 100000 in
set_option maxHeartbeats 8000000 in
theorem collect_any {w : World} {a : Option Addr} {l c : Nat} {ts : List X.It} (h : ItsV w a l c ts) (hl : l ≤ 20000) :
  Calls Tryz.prog 23 #[.slice a l c] w (CollectOut w ts) := by
 have HV : Hid _ := h
 have HC : Hid (ts.length = l) := h.count
 have hu1 := unlike_any h hl 46 Z.place isPlace_any callPlace
 have HU2 : Hid (∀ y, Below w.heap.size w y → Calls Tryz.prog 45 #[.slice a l c, .func (.func 47) #[] #[]] y fun e w' => e = .returned (.bool (Z.unl Z.shown ts)) ∧ Below y.heap.size y w') := fun y hy => unlike_any (h.below hy) hl 47 Z.shown isShown_any callShown
 have hmm := @run_makeMap Tryz.prog
 clear h
 cases hp : Z.unl Z.place ts with
 | false =>
  have HR : Hid (Z.nameE ts = 5) := nameE_dup (.inl hp)
  rw [hp] at hu1
  clear hp
  go_enter Tryz.func23, Tryz.ntmps23
  go_wp2_with fail
  refine hu1.mono ?_
  rintro e w1 ⟨rfl, hb1⟩
  have HB1 : Hid _ := hb1
  clear hb1 hu1
  go_wp2_with fail
  go_ret2
  exact CollectOut.bad HR.out (by decide) HB1.out
 | true =>
 rw [hp] at hu1
 cases hs : Z.unl Z.shown ts with
 | false =>
  have HR : Hid (Z.nameE ts = 5) := nameE_dup (.inr hs)
  rw [hs] at HU2
  clear hp hs
  go_enter Tryz.func23, Tryz.ntmps23
  go_wp2_with fail
  refine hu1.mono ?_
  rintro e w1 ⟨rfl, hb1⟩
  have HB1 : Hid (Below w.heap.size w w1) := hb1
  clear hb1 hu1
  go_wp2_with fail
  refine (HU2.out w1 HB1.out).mono ?_
  rintro e w2 ⟨rfl, hb2⟩
  have HB2 : Hid (Below w.heap.size w w2) := HB1.out.trans (hb2.mono HB1.out.size)
  clear hb2
  go_wp2_with fail
  go_ret2
  exact CollectOut.bad HR.out (by decide) HB2.out
 | true =>
 have HE : Hid (Z.nameE ts = if Z.unk ts = true then 6 else 0) := nameE_un hp hs
 have HON : Hid (Z.Once ts) := Z.nodup_once ts (of_decide_eq_true hp)
 rw [hs] at HU2
 clear hp hs
 go_enter Tryz.func23, Tryz.ntmps23
 go_wp2_with fail
 refine hu1.mono ?_
 rintro e w1 ⟨rfl, hb1⟩
 have HB1 : Hid (Below w.heap.size w w1) := hb1
 clear hb1 hu1
 go_wp2_with fail
 refine (HU2.out w1 HB1.out).mono ?_
 rintro e w2 ⟨rfl, hb2⟩
 have HB2 : Hid (Below w.heap.size w w2) := HB1.out.trans (hb2.mono HB1.out.size)
 have hz2 : w.heap.size ≤ w2.heap.size := HB2.out.size
 clear hb2 HU2 HB1
 go_wp2_with fail
 go_loopg [20] l (fun r iv wq => ∃ (k : Nat), iv = .int .i64 k ∧ k ≤ l ∧ l - k ≤ r ∧ Hid (∃ D, wq.ownsMap Tryz.prog 9 (plainElem (H := Unit) Tryz.prog 3) w2.heap.size k D ∧ LP D ts k) ∧ Hid (Below w.heap.size w wq))
 case atStart => exact ⟨0, rfl, Nat.zero_le _, by omega, ⟨_, World.ownsMap_made w2 Tryz.prog 9 _, LP.start ts⟩, HB2.out.alloc hz2 _⟩
 case round =>
  obtain ⟨k, rfl, hk, hr, HM, HB⟩ := hrel
  by_cases hlt : k < l
  ·have hii : (k : Int) < l := by omega
   have hin : 0 ≤ (k : Int) := by omega
   obtain ⟨D, hM, hLP⟩ := HM.out
   have HM1 : Hid _ := hM
   have HLP : Hid _ := hLP
   have hwb : w2.heap.size < wr.heap.size := hM.lt
   clear hM hLP HM
   obtain ⟨b, off, t, aw, lw, cw, rfl, hg, hmem, c0, c1, c2, c3, c4, c5, c6, hi⟩ := (HV.out.below HB.out).at hlt
   have HGD : Hid (ts.getD k X.noIt = t) := hg
   have HGT : Hid (ts[k]? = some t) := by
    show _ = _
    have hk2 : k < ts.length := by rw [HC.out]; exact hlt
    simp only [List.getD, List.getElem?_eq_getElem hk2, Option.getD_some] at hg
    rw [List.getElem?_eq_getElem hk2, hg]
   have hfit := (HV.out.fit t hmem).1
   have hkey := keyStr t.name hfit
   have hsz : w.heap.size ≤ wr.heap.size := HB.out.size
   clear hg hmem hi
   obtain ⟨Y0, hY0⟩ : ∃ Y0, wr.alloc (.cells #[.int .i64 t.kind, .string (X.str t.name), .int .i64 t.op, .int .i64 t.a, .int .i64 t.b, .int .i64 t.n, .slice aw lw cw] 44) = Y0 := ⟨_, rfl⟩
   have f0 : Y0.cell? ⟨wr.heap.size, 0, none⟩ = some (.int .i64 t.kind) := by subst hY0; exact cellA rfl rfl
   have f1 : Y0.cell? ⟨wr.heap.size, 1, none⟩ = some (.string (X.str t.name)) := by subst hY0; exact cellA rfl rfl
   have f2 : Y0.cell? ⟨wr.heap.size, 2, none⟩ = some (.int .i64 t.op) := by subst hY0; exact cellA rfl rfl
   have f3 : Y0.cell? ⟨wr.heap.size, 3, none⟩ = some (.int .i64 t.a) := by subst hY0; exact cellA rfl rfl
   have f4 : Y0.cell? ⟨wr.heap.size, 4, none⟩ = some (.int .i64 t.b) := by subst hY0; exact cellA rfl rfl
   have f5 : Y0.cell? ⟨wr.heap.size, 5, none⟩ = some (.int .i64 t.n) := by subst hY0; exact cellA rfl rfl
   have f6 : Y0.cell? ⟨wr.heap.size, 6, none⟩ = some (.slice aw lw cw) := by subst hY0; exact cellA rfl rfl
   have bY0 : Below wr.heap.size wr Y0 := by subst hY0; exact bl1 _ _
   have HY0 : Hid (Below w.heap.size w Y0) := HB.out.trans (bY0.mono hsz)
   have HM0 : Hid (Y0.ownsMap Tryz.prog 9 (plainElem (H := Unit) Tryz.prog 3) w2.heap.size k D) := keptB HM1.out bY0
   have hszY : w.heap.size ≤ Y0.heap.size := HY0.out.size
   clear bY0
   by_cases hkd : t.kind = 1
   ·have HL2 : Hid (LP (D.put (.string t.name) (.lit (.int .i64 k))) ts (k + 1)) := by
     have := HLP.out.add HON.out (by rw [HC.out]; exact hlt) (by rw [HGD.out]; exact hkd)
     rw [HGD.out] at this
     exact this
    have hkd' : (t.kind == 1) = true := by simpa using hkd
    clear hkd
    go_wp2_with (first | (at_mapUpdate; refine wpList_mapUpdate_own _ rfl _ _ _ 54 rfl 9 3 lawS Tryz.underlying54 (plainElem (H := Unit) Tryz.prog 3) w2.heap.size k _ rfl HM0.out (by unfold maxLen; omega) _ _ _ rfl rfl hkey _ [] (plainElem_int Tryz.underlying3 (WalkArith.wf_i64 (by omega))) ?_; intro w5 hown5 hg5) | go_in)
    have HO5 : Hid (w5.ownsMap Tryz.prog 9 (plainElem (H := Unit) Tryz.prog 3) w2.heap.size (k + 1) (D.put (.string t.name) (.lit (.int .i64 k)))) := hown5
    have HB5 : Hid (Below w.heap.size w w5) := HY0.out.grown hg5 hszY (fun j hj => by cases hj; exact hz2)
    clear hown5 hg5
    go_roundg (l - (k + 1))
    case measure => omega
    case rel => exact ⟨k + 1, by go_num, by omega, Nat.le_refl _, ⟨_, HO5.out, HL2.out⟩, HB5.out⟩
   ·have HL2 : Hid (LP D ts (k + 1)) := HLP.out.skip (by rw [HGD.out]; exact hkd)
    have hkd' : (t.kind == 1) = false := by simpa using hkd
    go_wp2_with fail
    go_roundg (l - (k + 1))
    case measure => omega
    case rel => exact ⟨k + 1, by go_num, by omega, Nat.le_refl _, ⟨_, World.ownsMap.mono HM0.out (Nat.le_succ _), HL2.out⟩, HY0.out⟩
  ·obtain rfl : k = l := by omega
   have hii : ¬ (k : Int) < k := by omega
   have HNM : Hid (NM wr w2.heap.size ts) := by
    obtain ⟨D, hM, hLP⟩ := HM.out
    rw [← HC.out] at hLP
    exact ⟨D, _, hM, hLP.fin.1, hLP.fin.2⟩
   have HBO : Hid _ := HB.out
   clear HM HB
   generalize wr = wo at *
   go_wp2_with fail
   go_loopg [35] k (fun r iv wq => ∃ (m : Nat), iv = .int .i64 m ∧ m ≤ k ∧ k - m ≤ r ∧ Hid (∀ i, i < m → ((Z.shown (ts.getD i X.noIt) || Z.jump (ts.getD i X.noIt)) && (Z.lab ts (ts.getD i X.noIt).name).isNone) = false) ∧ Hid (NM wq w2.heap.size ts) ∧ Hid (Below w.heap.size w wq))
   case atStart => exact ⟨0, rfl, Nat.zero_le _, by omega, (fun i hi => by omega : ∀ i, i < 0 → ((Z.shown (ts.getD i X.noIt) || Z.jump (ts.getD i X.noIt)) && (Z.lab ts (ts.getD i X.noIt).name).isNone) = false), HNM.out, HBO.out⟩
   case round =>
    obtain ⟨m, rfl, hm, hr2, HAL, HN, HB⟩ := hrel
    by_cases hlt : m < k
    ·have hii2 : (m : Int) < k := by omega
     have hin : 0 ≤ (m : Int) := by omega
     obtain ⟨b, off, t, aw, lw, cw, rfl, hg, hmem, c0, c1, c2, c3, c4, c5, c6, hi⟩ := (HV.out.below HB.out).at hlt
     have HGD : Hid (ts.getD m X.noIt = t) := hg
     have HGT : Hid (ts[m]? = some t) := by
      show _ = _
      have hk2 : m < ts.length := by rw [HC.out]; exact hlt
      simp only [List.getD, List.getElem?_eq_getElem hk2, Option.getD_some] at hg
      rw [List.getElem?_eq_getElem hk2, hg]
     have hfit := (HV.out.fit t hmem).1
     have hkey := keyStr t.name hfit
     have hsz : w.heap.size ≤ wr.heap.size := HB.out.size
     clear hg hmem hi
     obtain ⟨Y0, hY0⟩ : ∃ Y0, wr.alloc (.cells #[.int .i64 t.kind, .string (X.str t.name), .int .i64 t.op, .int .i64 t.a, .int .i64 t.b, .int .i64 t.n, .slice aw lw cw] 44) = Y0 := ⟨_, rfl⟩
     have f0 : Y0.cell? ⟨wr.heap.size, 0, none⟩ = some (.int .i64 t.kind) := by subst hY0; exact cellA rfl rfl
     have f1 : Y0.cell? ⟨wr.heap.size, 1, none⟩ = some (.string (X.str t.name)) := by subst hY0; exact cellA rfl rfl
     have f2 : Y0.cell? ⟨wr.heap.size, 2, none⟩ = some (.int .i64 t.op) := by subst hY0; exact cellA rfl rfl
     have f3 : Y0.cell? ⟨wr.heap.size, 3, none⟩ = some (.int .i64 t.a) := by subst hY0; exact cellA rfl rfl
     have f4 : Y0.cell? ⟨wr.heap.size, 4, none⟩ = some (.int .i64 t.b) := by subst hY0; exact cellA rfl rfl
     have f5 : Y0.cell? ⟨wr.heap.size, 5, none⟩ = some (.int .i64 t.n) := by subst hY0; exact cellA rfl rfl
     have f6 : Y0.cell? ⟨wr.heap.size, 6, none⟩ = some (.slice aw lw cw) := by subst hY0; exact cellA rfl rfl
     have bY0 : Below wr.heap.size wr Y0 := by subst hY0; exact bl1 _ _
     have HY0 : Hid (Below w.heap.size w Y0) := HB.out.trans (bY0.mono hsz)
     have HN0 : Hid (NM Y0 w2.heap.size ts) := HN.out.below bY0
     clear bY0
     have HNX : Hid (((Z.shown t || Z.jump t) && (Z.lab ts t.name).isNone) = false → ∀ i, i < m + 1 → ((Z.shown (ts.getD i X.noIt) || Z.jump (ts.getD i X.noIt)) && (Z.lab ts (ts.getD i X.noIt).name).isNone) = false) := fun he i hi => by
      by_cases e : i = m
      ·subst e; rw [HGD.out]; exact he
      ·exact HAL.out i (by omega)
     have HBAD : Hid (((Z.shown t || Z.jump t) && (Z.lab ts t.name).isNone) = true → Z.nameE ts = 6) := fun he => by
      rw [HE.out, if_pos]
      unfold Z.unk
      exact List.any_eq_true.2 ⟨t, List.mem_of_getElem? HGT.out, he⟩
     have hsc := isShown_any t aw lw cw Y0
     cases hS : Z.shown t with
     | true =>
      rw [hS] at hsc HNX HBAD
      clear hS
      go_wp2_with fail
      refine hsc.mono ?_
      rintro e y1 ⟨rfl, hb1⟩
      have HY1 : Hid (Below w.heap.size w y1) := HY0.out.trans (hb1.mono HY0.out.size)
      have HN1 : Hid (NM y1 w2.heap.size ts) := HN0.out.below hb1
      have g0 := cell_thru hb1 f0
      have g1 := cell_thru hb1 f1
      have g2 := cell_thru hb1 f2
      have g3 := cell_thru hb1 f3
      have g4 := cell_thru hb1 f4
      have g5 := cell_thru hb1 f5
      have g6 := cell_thru hb1 f6
      clear hb1 hsc f0 f1 f2 f3 f4 f5 f6 c0 c1 c2 c3 c4 c5 c6 hkey
      have hhc := nhas_any HN1.out t.name hfit
      clear hfit
      cases hL : Z.lab ts t.name with
      | none =>
       rw [hL] at hhc HBAD
       have HR : Hid (Z.nameE ts = 6) := HBAD.out rfl
       clear hL
       go_wp2_with fail
       refine hhc.mono ?_
       rintro e y3 ⟨rfl, hb3⟩
       have HY3 : Hid (Below w.heap.size w y3) := HY1.out.trans (hb3.mono HY1.out.size)
       clear hb3 hhc
       go_wp2_with fail
       go_ret2
       exact CollectOut.bad HR.out (by decide) HY3.out
      | some q =>
       rw [hL] at hhc HNX
       have HNX2 : Hid _ := HNX.out rfl
       clear hL
       go_wp2_with fail
       refine hhc.mono ?_
       rintro e y3 ⟨rfl, hb3⟩
       have HY3 : Hid (Below w.heap.size w y3) := HY1.out.trans (hb3.mono HY1.out.size)
       have HN3 : Hid (NM y3 w2.heap.size ts) := HN1.out.below hb3
       clear hb3 hhc
       go_wp2_with fail
       go_roundg (k - (m + 1))
       case measure => omega
       case rel => exact ⟨m + 1, by go_num, by omega, Nat.le_refl _, HNX2.out, HN3.out, HY3.out⟩
     | false =>
      rw [hS] at hsc HNX HBAD
      clear hS
      cases hJ : Z.jump t with
      | false =>
       have hjc := fun W => isJump_any t aw lw cw W
       rw [hJ] at hjc HNX
       have HNX2 : Hid _ := HNX.out rfl
       clear hJ
       go_wp2_with fail
       refine hsc.mono ?_
       rintro e y1 ⟨rfl, hb1⟩
       have HY1 : Hid (Below w.heap.size w y1) := HY0.out.trans (hb1.mono HY0.out.size)
       have HN1 : Hid (NM y1 w2.heap.size ts) := HN0.out.below hb1
       have g0 := cell_thru hb1 f0
       have g1 := cell_thru hb1 f1
       have g2 := cell_thru hb1 f2
       have g3 := cell_thru hb1 f3
       have g4 := cell_thru hb1 f4
       have g5 := cell_thru hb1 f5
       have g6 := cell_thru hb1 f6
       clear hb1 hsc f0 f1 f2 f3 f4 f5 f6 c0 c1 c2 c3 c4 c5 c6 hkey
       go_wp2_with fail
       refine (hjc _).mono ?_
       rintro e y2 ⟨rfl, hb2⟩
       have HY2 : Hid (Below w.heap.size w y2) := HY1.out.trans (hb2.mono HY1.out.size)
       have HN2 : Hid (NM y2 w2.heap.size ts) := HN1.out.below hb2
       clear hb2 hjc g0 g1 g2 g3 g4 g5 g6
       go_wp2_with fail
       go_roundg (k - (m + 1))
       case measure => omega
       case rel => exact ⟨m + 1, by go_num, by omega, Nat.le_refl _, HNX2.out, HN2.out, HY2.out⟩
      | true =>
       have hjc := fun W => isJump_any t aw lw cw W
       rw [hJ] at hjc HNX HBAD
       clear hJ
       go_wp2_with fail
       refine hsc.mono ?_
       rintro e z1 ⟨rfl, hb1⟩
       have HY1 : Hid (Below w.heap.size w z1) := HY0.out.trans (hb1.mono HY0.out.size)
       have HN1 : Hid (NM z1 w2.heap.size ts) := HN0.out.below hb1
       have g0 := cell_thru hb1 f0
       have g1 := cell_thru hb1 f1
       have g2 := cell_thru hb1 f2
       have g3 := cell_thru hb1 f3
       have g4 := cell_thru hb1 f4
       have g5 := cell_thru hb1 f5
       have g6 := cell_thru hb1 f6
       clear hb1 hsc f0 f1 f2 f3 f4 f5 f6 c0 c1 c2 c3 c4 c5 c6 hkey
       go_wp2_with fail
       refine (hjc _).mono ?_
       rintro e y1 ⟨rfl, hb2⟩
       have HY2 : Hid (Below w.heap.size w y1) := HY1.out.trans (hb2.mono HY1.out.size)
       have HN2 : Hid (NM y1 w2.heap.size ts) := HN1.out.below hb2
       have e1 := cell_thru hb2 g1
       clear hb2 hjc g0 g1 g2 g3 g4 g5 g6
       have hhc := nhas_any HN2.out t.name hfit
       clear hfit
       cases hL : Z.lab ts t.name with
       | none =>
        rw [hL] at hhc HBAD
        have HR : Hid (Z.nameE ts = 6) := HBAD.out rfl
        clear hL
        go_wp2_with fail
        refine hhc.mono ?_
        rintro e y3 ⟨rfl, hb3⟩
        have HY3 : Hid (Below w.heap.size w y3) := HY2.out.trans (hb3.mono HY2.out.size)
        clear hb3 hhc
        go_wp2_with fail
        go_ret2
        exact CollectOut.bad HR.out (by decide) HY3.out
       | some q =>
        rw [hL] at hhc HNX
        have HNX2 : Hid _ := HNX.out rfl
        clear hL
        go_wp2_with fail
        refine hhc.mono ?_
        rintro e y3 ⟨rfl, hb3⟩
        have HY3 : Hid (Below w.heap.size w y3) := HY2.out.trans (hb3.mono HY2.out.size)
        have HN3 : Hid (NM y3 w2.heap.size ts) := HN2.out.below hb3
        clear hb3 hhc
        go_wp2_with fail
        go_roundg (k - (m + 1))
        case measure => omega
        case rel => exact ⟨m + 1, by go_num, by omega, Nat.le_refl _, HNX2.out, HN3.out, HY3.out⟩
    ·obtain rfl : m = k := by omega
     have hii2 : ¬ (m : Int) < m := by omega
     have HR : Hid (Z.nameE ts = 0) := by
      show _ = _
      rw [HE.out, if_neg]
      unfold Z.unk
      intro he
      obtain ⟨t, ht, he⟩ := List.any_eq_true.1 he
      obtain ⟨i, hi, rfl⟩ := List.getElem_of_mem ht
      have := HAL.out i (by rw [← HC.out]; exact hi)
      rw [show ts.getD i X.noIt = ts[i] by simp [List.getD, hi]] at this
      rw [this] at he
      cases he
     go_wp2_with fail
     go_ret2
     exact ⟨.inl ⟨HR.out, _, rfl, HN.out, hz2, HON.out⟩, HB.out⟩

end Go.Proofs.YtgjingleolhkbaaGreatDoor

/- A line's words. -/
namespace Go.Proofs.YtgjingleolhkbaaGreatDoor
open Go.RowKit
set_option linter.unusedVariables false
set_option linter.unusedSimpArgs false

theorem cut_spec (b : UInt8) : ∀ l : X.By, (∃ a r, Go.Lib.cut l [b] = (a, r, true) ∧ l = a ++ b :: r ∧ ∀ c ∈ a, c ≠ b) ∨ (Go.Lib.cut l [b] = (l, [], false) ∧ ∀ c ∈ l, c ≠ b)
 | [] => .inr ⟨by simp [Go.Lib.cut, Go.Lib.index, List.isPrefixOf], by simp⟩
 | c :: l => by
  have ih := cut_spec b l
  have hge := Go.Lib.index_ge l [b]
  unfold Go.Lib.cut at *
  by_cases h : c = b
  ·subst h
   have hi : Go.Lib.index (c :: l) [c] = 0 := by
    conv => lhs; unfold Go.Lib.index
    rw [if_pos (by simp [List.isPrefixOf])]
   rw [hi]
   exact .inl ⟨[], l, by simp, by simp, by simp⟩
  ·have hi : Go.Lib.index (c :: l) [b] = if Go.Lib.index l [b] == -1 then -1 else Go.Lib.index l [b] + 1 := by
    conv => lhs; unfold Go.Lib.index
    rw [if_neg]
    intro e
    simp [List.isPrefixOf] at e
    exact h e.symm
   rw [hi]
   by_cases hm : Go.Lib.index l [b] = -1
   ·rw [hm] at ih ⊢
    rcases ih with ⟨a, r, h1, -⟩ | ⟨-, h2⟩
    ·simp at h1
    ·refine .inr ⟨by simp, fun d hd => ?_⟩
     rcases List.mem_cons.1 hd with rfl | hd
     ·exact h
     ·exact h2 d hd
   ·have hm' : (Go.Lib.index l [b] == -1) = false := by simpa using hm
    rw [hm']
    rcases ih with ⟨a, r, h1, h2, h3⟩ | ⟨h1, -⟩
    ·refine .inl ⟨c :: a, r, ?_, by rw [h2]; rfl, fun d hd => ?_⟩
     ·rw [if_pos (by omega)] at h1
      simp only [Prod.mk.injEq, and_true] at h1
      simp only [Bool.false_eq_true, if_false]
      rw [if_pos (by omega), show (Go.Lib.index l [b] + 1).toNat = (Go.Lib.index l [b]).toNat + 1 by omega, List.take_succ_cons, h1.1]
      simp only [List.length_cons, List.length_nil, Nat.zero_add] at h1 ⊢
      rw [List.drop_succ_cons, h1.2]
     ·rcases List.mem_cons.1 hd with rfl | hd
      ·exact h
      ·exact h3 d hd
    ·rw [if_pos (by omega)] at h1
     simp at h1
theorem ahead_app {a r : X.By} (h : ∀ c ∈ a, c ≠ 35) : X.ahead (a ++ 35 :: r) = a := by
 induction a with
 | nil => simp [X.ahead]
 | cons c a ih =>
  have h1 := h c (by simp)
  have := ih (fun d hd => h d (by simp [hd]))
  unfold X.ahead at this ⊢
  rw [List.cons_append, List.takeWhile_cons]
  simp [h1, this]
theorem cut_ahead (l : X.By) : (Go.Lib.cut l [35]).1 = X.ahead l := by
 rcases cut_spec 35 l with ⟨a, r, h1, h2, h3⟩ | ⟨h1, h2⟩
 ·rw [h1, h2, ahead_app h3]
 ·rw [h1, X.ahead_all h2]
theorem cut_line (l : X.By) : (∃ a r, Go.Lib.cut l [10] = (a, r, true) ∧ X.lines l = a :: X.lines r ∧ a.length + r.length + 1 = l.length) ∨ (Go.Lib.cut l [10] = (l, [], false) ∧ X.lines l = [l]) := by
 rcases cut_spec 10 l with ⟨a, r, h1, h2, h3⟩ | ⟨h1, h2⟩
 ·refine .inl ⟨a, r, h1, by rw [h2, X.lines_app a r h3], by rw [h2]; simp; omega⟩
 ·exact .inr ⟨h1, X.lines_one l h2⟩

/-! ### FieldsFunc cuts at the byte 32 -/
def spc (x : Nat) : Bool := decide (x = 32)
theorem get_eq (s : ByteArray) (k : Nat) (h : k < s.size) : s.get! k = s[k] := by
 simp [ByteArray.get!, ByteArray.getElem_eq_getElem_data, h, getElem!_pos]
theorem dec_facts (s : ByteArray) (pos : Nat) (h : pos < s.size) : ((Utf8.decode s pos).1 = 32 → (Utf8.decode s pos).2 = 1 ∧ (s.get! pos).toNat = 32) ∧ ((Utf8.decode s pos).1 ≠ 32 → ∀ j, j < (Utf8.decode s pos).2 → (s.get! (pos + j)).toNat ≠ 32) ∧ 1 ≤ (Utf8.decode s pos).2 ∧ pos + (Utf8.decode s pos).2 ≤ s.size := by
 unfold Utf8.decode
 simp only [Utf8.runeError, Nat.add_zero]
 have cont : ∀ k, (decide (pos + k < s.size) && ((s.get! (pos + k)).toNat / 64 == 2)) = true → pos + k < s.size ∧ 128 ≤ (s.get! (pos + k)).toNat := fun k hk => by
  simp only [Bool.and_eq_true, decide_eq_true_eq, beq_iff_eq] at hk
  omega
 have one : ∀ j, j < 1 → j = 0 := fun j hj => by omega
 split
 ·refine ⟨fun e => ⟨rfl, e⟩, fun e j hj => ?_, Nat.le_refl _, h⟩
  obtain rfl := one j hj
  exact e
 ·rename_i h0
  have single : ((65533, 1) : Nat × Nat).1 ≠ 32 ∧ ∀ j, j < 1 → (s.get! (pos + j)).toNat ≠ 32 := ⟨by decide, fun j hj => by obtain rfl := one j hj; simp only [Nat.add_zero]; omega⟩
  split
  ·rename_i h1
   simp only [Bool.and_eq_true] at h1
   obtain ⟨c1, c2⟩ := cont 1 (by simpa using h1.2)
   split
   ·refine ⟨fun e => by simp at e; omega, fun _ j hj => ?_, by simp, by simp; omega⟩
    have : j = 0 ∨ j = 1 := by simp at hj; omega
    rcases this with rfl | rfl
    ·simp only [Nat.add_zero]; omega
    ·omega
   ·exact ⟨fun e => absurd e single.1, fun _ => single.2, Nat.le_refl _, h⟩
  ·split
   ·rename_i h1
    simp only [Bool.and_eq_true] at h1
    obtain ⟨c1, c2⟩ := cont 1 (by simpa using h1.1.2)
    obtain ⟨c3, c4⟩ := cont 2 (by simpa using h1.2)
    split
    ·rename_i h2
     simp only [Bool.and_eq_true, decide_eq_true_eq] at h2
     refine ⟨fun e => by simp only at e; omega, fun _ j hj => ?_, by simp, by simp; omega⟩
     have : j = 0 ∨ j = 1 ∨ j = 2 := by simp at hj; omega
     rcases this with rfl | rfl | rfl
     ·simp only [Nat.add_zero]; omega
     ·omega
     ·omega
    ·exact ⟨fun e => absurd e single.1, fun _ => single.2, Nat.le_refl _, h⟩
   ·split
    ·rename_i h1
     simp only [Bool.and_eq_true] at h1
     obtain ⟨c1, c2⟩ := cont 1 (by simpa using h1.1.1.2)
     obtain ⟨c3, c4⟩ := cont 2 (by simpa using h1.1.2)
     obtain ⟨c5, c6⟩ := cont 3 (by simpa using h1.2)
     split
     ·rename_i h2
      simp only [Bool.and_eq_true, decide_eq_true_eq] at h2
      refine ⟨fun e => by simp only at e; omega, fun _ j hj => ?_, by simp, by simp; omega⟩
      have : j = 0 ∨ j = 1 ∨ j = 2 ∨ j = 3 := by simp at hj; omega
      rcases this with rfl | rfl | rfl | rfl
      ·simp only [Nat.add_zero]; omega
      ·omega
      ·omega
      ·omega
     ·exact ⟨fun e => absurd e single.1, fun _ => single.2, Nat.le_refl _, h⟩
    ·exact ⟨fun e => absurd e single.1, fun _ => single.2, Nat.le_refl _, h⟩

def openP (l : X.By) (st : Option Nat) (pos : Nat) : X.By := match st with | none => [] | some a => (l.take pos).drop a
theorem piece_eq (s : ByteArray) (a b : Nat) : (s.extract a b).data.toList = (s.data.toList.take b).drop a := by
 rw [extract_eq, str_list]
theorem take_more (l : X.By) (a pos K : Nat) (h : a ≤ pos) (hp : pos ≤ l.length) : (l.take (pos + K)).drop a = (l.take pos).drop a ++ (l.drop pos).take K := by
 rw [List.take_add, List.drop_append_of_le_length (by rw [List.length_take]; omega)]
theorem bytes_no32 (s : ByteArray) (pos K : Nat) (hK : pos + K ≤ s.size) (h : ∀ j, j < K → (s.get! (pos + j)).toNat ≠ 32) : ∀ c ∈ (s.data.toList.drop pos).take K, c ≠ 32 := by
 intro c hc
 obtain ⟨j, hj⟩ := List.mem_iff_getElem?.1 hc
 rw [List.getElem?_take] at hj
 split at hj
 ·rename_i hjK
  rw [List.getElem?_drop, get_list s (pos + j) (by omega)] at hj
  injection hj with hj
  rintro rfl
  have := h j hjK
  rw [get_eq s (pos + j) (by omega), hj] at this
  exact this rfl
 ·cases hj
theorem spans_go (s : ByteArray) : ∀ (f pos : Nat) (st : Option Nat) (acc : List (Nat × Nat)), s.size ≤ pos + f → pos ≤ s.size → (∀ a, st = some a → a < pos) →
  (Lib.closeSpans s (Lib.spansFromP spc s f pos st acc)).map (fun x => (s.extract x.1 x.2).data.toList) = acc.map (fun x => (s.extract x.1 x.2).data.toList) ++ X.fieldsGo (openP s.data.toList st pos) (s.data.toList.drop pos)
 | f, pos, st, acc, hf, hp, hst => by
  by_cases hlt : pos < s.size
  rotate_left
  ·obtain rfl : pos = s.size := by omega
   rw [Lib.spansFromP_end spc s f _ _ _ hlt, List.drop_eq_nil_of_le (by simp)]
   cases st with
   | none => simp [Lib.closeSpans, X.fieldsGo, openP]
   | some a =>
    have ha := hst a rfl
    have hne : (s.data.toList.take s.size).drop a ≠ [] := by
     intro e
     have := congrArg List.length e
     rw [List.length_drop, List.length_take, len_list] at this
     simp at this
     omega
    have hne' : openP s.data.toList (some a) s.size ≠ [] := hne
    rw [X.fieldsGo, if_neg hne']
    simp only [Lib.closeSpans, openP, List.map_append, List.map_cons, List.map_nil, piece_eq]
  ·cases f with
   | zero => omega
   | succ f =>
    obtain ⟨d1, d2, d3, d4⟩ := dec_facts s pos hlt
    have hdc := drop_cons s pos hlt
    unfold Lib.spansFromP
    rw [if_pos hlt]
    obtain ⟨R, hR⟩ : ∃ R, (Utf8.decode s pos).1 = R := ⟨_, rfl⟩
    obtain ⟨K, hK⟩ : ∃ K, (Utf8.decode s pos).2 = K := ⟨_, rfl⟩
    rw [hR] at d1 d2 ⊢
    rw [hK] at d1 d2 d3 d4 ⊢
    by_cases h32 : R = 32
    ·obtain ⟨e1, e2⟩ := d1 h32
     subst e1
     have hb : s[pos] = 32 := UInt8.toNat_inj.1 (by rw [← get_eq s pos hlt, e2]; rfl)
     have hs : spc R = true := by simp [spc, h32]
     rw [hs, if_pos rfl, hdc, hb]
     cases st with
     | none =>
      simp only
      rw [spans_go s f (pos + 1) none acc (by omega) (by omega) (fun a h => by cases h)]
      simp [X.fieldsGo, openP]
     | some a =>
      have ha := hst a rfl
      have hne : openP s.data.toList (some a) pos ≠ [] := by
       intro e
       have := congrArg List.length e
       unfold openP at this
       rw [List.length_drop, List.length_take, len_list] at this
       simp at this
       omega
      simp only
      rw [spans_go s f (pos + 1) none _ (by omega) (by omega) (fun a h => by cases h), X.fieldsGo, if_pos rfl, if_neg hne]
      simp only [openP, List.map_append, List.map_cons, List.map_nil, piece_eq, List.append_assoc, List.cons_append, List.nil_append]
    ·have hs : spc R = false := by simp [spc, h32]
     rw [hs, if_neg (by simp)]
     have hbs := bytes_no32 s pos K d4 (d2 h32)
     have hsplit : s.data.toList.drop pos = (s.data.toList.drop pos).take K ++ s.data.toList.drop (pos + K) := by rw [← List.drop_drop, List.take_append_drop]
     have hlen : pos ≤ s.data.toList.length := by rw [len_list]; exact hp
     cases st with
     | none =>
      simp only
      rw [spans_go s f (pos + K) (some pos) acc (by omega) (by omega) (fun a h => by cases h; omega)]
      conv => rhs; rw [hsplit, X.fieldsGo_app _ _ _ hbs]
      simp only [openP]
      rw [take_more _ pos pos K (Nat.le_refl _) hlen, List.drop_eq_nil_of_le (by rw [List.length_take]; omega)]
     | some a =>
      have ha := hst a rfl
      simp only
      rw [spans_go s f (pos + K) (some a) acc (by omega) (by omega) (fun a' h => by cases h; omega)]
      conv => rhs; rw [hsplit, X.fieldsGo_app _ _ _ hbs]
      simp only [openP]
      rw [take_more _ a pos K (by omega) hlen]
theorem fields_eq (s : ByteArray) : Lib.goFieldsP spc s = (X.fields s.data.toList).map X.str := by
 have h := spans_go s s.size 0 none [] (by omega) (Nat.zero_le _) (fun a h => by cases h)
 simp only [List.map_nil, List.nil_append, List.drop_zero, openP] at h
 unfold X.fields Lib.goFieldsP Lib.spansOfP
 rw [← h, List.map_map]
 refine List.map_congr_left fun x _ => ?_
 exact (str_eq _).symm

set_option maxRecDepth 100000 in
set_option maxHeartbeats 4000000 in
theorem wordsOf_any (s : ByteArray) (hs : s.size ≤ 200000) (w : World) (ht : Tab w) :
  Calls Tryz.prog 84 #[.string s] w (SaidOut w (X.wordsOf s.data.toList)) := by
 obtain ⟨m, hm⟩ := ht.ml
 have HR : Hid (X.wordsOf s.data.toList = X.fields (X.str (X.ahead s.data.toList)).data.toList) := by show _ = _; rw [str_list]; rfl
 have hcut := fun w h => Tryz.strings_Cut s { data := #[35] } m w (by omega) h
 have h1 : (⟨(Go.Lib.cut s.data.toList [35]).1.toArray⟩ : ByteArray) = X.str (X.ahead s.data.toList) := by rw [cut_ahead]; rfl
 have hal : (X.str (X.ahead s.data.toList)).size ≤ 200000 := by
  rw [str_size]
  have : (X.ahead s.data.toList).length ≤ s.data.toList.length := List.Sublist.length_le (List.takeWhile_sublist _)
  rw [len_list] at this
  omega
 have hcut' : ∀ w, w.cell? ⟨3, 0, none⟩ = some (.int .i64 m) → Calls Tryz.prog 83 #[.string s, .string { data := #[35] }] w fun e w' => ∃ r f, e = .returned (.tuple #[.string (X.str (X.ahead s.data.toList)), .string r, .bool f]) ∧ Below w.heap.size w w' := fun w h => by
  refine (hcut w h).mono ?_
  rintro e w' ⟨rfl, n, rfl⟩
  refine ⟨⟨(Go.Lib.cut s.data.toList [35]).2.1.toArray⟩, (Go.Lib.cut s.data.toList [35]).2.2, ?_, below_drew' (Below.refl _ _) n⟩
  show Ending.returned (.tuple #[.string ⟨(Go.Lib.cut s.data.toList [35]).1.toArray⟩, _, _]) = _
  rw [h1]
 clear hcut h1
 generalize X.str (X.ahead s.data.toList) = A at *
 go_enter Tryz.func84, Tryz.ntmps84
 go_wp2_with fail
 refine (hcut' _ hm).mono ?_
 rintro e w1 ⟨r, f, rfl, hb⟩
 have HB : Hid _ := hb
 clear hb hcut' hm
 have hff := Tryz.strings_FieldsFunc_runes 103 #[] (enters_of Tryz.func103 (by kernel_rfl) rfl) spc A w1 (by omega) (fun W x hx hb => (isSpace_any (x : Int) W).mono (fun e w' ⟨h1, h2⟩ => ⟨by rw [h1]; exact ret_b (by unfold spc; rw [Bool.eq_iff_iff]; simp; omega), 0, by rw [h2]; rfl⟩))
 rw [fields_eq, List.length_map] at hff
 rw [List.map_map] at hff
 go_wp2_with fail
 refine hff.mono ?_
 rintro e w2 ⟨g, rfl, -, ho, hb⟩
 have HO : Hid _ := ho
 have HB2 : Hid _ := hb
 clear hff ho hb
 go_wp2_with fail
 go_ret
 unfold SaidOut
 rw [HR.out]
 exact ⟨_, _, rfl, own_baseB HO.out HB.out.size, HB.out.trans (HB2.out.mono HB.out.size)⟩

end Go.Proofs.YtgjingleolhkbaaGreatDoor
