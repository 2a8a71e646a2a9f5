/- Where labels are: 'collect'. (Written by gen_collect.py.) -/
import Derived.Test.YtgjingleolhkbaaGreatDoorAmNames
namespace Go.Proofs.YtgjingleolhkbaaGreatDoor
open Go.RowKit Go.Maps
set_option linter.unusedVariables false
set_option linter.unusedSimpArgs false

/-- The labels' names, as a map. -/
structure NM (W : World) (bm : Nat) (ts : List X.It) : Prop where
  ex : ∃ D n, W.ownsMap Tryz.prog 9 (plainElem (H := Unit) Tryz.prog 3) bm n D ∧ (∀ nm, Maps.has D (.string nm) = (Z.lab ts nm).isSome) ∧ (∀ nm, D.atKey (.string nm) (.lit (.int .i64 0)) = .lit (.int .i64 (Z.labN ts nm)))
theorem NM.kept {W W' : World} {bm : Nat} {ts : List X.It} {row : Option Nat} (h : NM W bm ts) (hg : W.grownBy W' row) (hne : some bm ≠ row) : NM W' bm ts := by
  obtain ⟨D, n, h1, h2, h3⟩ := h.ex
  exact ⟨D, n, h1.kept hg hne, h2, h3⟩
theorem NM.below {W W' : World} {bm : Nat} {ts : List X.It} (h : NM W bm ts) (hb : Below W.heap.size W W') : NM W' bm ts := h.kept (gb_of_below hb none) (by simp)
theorem NM.map {W : World} {bm : Nat} {ts : List X.It} (h : NM W bm ts) : ∃ es cl, W.heap[bm]? = some (.map es cl) := by
  obtain ⟨D, n, ⟨es, cl, h1, -⟩, -⟩ := h.ex
  exact ⟨es, cl, h1⟩
theorem NM.lt {W : World} {bm : Nat} {ts : List X.It} (h : NM W bm ts) : bm < W.heap.size := by
  obtain ⟨D, n, h1, -⟩ := h.ex
  exact h1.lt
/-- What the map holds of the first k items. -/
structure LP (D : DataW Unit) (ts : List X.It) (k : Nat) : Prop where
  m : IsMap D
  y : ∀ nm i, i < k → Z.isLab nm (ts.getD i X.noIt) = true → Maps.has D (.string nm) = true ∧ D.atKey (.string nm) (.lit (.int .i64 0)) = .lit (.int .i64 i)
  n : ∀ nm, (∀ i, i < k → Z.isLab nm (ts.getD i X.noIt) = false) → Maps.has D (.string nm) = false
theorem LP.start (ts : List X.It) : LP (.map []) ts 0 := ⟨isMap_empty, fun _ i hi => by omega, fun nm _ => rfl⟩
theorem LP.skip {D : DataW Unit} {ts : List X.It} {k : Nat} (h : LP D ts k) (hk : ¬ (ts.getD k X.noIt).kind = 1) : LP D ts (k + 1) := by
  have hl : ∀ nm, Z.isLab nm (ts.getD k X.noIt) = false := fun nm => by unfold Z.isLab; rw [decide_eq_false hk]; rfl
  refine ⟨h.m, fun nm i hi hn => ?_, fun nm hn => h.n nm (fun i hi => hn i (by omega))⟩
  by_cases e : i = k
  · subst e; rw [hl] at hn; cases hn
  · exact h.y nm i (by omega) hn
theorem LP.add {D : DataW Unit} {ts : List X.It} {k : Nat} (h : LP D ts k) (ho : Z.Once ts) (hk : k < ts.length) (hl : (ts.getD k X.noIt).kind = 1) : LP (D.put (.string (ts.getD k X.noIt).name) (.lit (.int .i64 k))) ts (k + 1) := by
  have hL : Z.isLab (ts.getD k X.noIt).name (ts.getD k X.noIt) = true := by unfold Z.isLab; rw [decide_eq_true hl, decide_eq_true rfl]; rfl
  refine ⟨h.m.put _ _, fun nm i hi hn => ?_, fun nm hn => ?_⟩
  · by_cases e : nm = (ts.getD k X.noIt).name
    · subst e
      obtain rfl : i = k := ho i k _ (by omega) hk hn hL
      exact ⟨has_put_same h.m (isKeyStr _) _, atKey_put_same h.m (isKeyStr _) _ _⟩
    · have hne : Lit.string nm ≠ Lit.string (ts.getD k X.noIt).name := fun e2 => e (by injection e2)
      have hik : i ≠ k := fun e2 => by
        subst e2
        simp only [Z.isLab, Bool.and_eq_true, decide_eq_true_eq] at hn
        exact e hn.2.symm
      rw [has_put_other hne, atKey_put_other hne]
      exact h.y nm i (by omega) hn
  · have hne : Lit.string nm ≠ Lit.string (ts.getD k X.noIt).name := fun e2 => by
      injection e2 with e2
      have := hn k (Nat.lt_succ_self _)
      rw [e2, hL] at this
      cases this
    rw [has_put_other hne]
    exact h.n nm (fun i hi => hn i (by omega))
theorem LP.fin {D : DataW Unit} {ts : List X.It} (h : LP D ts ts.length) : (∀ nm, Maps.has D (.string nm) = (Z.lab ts nm).isSome) ∧ (∀ nm, D.atKey (.string nm) (.lit (.int .i64 0)) = .lit (.int .i64 (Z.labN ts nm))) := by
  have key : ∀ nm, Maps.has D (.string nm) = (Z.lab ts nm).isSome ∧ D.atKey (.string nm) (.lit (.int .i64 0)) = .lit (.int .i64 (Z.labN ts nm)) := fun nm => by
    cases hl : Z.lab ts nm with
    | none =>
      have h1 := h.n nm (Z.lab_none hl)
      refine ⟨h1, ?_⟩
      rw [atKey_of_not_has h1]
      unfold Z.labN
      rw [hl]
      rfl
    | some i =>
      obtain ⟨h1, h2⟩ := Z.lab_some hl
      obtain ⟨h3, h4⟩ := h.y nm i h1 h2
      refine ⟨h3, ?_⟩
      rw [h4]
      unfold Z.labN
      rw [hl]
      rfl
  exact ⟨fun nm => (key nm).1, fun nm => (key nm).2⟩

set_option maxHeartbeats 4000000 in
theorem nhas_any {w : World} {bm : Nat} {ts : List X.It} (h : NM w bm ts) (nm : X.By) (hnm : nm.length ≤ maxLen) :
    Calls Tryz.prog 49 #[.map (some bm), .string (X.str nm)] w fun e w' => e = .returned (.bool (Z.lab ts nm).isSome) ∧ Below w.heap.size w w' := by
  obtain ⟨D, n, h1, h2, h3⟩ := h.ex
  have hH := h2 nm
  have HM : Hid _ := h1
  have hkey := keyStr nm hnm
  generalize (Z.lab ts nm).isSome = bb at *
  generalize X.str nm = s at *
  clear h h1 h2 h3
  go_enter Tryz.func49, Tryz.ntmps49
  go_wp2_with (first | (at_lookup; refine wpList_lookup_own_ok_int _ rfl _ _ 54 rfl 9 3 .i64 lawS Tryz.underlying54 Tryz.underlying3 (zeroI _) bm n D rfl HM.out _ _ rfl hkey ?_; intro c hat hwc; rw [hH]; clear hat hwc) | go_in)
  go_ret
  exact ⟨rfl, Below.refl _ _⟩

/-- What 'collect' leaves. -/
def CollectOut (w : World) (ts : List X.It) (e : Ending) (w' : World) : Prop :=
  ((Z.nameE ts = 0 ∧ ∃ bm, e = .returned (.tuple #[.map (some bm), .int .i64 0]) ∧ NM w' bm ts ∧ w.heap.size ≤ bm ∧ Z.Once ts) ∨ (Z.nameE ts ≠ 0 ∧ e = .returned (.tuple #[.map none, .int .i64 (Z.nameE ts)]))) ∧ Below w.heap.size w w'
theorem CollectOut.bad {w w' : World} {ts : List X.It} {z : Nat} (h : Z.nameE ts = z) (hz : z ≠ 0) (hb : Below w.heap.size w w') : CollectOut w ts (.returned (.tuple #[.map none, .int .i64 z])) w' :=
  ⟨.inr ⟨by rw [h]; exact hz, by rw [h]⟩, hb⟩
theorem nameE_dup {ts : List X.It} (h : Z.unl Z.place ts = false ∨ Z.unl Z.shown ts = false) : Z.nameE ts = 5 := by
  unfold Z.nameE
  rw [if_neg]
  rintro ⟨h1, h2⟩
  rcases h with h | h
  · rw [h] at h1; cases h1
  · rw [h] at h2; cases h2
theorem nameE_un {ts : List X.It} (h1 : Z.unl Z.place ts = true) (h2 : Z.unl Z.shown ts = true) : Z.nameE ts = if Z.unk ts = true then 6 else 0 := by
  unfold Z.nameE
  rw [if_pos ⟨h1, h2⟩]
theorem callPlace (args : Array Value) (W : World) : (callFunc 46 args).run Tryz.prog W = .ok (.enter 46 args) W := by kernel_rfl
theorem callShown (args : Array Value) (W : World) : (callFunc 47 args).run Tryz.prog W = .ok (.enter 47 args) W := by kernel_rfl

set_option maxRecDepth 100000 in
set_option maxHeartbeats 8000000 in
theorem collect_any {w : World} {a : Option Addr} {l c : Nat} {ts : List X.It} (h : ItsV w a l c ts) (hl : l ≤ 20000) :
    Calls Tryz.prog 23 #[.slice a l c] w (CollectOut w ts) := by
  have HV : Hid _ := h
  have HC : Hid (ts.length = l) := h.count
  have hu1 := unlike_any h hl 46 Z.place isPlace_any callPlace
  have HU2 : Hid (∀ y, Below w.heap.size w y → Calls Tryz.prog 45 #[.slice a l c, .func (.func 47) #[] #[]] y fun e w' => e = .returned (.bool (Z.unl Z.shown ts)) ∧ Below y.heap.size y w') := fun y hy => unlike_any (h.below hy) hl 47 Z.shown isShown_any callShown
  have hmm := @run_makeMap Tryz.prog
  clear h
  cases hp : Z.unl Z.place ts with
  | false =>
    have HR : Hid (Z.nameE ts = 5) := nameE_dup (.inl hp)
    rw [hp] at hu1
    clear hp
    go_enter Tryz.func23, Tryz.ntmps23
    go_wp2_with fail
    refine hu1.mono ?_
    rintro e w1 ⟨rfl, hb1⟩
    have HB1 : Hid _ := hb1
    clear hb1 hu1
    go_wp2_with fail
    go_ret2
    exact CollectOut.bad HR.out (by decide) HB1.out
  | true =>
  rw [hp] at hu1
  cases hs : Z.unl Z.shown ts with
  | false =>
    have HR : Hid (Z.nameE ts = 5) := nameE_dup (.inr hs)
    rw [hs] at HU2
    clear hp hs
    go_enter Tryz.func23, Tryz.ntmps23
    go_wp2_with fail
    refine hu1.mono ?_
    rintro e w1 ⟨rfl, hb1⟩
    have HB1 : Hid (Below w.heap.size w w1) := hb1
    clear hb1 hu1
    go_wp2_with fail
    refine (HU2.out w1 HB1.out).mono ?_
    rintro e w2 ⟨rfl, hb2⟩
    have HB2 : Hid (Below w.heap.size w w2) := HB1.out.trans (hb2.mono HB1.out.size)
    clear hb2
    go_wp2_with fail
    go_ret2
    exact CollectOut.bad HR.out (by decide) HB2.out
  | true =>
  have HE : Hid (Z.nameE ts = if Z.unk ts = true then 6 else 0) := nameE_un hp hs
  have HON : Hid (Z.Once ts) := Z.nodup_once ts (of_decide_eq_true hp)
  rw [hs] at HU2
  clear hp hs
  go_enter Tryz.func23, Tryz.ntmps23
  go_wp2_with fail
  refine hu1.mono ?_
  rintro e w1 ⟨rfl, hb1⟩
  have HB1 : Hid (Below w.heap.size w w1) := hb1
  clear hb1 hu1
  go_wp2_with fail
  refine (HU2.out w1 HB1.out).mono ?_
  rintro e w2 ⟨rfl, hb2⟩
  have HB2 : Hid (Below w.heap.size w w2) := HB1.out.trans (hb2.mono HB1.out.size)
  have hz2 : w.heap.size ≤ w2.heap.size := HB2.out.size
  clear hb2 HU2 HB1
  go_wp2_with fail
  go_loopg [20] l (fun r iv wq => ∃ (k : Nat), iv = .int .i64 k ∧ k ≤ l ∧ l - k ≤ r ∧ Hid (∃ D, wq.ownsMap Tryz.prog 9 (plainElem (H := Unit) Tryz.prog 3) w2.heap.size k D ∧ LP D ts k) ∧ Hid (Below w.heap.size w wq))
  case atStart => exact ⟨0, rfl, Nat.zero_le _, by omega, ⟨_, World.ownsMap_made w2 Tryz.prog 9 _, LP.start ts⟩, HB2.out.alloc hz2 _⟩
  case round =>
    obtain ⟨k, rfl, hk, hr, HM, HB⟩ := hrel
    by_cases hlt : k < l
    · have hii : (k : Int) < l := by omega
      have hin : 0 ≤ (k : Int) := by omega
      obtain ⟨D, hM, hLP⟩ := HM.out
      have HM1 : Hid _ := hM
      have HLP : Hid _ := hLP
      have hwb : w2.heap.size < wr.heap.size := hM.lt
      clear hM hLP HM
      obtain ⟨b, off, t, aw, lw, cw, rfl, hg, hmem, c0, c1, c2, c3, c4, c5, c6, hi⟩ := (HV.out.below HB.out).at hlt
      have HGD : Hid (ts.getD k X.noIt = t) := hg
      have HGT : Hid (ts[k]? = some t) := by
        show _ = _
        have hk2 : k < ts.length := by rw [HC.out]; exact hlt
        simp only [List.getD, List.getElem?_eq_getElem hk2, Option.getD_some] at hg
        rw [List.getElem?_eq_getElem hk2, hg]
      have hfit := (HV.out.fit t hmem).1
      have hkey := keyStr t.name hfit
      have hsz : w.heap.size ≤ wr.heap.size := HB.out.size
      clear hg hmem hi
      obtain ⟨Y0, hY0⟩ : ∃ Y0, wr.alloc (.cells #[.int .i64 t.kind, .string (X.str t.name), .int .i64 t.op, .int .i64 t.a, .int .i64 t.b, .int .i64 t.n, .slice aw lw cw] 44) = Y0 := ⟨_, rfl⟩
      have f0 : Y0.cell? ⟨wr.heap.size, 0, none⟩ = some (.int .i64 t.kind) := by subst hY0; exact cellA rfl rfl
      have f1 : Y0.cell? ⟨wr.heap.size, 1, none⟩ = some (.string (X.str t.name)) := by subst hY0; exact cellA rfl rfl
      have f2 : Y0.cell? ⟨wr.heap.size, 2, none⟩ = some (.int .i64 t.op) := by subst hY0; exact cellA rfl rfl
      have f3 : Y0.cell? ⟨wr.heap.size, 3, none⟩ = some (.int .i64 t.a) := by subst hY0; exact cellA rfl rfl
      have f4 : Y0.cell? ⟨wr.heap.size, 4, none⟩ = some (.int .i64 t.b) := by subst hY0; exact cellA rfl rfl
      have f5 : Y0.cell? ⟨wr.heap.size, 5, none⟩ = some (.int .i64 t.n) := by subst hY0; exact cellA rfl rfl
      have f6 : Y0.cell? ⟨wr.heap.size, 6, none⟩ = some (.slice aw lw cw) := by subst hY0; exact cellA rfl rfl
      have bY0 : Below wr.heap.size wr Y0 := by subst hY0; exact bl1 _ _
      have HY0 : Hid (Below w.heap.size w Y0) := HB.out.trans (bY0.mono hsz)
      have HM0 : Hid (Y0.ownsMap Tryz.prog 9 (plainElem (H := Unit) Tryz.prog 3) w2.heap.size k D) := keptB HM1.out bY0
      have hszY : w.heap.size ≤ Y0.heap.size := HY0.out.size
      clear bY0
      by_cases hkd : t.kind = 1
      · have HL2 : Hid (LP (D.put (.string t.name) (.lit (.int .i64 k))) ts (k + 1)) := by
          have := HLP.out.add HON.out (by rw [HC.out]; exact hlt) (by rw [HGD.out]; exact hkd)
          rw [HGD.out] at this
          exact this
        have hkd' : (t.kind == 1) = true := by simpa using hkd
        clear hkd
        go_wp2_with (first | (at_mapUpdate; refine wpList_mapUpdate_own _ rfl _ _ _ 54 rfl 9 3 lawS Tryz.underlying54 (plainElem (H := Unit) Tryz.prog 3) w2.heap.size k _ rfl HM0.out (by unfold maxLen; omega) _ _ _ rfl rfl hkey _ [] (plainElem_int Tryz.underlying3 (WalkArith.wf_i64 (by omega))) ?_; intro w5 hown5 hg5) | go_in)
        have HO5 : Hid (w5.ownsMap Tryz.prog 9 (plainElem (H := Unit) Tryz.prog 3) w2.heap.size (k + 1) (D.put (.string t.name) (.lit (.int .i64 k)))) := hown5
        have HB5 : Hid (Below w.heap.size w w5) := HY0.out.grown hg5 hszY (fun j hj => by cases hj; exact hz2)
        clear hown5 hg5
        go_roundg (l - (k + 1))
        case measure => omega
        case rel => exact ⟨k + 1, by go_num, by omega, Nat.le_refl _, ⟨_, HO5.out, HL2.out⟩, HB5.out⟩
      · have HL2 : Hid (LP D ts (k + 1)) := HLP.out.skip (by rw [HGD.out]; exact hkd)
        have hkd' : (t.kind == 1) = false := by simpa using hkd
        go_wp2_with fail
        go_roundg (l - (k + 1))
        case measure => omega
        case rel => exact ⟨k + 1, by go_num, by omega, Nat.le_refl _, ⟨_, World.ownsMap.mono HM0.out (Nat.le_succ _), HL2.out⟩, HY0.out⟩
    · obtain rfl : k = l := by omega
      have hii : ¬ (k : Int) < k := by omega
      have HNM : Hid (NM wr w2.heap.size ts) := by
        obtain ⟨D, hM, hLP⟩ := HM.out
        rw [← HC.out] at hLP
        exact ⟨D, _, hM, hLP.fin.1, hLP.fin.2⟩
      have HBO : Hid _ := HB.out
      clear HM HB
      generalize wr = wo at *
      go_wp2_with fail
      go_loopg [35] k (fun r iv wq => ∃ (m : Nat), iv = .int .i64 m ∧ m ≤ k ∧ k - m ≤ r ∧ Hid (∀ i, i < m → ((Z.shown (ts.getD i X.noIt) || Z.jump (ts.getD i X.noIt)) && (Z.lab ts (ts.getD i X.noIt).name).isNone) = false) ∧ Hid (NM wq w2.heap.size ts) ∧ Hid (Below w.heap.size w wq))
      case atStart => exact ⟨0, rfl, Nat.zero_le _, by omega, (fun i hi => by omega : ∀ i, i < 0 → ((Z.shown (ts.getD i X.noIt) || Z.jump (ts.getD i X.noIt)) && (Z.lab ts (ts.getD i X.noIt).name).isNone) = false), HNM.out, HBO.out⟩
      case round =>
        obtain ⟨m, rfl, hm, hr2, HAL, HN, HB⟩ := hrel
        by_cases hlt : m < k
        · have hii2 : (m : Int) < k := by omega
          have hin : 0 ≤ (m : Int) := by omega
          obtain ⟨b, off, t, aw, lw, cw, rfl, hg, hmem, c0, c1, c2, c3, c4, c5, c6, hi⟩ := (HV.out.below HB.out).at hlt
          have HGD : Hid (ts.getD m X.noIt = t) := hg
          have HGT : Hid (ts[m]? = some t) := by
            show _ = _
            have hk2 : m < ts.length := by rw [HC.out]; exact hlt
            simp only [List.getD, List.getElem?_eq_getElem hk2, Option.getD_some] at hg
            rw [List.getElem?_eq_getElem hk2, hg]
          have hfit := (HV.out.fit t hmem).1
          have hkey := keyStr t.name hfit
          have hsz : w.heap.size ≤ wr.heap.size := HB.out.size
          clear hg hmem hi
          obtain ⟨Y0, hY0⟩ : ∃ Y0, wr.alloc (.cells #[.int .i64 t.kind, .string (X.str t.name), .int .i64 t.op, .int .i64 t.a, .int .i64 t.b, .int .i64 t.n, .slice aw lw cw] 44) = Y0 := ⟨_, rfl⟩
          have f0 : Y0.cell? ⟨wr.heap.size, 0, none⟩ = some (.int .i64 t.kind) := by subst hY0; exact cellA rfl rfl
          have f1 : Y0.cell? ⟨wr.heap.size, 1, none⟩ = some (.string (X.str t.name)) := by subst hY0; exact cellA rfl rfl
          have f2 : Y0.cell? ⟨wr.heap.size, 2, none⟩ = some (.int .i64 t.op) := by subst hY0; exact cellA rfl rfl
          have f3 : Y0.cell? ⟨wr.heap.size, 3, none⟩ = some (.int .i64 t.a) := by subst hY0; exact cellA rfl rfl
          have f4 : Y0.cell? ⟨wr.heap.size, 4, none⟩ = some (.int .i64 t.b) := by subst hY0; exact cellA rfl rfl
          have f5 : Y0.cell? ⟨wr.heap.size, 5, none⟩ = some (.int .i64 t.n) := by subst hY0; exact cellA rfl rfl
          have f6 : Y0.cell? ⟨wr.heap.size, 6, none⟩ = some (.slice aw lw cw) := by subst hY0; exact cellA rfl rfl
          have bY0 : Below wr.heap.size wr Y0 := by subst hY0; exact bl1 _ _
          have HY0 : Hid (Below w.heap.size w Y0) := HB.out.trans (bY0.mono hsz)
          have HN0 : Hid (NM Y0 w2.heap.size ts) := HN.out.below bY0
          clear bY0
          have HNX : Hid (((Z.shown t || Z.jump t) && (Z.lab ts t.name).isNone) = false → ∀ i, i < m + 1 → ((Z.shown (ts.getD i X.noIt) || Z.jump (ts.getD i X.noIt)) && (Z.lab ts (ts.getD i X.noIt).name).isNone) = false) := fun he i hi => by
            by_cases e : i = m
            · subst e; rw [HGD.out]; exact he
            · exact HAL.out i (by omega)
          have HBAD : Hid (((Z.shown t || Z.jump t) && (Z.lab ts t.name).isNone) = true → Z.nameE ts = 6) := fun he => by
            rw [HE.out, if_pos]
            unfold Z.unk
            exact List.any_eq_true.2 ⟨t, List.mem_of_getElem? HGT.out, he⟩
          have hsc := isShown_any t aw lw cw Y0
          cases hS : Z.shown t with
          | true =>
            rw [hS] at hsc HNX HBAD
            clear hS
            go_wp2_with fail
            refine hsc.mono ?_
            rintro e y1 ⟨rfl, hb1⟩
            have HY1 : Hid (Below w.heap.size w y1) := HY0.out.trans (hb1.mono HY0.out.size)
            have HN1 : Hid (NM y1 w2.heap.size ts) := HN0.out.below hb1
            have g0 := cell_thru hb1 f0
            have g1 := cell_thru hb1 f1
            have g2 := cell_thru hb1 f2
            have g3 := cell_thru hb1 f3
            have g4 := cell_thru hb1 f4
            have g5 := cell_thru hb1 f5
            have g6 := cell_thru hb1 f6
            clear hb1 hsc f0 f1 f2 f3 f4 f5 f6 c0 c1 c2 c3 c4 c5 c6 hkey
            have hhc := nhas_any HN1.out t.name hfit
            clear hfit
            cases hL : Z.lab ts t.name with
            | none =>
              rw [hL] at hhc HBAD
              have HR : Hid (Z.nameE ts = 6) := HBAD.out rfl
              clear hL
              go_wp2_with fail
              refine hhc.mono ?_
              rintro e y3 ⟨rfl, hb3⟩
              have HY3 : Hid (Below w.heap.size w y3) := HY1.out.trans (hb3.mono HY1.out.size)
              clear hb3 hhc
              go_wp2_with fail
              go_ret2
              exact CollectOut.bad HR.out (by decide) HY3.out
            | some q =>
              rw [hL] at hhc HNX
              have HNX2 : Hid _ := HNX.out rfl
              clear hL
              go_wp2_with fail
              refine hhc.mono ?_
              rintro e y3 ⟨rfl, hb3⟩
              have HY3 : Hid (Below w.heap.size w y3) := HY1.out.trans (hb3.mono HY1.out.size)
              have HN3 : Hid (NM y3 w2.heap.size ts) := HN1.out.below hb3
              clear hb3 hhc
              go_wp2_with fail
              go_roundg (k - (m + 1))
              case measure => omega
              case rel => exact ⟨m + 1, by go_num, by omega, Nat.le_refl _, HNX2.out, HN3.out, HY3.out⟩
          | false =>
            rw [hS] at hsc HNX HBAD
            clear hS
            cases hJ : Z.jump t with
            | false =>
              have hjc := fun W => isJump_any t aw lw cw W
              rw [hJ] at hjc HNX
              have HNX2 : Hid _ := HNX.out rfl
              clear hJ
              go_wp2_with fail
              refine hsc.mono ?_
              rintro e y1 ⟨rfl, hb1⟩
              have HY1 : Hid (Below w.heap.size w y1) := HY0.out.trans (hb1.mono HY0.out.size)
              have HN1 : Hid (NM y1 w2.heap.size ts) := HN0.out.below hb1
              have g0 := cell_thru hb1 f0
              have g1 := cell_thru hb1 f1
              have g2 := cell_thru hb1 f2
              have g3 := cell_thru hb1 f3
              have g4 := cell_thru hb1 f4
              have g5 := cell_thru hb1 f5
              have g6 := cell_thru hb1 f6
              clear hb1 hsc f0 f1 f2 f3 f4 f5 f6 c0 c1 c2 c3 c4 c5 c6 hkey
              go_wp2_with fail
              refine (hjc _).mono ?_
              rintro e y2 ⟨rfl, hb2⟩
              have HY2 : Hid (Below w.heap.size w y2) := HY1.out.trans (hb2.mono HY1.out.size)
              have HN2 : Hid (NM y2 w2.heap.size ts) := HN1.out.below hb2
              clear hb2 hjc g0 g1 g2 g3 g4 g5 g6
              go_wp2_with fail
              go_roundg (k - (m + 1))
              case measure => omega
              case rel => exact ⟨m + 1, by go_num, by omega, Nat.le_refl _, HNX2.out, HN2.out, HY2.out⟩
            | true =>
              have hjc := fun W => isJump_any t aw lw cw W
              rw [hJ] at hjc HNX HBAD
              clear hJ
              go_wp2_with fail
              refine hsc.mono ?_
              rintro e z1 ⟨rfl, hb1⟩
              have HY1 : Hid (Below w.heap.size w z1) := HY0.out.trans (hb1.mono HY0.out.size)
              have HN1 : Hid (NM z1 w2.heap.size ts) := HN0.out.below hb1
              have g0 := cell_thru hb1 f0
              have g1 := cell_thru hb1 f1
              have g2 := cell_thru hb1 f2
              have g3 := cell_thru hb1 f3
              have g4 := cell_thru hb1 f4
              have g5 := cell_thru hb1 f5
              have g6 := cell_thru hb1 f6
              clear hb1 hsc f0 f1 f2 f3 f4 f5 f6 c0 c1 c2 c3 c4 c5 c6 hkey
              go_wp2_with fail
              refine (hjc _).mono ?_
              rintro e y1 ⟨rfl, hb2⟩
              have HY2 : Hid (Below w.heap.size w y1) := HY1.out.trans (hb2.mono HY1.out.size)
              have HN2 : Hid (NM y1 w2.heap.size ts) := HN1.out.below hb2
              have e1 := cell_thru hb2 g1
              clear hb2 hjc g0 g1 g2 g3 g4 g5 g6
              have hhc := nhas_any HN2.out t.name hfit
              clear hfit
              cases hL : Z.lab ts t.name with
              | none =>
                rw [hL] at hhc HBAD
                have HR : Hid (Z.nameE ts = 6) := HBAD.out rfl
                clear hL
                go_wp2_with fail
                refine hhc.mono ?_
                rintro e y3 ⟨rfl, hb3⟩
                have HY3 : Hid (Below w.heap.size w y3) := HY2.out.trans (hb3.mono HY2.out.size)
                clear hb3 hhc
                go_wp2_with fail
                go_ret2
                exact CollectOut.bad HR.out (by decide) HY3.out
              | some q =>
                rw [hL] at hhc HNX
                have HNX2 : Hid _ := HNX.out rfl
                clear hL
                go_wp2_with fail
                refine hhc.mono ?_
                rintro e y3 ⟨rfl, hb3⟩
                have HY3 : Hid (Below w.heap.size w y3) := HY2.out.trans (hb3.mono HY2.out.size)
                have HN3 : Hid (NM y3 w2.heap.size ts) := HN2.out.below hb3
                clear hb3 hhc
                go_wp2_with fail
                go_roundg (k - (m + 1))
                case measure => omega
                case rel => exact ⟨m + 1, by go_num, by omega, Nat.le_refl _, HNX2.out, HN3.out, HY3.out⟩
        · obtain rfl : m = k := by omega
          have hii2 : ¬ (m : Int) < m := by omega
          have HR : Hid (Z.nameE ts = 0) := by
            show _ = _
            rw [HE.out, if_neg]
            unfold Z.unk
            intro he
            obtain ⟨t, ht, he⟩ := List.any_eq_true.1 he
            obtain ⟨i, hi, rfl⟩ := List.getElem_of_mem ht
            have := HAL.out i (by rw [← HC.out]; exact hi)
            rw [show ts.getD i X.noIt = ts[i] by simp [List.getD, hi]] at this
            rw [this] at he
            cases he
          go_wp2_with fail
          go_ret2
          exact ⟨.inl ⟨HR.out, _, rfl, HN.out, hz2, HON.out⟩, HB.out⟩

end Go.Proofs.YtgjingleolhkbaaGreatDoor
