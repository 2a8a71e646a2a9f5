/- Two texts one behind the other. -/
import Derived.Test.YteakimepdnojdaaDoorAsBack
import Derived.Deep.AppendSrc
import Derived.Laws.OwnMore
import Derived.Maps.AppendAt
namespace Go.Proofs.YteakimepdnojdaaDoor
open Go.RowKit Go.Maps Go.Lib
set_option linter.unusedVariables false
set_option linter.unusedSimpArgs false

theorem parse_code (s : X.By) : (X.parse s).2 = 0 ∨ (X.parse s).2 = 2 ∨ (X.parse s).2 = 8 := by
  obtain ⟨-, h, -⟩ := X.parse_ok (s := s) (l := (X.parse s).1) (z := (X.parse s).2) rfl
  exact h
theorem split_last {s : ByteArray} (h0 : 0 < s.size) (hl : s[s.size - 1] = 10) : s.data.toList = s.data.toList.take (s.size - 1) ++ [10] := by
  have h1 := List.take_append_drop (s.size - 1) s.data.toList
  rw [drop_cons s (s.size - 1) (by omega), List.drop_eq_nil_of_le (by rw [len_list]; omega), hl] at h1
  exact h1.symm
theorem app_toList (a b : ByteArray) : (a ++ b).data.toList = a.data.toList ++ b.data.toList := by simp

theorem joined_parse {s t : ByteArray} (h0 : 0 < s.size) (hl : s[s.size - 1] = 10) (h : s.size + t.size ≤ 20000) : X.parse (s ++ t).data.toList = if (X.parse s.data.toList).2 = 0 ∧ (X.parse t.data.toList).2 = 0 then ((X.parse s.data.toList).1 ++ (X.parse t.data.toList).1, 0) else ([], 2) := by
  have e := split_last h0 hl
  have hlen : (s.data.toList.take (s.size - 1)).length = s.size - 1 := by rw [List.length_take, len_list]; omega
  have h2 := X.parse_joined (s := s.data.toList.take (s.size - 1)) (t := t.data.toList) (by rw [hlen, len_list]; omega)
  rw [← e] at h2
  rw [app_toList, ← h2]
  congr 1
  conv => lhs; rw [e]
  simp
theorem own_src {w : World} {B : Nat} {ty : TypeId} {k n c : Nat} {a : Option Addr} {cs : List Value} (h : w.ownsRow B ty k (.slice a n c) n cs) : (a = none → n = 0 ∧ c = 0) ∧ cs.length = n * k ∧ ∀ ad, a = some ad → ∀ j u, cs[j]? = some u → w.cell? (ad.add j) = some u := by
  refine ⟨?_, h.1, ?_⟩
  · rintro rfl
    rcases h.2 with ⟨e1, e2⟩ | ⟨g, cap, cur, e1, -⟩
    · cases e1; exact ⟨rfl, rfl⟩
    · cases e1
  · rintro ad rfl j u hu
    rcases h.2 with ⟨e1, -⟩ | ⟨g, cap, cur, e1, -⟩
    · cases e1
    · cases e1
      have := h.cellAt j (by rw [← h.1]; exact (List.getElem?_eq_some_iff.1 hu).1)
      rw [hu] at this
      unfold Addr.add
      split <;> simp_all
theorem own_mono {w : World} {B B' : Nat} {ty : TypeId} {k n : Nat} {v : Value} {cs : List Value} (h : w.ownsRow B ty k v n cs) (hB : B' ≤ B) : w.ownsRow B' ty k v n cs :=
  ⟨h.1, h.2.imp id (fun ⟨g, cap, cur, e, hb, r⟩ => ⟨g, cap, cur, e, Nat.le_trans hB hb, r⟩)⟩
theorem ItO.mono {B B' : Nat} {W : World} {tv : List (X.It × Value)} (h : ItO B W tv) (hB : B' ≤ B) : ItO B' W tv := fun p hp => by
  obtain ⟨hn, aw, lw, cw, e, ho⟩ := h p hp
  exact ⟨hn, aw, lw, cw, e, own_mono ho hB⟩
theorem ItO.below {B : Nat} {W W' : World} {tv : List (X.It × Value)} (h : ItO B W tv) (hb : Below W.heap.size W W') : ItO B W' tv := h.kept (gb_of_below hb none) (fun b o e => by cases e)
theorem below_own {w x y : World} {B : Nat} {ty : TypeId} {k n : Nat} {v : Value} {cs : List Value} (h : Below B w x) (ho : x.ownsRow B ty k v n cs) (hg : x.grownBy y v.ownBlock) (hw : B ≤ x.heap.size) : Below B w y := by
  rcases ho.2 with ⟨e1, -⟩ | ⟨g, cap, cur, e1, hb, -⟩
  · rw [e1] at hg
    exact ⟨hg.os.trans h.os, hg.tape.trans h.tape, hg.output.trans h.output, Nat.le_trans h.size hg.size, fun i hi => (hg.block i (by omega) (fun e => by cases e)).trans (h.block i hi)⟩
  · rw [e1] at hg
    exact below_gb h hg hb hw
theorem oneIt {t : X.It} {aw : Option Addr} {lw cw : Nat} : ∀ u ∈ itC t (.slice aw lw cw), u.oneCell' = true := by
  intro u hu
  simp [itC] at hu
  rcases hu with rfl | rfl | rfl | rfl | rfl | rfl | rfl <;> rfl
theorem oneIts {B : Nat} {W : World} {tv : List (X.It × Value)} (h : ItO B W tv) : ∀ u ∈ tv.flatMap itF, u.oneCell' = true := by
  intro u hu
  obtain ⟨p, hp, hu⟩ := List.mem_flatMap.1 hu
  obtain ⟨-, aw, lw, cw, e, -⟩ := h p hp
  unfold itF at hu
  rw [e] at hu
  exact oneIt u hu
/-- append of a whole list, nil or not, onto a row of one's own. -/
theorem run_append_more (w : World) (B : Nat) (t e : TypeId) (i0 : TypeInfo) (z : Value) (size bytes : Nat) (ht : Tryd.prog.underlying t = some (.slice e)) (hi : Tryd.prog.info? e = some i0) (hz : i0.zero = some z) (hsize : i0.size = size) (hby : i0.bytes = bytes) (hzs : z.cells.size = size) (hsz : 0 < size)
    {v : Value} {n : Nat} {xs : List Value} (hown : w.ownsRow B e size v n xs) (hB : B ≤ w.heap.size)
    {a : Option Addr} {l c : Nat} {cs : List Value} (hnil : a = none → l = 0 ∧ c = 0) (hlen : cs.length = l * size) (hcells : ∀ ad, a = some ad → ∀ j u, cs[j]? = some u → w.cell? (ad.add j) = some u) (h1 : ∀ u ∈ cs, u.oneCell' = true) (hb : (n + l) * bytes ≤ 140737488355328) (hm : n + l ≤ 140737488355328) (ty : TypeId) :
    ∃ v' w', (Builtin.append_ #[t, t] ty #[v, .slice a l c]).run Tryd.prog w = .ok v' w' ∧ w'.ownsRow B e size v' (n + l) (xs ++ cs) ∧ w.grownBy w' v.ownBlock ∧ ∀ g, v'.ownBlock = some g → v.ownBlock = some g ∨ w.heap.size ≤ g := by
  cases a with
  | none =>
    obtain ⟨rfl, rfl⟩ := hnil rfl
    obtain rfl : cs = [] := List.eq_nil_of_length_eq_zero (by simpa using hlen)
    exact ⟨_, _, run_append_owned_none (P := Tryd.prog) w B t ty e i0 size ht hi v n xs hown, by simpa using hown, gb_of_below (Below.refl _ _) _, fun g hg => .inl hg⟩
  | some ad =>
    obtain ⟨v', w', hr, ho, hg, -, h5⟩ := run_append_own_at (P := Tryd.prog) w B t ty e i0 z size bytes ht hi hz hsize hby hzs hsz v n xs hown ad l c cs hlen (hcells ad rfl) h1 (by unfold maxLen; omega) hb hB
    refine ⟨v', w', hr, ho, hg, fun g hg' => ?_⟩
    rcases h5 with h5 | h5
    · exact .inl (h5 ▸ hg')
    · rw [h5] at hg'
      cases hg'
      exact .inr (Nat.le_refl _)
theorem wpList_append_more {ops : Array Oper} {rest : List Oper} {o : Oper} {ac : Act} {w : World} {Q : Exit → Act → World → Prop} (hgd : o.guard = none) (s x : Operand) (t : TypeId)
    (ho : o.op = .call { callee := .builtin .append, args := #[s, x], argTypes := #[t, t] }) (B : Nat) (e : TypeId) (i0 : TypeInfo) (z : Value) (size bytes : Nat) (ht : Tryd.prog.underlying t = some (.slice e)) (hi : Tryd.prog.info? e = some i0) (hz : i0.zero = some z) (hsize : i0.size = size) (hby : i0.bytes = bytes) (hzs : z.cells.size = size) (hsz : 0 < size)
    {v : Value} {n : Nat} {xs : List Value} (hs : ac.eval s = v) (hown : w.ownsRow B e size v n xs) (hB : B ≤ w.heap.size)
    {a : Option Addr} {l c : Nat} {cs : List Value} (hx : ac.eval x = .slice a l c) (hnil : a = none → l = 0 ∧ c = 0) (hlen : cs.length = l * size) (hcells : ∀ ad, a = some ad → ∀ j u, cs[j]? = some u → w.cell? (ad.add j) = some u) (h1 : ∀ u ∈ cs, u.oneCell' = true) (hb : (n + l) * bytes ≤ 140737488355328) (hm : n + l ≤ 140737488355328)
    (hk : ∀ v' w', w'.ownsRow B e size v' (n + l) (xs ++ cs) → w.grownBy w' v.ownBlock → (∀ g, v'.ownBlock = some g → v.ownBlock = some g ∨ w.heap.size ≤ g) → wpList Tryd.prog ops Q rest (ac.put o.dst v') w') : wpList Tryd.prog ops Q (o :: rest) ac w := by
  refine wpList_plain hgd fun K hK => ?_
  obtain ⟨v', w', hr, h2, h3, h4⟩ := run_append_more w B t e i0 z size bytes ht hi hz hsize hby hzs hsz hown hB hnil hlen hcells h1 hb hm o.type
  unfold Oper.wp execOp
  simp only [ho, resolve, invoke, builtin, Sem.run_bind, Sem.run_pure, Result.andThen_ok, List.map_toArray, List.map_cons, List.map_nil, hs, hx, hr]
  exact hK _ _ (hk v' w' h2 h3 h4)

set_option maxRecDepth 100000 in
set_option maxHeartbeats 1000000 in
theorem joined_any (s t : ByteArray) (hs : s.size ≤ maxLen) (hq : t.size ≤ maxLen) (w : World) (ht : Tab w) :
    Calls Tryd.prog 4 #[.string s, .string t] w fun e w' => e = .returned (.bool true) ∧ Below w.heap.size w w' := by
  have HT : Hid _ := ht
  unfold maxLen at hs hq
  clear ht
  have liveEnd : ∀ {y : World}, True := trivial
  clear liveEnd
  by_cases h1 : 10000 < s.size
  · go_enter Tryd.func4, Tryd.ntmps4
    go_wp2_with fail
    refine (live_any _ HT.out).mono ?_
    rintro e y ⟨rfl, hb⟩
    have HB : Hid _ := hb
    clear hb
    go_wp2_with fail
    go_ret
    exact ⟨rfl, HB.out⟩
  have d1 : ¬ (10000 : Int) < s.size := by omega
  by_cases h2 : 10000 < t.size
  · go_enter Tryd.func4, Tryd.ntmps4
    go_wp2_with fail
    refine (live_any _ HT.out).mono ?_
    rintro e y ⟨rfl, hb⟩
    have HB : Hid _ := hb
    clear hb
    go_wp2_with fail
    go_ret
    exact ⟨rfl, HB.out⟩
  have d2 : ¬ (10000 : Int) < t.size := by omega
  by_cases h3 : s.size = 0
  · obtain rfl : s = { data := #[] } := by
      have : s.data.toList = [] := List.eq_nil_of_length_eq_zero (by rw [len_list]; exact h3)
      obtain ⟨⟨l⟩⟩ := s
      simp at this
      subst this
      rfl
    clear h3 d1
    go_enter Tryd.func4, Tryd.ntmps4
    go_wp2_with fail
    refine (live_any _ HT.out).mono ?_
    rintro e y ⟨rfl, hb⟩
    have HB : Hid _ := hb
    clear hb
    go_wp2_with fail
    go_ret
    exact ⟨rfl, HB.out⟩
  have he : s.toList.isEmpty = false := by rw [neq_empty]; simp; exact fun e => h3 (by rw [ByteArray.size, e]; rfl)
  have h0 : 0 < s.size := by omega
  have i1 : (0 : Int) ≤ (s.size : Int) - 1 := by omega
  have i2 : (s.size : Int) - 1 < s.size := by omega
  have i3 : ((s.size : Int) - 1).toNat = s.size - 1 := by omega
  by_cases hl : s[s.size - 1] = 10
  rotate_left
  · have hl' : (((s[s.size - 1]).toNat : Int) != 10) = true := by
      have : (s[s.size - 1]).toNat ≠ 10 := fun e => hl (UInt8.toNat_inj.1 e)
      simp; omega
    clear hl
    go_enter Tryd.func4, Tryd.ntmps4
    go_wp2_with fail
    refine (live_any _ HT.out).mono ?_
    rintro e y ⟨rfl, hb⟩
    have HB : Hid _ := hb
    clear hb
    go_wp2_with fail
    go_ret
    exact ⟨rfl, HB.out⟩
  have HJ : Hid (X.parse (s ++ t).data.toList = _) := joined_parse (t := t) h0 hl (by omega)
  have hl' : (((s[s.size - 1]).toNat : Int) != 10) = false := by rw [hl]; rfl
  have HP1 : Hid (∀ y, Tab y → _) := fun y hy => parse_any s (by unfold maxLen; omega) y hy
  have HP2 : Hid (∀ y, Tab y → _) := fun y hy => parse_any t (by unfold maxLen; omega) y hy
  have HP3 : Hid (∀ y, Tab y → _) := fun y hy => parse_v (s ++ t) (by rw [ByteArray.size_append]; unfold maxLen; omega) y hy
  have hst : (s ++ t).size ≤ 20000 := by rw [ByteArray.size_append]; omega
  have HK1 : Hid ((X.parse s.data.toList).1.length ≤ 20000 ∧ ∀ x ∈ (X.parse s.data.toList).1, X.fitsIt x) := by
    obtain ⟨-, -, q1, -, q2⟩ := X.parse_ok (s := s.data.toList) (l := (X.parse s.data.toList).1) (z := (X.parse s.data.toList).2) rfl
    exact ⟨q1, q2⟩
  have HK2 : Hid ((X.parse t.data.toList).1.length ≤ 20000 ∧ ∀ x ∈ (X.parse t.data.toList).1, X.fitsIt x) := by
    obtain ⟨-, -, q1, -, q2⟩ := X.parse_ok (s := t.data.toList) (l := (X.parse t.data.toList).1) (z := (X.parse t.data.toList).2) rfl
    exact ⟨q1, q2⟩
  have HH : Hid ((X.parse s.data.toList).2 = 0 ∧ (X.parse t.data.toList).2 = 0 ∨ ¬ ((X.parse s.data.toList).2 = 0 ∧ (X.parse t.data.toList).2 = 0)) := Classical.em _
  generalize X.parse s.data.toList = pa at *
  generalize X.parse t.data.toList = pb at *
  generalize X.parse (s ++ t).data.toList = pc at *
  obtain ⟨al, az⟩ := pa
  obtain ⟨bl, bz⟩ := pb
  simp only at HJ HK1 HK2 HH
  clear hl
  go_enter Tryd.func4, Tryd.ntmps4
  go_wp2_with fail
  refine (HP1.out w HT.out).mono ?_
  rintro e w1 ⟨tv1, a1, c1, rfl, e1, o1, t1, hb⟩
  have HB1 : Hid (Below w.heap.size w w1) := hb
  have HO1 : Hid (World.ownsRow w1 _ _ _ _ _ _) := o1
  have HI1 : Hid (ItO w.heap.size w1 tv1) := t1
  have HE1 : Hid (tv1.map (·.1) = al) := e1
  clear hb o1 t1 e1 HP1
  go_wp2_with fail
  refine (HP2.out w1 (HT.out.below HB1.out)).mono ?_
  rintro e w2 ⟨tv2, a2, c2, rfl, e1, o1, t1, hb⟩
  have HB12 : Hid (Below w1.heap.size w1 w2) := hb
  have HB2 : Hid (Below w.heap.size w w2) := HB1.out.trans (hb.mono HB1.out.size)
  have HO2 : Hid (World.ownsRow w2 _ _ _ _ _ _) := o1
  have HI2 : Hid (ItO w1.heap.size w2 tv2) := t1
  have HE2 : Hid (tv2.map (·.1) = bl) := e1
  clear hb o1 t1 e1 HP2
  go_wp2_with fail
  refine (HP3.out w2 (HT.out.below HB2.out)).mono ?_
  rintro e w3 ⟨a3, c3, rfl, hv, hb⟩
  have HB23 : Hid (Below w2.heap.size w2 w3) := hb
  have HB3 : Hid (Below w.heap.size w w3) := HB2.out.trans (hb.mono HB2.out.size)
  have HV : Hid (ItsV w3 a3 pc.1.length c3 pc.1) := hv
  clear hb hv HP3
  have HT3 : Hid (Tab w3) := HT.out.below HB3.out
  by_cases hz : az = 0 ∧ bz = 0
  rotate_left
  · have hpc : pc = ([], 2) := by rw [HJ.out]; exact if_neg hz
    subst hpc
    by_cases hza : az = 0
    · have hza' : ((az : Int) != 0) = false := by simp; omega
      have hzb' : ((bz : Int) != 0) = true := by simp; omega
      clear hz hza HJ
      go_wp2_with fail
      refine (live_any _ HT3.out).mono ?_
      rintro e y ⟨rfl, hb⟩
      have HB : Hid _ := hb
      clear hb
      go_wp2_with fail
      go_ret
      exact ⟨rfl, HB3.out.trans (HB.out.mono HB3.out.size)⟩
    · have hza' : ((az : Int) != 0) = true := by simp; omega
      clear hz hza HJ
      go_wp2_with fail
      refine (live_any _ HT3.out).mono ?_
      rintro e y ⟨rfl, hb⟩
      have HB : Hid _ := hb
      clear hb
      go_wp2_with fail
      go_ret
      exact ⟨rfl, HB3.out.trans (HB.out.mono HB3.out.size)⟩
  have hpc : pc = (al ++ bl, 0) := by rw [HJ.out]; exact if_pos hz
  subst hpc
  obtain ⟨rfl, rfl⟩ := hz
  clear HJ
  simp only at HV
  obtain ⟨i0, hi, hi2⟩ : ∃ i, Tryd.prog.info? 37 = some i ∧ (i.zero, i.size, i.bytes) = (some (.agg #[.int .i64 0, .string { data := #[] }, .int .i64 0, .int .i64 0, .int .i64 0, .int .i64 0, .slice none 0 0]), 7, 80) := by
    have := infoIt
    revert this
    cases Tryd.prog.info? 37 with
    | none => intro h; cases h
    | some i => intro h; exact ⟨i, rfl, by simpa using h⟩
  have hi3 : i0.zero = some (.agg #[.int .i64 0, .string { data := #[] }, .int .i64 0, .int .i64 0, .int .i64 0, .int .i64 0, .slice none 0 0]) := congrArg (·.1) hi2
  have hi4 : i0.size = 7 := congrArg (·.2.1) hi2
  have hi5 : i0.bytes = 80 := congrArg (·.2.2) hi2
  clear hi2
  have HO13 := own_thru (own_thru HO1.out HB12.out) HB23.out
  have HI13 := (HI1.out.below HB12.out).below HB23.out
  have HO23 := own_thru HO2.out HB23.out
  have HI23 := HI2.out.below HB23.out
  have HS1 : Hid _ := own_src HO13
  have HQ1 : Hid _ := oneIts HI13
  have hn1 : tv1.length ≤ 20000 := by have := congrArg List.length HE1.out; rw [List.length_map] at this; rw [this]; exact HK1.out.1
  have hn2 : tv2.length ≤ 20000 := by have := congrArg List.length HE2.out; rw [List.length_map] at this; rw [this]; exact HK2.out.1
  have HN1 : Hid (tv1.length ≤ 20000) := hn1
  have HN2 : Hid (tv2.length ≤ 20000) := hn2
  have HO : Hid (World.ownsRow w3 w1.heap.size 37 7 (.slice a2 tv2.length c2) tv2.length (tv2.flatMap itF)) := HO23
  have HI : Hid (ItO w.heap.size w3 tv1) := HI13
  have HIB : Hid (ItO w1.heap.size w3 tv2) := HI23
  clear HO13 HI13 HO23 HI23
  go_wp2_with (first | (at_builtin; refine wpList_append_more rfl _ _ 22 rfl w3.heap.size 37 i0 _ 7 80 Tryd.underlying22 hi hi3 hi4 hi5 rfl (by decide) (v := .slice none 0 0) (n := 0) (xs := []) rfl (World.ownsRow_nil _ _ _ _) (Nat.le_refl _) (a := a1) (l := tv1.length) (c := c1) (cs := tv1.flatMap itF) rfl HS1.out.1 HS1.out.2.1 HS1.out.2.2 HQ1.out (by omega) (by omega) ?_) | go_in)
  intro v4 w4 ho4 hg4 hat4
  obtain ⟨a4, c4, rfl⟩ := own_slice ho4
  have HB34 : Hid (Below w3.heap.size w3 w4) := ⟨hg4.os, hg4.tape, hg4.output, hg4.size, fun i hi => hg4.block i hi (fun e => by cases e)⟩
  have HO4 : Hid _ := ho4
  have HS2 : Hid _ := own_src (own_thru HO.out HB34.out)
  have HQ2 : Hid _ := oneIts HIB.out
  have h34 := HB34.out.size
  clear ho4 hg4 hat4
  go_wp2_with (first | (at_builtin; refine wpList_append_more rfl _ _ 22 rfl w3.heap.size 37 i0 _ 7 80 Tryd.underlying22 hi hi3 hi4 hi5 rfl (by decide) (v := .slice a4 tv1.length c4) rfl HO4.out h34 (a := a2) (l := tv2.length) (c := c2) (cs := tv2.flatMap itF) rfl HS2.out.1 HS2.out.2.1 HS2.out.2.2 HQ2.out (by omega) (by omega) ?_) | go_in)
  intro v5 w5 ho5 hg5 hat5
  obtain ⟨a5, c5, rfl⟩ := own_slice ho5
  have HB35 : Hid (Below w3.heap.size w3 w5) := below_own HB34.out HO4.out hg5 h34
  have HV5 : Hid (ItsV w5 a5 (tv1.length + tv2.length) c5 (al ++ bl)) := by
    show ItsV _ _ _ _ _
    have hw1 : w.heap.size ≤ w1.heap.size := HB1.out.size
    have hit : ItO w.heap.size w5 (tv1 ++ tv2) := fun p hp => by
      rcases List.mem_append.1 hp with hp | hp
      · exact (HI.out.below HB35.out) p hp
      · exact ((HIB.out.below HB35.out).mono hw1) p hp
    have := its_of_own (tv := tv1 ++ tv2) (a := a5) (c := c5) (B := w3.heap.size) (W := w5) (by rw [List.length_append, List.flatMap_append]; exact ho5) hit (by
      rw [List.map_append, HE1.out, HE2.out]
      intro x hx
      rcases List.mem_append.1 hx with hx | hx
      · exact HK1.out.2 x hx
      · exact HK2.out.2 x hx)
    rw [List.map_append, HE1.out, HE2.out, List.length_append] at this
    exact this
  have hsm := same_any (HV.out.below HB35.out) HV5.out true (by simp)
  have HB5 : Hid (Below w.heap.size w w5) := HB3.out.trans (HB35.out.mono HB3.out.size)
  clear ho5 hg5 hat5 HV HV5 HI HIB HO HS1 HS2 HQ1 HQ2 HO4 HK1 HK2 HH HO1 HO2 HI1 HI2 HB23 HB12 HB34 HB35 HE1 HE2
  generalize tv1.length + tv2.length = n5 at *
  rw [List.length_append] at hsm
  generalize al.length + bl.length = n6 at *
  clear HN1 HN2 hn1 hn2 hi hi3 hi4 hi5 hst
  go_wp2_with fail
  refine hsm.mono ?_
  rintro e w6 ⟨rfl, hb⟩
  have HB6 : Hid (Below w.heap.size w w6) := HB5.out.trans (hb.mono HB5.out.size)
  clear hb hsm
  go_wp2_with fail
  refine (live_any _ (HT.out.below HB6.out)).mono ?_
  rintro e y ⟨rfl, hb⟩
  have HB : Hid _ := hb
  clear hb
  go_wp2_with fail
  go_ret
  exact ⟨rfl, HB6.out.trans (HB.out.mono HB6.out.size)⟩

end Go.Proofs.YteakimepdnojdaaDoor
