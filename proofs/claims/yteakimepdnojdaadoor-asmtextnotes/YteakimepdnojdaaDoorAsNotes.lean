/- Notes and spaces: the walk. -/
import Derived.Test.YteakimepdnojdaaDoorAsNotesM
import Derived.Test.YteakimepdnojdaaDoorAsJoined
import Derived.Lib.AppendStr
import Derived.Laws.BytesArg
namespace Go.Proofs.YteakimepdnojdaaDoor
open Go.RowKit Go.Maps Go.Lib
set_option linter.unusedVariables false
set_option linter.unusedSimpArgs false

theorem infoB : (Tryd.prog.info? 5).map (fun i => (i.zero, i.size, i.bytes)) = some (some (.int .u8 0), 1, 1) := by kernel_rfl
def byV (c : UInt8) : Value := .int .u8 c.toNat
theorem strNums_eq (l : X.By) : strOfNums (l.map fun c => (c.toNat : Int)) = X.str l := by
  refine bytes_ext' ?_
  rw [str_list]
  unfold strOfNums
  simp
  conv => rhs; rw [← List.map_id l]
  refine List.map_congr_left fun c hc => ?_
  simp
theorem conv_row {w : World} {g n cap : Nat} {l : X.By} (hn : l.length = n) (h : ∀ j u, (l.map byV)[j]? = some u → w.cell? ⟨g, j, none⟩ = some u) : (convert 32 9 (.slice (some ⟨g, 0, none⟩) n cap)).run Tryd.prog w = .ok (.string (X.str l)) w := by
  have h1 := run_convert_bytes_arg (P := Tryd.prog) w 32 5 Tryd.underlying32 Tryd.underlying5 g 0 n cap (l.map fun c => (c.toNat : Int)) (by simpa using hn) (fun i hi => by
    rw [Nat.zero_add]
    have hi' : i < l.length := by omega
    have e1 : (l.map fun c => (c.toNat : Int)).getD i 0 = (l[i].toNat : Int) := by simp [List.getD, hi']
    rw [e1]
    exact h i _ (by simp [byV, hi'])) 9 Tryd.underlying9
  rw [h1, strNums_eq]
theorem conv_own {w : World} {B n : Nat} {v : Value} {l : X.By} (h : w.ownsRow B 5 1 v n (l.map byV)) : (convert 32 9 v).run Tryd.prog w = .ok (.string (X.str l)) w := by
  have hl : l.length = n := by have := h.1; simpa using this
  rcases h.2 with ⟨e1, e2⟩ | ⟨g, cap, cur, e1, -⟩
  · subst e1
    obtain rfl : l = [] := List.eq_nil_of_length_eq_zero (by omega)
    exact run_convert_bytes_nil (P := Tryd.prog) w 32 5 Tryd.underlying32 Tryd.underlying5 0 0 9 Tryd.underlying9
  · subst e1
    exact conv_row hl (fun j u hu => by
      rw [h.cellAt j (by have := (List.getElem?_eq_some_iff.1 hu).1; rw [List.length_map] at this; omega)]
      exact hu)
theorem take_byte {s : ByteArray} {k : Nat} (h : k < s.size) : s.data.toList.take (k + 1) = s.data.toList.take k ++ [s[k]] := by
  rw [List.take_succ_eq_append_getElem (by rw [len_list]; exact h)]
  rfl
theorem ext_one {s : ByteArray} {k : Nat} (h : k < s.size) : s.extract k (k + 1) = X.str [s[k]] := by
  rw [extract_eq, take_byte h, List.drop_append_of_le_length (by rw [List.length_take, len_list]; omega), List.drop_eq_nil_of_le (by rw [List.length_take, len_list]; omega), List.nil_append]

set_option maxRecDepth 100000 in
set_option maxHeartbeats 2000000 in
theorem notes_any (s t : ByteArray) (hs : s.size ≤ maxLen) (hq : t.size ≤ maxLen) (w : World) (ht : Tab w) :
    Calls Tryd.prog 5 #[.string s, .string t] w fun e w' => e = .returned (.bool true) ∧ Below w.heap.size w w' := by
  have HT : Hid _ := ht
  have hmx : maxLen = 9223372036854775807 := rfl
  clear ht
  by_cases h1 : 1000 < s.size
  · go_enter Tryd.func5, Tryd.ntmps5
    go_wp2_with fail
    refine (live_any _ HT.out).mono ?_
    rintro e y ⟨rfl, hb⟩
    have HB : Hid _ := hb
    clear hb
    go_wp2_with fail
    go_ret
    exact ⟨rfl, HB.out⟩
  have d1 : ¬ (1000 : Int) < s.size := by omega
  by_cases h2 : 100 < t.size
  · go_enter Tryd.func5, Tryd.ntmps5
    go_wp2_with fail
    refine (live_any _ HT.out).mono ?_
    rintro e y ⟨rfl, hb⟩
    have HB : Hid _ := hb
    clear hb
    go_wp2_with fail
    go_ret
    exact ⟨rfl, HB.out⟩
  have d2 : ¬ (100 : Int) < t.size := by omega
  obtain ⟨i1, hi1, hi2⟩ : ∃ i, Tryd.prog.info? 5 = some i ∧ (i.zero, i.size, i.bytes) = (some (.int .u8 0), 1, 1) := by
    have := infoB
    revert this
    cases Tryd.prog.info? 5 with
    | none => intro h; cases h
    | some i => intro h; exact ⟨i, rfl, by simpa using h⟩
  have hz10 : i1.zero = some (.int .u8 0) := congrArg (·.1) hi2
  have hz11 : i1.size = 1 := congrArg (·.2.1) hi2
  have hz12 : i1.bytes = 1 := congrArg (·.2.2) hi2
  clear hi2
  go_enter Tryd.func5, Tryd.ntmps5
  go_wp2_with fail
  go_loopg [5, 6] t.size (fun r bv iv wq => ∃ (k m : Nat), iv = .int .i64 k ∧ k ≤ t.size ∧ t.size - k ≤ r ∧ m ≤ k ∧ Hid ((X.kept (t.data.toList.take k)).length = m) ∧ Hid (wq.ownsRow w.heap.size 5 1 bv m ((X.kept (t.data.toList.take k)).map byV)) ∧ Hid (Below w.heap.size w wq))
  case atStart => exact ⟨0, 0, rfl, Nat.zero_le _, by omega, Nat.zero_le _, rfl, World.ownsRow_nil _ _ _ _, Below.refl _ _⟩
  case round =>
    obtain ⟨k, m, rfl, hk, hr, hm, HM, HO, HB⟩ := hrel
    have HBs : Hid (w.heap.size ≤ wr.heap.size) := HB.out.size
    by_cases hlt : k < t.size
    · have hii : (k : Int) < t.size := by omega
      have hin : 0 ≤ (k : Int) := by omega
      have HS : Hid _ := take_byte hlt
      by_cases hc : t[k] = 10
      · have hc' : ((t[k].toNat : Int) != 10) = false := by rw [hc]; rfl
        have HC : Hid (t[k] = 10) := hc
        clear hc
        go_wp2_with fail
        go_roundg (t.size - (k + 1))
        case measure => omega
        case rel =>
          have e : X.kept (t.data.toList.take (k + 1)) = X.kept (t.data.toList.take k) := by rw [HS.out, X.kept_snoc, if_pos HC.out]
          exact ⟨k + 1, m, by go_num, by omega, Nat.le_refl _, by omega, by show _ = _; rw [e]; exact HM.out, by show World.ownsRow _ _ _ _ _ _ _; rw [e]; exact HO.out, HB.out⟩
      · have hc' : ((t[k].toNat : Int) != 10) = true := by
          have : t[k].toNat ≠ 10 := fun e => hc (UInt8.toNat_inj.1 e)
          simp; omega
        have HSN : Hid (X.kept (t.data.toList.take (k + 1)) = X.kept (t.data.toList.take k) ++ [t[k]]) := by show _ = _; rw [HS.out, X.kept_snoc, if_neg hc]
        clear hc
        generalize hcc : t[k] = cc at hc' HSN
        obtain ⟨Z, hZ⟩ : ∃ Z, wr.alloc (.cells #[.int .u8 cc.toNat] 5) = Z := ⟨_, rfl⟩
        have BZ : Hid (Below wr.heap.size wr Z) := by
          show Below _ _ _
          rw [← hZ]
          exact bl1 _ _
        have OZ : Hid (Z.ownsRow w.heap.size 5 1 u5 m ((X.kept (t.data.toList.take k)).map byV)) := own_thru HO.out BZ.out
        have HNC : Hid (∀ j u, ([.int .u8 cc.toNat] : List Value)[j]? = some u → Z.cell? ((⟨wr.heap.size, 0, none⟩ : Addr).add j) = some u) := by
          intro j u hu
          rw [← hZ, Addr.add_lit, Nat.zero_add]
          exact row_cell (by simpa using hu)
        have HWZ : Hid (w.heap.size ≤ Z.heap.size) := by show _ ≤ _; have := BZ.out.size; have := HBs.out; omega
        have HBZ : Hid (Below w.heap.size w Z) := HB.out.trans (BZ.out.mono HBs.out)
        go_wp2_with (first | (at_builtin; (try rw [hZ]); refine wpList_append_lies _ rfl _ _ 32 rfl w.heap.size 5 i1 _ 1 1 Tryd.underlying32 hi1 hz10 hz11 hz12 rfl (by decide) u5 m ((X.kept (t.data.toList.take k)).map byV) rfl OZ.out ⟨wr.heap.size, 0, none⟩ 1 1 [.int .u8 cc.toNat] rfl rfl HNC.out (by intro u hu; simp at hu; rcases hu with rfl; rfl) (by decide) (by omega) (by omega) HWZ.out Z.heap.size rfl ?_; intro ga ca w2 ho1 hg1 hat1 hlt1; have HO1 : Hid (w2.ownsRow w.heap.size 5 1 (.slice (some ⟨ga, 0, none⟩) (m + 1) ca) (m + 1) ((X.kept (t.data.toList.take k)).map byV ++ [.int .u8 cc.toNat])) := ho1; have HB2 : Hid (Below w.heap.size w w2) := below_own HBZ.out OZ.out hg1 HWZ.out; clear ho1 hg1 hat1) | fail)
        go_roundg (t.size - (k + 1))
        case measure => omega
        case rel =>
          refine ⟨k + 1, m + 1, by go_num, by omega, Nat.le_refl _, by omega, ?_, ?_, HB2.out⟩
          · show _ = _
            rw [HSN.out, List.length_append, HM.out]
            rfl
          · show World.ownsRow _ _ _ _ _ _ _
            rw [HSN.out, List.map_append]
            exact HO1.out
    · obtain rfl : k = t.size := by omega
      have hfull : t.data.toList.take t.size = t.data.toList := List.take_of_length_le (by rw [len_list]; exact Nat.le_refl _)
      rw [hfull] at HM HO
      have hii : ¬ (t.size : Int) < t.size := by omega
      have HNL : Hid _ := X.kept_no t.data.toList
      have HPN : Hid _ := X.parse_noted (X.kept t.data.toList) HNL.out s.data.toList (by rw [len_list]; omega) (by rw [HM.out]; omega)
      generalize X.kept t.data.toList = nl at HM HO HNL HPN
      clear hfull HNL
      have HB0 : Hid (Below w.heap.size w wr) := HB.out
      have HCV : Hid (∀ y : World, Below wr.heap.size wr y → (convert 32 9 u5).run Tryd.prog y = .ok (.string (X.str nl)) y) := fun y hy => conv_own (own_thru HO.out hy)
      obtain ⟨a5, c5, rfl⟩ := own_slice HO.out
      clear HO HB HBs
      go_wp2_with fail
      generalize wr = wo at *
      go_loopg [7, 8, 9] (s.size + 1) (fun r tv nv iv wq => ∃ (k : Nat) (b : Bool) (tt : ByteArray), tv = .string tt ∧ nv = .bool b ∧ iv = .int .i64 k ∧ k ≤ s.size + 1 ∧ s.size + 1 - k ≤ r ∧ Hid (Below wo.heap.size wo wq) ∧ Hid (k ≤ s.size → tt.data.toList ++ X.noted nl b (s.data.toList.drop k) = X.noted nl false s.data.toList) ∧ Hid (k = s.size + 1 → tt = X.str (X.noted nl false s.data.toList)))
      case atStart => exact ⟨0, false, _, rfl, rfl, rfl, Nat.zero_le _, by omega, Below.refl _ _, fun _ => rfl, fun h => by omega⟩
      case round =>
        obtain ⟨k, b, tt, rfl, rfl, rfl, hk, hr, HB, HN, HE⟩ := hrel
        have HWB : Hid (Below w.heap.size w wr) := HB0.out.trans (HB.out.mono HB0.out.size)
        by_cases hlt : k < s.size
        · have hii : (k : Int) ≤ s.size := by omega
          have hii2 : (k : Int) < s.size := by omega
          have hin : 0 ≤ (k : Int) := by omega
          have hne : ((k : Int) == s.size) = false := by simp; omega
          have HD : Hid _ := drop_cons s k hlt
          have HX : Hid (s.extract k (k + 1) = X.str [s[k]]) := ext_one hlt
          have hN := HN.out (by omega)
          rw [HD.out] at hN
          generalize hcc : s[k] = cc at hN HX
          have HNN : Hid _ := hN
          clear hN HN HE
          have HTS : Hid (tt.size ≤ 150000) := by
            show _ ≤ _
            have := congrArg List.length HNN.out
            rw [List.length_append, len_list] at this
            have := HPN.out.2
            omega
          have hts := HTS.out
          have hxz : (X.str nl).size ≤ 100 := by rw [str_size, HM.out]; omega
          have hsz : (s.extract k (k + 1)).size = 1 := by rw [HX.out, str_size]; rfl
          have z1 : ¬ 9223372036854775807 < tt.size + 2 := by omega
          have z2 : ¬ 9223372036854775807 < tt.size + 2 + (X.str nl).size := by omega
          have z3 : ¬ 9223372036854775807 < tt.size + 2 + (X.str nl).size + 1 := by omega
          have z4 : ¬ 9223372036854775807 < tt.size + 1 := by omega
          have z5 : ¬ 9223372036854775807 < tt.size + 1 + 2 := by omega
          have hkk : (k : Int) + 1 ≤ s.size := by omega
          have hcv := HCV.out wr HB.out
          generalize hxs : X.str nl = xs at hcv z2 z3
          have HXS : Hid (X.str nl = xs) := hxs
          generalize hse : s.extract k (k + 1) = se at HX hsz
          clear hxs hxz
          have HC : Hid (s[k] = cc) := hcc
          by_cases h10 : cc = 10
          · subst h10
            have hc10 : ((s[k].toNat : Int) == 10) = true := by rw [hcc]; rfl
            have hc35 : ((s[k].toNat : Int) == 35) = false := by rw [hcc]; rfl
            have hc32 : ((s[k].toNat : Int) == 32) = false := by rw [hcc]; rfl
            clear hcc
            go_wp2_with fail
            go_roundg (s.size + 1 - (k + 1))
            case measure => omega
            case rel =>
              refine ⟨k + 1, false, _, rfl, rfl, by go_num, by omega, Nat.le_refl _, HB.out, fun _ => ?_, fun h => by omega⟩
              have h := HNN.out
              rw [X.noted, if_pos rfl] at h
              rw [← h, HX.out, ← HXS.out]
              simp [app_toList, X.str]
          have hc10 : ((s[k].toNat : Int) == 10) = false := by
            rw [hcc]
            have : cc.toNat ≠ 10 := fun e => h10 (UInt8.toNat_inj.1 e)
            simp; omega
          have H10 : Hid (¬ cc = 10) := h10
          clear h10
          by_cases h35 : cc = 35
          · subst h35
            have hc35 : ((s[k].toNat : Int) == 35) = true := by rw [hcc]; rfl
            have hc32 : ((s[k].toNat : Int) == 32) = false := by rw [hcc]; rfl
            clear hcc
            cases b
            · go_wp2_with fail
              go_roundg (s.size + 1 - (k + 1))
              case measure => omega
              case rel =>
                refine ⟨k + 1, true, _, rfl, rfl, by go_num, by omega, Nat.le_refl _, HB.out, fun _ => ?_, fun h => by omega⟩
                have h := HNN.out
                rw [X.noted, if_neg H10.out, if_neg (by decide)] at h
                rw [← h, HX.out]
                simp [app_toList, X.str]
            · go_wp2_with fail
              go_roundg (s.size + 1 - (k + 1))
              case measure => omega
              case rel =>
                refine ⟨k + 1, true, _, rfl, rfl, by go_num, by omega, Nat.le_refl _, HB.out, fun _ => ?_, fun h => by omega⟩
                have h := HNN.out
                rw [X.noted, if_neg H10.out, if_neg (by decide)] at h
                rw [← h, HX.out]
                simp [app_toList, X.str]
          have hc35 : ((s[k].toNat : Int) == 35) = false := by
            rw [hcc]
            have : cc.toNat ≠ 35 := fun e => h35 (UInt8.toNat_inj.1 e)
            simp; omega
          have H35 : Hid (¬ cc = 35) := h35
          clear h35
          by_cases h32 : cc = 32
          · subst h32
            have hc32 : ((s[k].toNat : Int) == 32) = true := by rw [hcc]; rfl
            clear hcc
            cases b
            · go_wp2_with fail
              go_roundg (s.size + 1 - (k + 1))
              case measure => omega
              case rel =>
                refine ⟨k + 1, false, _, rfl, rfl, by go_num, by omega, Nat.le_refl _, HB.out, fun _ => ?_, fun h => by omega⟩
                have h := HNN.out
                rw [X.noted, if_neg H10.out, if_pos ⟨rfl, rfl⟩] at h
                rw [← h, HX.out]
                simp [app_toList, X.str]
            · go_wp2_with fail
              go_roundg (s.size + 1 - (k + 1))
              case measure => omega
              case rel =>
                refine ⟨k + 1, true, _, rfl, rfl, by go_num, by omega, Nat.le_refl _, HB.out, fun _ => ?_, fun h => by omega⟩
                have h := HNN.out
                rw [X.noted, if_neg H10.out, if_neg (by decide)] at h
                rw [← h, HX.out]
                simp [app_toList, X.str]
          have hc32 : ((s[k].toNat : Int) == 32) = false := by
            rw [hcc]
            have : cc.toNat ≠ 32 := fun e => h32 (UInt8.toNat_inj.1 e)
            simp; omega
          have H32 : Hid (¬ cc = 32) := h32
          clear h32 hcc
          cases b
          · go_wp2_with fail
            go_roundg (s.size + 1 - (k + 1))
            case measure => omega
            case rel =>
              refine ⟨k + 1, false, _, rfl, rfl, by go_num, by omega, Nat.le_refl _, HB.out, fun _ => ?_, fun h => by omega⟩
              have h := HNN.out
              rw [X.noted, if_neg H10.out, if_neg (fun e => H32.out e.1), show (false || decide (cc = 35)) = false by simp [H35.out]] at h
              rw [← h, HX.out]
              simp [app_toList, X.str]
          · go_wp2_with fail
            go_roundg (s.size + 1 - (k + 1))
            case measure => omega
            case rel =>
              refine ⟨k + 1, true, _, rfl, rfl, by go_num, by omega, Nat.le_refl _, HB.out, fun _ => ?_, fun h => by omega⟩
              have h := HNN.out
              rw [X.noted, if_neg H10.out, if_neg (fun e => H32.out e.1), Bool.true_or] at h
              rw [← h, HX.out]
              simp [app_toList, X.str]
        by_cases hle : k = s.size
        · subst hle
          have hne : ((s.size : Int) == s.size) = true := by simp
          have hnl : ¬ (s.size : Int) < s.size := by omega
          have HNN : Hid (tt.data.toList ++ 32 :: 35 :: nl = X.noted nl false s.data.toList) := by
            have := HN.out (Nat.le_refl _)
            rw [List.drop_eq_nil_of_le (by rw [len_list]; exact Nat.le_refl _), X.noted] at this
            exact this
          have HTS : Hid (tt.size ≤ 150000) := by
            show _ ≤ _
            have := congrArg List.length HNN.out
            rw [List.length_append, len_list] at this
            have := HPN.out.2
            omega
          have hts := HTS.out
          have hxz : (X.str nl).size ≤ 100 := by rw [str_size, HM.out]; omega
          have z1 : ¬ 9223372036854775807 < tt.size + 2 := by omega
          have z2 : ¬ 9223372036854775807 < tt.size + 2 + (X.str nl).size := by omega
          have hcv := HCV.out wr HB.out
          generalize hxs : X.str nl = xs at hcv z2
          have HXS : Hid (X.str nl = xs) := hxs
          clear hxs hxz HN HE
          go_wp2_with fail
          go_roundg (s.size + 1 - (s.size + 1))
          case measure => omega
          case rel =>
            refine ⟨s.size + 1, false, _, rfl, rfl, by go_num, by omega, Nat.le_refl _, HB.out, fun h => by omega, fun _ => ?_⟩
            refine bytes_ext' ?_
            rw [str_list, ← HNN.out, ← HXS.out]
            simp [app_toList, X.str]
        obtain rfl : k = s.size + 1 := by omega
        have hii : ¬ ((s.size + 1 : Nat) : Int) ≤ s.size := by omega
        obtain rfl := HE.out rfl
        have HL := HPN.out.2
        have c1 := fun w h => parse_v s hs w h
        have c2 := fun w h => parse_v (X.str (X.noted nl false s.data.toList)) (by rw [str_size]; omega) w h
        rw [str_list, HPN.out.1] at c2
        have HP1 : Hid _ := c1
        have HP2 : Hid _ := c2
        have HTr : Hid (Tab wr) := HT.out.below HWB.out
        generalize X.parse s.data.toList = pa at HP1 HP2
        obtain ⟨al, az⟩ := pa
        generalize X.str (X.noted nl false s.data.toList) = u at *
        have haz : ((az : Int) == az) = true := by simp
        clear c1 c2 HL HPN HN HE HCV HM
        go_wp2_with fail
        refine (HP1.out _ HTr.out).mono ?_
        rintro e w1 ⟨a1, c1, rfl, hv, hb⟩
        have HV1 : Hid (ItsV w1 a1 al.length c1 al) := hv
        have HB1 : Hid (Below w.heap.size w w1) := HWB.out.trans (hb.mono HWB.out.size)
        clear hb hv
        go_wp2_with fail
        refine (HP2.out _ (HT.out.below HB1.out)).mono ?_
        rintro e w2 ⟨a2, c2, rfl, hv, hb⟩
        have hsm := same_any (HV1.out.below hb) hv true (by simp)
        have HB2 : Hid (Below w.heap.size w w2) := HB1.out.trans (hb.mono HB1.out.size)
        clear hb hv
        simp only at hsm
        go_wp2_with fail
        refine hsm.mono ?_
        rintro e w3 ⟨rfl, hb⟩
        have HB3 : Hid (Below w.heap.size w w3) := HB2.out.trans (hb.mono HB2.out.size)
        clear hb hsm
        go_wp2_with fail
        refine (live_any _ (HT.out.below HB3.out)).mono ?_
        rintro e y ⟨rfl, hb⟩
        have HB : Hid _ := hb
        clear hb
        go_wp2_with fail
        go_ret
        exact ⟨rfl, HB3.out.trans (HB.out.mono HB3.out.size)⟩

end Go.Proofs.YteakimepdnojdaaDoor
